import PyProof.Rows.All
import Wide.All
import OpenK.AllK
import Wide.FinOn
import HandS.ForMost
import HandS.Wide
import HandS.WideBits
import HandS.Gcd
import HandS.IsInst
import HandS.Defaults
import HandS.Style
import HandS.Evl
import KE.GoesZip
import KE.GoesMore
import KE.KFromBytes
import HandS.Exc
import HandS.ExcInit
import HandS.ExcField
import HandS.ExcIs
import HandS.ExcValue
import KE.KExcIs
import HandS.TryMany
import HandS.More
import KE.KIntText
import KE.IntTextLaws
import PyProof.StrOps2
import HandS.Codes
import HandS.Call
import HandS.ExcOwn
import HandS.WordsExc
import HandS.TupAny
import KE.SortData
import KE.DataCmp
import HandS.CallLocal
import HandS.CallSlots
import HandS.Text
import HandS.Deep
import HandS.Star
import HandS.Iter
import HandS.Rev
import HandS.Conv
import HandS.Dict
import PySem.Challenge.RW_caseshome_k86_whole_rows_of_frames_cut_a
set_option Elab.async false
set_option linter.all false
set_option maxRecDepth 100000
set_option maxHeartbeats 4000000
/-! Rules of my own over the hand layer: a list that is told by a property alone, calls by keywords alone, // of any great ints. -/
namespace Pre
open PySem PySem.Spec PyProof.Rows L2

/-! ### a list of which a property is known, and no more: whoever changes it keeps the property -/
def LstX (a : Addr) (P : List V → Prop) : HO := .ext fun h => ∃ (xs : List V) (its : List Value) (n : Nat), P xs ∧ xs.length ≤ sizeLine ∧ Vals xs its ∧ h.get? a = some { cls := .type "list", data := .seq its.toArray n }
section
variable {X : Cx} {pins : List (Addr × Obj)} {σ : L2.St} {H : Hp} {s : Shared} {a : Addr} {P : List V → Prop} {xs : List V} {o : HO}
theorem redesc {ob : Obj} (I : Inv X pins σ H s) (mu : Mut (H a)) (hg : s.heap.get? a = some ob) (new : ObjOk X.prog X.w (upd H a o) s.heap a o) : Inv X pins σ (upd H a o) s :=
  I.write (e := a) (h' := s.heap) (t' := s.toks) mu (.inl rfl) (fun _ _ _ q => q) ⟨_, hg⟩ new
theorem open_inv (I : Inv X pins σ H s) (h : H a = some (LstX a P)) : ∃ xs, P xs ∧ xs.length ≤ sizeLine ∧ Inv X pins σ (upd H a (.lst xs)) s := by
  obtain ⟨⟨xs, its, n, p, hz, hv, hg⟩, _, _⟩ := I.hok a _ h
  refine ⟨xs, p, hz, redesc I ?_ hg ⟨hz, its, n, hv, hg⟩⟩
  rw [h]
  exact True.intro
theorem close_inv (I : Inv X pins σ H s) (h : H a = some (.lst xs)) (p : P xs) : Inv X pins σ (upd H a (LstX a P)) s := by
  obtain ⟨hz, its, n, hv, hg⟩ := I.hok a _ h
  refine redesc I ?_ hg ⟨⟨xs, its, n, p, hz, hv, hg⟩, ⟨_, hg⟩, fun h1 h2 ⟨xs, its, n, p, hz, hv, hg⟩ k => ⟨xs, its, n, p, hz, hv, k _ hg⟩⟩
  rw [h]
  exact True.intro
/-- ahead of a body: such a list is looked into -/
def tOpen (t : TS) : TS := fun D σ H => ∃ (a : Addr) (P : List V → Prop), H a = some (LstX a P) ∧ ∀ xs, P xs → xs.length ≤ sizeLine → t D σ (upd H a (.lst xs))
theorem pss_open {body : List Stmt} {t : TS} (h : PSs X body t) : PSs X body (tOpen t) := ⟨fun pins s σ H D I q => by
  obtain ⟨a, P, ha, k⟩ := q
  obtain ⟨xs, p, hz, I1⟩ := open_inv I ha
  exact h.run pins s σ _ D I1 (k xs p hz)⟩
/-- behind a value: the list is shut again -/
def tClose (te : TE) : TE := fun σ H Q => te σ H fun v H1 => ∃ (a : Addr) (P : List V → Prop) (xs : List V), H1 a = some (.lst xs) ∧ P xs ∧ Q v (upd H1 a (LstX a P))
theorem pe_close {e : Expr} {te : TE} (h : PE X e te) : PE X e (tClose te) := ⟨fun pins s σ H Q I q => thn (h.run pins s σ H _ I q) fun v s1 ⟨x, H1, I1, r, a, P, xs, hx, p, q⟩ => ⟨x, _, close_inv I1 hx p, r, q⟩⟩
end

/-! ### calls by keywords alone -/
section
variable {X : Cx} {CX : CXT} {k : Nat} {f : Addr} {fd : FuncData} {ps ks : List Str} {sp : Sp} {E : XK} {x : Str} {p pos : Pos} {kws : List Keyword} {tk : TA} {g : List Value → List Value → List Value} {gV : List V → List V → List V}
theorem pe_callK0 (F : FnOk X.prog X.w X.K X.mg X.base CX k f fd ps sp) (hr : Room k X.A) (hg : Gl X x) (hm : X.mg x = some (.ref f)) (hk : PySem.W.keepIn X.K (.ref f) = true) (hb : KBn X.K fd ps 0 ks g gV) (hx : Passes CX X E) (hkw : PK X kws tk)
    (hall : (backToKw pos (keywordEach kws X.env)).all (·.1.isSome) = true := by rfl) (hks : (backToKw pos (keywordEach kws X.env)).filterMap (·.1) = ks := by rfl) (hdb : (x == ("__debug__" : Str)) = false := by decide)
    (hpl : ((backTo pos (starEach [] X.env)).any (·.1) || (backToKw pos (keywordEach kws X.env)).any (·.1.isNone)) = false := by rfl) :
    PE X (.Call (.Name x p) [] kws pos) (tCallN 0 ks.length sp gV E tNil tk) := by
  refine ⟨fun pins s σ H Q I h => ?_⟩
  refine wpAny_Call_Name_kw (ld_glob I hg hm ?_ hdb)
  refine PySem.W.callWith_KW0 (h₀ := X.base) I.ok.mod.kin hk hall ?_ hpl
  refine thn (hkw.run pos pins s σ H _ I h) fun ws s2 ⟨zs, H2, I2, rz, l1, l2, q2⟩ => ⟨I2.kIn, ?_⟩
  rw [hks]
  exact run_fnN (us := []) (vs := []) F hr hb hx I2 .nil rz rfl l2 q2
end

/-! ### // of any ints (the divisor below 2 ^ 9000 in size) -/
def CDivG (_ j : Int) : Prop := j ≠ 0 ∧ j.natAbs.log2 < 9000
section
variable {X : Cx}
theorem op_fdivG : OpR X (binaryOp .FloorDiv) (rI CDivG fun i j => .int (i.fdiv j)) := opI fun i j _ _ _ _ _ hc q => floordiv_int hc.1 q (.inl (PyProof.noPylong_of_log2 hc.2))
end
theorem div_ok {i j : Int} {b : Nat} (h : j ≠ 0) (hb : j.natAbs < 2 ^ b) (h0 : 0 < b := by decide) (h9 : b ≤ 9000 := by decide) : CDivG i j := ⟨h, Nat.lt_of_lt_of_le (PySem.Flt.log2_lt_of h0 hb) h9⟩

/-! ### what stays -/
abbrev Ex := Evl.Ex
theorem ex_trk {H H1 H' : Hp} {p : Addr} {o o' : HO} (e : Ex H H1) (n : H p = none) : Ex H (upd H1 p o) := Evl.Ex.mut e n
theorem exg {H H' : Hp} {p : Addr} {o : HO} (e : Ex H H') (h : H p = some o) : H' p = some o := e p o h
theorem exl {K : PySem.W.Frag} {H H' : Hp} {a : Addr} {xs : List V} (e : Ex H H') (h : SqL K H a xs) : SqL K H' a xs := Evl.ex_l e h
theorem ext {K : PySem.W.Frag} {H H' : Hp} {a : Addr} {xs : List V} (e : Ex H H') (h : SqT K H a xs) : SqT K H' a xs := Evl.ex_t e h
theorem ex0 {H : Hp} : Ex H H := fun _ _ h => h
theorem exn {H : Hp} {p : Addr} {o : HO} (h : H p = none) : Ex H (upd H p o) := Evl.Ex.new h
theorem decI (a b : Int) : decide (V.int a = V.int b) = decide (a = b) := by
  by_cases h : a = b
  · rw [h]
    simp
  · rw [decide_eq_false h, decide_eq_false (fun q => h (V.int.inj q))]

/-! ### a list or a tuple, walked -/
/-- the value is a list, or a tuple, of these -/
def SqV (K : PySem.W.Frag) (H : Hp) (a : Addr) (xs : List V) : Prop := SqL K H a xs ∨ SqT K H a xs
theorem SqV.ex {K : PySem.W.Frag} {H H' : Hp} {a : Addr} {xs : List V} (h : SqV K H a xs) (e : Ex H H') : SqV K H' a xs := by
  rcases h with h | h
  · exact .inl (exl e h)
  · exact .inr (ext e h)
def iSeq (K : PySem.W.Frag) (tl : TE) : TI := fun σ H R => iList K tl σ H R ∨ iTup K tl σ H R
theorem pi_seq {X : Cx} {tg l : Expr} {tl : TE} (h : PE X l tl) : PI X tg l (iSeq X.K tl) := ⟨fun pins s σ H R I q => q.elim (fun q => (pi_list h).run pins s σ H R I q) (fun q => (pi_tup h).run pins s σ H R I q)⟩
/-- reads to a value, the heap as it is -/
def Rds (te : TE) (σ : L2.St) (H : Hp) (v : V) : Prop := ∀ Q : VK, Q v H → te σ H Q
theorem rds_var {σ : L2.St} {H : Hp} {i : Nat} {v : V} (h : σ[i]? = some (some v)) : Rds (tVar i) σ H v := fun _ q => ⟨v, h, q⟩
section
variable {K : PySem.W.Frag} {σ : L2.St} {H : Hp} {a : Addr} {xs : List V} {tl : TE} {g : TG} {tb : TS} {D : Ends}
/-- what a for asks of its walk -/
abbrev FK (g : TG) (tb : TS) (D : Ends) (σ : L2.St) : It → Hp → Prop := fun J H1 => ∃ W : Nat → Nat → L2.St → Hp → Prop, (∃ m, W 0 m σ H1) ∧ ∀ i m σ H, W i m σ H → (J.stop i H ∧ D.nx σ H) ∨ (J.go i H ∧ ∃ N : L2.St → Hp → Prop, (∀ σ' H', N σ' H' → ∃ m', m' < m ∧ W (i + 1) m' σ' H') ∧ ∀ x H', J.yld i H x H' → g x σ H' fun σ2 H2 => tb { D with nx := N, ct := N, bk := D.nx } σ2 H2)
theorem for_seq (hl : Rds tl σ H (.ref a)) (hx : SqV K H a xs) (Pv : Nat → L2.St → Hp → Prop) (h0 : Pv 0 σ H) (he : ∀ i σ' H', Pv i σ' H' → Ex H H')
    (hs : ∀ i x σ' H', xs[i]? = some x → Pv i σ' H' → g x σ' H' fun σ2 H2 => tb { D with nx := Pv (i + 1), ct := Pv (i + 1), bk := D.nx } σ2 H2) (hd : ∀ σ' H', Pv xs.length σ' H' → D.nx σ' H') :
    iList K tl σ H (FK g tb D σ) ∨ iTup K tl σ H (FK g tb D σ) := by
  rcases hx with hx | hx
  · exact .inl (hl _ ⟨a, rfl, ⟨xs, hx⟩, for_list Pv h0 (fun i σ' H' _ p => exl (he i σ' H' p) hx) hs hd⟩)
  · exact .inr (hl _ ⟨a, rfl, ⟨xs, hx⟩, for_tup Pv h0 (fun i σ' H' _ p => ext (he i σ' H' p) hx) hs hd⟩)
theorem for_lst (hl : Rds tl σ H (.ref a)) (hx : SqL K H a xs) (Pv : Nat → L2.St → Hp → Prop) (h0 : Pv 0 σ H) (he : ∀ i σ' H', Pv i σ' H' → Ex H H')
    (hs : ∀ i x σ' H', xs[i]? = some x → Pv i σ' H' → g x σ' H' fun σ2 H2 => tb { D with nx := Pv (i + 1), ct := Pv (i + 1), bk := D.nx } σ2 H2) (hd : ∀ σ' H', Pv xs.length σ' H' → D.nx σ' H') : tFor (iList K tl) g tb D σ H :=
  hl _ ⟨a, rfl, ⟨xs, hx⟩, for_list Pv h0 (fun i σ' H' _ p => exl (he i σ' H' p) hx) hs hd⟩

/-! ### comprehensions: what each turn gives, by a relation that stays while tuples stay -/
variable {tt : TT} {te : TE} {vs : List Nat} {Q : Addr → Hp → Prop}
/-- tuples stay -/
def ExT (H H' : Hp) : Prop := ∀ p ys, H p = some (.tup ys) → H' p = some (.tup ys)
theorem ExT.of {H H' : Hp} (e : Ex H H') : ExT H H' := fun p ys h => e p _ h
theorem ExT.lst {H : Hp} {p : Addr} {ys zs : List V} (h : H p = some (.lst ys)) : ExT H (upd H p (.lst zs)) := fun q us hq => by
  rw [upd_ne (ne_of hq h (by intro z; cases z))]
  exact hq
theorem ExT.trans {H H1 H2 : Hp} (a : ExT H H1) (b : ExT H1 H2) : ExT H H2 := fun p ys h => b p ys (a p ys h)
def Stays (R : Nat → V → Hp → Prop) : Prop := ∀ i y H H', ExT H H' → R i y H → R i y H'
/-- behind i turns: the list at Dl; if all turns give, one item each -/
structure Acc (H : Hp) (R : Nat → V → Hp → Prop) (all : Bool) (Dl : Addr) (i : Nat) (H' : Hp) : Prop where
  new : H Dl = none
  ex : Ex H H'
  at_ : ∃ ys : List V, H' Dl = some (.lst ys) ∧ ys.length ≤ i ∧ (all = true → ys.length = i) ∧ (∀ y, y ∈ ys → ∃ j, j < i ∧ R j y H') ∧ (all = true → ∀ j y, ys[j]? = some y → R j y H')
theorem Acc.start {R : Nat → V → Hp → Prop} {all : Bool} {Dl : Addr} (h : H Dl = none) : Acc H R all Dl 0 (upd H Dl (.lst [])) := by
  refine ⟨h, exn h, [], upd_same, Nat.le_refl _, fun _ => rfl, ?_, ?_⟩
  · intro y hy
    cases hy
  · intro _ j y hy
    cases hy
theorem Acc.give {R : Nat → V → Hp → Prop} {all : Bool} {Dl : Addr} {i : Nat} {H1 H4 : Hp} {y : V} (st : Stays R) (A : Acc H R all Dl i H1) (e : Ex H1 H4) (r : R i y H4) (hi : i < 1000) :
    ∃ acc, H4 Dl = some (.lst acc) ∧ acc.length < sizeLine ∧ Acc H R all Dl (i + 1) (upd H4 Dl (.lst (acc ++ [y]))) := by
  obtain ⟨new, ex, ys, h1, h2, h3, h4, h5⟩ := A
  have hD := e _ _ h1
  have x1 : ExT H4 (upd H4 Dl (.lst (ys ++ [y]))) := ExT.lst hD
  have x2 : ExT H1 (upd H4 Dl (.lst (ys ++ [y]))) := (ExT.of e).trans x1
  refine ⟨ys, hD, small1000 (by omega), new, Evl.Ex.mut (ex.trans e) new, ys ++ [y], upd_same, ?_, ?_, ?_, ?_⟩
  · rw [List.length_append]
    show ys.length + 1 ≤ i + 1
    omega
  · intro ha
    have := h3 ha
    rw [List.length_append]
    show ys.length + 1 = i + 1
    omega
  · intro z hz
    rcases List.mem_append.mp hz with q | q
    · obtain ⟨j, lt, rj⟩ := h4 z q
      exact ⟨j, by omega, st j z _ _ x2 rj⟩
    · rw [List.mem_singleton.mp q]
      exact ⟨i, by omega, st i y _ _ x1 r⟩
  · intro ha j z hz
    have hl := h3 ha
    by_cases hj : j < ys.length
    · rw [List.getElem?_append_left hj] at hz
      exact st j z _ _ x2 (h5 ha j z hz)
    · rw [List.getElem?_append_right (by omega)] at hz
      have hj0 : j - ys.length = 0 := by
        cases hq : j - ys.length with
        | zero => rfl
        | succ m =>
          rw [hq] at hz
          simp at hz
      rw [hj0] at hz
      have ez : y = z := Option.some.inj hz
      have ej : j = i := by omega
      rw [← ez, ej]
      exact st i y _ _ x1 r
theorem Acc.skip {R : Nat → V → Hp → Prop} {Dl : Addr} {i : Nat} {H1 H4 : Hp} (st : Stays R) (A : Acc H R false Dl i H1) (e : Ex H1 H4) : Acc H R false Dl (i + 1) H4 := by
  obtain ⟨new, ex, ys, h1, h2, h3, h4, h5⟩ := A
  refine ⟨new, ex.trans e, ys, e _ _ h1, by omega, fun q => (Bool.false_ne_true q).elim, ?_, fun q => (Bool.false_ne_true q).elim⟩
  intro z hz
  obtain ⟨j, lt, rj⟩ := h4 z hz
  exact ⟨j, by omega, st j z _ _ (ExT.of e) rj⟩
/-- what a comprehension has made -/
def Made (H : Hp) (R : Nat → V → Hp → Prop) (n : Nat) (Q : Addr → Hp → Prop) : Prop := ∀ (Dl : Addr) (H' : Hp) (ys : List V), H Dl = none → Ex H H' → H' Dl = some (.lst ys) → ys.length = n → (∀ (j : Nat) y, ys[j]? = some y → R j y H') → Q Dl H'
def Kept (H : Hp) (R : Nat → V → Hp → Prop) (n : Nat) (Q : Addr → Hp → Prop) : Prop := ∀ (Dl : Addr) (H' : Hp) (ys : List V), H Dl = none → Ex H H' → H' Dl = some (.lst ys) → ys.length ≤ n → (∀ y, y ∈ ys → ∃ j, j < n ∧ R j y H') → Q Dl H'
theorem Acc.made {R : Nat → V → Hp → Prop} {Dl : Addr} {n : Nat} {H1 : Hp} (A : Acc H R true Dl n H1) (k : Made H R n Q) : Q Dl H1 := by
  obtain ⟨new, ex, ys, h1, h2, h3, h4, h5⟩ := A
  exact k Dl H1 ys new ex h1 (h3 rfl) (h5 rfl)
theorem Acc.kept {R : Nat → V → Hp → Prop} {Dl : Addr} {n : Nat} {H1 : Hp} (A : Acc H R false Dl n H1) (k : Kept H R n Q) : Q Dl H1 := by
  obtain ⟨new, ex, ys, h1, h2, h3, h4, h5⟩ := A
  exact k Dl H1 ys new ex h1 h2 h4
theorem if_t {A B : Prop} : (if (true = true) then A else B) = A := if_pos rfl
/-- a turn that gives, told for any wish Y; a turn with a test, for any wishes Y and N -/
def Gives (g : TG) (te : TE) (vs : List Nat) (σ : L2.St) (x : V) (H1 : Hp) (R : V → Hp → Prop) : Prop :=
  ∀ Y : VK, (∀ y H4, Ex H1 H4 → R y H4 → Y y H4) → g x (wipe σ vs) H1 fun σ2 H2 => wipe σ2 vs = wipe σ vs ∧ te σ2 H2 Y
def Tests (g : TG) (tt : TT) (te : TE) (vs : List Nat) (σ : L2.St) (x : V) (H1 : Hp) (R : V → Hp → Prop) : Prop :=
  ∀ (Y : VK) (N : Hp → Prop), (∀ y H4, Ex H1 H4 → R y H4 → Y y H4) → (∀ H3, Ex H1 H3 → N H3) → g x (wipe σ vs) H1 fun σ2 H2 => wipe σ2 vs = wipe σ vs ∧ tt σ2 H2 fun b H3 => if b = true then te σ2 H3 Y else N H3
theorem Gives.tests {x : V} {H1 : Hp} {R : V → Hp → Prop} (h : Gives g te vs σ x H1 R) : Tests g tYes te vs σ x H1 R := fun Y N hy hn => by
  have e : (fun (σ2 : L2.St) (H2 : Hp) => wipe σ2 vs = wipe σ vs ∧ tYes σ2 H2 fun b H3 => if b = true then te σ2 H3 Y else N H3) = fun σ2 H2 => wipe σ2 vs = wipe σ vs ∧ te σ2 H2 Y := by
    funext σ2 H2
    exact congrArg (And (wipe σ2 vs = wipe σ vs)) (if_t (A := te σ2 H2 Y) (B := N H2))
  rw [e]
  exact h Y hy
theorem turn_of {R : Nat → V → Hp → Prop} {all : Bool} {Dl : Addr} {i : Nat} {x : V} {H1 : Hp} (st : Stays R) (A : Acc H R all Dl i H1) (hi : i < 1000) (hs : Tests g tt te vs σ x H1 (R i)) (hn : all = true → tt = tYes) :
    g x (wipe σ vs) H1 fun σ2 H2 => wipe σ2 vs = wipe σ vs ∧ tt σ2 H2 fun b H3 => if b = true then te σ2 H3 fun y H4 => ∃ acc, H4 Dl = some (.lst acc) ∧ acc.length < sizeLine ∧ Acc H R all Dl (i + 1) (upd H4 Dl (.lst (acc ++ [y]))) else Acc H R all Dl (i + 1) H3 := by
  cases all with
  | false => exact hs _ _ (fun y H4 e r => A.give st e r hi) (fun H3 e => A.skip st e)
  | true =>
    have ht := hn rfl
    subst ht
    have q := hs (fun y H4 => ∃ acc, H4 Dl = some (.lst acc) ∧ acc.length < sizeLine ∧ Acc H R true Dl (i + 1) (upd H4 Dl (.lst (acc ++ [y])))) (fun _ => True) (fun y H4 e r => A.give st e r hi) (fun _ _ => True.intro)
    have e : ∀ N : Hp → Prop, (fun (σ2 : L2.St) (H2 : Hp) => wipe σ2 vs = wipe σ vs ∧ tYes σ2 H2 fun b H3 => if b = true then te σ2 H3 fun y H4 => ∃ acc, H4 Dl = some (.lst acc) ∧ acc.length < sizeLine ∧ Acc H R true Dl (i + 1) (upd H4 Dl (.lst (acc ++ [y]))) else N H3) = fun σ2 H2 => wipe σ2 vs = wipe σ vs ∧ te σ2 H2 fun y H4 => ∃ acc, H4 Dl = some (.lst acc) ∧ acc.length < sizeLine ∧ Acc H R true Dl (i + 1) (upd H4 Dl (.lst (acc ++ [y]))) := fun N => by
      funext σ2 H2
      exact congrArg (And (wipe σ2 vs = wipe σ vs)) (if_t (B := N H2))
    rw [e]
    rw [e] at q
    exact q
section
variable {R : Nat → V → Hp → Prop}
/-- what is wanted of the list made at Dl -/
def MadeAt (H : Hp) (R : Nat → V → Hp → Prop) (n : Nat) (Dl : Addr) (Qd : Hp → Prop) : Prop := ∀ (H' : Hp) (ys : List V), Ex H H' → H' Dl = some (.lst ys) → ys.length = n → (∀ (j : Nat) y, ys[j]? = some y → R j y H') → Qd H'
def KeptAt (H : Hp) (R : Nat → V → Hp → Prop) (n : Nat) (Dl : Addr) (Qd : Hp → Prop) : Prop := ∀ (H' : Hp) (ys : List V), Ex H H' → H' Dl = some (.lst ys) → ys.length ≤ n → (∀ y, y ∈ ys → ∃ j, j < n ∧ R j y H') → Qd H'
theorem Acc.madeAt {R : Nat → V → Hp → Prop} {Dl : Addr} {n : Nat} {H1 : Hp} {Qd : Hp → Prop} (A : Acc H R true Dl n H1) (k : MadeAt H R n Dl Qd) : Qd H1 := by
  obtain ⟨new, ex, ys, h1, h2, h3, h4, h5⟩ := A
  exact k H1 ys ex h1 (h3 rfl) (h5 rfl)
theorem Acc.keptAt {R : Nat → V → Hp → Prop} {Dl : Addr} {n : Nat} {H1 : Hp} {Qd : Hp → Prop} (A : Acc H R false Dl n H1) (k : KeptAt H R n Dl Qd) : Qd H1 := by
  obtain ⟨new, ex, ys, h1, h2, h3, h4, h5⟩ := A
  exact k H1 ys ex h1 h2 h4
variable {Qd : Hp → Prop}
def made_range {lo : Int} {n : Nat} (st : Stays R) (hn : n ≤ 1000) (hs : ∀ i H1, i < n → Ex H H1 → Gives g te vs σ (.int (lo + i)) H1 (R i)) {Dl : Addr} (hD : H Dl = none) (k : MadeAt H R n Dl Qd) :=
  lc_range (lo := lo) (n := n) (g := g) (tt := tYes) (te := te) (vs := vs) (σ := σ) (H1 := H) (D := Dl) (Qd := Qd) (Acc H R true Dl) (Acc.start hD) (fun i H1 hi A => turn_of st A (by omega) (hs i H1 hi A.ex).tests fun _ => rfl) (fun _ A => A.madeAt k)
def made_list (st : Stays R) (hx : SqL K H a xs) (hn : xs.length ≤ 1000) (hs : ∀ i x H1, xs[i]? = some x → Ex H H1 → Gives g te vs σ x H1 (R i)) {Dl : Addr} (hD : H Dl = none) (k : MadeAt H R xs.length Dl Qd) :=
  lc_list (K := K) (a := a) (xs := xs) (g := g) (tt := tYes) (te := te) (vs := vs) (σ := σ) (H1 := H) (D := Dl) (Qd := Qd) (Acc H R true Dl) (Acc.start hD) (fun _ _ _ A => exl A.ex hx) (fun i x H1 hi A => turn_of st A (by have := (List.getElem?_eq_some_iff.mp hi).1; omega) (hs i x H1 hi A.ex).tests fun _ => rfl) (fun _ A => A.madeAt k)
def made_tup (st : Stays R) (hx : SqT K H a xs) (hn : xs.length ≤ 1000) (hs : ∀ i x H1, xs[i]? = some x → Ex H H1 → Gives g te vs σ x H1 (R i)) {Dl : Addr} (hD : H Dl = none) (k : MadeAt H R xs.length Dl Qd) :=
  lc_tup (K := K) (a := a) (xs := xs) (g := g) (tt := tYes) (te := te) (vs := vs) (σ := σ) (H1 := H) (D := Dl) (Qd := Qd) (Acc H R true Dl) (Acc.start hD) (fun _ _ _ A => ext A.ex hx) (fun i x H1 hi A => turn_of st A (by have := (List.getElem?_eq_some_iff.mp hi).1; omega) (hs i x H1 hi A.ex).tests fun _ => rfl) (fun _ A => A.madeAt k)
def kept_range {lo : Int} {n : Nat} (st : Stays R) (hn : n ≤ 1000) (hs : ∀ i H1, i < n → Ex H H1 → Tests g tt te vs σ (.int (lo + i)) H1 (R i)) {Dl : Addr} (hD : H Dl = none) (k : KeptAt H R n Dl Qd) :=
  lc_range (lo := lo) (n := n) (g := g) (tt := tt) (te := te) (vs := vs) (σ := σ) (H1 := H) (D := Dl) (Qd := Qd) (Acc H R false Dl) (Acc.start hD) (fun i H1 hi A => turn_of st A (by omega) (hs i H1 hi A.ex) fun q => (Bool.false_ne_true q).elim) (fun _ A => A.keptAt k)
def kept_list (st : Stays R) (hx : SqL K H a xs) (hn : xs.length ≤ 1000) (hs : ∀ i x H1, xs[i]? = some x → Ex H H1 → Tests g tt te vs σ x H1 (R i)) {Dl : Addr} (hD : H Dl = none) (k : KeptAt H R xs.length Dl Qd) :=
  lc_list (K := K) (a := a) (xs := xs) (g := g) (tt := tt) (te := te) (vs := vs) (σ := σ) (H1 := H) (D := Dl) (Qd := Qd) (Acc H R false Dl) (Acc.start hD) (fun _ _ _ A => exl A.ex hx) (fun i x H1 hi A => turn_of st A (by have := (List.getElem?_eq_some_iff.mp hi).1; omega) (hs i x H1 hi A.ex) fun q => (Bool.false_ne_true q).elim) (fun _ A => A.keptAt k)
/-- what a comprehension asks of its walk -/
abbrev LK (g : TG) (te : TE) (vs : List Nat) (σ : L2.St) (Q : Addr → Hp → Prop) : It → Hp → Prop := fun J H1 => ∀ D, H1 D = none → ∃ W : Nat → Nat → Hp → Prop, (∃ m, W 0 m (upd H1 D (.lst []))) ∧ ∀ i m H, W i m H →
  (J.stop i H ∧ Q D H) ∨ (J.go i H ∧ ∃ Nx : Hp → Prop, (∀ H', Nx H' → ∃ m', m' < m ∧ W (i + 1) m' H') ∧ ∀ x H', J.yld i H x H' → g x (wipe σ vs) H' fun σ2 H2 => wipe σ2 vs = wipe σ vs ∧ tYes σ2 H2 fun b H3 =>
    if b = true then te σ2 H3 fun y H4 => ∃ acc, H4 D = some (.lst acc) ∧ acc.length < sizeLine ∧ Nx (upd H4 D (.lst (acc ++ [y]))) else Nx H3)
theorem made_seq {tl : TE} (hl : Rds tl σ H (.ref a)) (st : Stays R) (hx : SqV K H a xs) (hn : xs.length ≤ 1000) (hs : ∀ i x H1, xs[i]? = some x → Ex H H1 → Gives g te vs σ x H1 (R i)) (k : Made H R xs.length Q) :
    iList K tl σ H (LK g te vs σ Q) ∨ iTup K tl σ H (LK g te vs σ Q) := by
  rcases hx with hx | hx
  · exact .inl (hl _ ⟨a, rfl, ⟨xs, hx⟩, fun Dl hD => made_list st hx hn hs hD fun H' ys e h1 h2 h3 => k Dl H' ys hD e h1 h2 h3⟩)
  · exact .inr (hl _ ⟨a, rfl, ⟨xs, hx⟩, fun Dl hD => made_tup st hx hn hs hD fun H' ys e h1 h2 h3 => k Dl H' ys hD e h1 h2 h3⟩)
end
end

/-! ### sizes -/
/-- the size of an int -/
def Sz (n : Nat) (i : Int) : Prop := i.natAbs < 2 ^ n
theorem Sz.mono {m n : Nat} {i : Int} (h : Sz m i) (k : m ≤ n) : Sz n i := Nat.lt_of_lt_of_le h (Nat.pow_le_pow_right (by decide) k)
theorem Sz.mul {m n : Nat} {i j : Int} (h : Sz m i) (k : Sz n j) : Sz (m + n) (i * j) := by
  unfold Sz
  rw [Int.natAbs_mul, Nat.pow_add]
  exact Nat.mul_lt_mul'' h k
theorem Sz.add {m n : Nat} {i j : Int} (h : Sz m i) (k : Sz n j) : Sz (max m n + 1) (i + j) := by
  have e : (i + j).natAbs ≤ i.natAbs + j.natAbs := Int.natAbs_add_le i j
  have h' : i.natAbs < 2 ^ (max m n) := h.mono (Nat.le_max_left _ _)
  have k' : j.natAbs < 2 ^ (max m n) := k.mono (Nat.le_max_right _ _)
  unfold Sz
  rw [Nat.pow_succ]
  omega
theorem Sz.neg {n : Nat} {i : Int} (h : Sz n i) : Sz n (-i) := by
  unfold Sz
  rw [Int.natAbs_neg]
  exact h
theorem Sz.sub {m n : Nat} {i j : Int} (h : Sz m i) (k : Sz n j) : Sz (max m n + 1) (i - j) := by
  have e : i - j = i + -j := Int.sub_eq_add_neg
  rw [e]
  exact h.add k.neg
theorem Sz.le {n : Nat} {i j : Int} (h : Sz n j) (k : i.natAbs ≤ j.natAbs) : Sz n i := Nat.lt_of_le_of_lt k h
theorem Sz.lt {n : Nat} {i : Int} {b : Int} (h0 : 0 ≤ i) (h : i < b) (hb : b ≤ ((2 ^ n : Nat) : Int)) : Sz n i := by
  unfold Sz
  omega
theorem mul_ok {m n : Nat} {i j : Int} (h : Sz m i) (k : Sz n j) (h0 : 0 < m := by decide) (h1 : 0 < n := by decide) (hm : m + n ≤ 1000000 := by decide) : CMulW i j := wide_mul h k h0 h1 hm
theorem mul_okE {m n : Nat} {i j : Int} (h : Sz m i) (k : Sz n j) (h0 : 0 < m) (h1 : 0 < n) (hm : m + n ≤ 1000000) : CMulW i j := wide_mul h k h0 h1 hm
theorem fdiv_okE {n : Nat} {i j : Int} (h : j ≠ 0) (k : Sz n j) (h0 : 0 < n) (hn : n ≤ 9000) : CDivG i j := div_ok h k h0 hn
theorem fdiv_ok {n : Nat} {i j : Int} (h : j ≠ 0) (k : Sz n j) (h0 : 0 < n := by decide) (hn : n ≤ 9000 := by decide) : CDivG i j := div_ok h k h0 hn

/-! ### draws: a list of a list of numbers and a number -/
def DIn : List V → Prop := fun xs => ∃ ns : List Int, xs = ns.map V.int ∧ (∀ n, n ∈ ns → 0 ≤ n) ∧ ns.length ≤ 63
def DOut (l : Addr) : List V → Prop := fun xs => ∃ b : Int, xs = [.ref l, .int b] ∧ 0 ≤ b ∧ b < 2147483647
def DrawsAt (H : Hp) (d : Addr) : Prop := ∃ l, d ≠ l ∧ H d = some (LstX d (DOut l)) ∧ H l = some (LstX l DIn)
theorem DrawsAt.ex {H H' : Hp} {d : Addr} (h : DrawsAt H d) (e : Ex H H') : DrawsAt H' d := by
  obtain ⟨l, n, h1, h2⟩ := h
  exact ⟨l, n, e _ _ h1, e _ _ h2⟩
/-- inside: the outer list, the inner one, all else as it was -/
structure Sd (H : Hp) (d l : Addr) (ns : List Int) (b : Int) (H1 : Hp) : Prop where
  hd : H1 d = some (.lst [.ref l, .int b])
  hl : H1 l = some (.lst (ns.map V.int))
  b0 : 0 ≤ b
  b1 : b < 2147483647
  n0 : ∀ n, n ∈ ns → 0 ≤ n
  nl : ns.length ≤ 63
  kp : ∀ x o, H x = some o → x ≠ d → x ≠ l → H1 x = some o
theorem Sd.nil {H : Hp} {d l : Addr} (h : DrawsAt H d) : True := True.intro
theorem Sd.new {H H1 : Hp} {d l : Addr} {ns : List Int} {b : Int} {p : Addr} {o : HO} (S : Sd H d l ns b H1) (np : H1 p = none) : Sd H d l ns b (upd H1 p o) := by
  obtain ⟨hd, hl, b0, b1, n0, nl, kp⟩ := S
  exact ⟨exn np _ _ hd, exn np _ _ hl, b0, b1, n0, nl, fun x o h a b => exn np _ _ (kp x o h a b)⟩
theorem Sd.inner {H H1 : Hp} {d l : Addr} {ns ms : List Int} {b : Int} (S : Sd H d l ns b H1) (hdl : d ≠ l) (m0 : ∀ n, n ∈ ms → 0 ≤ n) (ml : ms.length ≤ 63) : Sd H d l ms b (upd H1 l (.lst (ms.map V.int))) := by
  obtain ⟨hd, hl, b0, b1, n0, nl, kp⟩ := S
  exact ⟨by rw [upd_ne hdl]; exact hd, upd_same, b0, b1, m0, ml, fun x o h a b => by rw [upd_ne b]; exact kp x o h a b⟩
theorem Sd.outer {H H1 : Hp} {d l : Addr} {ns : List Int} {b c : Int} (S : Sd H d l ns b H1) (hdl : d ≠ l) (c0 : 0 ≤ c) (c1 : c < 2147483647) : Sd H d l ns c (upd H1 d (.lst [.ref l, .int c])) := by
  obtain ⟨hd, hl, b0, b1, n0, nl, kp⟩ := S
  exact ⟨upd_same, by rw [upd_ne hdl.symm]; exact hl, c0, c1, n0, nl, fun x o h a b => by rw [upd_ne a]; exact kp x o h a b⟩
/-- shut again: nothing is seen to have changed -/
theorem Sd.shut {H H1 : Hp} {d l : Addr} {ns : List Int} {b : Int} (S : Sd H d l ns b H1) (hdl : d ≠ l) (h1 : H d = some (LstX d (DOut l))) (h2 : H l = some (LstX l DIn)) : Ex H (upd (upd H1 l (LstX l DIn)) d (LstX d (DOut l))) := fun x o h => by
  by_cases e : x = d
  · subst e
    rw [upd_same, ← h, h1]
  · rw [upd_ne e]
    by_cases e2 : x = l
    · subst e2
      rw [upd_same, ← h, h2]
    · rw [upd_ne e2]
      exact S.kp x o h e e2
theorem DIn.of {ns : List Int} (n0 : ∀ n, n ∈ ns → 0 ≤ n) (nl : ns.length ≤ 63) : DIn (ns.map V.int) := ⟨ns, rfl, n0, nl⟩

/-! ### data: numbers -/
theorem lay_ints : ∀ ns : List Int, PyData.canLayAll0 (ns.map PyData.int) = true
  | [] => by simp [PyData.canLayAll0]
  | n :: ns => by simp [PyData.canLayAll0, PyData.canLay0, lay_ints ns]
theorem depth_ints : ∀ ns : List Int, PyData.depthAll (ns.map PyData.int) = 0
  | [] => by simp [PyData.depthAll]
  | n :: ns => by simp [PyData.depthAll, PyData.depth, depth_ints ns]
theorem shaped_ints (ns : List Int) : SeqAt.shaped (.list (ns.map PyData.int)) = true := by
  show (PyData.canLay0 (.list (ns.map PyData.int)) && decide (PyData.depth (.list (ns.map PyData.int)) ≤ 64)) = true
  rw [Bool.and_eq_true]
  refine ⟨by simp only [PyData.canLay0]; exact lay_ints ns, decide_eq_true ?_⟩
  simp only [PyData.depth, depth_ints ns]
  decide
theorem dp_ints {K : PySem.W.Frag} {H : Hp} : ∀ ns : List Int, DpAll K H (ns.map V.int) (ns.map PyData.int)
  | [] => .nil
  | n :: ns => .cons (.int n) (dp_ints ns)
theorem eqv_nil (ns : List Int) : PyData.eqv (.list (ns.map PyData.int)) (.list []) = ns.isEmpty := by
  cases ns <;> simp [PyData.eqv, PyData.eqvAll]
theorem eqvAll_ints : ∀ ns : List Int, PyData.eqvAll (ns.map PyData.int) (ns.map PyData.int) = true
  | [] => by simp [PyData.eqvAll]
  | n :: ns => by simp [PyData.eqvAll, PyData.eqv, eqvAll_ints ns]
theorem eqv_ints (ns : List Int) : PyData.eqv (.list (ns.map PyData.int)) (.list (ns.map PyData.int)) = true := by
  simp only [PyData.eqv]
  exact eqvAll_ints ns
theorem atI0 {x : V} {xs : List V} : atI (x :: xs) 0 = some x := atI_nat (j := 0) rfl
theorem last_int {ns : List Int} (h : ns ≠ []) : ∃ n, n ∈ ns ∧ atI (ns.map V.int) (-1) = some (.int n) ∧ (ns.map V.int)[(ns.map V.int).length - 1]? = some (.int n) ∧ ns = ns.dropLast ++ [n] := by
  have e : ns = ns.dropLast ++ [ns.getLast h] := (List.dropLast_concat_getLast h).symm
  refine ⟨ns.getLast h, List.getLast_mem h, ?_, ?_, e⟩
  · have e2 : ns.map V.int = ns.dropLast.map V.int ++ [V.int (ns.getLast h)] := by
      rw [← List.map_singleton, ← List.map_append, ← e]
    rw [e2]
    exact atI_last _ _
  · rw [List.length_map, List.getElem?_map, ← List.getLast?_eq_getElem?, List.getLast?_eq_getLast h]
    rfl
/-! ### isinstance -/
theorem kit_t {K : PySem.W.Frag} {H : Hp} {x : V} {t : String} {Q : VK} (ty : TyOf K H x (.type t)) (n : String) (b : Bool) (h : kitB t n = some b) (q : Q (.bl b) H) : rIsi K [x, .ty n] H Q :=
  ⟨x, .ty n, .type t, .type n, b, rfl, .ty n, .base ty, kit_ty h, q⟩
/-! ### data: pairs of numbers in tuples -/
def pairD (f : Int × Int) : PyData := .tuple [.int f.1, .int f.2]
theorem lay_pairs : ∀ fs : List (Int × Int), PyData.canLayAll0 (fs.map pairD) = true
  | [] => by simp [PyData.canLayAll0]
  | f :: fs => by simp [PyData.canLayAll0, PyData.canLay0, pairD, lay_pairs fs]
theorem depth_pairs : ∀ fs : List (Int × Int), PyData.depthAll (fs.map pairD) ≤ 1
  | [] => by simp [PyData.depthAll]
  | f :: fs => by
    have h := depth_pairs fs
    simp only [List.map_cons, PyData.depthAll, pairD, PyData.depth]
    omega
theorem shaped_pairs (fs : List (Int × Int)) : SeqAt.shaped (.list (fs.map pairD)) = true := by
  have h := depth_pairs fs
  have h2 : PyData.depth (.list (fs.map pairD)) ≤ 64 := by
    simp only [PyData.depth]
    omega
  show (PyData.canLay0 (.list (fs.map pairD)) && decide (PyData.depth (.list (fs.map pairD)) ≤ 64)) = true
  rw [Bool.and_eq_true]
  exact ⟨by simp only [PyData.canLay0]; exact lay_pairs fs, decide_eq_true h2⟩
theorem eqvAll_pairs : ∀ fs : List (Int × Int), PyData.eqvAll (fs.map pairD) (fs.map pairD) = true
  | [] => by simp [PyData.eqvAll]
  | f :: fs => by simp [PyData.eqvAll, PyData.eqv, pairD, eqvAll_pairs fs]
theorem eqv_pairs (fs : List (Int × Int)) : PyData.eqv (.list (fs.map pairD)) (.list (fs.map pairD)) = true := by
  simp only [PyData.eqv]
  exact eqvAll_pairs fs
theorem dp_pairs {K : PySem.W.Frag} {H : Hp} : ∀ {xs : List V} {fs : List (Int × Int)}, xs.length = fs.length → (∀ (i : Nat) x f, xs[i]? = some x → fs[i]? = some f → ∃ p, x = .ref p ∧ H p = some (.tup [.int f.1, .int f.2])) → DpAll K H xs (fs.map pairD)
  | [], [], _, _ => .nil
  | x :: xs, f :: fs, hl, h => by
    obtain ⟨p, e, hp⟩ := h 0 x f rfl rfl
    subst e
    exact .cons (.tup (SqT.of hp) (.cons (.int _) (.cons (.int _) .nil))) (dp_pairs (Nat.succ.inj hl) fun i x g a b => h (i + 1) x g a b)
/-! ### slices from and to the last one -/
theorem cut_init (xs : List V) : cutV xs none (some (-1)) = xs.dropLast := by
  unfold cutV
  rw [HT.sIx_none]
  have e : HT.sIx xs.length xs.length (some (-1)) = xs.length - 1 := by
    show (if (-1 : Int) < 0 then ((-1 : Int) + (xs.length : Int)).toNat else min (-1 : Int).toNat xs.length) = xs.length - 1
    rw [if_pos (by decide)]
    omega
  rw [e, List.drop_zero, Nat.sub_zero, List.dropLast_eq_take]
theorem cut_last {xs : List V} {x : V} : cutV (xs ++ [x]) (some (-1)) none = [x] := by
  unfold cutV
  rw [HT.sIx_none]
  have e : HT.sIx (xs ++ [x]).length 0 (some (-1)) = xs.length := by
    show (if (-1 : Int) < 0 then ((-1 : Int) + ((xs ++ [x]).length : Int)).toNat else min (-1 : Int).toNat (xs ++ [x]).length) = xs.length
    rw [if_pos (by decide), List.length_append]
    show ((-1 : Int) + ((xs.length + 1 : Nat) : Int)).toNat = xs.length
    omega
  rw [e, List.drop_append_of_le_length (Nat.le_refl _), List.drop_length, List.length_append]
  show List.take (xs.length + 1 - xs.length) ([] ++ [x]) = [x]
  rw [Nat.add_sub_cancel_left]
  rfl
end Pre
set_option maxRecDepth 100000
set_option maxHeartbeats 4000000
/-! zip over two sequences, each of them a list or a tuple (k: true a list). -/
namespace Pre
open PySem PySem.Spec PyProof.Rows L2
def SqB (k : Bool) (K : PySem.W.Frag) (H : Hp) (a : Addr) (xs : List V) : Prop := if k = true then SqL K H a xs else SqT K H a xs
def PlB (k : Bool) (h : Heap) (a : Addr) (its : Array Value) : Prop := if k = true then h.IsList a its else h.IsTuple a its
def ItB (k : Bool) (h : Heap) (it a : Addr) (i : Nat) : Prop := if k = true then h.IsListIter it a i else h.IsTupleIter it a i
def obB (k : Bool) (a : Addr) : Obj := { cls := .type (if k = true then "list_iterator" else "tuple_iterator"), data := .fields #[.ref a, .int 0 0] }
theorem SqB.ex {k : Bool} {K : PySem.W.Frag} {H H' : Hp} {a : Addr} {xs : List V} (h : SqB k K H a xs) (e : Ex H H') : SqB k K H' a xs := by
  cases k
  · exact ext (K := K) e h
  · exact exl (K := K) e h
theorem sqB_of {K : PySem.W.Frag} {H : Hp} {a : Addr} {xs : List V} (h : SqV K H a xs) : ∃ k, SqB k K H a xs := by
  rcases h with h | h
  · exact ⟨true, h⟩
  · exact ⟨false, h⟩
section
variable {X : Cx} {pins : List (Addr × Obj)} {σ : L2.St} {H : Hp} {s : Shared} {k : Bool} {a : Addr} {xs ys : List V}
theorem sqB_pl (I : Inv X pins σ H s) (h : SqB k X.K H a xs) : ∃ its : List Value, Vals xs its ∧ PlB k s.heap a its.toArray ∧ a < s.heap.objs.size := by
  cases k
  · obtain ⟨its, r, p, _⟩ := I.tuple (show SqT X.K H a xs from h)
    exact ⟨its, r, p, p.lt⟩
  · obtain ⟨its, r, p, _⟩ := I.list (show SqL X.K H a xs from h)
    exact ⟨its, r, p.isList, p.lt⟩
theorem sqB_inj (I : Inv X pins σ H s) (h : SqB k X.K H a xs) (h' : SqB k X.K H a ys) : xs = ys := by
  cases k
  · exact I.tuple_inj (show SqT X.K H a xs from h) h'
  · exact I.list_inj (show SqL X.K H a xs from h) h'
end
theorem drawsB {prog : Program} {w : World} {A : Around} (hh : A.handled = none) (k : Bool) (it a : Addr) (hne : a ≠ it) (its : Array Value) :
    Draws prog w A it [it, a] its.size (fun i v => its[i]? = some v) (fun i h => ItB k h it a i ∧ PlB k h a its) := by
  cases k
  · exact Draws.tuple hh it a hne its
  · exact Draws.list hh it a hne its
theorem beginsB (k : Bool) (a : Addr) (its : Array Value) : Begins (.ref a) (obB k a) (fun h => PlB k h a its) := by
  cases k
  · exact begins_tuple a its
  · exact begins_list a its
theorem ItB.start {k : Bool} {h : Heap} {it a : Addr} (e : h.get? it = some (obB k a)) : ItB k h it a 0 := by
  cases k
  · exact ⟨_, e, rfl, rfl⟩
  · exact ⟨_, e, rfl, rfl⟩
theorem ItB.look {k : Bool} {h : Heap} {it a : Addr} {i : Nat} (st : ItB k h it a i) : ∃ o, h.get? it = some o ∧ ∀ v, o.data ≠ .cell v := by
  cases k
  · obtain ⟨o, e, _, d⟩ := (show h.IsTupleIter it a i from st)
    exact ⟨o, e, fun v q => by rw [d] at q; cases q⟩
  · obtain ⟨o, e, _, d⟩ := (show h.IsListIter it a i from st)
    exact ⟨o, e, fun v q => by rw [d] at q; cases q⟩
theorem ItB.stay {k : Bool} {h h' : Heap} {it a : Addr} {i : Nat} (st : ItB k h it a i) (kp : ∀ o, h.get? it = some o → h'.get? it = some o) : ItB k h' it a i := by
  cases k
  · exact (show h.IsTupleIter it a i from st).at kp
  · exact (show h.IsListIter it a i from st).at kp

/-- the two sequences as they stand at each turn, their items in new pairs -/
def Itm (k1 k2 : Bool) (K : PySem.W.Frag) (a b : Addr) : It where
  go := fun i H => ∃ (xs ys : List V) (x y : V), SqB k1 K H a xs ∧ SqB k2 K H b ys ∧ xs[i]? = some x ∧ ys[i]? = some y
  yld := fun i H v H' => ∃ T x y, v = .ref T ∧ H T = none ∧ H' = upd H T (.tup [x, y]) ∧ (∀ xs, SqB k1 K H a xs → xs[i]? = some x) ∧ ∀ ys, SqB k2 K H b ys → ys[i]? = some y
  stop := fun i H => ∃ xs ys : List V, SqB k1 K H a xs ∧ SqB k2 K H b ys ∧ i ≤ xs.length ∧ i ≤ ys.length ∧ (i = xs.length ∨ i = ys.length)
/-- the zip's state ahead of turn i -/
structure Zst (k1 k2 : Bool) (a b z TI TO i1 i2 : Addr) (i : Nat) (h : Heap) : Prop where
  zip : IsZip h z TI TO .none
  its : IsTupOf2 h TI (.ref i1) (.ref i2)
  out : ∃ x y, IsTupOf2 h TO x y
  one : ItB k1 h i1 a i
  two : ItB k2 h i2 b i
/-- five addresses side by side behind a and b -/
structure Side (n a b z TI TO i1 i2 : Addr) : Prop where
  ha : a < n
  hb : b < n
  e1 : i1 = n
  e2 : i2 = n + 1
  eI : TI = n + 2
  eO : TO = n + 3
  ez : z = n + 4
theorem aparts {x y : Nat} (h : ¬ x = y) : x ≠ y := h
theorem notIn2 {c x y : Nat} (h1 : c ≠ x) (h2 : c ≠ y) : c ∉ [x, y] := fun h => by
  rcases List.mem_cons.mp h with e | e
  · exact h1 e
  · exact h2 (List.mem_singleton.mp e)
theorem sep_of (n a b : Nat) (ha : a < n) (hb : b < n) : ZipSep2 (n + 4) (n + 2) (n + 3) n (n + 1) [n, a] [n + 1, b] where
  TIz := aparts (by omega)
  TOz := aparts (by omega)
  TITO := aparts (by omega)
  TIi1 := aparts (by omega)
  mem1 := List.mem_cons_self ..
  zf1 := notIn2 (by omega) (by omega)
  Tf1 := notIn2 (by omega) (by omega)
  TIi2 := aparts (by omega)
  mem2 := List.mem_cons_self ..
  zf2 := notIn2 (by omega) (by omega)
  Tf2 := notIn2 (by omega) (by omega)
  sep1_2 := notIn2 (by omega) (by omega)
  sep2_1 := notIn2 (by omega) (by omega)
theorem Side.sep {n a b z TI TO i1 i2 : Addr} (S : Side n a b z TI TO i1 i2) : ZipSep2 z TI TO i1 i2 [i1, a] [i2, b] := by
  obtain ⟨ha, hb, rfl, rfl, rfl, rfl, rfl⟩ := S
  exact sep_of i1 a b ha hb
section
variable {P : Program} {w : World} {K : PySem.W.Frag} {elts : List Expr} {kk : Nat} {tpos : Pos} {k1 k2 : Bool} {n a b z TI TO i1 i2 : Addr}
theorem five {c : Addr} (hc : c ∈ [z, TI, TO, i1, i2]) : c = z ∨ c = TI ∨ c = TO ∨ c = i1 ∨ c = i2 := by simpa using hc
theorem Zst.at {i : Nat} {hp : Heap} (st : Zst k1 k2 a b z TI TO i1 i2 i hp) {c : Addr} (hc : c ∈ [z, TI, TO, i1, i2]) : ∃ o, hp.get? c = some o ∧ ∀ v, o.data ≠ .cell v := by
  obtain ⟨hz, hI, ⟨x, y, hO⟩, h1, h2⟩ := st
  rcases five hc with q | q | q | q | q <;> subst q
  · exact ⟨_, hz, fun v q => nomatch q⟩
  · exact ⟨_, hI, fun v q => nomatch q⟩
  · exact ⟨_, hO, fun v q => nomatch q⟩
  · exact h1.look
  · exact h2.look
theorem turn_zipM (S : Side n a b z TI TO i1 i2) : Turn P w K (.Tuple elts kk tpos) (Itm k1 k2 K a b) [z, TI, TO, i1, i2] z (Zst k1 k2 a b z TI TO i1 i2) where
  mem := List.mem_cons_self ..
  obj := fun i h st c hc => st.at hc
  keep := fun i h h' st kp => by
    obtain ⟨hz, hI, ⟨x, y, hO⟩, h1, h2⟩ := st
    exact ⟨kp z (by simp) _ hz, kp TI (by simp) _ hI, ⟨x, y, kp TO (by simp) _ hO⟩, h1.stay fun o q => kp i1 (by simp) o q, h2.stay fun o q => kp i2 (by simp) o q⟩
  item := fun X hP hw hK hc i pins s σ H E I hf st hg => by
    subst hP hw hK
    have D := S.sep
    obtain ⟨xs, ys, x, y, qx, qy, ex, ey⟩ := hg
    obtain ⟨its, r1, p1, _⟩ := sqB_pl I qx
    obtain ⟨jts, r2, p2, _⟩ := sqB_pl I qy
    obtain ⟨u, hu, ru⟩ := r1.get ex
    obtain ⟨v, hv, rv⟩ := r2.get ey
    obtain ⟨hz, hI, ⟨x0, y0, hO⟩, h1, h2⟩ := st
    have hzl : z < s.heap.objs.size := Heap.lt_size hz
    have na : a ≠ i1 := by
      have h := S.ha
      rw [S.e1]
      exact Nat.ne_of_lt h
    have nb : b ≠ i2 := by
      have h := S.hb
      rw [S.e2]
      exact Nat.ne_of_lt (Nat.lt_succ_of_lt h)
    have hh : X.A.in1.handled = none := I.ok.hd hc
    have l1 : i < its.toArray.size := by
      have := (List.getElem?_eq_some_iff.mp hu).1
      simpa using this
    have l2 : i < jts.toArray.size := by
      have := (List.getElem?_eq_some_iff.mp hv).1
      simpa using this
    refine wpAny_pyNext_zipD2_item D (drawsB hh k1 i1 a na its.toArray) (drawsB hh k2 i2 b nb jts.toArray) hz hI hO ⟨h1, p1⟩ ⟨h2, p2⟩ l1 l2 fun u' v' h' tk y1 y2 z' O' s1 s2 hT hsz hk => ?_
    have eu : u' = u := by
      have y1' : its.toArray[i]? = some u' := y1
      have q : its.toArray[i]? = some u := by simpa using hu
      exact Option.some.inj (y1'.symm.trans q)
    have ev : v' = v := by
      have y2' : jts.toArray[i]? = some v' := y2
      have q : jts.toArray[i]? = some v := by simpa using hv
      exact Option.some.inj (y2'.symm.trans q)
    subst eu ev
    refine ⟨_, rfl, wpAny_letOwnedTupleGo_zip (s := { s with heap := h', toks := tk }) z' fun h2' z2' sb => ?_⟩
    have hT2 : h2'.get? s.heap.objs.size = some { cls := .type "tuple", data := .seq #[u', v'] } := (sb.2 _ (Nat.ne_of_gt hzl)).trans hT
    have old : ∀ c o, c ∉ [z, TI, TO, i1, i2] → s.heap.get? c = some o → h2'.get? c = some o := fun c o nc q => by
      simp only [List.mem_cons, List.not_mem_nil, or_false, not_or] at nc
      exact (sb.2 c nc.1).trans (hk c o nc.1 nc.2.2.1 nc.2.2.2.1 nc.2.2.2.2 q)
    have new : ObjOk X.prog X.w (upd H s.heap.objs.size (.tup [x, y])) h2' s.heap.objs.size (.tup [x, y]) :=
      ⟨(by show 2 ≤ sizeLine; decide), [u', v'], Paired.cons ru (Paired.cons rv Paired.nil), ⟨_, hT2, rfl, _, rfl⟩⟩
    have I1 : Inv X pins σ (upd H s.heap.objs.size (.tup [x, y])) { s with heap := h2', toks := tk } := I.turnedNew (t' := tk) (ch := [z, TI, TO, i1, i2]) old hf (Nat.le_refl _) new
    refine ⟨.ref s.heap.objs.size, _, I1, rfl, ⟨_, x, y, rfl, I.hok.fresh (Nat.le_refl _), rfl, fun l hl => ?_, fun l hl => ?_⟩, ⟨z2', ?_, ⟨u', v', ?_⟩, ?_, ?_⟩, fun c hcm => ?_⟩
    · rw [sqB_inj I hl qx]
      exact ex
    · rw [sqB_inj I hl qy]
      exact ey
    · exact (sb.2 _ D.TIz).trans (hk _ _ D.TIz D.TITO D.TIi1 D.TIi2 hI)
    · exact (sb.2 _ D.TOz).trans O'
    · exact s1.1.stay fun o q => (sb.2 _ D.zi1.symm).trans q
    · exact s2.1.stay fun o q => (sb.2 _ D.zi2.symm).trans q
    · obtain ⟨o, eo, _⟩ := (show Zst k1 k2 a b z TI TO i1 i2 i s.heap from ⟨hz, hI, ⟨x0, y0, hO⟩, h1, h2⟩).at hcm
      rw [upd_ne (Nat.ne_of_lt (Heap.lt_size eo))]
      exact (hf c hcm).1
  done := fun X hP hw hK hc i pins s σ H E I hf st hg => by
    subst hP hw hK
    obtain ⟨xs, ys, qx, qy, lx, ly, exy⟩ := hg
    obtain ⟨its, r1, p1, _⟩ := sqB_pl I qx
    obtain ⟨jts, r2, p2, _⟩ := sqB_pl I qy
    obtain ⟨hz, hI, ⟨x0, y0, hO⟩, h1, h2⟩ := st
    have na : a ≠ i1 := by
      have h := S.ha
      rw [S.e1]
      exact Nat.ne_of_lt h
    have nb : b ≠ i2 := by
      have h := S.hb
      rw [S.e2]
      exact Nat.ne_of_lt (Nat.lt_succ_of_lt h)
    have hh : X.A.in1.handled = none := I.ok.hd hc
    have n1 : its.toArray.size = xs.length := by
      rw [List.size_toArray, ← r1.length]
    have n2 : jts.toArray.size = ys.length := by
      rw [List.size_toArray, ← r2.length]
    refine wpAny_pyNext_zipD2_end S.sep (drawsB hh k1 i1 a na its.toArray) (drawsB hh k2 i2 b nb jts.toArray) hz hI hO ⟨h1, p1⟩ ⟨h2, p2⟩ (by omega) (by omega) (by omega) fun h' tk hk => ⟨rfl, I.turnedL (t' := tk) (ch := [z, TI, TO, i1, i2]) (fun c o nc q => ?_) hf⟩
    simp only [List.mem_cons, List.not_mem_nil, or_false, not_or] at nc
    exact hk c o nc.1 nc.2.2.1 nc.2.2.2.1 nc.2.2.2.2 q
  self := fun A i s Q E st h => wpAny_pyIter_zip st.zip h
end
def iZipM (K : PySem.W.Frag) (ta : TA) : TI := fun σ H R => ta σ H fun vs H1 => ∃ k1 k2 a b xs ys, vs = [.ref a, .ref b] ∧ SqB k1 K H1 a xs ∧ SqB k2 K H1 b ys ∧ R (Itm k1 k2 K a b) H1
theorem pi_zipM {X : Cx} {e e2 : Expr} {ta : TA} {p pos tpos : Pos} {elts : List Expr} {kk : Nat} (hg : Gl X "zip") (hm : X.mg "zip" = none) (ha : PA X [e, e2] ta)
    (hs : starEach [e, e2] X.env = (false, eval e X.env) :: starEach [e2] X.env := by rfl) (hpl : (backTo pos (starEach [e2] X.env)).any (·.1) = false := by rfl) :
    PI X (.Tuple elts kk tpos) (.Call (.Name "zip" p) [e, e2] [] pos) (iZipM X.K ta) := ⟨fun pins s σ H R I h => by
  refine Call_ (ld_blt I hg hm boot_zip (callWith_type1 (thn (ha.run pos pins s σ H _ I h) fun us s1 ⟨vs, H1, I1, r1, q1⟩ => ?_) hs hpl))
  obtain ⟨k1, k2, a, b, xs, ys, rfl, qx, qy, q⟩ := q1
  obtain ⟨u, v, rfl, ru, rv⟩ := vals2 r1
  cases ru
  cases rv
  obtain ⟨its, _, p1, la⟩ := sqB_pl I1 qx
  obtain ⟨jts, _, p2, lb⟩ := sqB_pl I1 qy
  refine zip_begins2 (beginsB k1 a its.toArray) (beginsB k2 b jts.toArray) p1 p2 fun h' hz hI hO g1 g2 hsz hk => wpAny_pyIter_zip hz ?_
  have I2 : Inv X pins σ H1 { s1 with heap := h' } := I1.kept (t' := s1.toks) hk
  have S : Side s1.heap.objs.size a b (s1.heap.objs.size + 4) (s1.heap.objs.size + 2) (s1.heap.objs.size + 3) s1.heap.objs.size (s1.heap.objs.size + 1) := ⟨la, lb, rfl, rfl, rfl, rfl, rfl⟩
  refine ⟨s1.heap.objs.size + 4, _, _, _, H1, rfl, I2, turn_zipM S, ⟨hz, hI, ⟨_, _, hO⟩, ItB.start g1, ItB.start g2⟩, fun c hc => ?_, q⟩
  have hle : s1.heap.objs.size ≤ c := by
    rcases five hc with e | e | e | e | e <;> subst e
    · exact Nat.le_add_right _ _
    · exact Nat.le_add_right _ _
    · exact Nat.le_add_right _ _
    · exact Nat.le_refl _
    · exact Nat.le_add_right _ _
  exact I1.fpOk hle (I1.hok.fresh hle)⟩
/-- a comprehension over such a zip of one length -/
theorem made_zip {K : PySem.W.Frag} {k1 k2 : Bool} {σ : L2.St} {H : Hp} {a b : Addr} {xs ys : List V} {g : TG} {te : TE} {vs : List Nat} {Qd : Hp → Prop} {R : Nat → V → Hp → Prop} (st : Stays R) (hx : SqB k1 K H a xs) (hy : SqB k2 K H b ys) (hl : xs.length = ys.length) (hn : xs.length ≤ 1000)
    (hs : ∀ i x y T H1, xs[i]? = some x → ys[i]? = some y → Ex H H1 → H1 T = some (.tup [x, y]) → Gives g te vs σ (.ref T) H1 (R i)) {Dl : Addr} (hD : H Dl = none) (k : ∀ (H' : Hp) (ys : List V), Ex H H' → H' Dl = some (.lst ys) → ys.length = xs.length → (∀ (j : Nat) y, ys[j]? = some y → R j y H') → Qd H') :
    ∃ W : Nat → Nat → Hp → Prop, (∃ m, W 0 m (upd H Dl (.lst []))) ∧ ∀ i m H, W i m H →
      ((Itm k1 k2 K a b).stop i H ∧ Qd H) ∨ ((Itm k1 k2 K a b).go i H ∧ ∃ Nx : Hp → Prop, (∀ H', Nx H' → ∃ m', m' < m ∧ W (i + 1) m' H') ∧ ∀ x H', (Itm k1 k2 K a b).yld i H x H' → g x (wipe σ vs) H' fun σ2 H2 => wipe σ2 vs = wipe σ vs ∧ tYes σ2 H2 fun b H3 =>
        if b = true then te σ2 H3 fun y H4 => ∃ acc, H4 Dl = some (.lst acc) ∧ acc.length < sizeLine ∧ Nx (upd H4 Dl (.lst (acc ++ [y]))) else Nx H3) := by
  refine ⟨fun i m H' => i + m = xs.length ∧ Acc H R true Dl i H', ⟨xs.length, Nat.zero_add _, Acc.start hD⟩, fun i m H1 hW => ?_⟩
  obtain ⟨em, A⟩ := hW
  have qx := hx.ex A.ex
  have qy := hy.ex A.ex
  by_cases hi : i < xs.length
  · have gx : xs[i]? = some xs[i] := List.getElem?_eq_getElem hi
    have hi2 : i < ys.length := by omega
    have gy : ys[i]? = some ys[i] := List.getElem?_eq_getElem hi2
    refine .inr ⟨⟨xs, ys, _, _, qx, qy, gx, gy⟩, Acc H R true Dl (i + 1), fun H' A' => ⟨m - 1, by omega, by omega, A'⟩, fun v H' yl => ?_⟩
    obtain ⟨T, x, y, rfl, nT, rfl, fx, fy⟩ := yl
    have e1 := fx xs qx
    have e2 := fy ys qy
    have eT : Ex H1 (upd H1 T (.tup [x, y])) := exn nT
    have A2 : Acc H R true Dl i (upd H1 T (.tup [x, y])) := by
      obtain ⟨new, ex, zs, h1, h2, h3, h4, h5⟩ := A
      exact ⟨new, ex.trans eT, zs, eT _ _ h1, h2, h3, fun z hz => (h4 z hz).imp fun j q => ⟨q.1, st _ _ _ _ (ExT.of eT) q.2⟩, fun t j z hz => st _ _ _ _ (ExT.of eT) (h5 t j z hz)⟩
    exact turn_of st A2 (by omega) (hs i x y T _ e1 e2 (A.ex.trans eT) upd_same).tests fun _ => rfl
  · have ei : i = xs.length := by omega
    refine .inl ⟨⟨xs, ys, qx, qy, by omega, by omega, .inl ei⟩, ?_⟩
    subst ei
    obtain ⟨new, ex, zs, h1, h2, h3, h4, h5⟩ := A
    exact k H1 zs ex h1 (h3 rfl) (h5 rfl)
end Pre
set_option maxRecDepth 100000
set_option maxHeartbeats 4000000
/-! enumerate over a list or a tuple (k: true a list). -/
namespace Pre
open PySem PySem.Spec PyProof.Rows L2
theorem meets_enumerate_newM {v : Value} {o : Obj} {H : Heap → Prop} (B : Begins v o H) :
    Meets (Builtin.«enumerate.__new__» ⟨[.type "enumerate", v], []⟩) (fun _ R s => H s.heap ∧
      R (.ok (.ret (.ref (s.heap.push o).objs.size))) { s with heap := (s.heap.push o).push { cls := .type "enumerate", data := .fields #[.none, .bool false, .ref s.heap.objs.size, rawInt 0, .none, .none] } }) :=
  .of_wp fun prog w A R s h => by
    obtain ⟨hp, g, d, tk, os⟩ := s; obtain ⟨h1, h⟩ := h
    have hsub := sub_enumerate
    have q1 : ∀ {A' : Around} {E : Value → Shared → Prop} {Q : Value → Shared → Prop}, Q (.ref hp.objs.size) ⟨hp.push o, g, d, tk, os⟩ → wpAny (model prog w) A' (pyIter v) Q E ⟨hp, g, d, tk, os⟩ :=
      fun q => B.iter prog w _ _ ⟨hp, g, d, tk, os⟩ _ h1 q
    wp_walk using q1
    refine wpAny_stack_any fun st => wpAny_pure ?_
    split
    · rename_i c _ _ _ _ _
      cases (c == Value.type "enumerate")
      · wp_walk using q1
        exact ⟨_, rfl, h⟩
      · wp_walk using q1
        exact ⟨_, rfl, h⟩
    · wp_walk using q1
      exact ⟨_, rfl, h⟩
section
variable {prog : Program} {w : World} {A : Around} {E : Value → Shared → Prop} {s : Shared}
theorem enum_begins1 {v : Value} {o : Obj} {H : Heap → Prop} {Q : Value → Shared → Prop} (B : Begins v o H) (h1 : H s.heap)
    (h : ∀ h', IsEnum h' (s.heap.objs.size + 1) s.heap.objs.size 0 .none → h'.get? s.heap.objs.size = some o → h'.objs.size = s.heap.objs.size + 2 →
      (∀ b o, s.heap.get? b = some o → h'.get? b = some o) → Q (.ref (s.heap.objs.size + 1)) { s with heap := h' }) :
    wpAny (model prog w) A (call (.type "enumerate") [v]) Q E s := by
  refine callType_new F.called_enumerate (by decide) (F.typeCall_enumerate_1 _) (F.newCall_enumerate_1 _) (fun obj => F.args_object_init_2 obj _) F.entry_enumerate_new
    (meets_enumerate_newM B) ⟨h1, ?_⟩
  have hz : (s.heap.push o).objs.size = s.heap.objs.size + 1 := Heap.size_push ..
  show _ ∧ _
  rw [hz]
  have he : IsEnum ((s.heap.push o).push { cls := .type "enumerate", data := .fields #[.none, .bool false, .ref s.heap.objs.size, rawInt 0, .none, .none] }) (s.heap.objs.size + 1) s.heap.objs.size 0 .none := by
    have := Heap.get?_push_size (s.heap.push o) (o := { cls := .type "enumerate", data := .fields #[.none, .bool false, .ref s.heap.objs.size, rawInt 0, .none, .none] }) rfl
    rw [hz] at this; exact this
  refine ⟨⟨_, he, rfl⟩, h _ he (Heap.get?_push_of_some _ (Heap.get?_push_size _ B.free)) (by rw [Heap.size_push, hz]) fun b o x => Heap.get?_push_of_some _ (Heap.get?_push_of_some _ x)⟩
end
def ItEn (k : Bool) (K : PySem.W.Frag) (a : Addr) : It :=
  ⟨fun i H => ∃ (xs : List V) (x : V), SqB k K H a xs ∧ xs[i]? = some x, fun i H v H' => ∃ T x, v = .ref T ∧ H T = none ∧ H' = upd H T (.tup [.int (i : Nat), x]) ∧ ∀ xs, SqB k K H a xs → xs[i]? = some x, fun i H => ∃ xs : List V, SqB k K H a xs ∧ xs.length = i⟩
theorem turn_enumM {P : Program} {w : World} {K : PySem.W.Frag} {elts : List Expr} {kk : Nat} {tpos : Pos} (k : Bool) (a e it : Addr) :
    Turn P w K (.Tuple elts kk tpos) (ItEn k K a) [e, it] e (fun i h => (∃ old, IsEnum h e it ((i : Nat) : Int) old) ∧ ItB k h it a i ∧ e ≠ it ∧ a ≠ it ∧ e ≠ a) where
  mem := by simp
  obj := fun i h st b hb => by
    obtain ⟨⟨old, he⟩, hit, _⟩ := st
    have e' : b = e ∨ b = it := by simpa using hb
    rcases e' with z | z
    · rw [z]; exact ⟨_, he, fun v q => nomatch q⟩
    · rw [z]; exact hit.look
  keep := fun i h h' st kp => let ⟨⟨old, he⟩, hi, hne⟩ := st; ⟨⟨old, kp e (by simp) _ he⟩, hi.stay fun o q => kp it (by simp) o q, hne⟩
  item := by
    intro X hP hw hK hc i pins s σ H E I hf st hg
    subst hP hw hK
    obtain ⟨⟨old, he⟩, hit, hne, hna, hea⟩ := st
    obtain ⟨xs, x, hq, hx⟩ := hg
    obtain ⟨its, rv, p, hz⟩ := sqB_pl I hq
    obtain ⟨u, hu, ru⟩ := rv.get hx
    have hel : e < s.heap.objs.size := Heap.lt_size he
    have hil : it < s.heap.objs.size := by obtain ⟨_, q, _⟩ := hit.look; exact Heap.lt_size q
    have hh : X.A.in1.handled = none := I.ok.hd hc
    have l1 : i < its.toArray.size := by
      have := (List.getElem?_eq_some_iff.mp hu).1
      simpa using this
    refine wpAny_pyNext_enum_itemD (drawsB hh k it a hna its.toArray) he ⟨hit, p⟩ l1 hne (by simp [hne, hea]) fun u' h' tk y1 ho s1 hT hsz hk => ?_
    have eu : u' = u := by
      have y1' : its.toArray[i]? = some u' := y1
      have q : its.toArray[i]? = some u := by simpa using hu
      exact Option.some.inj (y1'.symm.trans q)
    subst eu
    refine ⟨_, rfl, wpAny_letOwnedTupleGo_enum (s := { s with heap := h', toks := tk + 1 }) ho fun h'' he' sb => ?_⟩
    have hT2 : h''.get? s.heap.objs.size = some { cls := .type "tuple", data := .seq #[.int i tk, u'] } := (sb.2 _ (Nat.ne_of_gt hel)).trans hT
    have new : ObjOk X.prog X.w (upd H s.heap.objs.size (.tup [.int (i : Nat), x])) h'' s.heap.objs.size (.tup [.int (i : Nat), x]) :=
      ⟨by show 2 ≤ sizeLine; decide, [.int i tk, u'], .cons ⟨_, rfl⟩ (.cons ru .nil), ⟨_, hT2, rfl, _, rfl⟩⟩
    have I1 : Inv X pins σ (upd H s.heap.objs.size (.tup [.int (i : Nat), x])) { s with heap := h'', toks := tk + 1 } :=
      I.turnedNew (ch := [e, it]) (fun b ob hb q => (sb.2 b (fun z => hb (by simp [z]))).trans (hk b ob (fun z => hb (by simp [z])) (fun z => hb (by simp [z])) q)) hf (Nat.le_refl _) new
    refine ⟨.ref s.heap.objs.size, _, I1, rfl, ⟨_, x, rfl, I.hok.fresh (Nat.le_refl _), rfl, fun ys hy => by rw [sqB_inj I hy hq]; exact hx⟩, ⟨⟨u', ?_⟩, s1.1.stay fun o q => (sb.2 it (Ne.symm hne)).trans q, hne, hna, hea⟩, fun b hb => ?_⟩
    · have e1 : ((i + 1 : Nat) : Int) = (i : Int) + 1 := by omega
      rw [e1]; exact he'
    · have hb' : b < s.heap.objs.size := by
        have e' : b = e ∨ b = it := by simpa using hb
        rcases e' with z | z
        · rw [z]; exact hel
        · rw [z]; exact hil
      rw [upd_ne (Nat.ne_of_lt hb')]
      exact (hf b hb).1
  done := by
    intro X hP hw hK hc i pins s σ H E I hf st hg
    subst hP hw hK
    obtain ⟨⟨old, he⟩, hit, hne, hna, hea⟩ := st
    obtain ⟨xs, hq, hx⟩ := hg
    obtain ⟨its, rv, p, hz⟩ := sqB_pl I hq
    obtain ⟨f0, f1, f2, f3, f4, f5⟩ := hf it (by simp)
    have hh : X.A.in1.handled = none := I.ok.hd hc
    have n1 : i = its.toArray.size := by
      rw [List.size_toArray, ← rv.length, hx]
    subst n1
    exact wpAny_pyNext_enum_endD (drawsB hh k it a hna its.toArray) he ⟨hit, p⟩ fun h' eb => ⟨rfl, I.turned (t' := s.toks) (fun b o hb q => eb b o hb q) f0 f1 f3 f4 f5⟩
  self := fun A i s Q E st h => let ⟨⟨_, he⟩, _⟩ := st; wpAny_pyIter_enum he h
def iEnM (K : PySem.W.Frag) (ta : TA) : TI := fun σ H R => ta σ H fun vs H1 => ∃ k a xs, vs = [.ref a] ∧ SqB k K H1 a xs ∧ R (ItEn k K a) H1
theorem pi_enumM {X : Cx} {e : Expr} {ta : TA} {p pos tpos : Pos} {elts : List Expr} {kk : Nat} (hg : Gl X "enumerate") (hm : X.mg "enumerate" = none) (ha : PA X [e] ta) (hs : starEach [e] X.env = [(false, eval e X.env)] := by rfl) :
    PI X (.Tuple elts kk tpos) (.Call (.Name "enumerate" p) [e] [] pos) (iEnM X.K ta) := by
  refine ⟨fun pins s σ H R I h => ?_⟩
  refine Call_ (ld_blt I hg hm boot_enumerate (PyProof.Rows.callWith_type1 (thn (ha.run pos pins s σ H _ I h) fun us s1 ⟨vs, H1, I1, r1, q1⟩ => ?_) hs rfl))
  obtain ⟨k, a, xs, ex, hq, q⟩ := q1
  subst ex
  cases r1 with
  | cons r rr =>
    cases rr
    cases r
    obtain ⟨its, rv, p', hz⟩ := sqB_pl I1 hq
    refine enum_begins1 (beginsB k a its.toArray) p' fun h' he hit hsz hk => wpAny_pyIter_enum he ?_
    have I2 : Inv X pins σ H1 { s1 with heap := h' } := I1.kept (t' := s1.toks) hk
    refine ⟨s1.heap.objs.size + 1, [s1.heap.objs.size + 1, s1.heap.objs.size], _, _, H1, rfl, I2, turn_enumM k a (s1.heap.objs.size + 1) s1.heap.objs.size, ⟨⟨.none, he⟩, ItB.start hit, Nat.succ_ne_self _, Nat.ne_of_lt hz, Nat.ne_of_gt (Nat.lt_succ_of_lt hz)⟩, fun b hb => ?_, q⟩
    have e' : b = s1.heap.objs.size + 1 ∨ b = s1.heap.objs.size := by simpa using hb
    have hle : s1.heap.objs.size ≤ b := by
      rcases e' with z | z
      · rw [z]; exact Nat.le_add_right _ _
      · rw [z]; exact Nat.le_refl _
    exact I1.fpOk hle (I1.hok.fresh hle)
end Pre
set_option maxRecDepth 100000
set_option maxHeartbeats 4000000
/-! Own error classes with an own __init__, over any built-in base (the hand layer has ValueError's): stored fields, raised, made and kept as values, their fields read. -/
namespace Xc
open PySem PySem.Spec PyProof.Rows L2
/-- what must be known of the mro behind a class: its built-in base B and a few others, and that stores are let through -/
structure Tail (bm : List Value) (B : String) : Prop where
  hB : bm.contains (.type B) = true
  hA : bm.contains (.type "AttributeError") = false
  hN : bm.contains (.type "NameError") = false
  hO : bm.contains (.type "object") = true
  pass : ∀ me : Value, refuseLoop me "__setattr__" bm = pure ()
theorem cont_ref {D : Addr} {bm : List Value} {Y : String} : (Value.ref D :: bm).contains (.type Y) = bm.contains (.type Y) := by
  rw [List.contains_cons]
  rfl
theorem tail_ref {bm : List Value} {B : String} {D : Addr} (t : Tail bm B) : Tail (.ref D :: bm) B :=
  ⟨cont_ref.trans t.hB, cont_ref.trans t.hA, cont_ref.trans t.hN, cont_ref.trans t.hO, fun me => by rw [refuseLoop_ref]; exact t.pass me⟩
abbrev tExc : List Value := [.type "Exception", .type "BaseException", .type "object"]
abbrev tKey : List Value := [.type "KeyError", .type "LookupError", .type "Exception", .type "BaseException", .type "object"]
theorem tail_exc : Tail tExc "Exception" := ⟨by decide +kernel, by decide +kernel, by decide +kernel, by decide +kernel, fun me => PySem.F.store_Exception.passes me⟩
theorem tail_key : Tail tKey "LookupError" := ⟨by decide +kernel, by decide +kernel, by decide +kernel, by decide +kernel, fun me => by kernel_rfl⟩
/-- own classes, then these -/
def over : List Value → List Value → Bool
  | .ref _ :: r, l => over r l
  | m, l => m == l
theorem over_ok {l : List Value} {B : String} (t : Tail l B) : ∀ bm : List Value, over bm l = true → Tail bm B
  | .ref _ :: r, e => tail_ref (over_ok t r e)
  | [], e => beq_iff_eq.mp e ▸ t
  | .none :: _, e => beq_iff_eq.mp e ▸ t
  | .ellipsis :: _, e => beq_iff_eq.mp e ▸ t
  | .notImplemented :: _, e => beq_iff_eq.mp e ▸ t
  | .bool _ :: _, e => beq_iff_eq.mp e ▸ t
  | .int _ _ :: _, e => beq_iff_eq.mp e ▸ t
  | .float _ _ :: _, e => beq_iff_eq.mp e ▸ t
  | .str _ _ :: _, e => beq_iff_eq.mp e ▸ t
  | .bytes _ _ :: _, e => beq_iff_eq.mp e ▸ t
  | .type _ :: _, e => beq_iff_eq.mp e ▸ t
  | .builtin _ :: _, e => beq_iff_eq.mp e ▸ t

section
open Builtin Builtin.ObjectAttr PySem.W
variable {prog : Program} {w : World} {A : Around} {E : Value → Shared → Prop} {R : Result → Shared → Prop} {hp : Heap} {g : Array GenState} {d : Drawn} {t : Nat} {os : OsState}
/-- object.__setattr__ on an error, as far as its dict -/
theorem osa_go {K : Frag} {name : Str} {tk : Tok} {v : Value} {x C : Addr} {ox : Obj} {od : Option Obj} {cd : ClassData} {bm : List Value} {B : String} (X : K.In hp) (I : InstAt hp x ox C od) (hcd : clsIn K C = some cd)
    (hm : cd.mro = .ref C :: bm) (T : Tail bm B) (ha : findIn K (.ref C) name = some none)
    (hq : wpAny (model prog w) A.in1 (storeInOwnDict (.ref x) (.ref C) (.str name tk) name v false)
      (fun r s' => match r with | .done f => R (.ok f) s' | .again c' => c'.quiet = true ∧ codeAny (model prog w) A c' R s') (fun e s' => R (.error e) s') ⟨hp, g, d, t, os⟩) :
    codeAny (model prog w) A (.call (.builtin "object.__setattr__") ⟨[.ref x, .str name tk, v], []⟩) R ⟨hp, g, d, t, os⟩ := by
  have S := F.store_object
  have hob : cd.mro.contains (.type "object") = true := by rw [hm]; exact cont_ref.trans T.hO
  have hmt : mroIn K C (.type "object") = some true := by
    unfold mroIn
    rw [hcd, Option.bind_some, hob, hm]
    rfl
  have sub : Looks (model prog w) hp (isInstance (.ref x) (.type "object")) true := I.type.andThen (looks_mroIn X hmt)
  have lm : Looks (model prog w) hp (mroOf (.ref C)) cd.mro := (looks_clsIn X hcd).andThen .now
  have ln : Looks (model prog w) hp (storeTaker? none) none := .now
  have lp : refuseLoop (.ref x) "__setattr__" cd.mro = pure () := by
    rw [hm, refuseLoop_ref]
    exact T.pass _
  refine codeAny_call_builtin S.slot.plain S.entry (@check_slot (model prog w) _ _ ⟨hp, g, d, t, os⟩ "object.__setattr__" "object" "__setattr__" (.ref x) [.str name tk, v] [] _ S.kind S.split sub (S.args (.ref x) (.str name tk) v) ?_)
  rw [osa_eq, refuse_eq]
  refine wpAny_bind (wpAny_bind (I.type.at (wpAny_bind (lm.at ?_))))
  rw [lp]
  refine wpAny_pure (wpAny_bind (I.type.at (wpAny_bind ((looks_findIn X ha).at (wpAny_bind (ln.at ?_))))))
  exact hq
theorem osa_first {K : Frag} {name : Str} {tk : Tok} {v : Value} {x C : Addr} {fv : Array Value} {cd : ClassData} {bm : List Value} {B : String} (X : K.In hp) (hx : hp.get? x = some { cls := .ref C, data := .fields fv })
    (hcd : clsIn K C = some cd) (hm : cd.mro = .ref C :: bm) (hh : cd.hasDict = true) (T : Tail bm B) (ha : findIn K (.ref C) name = some none)
    (hq : ∀ h' tk' dx, (∀ b o, b ≠ x → hp.get? b = some o → h'.get? b = some o) → hp.objs.size ≤ dx → dx ≠ x → h'.get? x = some { cls := .ref C, dict := some dx, data := .fields fv } →
      h'.Ns1 dx (fun y => if y = name then some v else none) → R (.ok (.ret .none)) ⟨h', g, d, tk', os⟩) :
    codeAny (model prog w) A (.call (.builtin "object.__setattr__") ⟨[.ref x, .str name tk, v], []⟩) R ⟨hp, g, d, t, os⟩ := by
  refine osa_go (od := none) X ⟨hx, rfl, rfl, trivial⟩ hcd hm T ha ?_
  have xs : x ≠ hp.objs.size := Nat.ne_of_lt (Heap.lt_size hx)
  have lc : Looks (model prog w) hp (classData C) cd := looks_clsIn X hcd
  obtain ⟨nm, bs, mro, ns, qn, hd, sn, sb, ab, col, del⟩ := cd
  dsimp only at hh
  subst hh
  unfold storeInOwnDict ownDictForStores
  repeat (first | with_reducible refine PySem.HandSPX.store_in_new ?_ ?_ | with_reducible refine wpAny_loadPart_at hx ?_ | with_reducible refine lc.at ?_ | wp_step)
  · exact ⟨_, #[], _, (Heap.get?_update_ne _ _ _ _ xs.symm).trans (Heap.get?_push_at rfl rfl), rfl, fun e he => absurd he (by simp), fun _ => rfl⟩
  · intro h' tk' n' same
    have hx1 : (hp.push { cls := .type "dict", data := .dict #[] }).get? x = some { cls := .ref C, data := .fields fv } := Heap.get?_push_of_some _ hx
    refine hq h' tk' hp.objs.size (fun b o nb ho => ?_) (Nat.le_refl _) xs.symm ((same.2 x xs).trans (Heap.get?_update_self _ hx1 rfl)) n'
    exact (same.2 b (Nat.ne_of_lt (Heap.lt_size ho))).trans ((Heap.get?_update_ne _ _ _ _ nb).trans (Heap.get?_push_of_some _ ho))
theorem osa_more {K : Frag} {name : Str} {tk : Tok} {v : Value} {x C dx : Addr} {fv : Array Value} {cd : ClassData} {m0 : Str → Option Value} {nl : List Str} {bm : List Value} {B : String} (X : K.In hp)
    (hx : hp.get? x = some { cls := .ref C, dict := some dx, data := .fields fv }) (hns : hp.Ns1 dx m0) (hw : Within m0 nl) (hz : nl.length ≤ 1000) (hcd : clsIn K C = some cd) (hm : cd.mro = .ref C :: bm) (hh : cd.hasDict = true) (T : Tail bm B) (ha : findIn K (.ref C) name = some none)
    (hq : ∀ h' tk', (∀ b o, b ≠ dx → hp.get? b = some o → h'.get? b = some o) → h'.Ns1 dx (fun y => if y = name then some v else m0 y) → R (.ok (.ret .none)) ⟨h', g, d, tk', os⟩) :
    codeAny (model prog w) A (.call (.builtin "object.__setattr__") ⟨[.ref x, .str name tk, v], []⟩) R ⟨hp, g, d, t, os⟩ := by
  obtain ⟨oD, _, _, hoD, _, _⟩ := hns.count hw
  refine osa_go (od := some oD) X ⟨hx, rfl, rfl, hoD⟩ hcd hm T ha ?_
  have lc : Looks (model prog w) hp (classData C) cd := looks_clsIn X hcd
  obtain ⟨nm, bs, mro, ns, qn, hd, sn, sb, ab, col, del⟩ := cd
  dsimp only at hh
  subst hh
  unfold storeInOwnDict ownDictForStores
  repeat (first | with_reducible refine PySem.OEX.store_in_old hns hw hz ?_ | with_reducible refine wpAny_loadPart_at hx ?_ | with_reducible refine lc.at ?_ | wp_step)
  intro h' tk' n' same
  exact hq h' tk' (fun b o nb ho => (same.2 b nb).trans ho) n'
end

/-! ### the class called, with values and keywords -/
section
variable {M : Model} {prog : Program} {w : World} {A : Around} {E : Value → Shared → Prop} {R : Result → Shared → Prop} {h : Heap} {g : Array GenState} {d : Drawn} {t : Nat} {os : OsState}
variable {nm q : Str} {C N : Addr} {bs bm bmB : List Value} {hdct : Bool} {sn : List Str} {sub : List Value} {ab : Bool} {col : Option Bool} {dd : Option Addr} {k0 k1 k2 k3 k5 : Option Value} {B newId initId : String} {rest : List Value} {kw : List (Str × Value)}
theorem chk_new (F : ExcBaseFacts B newId initId bmB) (TT : Tail bm B) {Q : Unit → Shared → Prop}
    (hC : h.get? C = some (excClassObj nm q C N bs bm hdct sn sub ab col dd k0 k1 k2 k3 k5 newId)) (hq : Q () ⟨h, g, d, t, os⟩) : wpAny M A (checkBuiltinCall newId ⟨.ref C :: rest, kw⟩) Q E ⟨h, g, d, t, os⟩ := by
  have c1 : (Value.ref C :: bm).contains (.type B) = true := by exact cont_ref.trans TT.hB
  have st := F.noStar
  simp only [checkBuiltinCall, F.newKind, F.newSplit, F.newRow]
  repeat (first | refine wpAny_loadPart_at hC ?_ | (refine wpAny_isSubtype_exc hC ?_; rw [c1]) | refine wpAny_staticBase_exc hC ?_ | refine wpAny_madeBy_exc hC ?_ | simp only [bne_self_eq_false, Bool.false_eq_true, if_false] | wp_step)
  all_goals exact hq
theorem go_new (F : ExcBaseFacts B newId initId bmB) (TT : Tail bm B)
    (hC : h.get? C = some (excClassObj nm q C N bs bm hdct sn sub ab col dd k0 k1 k2 k3 k5 newId)) (hz : rest.length ≤ sizeLine)
    (hq : R (.ok (.ret (.ref (h.objs.size + 1)))) ⟨(h.push { cls := .type "tuple", data := .seq rest.toArray }).push { cls := .ref C, data := .fields #[.ref h.objs.size, .none, .none, .none, .bool false, .none] }, g, d, t, os⟩) :
    codeAny (model prog w) A (.builtin newId ⟨.ref C :: rest, kw⟩) R ⟨h, g, d, t, os⟩ := by
  have en := F.ends
  have c1 : (Value.ref C :: bm).contains (.type B) = true := by exact cont_ref.trans TT.hB
  have c2 : (Value.ref C :: bm).contains (.type "AttributeError") = false := by exact cont_ref.trans TT.hA
  have c3 : (Value.ref C :: bm).contains (.type "NameError") = false := by exact cont_ref.trans TT.hN
  refine codeAny_builtinAt F.entry ?_
  unfold Builtin.«BaseException.__new__»
  refine PySem.wpAt_bind ?_
  show PySem.wpAt _ _ _ (stack >>= _) _ _ _
  refine PySem.wpAt_bind (PySem.wpAt_stack fun p below => PySem.wpAt_of_wpAny ?_)
  wp_walk
  refine PySem.wpAt_of_wpAny ?_
  rw [F.owner]
  repeat (first | with_reducible refine wpAny_madeHere_exc F.canon hC ?_ | with_reducible refine wpAny_loadPart_at hC ?_ | (with_reducible refine wpAny_isSubtype_exc hC ?_; first | rw [c1] | rw [c2] | rw [c3]) | wp_step)
  show R _ _
  rw [Heap.size_push]
  exact hq
theorem ty_call (F : ExcBaseFacts B newId initId bmB) (TT : Tail bm B) {fI : Addr} {Q : Fin → Shared → Prop}
    (hC : h.get? C = some (excClassObj nm q C N bs bm hdct sn sub ab col dd k0 k1 k2 k3 k5 newId)) (hi : PySem.W.Looks (model prog w) h (typeLookup (.ref C) "__init__") (some (.ref fI)))
    (hb : ∀ me, PySem.W.Looks (model prog w) h (bindSpecial (.ref fI) me) (.ref fI, [me])) (hz : rest.length ≤ sizeLine)
    (hq : codeAny (model prog w) A (.call (.ref fI) ⟨.ref (h.objs.size + 1) :: rest, kw⟩)
      (fun r s' => match r with | .ok (.ret v) => v = .none ∧ Q (.done (.ret (.ref (h.objs.size + 1)))) s' | .ok _ => False | .error e => E e s') ⟨(h.push (PySem.W.kdv_tup rest)).push (PySem.HandSPX.excO C h.objs.size), g, d, t, os⟩) :
    wpAny (model prog w) A (Builtin.«type.__call__» ⟨.ref C :: rest, kw⟩) Q E ⟨h, g, d, t, os⟩ := by
  repeat (first | with_reducible refine wpAny_loadPart_at hC ?_ | with_reducible refine wpAny_madeBy_exc hC ?_ | wp_step)
  refine codeAny_call_builtin_code (Code.quiet_builtin _ F.quiet) (chk_new F TT hC ?_)
  refine go_new F TT hC hz ?_
  show wpAny _ _ _ _ _ _
  have kk : ∀ b o, h.get? b = some o → ((h.push (PySem.W.kdv_tup rest)).push (PySem.HandSPX.excO C h.objs.size)).get? b = some o := fun b o z => Heap.get?_push_of_some _ (Heap.get?_push_of_some _ z)
  have hC1 := kk _ _ hC
  have at1 : ((h.push (PySem.W.kdv_tup rest)).push (PySem.HandSPX.excO C h.objs.size)).get? (h.objs.size + 1) = some (PySem.HandSPX.excO C h.objs.size) := by heap_get
  have cc : (Value.ref C :: bm).contains (.ref C) = true := by simp
  unfold isInstance
  repeat (first | with_reducible refine wpAny_loadPart_at at1 ?_ | (with_reducible refine wpAny_isSubtype_exc hC1 ?_; rw [cc]) | wp_step)
  show wpAny _ _ (typeLookup (.ref C) _) _ _ _
  refine (hi.keeps kk).at (wpAny_holding (wpAny_bind (((hb (.ref (h.objs.size + 1))).keeps kk).at ?_)))
  refine wpAny_bind (wpAny_call (codeAny_mono hq fun r s' z => ?_))
  rcases r with e | (v | _ | _ | _) <;> first | exact z | exact z.elim | skip
  obtain ⟨rfl, z⟩ := z
  first
    | exact wpAny_pure (wpAny_pure z)
    | (wp_walk; exact z)
theorem cls_call (F : ExcBaseFacts B newId initId bmB) (TT : Tail bm B) {fI : Addr}
    (hC : h.get? C = some (excClassObj nm q C N bs bm hdct sn sub ab col dd k0 k1 k2 k3 k5 newId)) (hi : PySem.W.Looks (model prog w) h (typeLookup (.ref C) "__init__") (some (.ref fI)))
    (hb : ∀ me, PySem.W.Looks (model prog w) h (bindSpecial (.ref fI) me) (.ref fI, [me])) (hz : rest.length ≤ sizeLine)
    (hq : codeAny (model prog w) (A.under (.builtin "type.__call__" ⟨.ref C :: rest, kw⟩)) (.call (.ref fI) ⟨.ref (h.objs.size + 1) :: rest, kw⟩) (PySem.W.InitBack (h.objs.size + 1) R) ⟨(h.push (PySem.W.kdv_tup rest)).push (PySem.HandSPX.excO C h.objs.size), g, d, t, os⟩) :
    codeAny (model prog w) A (.call (.ref C) ⟨rest, kw⟩) R ⟨h, g, d, t, os⟩ := by
  have f1 := PySem.tc_lookup
  have f2 := PySem.tc_bind (.ref C)
  have hTy : (⟨h, g, d, t, os⟩ : Shared).TypeIs (.ref C) "type" := ⟨_, hC, rfl⟩
  refine codeAny_of_tree ?_
  show wpAny _ _ (callAny (.ref C) _) _ _ _
  repeat (any_goals (first | assumption | with_reducible refine wpAny_loadPart_at hC ?_ | wp_step))
  refine ⟨rfl, codeAny_call_builtin_at (Code.quiet_builtin _ (by decide +kernel)) entry_typeCall (wpAny_check_type_call_sub hC (ty_call F TT hC hi hb hz ?_))⟩
  refine codeAny_mono hq fun r s' z => ?_
  rcases r with e | (v | _ | _ | _) <;> exact z
end

/-- what the written part says of such a class -/
structure ErC (K : PySem.W.Frag) (C : Addr) (B newId : String) : Prop where
  cls : ∃ nm q N bs bm sn sub ab col dd k0 k1 k2 k3 k5, K.lookup C = some (excClassObj nm q C N bs bm true sn sub ab col dd k0 k1 k2 k3 k5 newId) ∧ Tail bm B
  sa : PySem.W.findIn K (.ref C) "__setattr__" = some (some (.builtin "object.__setattr__"))
  exC : PySem.W.subIn K (.ref C) (.type "BaseException") = some true
  tyC : PySem.W.typeIn K (.ref C) = some (.type "type")
  kC : PySem.W.keepIn K (.ref C) = true
theorem ErC.cd {K : PySem.W.Frag} {C : Addr} {B newId : String} (T : ErC K C B newId) : ∃ cd bm, PySem.W.clsIn K C = some cd ∧ cd.mro = .ref C :: bm ∧ cd.hasDict = true ∧ Tail bm B := by
  obtain ⟨nm, q, N, bs, bm, sn, sub, ab, col, dd, k0, k1, k2, k3, k5, hC, t⟩ := T.cls
  refine ⟨{ name := nm, bases := bs, mro := .ref C :: bm, ns := N, qualname := q, hasDict := true, slotNames := sn, subclasses := sub, abstract := ab, collection := col, hasDel := false }, bm, ?_, rfl, rfl, t⟩
  unfold PySem.W.clsIn
  rw [hC]

section
variable {X : Cx} {pins : List (Addr × Obj)} {σ : L2.St} {H : Hp} {s : Shared} {a C dx : Addr} {f : Str} {y : V} {u : Value} {fs : List (Str × V)} {Q : Unit → Shared → Prop} {E : Value → Shared → Prop} {A : Around} {B newId : String}
theorem st_first (T : ErC X.K C B newId) (I : Inv X pins σ H s) (e : H a = some (exo a C none)) (hno : PySem.W.findIn X.K (.ref C) f = some none) (ry : RelV y u)
    (h : ∀ dx s', H dx = none → dx ≠ a → Inv X pins σ (upd (upd H dx (exd dx [(f, y)])) a (exo a C (some dx))) s' → Q () s') : wpAny (model X.prog X.w) A (setAttr (.ref a) f u) Q E s := by
  obtain ⟨cd, bm, hcl, hm, hh, TT⟩ := T.cd
  obtain ⟨t1, ho⟩ := exo_at I.hok e
  obtain ⟨hp, g, d, t, os⟩ := s
  refine PySem.W.set_plain I.kIn (od := none) ⟨ho, rfl, rfl, trivial⟩ T.sa (osa_first I.kIn ho hcl hm hh TT hno fun h' tk' dx k dn dne hx hn => ?_)
  have nD : H dx = none := I.hok.fresh dn
  have nd : ∀ {b : Addr} {o : Obj}, hp.get? b = some o → b ≠ dx := fun q => Nat.ne_of_lt (Nat.lt_of_lt_of_le (Heap.lt_size q) dn)
  have na : ∀ {b : Addr}, H b = none → b ≠ a := fun {b} n z => by rw [z, e] at n; cases n
  have both : ∀ {b : Addr}, b ≠ a → b ≠ dx → upd (upd H dx (exd dx [(f, y)])) a (exo a C (some dx)) b = H b := fun h1 h2 => by rw [upd_ne h1, upd_ne h2]
  refine h dx _ nD dne (I.un (t' := tk') ⟨fun b o q n _ _ => k b o (na n) q, fun b o q n _ _ => ⟨o.slots, k b o (na n) q⟩, fun b o q n _ => (both (na n) (nd q)).trans n, fun b o q _ => ?_,
    fun b xs q => (both (at_ne e q exo_tup) (ne_of_none q nD)).trans q, fun b o v q => (both (at_ne e q exo_frz) (ne_of_none q nD)).trans q, fun b ps q => ⟨#[], by rw [both (at_ne e q exo_tbl) (ne_of_none q nD), q]; simp⟩⟩ fun b o q => ?_)
  · by_cases hb : b = a
    · exact ⟨_, by rw [hb]; exact hx⟩
    · exact ⟨o, k b o hb q⟩
  · by_cases hb : b = a
    · subst hb
      rw [upd_same] at q
      cases q
      exact exo_ok hx
    · by_cases hd : b = dx
      · subst hd
        rw [upd_ne hb, upd_same] at q
        cases q
        exact exd_ok hn (relO_put (fs := []) ry fun _ => True.intro)
      · rw [both hb hd] at q
        refine (I.hok b o q).stay (fun c v hc z => k c v ?_ z) (fun c hc => (both (at_ne e hc exo_own) (ne_of_none hc nD)).trans hc) fun c xs hc => (both (at_ne e hc exo_tup) (ne_of_none hc nD)).trans hc
        rcases hc with hc | hc
        · rw [hc]
          exact hb
        · exact at_ne e hc exo_own
theorem st_more (T : ErC X.K C B newId) (I : Inv X pins σ H s) (e : H a = some (exo a C (some dx))) (ed : H dx = some (exd dx fs)) (hl : fs.length ≤ 900) (hno : PySem.W.findIn X.K (.ref C) f = some none) (ry : RelV y u)
    (h : ∀ s', Inv X pins σ (upd H dx (exd dx ((f, y) :: fs))) s' → Q () s') : wpAny (model X.prog X.w) A (setAttr (.ref a) f u) Q E s := by
  obtain ⟨cd, bm, hcl, hm, hh, TT⟩ := T.cd
  obtain ⟨t1, ho⟩ := exo_at I.hok e
  obtain ⟨mA, hns, rel⟩ := exd_at I.hok ed
  have hw := within_of rel
  obtain ⟨hp, g, d, t, os⟩ := s
  obtain ⟨oD, _, _, hoD, _, _⟩ := hns.count hw
  have le : (fs.map (·.1)).length ≤ 1000 := by rw [List.length_map]; omega
  refine PySem.W.set_plain I.kIn (od := some oD) ⟨ho, rfl, rfl, hoD⟩ T.sa (osa_more I.kIn ho hns hw le hcl hm hh TT hno fun h' tk' k hn => ?_)
  obtain ⟨o, _, _, e', _⟩ := id hn
  exact h _ (I.write (t' := tk') (x := dx) (e := dx) (o := exd dx ((f, y) :: fs)) (by rw [ed]; exact True.intro) (.inl rfl) k ⟨o, e'⟩ (exd_ok hn (relO_put ry rel)))
end

/-- me.f = e in an error's __init__ -/
def tSt (K : PySem.W.Frag) (f : Str) (to te : TE) : TS := fun D σ H => te σ H fun y H1 => to σ H1 fun x H2 => ∃ (a C : Addr) (B newId : String), x = .ref a ∧ ErC K C B newId ∧ PySem.W.findIn K (.ref C) f = some none ∧
  ((H2 a = some (exo a C none) ∧ ∀ dx, H2 dx = none → dx ≠ a → D.nx σ (upd (upd H2 dx (exd dx [(f, y)])) a (exo a C (some dx)))) ∨
    ∃ (dx : Addr) (fs : List (Str × V)), H2 a = some (exo a C (some dx)) ∧ H2 dx = some (exd dx fs) ∧ fs.length ≤ 900 ∧ D.nx σ (upd H2 dx (exd dx ((f, y) :: fs))))
theorem ps_st {X : Cx} {o e : Expr} {to te : TE} {f : Str} {p' pos : Pos} (ho : PE X o to) (he : PE X e te) (hs : swapsWith e (some (.Attribute o f p')) pos.line X.env = pure false := by rfl) : PS X (.Assign [.Attribute o f p'] e pos) (tSt X.K f to te) := by
  refine ⟨fun pins s σ H D I h => plainObj_wpAny_Assign_Attribute (thn (he.run pins s σ H _ I h) fun v s1 r => ?_) hs⟩
  obtain ⟨y, H1, I1, r1, q1⟩ := r
  refine thn (ho.run pins s1 σ H1 _ I1 q1) fun u s2 r => ?_
  obtain ⟨x, H2, I2, r2, a, C, B, newId, ex, T, hno, q⟩ := r
  subst ex
  obtain rfl : u = Value.ref a := r2
  rcases q with ⟨ea, q⟩ | ⟨dx, fs, ea, ed, hl, q⟩
  · exact st_first T I2 ea hno r1 fun dx s' n ne J => ⟨σ, _, J, q dx n ne⟩
  · exact st_more T I2 ea ed hl hno r1 fun s' J => ⟨σ, _, J, q⟩

/-! ### C(e, ..): raised, or kept as a value -/
section
variable {X : Cx} {pins : List (Addr × Obj)} {σ : L2.St} {o e : Expr} {es : List Expr} {te : TE} {ta : TA} {f : Str} {p pos : Pos} {bmB : List Value} {B newId initId : String} {CX : CXT} {x : Str} {C fI : Addr} {k : Nat} {fd : FuncData} {ps : List Str} {sp : Sp} {ds : List Value} {dvs : List V}
/-- the class called, its own __init__ keeping sp -/
theorem er_core {kw : List (Str × Value)} {bv : Addr → List V} (F : ExcBaseFacts B newId initId bmB) (T : ErC X.K C B newId) (iC : PySem.W.findIn X.K (.ref C) "__init__" = some (some (.ref fI))) (tI : PySem.W.typeIn X.K (.ref fI) = some (.type "function")) (F1 : FnOk X.prog X.w X.K X.mg X.base CX k fI fd ps sp)
    (hr : Room (k + 1) X.A) (hx : Passes CX X (fun _ _ _ => False)) {H1 : Hp} {s1 : Shared} {vs : List V} {us : List Value} {Qx : Addr → VK} {P : Value → Shared → Prop} (I1 : Inv X pins σ H1 s1) (r1 : Vals vs us) (hz : vs.length ≤ 1000)
    (hb : ∀ (a : Addr) (s0 : Shared), X.K.In s0.heap → (bv a).length = ps.length → ∃ bd, BindsTo s0 fd ⟨.ref a :: us, kw⟩ (ps.zip bd) ∧ Vals (bv a) bd)
    (q1 : ∀ a, H1 a = none → sp (bv a) (upd H1 a (exo a C none)) (Qx a) (fun _ _ _ => False))
    (fin : ∀ (a : Addr) (s0 s' : Shared), s1.heap.objs.size ≤ a → H1 a = none → Inv X pins σ (upd H1 a (exo a C none)) s0 → (∀ b o, s1.heap.get? b = some o → s0.heap.get? b = some o) → CE X.stack X.prog X.w (upd H1 a (exo a C none)) s0 (Qx a) .none s' → s0.os = s1.os → P (.ref a) s')
    (non : ∀ a v H2, Qx a v H2 → v = .non) : wpAny (model X.prog X.w) X.A (call (.ref C) us kw) P X.xe s1 := by
  obtain ⟨nm, q, N, bs, bm, sn, sub, ab, col, dd, k0, k1, k2, k3, k5, hC, TT⟩ := T.cls
  obtain ⟨hp, g, dr, tk, os⟩ := s1
  have hsz : hp.objs.size ≤ hp.objs.size + 1 := Nat.le_succ _
  have hn : H1 (hp.objs.size + 1) = none := I1.hok.fresh hsz
  have hq := q1 (hp.objs.size + 1) hn
  have kk : ∀ b o, hp.get? b = some o → ((hp.push (PySem.W.kdv_tup us)).push (PySem.HandSPX.excO C hp.objs.size)).get? b = some o := fun b o z => Heap.get?_push_of_some _ (Heap.get?_push_of_some _ z)
  have at1 : ((hp.push (PySem.W.kdv_tup us)).push (PySem.HandSPX.excO C hp.objs.size)).get? (hp.objs.size + 1) = some (PySem.HandSPX.excO C hp.objs.size) := by heap_get
  have I2 := I1.laid (t' := tk) (a := hp.objs.size + 1) (o := exo (hp.objs.size + 1) C none) (h' := (hp.push (PySem.W.kdv_tup us)).push (PySem.HandSPX.excO C hp.objs.size)) kk hsz (exo_ok at1)
  obtain ⟨bd, bt, r2⟩ := hb (hp.objs.size + 1) _ I2.kIn (F1.len _ _ _ _ hq)
  have hus : us.length ≤ sizeLine := by
    rw [← Paired.length r1, sizeLine_eq]
    omega
  have body := F1.run _ X.stack _ _ ⟨Value.ref (hp.objs.size + 1) :: us, kw⟩ bd _ _ (fun _ _ _ => False) (hr.make C us kw) (I2.env0.make C us kw) bt r2 hq
  refine wpAny_call (cls_call F TT (I1.kIn _ _ hC) (PySem.W.looks_findIn I1.kIn iC) (fun me => PySem.W.bind_fn I1.kIn me tI) hus (codeAny_mono body fun r s' z => ?_))
  cases r with
  | error er => exact hx pins σ _ _ er s' I2 z
  | ok fl =>
    cases fl with
    | ret u =>
      have e : u = .none := by
        obtain ⟨v, H2, _, _, _, _, rv, y⟩ := z
        have ev := non _ _ _ y
        subst ev
        exact rv
      subst e
      exact ⟨rfl, fin _ _ s' hsz hn I2 kk z rfl⟩
    | next => exact False.elim z
    | brk => exact False.elim z
    | cont => exact False.elim z
theorem bd_pos {us : List Value} {vs : List V} (hb : Binds X.K fd ps ds) (hd : Vals dvs ds) (r1 : Vals vs us) (a : Addr) (s0 : Shared) (hk : X.K.In s0.heap) (hl : (V.ref a :: (vs ++ dvs)).length = ps.length) :
    ∃ bd, BindsTo s0 fd ⟨.ref a :: us, []⟩ (ps.zip bd) ∧ Vals (V.ref a :: (vs ++ dvs)) bd := by
  have r2 : Vals (V.ref a :: (vs ++ dvs)) (Value.ref a :: (us ++ ds)) := .cons rfl (r1.append hd)
  exact ⟨_, hb s0 (.ref a :: us) hk (r2.length.symm.trans hl), r2⟩
/-- raised -/
theorem pmk_er (F : ExcBaseFacts B newId initId bmB) (T : ErC X.K C B newId) (iC : PySem.W.findIn X.K (.ref C) "__init__" = some (some (.ref fI))) (tI : PySem.W.typeIn X.K (.ref fI) = some (.type "function")) (F1 : FnOk X.prog X.w X.K X.mg X.base CX k fI fd ps sp)
    (hr : Room (k + 1) X.A) (hb : Binds X.K fd ps ds) (hd : Vals dvs ds) (hx : Passes CX X (fun _ _ _ => False)) (hg : Gl X x) (hm : X.mg x = some (.ref C)) (ha : PA X (e :: es) ta)
    (hdb : (x == ("__debug__" : Str)) = false := by decide) (he : starEach (e :: es) X.env = (false, eval e X.env) :: starEach es X.env := by rfl) (hpl : (backTo pos (starEach es X.env)).any (·.1) = false := by rfl) :
    PMk X (.Call (.Name x p) (e :: es) [] pos) (tMkO C sp dvs ta) := by
  intro pins s σ H Q I h
  refine wpAny_Call_Name_kw (ld_glob I hg hm (PySem.W.callWith_K (h₀ := X.base) I.ok.mod.kin T.kC (thn (ha.run pos pins s σ H _ I h) fun us s1 z => ?_) he hpl) hdb)
  obtain ⟨vs, H1, I1, r1, hz, q1⟩ := z
  refine ⟨I1.kIn, er_core F T iC tI F1 hr hx I1 r1 hz (bd_pos hb hd r1) q1 (fun a s0 s' ha hn I2 kk z _ => ?_) fun _ _ _ y => y.1⟩
  obtain ⟨hp, g, dr, tk, os⟩ := s1
  obtain ⟨hp0, g0, dr0, tk0, os0⟩ := s0
  obtain ⟨v, H2, os2, bare2, un2, hok2, _, _, d, fs, ea, ed, hd1, q2⟩ := z
  obtain ⟨h2, g2, d2, t2, os'⟩ := s'
  exact mk_end (raises_own T.exC T.tyC) I1 ha kk un2 hok2 (by first | exact os2 | exact os2.trans ‹_›) bare2 ea ed hd1 q2
/-- kept as a value -/
def tEr (C : Addr) (sp : Sp) (dvs : List V) (ta : TA) : TE := fun σ H Q => ta σ H fun vs H1 => vs.length ≤ 1000 ∧ ∀ a, H1 a = none → sp (.ref a :: (vs ++ dvs)) (upd H1 a (exo a C none)) (fun v H2 => v = .non ∧ Q (.ref a) H2) (fun _ _ _ => False)
theorem pe_er (F : ExcBaseFacts B newId initId bmB) (T : ErC X.K C B newId) (iC : PySem.W.findIn X.K (.ref C) "__init__" = some (some (.ref fI))) (tI : PySem.W.typeIn X.K (.ref fI) = some (.type "function")) (F1 : FnOk X.prog X.w X.K X.mg X.base CX k fI fd ps sp)
    (hr : Room (k + 1) X.A) (hb : Binds X.K fd ps ds) (hd : Vals dvs ds) (hx : Passes CX X (fun _ _ _ => False)) (hg : Gl X x) (hm : X.mg x = some (.ref C)) (ha : PA X (e :: es) ta)
    (hdb : (x == ("__debug__" : Str)) = false := by decide) (he : starEach (e :: es) X.env = (false, eval e X.env) :: starEach es X.env := by rfl) (hpl : (backTo pos (starEach es X.env)).any (·.1) = false := by rfl) :
    PE X (.Call (.Name x p) (e :: es) [] pos) (tEr C sp dvs ta) := by
  refine ⟨fun pins s σ H Q I h => ?_⟩
  refine wpAny_Call_Name_kw (ld_glob I hg hm (PySem.W.callWith_K (h₀ := X.base) I.ok.mod.kin T.kC (thn (ha.run pos pins s σ H _ I h) fun us s1 z => ?_) he hpl) hdb)
  obtain ⟨vs, H1, I1, r1, hz, q1⟩ := z
  refine ⟨I1.kIn, er_core F T iC tI F1 hr hx I1 r1 hz (bd_pos hb hd r1) q1 (fun a s0 s' ha hn I2 kk z _ => ?_) fun _ _ _ y => y.1⟩
  obtain ⟨v, H2, J, _, _, q2⟩ := I2.after z
  exact ⟨.ref a, H2, J, rfl, q2⟩
/-- C(k = v, ..) kept as a value -/
def tErK (C : Addr) (m : Nat) (sp : Sp) (gV : List V → List V → List V) (tk : TA) : TE := fun σ H Q => tk σ H fun zs H1 => zs.length = m ∧ ∀ a, H1 a = none → sp (gV [.ref a] zs) (upd H1 a (exo a C none)) (fun v H2 => v = .non ∧ Q (.ref a) H2) (fun _ _ _ => False)
theorem pe_erK {ks : List Str} {kws : List Keyword} {tk : TA} {g : List Value → List Value → List Value} {gV : List V → List V → List V} (F : ExcBaseFacts B newId initId bmB) (T : ErC X.K C B newId) (iC : PySem.W.findIn X.K (.ref C) "__init__" = some (some (.ref fI)))
    (tI : PySem.W.typeIn X.K (.ref fI) = some (.type "function")) (F1 : FnOk X.prog X.w X.K X.mg X.base CX k fI fd ps sp) (hr : Room (k + 1) X.A) (hb : KBn X.K fd ps 1 ks g gV) (hx : Passes CX X (fun _ _ _ => False)) (hg : Gl X x) (hm : X.mg x = some (.ref C)) (hkw : PK X kws tk)
    (hall : (backToKw pos (keywordEach kws X.env)).all (·.1.isSome) = true := by rfl) (hks : (backToKw pos (keywordEach kws X.env)).filterMap (·.1) = ks := by rfl) (hdb : (x == ("__debug__" : Str)) = false := by decide)
    (hpl : ((backTo pos (starEach [] X.env)).any (·.1) || (backToKw pos (keywordEach kws X.env)).any (·.1.isNone)) = false := by rfl) :
    PE X (.Call (.Name x p) [] kws pos) (tErK C ks.length sp gV tk) := by
  refine ⟨fun pins s σ H Q I h => ?_⟩
  refine wpAny_Call_Name_kw (ld_glob I hg hm (PySem.W.callWith_KW0 (h₀ := X.base) I.ok.mod.kin T.kC hall ?_ hpl) hdb)
  refine thn (hkw.run pos pins s σ H _ I h) fun ws s1 z => ?_
  obtain ⟨zs, H1, I1, rz, l2, q1⟩ := z
  refine ⟨I1.kIn, ?_⟩
  rw [hks]
  have lw : ws.length = ks.length := rz.length.symm.trans l2
  show wpAny _ _ (call (Value.ref C) [] (ks.zip ws)) _ _ _
  refine er_core (vs := []) (bv := fun a => gV [.ref a] zs) F T iC tI F1 hr hx I1 .nil (by decide) (fun a s0 hk _ => ⟨_, hb.to s0 [.ref a] ws hk rfl lw, hb.rel (.cons rfl .nil) rz⟩) q1 (fun a s0 s' ha hn I2 kk z _ => ?_) fun _ _ _ y => y.1
  obtain ⟨v, H2, J, _, _, q2⟩ := I2.after z
  exact ⟨.ref a, H2, J, rfl, q2⟩
/-- a field of an error kept as a value -/
def tErF (K : PySem.W.Frag) (f : Str) (te : TE) : TE := fun σ H Q => te σ H fun x H1 => ∃ (a C d : Addr) (fs : List (Str × V)) (v : V), x = .ref a ∧ XfC K C ∧ PySem.W.findIn K (.ref C) f = some none ∧ H1 a = some (exo a C (some d)) ∧ H1 d = some (exd d fs) ∧ fs.lookup f = some v ∧ Q v H1
theorem pe_erf (he : PE X e te) (hb : attributeBase e f X.env (eval e X.env) = eval e X.env := by rfl) : PE X (.Attribute e f pos) (tErF X.K f te) := by
  refine ⟨fun pins s σ H Q I h => attr_of hb (thn (he.run pins s σ H _ I h) fun u s1 z => ?_)⟩
  obtain ⟨x, H1, I1, rx, a, C, d, fs, v, ex, T, hno, ea, ed, l, q⟩ := z
  subst ex
  obtain rfl : u = Value.ref a := rx
  obtain ⟨t1, ho⟩ := exo_at I1.hok ea
  obtain ⟨mA, hns, hr⟩ := exd_at I1.hok ed
  obtain ⟨od, hod, hl⟩ := lookIn_ns hns
  obtain ⟨u, hu, ru⟩ := RelO.some_of (v := v) (o := mA f) (by rw [← l]; exact hr f)
  exact HandSPX.exc_get I1.kIn (od := some od) ⟨ho, rfl, rfl, hod⟩ T.ga T.gg T.exC (PySem.W.findObj_own T.hdC hno rfl (by rw [hl, hu])) (handed_of ru) ⟨v, H1, I1.tok _, ru, q⟩
/-- isinstance of an error kept as a value -/
structure EisC (K : PySem.W.Frag) (C : Addr) : Prop where
  cl : (PySem.W.clsIn K C).isSome = true
  hg : PySem.W.findIn K (.ref C) "__getattribute__" = some (some (.builtin "BaseException.__getattribute__"))
  hk : PySem.W.findIn K (.ref C) "__getattr__" = some none
  hs : PySem.W.subIn K (.ref C) (.type "BaseException") = some true
  ha : PySem.W.findIn K (.ref C) "__class__" = some (some (.builtin "object.__class__"))
  hn : PySem.W.specialIn K (.builtin "object.__class__") "__get__" = some (some (.builtin "getset_descriptor.__get__"))
  ht : PySem.W.takesIn K (.builtin "object.__class__") = some true
  hm : PySem.W.mroIn K C (.type "object") = some true
def rIsEr (K : PySem.W.Frag) : List V → Hp → VK → Prop := fun xs H Q => ∃ (a C d : Addr) (fs : List (Str × V)) (c : V) (u : Value) (b : Bool), xs = [.ref a, c] ∧ ClsV c u ∧ EisC K C ∧ H a = some (exo a C (some d)) ∧ H d = some (exd d fs) ∧ PySem.W.kitOne K (.ref C) u = some b ∧ Q (.bl b) H
theorem call_isEr : CallR X (.builtin "isinstance") (rIsEr X.K) := by
  intro pins s σ H xs us Q I r h
  obtain ⟨a, C, d, fs, c, u, b, rfl, k, T, ea, ed, eb, q⟩ := h
  obtain ⟨u1, u2, rfl, r1, r2⟩ := vals2 r
  have e2 := k.eq r2
  subst e2
  obtain rfl : u1 = Value.ref a := r1
  obtain ⟨t1, ho⟩ := exo_at I.hok ea
  obtain ⟨mA, hns, hr⟩ := exd_at I.hok ed
  obtain ⟨od, hod, hl⟩ := lookIn_ns hns
  exact PySem.W.kia_one (PySem.W.kitx_exc (od := some od) T.cl T.hg T.hk T.hs T.ha T.hn T.ht T.hm) I.kIn ⟨ho, rfl, rfl, hod⟩ eb (fun z => nomatch z) fun tk => ⟨.bl b, H, I.tok tk, rfl, q⟩
end
end Xc
set_option maxRecDepth 100000
set_option maxHeartbeats 4000000
/-! Errors kept as values: made without an __init__ of their own, raised so; isinstance, == and != of them. -/
namespace Xc
open PySem PySem.Spec PyProof.Rows L2
/-- an error of the class C at a, with a dict or without -/
def ErV (H : Hp) (a C : Addr) : Prop := (∃ d fs, H a = some (exo a C (some d)) ∧ H d = some (exd d fs)) ∨ H a = some (ExO (.ref C) a)
section
variable {X : Cx} {pins : List (Addr × Obj)} {σ : L2.St} {H : Hp} {s : Shared} {a b C D : Addr}
theorem erV_inst (I : Inv X pins σ H s) (h : ErV H a C) : ∃ ox od, PySem.W.InstAt s.heap a ox C od := by
  rcases h with ⟨d, fs, ea, ed⟩ | ea
  · obtain ⟨t1, ho⟩ := exo_at I.hok ea
    obtain ⟨mA, hns, hr⟩ := exd_at I.hok ed
    obtain ⟨od, hod, hl⟩ := lookIn_ns hns
    exact ⟨_, some od, ho, rfl, rfl, hod⟩
  · obtain ⟨⟨oe, vs, ho, hz, hd, _⟩, _, _⟩ := I.hok a _ ea
    obtain ⟨oc, od, dt, sl⟩ := oe
    obtain ⟨z1, z2⟩ := hz
    dsimp only at z1 z2 hd
    subst z1 z2 hd
    exact ⟨_, none, ho, rfl, rfl, trivial⟩
theorem ErV.ex {H' : Hp} (h : ErV H a C) (e : Evl.Ex H H') : ErV H' a C := by
  rcases h with ⟨d, fs, ea, ed⟩ | ea
  · exact .inl ⟨d, fs, e _ _ ea, e _ _ ed⟩
  · exact .inr (e _ _ ea)
end

/-! ### C() and raise C(), C without an __init__ of its own -/
section
variable {X : Cx} {C : Addr} {bmB : List Value} {B newId initId : String} {x : Str} {p pos : Pos}
theorem pe_exc0 (F : ExcBaseFacts B newId initId bmB) (q : PySem.W.excIn X.K C bmB newId = true) (gC : X.mg x = some (.ref C)) (kC : PySem.W.keepIn X.K (.ref C) = true) (hg : Gl X x) (hdb : (x == ("__debug__" : Str)) = false := by decide) :
    PE X (.Call (.Name x p) [] [] pos) (fun _ H Q => ∀ a, H a = none → Q (.ref a) (upd H a (ExO (.ref C) a))) := by
  refine ⟨fun pins s σ H Q I h => ?_⟩
  refine wpAny_Call_Name_kw (ld_glob I hg gC (PySem.W.callWith_K0 I.kIn kC ?_) hdb)
  obtain ⟨bm, N, nm, qn, bs, hdct, sn, sub, ab, col, dd, k0, k1, k2, k3, k5, mN, hC, hN, hni, T⟩ := exc_obj I.kIn q
  refine wpAny_call_exc_subT F T hC hN hni (fun h' a hm => ?_) (by decide)
  have hn : H a = none := I.hok.gone hm.new
  obtain ⟨t, ht, _, _⟩ := hm.there
  exact ⟨.ref a, upd H a (ExO (.ref C) a), I.laidN hm.keeps hm.new hn (exO_ok ht ⟨rfl, rfl⟩ rfl rfl rfl (show 4 < 6 by decide)), rfl, h a hn⟩
theorem pmk_exc0 (F : ExcBaseFacts B newId initId bmB) (q : PySem.W.excIn X.K C bmB newId = true) (gC : X.mg x = some (.ref C)) (kC : PySem.W.keepIn X.K (.ref C) = true) (r : Raises X (.ref C)) (hg : Gl X x) (hdb : (x == ("__debug__" : Str)) = false := by decide) :
    PMk X (.Call (.Name x p) [] [] pos) (fun _ H Q => Q (.ref C) none H) := by
  intro pins s σ H Q I h
  refine wpAny_Call_Name_kw (ld_glob I hg gC (PySem.W.callWith_K0 I.kIn kC ?_) hdb)
  obtain ⟨bm, N, nm, qn, bs, hdct, sn, sub, ab, col, dd, k0, k1, k2, k3, k5, mN, hC, hN, hni, T⟩ := exc_obj I.kIn q
  exact wpAny_call_exc_subT F T hC hN hni (fun h' e hm => mk_of I hm r h (I.hok.gone hm.new)) (by decide)
end

/-! ### isinstance -/
def rIsEv (K : PySem.W.Frag) : List V → Hp → VK → Prop := fun xs H Q => ∃ (a C : Addr) (c : V) (u : Value) (b : Bool), xs = [.ref a, c] ∧ ClsV c u ∧ EisC K C ∧ ErV H a C ∧ PySem.W.kitOne K (.ref C) u = some b ∧ Q (.bl b) H
theorem call_isEv {X : Cx} : CallR X (.builtin "isinstance") (rIsEv X.K) := by
  intro pins s σ H xs us Q I r h
  obtain ⟨a, C, c, u, b, rfl, k, T, ea, eb, q⟩ := h
  obtain ⟨u1, u2, rfl, r1, r2⟩ := vals2 r
  have e2 := k.eq r2
  subst e2
  obtain rfl : u1 = Value.ref a := r1
  obtain ⟨ox, od, J⟩ := erV_inst I ea
  exact PySem.W.kia_one (PySem.W.kitx_exc (od := od) T.cl T.hg T.hk T.hs T.ha T.hn T.ht T.hm) I.kIn J eb (fun z => nomatch z) fun tk => ⟨.bl b, H, I.tok tk, rfl, q⟩

/-! ### == and != of two errors: they are not the same -/
structure EqC (K : PySem.W.Frag) (C : Addr) : Prop where
  mo : PySem.W.mroIn K C (.type "object") = some true
  eq : PySem.W.findIn K (.ref C) "__eq__" = some (some (.builtin "object.__eq__"))
  ne : PySem.W.findIn K (.ref C) "__ne__" = some (some (.builtin "object.__ne__"))
section
variable {M : Model} {prog : Program} {w : World} {A : Around} {E : Value → Shared → Prop} {s : Shared} {K : PySem.W.Frag} {x y C D : Addr} {ox oy : Obj} {od oe : Option Obj}
theorem inst_nt (I : PySem.W.InstAt s.heap x ox C od) : ox.cls ≠ .type "tuple" := by
  rw [I.cls]
  nofun
theorem eq_special {Q : Option Value → Shared → Prop} (T : EqC K C) (X : K.In s.heap) (I : PySem.W.InstAt s.heap x ox C od) (hy : s.heap.get? y = some oy) (hxy : x ≠ y) (hq : Q (some .notImplemented) s) :
    wpAny (model prog w) A (callSpecialIfBound? (.ref x) "__eq__" [.ref y]) Q E s :=
  HN.ifBound_objEq X I T.eq (wpAny_call (codeAny_call_builtin F.cmp_object.eq.plain F.cmpEntry_eq (PySem.W.check_slot F.cmpKind_eq F.cmpSplit_eq (I.type.andThen (PySem.W.looks_mroIn X T.mo)) (F.cmpArgs_eq _ _) (objEq_entry_other hxy I.at_ hy (inst_nt I) hq))))
theorem ne_bound {args : List Value} {Q : Option Value → Shared → Prop} (X : K.In s.heap) (I : PySem.W.InstAt s.heap x ox C od) (T : EqC K C) (h : wpAny M A (call (.builtin "object.__ne__") (.ref x :: args)) (fun v => Q (some v)) E s) :
    wpAny M A (callSpecialIfBound? (.ref x) "__ne__" args) Q E s := by
  simp only [callSpecialIfBound?, bindSpecialIfBound?]
  refine wpAny_holding (wpAny_bind (wpAny_bind (wpAny_bind (I.type.here ((PySem.W.looks_findIn X T.ne).here ?_)))))
  refine wpAny_bind (wpAny_askSetting (wpAny_ite ?_))
  have fin : wpAny M A (call (.builtin "object.__ne__") ([.ref x] ++ args) >>= fun v => pure (some v)) Q E s := wpAny_bind (wpAny_mono h (fun v s' z => wpAny_pure z) fun _ _ z => z)
  split
  · exact wpAny_bind (wpAny_of_eq (F.cmp_object.ne.bind _) (wpAny_pure (by exact fin)))
  · exact wpAny_tryCatch (wpAny_bind (wpAny_of_eq (F.cmp_object.ne.bind _) (wpAny_pure (by exact fin))))
theorem ne_entry {Q : Fin → Shared → Prop} (T : EqC K C) (X : K.In s.heap) (I : PySem.W.InstAt s.heap x ox C od) (hy : s.heap.get? y = some oy) (hxy : x ≠ y) (hu : A.units < cLine) (hq : Q (.done (.ret .notImplemented)) s) :
    wpAny (model prog w) A (Builtin.«object.__ne__» ⟨[.ref x, .ref y], []⟩) Q E s := by
  unfold Builtin.«object.__ne__»
  repeat (first | with_reducible refine wpAny_cRoomFor hu ?_ | with_reducible refine eq_special T X I hy hxy ?_ | wp_step)
  exact hq
theorem ne_special {Q : Option Value → Shared → Prop} (T : EqC K C) (X : K.In s.heap) (I : PySem.W.InstAt s.heap x ox C od) (hy : s.heap.get? y = some oy) (hxy : x ≠ y) (hu : A.units + 1 < cLine) (hq : Q (some .notImplemented) s) :
    wpAny (model prog w) A (callSpecialIfBound? (.ref x) "__ne__" [.ref y]) Q E s :=
  ne_bound X I T (wpAny_call (codeAny_call_builtin F.cmp_object.ne.plain F.cmpEntry_ne (PySem.W.check_slot F.cmpKind_ne F.cmpSplit_ne (I.type.andThen (PySem.W.looks_mroIn X T.mo)) (F.cmpArgs_ne _ _) (ne_entry T X I hy hxy (by exact hu) hq))))
/-- the two ways of asking, and what both say -/
theorem rich_other {op : CmpOp} {f : Str} {Q : Value → Shared → Prop} (e : cmpInfo op = (if op = .Eq then "==" else "!=", f, f)) (hop : op = .Eq ∨ op = .NotEq) (hu : A.units < cLine) (X : K.In s.heap) (I : PySem.W.InstAt s.heap x ox C od) (J : PySem.W.InstAt s.heap y oy D oe) (hxy : x ≠ y)
    (hs : PySem.W.subIn K (.ref D) (.ref C) = some false)
    (one : ∀ {Q : Option Value → Shared → Prop}, Q none s → wpAny (model prog w) A (tryCompare (.ref x) f (.ref y)) Q E s) (two : ∀ {Q : Option Value → Shared → Prop}, Q none s → wpAny (model prog w) A (tryCompare (.ref y) f (.ref x)) Q E s)
    (hq : Q (.bool (decide (op = .NotEq))) s) : wpAny (model prog w) A (richCompare op (.ref x) (.ref y)) Q E s := by
  have same : ∀ {Q : Bool → Shared → Prop}, Q false s → wpAny (model prog w) A (isSame (.ref x) (.ref y)) Q E s := fun {Q} q => wpAny_isSame_ref_other hxy I.at_ J.at_ (inst_nt I) q
  rcases hop with rfl | rfl
  all_goals
    simp only [richCompare, e, oneThing_ref]
    refine wpAny_holding (wpAny_bind (wpAny_cRoomFor hu ?_))
    refine wpAny_bind (I.type.here (wpAny_bind (J.type.here ?_)))
    by_cases hCD : C = D
    · subst hCD
      rw [if_neg (by simp)]
      refine wpAny_bind (wpAny_pure ?_)
      simp only [Bool.false_eq_true, if_false, Bool.not_false, if_true]
      exact wpAny_bind (one (wpAny_bind (two (wpAny_bind (wpAny_rule (wpAny_bind (same (wpAny_pure hq))))))))
    · rw [if_pos (by simp [hCD])]
      refine wpAny_bind ((PySem.W.looks_subIn X hs).here ?_)
      simp only [Bool.false_eq_true, if_false, Bool.not_false, if_true]
      exact wpAny_bind (one (wpAny_bind (two (wpAny_bind (wpAny_rule (wpAny_bind (same (wpAny_pure hq))))))))
end
def rEr (K : PySem.W.Frag) (c : Bool) : R2 := fun x y H Q => ∃ a b C D, x = .ref a ∧ y = .ref b ∧ a ≠ b ∧ ErV H a C ∧ ErV H b D ∧ EqC K C ∧ EqC K D ∧ PySem.W.subIn K (.ref D) (.ref C) = some false ∧ Q (.bl c) H
theorem op_eqEr {X : Cx} (hu : X.A.units < cLine) : OpR X (compareOp .Eq) (rEr X.K false) := by
  intro pins s σ H x y v u Q I rx ry h
  obtain ⟨a, b, C, D, rfl, rfl, hab, ha, hb, TC, TD, hs, q⟩ := h
  obtain rfl : v = Value.ref a := rx
  obtain rfl : u = Value.ref b := ry
  obtain ⟨ox, od, J⟩ := erV_inst I ha
  obtain ⟨oy, oe, J2⟩ := erV_inst I hb
  refine rich_other (op := .Eq) (f := "__eq__") rfl (.inl rfl) hu I.kIn J J2 hab hs (fun {Q} q => ?_) (fun {Q} q => ?_) ⟨.bl false, H, I, rfl, q⟩
  · unfold tryCompare
    exact wpAny_bind (eq_special TC I.kIn J J2.at_ hab (wpAny_pure q))
  · unfold tryCompare
    exact wpAny_bind (eq_special TD I.kIn J2 J.at_ (Ne.symm hab) (wpAny_pure q))
theorem op_neEr {X : Cx} (hu : X.A.units + 1 < cLine) : OpR X (compareOp .NotEq) (rEr X.K true) := by
  intro pins s σ H x y v u Q I rx ry h
  obtain ⟨a, b, C, D, rfl, rfl, hab, ha, hb, TC, TD, hs, q⟩ := h
  obtain rfl : v = Value.ref a := rx
  obtain rfl : u = Value.ref b := ry
  obtain ⟨ox, od, J⟩ := erV_inst I ha
  obtain ⟨oy, oe, J2⟩ := erV_inst I hb
  refine rich_other (op := .NotEq) (f := "__ne__") rfl (.inr rfl) (Nat.lt_of_succ_lt hu) I.kIn J J2 hab hs (fun {Q} q => ?_) (fun {Q} q => ?_) ⟨.bl true, H, I, rfl, q⟩
  · unfold tryCompare
    exact wpAny_bind (ne_special TC I.kIn J J2.at_ hab hu (wpAny_pure q))
  · unfold tryCompare
    exact wpAny_bind (ne_special TD I.kIn J2 J.at_ (Ne.symm hab) hu (wpAny_pure q))
end Xc
set_option maxRecDepth 100000
set_option maxHeartbeats 4000000
/-! What is asked of an error class, as one Bool over the written part; its __init__ that stores one field or two; the readings made short. -/
namespace Xc
open PySem PySem.Spec PyProof.Rows L2
open PySem.W in
def erB (K : Frag) (C : Addr) (newId : String) (tl : List Value) (fs : List Str) : Bool :=
  (match K.lookup C with
    | some ⟨.type "type", _, .cls cd, sl⟩ => (match cd.mro, sl.toList with
      | .ref C' :: bm, [_, _, _, _, some (.builtin n), _] => C' == C && n == newId && !cd.hasDel && cd.hasDict && over bm tl
      | _, _ => false)
    | _ => false) &&
  (findIn K (.ref C) "__setattr__" == some (some (.builtin "object.__setattr__")) && (subIn K (.ref C) (.type "BaseException") == some true && (typeIn K (.ref C) == some (.type "type") && (keepIn K (.ref C) &&
  (findIn K (.ref C) "__getattribute__" == some (some (.builtin "BaseException.__getattribute__")) && (findIn K (.ref C) "__getattr__" == some none && (hasDictIn K C && (findIn K (.ref C) "__class__" == some (some (.builtin "object.__class__")) &&
  (specialIn K (.builtin "object.__class__") "__get__" == some (some (.builtin "getset_descriptor.__get__")) && (takesIn K (.builtin "object.__class__") == some true && (mroIn K C (.type "object") == some true &&
  (findIn K (.ref C) "__eq__" == some (some (.builtin "object.__eq__")) && (findIn K (.ref C) "__ne__" == some (some (.builtin "object.__ne__")) && fs.all fun f => findIn K (.ref C) f == some none)))))))))))))
structure ErX (K : PySem.W.Frag) (C : Addr) (B newId : String) (fs : List Str) : Prop where
  c : ErC K C B newId
  x : XfC K C
  i : EisC K C
  e : EqC K C
  no : ∀ f ∈ fs, PySem.W.findIn K (.ref C) f = some none
theorem erB_cls {K : PySem.W.Frag} {C : Addr} {newId B : String} {tl : List Value} (t : Tail tl B) (h : (match K.lookup C with
    | some ⟨.type "type", _, .cls cd, sl⟩ => (match cd.mro, sl.toList with
      | .ref C' :: bm, [_, _, _, _, some (.builtin n), _] => C' == C && n == newId && !cd.hasDel && cd.hasDict && over bm tl
      | _, _ => false)
    | _ => false) = true) :
    ∃ nm q N bs bm sn sub ab col dd k0 k1 k2 k3 k5, K.lookup C = some (excClassObj nm q C N bs bm true sn sub ab col dd k0 k1 k2 k3 k5 newId) ∧ Tail bm B := by
  split at h
  · rename_i dd cd sl ho
    split at h
    · rename_i C' bm k0 k1 k2 k3 n k5 hm hs
      simp only [Bool.and_eq_true, beq_iff_eq, Bool.not_eq_true'] at h
      obtain ⟨⟨⟨⟨rfl, rfl⟩, hdel⟩, hdct⟩, ho2⟩ := h
      obtain ⟨nm, bs, mro, ns, qn, hd, sn, sub, ab, col, del⟩ := cd
      dsimp only at hm hdel hdct
      subst hm hdel hdct
      have hsl : sl = #[k0, k1, k2, k3, some (.builtin n), k5] := by
        obtain ⟨l⟩ := sl
        simp only at hs
        rw [hs]
      subst hsl
      exact ⟨nm, qn, ns, bs, bm, sn, sub, ab, col, dd, k0, k1, k2, k3, k5, ho, over_ok t bm ho2⟩
    · cases h
  · cases h
theorem erB_ok {K : PySem.W.Frag} {C : Addr} {newId B : String} {tl : List Value} {fs : List Str} (t : Tail tl B) (h : erB K C newId tl fs = true) : ErX K C B newId fs := by
  unfold erB at h
  simp only [Bool.and_eq_true, beq_iff_eq, List.all_eq_true] at h
  obtain ⟨h0, h1, h2, h3, h4, h5, h6, h7, h8, h9, h10, h11, h12, h13, h14⟩ := h
  refine ⟨⟨erB_cls t h0, h1, h2, h3, h4⟩, ⟨h5, h6, h2, h7⟩, ⟨?_, h5, h6, h2, h8, h9, h10, h11⟩, ⟨h11, h12, h13⟩, h14⟩
  obtain ⟨nm, q, N, bs, bm, sn, sub, ab, col, dd, k0, k1, k2, k3, k5, hC, _⟩ := erB_cls t h0
  unfold PySem.W.clsIn
  rw [hC]
  rfl

/-! ### the __init__ that stores what it is given -/
/-- one field -/
def spI (C : Addr) (f : Str) : Sp := fun vs H Q _ => ∃ a v, vs = [.ref a, v] ∧ H a = some (exo a C none) ∧ ∀ dx, H dx = none → dx ≠ a → Q .non (upd (upd H dx (exd dx [(f, v)])) a (exo a C (some dx)))
/-- two fields, f and then g -/
def spI2 (C : Addr) (f g : Str) : Sp := fun vs H Q _ => ∃ a v u, vs = [.ref a, v, u] ∧ H a = some (exo a C none) ∧ ∀ dx, H dx = none → dx ≠ a → Q .non (upd (upd (upd H dx (exd dx [(f, v)])) a (exo a C (some dx))) dx (exd dx [(g, u), (f, v)]))
/-- an error at a, of the class C, with these fields -/
def FldV (H : Hp) (a C : Addr) (fs : List (Str × V)) : Prop := ∃ d, H a = some (exo a C (some d)) ∧ H d = some (exd d fs)
theorem FldV.ex {H H' : Hp} {a C : Addr} {fs : List (Str × V)} (h : FldV H a C fs) (e : Evl.Ex H H') : FldV H' a C fs := by
  obtain ⟨d, h1, h2⟩ := h
  exact ⟨d, e _ _ h1, e _ _ h2⟩
theorem FldV.er {H : Hp} {a C : Addr} {fs : List (Str × V)} (h : FldV H a C fs) : ErV H a C := by
  obtain ⟨d, h1, h2⟩ := h
  exact .inl ⟨d, fs, h1, h2⟩
theorem heap1 {H : Hp} {a dx C : Addr} {fs : List (Str × V)} {o : HO} (na : H a = none) (nd : H dx = none) (ne : dx ≠ a) : upd (del (upd (upd (upd H a o) dx (exd dx fs)) a (exo a C (some dx))) a) dx (.xd fs) = upd H dx (.xd fs) := by
  funext b
  by_cases hd : b = dx
  · rw [hd, upd_same, upd_same]
  · rw [upd_ne hd, upd_ne hd]
    by_cases hb : b = a
    · rw [hb, del_same, na]
    · rw [del_ne hb, upd_ne hb, upd_ne hd, upd_ne hb]
theorem heap2 {H : Hp} {a dx C : Addr} {fs gs : List (Str × V)} {o : HO} (na : H a = none) (nd : H dx = none) (ne : dx ≠ a) :
    upd (del (upd (upd (upd (upd H a o) dx (exd dx fs)) a (exo a C (some dx))) dx (exd dx gs)) a) dx (.xd gs) = upd H dx (.xd gs) := by
  funext b
  by_cases hd : b = dx
  · rw [hd, upd_same, upd_same]
  · rw [upd_ne hd, upd_ne hd]
    by_cases hb : b = a
    · rw [hb, del_same, na]
    · rw [del_ne hb, upd_ne hd, upd_ne hb, upd_ne hd, upd_ne hb]
theorem upd_none {H : Hp} {a b : Addr} {o : HO} (h : upd H a o b = none) : H b = none ∧ b ≠ a := by
  by_cases e : b = a
  · rw [e, upd_same] at h
    cases h
  · rw [upd_ne e] at h
    exact ⟨h, e⟩
/-- raise C(v) -/
theorem mk1 {C : Addr} {f : Str} {H1 : Hp} {v : V} {Q : XK} (k : ∀ d, H1 d = none → Q (.ref C) (some d) (upd H1 d (.xd [(f, v)]))) : [v].length ≤ 1000 ∧ ∀ a, H1 a = none → spI C f (.ref a :: ([v] ++ [])) (upd H1 a (exo a C none))
    (fun v H2 => v = .non ∧ ∃ (d : Addr) (fs : List (Str × V)), H2 a = some (exo a C (some d)) ∧ H2 d = some (exd d fs) ∧ H1 d = none ∧ Q (.ref C) (some d) (upd (del H2 a) d (.xd fs))) (fun _ _ _ => False) := by
  refine ⟨by simp, fun a na => ⟨a, v, rfl, upd_same, fun dx nd ne => ⟨rfl, dx, [(f, v)], upd_same, ?_, (upd_none nd).1, ?_⟩⟩⟩
  · rw [upd_ne ne, upd_same]
  · rw [heap1 na (upd_none nd).1 ne]
    exact k dx (upd_none nd).1
/-- raise C(v, u) -/
theorem mk2 {C : Addr} {f g : Str} {H1 : Hp} {v u : V} {Q : XK} (k : ∀ d, H1 d = none → Q (.ref C) (some d) (upd H1 d (.xd [(g, u), (f, v)]))) : [v, u].length ≤ 1000 ∧ ∀ a, H1 a = none → spI2 C f g (.ref a :: ([v, u] ++ [])) (upd H1 a (exo a C none))
    (fun v H2 => v = .non ∧ ∃ (d : Addr) (fs : List (Str × V)), H2 a = some (exo a C (some d)) ∧ H2 d = some (exd d fs) ∧ H1 d = none ∧ Q (.ref C) (some d) (upd (del H2 a) d (.xd fs))) (fun _ _ _ => False) := by
  refine ⟨by simp, fun a na => ⟨a, v, u, rfl, upd_same, fun dx nd ne => ⟨rfl, dx, [(g, u), (f, v)], ?_, upd_same, (upd_none nd).1, ?_⟩⟩⟩
  · rw [upd_ne (Ne.symm ne), upd_same]
  · rw [heap2 na (upd_none nd).1 ne]
    exact k dx (upd_none nd).1
/-- C(v) as a value -/
theorem ob1 {C : Addr} {f : Str} {H1 : Hp} {v : V} {Q : VK} (k : ∀ a H2, Evl.Ex H1 H2 → H1 a = none → FldV H2 a C [(f, v)] → Q (.ref a) H2) (a : Addr) (na : H1 a = none) {E : XK} :
    spI C f [.ref a, v] (upd H1 a (exo a C none)) (fun v H2 => v = .non ∧ Q (.ref a) H2) E := by
  refine ⟨a, v, rfl, upd_same, fun dx nd ne => ⟨rfl, k a _ (fun x o hx => ?_) na ⟨dx, upd_same, by rw [upd_ne ne, upd_same]⟩⟩⟩
  rw [upd_ne (ne_of_none hx na), upd_ne (ne_of_none hx (upd_none nd).1), upd_ne (ne_of_none hx na)]
  exact hx
/-- C(v, u) as a value -/
theorem ob2 {C : Addr} {f g : Str} {H1 : Hp} {v u : V} {Q : VK} (k : ∀ a H2, Evl.Ex H1 H2 → H1 a = none → FldV H2 a C [(g, u), (f, v)] → Q (.ref a) H2) (a : Addr) (na : H1 a = none) {E : XK} :
    spI2 C f g [.ref a, v, u] (upd H1 a (exo a C none)) (fun v H2 => v = .non ∧ Q (.ref a) H2) E := by
  refine ⟨a, v, u, rfl, upd_same, fun dx nd ne => ⟨rfl, k a _ (fun x o hx => ?_) na ⟨dx, by rw [upd_ne (Ne.symm ne), upd_same], upd_same⟩⟩⟩
  have n0 := (upd_none nd).1
  rw [upd_ne (ne_of_none hx n0), upd_ne (ne_of_none hx na), upd_ne (ne_of_none hx n0), upd_ne (ne_of_none hx na)]
  exact hx
/-- C() as a value -/
theorem ob0 {C : Addr} {H1 : Hp} {Q : VK} (k : ∀ a H2, Evl.Ex H1 H2 → H1 a = none → ErV H2 a C → Q (.ref a) H2) (a : Addr) (na : H1 a = none) : Q (.ref a) (upd H1 a (ExO (.ref C) a)) :=
  k a _ (Evl.Ex.new na) na (.inr upd_same)
end Xc
namespace Xc
open PySem PySem.Spec PyProof.Rows L2
/-- which of these classes is one of which: all lie under E but N, which is a KeyError -/
def tabB (K : PySem.W.Frag) (cs : List Addr) (E N : Addr) : Bool :=
  decide cs.Nodup && (cs.all (fun c => cs.all fun d => PySem.W.exmOne K (.ref c) (.ref d) == some (c == d) && (PySem.W.kitOne K (.ref c) (.ref d) == some (c == d) && PySem.W.subIn K (.ref c) (.ref d) == some (c == d))) &&
  cs.all fun c => PySem.W.exmOne K (.ref c) (.ref E) == some (c != N) && (PySem.W.exmOne K (.ref c) (.type "KeyError") == some (c == N) && (PySem.W.kitOne K (.ref c) (.ref E) == some (c != N) && (PySem.W.kitOne K (.ref c) (.type "KeyError") == some (c == N) &&
    PySem.W.kitOne K (.ref c) (.type "ValueError") == some false))))
section
variable {K : PySem.W.Frag} {cs : List Addr} {E N : Addr}
theorem tab_nodup (h : tabB K cs E N = true) : cs.Nodup := by
  unfold tabB at h
  simp only [Bool.and_eq_true, decide_eq_true_eq] at h
  exact h.1
theorem tab_pair (h : tabB K cs E N = true) {c d : Addr} (hc : c ∈ cs) (hd : d ∈ cs) :
    PySem.W.exmOne K (.ref c) (.ref d) = some (c == d) ∧ PySem.W.kitOne K (.ref c) (.ref d) = some (c == d) ∧ PySem.W.subIn K (.ref c) (.ref d) = some (c == d) := by
  unfold tabB at h
  simp only [Bool.and_eq_true, List.all_eq_true, beq_iff_eq] at h
  exact h.2.1 c hc d hd
theorem tab_one (h : tabB K cs E N = true) {c : Addr} (hc : c ∈ cs) :
    PySem.W.exmOne K (.ref c) (.ref E) = some (c != N) ∧ PySem.W.exmOne K (.ref c) (.type "KeyError") = some (c == N) ∧ PySem.W.kitOne K (.ref c) (.ref E) = some (c != N) ∧ PySem.W.kitOne K (.ref c) (.type "KeyError") = some (c == N) ∧
    PySem.W.kitOne K (.ref c) (.type "ValueError") = some false := by
  unfold tabB at h
  simp only [Bool.and_eq_true, List.all_eq_true, beq_iff_eq] at h
  exact h.2.2 c hc
end
end Xc
set_option maxRecDepth 100000
set_option maxHeartbeats 4000000
/-! try with several except clauses, each with a name or without (the hand layer has several without, or one with). -/
namespace Xc
open PySem PySem.Spec PyProof.Rows L2
abbrev Cl := Value × Option Nat × (Addr → Value → Option Addr → TS)
/-- what the name of a clause adds: its slot holds the error in the suite, and nothing behind it -/
def named (j : Option Nat) (a : Addr) (t : TS) : TS := match j with
  | none => t
  | some i => fun D σ H => t { nx := fun σ' H' => D.nx (σ'.set i none) H', rt := D.rt, bk := fun σ' H' => D.bk (σ'.set i none) H', ct := fun σ' H' => D.ct (σ'.set i none) H' } (σ.set i (some (.ref a))) H
def wAll (K : PySem.W.Frag) (Wout : WX) (D : Ends) : List Cl → WX
  | [] => Wout
  | (c, j, ts) :: r => fun cls d σ H => ∃ b, PySem.W.exmOne K cls c = some b ∧ (b = true → ∀ a, H a = none → named j a (ts a cls d) D σ H) ∧ (b = false → wAll K Wout D r cls d σ H)
inductive Hds (X : Cx) : List ExceptHandler → List Cl → Prop
  | nil : Hds X [] []
  | bare {x : Str} {c : Value} {ts : Addr → Value → Option Addr → TS} {b₀ : Stmt} {suite : List Stmt} {np pos' : Pos} {hds : List ExceptHandler} {l : List Cl} (hc : Names X x c)
      (hsu : ∀ (a : Addr) (oe : Obj) (cls : Value) (d : Option Addr) (pn : List (Addr × Obj)), Zc cls d oe → (∃ vs, oe.data = .fields vs) → PSs (X.suite a ((a, oe) :: pn)) (b₀ :: suite) (ts a cls d)) (r : Hds X hds l) :
      Hds X (.ExceptHandler (some (.Name x np)) none (b₀ :: suite) pos' :: hds) ((c, none, ts) :: l)
  | as_ {x n : Str} {i : Nat} {c : Value} {ts : Addr → Value → Option Addr → TS} {b₀ : Stmt} {suite : List Stmt} {np pos' : Pos} {hds : List ExceptHandler} {l : List Cl} (hN : X.N.Nodup) (hi : X.N[i]? = some n) (hln : X.env.kindOf n = some .local) (hc : Names X x c)
      (hsu : ∀ (a : Addr) (oe : Obj) (cls : Value) (d : Option Addr) (pn : List (Addr × Obj)), Zc cls d oe → (∃ vs, oe.data = .fields vs) → PSs (X.suite a ((a, oe) :: pn)) (b₀ :: suite) (ts a cls d)) (r : Hds X hds l) :
      Hds X (.ExceptHandler (some (.Name x np)) (some n) (b₀ :: suite) pos' :: hds) ((c, some i, ts) :: l)
section
variable {X : Cx} {body : List Stmt} {h₀ : ExceptHandler} {hds : List ExceptHandler} {l : List Cl} {pos : Pos} {tb : WX → TS} {Wout : WX}
theorem ps_try_all (hs : X.stack = X.env :: X.outer) (hf : X.env.frame = some X.env.locals) (tk : Takes X Wout)
    (hb : ∀ (W : WX) (pn : List (Addr × Obj)) (xe : Value → Shared → Prop), Takes (X.tr pn xe) W → PassesOwn (model X.prog X.w) X.A X.env xe → PSs (X.tr pn xe) body (tb W))
    (hh : Hds X (h₀ :: hds) l) : PS X (.Try body (h₀ :: hds) [] [] pos) (fun D σ H => tb (wAll X.K Wout D l) D σ H) := by
  refine ⟨fun pins s σ H D I h => ?_⟩
  have ok := I.ok
  have hfr : X.A.frames = some (X.env :: X.outer) := by rw [ok.frames, hs]
  refine wpAny_Try_except (wpAny_mono ((hb (wAll X.K Wout D l) (X.pn ++ pins) (fun e s₁ => wpAny (model X.prog X.w) X.A (noteFrame e X.env) (fun _ s₂ => wpAny (model X.prog X.w) X.A (setFlight e none) (fun _ s₃ =>
    wpAny (model X.prog X.w) X.A (handleBy e X.env (h₀ :: hds)) (SP X pins D) X.xe s₃) X.xe s₂) X.xe s₁) (fun u s' xx => ?_) PassesOwn.looking).run [] s σ H D (I.toTry _) h) (fun f s1 hsp => ?_) (fun e s1 he => he))
  · obtain ⟨a, B, sI, pins', σ', H', cls, d, rfl, J', nb, up, sky, na, os, ag, w⟩ := xx
    have J : Inv X pins σ' H' sI := J'.ofTry ok
    have sky1 : Sky B (X.env :: X.outer) a (Zc cls d) X.env.locals s'.heap := by rw [← hs]; exact sky
    show wpAny (model X.prog X.w) X.A (noteFrame (.ref a) X.env) _ _ _
    refine Sky.land Zc.steady hfr hf sky1 fun h3 fl up3 => ?_
    have J3 : Inv X pins σ' H' { s' with heap := h3 } := J.landed nb fl.1 (up.trans up3) os ag
    obtain ⟨oe3, vs3, he3, hz3, hd3⟩ := fl.there
    have nfr : a ∉ frs (X.env :: X.outer) := fun hm => by
      obtain ⟨_, o', e', hnf⟩ := fl.2.2.1.mem hm
      rw [he3] at e'
      cases e'
      exact hnf _ hd3
    have nL : a ≠ X.env.locals := fun z => nfr (List.mem_filterMap.mpr ⟨X.env, List.mem_cons_self, by rw [hf, z]⟩)
    have nF : a ∉ X.fs := fun hm => by
      obtain ⟨e, he, q⟩ := List.mem_filterMap.mp hm
      exact nfr (List.mem_filterMap.mpr ⟨e, List.mem_cons_of_mem _ he, q⟩)
    have S3 := J3.suite he3 hd3 na nL nF
    have LT : PySem.W.Looks (model X.prog X.w) h3 (typeOf (.ref a)) cls := fun A Q E s k q => wpAny_typeOf_ref (k _ _ he3) (by rw [hz3.1]; exact q)
    have tested : ∀ {x : Str} {c : Value} {np : Pos} {Q : Value → Shared → Prop} {E : Value → Shared → Prop}, Names X x c → Q c { s' with heap := h3 } → wpAny (model X.prog X.w) (X.A.mark (some (.ref a))) (eval (.Name x np) X.env) Q E { s' with heap := h3 } := fun {x c np Q E} hc q => by
      obtain ⟨hg, hdbg, hm | ⟨hm, hv, hnn⟩⟩ := hc
      · exact ld_glob (X := X.suite a ((a, oe3) :: (X.pn ++ pins))) S3 hg hm q hdbg
      · exact ld_blt (X := X.suite a ((a, oe3) :: (X.pn ++ pins))) S3 hg hm hv q hnn hdbg
    have go : ∀ {hds' : List ExceptHandler} {l' : List Cl}, Hds X hds' l' → wAll X.K Wout D l' cls d σ' H' → wpAny (model X.prog X.w) X.A (handleBy (.ref a) X.env hds') (SP X pins D) X.xe { s' with heap := h3 } := by
      intro hds' l' hk
      induction hk with
      | nil =>
        intro w
        refine wpAny_handleBy_nil ?_
        obtain ⟨k1, k2, k3, oe, vs, T, oT, ts', he, hz, hd, h1, hr⟩ := id fl
        unfold PySem.passOn
        refine wpAny_bind (wpAny_field he hd h1 ?_)
        rw [if_neg (show ¬ ((Value.ref T == Value.none) = true) from by simp)]
        have fin : wpAny (model X.prog X.w) X.A (setFlight (.ref a) X.env.frame) (fun _ s4 => wpAny (model X.prog X.w) X.A (throw (.ref a) : Sem Flow) (SP X pins D) X.xe s4) X.xe { s' with heap := h3 } := by
          rw [hf]
          refine HandSPX.setFlight_upZ fl fun h4 hh4 up4 => wpAny_throw (tk _ _ ⟨a, B, sI, pins, σ', H', cls, d, rfl, J, nb, (up.trans up3).trans up4, .inr (.inr (by rw [hs]; exact hh4)), na, os, ag, w⟩)
        first
          | exact wpAny_bind (wpAny_pure (wpAny_bind fin))
          | exact wpAny_bind fin
      | @bare x c ts b₀ suite np pos' hds2 l2 hc hsu r ih =>
        intro w
        obtain ⟨b, hb1, hyes, hno⟩ := w
        refine wpAny_handleBy_cons (codeAny_handlers_test (tested hc ((PySem.W.exm_one (M := model X.prog X.w) (J3.kIn) LT hb1).here ?_))) (by intro q; cases q)
        cases b with
        | false => exact ih (hno rfl)
        | true =>
          refine codeAny_handlers_suite (HandSPX.lands_againZ fl fun h4 fl4 up4 => ?_)
          have J4 : Inv X pins σ' H' { s' with heap := h4 } := J.landed nb fl4.1 ((up.trans up3).trans up4) os ag
          obtain ⟨oe4, vs4, he4, hz4, hd4⟩ := fl4.there
          refine wpAny_mono ((hsu a oe4 cls d (X.pn ++ pins) hz4 ⟨_, hd4⟩).run [] _ _ H' _ (J4.suite he4 hd4 na nL nF) (hyes rfl a na)) (fun f s6 hsp => ?_) (fun _ _ z => False.elim z)
          cases f with
          | ret u =>
            obtain ⟨v6, σ6, H6, S6, r6, q6⟩ := hsp
            exact ⟨_, _, _, S6.unsuite ok, r6, q6⟩
          | next =>
            obtain ⟨σ6, H6, S6, q6⟩ := hsp
            exact ⟨_, _, S6.unsuite ok, q6⟩
          | brk =>
            obtain ⟨σ6, H6, S6, q6⟩ := hsp
            exact ⟨_, _, S6.unsuite ok, q6⟩
          | cont =>
            obtain ⟨σ6, H6, S6, q6⟩ := hsp
            exact ⟨_, _, S6.unsuite ok, q6⟩
      | @as_ x n i c ts b₀ suite np pos' hds2 l2 hN hi hln hc hsu r ih =>
        intro w
        obtain ⟨b, hb1, hyes, hno⟩ := w
        refine wpAny_handleBy_cons (codeAny_handlers_test (tested hc ((PySem.W.exm_one (M := model X.prog X.w) (J3.kIn) LT hb1).here ?_))) (by intro q; cases q)
        cases b with
        | false => exact ih (hno rfl)
        | true =>
          refine codeAny_handlers_suite_as (HandSPX.lands_againZ fl fun h4 fl4 up4 => ?_)
          have J4 : Inv X pins σ' H' { s' with heap := h4 } := J.landed nb fl4.1 ((up.trans up3).trans up4) os ag
          obtain ⟨oe4, vs4, he4, hz4, hd4⟩ := fl4.there
          refine store_ok (X := X.suite a ((a, oe4) :: (X.pn ++ pins))) (v := .ref a) (J4.suite he4 hd4 na nL nF) hN hi (.inl hln) rfl (fun s5 S5 => ?_) (.inr hln)
          refine wpAny_mono ((hsu a oe4 cls d (X.pn ++ pins) hz4 ⟨_, hd4⟩).run [] s5 _ H' _ S5 (hyes rfl a na)) (fun f s6 hsp => ?_) (fun _ _ z => False.elim z)
          have shut : ∀ {σ6 : L2.St} {H6 : Hp} {Q : Shared → Prop}, Inv (X.suite a ((a, oe4) :: (X.pn ++ pins))) [] σ6 H6 s6 → (∀ s7, Inv X pins (σ6.set i none) H6 s7 → Q s7) →
              wpAny (model X.prog X.w) X.A (do bindName X.env n .none; unbindBehindTheSuite X.env n pos') (fun _ s7 => Q s7) X.xe s6 := fun {σ6 H6 Q} S6 hq => gone_ok (S6.unsuite ok) hN hi hln hq
          cases f with
          | ret u =>
            obtain ⟨v6, σ6, H6, S6, r6, q6⟩ := hsp
            exact shut S6 fun s7 J7 => ⟨_, _, _, J7, r6, q6⟩
          | next =>
            obtain ⟨σ6, H6, S6, q6⟩ := hsp
            exact shut S6 fun s7 J7 => ⟨_, _, J7, q6⟩
          | brk =>
            obtain ⟨σ6, H6, S6, q6⟩ := hsp
            exact shut S6 fun s7 J7 => ⟨_, _, J7, q6⟩
          | cont =>
            obtain ⟨σ6, H6, S6, q6⟩ := hsp
            exact shut S6 fun s7 J7 => ⟨_, _, J7, q6⟩
    exact go hh w
  · cases f with
    | ret u =>
      obtain ⟨v, σ', H', J', r, q⟩ := hsp
      exact ⟨v, σ', H', J'.ofTry ok, r, q⟩
    | next =>
      obtain ⟨σ', H', J', q⟩ := hsp
      exact wpAny_execs_nil ⟨σ', H', J'.ofTry ok, q⟩
    | brk =>
      obtain ⟨σ', H', J', q⟩ := hsp
      exact ⟨σ', H', J'.ofTry ok, q⟩
    | cont =>
      obtain ⟨σ', H', J', q⟩ := hsp
      exact ⟨σ', H', J'.ofTry ok, q⟩
end
end Xc
set_option maxRecDepth 100000
set_option maxHeartbeats 4000000
/-! int(text) of up to 4300 digits (the hand layer has 640); text * number. -/
namespace Lg
open PySem PySem.Calls PySem.NumText PyProof.Rows PySem.W
theorem wp_long {M : Model} {A : Around} {E : Value → Shared → Prop} {s : Shared} {Q : Value → Shared → Prop} {v : Value} {text : List Nat} {n : Int} (ld : Looks M s.heap (nsGet cStatics "sys.int_max_str_digits") none)
    (hs : ¬ (text.takeWhile (· != 0)).length ≤ 640) (hr : (int_private% "readNumeral") 4300 10 (text.takeWhile (· != 0)) = (int_private% "Numeral.value") n)
    (ha : ((text.takeWhile (· != 0)).length == text.length) = true) (h : Q (.int n s.toks) { s with toks := s.toks + 1 }) : wpAny M A ((int_private% "intFromText") v text 10) Q E s := by
  obtain ⟨hp, g, d, tk, os⟩ := s
  have hf : decide ((text.takeWhile (· != 0)).length ≤ 640) = false := decide_eq_false hs
  repeat (any_goals (first
    | assumption
    | (with_reducible refine wpAny_ite_true (decide_eq_true ha) ?_)
    | (with_reducible refine ld.at ?_)
    | wp_step))
  all_goals (try rw [hr])
  all_goals (try dsimp only)
  repeat (any_goals (first
    | assumption
    | (with_reducible refine wpAny_ite_true ha ?_)
    | wp_step))
theorem meets_long {x : PySem.Str} {u : Tok} {n : Int} (hs : ¬ (numSeenOf x).length ≤ 640) (hr : (int_private% "readNumeral") 4300 10 (numSeenOf x) = (int_private% "Numeral.value") n) (ha : ((numSeenOf x).length == (numTextOf x).length) = true) :
    Meets (Builtin.«int.__new__» ⟨[.type "int", .str x u], []⟩) (fun _ R s => (∀ M, Looks M s.heap (nsGet cStatics "sys.int_max_str_digits") none) ∧ R (.ok (.ret (.int n s.toks))) { s with toks := s.toks + 1 }) := by
  intro prog w A R s h
  obtain ⟨hp, g, d, tk, os⟩ := s
  obtain ⟨ld, h⟩ := h
  have f1 := F.conv_sub_int
  have f2 := F.madeHere_int
  have f3 := KIN.str_int
  have f4 := KIN.str_idx
  have f5 := KIN.str_trunc
  have f6 : typeOf (.str x u) = pure (.type "str") := rfl
  have hk := KIN.Hid.mk (And.intro hs (And.intro hr ha))
  have hl := KIN.Hid.mk (ld (model prog w))
  clear hs hr ha ld
  repeat (any_goals (first
    | assumption
    | ((with_reducible show wpAny _ _ ((int_private% "intFromText") _ _ _) _ _ _); refine wp_long hl.out hk.out.1 hk.out.2.1 hk.out.2.2 ?_)
    | wp_step))
theorem call_long {prog : Program} {w : World} {A : Around} {E : Value → Shared → Prop} {s : Shared} {Q : Value → Shared → Prop} {x : PySem.Str} {t : Tok} {n : Int} (ld : ∀ M, Looks M s.heap (nsGet cStatics "sys.int_max_str_digits") none) (hn : PySem.intText? x = some n) (hx : x.length ≤ 4300)
    (h : Q (.int n s.toks) { s with toks := s.toks + 1 }) : wpAny (model prog w) A (call (.type "int") [.str x t]) Q E s := by
  by_cases hs : (numSeenOf x).length ≤ 640
  · have hk : (int_private% "readNumeral") 0 10 (numSeenOf x) = (int_private% "Numeral.value") n ∧ ((numSeenOf x).length == (numTextOf x).length) = true := by
      rcases read0 x hs with ⟨m, h1, h2, h3⟩ | ⟨h1, _⟩
      · rw [hn] at h1
        injection h1 with h1
        subst h1
        exact ⟨h3, h2⟩
      · rw [hn] at h1
        cases h1
    refine call_int_1 (S := fun _ R s => R (.ok (.ret (.int n s.toks))) { s with toks := s.toks + 1 }) ?_ ⟨rfl, h⟩
    intro prog w A R s h
    obtain ⟨hp, g, d, tk, os⟩ := s
    have f1 := F.conv_sub_int
    have f2 := F.madeHere_int
    have f3 := KIN.str_int
    have f4 := KIN.str_idx
    have f5 := KIN.str_trunc
    have f6 : typeOf (.str x t) = pure (.type "str") := rfl
    have hh := KIN.Hid.mk (And.intro hs hk)
    clear hs hk hn hx
    repeat (any_goals (first
      | assumption
      | ((with_reducible show wpAny _ _ ((int_private% "intFromText") _ _ _) _ _ _); refine KIN.wp_text hh.out.1 hh.out.2.1 hh.out.2.2 ?_)
      | wp_step))
  · have hk : (int_private% "readNumeral") 4300 10 (numSeenOf x) = (int_private% "Numeral.value") n ∧ ((numSeenOf x).length == (numTextOf x).length) = true := by
      rcases read4300 x (Nat.le_trans hx (by rw [sizeLine_eq]; decide)) with ⟨m, h1, h2, h3⟩ | ⟨h1, _⟩
      · rw [hn] at h1
        injection h1 with h1
        subst h1
        exact ⟨h3, h2⟩
      · rw [hn] at h1
        cases h1
    exact call_int_1 (meets_long hs hk.1 hk.2) ⟨ld, ⟨rfl, h⟩⟩
end Lg
namespace Lg
open PySem PySem.Spec PyProof.Rows L2
section
variable {X : Cx}
/-- int(text) -/
theorem call_intLong (dig : PySem.W.nsIn X.K cStatics "sys.int_max_str_digits" = some none) : CallR X (.type "int") (fun xs H Q => ∃ a n, xs = [.str a] ∧ PySem.intText? a = some n ∧ a.length ≤ 4300 ∧ Q (.int n) H) := by
  intro pins s σ H xs us Q I rs h
  obtain ⟨a, n, rfl, hn, hl, h⟩ := h
  cases rs with
  | cons r1 rs =>
    cases rs
    obtain ⟨t, rfl⟩ := r1
    exact call_long (fun M => PySem.W.looks_nsIn I.kIn dig) hn hl ⟨.int n, H, I.tok _, ⟨_, rfl⟩, h⟩
/-- text * number -/
def repS (x : Str) (n : Nat) : Str := ⟨(List.replicate n x.cps).foldl (· ++ ·) #[]⟩
theorem repS_len (a : Str) (n : Nat) : (repS a n).length = a.length * n := by
  have key : ∀ (n : Nat) (acc : Array Nat), ((List.replicate n a.cps).foldl (· ++ ·) acc).size = acc.size + a.cps.size * n := by
    intro n
    induction n with
    | zero => intro acc; simp
    | succ n ih =>
      intro acc
      rw [List.replicate_succ, List.foldl_cons, ih, Array.size_append, Nat.mul_succ]
      omega
  show ((List.replicate n a.cps).foldl (· ++ ·) #[]).size = a.cps.size * n
  rw [key]
  simp
theorem op_repS : OpR X (binaryOp .Mult) (fun x y H Q => ∃ (a : Str) (n : Nat), x = .str a ∧ y = .int n ∧ 2 ≤ n ∧ n ≤ 5000 ∧ 1 ≤ a.length ∧ a.length ≤ 1000 ∧ Q (.str (repS a n)) H) := by
  intro pins s σ H x y v u Q I rx ry h
  obtain ⟨a, n, rfl, rfl, n2, n5, a1, a2, q⟩ := h
  obtain ⟨t, rfl⟩ := rx
  obtain ⟨t2, rfl⟩ := ry
  have b1 : ((n : Int) == 1 || a.length == 0) = false := by
    rw [Bool.or_eq_false_iff]
    exact ⟨beq_eq_false_iff_ne.mpr (by omega), beq_eq_false_iff_ne.mpr (by omega)⟩
  have le : a.length * n ≤ 5000000 := Nat.le_trans (Nat.mul_le_mul a2 n5) (by decide)
  refine PySem.P.mul_str (by rw [Bool.or_eq_false_iff]; exact ⟨decide_eq_false (by omega), decide_eq_false (by omega)⟩) (fun _ _ => ?_) (fun _ _ => ?_) ?_
  · have : (1000 : Int) ≤ (2 ^ 63 - 1) / (n : Int) := by
      refine (Int.le_ediv_iff_mul_le (by omega)).mpr ?_
      omega
    omega
  · rw [Int.toNat_natCast]
    exact decide_eq_false (by rw [sizeLine_eq]; omega)
  · rw [if_neg (by omega), if_neg (by rw [b1]; decide), Int.toNat_natCast]
    exact ⟨by show (repS a n).length ≤ sizeLine; rw [repS_len, sizeLine_eq]; omega, .str (repS a n), H, I.tok _, ⟨_, rfl⟩, q⟩
end
theorem repS_one (c n : Nat) : repS ⟨#[c]⟩ n = ⟨(List.replicate n c).toArray⟩ := by
  have key : ∀ (n : Nat) (acc : Array Nat), ((List.replicate n #[c]).foldl (· ++ ·) acc).toList = acc.toList ++ List.replicate n c := by
    intro n
    induction n with
    | zero => intro acc; simp
    | succ n ih =>
      intro acc
      rw [List.replicate_succ, List.foldl_cons, ih, Array.toList_append, List.replicate_succ]
      simp
  unfold repS
  have z := key n #[]
  rw [show (#[] : Array Nat).toList = [] from rfl, List.nil_append] at z
  exact congrArg Str.mk (by rw [← z])
end Lg
set_option maxRecDepth 100000
set_option maxHeartbeats 4000000
/-! a whole number times a text -/
namespace PySem
section
variable {M : Model} {A : Around} {E : Value → Shared → Prop} {s : Shared}
theorem wpAny_binaryOp1_left_declines {a b : Value} {T U nm id : String} {Q : Option Value → Shared → Prop} (hTU : (Value.type T == Value.type U) = false) (ha : s.TypeIs a T) (hb : s.TypeIs b U)
    (hfT : fillsNumberSlot (.type T) nm = pure true) (hfU : fillsNumberSlot (.type U) nm = pure false) (h : Slot T (dunder nm) id)
    (hc : wpAny M A (call (.builtin id) [a, b]) (fun v s' => v = .notImplemented ∧ Q none s') E s) : wpAny M A (binaryOp1 nm a b) Q E s := by
  simp only [binaryOp1]
  refine wpAny_bind (wpAny_typeOf ha (wpAny_bind (wpAny_typeOf hb (wpAny_bind (wpAny_of_eq hfT ?_)))))
  simp only [hTU, Bool.false_eq_true, if_false]
  refine wpAny_bind (wpAny_of_eq hfU ?_)
  simp only [pure_bind, Bool.and_false, Bool.false_and, Bool.false_eq_true, if_false, if_true]
  refine wpAny_bind (wpAny_tryMethod_declines ha h (wpAny_mono hc (fun v s' h' => ⟨h'.1, wpAny_pure h'.2⟩) fun _ _ e => e))
theorem seqSlot_not {T : String} {name : Str} {id : String} (hf : typeLookup (.type T) name = pure (some (.builtin id))) (hs : isSeqSlot (some (.builtin id)) = false) : seqSlot? (.type T) name = pure none := by
  simp only [seqSlot?, hf, pure_bind, hs]
  rfl
theorem repeat_int : seqRepeat? (.type "int") = pure none := by
  unfold seqRepeat?
  rw [seqSlot_not (T := "int") (name := "__mul__") (id := "int.__mul__") F.slot_int_mul.lookup (by decide +kernel), seqSlot_not (T := "int") (name := "__rmul__") (id := "int.__rmul__") F.slot_int_rmul.lookup (by decide +kernel)]
  rfl
end
section
variable {prog : Program} {w : World} {A : Around} {E : Value → Shared → Prop} {s : Shared} {x : Str} {n : Int} {t u : Tok}
open Builtin Builtin.Str Builtin.Int in
theorem mul_int_str {Q : Value → Shared → Prop} (hr : (decide (n < -(2 ^ 63 : Int)) || decide (n ≥ 2 ^ 63)) = false)
    (hb : ¬ n < 1 → (n == 1 || x.length == 0) = false → ¬ ((x.length : Int) > (2 ^ 63 - 1) / n)) (hl : ¬ n < 1 → (n == 1 || x.length == 0) = false → tooLong (x.length * n.toNat) = false)
    (h : (if n < 1 then Made.str Str.empty else if (n == 1 || x.length == 0) = true then Made.val (.str x t) else Made.str ⟨(List.replicate n.toNat x.cps).foldl (· ++ ·) #[]⟩).post Q s) :
    wpAny (model prog w) A (binaryOp .Mult (.int n u) (.str x t)) Q E s := by
  unfold binaryOp
  refine wpAny_holding ?_
  refine wpAny_bind (wpAny_binaryOp1_left_declines (nm := "mul") (T := "int") (U := "str") (by decide) (typeIs_int s n u) (typeIs_str s x t) F.fills_int_mul noFill_str_mul F.slot_int_mul
    (call_gives F.slot_int_mul (typeIs_int s n u) F.entry_int_mul (F.args_int_mul_2 _ _) (AutoIntG3.int___mul___int_str_0 n u x t) ⟨rfl, ?_⟩))
  refine wpAny_bind (wpAny_typeOf (typeIs_int s n u) ?_)
  refine wpAny_bind (wpAny_of_eq repeat_int ?_)
  refine wpAny_bind (wpAny_typeOf (typeIs_str s x t) ?_)
  refine wpAny_bind (wpAny_of_eq repeat_str ?_)
  unfold sequenceRepeat
  refine wpAny_bind (wpAny_specialOf (typeIs_int s n u) F.slot_int_index.lookup ?_)
  exact wpAny_bind (wpAny_rule (call_gives F.slot_str_mul (typeIs_str s x t) F.entry_str_mul (F.args_str_mul_2 _ _) (gives_str_mul x n t u hr hb hl) h))
end
end PySem
set_option maxRecDepth 100000
set_option maxHeartbeats 4000000
/-! The pure layer: values as trees, a def's body as a transformer of wishes over trees; no heap is seen. -/
namespace Pd
open PySem PySem.Spec PyProof.Rows L2 Pre

/-- a value with all that hangs on it -/
inductive D where
  | non | bl (b : Bool) | int (i : Int) | str (s : Str) | byt (b : Array UInt8)
  | lst (ds : List D) | tup (ds : List D)
  | dic (ks : List Key) (ds : List D)
  | obj (C : Addr) (ns : List Str) (ds : List D)
  | hid (φ : List V → Prop)
  | frz (ds : List D)
  | raw (v : V)

mutual
inductive Rep (K : PySem.W.Frag) (G : Hp) : V → D → Prop
  | non : Rep K G .non .non
  | bl (b : Bool) : Rep K G (.bl b) (.bl b)
  | int (i : Int) : Rep K G (.int i) (.int i)
  | str (s : Str) : Rep K G (.str s) (.str s)
  | byt (b : Array UInt8) : Rep K G (.byt b) (.byt b)
  | lst {a : Addr} {xs : List V} {ds : List D} (h : G a = some (.lst xs)) (r : RepA K G xs ds) : Rep K G (.ref a) (.lst ds)
  | tup {a : Addr} {xs : List V} {ds : List D} (h : SqT K G a xs) (r : RepA K G xs ds) : Rep K G (.ref a) (.tup ds)
  | dic {a : Addr} {kvs : List (Key × V)} {ks : List Key} {ds : List D} (h : G a = some (.dK kvs)) (e : kvs.map (·.1) = ks) (r : RepA K G (kvs.map (·.2)) ds) : Rep K G (.ref a) (.dic ks ds)
  | obj {a C dx : Addr} {fs : List (Str × V)} {ns : List Str} {ds : List D} (h : G a = some (.ins C dx fs)) (e : fs.map (·.1) = ns) (r : RepA K G (fs.map (·.2)) ds) : Rep K G (.ref a) (.obj C ns ds)
  | hid {a : Addr} {φ : List V → Prop} (h : G a = some (LstX a φ)) : Rep K G (.ref a) (.hid φ)
  | frz {a : Addr} {xs : List V} {ds : List D} (h : SqL K G a xs) (r : RepA K G xs ds) : Rep K G (.ref a) (.frz ds)
  | raw (v : V) : Rep K G v (.raw v)
inductive RepA (K : PySem.W.Frag) (G : Hp) : List V → List D → Prop
  | nil : RepA K G [] []
  | cons {v : V} {vs : List V} {d : D} {ds : List D} (h : Rep K G v d) (r : RepA K G vs ds) : RepA K G (v :: vs) (d :: ds)
end

mutual
theorem Rep.ex {K : PySem.W.Frag} {G G' : Hp} (e : Ex G G') : ∀ {v : V} {d : D}, Rep K G v d → Rep K G' v d
  | _, _, .non => .non
  | _, _, .bl b => .bl b
  | _, _, .int i => .int i
  | _, _, .str s => .str s
  | _, _, .byt b => .byt b
  | _, _, .lst h r => .lst (e _ _ h) (RepA.ex e r)
  | _, _, .tup h r => .tup (ext e h) (RepA.ex e r)
  | _, _, .dic h q r => .dic (e _ _ h) q (RepA.ex e r)
  | _, _, .obj h q r => .obj (e _ _ h) q (RepA.ex e r)
  | _, _, .hid h => .hid (e _ _ h)
  | _, _, .frz h r => .frz (exl e h) (RepA.ex e r)
  | _, _, .raw v => .raw v
theorem RepA.ex {K : PySem.W.Frag} {G G' : Hp} (e : Ex G G') : ∀ {vs : List V} {ds : List D}, RepA K G vs ds → RepA K G' vs ds
  | _, _, .nil => .nil
  | _, _, .cons h r => .cons (Rep.ex e h) (RepA.ex e r)
end

section
variable {K : PySem.W.Frag} {G : Hp}
theorem RepA.len : ∀ {vs : List V} {ds : List D}, RepA K G vs ds → vs.length = ds.length
  | _, _, .nil => rfl
  | _, _, .cons _ r => congrArg (· + 1) r.len
theorem RepA.get : ∀ {vs : List V} {ds : List D} {i : Nat} {d : D}, RepA K G vs ds → ds[i]? = some d → ∃ v, vs[i]? = some v ∧ Rep K G v d
  | _, _, i, _, .nil, e => by simp at e
  | _, _, 0, _, .cons h _, e => by
    obtain rfl := Option.some.inj (by simpa using e)
    exact ⟨_, rfl, h⟩
  | _, _, i + 1, _, .cons _ r, e => by
    obtain ⟨v, h1, h2⟩ := r.get (i := i) (by simpa using e)
    exact ⟨v, by simpa using h1, h2⟩
theorem RepA.getv : ∀ {vs : List V} {ds : List D} {i : Nat} {v : V}, RepA K G vs ds → vs[i]? = some v → ∃ d, ds[i]? = some d ∧ Rep K G v d
  | _, _, i, _, .nil, e => by simp at e
  | _, _, 0, _, .cons h _, e => by
    obtain rfl := Option.some.inj (by simpa using e)
    exact ⟨_, rfl, h⟩
  | _, _, i + 1, _, .cons _ r, e => by
    obtain ⟨v, h1, h2⟩ := r.getv (i := i) (by simpa using e)
    exact ⟨v, by simpa using h1, h2⟩
theorem RepA.app : ∀ {vs us : List V} {ds es : List D}, RepA K G vs ds → RepA K G us es → RepA K G (vs ++ us) (ds ++ es)
  | _, _, _, _, .nil, s => s
  | _, _, _, _, .cons h r, s => .cons h (r.app s)
theorem RepA.one {v : V} {d : D} (h : Rep K G v d) : RepA K G [v] [d] := .cons h .nil
theorem RepA.take : ∀ (n : Nat) {vs : List V} {ds : List D}, RepA K G vs ds → RepA K G (vs.take n) (ds.take n)
  | 0, _, _, _ => .nil
  | _ + 1, _, _, .nil => .nil
  | n + 1, _, _, .cons h r => .cons h (r.take n)
theorem RepA.drop : ∀ (n : Nat) {vs : List V} {ds : List D}, RepA K G vs ds → RepA K G (vs.drop n) (ds.drop n)
  | 0, _, _, r => r
  | _ + 1, _, _, .nil => .nil
  | n + 1, _, _, .cons h r => r.drop n
theorem RepA.set {v : V} {d : D} (h : Rep K G v d) : ∀ (n : Nat) {vs : List V} {ds : List D}, RepA K G vs ds → RepA K G (vs.set n v) (ds.set n d)
  | _, _, _, .nil => .nil
  | 0, _, _, .cons _ r => .cons h r
  | n + 1, _, _, .cons q r => .cons q (r.set h n)
theorem RepA.rev {vs : List V} {ds : List D} (h : RepA K G vs ds) : RepA K G vs.reverse ds.reverse := by
  induction h using RepA.rec (motive_1 := fun _ _ _ => True) with
  | nil => exact .nil
  | cons h r _ ih =>
    rw [List.reverse_cons, List.reverse_cons]
    exact ih.app (.one h)
  | _ => trivial
theorem RepA.ints {xs : List V} {ns : List Int} (h : RepA K G xs (ns.map D.int)) : xs = ns.map V.int := by
  induction ns generalizing xs with
  | nil => cases h; rfl
  | cons n ns ih =>
    cases h with
    | cons h r =>
      cases h
      rw [ih r]; rfl
theorem RepA.strs {xs : List V} {ns : List Str} (h : RepA K G xs (ns.map D.str)) : xs = ns.map V.str := by
  induction ns generalizing xs with
  | nil => cases h; rfl
  | cons n ns ih =>
    cases h with
    | cons h r =>
      cases h
      rw [ih r]; rfl
theorem RepA.bls {xs : List V} {ns : List Bool} (h : RepA K G xs (ns.map D.bl)) : xs = ns.map V.bl := by
  induction ns generalizing xs with
  | nil => cases h; rfl
  | cons n ns ih =>
    cases h with
    | cons h r =>
      cases h
      rw [ih r]; rfl
theorem repA_ints (ns : List Int) : RepA K G (ns.map V.int) (ns.map D.int) := by
  induction ns with
  | nil => exact .nil
  | cons n ns ih => exact .cons (.int n) ih
theorem repA_strs (ns : List Str) : RepA K G (ns.map V.str) (ns.map D.str) := by
  induction ns with
  | nil => exact .nil
  | cons n ns ih => exact .cons (.str n) ih
theorem Rep.int_inv {v : V} {i : Int} (h : Rep K G v (.int i)) : v = .int i := by cases h; rfl
theorem Rep.str_inv {v : V} {i : Str} (h : Rep K G v (.str i)) : v = .str i := by cases h; rfl
theorem Rep.bl_inv {v : V} {i : Bool} (h : Rep K G v (.bl i)) : v = .bl i := by cases h; rfl
theorem Rep.non_inv {v : V} (h : Rep K G v .non) : v = .non := by cases h; rfl
theorem Rep.tup_inv {v : V} {ds : List D} (h : Rep K G v (.tup ds)) : ∃ a xs, v = .ref a ∧ SqT K G a xs ∧ RepA K G xs ds := by cases h with | tup h r => exact ⟨_, _, rfl, h, r⟩
theorem Rep.lst_inv {v : V} {ds : List D} (h : Rep K G v (.lst ds)) : ∃ a xs, v = .ref a ∧ G a = some (.lst xs) ∧ RepA K G xs ds := by cases h with | lst h r => exact ⟨_, _, rfl, h, r⟩
end

/-! ### how view and heap grow -/
structure Grow (G H G' H' : Hp) : Prop where
  g : Ex G G'
  h : Ex H H'
  gh : Ex G' H'
  nw : ∀ p, H p ≠ none → G' p = G p
theorem Grow.refl {G H : Hp} (e : Ex G H) : Grow G H G H := ⟨ex0, ex0, e, fun _ _ => rfl⟩
theorem Grow.trans {G H G1 H1 G2 H2 : Hp} (a : Grow G H G1 H1) (b : Grow G1 H1 G2 H2) : Grow G H G2 H2 :=
  ⟨a.g.trans b.g, a.h.trans b.h, b.gh, fun p h => (b.nw p fun z => by
    cases q : H p with
    | none => exact h q
    | some o => rw [a.h _ _ q] at z; cases z).trans (a.nw p h)⟩
theorem Grow.new {G H : Hp} {p : Addr} {o : HO} (e : Ex G H) (n : H p = none) : Grow G H (upd G p o) (upd H p o) := by
  have ng : G p = none := Evl.fresh_back e n
  refine ⟨exn ng, exn n, fun a u h => ?_, fun q hq => ?_⟩
  · by_cases z : a = p
    · subst z
      rw [upd_same] at h ⊢
      exact h
    · rw [upd_ne z] at h ⊢
      exact e _ _ h
  · rw [upd_ne (fun z => hq (by rw [z]; exact n))]
/-- a new object that the view does not have -/
theorem Grow.own {G H : Hp} {p : Addr} {o : HO} (e : Ex G H) (n : H p = none) : Grow G H G (upd H p o) :=
  ⟨ex0, exn n, e.trans (exn n), fun _ _ => rfl⟩
/-- the view takes in what the heap has, where it was new -/
theorem Grow.see {G H G' H' : Hp} {p : Addr} {o : HO} (g : Grow G H G' H') (n : H p = none) (n' : G' p = none) (h : H' p = some o) : Grow G H (upd G' p o) H' := by
  refine ⟨g.g.trans (exn n'), g.h, fun a u k => ?_, fun q hq => ?_⟩
  · by_cases z : a = p
    · subst z
      rw [upd_same] at k
      rw [← k]
      exact h
    · rw [upd_ne z] at k
      exact g.gh _ _ k
  · rw [upd_ne (fun z => hq (by rw [z]; exact n))]
    exact g.nw q hq

/-! ### slots -/
structure Bs where
  G : Hp
  H : Hp
inductive Sl where
  | no | v (d : D) | l (ds : List D) | k (ks : List Key) (ds : List D) | i (q C : Addr) (ns : List Str) (ds : List D)
def Sl.own : Sl → Bool
  | .l _ => true
  | .k _ _ => true
  | .i _ _ _ _ => true
  | _ => false
section
variable (K : PySem.W.Frag)
/-- what is one's own, at p -/
def OwnAt (G H : Hp) (p : Addr) : Sl → Prop
  | .l ds => ∃ vs, H p = some (.lst vs) ∧ RepA K G vs ds
  | .k ks ds => ∃ kvs : List (Key × V), H p = some (.dK kvs) ∧ kvs.map (·.1) = ks ∧ RepA K G (kvs.map (·.2)) ds
  | .i q C ns ds => p = q ∧ ∃ (dx : Addr) (fs : List (Str × V)), H p = some (.ins C dx fs) ∧ fs.map (·.1) = ns ∧ RepA K G (fs.map (·.2)) ds
  | _ => False
def SlR (B : Bs) (G H : Hp) (o : Option V) : Sl → Prop
  | .no => True
  | .v d => ∃ v, o = some v ∧ Rep K G v d
  | s => ∃ p, o = some (.ref p) ∧ G p = none ∧ B.H p = none ∧ OwnAt K G H p s
structure Rel (B : Bs) (G : Hp) (σ : L2.St) (H : Hp) (env : List Sl) : Prop where
  bg : Ex B.G G
  bh : Ex B.H H
  gh : Ex G H
  nw : ∀ p, B.H p ≠ none → G p = B.G p
  len : σ.length = env.length
  sl : ∀ (i : Nat) o s, σ[i]? = some o → env[i]? = some s → SlR K B G H o s
  ds : ∀ (i j : Nat) (p : Addr) si sj, env[i]? = some si → env[j]? = some sj → si.own = true → sj.own = true → σ[i]? = some (some (.ref p)) → σ[j]? = some (some (.ref p)) → i = j
end
section
variable {K : PySem.W.Frag} {B : Bs} {G G' H H' : Hp} {σ : L2.St} {env : List Sl} {p : Addr}
theorem OwnAt.own {s : Sl} (h : OwnAt K G H p s) : s.own = true := by cases s <;> first | rfl | exact h.elim
theorem OwnAt.some {s : Sl} (h : OwnAt K G H p s) : ∃ o, H p = some o := by
  cases s with
  | l ds => obtain ⟨vs, h, _⟩ := h; exact ⟨_, h⟩
  | k ks ds => obtain ⟨vs, h, _⟩ := h; exact ⟨_, h⟩
  | i q C ns ds => obtain ⟨_, dx, vs, h, _⟩ := h; exact ⟨_, h⟩
  | no => exact h.elim
  | v d => exact h.elim
theorem OwnAt.mono {s : Sl} (h : OwnAt K G H p s) (e : Ex G G') (q : H' p = H p) : OwnAt K G' H' p s := by
  cases s with
  | l ds => obtain ⟨vs, h, r⟩ := h; exact ⟨vs, q.trans h, r.ex e⟩
  | k ks ds => obtain ⟨vs, h, z, r⟩ := h; exact ⟨vs, q.trans h, z, r.ex e⟩
  | i q' C ns ds => obtain ⟨y, dx, vs, h, z, r⟩ := h; exact ⟨y, dx, vs, q.trans h, z, r.ex e⟩
  | no => exact h.elim
  | v d => exact h.elim
theorem SlR.own {o : Option V} {s : Sl} (h : SlR K B G H o s) (q : s.own = true) : ∃ p, o = some (.ref p) ∧ G p = none ∧ B.H p = none ∧ OwnAt K G H p s := by
  cases s with
  | l ds => exact h
  | k ks ds => exact h
  | i q C ns ds => exact h
  | no => cases q
  | v d => cases q
theorem SlR.of {o : Option V} {s : Sl} (h : ∃ p, o = some (.ref p) ∧ G p = none ∧ B.H p = none ∧ OwnAt K G H p s) : SlR K B G H o s := by
  cases s with
  | l ds => exact h
  | k ks ds => exact h
  | i q C ns ds => exact h
  | no => trivial
  | v d => obtain ⟨_, _, _, _, z⟩ := h; exact z.elim
/-- the slots, where what they own stands as it was -/
theorem SlR.mono {o : Option V} {s : Sl} (h : SlR K B G H o s) (e : Ex G G') (q : ∀ p, o = .some (.ref p) → s.own = true → H' p = H p ∧ G' p = none) : SlR K B G' H' o s := by
  by_cases w : s.own = true
  · obtain ⟨p, e1, e2, e3, e4⟩ := h.own w
    obtain ⟨q1, q2⟩ := q p e1 w
    exact SlR.of ⟨p, e1, q2, e3, e4.mono e q1⟩
  · cases s with
    | l ds => exact (w rfl).elim
    | k ks ds => exact (w rfl).elim
    | i q C ns ds => exact (w rfl).elim
    | no => trivial
    | v d => obtain ⟨v, e1, r⟩ := h; exact ⟨v, e1, r.ex e⟩
theorem Rel.grow (R : Rel K B G σ H env) (g : Grow G H G' H') : Rel K B G' σ H' env where
  bg := R.bg.trans g.g
  bh := R.bh.trans g.h
  gh := g.gh
  nw := fun p h => (g.nw p fun z => by
    cases q : B.H p with
    | none => exact h q
    | some o => rw [R.bh _ _ q] at z; cases z).trans (R.nw p h)
  len := R.len
  sl := fun i o s h1 h2 => (R.sl i o s h1 h2).mono g.g fun p e1 w => by
    obtain ⟨p', e2, n, _, oa⟩ := (R.sl i o s h1 h2).own w
    rw [e1] at e2
    obtain rfl : p = p' := by injection e2 with e2; injection e2
    obtain ⟨u, hu⟩ := oa.some
    exact ⟨(g.h _ _ hu).trans hu.symm, (g.nw p (by rw [hu]; simp)).trans n⟩
  ds := R.ds
theorem Rel.start {vs : List V} {ds : List D} (e : Ex G H) (r : RepA K G vs ds) (n : Nat) : Rel K ⟨G, H⟩ G (vs.map some ++ List.replicate n none) H (ds.map Sl.v ++ List.replicate n Sl.no) where
  bg := ex0
  bh := ex0
  gh := e
  nw := fun _ _ => rfl
  len := by simp [r.len]
  sl := fun i o s h1 h2 => by
    by_cases hi : i < vs.length
    · rw [List.getElem?_append_left (by simpa using hi), List.getElem?_map] at h1
      rw [List.getElem?_append_left (by simpa [← r.len] using hi), List.getElem?_map] at h2
      cases hv : vs[i]? with
      | none => rw [hv] at h1; cases h1
      | some v =>
        obtain ⟨d, hd, rv⟩ := r.getv hv
        rw [hv] at h1
        rw [hd] at h2
        cases h1
        cases h2
        exact ⟨v, rfl, rv⟩
    · rw [List.getElem?_append_right (by simpa [← r.len] using hi)] at h2
      obtain rfl : s = .no := by
        rw [List.getElem?_replicate] at h2
        split at h2
        · exact (Option.some.inj h2).symm
        · cases h2
      trivial
  ds := fun i j p si sj h1 h2 o1 o2 _ _ => by
    exfalso
    have key : ∀ {i : Nat} {s : Sl}, (ds.map Sl.v ++ List.replicate n Sl.no)[i]? = some s → s.own = true → False := fun {i s} h w => by
      have m := List.mem_of_getElem? h
      rcases List.mem_append.mp m with m | m
      · obtain ⟨d, _, rfl⟩ := List.mem_map.mp m
        cases w
      · obtain rfl := List.eq_of_mem_replicate m
        cases w
    exact key h1 o1
theorem get_lt {α : Type} {l : List α} {i : Nat} {x : α} (h : l[i]? = some x) : i < l.length := (List.getElem?_eq_some_iff.mp h).1
/-- a slot is given a value -/
theorem Rel.setv (R : Rel K B G σ H env) {v : V} {d : D} (r : Rep K G v d) (i : Nat) : Rel K B G (σ.set i (some v)) H (env.set i (.v d)) where
  bg := R.bg
  bh := R.bh
  gh := R.gh
  nw := R.nw
  len := by simp [R.len]
  sl := fun j o s h1 h2 => by
    by_cases e : i = j
    · subst e
      have l2 := get_lt h2
      have l1 := get_lt h1
      rw [List.length_set] at l1 l2
      rw [List.getElem?_set_self l1] at h1
      rw [List.getElem?_set_self l2] at h2
      cases h1
      cases h2
      exact ⟨v, rfl, r⟩
    · rw [List.getElem?_set_ne e] at h1 h2
      exact R.sl j o s h1 h2
  ds := fun a b p sa sb h1 h2 w1 w2 k1 k2 => by
    have na : i ≠ a := fun e => by
      subst e
      have l2 := get_lt h1
      rw [List.length_set] at l2
      rw [List.getElem?_set_self l2] at h1
      cases h1
      cases w1
    have nb : i ≠ b := fun e => by
      subst e
      have l2 := get_lt h2
      rw [List.length_set] at l2
      rw [List.getElem?_set_self l2] at h2
      cases h2
      cases w2
    rw [List.getElem?_set_ne na] at h1 k1
    rw [List.getElem?_set_ne nb] at h2 k2
    exact R.ds a b p sa sb h1 h2 w1 w2 k1 k2
/-- a slot is forgotten -/
theorem Rel.setno (R : Rel K B G σ H env) (i : Nat) (o : Option V) : Rel K B G (σ.set i o) H (env.set i .no) where
  bg := R.bg
  bh := R.bh
  gh := R.gh
  nw := R.nw
  len := by simp [R.len]
  sl := fun j o s h1 h2 => by
    by_cases e : i = j
    · subst e
      have l2 := get_lt h2
      rw [List.length_set] at l2
      rw [List.getElem?_set_self l2] at h2
      cases h2
      trivial
    · rw [List.getElem?_set_ne e] at h1 h2
      exact R.sl j o s h1 h2
  ds := fun a b p sa sb h1 h2 w1 w2 k1 k2 => by
    have na : i ≠ a := fun e => by
      subst e
      have l2 := get_lt h1
      rw [List.length_set] at l2
      rw [List.getElem?_set_self l2] at h1
      cases h1
      cases w1
    have nb : i ≠ b := fun e => by
      subst e
      have l2 := get_lt h2
      rw [List.length_set] at l2
      rw [List.getElem?_set_self l2] at h2
      cases h2
      cases w2
    rw [List.getElem?_set_ne na] at h1 k1
    rw [List.getElem?_set_ne nb] at h2 k2
    exact R.ds a b p sa sb h1 h2 w1 w2 k1 k2
/-- a slot is given a thing of one's own that no slot holds -/
theorem Rel.seto (R : Rel K B G σ H env) {s : Sl} (oa : OwnAt K G H p s) (n : G p = none) (nb : B.H p = none) (fr : ∀ (j : Nat) t, env[j]? = some t → t.own = true → σ[j]? ≠ some (some (.ref p))) (i : Nat) :
    Rel K B G (σ.set i (some (.ref p))) H (env.set i s) where
  bg := R.bg
  bh := R.bh
  gh := R.gh
  nw := R.nw
  len := by simp [R.len]
  sl := fun j o s h1 h2 => by
    by_cases e : i = j
    · subst e
      have l2 := get_lt h2
      have l1 := get_lt h1
      rw [List.length_set] at l1 l2
      rw [List.getElem?_set_self l1] at h1
      rw [List.getElem?_set_self l2] at h2
      cases h1
      cases h2
      exact SlR.of ⟨p, rfl, n, nb, oa⟩
    · rw [List.getElem?_set_ne e] at h1 h2
      exact R.sl j o s h1 h2
  ds := fun a b q sa sb h1 h2 w1 w2 k1 k2 => by
    have key : ∀ {a b : Nat} {sb : Sl}, i = a → i ≠ b → (σ.set i (some (.ref p)))[a]? = some (some (.ref q)) → (env.set i s)[b]? = some sb → sb.own = true → (σ.set i (some (.ref p)))[b]? = some (some (.ref q)) → False := fun {a b sb} ea nb k1 h2 w2 k2 => by
      subst ea
      have l1 := get_lt k1
      rw [List.length_set] at l1
      rw [List.getElem?_set_self l1] at k1
      rw [List.getElem?_set_ne nb] at h2 k2
      cases k1
      exact fr b sb h2 w2 k2
    by_cases ea : i = a
    · by_cases eb : i = b
      · omega
      · exact (key ea eb k1 h2 w2 k2).elim
    · by_cases eb : i = b
      · exact (key eb ea k2 h1 w1 k1).elim
      · rw [List.getElem?_set_ne ea] at h1 k1
        rw [List.getElem?_set_ne eb] at h2 k2
        exact R.ds a b q sa sb h1 h2 w1 w2 k1 k2
/-- what a slot owns -/
theorem Rel.own (R : Rel K B G σ H env) {i : Nat} {s : Sl} (h : env[i]? = some s) (w : s.own = true) : ∃ p, σ[i]? = some (some (.ref p)) ∧ G p = none ∧ B.H p = none ∧ OwnAt K G H p s := by
  have l := get_lt h
  rw [← R.len] at l
  have e : σ[i]? = some σ[i] := List.getElem?_eq_getElem l
  obtain ⟨p, e1, e2, e3, e4⟩ := (R.sl i _ s e h).own w
  exact ⟨p, by rw [e, e1], e2, e3, e4⟩
theorem Rel.val (R : Rel K B G σ H env) {i : Nat} {d : D} (h : env[i]? = some (.v d)) : ∃ v, σ[i]? = some (some v) ∧ Rep K G v d := by
  have l := get_lt h
  rw [← R.len] at l
  have e : σ[i]? = some σ[i] := List.getElem?_eq_getElem l
  obtain ⟨v, e1, e2⟩ := R.sl i _ _ e h
  exact ⟨v, by rw [e, e1], e2⟩
/-- one's own changes -/
theorem Rel.mut (R : Rel K B G σ H env) {i : Nat} {s s' : Sl} {o : HO} (h : env[i]? = some s) (w : s.own = true) (hp : σ[i]? = some (some (.ref p))) (oa : OwnAt K G (upd H p o) p s') : Rel K B G σ (upd H p o) (env.set i s') := by
  obtain ⟨p', hp', n, nb, oa0⟩ := R.own h w
  rw [hp] at hp'
  obtain rfl : p = p' := by injection hp' with z; injection z with z; injection z
  refine ⟨R.bg, R.bh.mut nb, R.gh.mut n, R.nw, by simp [R.len], fun j x t h1 h2 => ?_, fun a b q sa sb h1 h2 w1 w2 k1 k2 => ?_⟩
  · by_cases e : i = j
    · subst e
      have l2 := get_lt h2
      rw [List.length_set] at l2
      rw [List.getElem?_set_self l2] at h2
      cases h2
      rw [hp] at h1
      cases h1
      exact SlR.of ⟨p, rfl, n, nb, oa⟩
    · rw [List.getElem?_set_ne e] at h2
      refine (R.sl j x t h1 h2).mono ex0 fun q e1 w2 => ?_
      have nq : q ≠ p := fun z => e (R.ds i j p s t h h2 w w2 hp (by rw [h1, e1, z]))
      obtain ⟨q', e2, n2, _, _⟩ := (R.sl j x t h1 h2).own w2
      rw [e1] at e2
      obtain rfl : q = q' := by injection e2 with z; injection z
      exact ⟨upd_ne nq, n2⟩
  · have back : ∀ {a : Nat} {sa : Sl}, (env.set i s')[a]? = some sa → sa.own = true → ∃ t, env[a]? = some t ∧ t.own = true := fun {a sa} h1 w1 => by
      by_cases e : i = a
      · subst e
        exact ⟨s, h, w⟩
      · rw [List.getElem?_set_ne e] at h1
        exact ⟨sa, h1, w1⟩
    obtain ⟨ta, ha, wa⟩ := back h1 w1
    obtain ⟨tb, hb, wb⟩ := back h2 w2
    exact R.ds a b q ta tb ha hb wa wb k1 k2
/-- a thing of one's own is let go: it is a value from now on -/
theorem Rel.let (R : Rel K B G σ H env) {i : Nat} {s : Sl} {o : HO} {d : D} (h : env[i]? = some s) (w : s.own = true) (hp : σ[i]? = some (some (.ref p))) (ho : H p = some o) (r : Rep K (upd G p o) (.ref p) d) :
    Rel K B (upd G p o) σ H (env.set i (.v d)) := by
  obtain ⟨p', hp', n, nb, oa0⟩ := R.own h w
  rw [hp] at hp'
  obtain rfl : p = p' := by injection hp' with z; injection z with z; injection z
  have eg : Ex G (upd G p o) := exn n
  refine ⟨R.bg.trans eg, R.bh, fun a u k => ?_, fun q hq => ?_, by simp [R.len], fun j x t h1 h2 => ?_, fun a b q sa sb h1 h2 w1 w2 k1 k2 => ?_⟩
  · by_cases z : a = p
    · subst z
      rw [upd_same] at k
      rw [← k]
      exact ho
    · rw [upd_ne z] at k
      exact R.gh _ _ k
  · rw [upd_ne (fun z => hq (by rw [z]; exact nb))]
    exact R.nw q hq
  · by_cases e : i = j
    · subst e
      have l2 := get_lt h2
      rw [List.length_set] at l2
      rw [List.getElem?_set_self l2] at h2
      cases h2
      rw [hp] at h1
      cases h1
      exact ⟨_, rfl, r⟩
    · rw [List.getElem?_set_ne e] at h2
      refine (R.sl j x t h1 h2).mono eg fun q e1 w2 => ?_
      have nq : q ≠ p := fun z => e (R.ds i j p s t h h2 w w2 hp (by rw [h1, e1, z]))
      obtain ⟨q', e2, n2, _, _⟩ := (R.sl j x t h1 h2).own w2
      rw [e1] at e2
      obtain rfl : q = q' := by injection e2 with z; injection z
      exact ⟨rfl, by rw [upd_ne nq]; exact n2⟩
  · have na : ∀ {a : Nat} {sa : Sl}, (env.set i (.v d))[a]? = some sa → sa.own = true → env[a]? = some sa := fun {a sa} h1 w1 => by
      by_cases e : i = a
      · subst e
        have l2 := get_lt h1
        rw [List.length_set] at l2
        rw [List.getElem?_set_self l2] at h1
        cases h1
        cases w1
      · rw [List.getElem?_set_ne e] at h1
        exact h1
    exact R.ds a b q sa sb (na h1 w1) (na h2 w2) w1 w2 k1 k2
/-- nothing of one's own stands where the heap had nothing -/
theorem Rel.fresh (R : Rel K B G σ H env) (n : H p = none) : ∀ (j : Nat) t, env[j]? = some t → t.own = true → σ[j]? ≠ some (some (.ref p)) := fun j t h w z => by
  obtain ⟨q, hq, _, _, oa⟩ := R.own h w
  rw [z] at hq
  obtain rfl : p = q := by injection hq with z; injection z with z; injection z
  obtain ⟨o, ho⟩ := oa.some
  rw [n] at ho
  cases ho
theorem Rel.newB (R : Rel K B G σ H env) (n : H p = none) : B.H p = none := Evl.fresh_back R.bh n
end
end Pd
set_option maxRecDepth 100000
set_option maxHeartbeats 4000000
namespace Pd
open PySem PySem.Spec PyProof.Rows L2 Pre

/-! ### errors -/
inductive Err where
  | bare (C : Addr)
  | fld (C : Addr) (ns : List Str) (ds : List D)
  | blt (n : String)
section
variable (K : PySem.W.Frag)
def ErrTo (G H : Hp) (W : WX) (σ : L2.St) : Err → Prop
  | .bare C => ∀ G' H', Grow G H G' H' → W (.ref C) none σ H'
  | .fld C ns ds => ∀ (G' H' : Hp) dd (fs : List (Str × V)), Grow G H G' H' → G' dd = some (.xd fs) → fs.map (·.1) = ns → RepA K G' (fs.map (·.2)) ds → W (.ref C) (some dd) σ H'
  | .blt n => ∀ G' H' d, Grow G H G' H' → W (.type n) d σ H'
end
theorem ErrTo.grow {K : PySem.W.Frag} {G H G' H' : Hp} {W : WX} {σ : L2.St} {e : Err} (h : ErrTo K G H W σ e) (g : Grow G H G' H') : ErrTo K G' H' W σ e := by
  cases e with
  | bare C => exact fun G2 H2 g2 => h G2 H2 (g.trans g2)
  | fld C ns ds => exact fun G2 H2 dd fs g2 => h G2 H2 dd fs (g.trans g2)
  | blt n => exact fun G2 H2 d g2 => h G2 H2 d (g.trans g2)

/-! ### meanings: from the slots, with a wish of what comes and one of what is raised -/
abbrev En := List Sl
abbrev Fx (α : Type) := En → (α → Prop) → (Err → Prop) → Prop
inductive Out where
  | nx (env : En) | bk (env : En) | ct (env : En) | rt (d : D) | er (env : En) (e : Err)
abbrev Fs := En → (Out → Prop) → Prop

section
variable (K : PySem.W.Frag) (B : Bs) (W : WX)
def tP (F : Fx D) : TE := fun σ H Q => ∃ G env P R, Rel K B G σ H env ∧ F env P R ∧ (∀ d, P d → ∀ v G' H', Grow G H G' H' → Rep K G' v d → Q v H') ∧ ∀ e, R e → ErrTo K G H W σ e
def tQ (F : Fx Bool) : TT := fun σ H Q => ∃ G env P R, Rel K B G σ H env ∧ F env P R ∧ (∀ b, P b → ∀ G' H', Grow G H G' H' → Q b H') ∧ ∀ e, R e → ErrTo K G H W σ e
def tA (F : Fx (List D)) : TA := fun σ H Q => ∃ G env P R, Rel K B G σ H env ∧ F env P R ∧ (∀ ds, P ds → ∀ vs G' H', Grow G H G' H' → RepA K G' vs ds → Q vs H') ∧ ∀ e, R e → ErrTo K G H W σ e
/-- a new list that nothing else holds -/
def tL (F : Fx (List D)) : TE := fun σ H Q => ∃ G env P R, Rel K B G σ H env ∧ F env P R ∧
  (∀ ds, P ds → ∀ p vs G' H', Grow G H G' H' → H p = none → G' p = none → H' p = some (.lst vs) → RepA K G' vs ds → Q (.ref p) H') ∧ ∀ e, R e → ErrTo K G H W σ e
/-- a new dict that nothing else holds -/
def tK (F : Fx (List Key × List D)) : TE := fun σ H Q => ∃ G env P R, Rel K B G σ H env ∧ F env P R ∧
  (∀ x, P x → ∀ p (kvs : List (Key × V)) G' H', Grow G H G' H' → H p = none → G' p = none → H' p = some (.dK kvs) → kvs.map (·.1) = x.1 → RepA K G' (kvs.map (·.2)) x.2 → Q (.ref p) H') ∧ ∀ e, R e → ErrTo K G H W σ e
def tO' (F : Fx (Option Int)) : TO := fun σ H Q => ∃ G env P R, Rel K B G σ H env ∧ F env P R ∧ (∀ o, P o → ∀ G' H', Grow G H G' H' → Q o H') ∧ ∀ e, R e → ErrTo K G H W σ e
structure EndsOk (G : Hp) (P : Out → Prop) (Dn : Ends) : Prop where
  nx : ∀ env, P (.nx env) → ∀ σ' G' H', Ex G G' → Rel K B G' σ' H' env → Dn.nx σ' H'
  bk : ∀ env, P (.bk env) → ∀ σ' G' H', Ex G G' → Rel K B G' σ' H' env → Dn.bk σ' H'
  ct : ∀ env, P (.ct env) → ∀ σ' G' H', Ex G G' → Rel K B G' σ' H' env → Dn.ct σ' H'
  rt : ∀ d, P (.rt d) → ∀ v G' H', Grow B.G B.H G' H' → Rep K G' v d → Dn.rt v H'
  er : ∀ env e, P (.er env e) → ∀ σ' G' H', Ex G G' → Rel K B G' σ' H' env → ErrTo K G' H' W σ' e
def tS (F : Fs) : TS := fun Dn σ H => ∃ G env P, Rel K B G σ H env ∧ F env P ∧ EndsOk K B W G P Dn
end
section
variable {K : PySem.W.Frag} {B : Bs} {W : WX} {G G' H : Hp} {P : Out → Prop} {Dn : Ends} {σ : L2.St} {env : En}
theorem EndsOk.ex (h : EndsOk K B W G P Dn) (e : Ex G G') : EndsOk K B W G' P Dn :=
  ⟨fun env p σ' G2 H' x => h.nx env p σ' G2 H' (e.trans x), fun env p σ' G2 H' x => h.bk env p σ' G2 H' (e.trans x), fun env p σ' G2 H' x => h.ct env p σ' G2 H' (e.trans x), h.rt, fun env r p σ' G2 H' x => h.er env r p σ' G2 H' (e.trans x)⟩
/-- what stands at the end is grown from the start -/
theorem Rel.all (R : Rel K B G σ H env) : Grow B.G B.H G H := ⟨R.bg, R.bh, R.gh, R.nw⟩
theorem EndsOk.err (h : EndsOk K B W G P Dn) (R : Rel K B G σ H env) : ∀ e, P (.er env e) → ErrTo K G H W σ e := fun e p => h.er env e p σ G H ex0 R
end

/-! ### judgements -/
section
variable (B : Bs) (W : WX) (X : Cx)
def PD (e : Expr) (F : Fx D) : Prop := PE X e (tP X.K B W F)
def PQ (e : Expr) (F : Fx Bool) : Prop := PT X e (tQ X.K B W F)
def PQw (e : Expr) (F : Fx Bool) : Prop := PW X e (tQ X.K B W F)
def PDA (es : List Expr) (F : Fx (List D)) : Prop := PA X es (tA X.K B W F)
def PL (e : Expr) (F : Fx (List D)) : Prop := PE X e (tL X.K B W F)
def PK' (e : Expr) (F : Fx (List Key × List D)) : Prop := PE X e (tK X.K B W F)
def PDO (e : Option Expr) (F : Fx (Option Int)) : Prop := PO X e (tO' X.K B W F)
def PDs (s : Stmt) (F : Fs) : Prop := PS X s (tS X.K B W F)
def PDss (s : List Stmt) (F : Fs) : Prop := PSs X s (tS X.K B W F)
end
theorem _root_.L2.PE.imp {X : Cx} {e : Expr} {t t' : TE} (h : PE X e t) (k : ∀ σ H Q, t' σ H Q → t σ H Q) : PE X e t' := ⟨fun pins s σ H Q I q => h.run pins s σ H Q I (k σ H Q q)⟩
theorem _root_.L2.PT.imp {X : Cx} {e : Expr} {t t' : TT} (h : PT X e t) (k : ∀ σ H Q, t' σ H Q → t σ H Q) : PT X e t' := ⟨fun pins s σ H Q I q => h.run pins s σ H Q I (k σ H Q q)⟩
theorem _root_.L2.PW.imp {X : Cx} {e : Expr} {t t' : TT} (h : PW X e t) (k : ∀ σ H Q, t' σ H Q → t σ H Q) : PW X e t' := ⟨fun wh pins s σ H Q I q => h.run wh pins s σ H Q I (k σ H Q q)⟩
theorem _root_.L2.PA.imp {X : Cx} {e : List Expr} {t t' : TA} (h : PA X e t) (k : ∀ σ H Q, t' σ H Q → t σ H Q) : PA X e t' := ⟨fun pos pins s σ H Q I q => h.run pos pins s σ H Q I (k σ H Q q)⟩
theorem _root_.L2.PO.imp {X : Cx} {e : Option Expr} {t t' : TO} (h : PO X e t) (k : ∀ σ H Q, t' σ H Q → t σ H Q) : PO X e t' := ⟨fun pins s σ H Q I q => h.run pins s σ H Q I (k σ H Q q)⟩
theorem _root_.L2.PS.imp {X : Cx} {e : Stmt} {t t' : TS} (h : PS X e t) (k : ∀ D σ H, t' D σ H → t D σ H) : PS X e t' := ⟨fun pins s σ H D I q => h.run pins s σ H D I (k D σ H q)⟩
theorem _root_.L2.PSs.imp {X : Cx} {e : List Stmt} {t t' : TS} (h : PSs X e t) (k : ∀ D σ H, t' D σ H → t D σ H) : PSs X e t' := ⟨fun pins s σ H D I q => h.run pins s σ H D I (k D σ H q)⟩

section
variable {B : Bs} {W : WX} {X : Cx} {pos : Pos} {a b c e : Expr} {fa fb fc : Fx D} {ga gb : Fx Bool}

/-! ### names, constants -/
def wVar (i : Nat) : Fx D := fun env P _ => match env[i]? with
  | some (.v d) => P d
  | _ => False
def wC (d : D) : Fx D := fun _ P _ => P d
theorem pd_var (i : Nat) {x : Str} (hN : X.N[i]? = some x := by rfl) (hv : Vis X.env.scope x := by first | exact Or.inl rfl | exact Or.inr (Or.inl rfl) | exact Or.inr (Or.inr rfl)) (hd : (x == ("__debug__" : Str)) = false := by decide)
    (hcd : (x == ("__classdict__" : Str)) = false := by decide) : PD B W X (.Name x pos) (wVar i) := by
  refine (pe_var hN hv hd hcd).imp fun σ H Q ⟨G, env, P, R, rel, hF, hP, hR⟩ => ?_
  unfold wVar at hF
  split at hF
  · rename_i d h
    obtain ⟨v, e, r⟩ := rel.val h
    exact ⟨v, e, hP d hF v G H (Grow.refl rel.gh) r⟩
  · exact hF.elim
theorem pd_const {v : V} {d : D} (h : PE X e (tC v)) (r : ∀ K G, Rep K G v d) : PD B W X e (wC d) :=
  h.imp fun σ H Q ⟨G, env, P, R, rel, hF, hP, hR⟩ => hP d hF v G H (Grow.refl rel.gh) (r _ _)
theorem pd_int {i j} : PD B W X (.Constant (.int i) j pos) (wC (.int i)) := pd_const pe_int fun _ _ => .int i
theorem pd_bl {b j} : PD B W X (.Constant (.bool b) j pos) (wC (.bl b)) := pd_const pe_bl fun _ _ => .bl b
theorem pd_non {j} : PD B W X (.Constant .none j pos) (wC .non) := pd_const pe_non fun _ _ => .non
theorem pd_str {x j} : PD B W X (.Constant (.str x) j pos) (wC (.str x)) := pd_const pe_str fun _ _ => .str x

/-! ### operators -/
def wOp (φ : D → D → (D → Prop) → Prop) (fa fb : Fx D) : Fx D := fun env P R => fa env (fun x => fb env (fun y => φ x y P) R) R
def wUn (φ : D → (D → Prop) → Prop) (fa : Fx D) : Fx D := fun env P R => fa env (fun x => φ x P) R
/-- what an operator by values does, over trees -/
def OpD (K : PySem.W.Frag) (r : R2) (φ : D → D → (D → Prop) → Prop) : Prop := ∀ (x y : V) (dx dy : D) (G H : Hp) (P : D → Prop) (Q : VK), Ex G H → Rep K G x dx → Rep K G y dy → φ dx dy P →
  (∀ d, P d → ∀ v G' H', Grow G H G' H' → Rep K G' v d → Q v H') → r x y H Q
def UnD (K : PySem.W.Frag) (r : V → Hp → VK → Prop) (φ : D → (D → Prop) → Prop) : Prop := ∀ (x : V) (dx : D) (G H : Hp) (P : D → Prop) (Q : VK), Ex G H → Rep K G x dx → φ dx P →
  (∀ d, P d → ∀ v G' H', Grow G H G' H' → Rep K G' v d → Q v H') → r x H Q
/-- two in a row -/
theorem two {K : PySem.W.Frag} {σ : L2.St} {H : Hp} {T : V → V → Hp → Prop} {G : Hp} {env : En} {P : D → D → Prop} {R : Err → Prop} (rel : Rel K B G σ H env) (hF : fa env (fun x => fb env (fun y => P x y) R) R)
    (hR : ∀ e, R e → ErrTo K G H W σ e) (k : ∀ x y dx dy G' H', Grow G H G' H' → Rep K G' x dx → Rep K G' y dy → P dx dy → T x y H') : tP K B W fa σ H fun x H1 => tP K B W fb σ H1 fun y H2 => T x y H2 :=
  ⟨G, env, _, R, rel, hF, fun dx px x G1 H1 g1 rx => ⟨G1, env, _, R, rel.grow g1, px, fun dy py y G2 H2 g2 ry => k x y dx dy G2 H2 (g1.trans g2) (rx.ex g2.g) ry py, fun e re => (hR e re).grow g1⟩, hR⟩
theorem wOp_ok {K : PySem.W.Frag} {r : R2} {φ : D → D → (D → Prop) → Prop} (hd : OpD K r φ) {σ : L2.St} {H : Hp} {Q : VK} (h : tP K B W (wOp φ fa fb) σ H Q) : tOp r (tP K B W fa) (tP K B W fb) σ H Q := by
  obtain ⟨G, env, P, R, rel, hF, hP, hR⟩ := h
  exact two rel hF hR fun x y dx dy G' H' g rx ry p => hd x y dx dy G' H' P Q g.gh rx ry p fun d pd v G2 H2 g2 rv => hP d pd v G2 H2 (g.trans g2) rv
theorem pd_op {op : Operator} {r : R2} {φ : D → D → (D → Prop) → Prop} (h : OpR X (binaryOp op) r) (hd : OpD X.K r φ) (ha : PD B W X a fa) (hb : PD B W X b fb) : PD B W X (.BinOp a op b pos) (wOp φ fa fb) :=
  (pe_op h ha hb).imp fun σ H Q q => wOp_ok hd q
theorem pd_un {op : UnaryOp} {r : V → Hp → VK → Prop} {φ : D → (D → Prop) → Prop} (h : UnR X (unaryOp op) r) (hd : UnD X.K r φ) (ha : PD B W X a fa) : PD B W X (.UnaryOp op a pos) (wUn φ fa) :=
  (pe_un h ha).imp fun σ H Q ⟨G, env, P, R, rel, hF, hP, hR⟩ => ⟨G, env, _, R, rel, hF, fun dx px x G1 H1 g1 rx => hd x dx G1 H1 P Q g1.gh rx px fun d pd v G2 H2 g2 rv => hP d pd v G2 H2 (g1.trans g2) rv, hR⟩
theorem pd_cmp {op : CmpOp} {r : R2} {φ : D → D → (D → Prop) → Prop} (h : OpR X (compareOp op) r) (hd : OpD X.K r φ) (ha : PD B W X a fa) (hb : PD B W X b fb) (hm : behindInMarks op b = false) : PD B W X (.Compare a [op] [b] pos) (wOp φ fa fb) :=
  (pe_cmpR h ha hb hm).imp fun σ H Q q => wOp_ok hd q
/-- the same as a test -/
def wOpB (φ : D → D → (D → Prop) → Prop) (fa fb : Fx D) : Fx Bool := fun env P R => fa env (fun x => fb env (fun y => φ x y (fun d => match d with | .bl b => P b | _ => False)) R) R
theorem pq_cmp {op : CmpOp} {r : R2} {φ : D → D → (D → Prop) → Prop} (h : OpR X (compareOp op) r) (hd : OpD X.K r φ) (ha : PD B W X a fa) (hb : PD B W X b fb) (hm : behindInMarks op b = false) : PQ B W X (.Compare a [op] [b] pos) (wOpB φ fa fb) :=
  (pt_cmpR h ha hb hm).imp fun σ H Q ⟨G, env, P, R, rel, hF, hP, hR⟩ => by
    refine two rel hF hR fun x y dx dy G' H' g rx ry p => hd x y dx dy G' H' _ _ g.gh rx ry p fun d pd v G2 H2 g2 rv => ?_
    cases d with
    | bl b => exact ⟨b, rv.bl_inv, hP b pd _ _ (g.trans g2)⟩
    | _ => exact pd.elim
/-- any expression that gives a bool, as a test -/
def wB (fa : Fx D) : Fx Bool := fun env P R => fa env (fun d => match d with | .bl b => P b | _ => False) R
theorem wB_ok {K : PySem.W.Frag} {σ : L2.St} {H : Hp} {Q : Bool → Hp → Prop} (h : tQ K B W (wB fa) σ H Q) : tB (tP K B W fa) σ H Q := by
  obtain ⟨G, env, P, R, rel, hF, hP, hR⟩ := h
  refine ⟨G, env, _, R, rel, hF, fun d pd v G2 H2 g2 rv => ?_, hR⟩
  cases d with
  | bl b => exact ⟨b, rv.bl_inv, hP b pd _ _ g2⟩
  | _ => exact pd.elim
theorem pq_val (h : PD B W X a fa) (he : ∀ whole, isTrue a X.env whole = (do let v ← whole; standAt a.pos; holding [v] (truthy v)) := by intro _; rfl) : PQ B W X a (wB fa) := (pt_val h he).imp fun _ _ _ q => wB_ok q
/-- chains a < b < c -/
def wCh (φ ψ : D → D → (D → Prop) → Prop) (fa fb fc : Fx D) : Fx D := fun env P R => fa env (fun x => fb env (fun y => φ x y (fun d => match d with | .bl b => if b = true then fc env (fun z => ψ y z P) R else P (.bl false) | _ => False)) R) R
theorem wCh_ok {K : PySem.W.Frag} {r r' : R2} {φ ψ : D → D → (D → Prop) → Prop} (hd : OpD K r φ) (hd' : OpD K r' ψ) {σ : L2.St} {H : Hp} {Q : VK} (h : tP K B W (wCh φ ψ fa fb fc) σ H Q) : tChain r r' (tP K B W fa) (tP K B W fb) (tP K B W fc) σ H Q := by
  obtain ⟨G, env, P, R, rel, hF, hP, hR⟩ := h
  refine two rel hF hR fun x y dx dy G1 H1 g1 rx ry p => hd x y dx dy G1 H1 _ _ g1.gh rx ry p fun d pd v G2 H2 g2 rv => ?_
  cases d with
  | bl b =>
    refine ⟨b, rv.bl_inv, ?_⟩
    cases b with
    | true =>
      rw [if_pos rfl]
      refine ⟨G2, env, _, R, rel.grow (g1.trans g2), pd, fun dz pz z G3 H3 g3 rz => hd' y z dy dz G3 H3 P Q g3.gh (ry.ex (g2.g.trans g3.g)) rz pz fun d pd v G4 H4 g4 rv => hP d pd v G4 H4 ((g1.trans g2).trans (g3.trans g4)) rv, fun e re => (hR e re).grow (g1.trans g2)⟩
    | false =>
      rw [if_neg (by decide)]
      exact hP _ pd _ G2 H2 (g1.trans g2) (.bl false)
  | _ => exact pd.elim
theorem pd_chain {op op' : CmpOp} {r r' : R2} {φ ψ : D → D → (D → Prop) → Prop} (h : OpR X (compareOp op) r) (h' : OpR X (compareOp op') r') (hd : OpD X.K r φ) (hd' : OpD X.K r' ψ) (ha : PD B W X a fa) (hb : PD B W X b fb) (hc : PD B W X c fc)
    (hm : lastMarks [op, op'] [b, c] = false := by with_unfolding_all rfl) : PD B W X (.Compare a [op, op'] [b, c] pos) (wCh φ ψ fa fb fc) := (pe_chain h h' ha hb hc hm).imp fun _ _ _ q => wCh_ok hd hd' q
def wChB (φ ψ : D → D → (D → Prop) → Prop) (fa fb fc : Fx D) : Fx Bool := wB (wCh φ ψ fa fb fc)
theorem pq_chain {op op' : CmpOp} {r r' : R2} {φ ψ : D → D → (D → Prop) → Prop} (h : OpR X (compareOp op) r) (h' : OpR X (compareOp op') r') (hd : OpD X.K r φ) (hd' : OpD X.K r' ψ) (ha : PD B W X a fa) (hb : PD B W X b fb) (hc : PD B W X c fc)
    (hm : lastMarks [op, op'] [b, c] = false := by with_unfolding_all rfl) : PQ B W X (.Compare a [op, op'] [b, c] pos) (wB (wCh φ ψ fa fb fc)) := (pt_chain h h' ha hb hc hm).imp fun σ H Q ⟨G, env, P, R, rel, hF, hP, hR⟩ =>
  wCh_ok hd hd' ⟨G, env, _, R, rel, hF, fun d pd v G2 H2 g2 rv => by
    cases d with
    | bl b => exact ⟨b, rv.bl_inv, hP b pd _ _ g2⟩
    | _ => exact pd.elim, hR⟩

/-! ### and, or, not, if -/
def wAnd (ga gb : Fx Bool) : Fx Bool := fun env P R => ga env (fun x => if x = true then gb env P R else P false) R
def wOr (ga gb : Fx Bool) : Fx Bool := fun env P R => ga env (fun x => if x = true then P true else gb env P R) R
def wNot (ga : Fx Bool) : Fx Bool := fun env P R => ga env (fun x => P (!x)) R
variable {rest : List Expr}
theorem pqw_and1 (ha : PQ B W X a ga) : PQw B W X (.BoolOp .And [a] pos) ga := pw_and1 ha
theorem pqw_or1 (ha : PQ B W X a ga) : PQw B W X (.BoolOp .Or [a] pos) ga := pw_or1 ha
theorem pqw_and (ha : PQ B W X a ga) (hb : PQw B W X (.BoolOp .And (b :: rest) pos) gb) : PQw B W X (.BoolOp .And (a :: b :: rest) pos) (wAnd ga gb) :=
  (pw_and ha hb).imp fun σ H Q ⟨G, env, P, R, rel, hF, hP, hR⟩ => ⟨G, env, _, R, rel, hF, fun x px G1 H1 g1 => by
    cases x with
    | true => exact ⟨G1, env, P, R, rel.grow g1, px, fun b pb G2 H2 g2 => hP b pb G2 H2 (g1.trans g2), fun e re => (hR e re).grow g1⟩
    | false => exact hP _ px G1 H1 g1, hR⟩
theorem pqw_or (ha : PQ B W X a ga) (hb : PQw B W X (.BoolOp .Or (b :: rest) pos) gb) : PQw B W X (.BoolOp .Or (a :: b :: rest) pos) (wOr ga gb) :=
  (pw_or ha hb).imp fun σ H Q ⟨G, env, P, R, rel, hF, hP, hR⟩ => ⟨G, env, _, R, rel, hF, fun x px G1 H1 g1 => by
    cases x with
    | false => exact ⟨G1, env, P, R, rel.grow g1, px, fun b pb G2 H2 g2 => hP b pb G2 H2 (g1.trans g2), fun e re => (hR e re).grow g1⟩
    | true => exact hP _ px G1 H1 g1, hR⟩
theorem pqw_pt (h : PQw B W X a ga) : PQ B W X a ga := PW.pt h
theorem pq_not (ha : PQ B W X a ga) : PQ B W X (.UnaryOp .Not a pos) (wNot ga) :=
  (pt_not ha).imp fun σ H Q ⟨G, env, P, R, rel, hF, hP, hR⟩ => ⟨G, env, _, R, rel, hF, fun x px G1 H1 g1 => hP _ px G1 H1 g1, hR⟩
def wAndV (fa fb : Fx D) : Fx D := fun env P R => fa env (fun x => match x with | .bl b => if b = true then fb env P R else P (.bl false) | _ => False) R
def wOrV (fa fb : Fx D) : Fx D := fun env P R => fa env (fun x => match x with | .bl b => if b = true then P (.bl true) else fb env P R | _ => False) R
def wNotV (fa : Fx D) : Fx D := fun env P R => fa env (fun x => match x with | .bl b => P (.bl (!b)) | _ => False) R
theorem pd_one {op} (h : PD B W X a fa) : PD B W X (.BoolOp op [a] pos) fa := pe_one h
theorem pd_and (ha : PD B W X a fa) (hb : PD B W X (.BoolOp .And (b :: rest) pos) fb) : PD B W X (.BoolOp .And (a :: b :: rest) pos) (wAndV fa fb) :=
  (pe_and ha hb).imp fun σ H Q ⟨G, env, P, R, rel, hF, hP, hR⟩ => ⟨G, env, _, R, rel, hF, fun x px v G1 H1 g1 rv => by
    cases x with
    | bl b =>
      refine ⟨b, rv.bl_inv, ?_⟩
      cases b with
      | true =>
        rw [if_pos rfl]
        exact ⟨G1, env, P, R, rel.grow g1, px, fun b pb v G2 H2 g2 rv => hP b pb v G2 H2 (g1.trans g2) rv, fun e re => (hR e re).grow g1⟩
      | false =>
        rw [if_neg (by decide)]
        exact hP _ px _ G1 H1 g1 (.bl false)
    | _ => exact px.elim, hR⟩
theorem pd_or (ha : PD B W X a fa) (hb : PD B W X (.BoolOp .Or (b :: rest) pos) fb) : PD B W X (.BoolOp .Or (a :: b :: rest) pos) (wOrV fa fb) :=
  (pe_or ha hb).imp fun σ H Q ⟨G, env, P, R, rel, hF, hP, hR⟩ => ⟨G, env, _, R, rel, hF, fun x px v G1 H1 g1 rv => by
    cases x with
    | bl b =>
      refine ⟨b, rv.bl_inv, ?_⟩
      cases b with
      | false =>
        rw [if_neg (by decide)]
        exact ⟨G1, env, P, R, rel.grow g1, px, fun b pb v G2 H2 g2 rv => hP b pb v G2 H2 (g1.trans g2) rv, fun e re => (hR e re).grow g1⟩
      | true =>
        rw [if_pos rfl]
        exact hP _ px _ G1 H1 g1 (.bl true)
    | _ => exact px.elim, hR⟩
theorem pd_not (ha : PD B W X a fa) : PD B W X (.UnaryOp .Not a pos) (wNotV fa) :=
  (pe_not ha).imp fun σ H Q ⟨G, env, P, R, rel, hF, hP, hR⟩ => ⟨G, env, _, R, rel, hF, fun x px v G1 H1 g1 rv => by
    cases x with
    | bl b => exact ⟨b, rv.bl_inv, hP _ px _ G1 H1 g1 (.bl _)⟩
    | _ => exact px.elim, hR⟩
def wIf (gc : Fx Bool) (fa fb : Fx D) : Fx D := fun env P R => gc env (fun x => if x = true then fa env P R else fb env P R) R
theorem pd_ifE (hc : PQ B W X c ga) (ha : PD B W X a fa) (hb : PD B W X b fb) : PD B W X (.IfExp c a b pos) (wIf ga fa fb) :=
  (pe_ifExp hc ha hb).imp fun σ H Q ⟨G, env, P, R, rel, hF, hP, hR⟩ => ⟨G, env, _, R, rel, hF, fun x px G1 H1 g1 => by
    cases x with
    | true => exact ⟨G1, env, P, R, rel.grow g1, px, fun b pb v G2 H2 g2 rv => hP b pb v G2 H2 (g1.trans g2) rv, fun e re => (hR e re).grow g1⟩
    | false => exact ⟨G1, env, P, R, rel.grow g1, px, fun b pb v G2 H2 g2 rv => hP b pb v G2 H2 (g1.trans g2) rv, fun e re => (hR e re).grow g1⟩, hR⟩

/-! ### arguments, displays -/
variable {es : List Expr} {fas : Fx (List D)}
def wNil : Fx (List D) := fun _ P _ => P []
def wCons (fa : Fx D) (fas : Fx (List D)) : Fx (List D) := fun env P R => fa env (fun x => fas env (fun xs => P (x :: xs)) R) R
theorem pda_nil : PDA B W X [] wNil := pa_nil.imp fun σ H Q ⟨G, env, P, R, rel, hF, hP, hR⟩ => hP _ hF [] G H (Grow.refl rel.gh) .nil
theorem pda_cons (ha : PD B W X a fa) (hr : PDA B W X es fas) (hs : starEach (a :: es) X.env = (false, eval a X.env) :: starEach es X.env := by rfl) : PDA B W X (a :: es) (wCons fa fas) :=
  (pa_cons ha hr hs).imp fun σ H Q ⟨G, env, P, R, rel, hF, hP, hR⟩ => ⟨G, env, _, R, rel, hF, fun dx px x G1 H1 g1 rx => ⟨G1, env, _, R, rel.grow g1, px, fun ds pds vs G2 H2 g2 rvs => hP _ pds _ G2 H2 (g1.trans g2) (.cons (rx.ex g2.g) rvs), fun e re => (hR e re).grow g1⟩, hR⟩
def wTup (fas : Fx (List D)) : Fx D := fun env P R => fas env (fun ds => ds.length ≤ sizeLine ∧ P (.tup ds)) R
theorem pd_tup {x1} (h : PDA B W X es fas) : PD B W X (.Tuple es x1 pos) (wTup fas) :=
  (pe_tup h).imp fun σ H Q ⟨G, env, P, R, rel, hF, hP, hR⟩ => ⟨G, env, _, R, rel, hF, fun ds pd vs G1 H1 g1 rvs => ⟨by rw [rvs.len]; exact pd.1, fun p np => hP _ pd.2 _ _ _ (g1.trans (Grow.new g1.gh np)) (.tup (SqT.of upd_same) (rvs.ex (exn (Evl.fresh_back g1.gh np))))⟩, hR⟩
/-- a new list -/
def wLst (fas : Fx (List D)) : Fx (List D) := fun env P R => fas env (fun ds => ds.length ≤ sizeLine ∧ P ds) R
theorem pl_lst (h : PDA B W X es fas) : PL B W X (.List es pos) (wLst fas) :=
  (pe_lst h).imp fun σ H Q ⟨G, env, P, R, rel, hF, hP, hR⟩ => ⟨G, env, _, R, rel, hF, fun ds pd vs G1 H1 g1 rvs => ⟨by rw [rvs.len]; exact pd.1, fun p np =>
    hP _ pd.2 p vs G1 _ (g1.trans (Grow.own g1.gh np)) (Evl.fresh_back g1.h np) (Evl.fresh_back g1.gh np) upd_same rvs⟩, hR⟩
/-- a new list is a value -/
def wLV (f : Fx (List D)) : Fx D := fun env P R => f env (fun ds => P (.lst ds)) R
theorem pd_of_pl {f : Fx (List D)} (h : PL B W X e f) : PD B W X e (wLV f) :=
  h.imp fun σ H Q ⟨G, env, P, R, rel, hF, hP, hR⟩ => ⟨G, env, _, R, rel, hF, fun ds pd p vs G1 H1 g1 n1 n2 h1 rvs => hP _ pd _ _ _ (g1.see n1 n2 h1) (.lst upd_same (rvs.ex (exn n2))), hR⟩
def wKV (f : Fx (List Key × List D)) : Fx D := fun env P R => f env (fun x => P (.dic x.1 x.2)) R
theorem pd_of_pk {f : Fx (List Key × List D)} (h : PK' B W X e f) : PD B W X e (wKV f) :=
  h.imp fun σ H Q ⟨G, env, P, R, rel, hF, hP, hR⟩ => ⟨G, env, _, R, rel, hF, fun ds pd p kvs G1 H1 g1 n1 n2 h1 ek rvs => hP _ pd _ _ _ (g1.see n1 n2 h1) (.dic upd_same ek (rvs.ex (exn n2))), hR⟩

/-! ### built-ins by their values -/
def wBt (φ : List D → (D → Prop) → Prop) (fas : Fx (List D)) : Fx D := fun env P R => fas env (fun ds => φ ds P) R
def CaD (K : PySem.W.Frag) (r : List V → Hp → VK → Prop) (φ : List D → (D → Prop) → Prop) : Prop := ∀ (xs : List V) (ds : List D) (G H : Hp) (P : D → Prop) (Q : VK), Ex G H → RepA K G xs ds → φ ds P →
  (∀ d, P d → ∀ v G' H', Grow G H G' H' → Rep K G' v d → Q v H') → r xs H Q
theorem wBt_ok {K : PySem.W.Frag} {r : List V → Hp → VK → Prop} {φ : List D → (D → Prop) → Prop} (hd : CaD K r φ) {σ : L2.St} {H : Hp} {Q : VK} (h : tP K B W (wBt φ fas) σ H Q) : tCB r (tA K B W fas) σ H Q := by
  obtain ⟨G, env, P, R, rel, hF, hP, hR⟩ := h
  exact ⟨G, env, _, R, rel, hF, fun ds pd vs G1 H1 g1 rvs => hd vs ds G1 H1 P Q g1.gh rvs pd fun d pd v G2 H2 g2 rv => hP d pd v G2 H2 (g1.trans g2) rv, hR⟩
theorem pd_bt {r : List V → Hp → VK → Prop} {φ : List D → (D → Prop) → Prop} (h : PE X e (tCB r (tA X.K B W fas))) (hd : CaD X.K r φ) : PD B W X e (wBt φ fas) := h.imp fun _ _ _ q => wBt_ok hd q
/-- a built-in that gives a new list -/
def wBl (φ : List D → (List D → Prop) → Prop) (fas : Fx (List D)) : Fx (List D) := fun env P R => fas env (fun ds => φ ds P) R
def ClD (K : PySem.W.Frag) (r : List V → Hp → VK → Prop) (φ : List D → (List D → Prop) → Prop) : Prop := ∀ (xs : List V) (ds : List D) (G H : Hp) (P : List D → Prop) (Q : VK), Ex G H → RepA K G xs ds → φ ds P →
  (∀ d, P d → ∀ p vs G' H', Grow G H G' H' → H p = none → G' p = none → H' p = some (.lst vs) → RepA K G' vs d → Q (.ref p) H') → r xs H Q
theorem pl_bt {r : List V → Hp → VK → Prop} {φ : List D → (List D → Prop) → Prop} (h : PE X e (tCB r (tA X.K B W fas))) (hd : ClD X.K r φ) : PL B W X e (wBl φ fas) :=
  h.imp fun σ H Q ⟨G, env, P, R, rel, hF, hP, hR⟩ => ⟨G, env, _, R, rel, hF, fun ds pd vs G1 H1 g1 rvs => hd vs ds G1 H1 P Q g1.gh rvs pd fun d pd p us G2 H2 g2 n1 n2 h2 rv => hP d pd p us G2 H2 (g1.trans g2) (Evl.fresh_back g1.h n1) n2 h2 rv, hR⟩
end
end Pd
set_option maxRecDepth 100000
set_option maxHeartbeats 4000000
/-! operators and built-ins over trees -/
namespace Pd
open PySem PySem.Spec PyProof.Rows L2 Pre

mutual
def toPy : D → Option PyData
  | .non => some .none
  | .bl b => some (.bool b)
  | .int i => some (.int i)
  | .str s => some (.str s)
  | .lst ds => (toPyA ds).map .list
  | .tup ds => (toPyA ds).map .tuple
  | _ => none
def toPyA : List D → Option (List PyData)
  | [] => some []
  | d :: ds => match toPy d, toPyA ds with
    | some p, some ps => some (p :: ps)
    | _, _ => none
end
mutual
theorem Rep.dp {K : PySem.W.Frag} {G : Hp} : ∀ {v : V} {d : D} {p : PyData}, Rep K G v d → toPy d = some p → Dp K G v p
  | _, _, p, .non, e => by simp only [toPy] at e; cases e; exact .non
  | _, _, p, .bl b, e => by simp only [toPy] at e; cases e; exact .bl b
  | _, _, p, .int b, e => by simp only [toPy] at e; cases e; exact .int b
  | _, _, p, .str b, e => by simp only [toPy] at e; cases e; exact .str b
  | _, _, p, .byt b, e => by simp only [toPy] at e; cases e
  | _, _, p, .lst (ds := ds) h r, e => by
    simp only [toPy] at e
    cases q : toPyA ds with
    | none => rw [q] at e; cases e
    | some ps => rw [q] at e; cases e; exact .lst (SqL.of h) (RepA.dp r q)
  | _, _, p, .tup (ds := ds) h r, e => by
    simp only [toPy] at e
    cases q : toPyA ds with
    | none => rw [q] at e; cases e
    | some ps => rw [q] at e; cases e; exact .tup h (RepA.dp r q)
  | _, _, p, .dic _ _ _, e => by simp only [toPy] at e; cases e
  | _, _, p, .obj _ _ _, e => by simp only [toPy] at e; cases e
  | _, _, p, .hid _, e => by simp only [toPy] at e; cases e
  | _, _, p, .frz _ _, e => by simp only [toPy] at e; cases e
  | _, _, p, .raw v, e => by simp only [toPy] at e; cases e
theorem RepA.dp {K : PySem.W.Frag} {G : Hp} : ∀ {vs : List V} {ds : List D} {ps : List PyData}, RepA K G vs ds → toPyA ds = some ps → DpAll K G vs ps
  | _, _, ps, .nil, e => by simp only [toPyA] at e; cases e; exact .nil
  | _, _, ps, .cons (d := d) (ds := ds) h r, e => by
    simp only [toPyA] at e
    cases q : toPy d with
    | none => rw [q] at e; cases e
    | some p =>
      cases q2 : toPyA ds with
      | none => rw [q, q2] at e; cases e
      | some ps' => rw [q, q2] at e; cases e; exact .cons (Rep.dp h q) (RepA.dp r q2)
end
mutual
theorem dp_ex {K : PySem.W.Frag} {G H : Hp} (e : Ex G H) : ∀ {v : V} {p : PyData}, Dp K G v p → Dp K H v p
  | _, _, .non => .non
  | _, _, .bl b => .bl b
  | _, _, .int b => .int b
  | _, _, .str b => .str b
  | _, _, .lst h r => .lst (exl e h) (dpa_ex e r)
  | _, _, .tup h r => .tup (ext e h) (dpa_ex e r)
theorem dpa_ex {K : PySem.W.Frag} {G H : Hp} (e : Ex G H) : ∀ {v : List V} {p : List PyData}, DpAll K G v p → DpAll K H v p
  | _, _, .nil => .nil
  | _, _, .cons h r => .cons (dp_ex e h) (dpa_ex e r)
end

def D.flat : D → Bool
  | .non => true | .bl _ => true | .int _ => true | .str _ => true
  | _ => false
/-- == of two flat things where the rule of plain == serves -/
def scalD : D → D → Bool
  | .non, .non => true | .non, .int _ => true | .int _, .non => true | .non, .bl _ => true | .bl _, .non => true | .non, .str _ => true | .str _, .non => true
  | .int _, .int _ => true | .bl _, .bl _ => true | .str _, .str _ => true | .byt _, .byt _ => true
  | .int _, .str _ => true | .str _, .int _ => true | .bl _, .str _ => true | .str _, .bl _ => true
  | _, _ => false
def flatEq : D → D → Bool
  | .non, .non => true
  | .bl a, .bl b => a == b
  | .int a, .int b => a == b
  | .str a, .str b => a == b
  | .byt a, .byt b => decide (a = b)
  | _, _ => false
theorem scal_of {K : PySem.W.Frag} {G : Hp} {x y : V} {dx dy : D} (rx : Rep K G x dx) (ry : Rep K G y dy) (h : scalD dx dy = true) : scal x y = true ∧ decide (x = y) = flatEq dx dy := by
  cases rx <;> cases ry <;> first | (cases h; done) | (refine ⟨rfl, ?_⟩; simp [flatEq]; done) | (refine ⟨rfl, ?_⟩; simp only [flatEq, V.int.injEq, V.str.injEq, V.bl.injEq, V.byt.injEq]; rfl)
/-- == among flat things, as in looks for a member -/
def eqF : D → D → Bool
  | .non, .non => true
  | .bl a, .bl b => a == b
  | .bl a, .int b => (if a then 1 else 0) == b
  | .int a, .bl b => a == (if b then 1 else 0)
  | .int a, .int b => a == b
  | .str a, .str b => a == b
  | _, _ => false
theorem flat_of {K : PySem.W.Frag} {G : Hp} {x : V} {d : D} (r : Rep K G x d) (h : d.flat = true) : flatV x = true := by
  cases r <;> first | rfl | (cases h)
theorem flats_of {K : PySem.W.Frag} {G : Hp} : ∀ {xs : List V} {ds : List D}, RepA K G xs ds → ds.all D.flat = true → xs.all flatV = true
  | _, _, .nil, _ => rfl
  | _, _, .cons r rs, h => by
    rw [List.all_cons, Bool.and_eq_true] at h ⊢
    exact ⟨flat_of r h.1, flats_of rs h.2⟩
theorem eqF_of {K : PySem.W.Frag} {G : Hp} {x y : V} {dx dy : D} (rx : Rep K G x dx) (ry : Rep K G y dy) (hx : dx.flat = true) (hy : dy.flat = true) : eqV x y = eqF dx dy := by
  cases rx <;> cases ry <;> first | rfl | (cases hx; done) | (cases hy; done)
def inD (x : D) (ds : List D) : Bool := ds.any fun y => eqF y x
theorem inD_of {K : PySem.W.Frag} {G : Hp} {x : V} {dx : D} (rx : Rep K G x dx) (hx : dx.flat = true) : ∀ {xs : List V} {ds : List D}, RepA K G xs ds → ds.all D.flat = true → inV x xs = inD dx ds
  | _, _, .nil, _ => rfl
  | _, _, .cons r rs, h => by
    rw [List.all_cons, Bool.and_eq_true] at h
    have ih := inD_of rx hx rs h.2
    unfold inV inD at ih ⊢
    rw [List.any_cons, List.any_cons, ih, eqF_of r rx h.1 hx]

section
variable {K : PySem.W.Frag}
/-! ### numbers -/
def φI0 (g : Int → Int → D) : D → D → (D → Prop) → Prop
  | .int i, .int j, P => P (g i j)
  | _, _, _ => False
def φI (C : Int → Int → Prop) (g : Int → Int → D) : D → D → (D → Prop) → Prop
  | .int i, .int j, P => C i j ∧ P (g i j)
  | _, _, _ => False
theorem odI0 {g : Int → Int → Int} : OpD K (rI0 fun i j => .int (g i j)) (φI0 fun i j => .int (g i j)) := fun x y dx dy G H P Q e rx ry p k => by
  cases dx <;> first | exact p.elim | skip
  cases dy <;> first | exact p.elim | skip
  cases rx
  cases ry
  exact ⟨_, _, rfl, rfl, k _ p _ G H (Grow.refl e) (.int _)⟩
theorem odB0 {g : Int → Int → Bool} : OpD K (rI0 fun i j => .bl (g i j)) (φI0 fun i j => .bl (g i j)) := fun x y dx dy G H P Q e rx ry p k => by
  cases dx <;> first | exact p.elim | skip
  cases dy <;> first | exact p.elim | skip
  cases rx
  cases ry
  exact ⟨_, _, rfl, rfl, k _ p _ G H (Grow.refl e) (.bl _)⟩
theorem odI {C : Int → Int → Prop} {g : Int → Int → Int} : OpD K (rI C fun i j => .int (g i j)) (φI C fun i j => .int (g i j)) := fun x y dx dy G H P Q e rx ry p k => by
  cases dx <;> first | exact p.elim | skip
  cases dy <;> first | exact p.elim | skip
  cases rx
  cases ry
  exact ⟨_, _, rfl, rfl, p.1, k _ p.2 _ G H (Grow.refl e) (.int _)⟩
def φNeg : D → (D → Prop) → Prop
  | .int i, P => P (.int (-i))
  | _, _ => False
theorem udNeg : UnD K (rU fun i => .int (-i)) φNeg := fun x dx G H P Q e rx p k => by
  cases dx <;> first | exact p.elim | skip
  cases rx
  exact ⟨_, rfl, k _ p _ G H (Grow.refl e) (.int _)⟩

/-! ### texts -/
def φSS (g : Str → Str → Bool) : D → D → (D → Prop) → Prop
  | .str i, .str j, P => P (.bl (g i j))
  | _, _, _ => False
theorem odSS {g : Str → Str → Bool} : OpD K (fun x y H Q => ∃ i j, x = .str i ∧ y = .str j ∧ Q (.bl (g i j)) H) (φSS g) := fun x y dx dy G H P Q e rx ry p k => by
  cases dx <;> first | exact p.elim | skip
  cases dy <;> first | exact p.elim | skip
  cases rx
  cases ry
  exact ⟨_, _, rfl, rfl, k _ p _ G H (Grow.refl e) (.bl _)⟩
def φAddS : D → D → (D → Prop) → Prop
  | .str i, .str j, P => i.length + j.length ≤ sizeLine ∧ P (.str (i ++ j))
  | _, _, _ => False
theorem odAddS : OpD K (fun x y H Q => ∃ i j, x = .str i ∧ y = .str j ∧ i.length + j.length ≤ sizeLine ∧ Q (.str (i ++ j)) H) φAddS := fun x y dx dy G H P Q e rx ry p k => by
  cases dx <;> first | exact p.elim | skip
  cases dy <;> first | exact p.elim | skip
  cases rx
  cases ry
  exact ⟨_, _, rfl, rfl, p.1, k _ p.2 _ G H (Grow.refl e) (.str _)⟩
/-- a sign in a text -/
def φInS (neg : Bool) : D → D → (D → Prop) → Prop
  | .str s, .str t, P => match s.cps.toList with
    | [c] => P (.bl (if neg then !decide (c ∈ t.cps.toList) else decide (c ∈ t.cps.toList)))
    | _ => False
  | _, _, _ => False
theorem odInS : OpD K (fun x y H Q => ∃ (c : Nat) (z : Str), x = .str ⟨#[c]⟩ ∧ y = .str z ∧ Q (.bl (decide (c ∈ z.cps.toList))) H) (φInS false) := fun x y dx dy G H P Q e rx ry p k => by
  cases dx <;> first | exact p.elim | skip
  cases dy <;> first | exact p.elim | skip
  cases rx
  cases ry
  rename_i s t
  simp only [φInS] at p
  split at p
  · rename_i c hc
    have hs : s = ⟨#[c]⟩ := by
      cases s with
      | mk a => exact congrArg _ (Array.toList_inj.mp hc)
    subst hs
    exact ⟨c, t, rfl, rfl, k _ p _ G H (Grow.refl e) (.bl _)⟩
  · exact p.elim
theorem odNotInS : OpD K (fun x y H Q => ∃ (c : Nat) (z : Str), x = .str ⟨#[c]⟩ ∧ y = .str z ∧ Q (.bl (!decide (c ∈ z.cps.toList))) H) (φInS true) := fun x y dx dy G H P Q e rx ry p k => by
  cases dx <;> first | exact p.elim | skip
  cases dy <;> first | exact p.elim | skip
  cases rx
  cases ry
  rename_i s t
  simp only [φInS] at p
  split at p
  · rename_i c hc
    have hs : s = ⟨#[c]⟩ := by
      cases s with
      | mk a => exact congrArg _ (Array.toList_inj.mp hc)
    subst hs
    exact ⟨c, t, rfl, rfl, k _ p _ G H (Grow.refl e) (.bl _)⟩
  · exact p.elim

/-! ### ==, is None, in -/
def φEq (neg : Bool) (x y : D) (P : D → Prop) : Prop := scalD x y = true ∧ P (.bl (if neg then !flatEq x y else flatEq x y))
theorem odEq : OpD K rEq (φEq false) := fun x y dx dy G H P Q e rx ry p k => by
  obtain ⟨h1, h2⟩ := scal_of rx ry p.1
  exact ⟨h1, by rw [h2]; exact k _ p.2 _ G H (Grow.refl e) (.bl _)⟩
theorem odNe : OpD K rNe (φEq true) := fun x y dx dy G H P Q e rx ry p k => by
  obtain ⟨h1, h2⟩ := scal_of rx ry p.1
  exact ⟨h1, by rw [h2]; exact k _ p.2 _ G H (Grow.refl e) (.bl _)⟩
def φEqD (neg : Bool) (x y : D) (P : D → Prop) : Prop := match toPy x, toPy y with
  | some p, some q => SeqAt.shaped p = true ∧ SeqAt.shaped q = true ∧ P (.bl (if neg then !PyData.eqv p q else PyData.eqv p q))
  | _, _ => False
theorem odEqD : OpD K (rEqD K) (φEqD false) := fun x y dx dy G H P Q e rx ry p k => by
  unfold φEqD at p
  split at p
  · rename_i a b h1 h2
    exact ⟨a, b, dp_ex e (rx.dp h1), dp_ex e (ry.dp h2), p.1, p.2.1, k _ p.2.2 _ G H (Grow.refl e) (.bl _)⟩
  · exact p.elim
theorem odNeD : OpD K (rNeD K) (φEqD true) := fun x y dx dy G H P Q e rx ry p k => by
  unfold φEqD at p
  split at p
  · rename_i a b h1 h2
    exact ⟨a, b, dp_ex e (rx.dp h1), dp_ex e (ry.dp h2), p.1, p.2.1, k _ p.2.2 _ G H (Grow.refl e) (.bl _)⟩
  · exact p.elim
@[irreducible] def φIsN (neg : Bool) (x y : D) (P : D → Prop) : Prop := match x, y with
  | .raw _, _ => False
  | .non, .non => P (.bl (!neg))
  | _, .non => P (.bl neg)
  | _, _ => False
theorem odIsN : OpD K (fun x y H Q => y = .non ∧ Q (.bl (decide (x = .non))) H) (φIsN false) := fun x y dx dy G H P Q e rx ry p k => by
  unfold φIsN at p
  cases dy <;> first | (cases dx <;> exact p.elim) | skip
  cases ry
  refine ⟨rfl, ?_⟩
  cases rx <;> first | exact p.elim | exact k _ p _ G H (Grow.refl e) (.bl _)
theorem odNotN : OpD K (fun x y H Q => y = .non ∧ Q (.bl (!decide (x = .non))) H) (φIsN true) := fun x y dx dy G H P Q e rx ry p k => by
  unfold φIsN at p
  cases dy <;> first | (cases dx <;> exact p.elim) | skip
  cases ry
  refine ⟨rfl, ?_⟩
  cases rx <;> first | exact p.elim | exact k _ p _ G H (Grow.refl e) (.bl _)
def D.items : D → Option (List D)
  | .lst ds => some ds
  | .tup ds => some ds
  | .frz ds => some ds
  | _ => none
def φIn (neg : Bool) (x y : D) (P : D → Prop) : Prop := match y.items with
  | some ds => x.flat = true ∧ ds.all D.flat = true ∧ P (.bl (if neg then !inD x ds else inD x ds))
  | _ => False
theorem items_inv {G : Hp} {y : V} {dy : D} {ds : List D} (ry : Rep K G y dy) (h : dy.items = some ds) : ∃ p ys, y = .ref p ∧ (SqL K G p ys ∨ SqT K G p ys) ∧ RepA K G ys ds := by
  cases ry <;> first | (cases h; done) | (cases h; exact ⟨_, _, rfl, .inl (SqL.of ‹_›), ‹_›⟩) | (cases h; exact ⟨_, _, rfl, .inl ‹_›, ‹_›⟩) | (cases h; exact ⟨_, _, rfl, .inr ‹_›, ‹_›⟩)
theorem sq_ex {G H : Hp} {p : Addr} {ys : List V} (e : Ex G H) (h : SqL K G p ys ∨ SqT K G p ys) : SqL K H p ys ∨ SqT K H p ys := h.elim (fun h => .inl (exl e h)) fun h => .inr (ext e h)
theorem odIn {neg : Bool} : OpD K (rIn K neg) (φIn neg) := fun x y dx dy G H P Q e rx ry p k => by
  unfold φIn at p
  split at p
  · rename_i ds h
    obtain ⟨q, ys, rfl, hs, rs⟩ := items_inv ry h
    exact ⟨q, ys, rfl, sq_ex e hs, flat_of rx p.1, flats_of rs p.2.1, by rw [inD_of rx p.1 rs p.2.1]; exact k _ p.2.2 _ G H (Grow.refl e) (.bl _)⟩
  · exact p.elim

/-! ### subscripts -/
theorem RepA.atI {G : Hp} {vs : List V} {ds : List D} {i : Int} {d : D} (r : RepA K G vs ds) (h : L2.atI ds i = some d) : ∃ v, L2.atI vs i = some v ∧ Rep K G v d := by
  unfold L2.atI at h ⊢
  rw [r.len]
  cases q : ixN ds.length i with
  | none => rw [q] at h; cases h
  | some j =>
    rw [q] at h
    exact r.get h
def φIx (x y : D) (P : D → Prop) : Prop := match x.items, y with
  | some ds, .int i => match L2.atI ds i with
    | some d => P d
    | none => False
  | _, _ => False
theorem odIx : OpD K (rIx K) φIx := fun x y dx dy G H P Q e rx ry p k => by
  unfold φIx at p
  split at p
  · rename_i ds i h
    obtain ⟨q, ys, rfl, hs, rs⟩ := items_inv rx h
    cases ry
    split at p
    · rename_i d hd
      obtain ⟨v, hv, rv⟩ := rs.atI hd
      have kk := k d p v G H (Grow.refl e) rv
      rcases sq_ex e hs with hs | hs
      · exact .inl ⟨q, ys, _, v, rfl, rfl, hs, hv, kk⟩
      · exact .inr (.inl ⟨q, ys, _, v, rfl, rfl, hs, hv, kk⟩)
    · exact p.elim
  · exact p.elim
def φIxS (x y : D) (P : D → Prop) : Prop := match x, y with
  | .str z, .int i => z.length ≤ sizeLine ∧ match L2.atI z.cps.toList i with
    | some c => P (.str ⟨#[c]⟩)
    | none => False
  | _, _ => False
theorem odIxS : OpD K rIxS φIxS := fun x y dx dy G H P Q e rx ry p k => by
  unfold φIxS at p
  split at p
  · cases rx
    cases ry
    obtain ⟨p1, p⟩ := p
    split at p
    · rename_i c hc
      exact ⟨_, _, c, rfl, rfl, p1, hc, k _ p _ G H (Grow.refl e) (.str _)⟩
    · exact p.elim
  · exact p.elim
variable {B : Bs} {W : WX} {X : Cx} {pos : Pos} {a b c e : Expr} {fa fb fc : Fx D}
theorem pd_ix {r : R2} {φ : D → D → (D → Prop) → Prop} (h : IxR X r) (hd : OpD X.K r φ) (ha : PD B W X a fa) (hb : PD B W X b fb) (hs : PlainIx b) : PD B W X (.Subscript a b pos) (wOp φ fa fb) :=
  (pe_ix h ha hb hs).imp fun _ _ _ q => wOp_ok hd q

/-! ### slices -/
def cutD (ds : List D) (lo hi : Option Int) : List D := (ds.drop (HT.sIx ds.length 0 lo)).take (HT.sIx ds.length ds.length hi - HT.sIx ds.length 0 lo)
theorem RepA.cut {G : Hp} {vs : List V} {ds : List D} {lo hi : Option Int} (r : RepA K G vs ds) : RepA K G (cutV vs lo hi) (cutD ds lo hi) := by
  unfold cutV cutD
  rw [r.len]
  exact (r.drop _).take _
variable {fo fh : Fx (Option Int)} {lo hi : Option Expr} {p2 : Pos}
def wNoP : Fx (Option Int) := fun _ P _ => P none
def wPart (fa : Fx D) : Fx (Option Int) := fun env P R => fa env (fun d => match d with | .int i => P (some i) | _ => False) R
theorem pdo_none : PDO B W X none wNoP := po_none.imp fun σ H Q ⟨G, env, P, R, rel, hF, hP, hR⟩ => hP _ hF G H (Grow.refl rel.gh)
theorem pdo_some (h : PD B W X a fa) : PDO B W X (some a) (wPart fa) := (po_some h).imp fun σ H Q ⟨G, env, P, R, rel, hF, hP, hR⟩ => ⟨G, env, _, R, rel, hF, fun d pd v G2 H2 g2 rv => by
  cases d <;> first | exact pd.elim | skip
  exact ⟨_, rv.int_inv, hP _ pd _ _ g2⟩, hR⟩
def wSl (φ : D → Option Int → Option Int → (D → Prop) → Prop) (fa : Fx D) (fo fh : Fx (Option Int)) : Fx D := fun env P R => fa env (fun x => fo env (fun l => fh env (fun u => φ x l u P) R) R) R
def SlD (K : PySem.W.Frag) (r : V → Option Int → Option Int → Hp → VK → Prop) (φ : D → Option Int → Option Int → (D → Prop) → Prop) : Prop := ∀ (x : V) (dx : D) (l u : Option Int) (G H : Hp) (P : D → Prop) (Q : VK), Ex G H → Rep K G x dx → φ dx l u P →
  (∀ d, P d → ∀ v G' H', Grow G H G' H' → Rep K G' v d → Q v H') → r x l u H Q
theorem pd_sl {r : V → Option Int → Option Int → Hp → VK → Prop} {φ : D → Option Int → Option Int → (D → Prop) → Prop} (h : L2.SlR X r) (hd : SlD X.K r φ) (ha : PD B W X a fa) (hl : PDO B W X lo fo) (hh : PDO B W X hi fh) :
    PD B W X (.Subscript a (.Slice lo hi none p2) pos) (wSl φ fa fo fh) :=
  (pe_slice h ha hl hh).imp fun σ H Q ⟨G, env, P, R, rel, hF, hP, hR⟩ => ⟨G, env, _, R, rel, hF, fun dx px x G1 H1 g1 rx => ⟨G1, env, _, R, rel.grow g1, px, fun l pl G2 H2 g2 => ⟨G2, env, _, R, rel.grow (g1.trans g2), pl, fun u pu G3 H3 g3 =>
    hd x dx l u G3 H3 P Q g3.gh (rx.ex (g2.g.trans g3.g)) pu fun d pd v G4 H4 g4 rv => hP d pd v G4 H4 ((g1.trans g2).trans (g3.trans g4)) rv, fun e re => (hR e re).grow (g1.trans g2)⟩, fun e re => (hR e re).grow g1⟩, hR⟩
def φSlT : D → Option Int → Option Int → (D → Prop) → Prop
  | .tup ds, l, u, P => P (.tup (cutD ds l u))
  | _, _, _, _ => False
theorem sdT : SlD K (rSlA K) φSlT := fun x dx l u G H P Q e rx p k => by
  cases dx <;> first | exact p.elim | skip
  obtain ⟨a, xs, rfl, hs, rs⟩ := rx.tup_inv
  refine ⟨a, xs, rfl, ext e hs, fun hw => ?_, fun _ t nt => k _ p _ _ _ (Grow.new e nt) (.tup (SqT.of upd_same) (rs.cut.ex (exn (Evl.fresh_back e nt))))⟩
  refine k _ p _ G H (Grow.refl e) (.tup hs ?_)
  have : cutV xs l u = xs := by
    unfold cutV
    rw [hw.1, hw.2, List.drop_zero, Nat.sub_zero]
    exact List.take_length
  rw [← this]
  exact rs.cut
def φSlS : D → Option Int → Option Int → (D → Prop) → Prop
  | .str z, l, u, P => z.length ≤ sizeLine ∧ P (.str (cutS z l u))
  | _, _, _, _ => False
theorem sdS : SlD K rSlS φSlS := fun x dx l u G H P Q e rx p k => by
  cases dx <;> first | exact p.elim | skip
  cases rx
  exact ⟨_, rfl, p.1, k _ p.2 _ G H (Grow.refl e) (.str _)⟩
/-- of a list: a new list -/
def wSlL (fa : Fx D) (fo fh : Fx (Option Int)) : Fx (List D) := fun env P R => fa env (fun x => fo env (fun l => fh env (fun u => match x with | .lst ds => P (cutD ds l u) | _ => False) R) R) R
theorem pl_sl (ha : PD B W X a fa) (hl : PDO B W X lo fo) (hh : PDO B W X hi fh) : PL B W X (.Subscript a (.Slice lo hi none p2) pos) (wSlL fa fo fh) :=
  (pe_slice sl_list ha hl hh).imp fun σ H Q ⟨G, env, P, R, rel, hF, hP, hR⟩ => ⟨G, env, _, R, rel, hF, fun dx px x G1 H1 g1 rx => ⟨G1, env, _, R, rel.grow g1, px, fun l pl G2 H2 g2 => ⟨G2, env, _, R, rel.grow (g1.trans g2), pl, fun u pu G3 H3 g3 => by
    have g := (g1.trans g2).trans g3
    cases dx <;> first | exact pu.elim | skip
    obtain ⟨q, xs, rfl, hs, rs⟩ := rx.lst_inv
    exact ⟨q, xs, rfl, SqL.of (g3.gh _ _ ((g2.trans g3).g _ _ hs)), fun p np => hP _ pu p _ G3 _ (g.trans (Grow.own g3.gh np)) (Evl.fresh_back g.h np) (Evl.fresh_back g3.gh np) upd_same ((rs.ex (g2.trans g3).g).cut)⟩,
    fun e re => (hR e re).grow (g1.trans g2)⟩, fun e re => (hR e re).grow g1⟩, hR⟩

/-! ### + of tuples, of lists -/
def φCatT : D → D → (D → Prop) → Prop
  | .tup a, .tup b, P => a.length + b.length ≤ sizeLine ∧ P (.tup (a ++ b))
  | _, _, _ => False
theorem odCatT : OpD K (rCatA K) φCatT := fun x y dx dy G H P Q e rx ry p k => by
  cases dx <;> first | exact p.elim | skip
  cases dy <;> first | exact p.elim | skip
  obtain ⟨a, xs, rfl, hx, rx⟩ := rx.tup_inv
  obtain ⟨b, ys, rfl, hy, ry⟩ := ry.tup_inv
  refine ⟨a, b, xs, ys, rfl, rfl, ext e hx, ext e hy, by rw [rx.len, ry.len]; exact p.1, fun z => ?_, fun _ z => ?_, fun _ _ t nt => ?_⟩
  · subst z
    cases rx
    exact k _ p.2 _ G H (Grow.refl e) (.tup hy ry)
  · subst z
    cases ry
    refine k _ p.2 _ G H (Grow.refl e) (.tup hx ?_)
    rw [List.append_nil]
    exact rx
  · exact k _ p.2 _ _ _ (Grow.new e nt) (.tup (SqT.of upd_same) ((rx.app ry).ex (exn (Evl.fresh_back e nt))))
/-- lists: a new list -/
def wOpL (φ : D → D → (List D → Prop) → Prop) (fa fb : Fx D) : Fx (List D) := fun env P R => fa env (fun x => fb env (fun y => φ x y P) R) R
def φCatL : D → D → (List D → Prop) → Prop
  | .lst a, .lst b, P => a.length + b.length ≤ sizeLine ∧ P (a ++ b)
  | _, _, _ => False
theorem pl_cat (ha : PD B W X a fa) (hb : PD B W X b fb) : PL B W X (.BinOp a .Add b pos) (wOpL φCatL fa fb) :=
  (pe_op op_cat ha hb).imp fun σ H Q ⟨G, env, P, R, rel, hF, hP, hR⟩ => two rel hF hR fun x y dx dy G' H' g rx ry p => by
    cases dx <;> first | exact p.elim | skip
    cases dy <;> first | exact p.elim | skip
    obtain ⟨a, xs, rfl, hx, rx⟩ := rx.lst_inv
    obtain ⟨b, ys, rfl, hy, ry⟩ := ry.lst_inv
    exact ⟨a, b, xs, ys, rfl, rfl, g.gh _ _ hx, g.gh _ _ hy, by rw [rx.len, ry.len]; exact p.1, fun t nt => hP _ p.2 t _ G' _ (g.trans (Grow.own g.gh nt)) (Evl.fresh_back g.h nt) (Evl.fresh_back g.gh nt) upd_same (rx.app ry)⟩
end
end Pd
set_option maxRecDepth 100000
set_option maxHeartbeats 4000000
/-! statements, loops, calls -/
namespace Pd
open PySem PySem.Spec PyProof.Rows L2 Pre
section
variable {B : Bs} {W : WX} {X : Cx} {pos : Pos} {a b c e : Expr} {fa fb fc : Fx D} {ga : Fx Bool} {f g h : Fs} {st : Stmt} {rest : List Stmt} {fl : Fx (List D)} {fk : Fx (List Key × List D)}

def wNext : Fs := fun env P => P (.nx env)
def wSeq (f g : Fs) : Fs := fun env P => f env (fun o => match o with | .nx e => g e P | .bk e => P (.bk e) | .ct e => P (.ct e) | .rt d => P (.rt d) | .er e r => P (.er e r))
theorem pdss_nil : PDss B W X [] wNext := pss_nil.imp fun Dn σ H ⟨G, env, P, rel, hF, ok⟩ => ok.nx _ hF σ G H ex0 rel
theorem pdss_cons (h1 : PDs B W X st f) (h2 : PDss B W X rest g) : PDss B W X (st :: rest) (wSeq f g) :=
  (pss_cons h1 h2).imp fun Dn σ H ⟨G, env, P, rel, hF, ok⟩ => ⟨G, env, _, rel, hF,
    ⟨fun env1 p σ' G' H' x rel' => ⟨G', env1, P, rel', p, ok.ex x⟩, ok.bk, ok.ct, ok.rt, ok.er⟩⟩
theorem pdss_one (h1 : PDs B W X st f) : PDss B W X [st] f := pss_one h1
def wBreak : Fs := fun env P => P (.bk env)
def wCont : Fs := fun env P => P (.ct env)
theorem pds_pass : PDs B W X (.Pass pos) wNext := ps_pass.imp fun Dn σ H ⟨G, env, P, rel, hF, ok⟩ => ok.nx _ hF σ G H ex0 rel
theorem pds_break : PDs B W X (.Break pos) wBreak := ps_break.imp fun Dn σ H ⟨G, env, P, rel, hF, ok⟩ => ok.bk _ hF σ G H ex0 rel
theorem pds_continue : PDs B W X (.Continue pos) wCont := ps_continue.imp fun Dn σ H ⟨G, env, P, rel, hF, ok⟩ => ok.ct _ hF σ G H ex0 rel
theorem pds_doc {x j pos pos'} : PDs B W X (.Expr (.Constant (.str x) j pos) pos') wNext := ps_doc.imp fun Dn σ H ⟨G, env, P, rel, hF, ok⟩ => ok.nx _ hF σ G H ex0 rel
def wNever : Fs := fun _ _ => False
theorem pds_never : PDs B W X st wNever := ps_never.imp fun Dn σ H ⟨G, env, P, rel, hF, ok⟩ => hF
theorem pdss_never : PDss B W X rest wNever := pss_never.imp fun Dn σ H ⟨G, env, P, rel, hF, ok⟩ => hF
def wDrop (fa : Fx D) : Fs := fun env P => fa env (fun _ => P (.nx env)) (fun e => P (.er env e))
theorem pds_expr (he : PD B W X a fa) (hs : swapsWith a none pos.line X.env = pure false := by rfl) : PDs B W X (.Expr a pos) (wDrop fa) :=
  (ps_expr he hs).imp fun Dn σ H ⟨G, env, P, rel, hF, ok⟩ => ⟨G, env, _, _, rel, hF, fun d pd v G1 H1 g1 rv => ok.nx _ pd σ G1 H1 g1.g (rel.grow g1), ok.err rel⟩
def wRet (fa : Fx D) : Fs := fun env P => fa env (fun d => P (.rt d)) (fun e => P (.er env e))
theorem pds_ret (he : PD B W X a fa) : PDs B W X (.Return (some a) pos) (wRet fa) :=
  (ps_ret he).imp fun Dn σ H ⟨G, env, P, rel, hF, ok⟩ => ⟨G, env, _, _, rel, hF, fun d pd v G1 H1 g1 rv => ok.rt _ pd v G1 H1 (rel.all.trans g1) rv, ok.err rel⟩
def wRetN : Fs := fun _ P => P (.rt .non)
theorem pds_retN : PDs B W X (.Return none pos) wRetN := ps_retN.imp fun Dn σ H ⟨G, env, P, rel, hF, ok⟩ => ok.rt _ hF .non G H rel.all .non
def wIfS (gc : Fx Bool) (f g : Fs) : Fs := fun env P => gc env (fun x => if x = true then f env P else g env P) (fun e => P (.er env e))
theorem pds_if {t u : List Stmt} (hc : PQ B W X c ga) (ha : PDss B W X t f) (hb : PDss B W X u g) : PDs B W X (.If c t u pos) (wIfS ga f g) :=
  (ps_if hc ha hb).imp fun Dn σ H ⟨G, env, P, rel, hF, ok⟩ => ⟨G, env, _, _, rel, hF, fun x px G1 H1 g1 => by
    cases x with
    | true => exact ⟨G1, env, P, rel.grow g1, px, ok.ex g1.g⟩
    | false => exact ⟨G1, env, P, rel.grow g1, px, ok.ex g1.g⟩, ok.err rel⟩

/-! ### stores -/
def wSet (i : Nat) (fa : Fx D) : Fs := fun env P => fa env (fun d => P (.nx (env.set i (.v d)))) (fun e => P (.er env e))
theorem pds_set {i : Nat} {x : Str} {pos' : Pos} (hN : X.N.Nodup) (hi : X.N[i]? = some x) (hx : Loc X.env.scope x) (he : PD B W X a fa) (hs : swapsWith a (some (.Name x pos')) pos.line X.env = pure false := by rfl) (hf : X.fn x = true ∨ X.env.scope.names.lookup x = some .local := by first | exact .inl rfl | exact .inr rfl | assumption) :
    PDs B W X (.Assign [.Name x pos'] a pos) (wSet i fa) :=
  (ps_set hN hi hx he hs hf).imp fun Dn σ H ⟨G, env, P, rel, hF, ok⟩ => ⟨G, env, _, _, rel, hF, fun d pd v G1 H1 g1 rv => ok.nx _ pd _ G1 H1 g1.g ((rel.grow g1).setv rv i), ok.err rel⟩
/-- a new list, one's own from now on -/
def wSetL (i : Nat) (fl : Fx (List D)) : Fs := fun env P => fl env (fun ds => P (.nx (env.set i (.l ds)))) (fun e => P (.er env e))
theorem Rel.newL {G H G1 H1 : Hp} {σ : L2.St} {env : En} {K : PySem.W.Frag} {p : Addr} {vs : List V} {ds : List D} (rel : Rel K B G σ H env) (g1 : Grow G H G1 H1) (n1 : H p = none) (n2 : G1 p = none) (h1 : H1 p = some (.lst vs)) (rv : RepA K G1 vs ds) (i : Nat) :
    Rel K B G1 (σ.set i (some (.ref p))) H1 (env.set i (.l ds)) := (rel.grow g1).seto (s := .l ds) ⟨vs, h1, rv⟩ n2 (rel.newB n1) (rel.fresh n1) i
theorem pds_setL {i : Nat} {x : Str} {pos' : Pos} (hN : X.N.Nodup) (hi : X.N[i]? = some x) (hx : Loc X.env.scope x) (he : PL B W X a fl) (hs : swapsWith a (some (.Name x pos')) pos.line X.env = pure false := by rfl) (hf : X.fn x = true ∨ X.env.scope.names.lookup x = some .local := by first | exact .inl rfl | exact .inr rfl | assumption) :
    PDs B W X (.Assign [.Name x pos'] a pos) (wSetL i fl) :=
  (ps_set hN hi hx he hs hf).imp fun Dn σ H ⟨G, env, P, rel, hF, ok⟩ => ⟨G, env, _, _, rel, hF, fun ds pd p vs G1 H1 g1 n1 n2 h1 rv => ok.nx _ pd _ G1 H1 g1.g (rel.newL g1 n1 n2 h1 rv i), ok.err rel⟩
def wSetK (i : Nat) (fk : Fx (List Key × List D)) : Fs := fun env P => fk env (fun x => P (.nx (env.set i (.k x.1 x.2)))) (fun e => P (.er env e))
theorem pds_setK {i : Nat} {x : Str} {pos' : Pos} (hN : X.N.Nodup) (hi : X.N[i]? = some x) (hx : Loc X.env.scope x) (he : PK' B W X a fk) (hs : swapsWith a (some (.Name x pos')) pos.line X.env = pure false := by rfl) (hf : X.fn x = true ∨ X.env.scope.names.lookup x = some .local := by first | exact .inl rfl | exact .inr rfl | assumption) :
    PDs B W X (.Assign [.Name x pos'] a pos) (wSetK i fk) :=
  (ps_set hN hi hx he hs hf).imp fun Dn σ H ⟨G, env, P, rel, hF, ok⟩ => ⟨G, env, _, _, rel, hF, fun ds pd p vs G1 H1 g1 n1 n2 h1 ek rv => ok.nx _ pd _ G1 H1 g1.g
    ((rel.grow g1).seto (s := .k ds.1 ds.2) ⟨vs, h1, ek, rv⟩ n2 (rel.newB n1) (rel.fresh n1) i), ok.err rel⟩

/-! ### targets -/
abbrev Tg := D → En → Option En
def tgd (K : PySem.W.Frag) (B : Bs) (s : Tg) : TG := fun v σ H Q => ∃ G env d env', Rel K B G σ H env ∧ Rep K G v d ∧ s d env = some env' ∧ ∀ σ', Rel K B G σ' H env' → Q σ' H
def PGd (B : Bs) (X : Cx) (tg : Expr) (s : Tg) : Prop := PG X tg (tgd X.K B s)
theorem _root_.L2.PG.imp {X : Cx} {e : Expr} {t t' : TG} (h : PG X e t) (k : ∀ v σ H Q, t' v σ H Q → t v σ H Q) : PG X e t' := ⟨fun pins s σ H v u Q I r q => h.run pins s σ H v u Q I r (k v σ H Q q)⟩
theorem _root_.L2.PGs.imp {X : Cx} {e : List Expr} {t t' : TGs} (h : PGs X e t) (k : ∀ v σ H Q, t' v σ H Q → t v σ H Q) : PGs X e t' := ⟨fun pins s σ H v u Q I r q => h.run pins s σ H v u Q I r (k v σ H Q q)⟩
def sName (i : Nat) : Tg := fun d env => some (env.set i (.v d))
theorem pgd_name {i : Nat} {x : Str} (hN : X.N.Nodup) (hi : X.N[i]? = some x) (hx : Loc X.env.scope x) (hf : X.fn x = true ∨ X.env.scope.names.lookup x = some .local := by first | exact .inl rfl | exact .inr rfl | assumption) : PGd B X (.Name x pos) (sName i) :=
  (pg_name hN hi hx hf).imp fun v σ H Q ⟨G, env, d, env', rel, r, e, k⟩ => by
    cases e
    exact k _ (rel.setv r i)
abbrev Tgs := List D → En → Option En
def tgds (K : PySem.W.Frag) (B : Bs) (s : Tgs) : TGs := fun vs σ H Q => ∃ G env ds env', Rel K B G σ H env ∧ RepA K G vs ds ∧ s ds env = some env' ∧ ∀ σ', Rel K B G σ' H env' → Q σ' H
def PGds (B : Bs) (X : Cx) (tg : List Expr) (s : Tgs) : Prop := PGs X tg (tgds X.K B s)
def sNil : Tgs := fun ds env => match ds with | [] => some env | _ => none
def sCons (s : Tg) (t : Tgs) : Tgs := fun ds env => match ds with
  | d :: r => match s d env with
    | some e => t r e
    | none => none
  | [] => none
theorem pgds_nil : PGds B X [] sNil := pgs_nil.imp fun vs σ H Q ⟨G, env, ds, env', rel, r, e, k⟩ => by
  cases r <;> cases e
  exact ⟨rfl, k _ rel⟩
theorem pgds_cons {es : List Expr} {s : Tg} {t : Tgs} (h1 : PGd B X e s) (h2 : PGds B X es t) (hs : (assignEach (e :: es) X.env).map (·.2) = assign e X.env :: (assignEach es X.env).map (·.2) := by rfl) : PGds B X (e :: es) (sCons s t) :=
  (pgs_cons h1 h2 hs).imp fun vs σ H Q ⟨G, env, ds, env', rel, r, e, k⟩ => by
    cases r with
    | nil => cases e
    | cons rv rs =>
      simp only [sCons] at e
      split at e
      · rename_i env1 e1
        exact ⟨_, _, rfl, G, env, _, env1, rel, rv, e1, fun σ1 rel1 => ⟨G, env1, _, env', rel1, rs, e, k⟩⟩
      · cases e
def sTup (n : Nat) (t : Tgs) : Tg := fun d env => match d with
  | .tup ds => if ds.length = n then t ds env else none
  | _ => none
theorem pgd_tup {es : List Expr} {k : Nat} {t : Tgs} {n : Nat} (hc : X.calm = true) (h : PGds B X es t) (hn : (assignEach es X.env).length = n := by rfl) (hst : (assignEach es X.env).findIdx? (·.1) = none := by rfl) : PGd B X (.Tuple es k pos) (sTup n t) :=
  (pg_tup hc h hn hst).imp fun v σ H Q ⟨G, env, d, env', rel, r, e, k⟩ => by
    cases d <;> first | (cases e; done) | skip
    simp only [sTup] at e
    split at e
    · rename_i hl
      obtain ⟨a, xs, rfl, hs, rs⟩ := r.tup_inv
      exact ⟨a, xs, rfl, ext rel.gh hs, by rw [rs.len]; exact hl, G, env, _, env', rel, rs, e, k⟩
    · cases e
def wAsg (fa : Fx D) (s : Tg) : Fs := fun env P => fa env (fun d => match s d env with | some e => P (.nx e) | none => False) (fun e => P (.er env e))
theorem pds_asg {tg : Expr} {s : Tg} (he : PD B W X e fa) (hg : PGd B X tg s) (hs : swapsWithSole [tg] e pos.line X.env = pure false := by rfl) (hw : swappedStores [tg] e X.env = pure none := by rfl)
    (h1 : (assignEach [tg] X.env).map (·.2) = [assign tg X.env] := by rfl) : PDs B W X (.Assign [tg] e pos) (wAsg fa s) :=
  (ps_asg he hg hs hw h1).imp fun Dn σ H ⟨G, env, P, rel, hF, ok⟩ => ⟨G, env, _, _, rel, hF, fun d pd v G1 H1 g1 rv => by
    split at pd
    · rename_i env1 e1
      exact ⟨G1, env, d, env1, rel.grow g1, rv, e1, fun σ' rel' => ok.nx _ pd _ G1 H1 g1.g rel'⟩
    · exact pd.elim, ok.err rel⟩
/-- a, b = x, y with two local names -/
def wPar (i j : Nat) (fa fb : Fx D) : Fs := fun env P => fa env (fun x => fb env (fun y => P (.nx ((env.set i (.v x)).set j (.v y)))) (fun e => P (.er env e))) (fun e => P (.er env e))
theorem pds_par {i j : Nat} {x y : Str} {px py pt : Pos} {kt k2 pt2} (hc : X.calm = true) (hN : X.N.Nodup) (hi : X.N[i]? = some x) (hj : X.N[j]? = some y) (hij : i ≠ j)
    (hx : X.env.scope.names.lookup x = some .local) (hy : X.env.scope.names.lookup y = some .local) (ha : PD B W X a fa) (hb : PD B W X b fb)
    (hw : swappedStores [.Tuple [.Name x px, .Name y py] kt pt] (.Tuple [a, b] k2 pt2) X.env = pure (some [x, y]))
    (hs : swapsWithSole [.Tuple [.Name x px, .Name y py] kt pt] (.Tuple [a, b] k2 pt2) pos.line X.env = pure false := by rfl)
    (s1 : starEach [a, b] X.env = (false, eval a X.env) :: starEach [b] X.env := by rfl) (s2 : starEach [b] X.env = (false, eval b X.env) :: starEach [] X.env := by rfl) :
    PDs B W X (.Assign [.Tuple [.Name x px, .Name y py] kt pt] (.Tuple [a, b] k2 pt2) pos) (wPar i j fa fb) :=
  (ps_par hc hN hi hj hij hx hy (pa_cons ha (pa_cons hb pa_nil s2) s1) hw hs).imp fun Dn σ H ⟨G, env, P, rel, hF, ok⟩ =>
    ⟨G, env, _, _, rel, hF, fun dx px vx G1 H1 g1 rx => ⟨G1, env, _, _, rel.grow g1, px, fun dy py vy G2 H2 g2 ry => ⟨vx, vy, rfl, ok.nx _ py _ G2 H2 (g1.trans g2).g (((rel.grow (g1.trans g2)).setv (rx.ex g2.g) i).setv ry j)⟩,
      fun e p => ((ok.err rel) e p).grow g1⟩, ok.err rel⟩
/-- x op= e -/
def wAug (i : Nat) (φ : D → D → (D → Prop) → Prop) (fa : Fx D) : Fs := fun env P => match env[i]? with
  | some (.v d) => fa env (fun y => φ d y (fun z => P (.nx (env.set i (.v z))))) (fun e => P (.er env e))
  | _ => False
theorem pds_aug {i : Nat} {x : Str} {op : Operator} {r : R2} {φ : D → D → (D → Prop) → Prop} {pos' : Pos} (hN : X.N.Nodup) (hi : X.N[i]? = some x) (hx : Loc X.env.scope x) (he : PD B W X e fa) (ho : PIp X op r) (hd : OpD X.K r φ)
    (hf : X.fn x = true ∨ X.env.scope.names.lookup x = some .local := by first | exact .inl rfl | exact .inr rfl | assumption) : PDs B W X (.AugAssign (.Name x pos') op e pos) (wAug i φ fa) :=
  (ps_aug hN hi hx he ho hf).imp fun Dn σ H ⟨G, env, P, rel, hF, ok⟩ => by
    unfold wAug at hF
    split at hF
    · rename_i d h
      obtain ⟨v, e1, r⟩ := rel.val h
      exact ⟨v, e1, G, env, _, _, rel, hF, fun dy py vy G1 H1 g1 ry => hd v vy d dy G1 H1 _ _ g1.gh (r.ex g1.g) ry py fun dz pz z G2 H2 g2 rz => ok.nx _ pz _ G2 H2 (g1.trans g2).g ((rel.grow (g1.trans g2)).setv rz i), ok.err rel⟩
    · exact hF.elim
theorem ip_addD : PIp X .Add (rI0 fun i j => .int (i + j)) := ip_add
theorem ip_subD : PIp X .Sub (rI0 fun i j => .int (i - j)) := ip_sub

/-! ### one's own lists -/
def wApp (i : Nat) (fa : Fx D) : Fs := fun env P => fa env (fun d => match env[i]? with | some (.l ds) => ds.length < sizeLine ∧ P (.nx (env.set i (.l (ds ++ [d])))) | _ => False) (fun e => P (.er env e))
theorem get_own {env : En} {i : Nat} {ds : List D} {K : PySem.W.Frag} {G H : Hp} {σ : L2.St} (rel : Rel K B G σ H env) (h : env[i]? = some (.l ds)) : ∃ p vs, σ[i]? = some (some (.ref p)) ∧ G p = none ∧ H p = some (.lst vs) ∧ RepA K G vs ds := by
  obtain ⟨p, h1, h2, h3, vs, h4, h5⟩ := rel.own h rfl
  exact ⟨p, vs, h1, h2, h4, h5⟩
theorem get_ownK {env : En} {i : Nat} {ks : List Key} {ds : List D} {K : PySem.W.Frag} {G H : Hp} {σ : L2.St} (rel : Rel K B G σ H env) (h : env[i]? = some (.k ks ds)) : ∃ p, ∃ kvs : List (Key × V), σ[i]? = some (some (.ref p)) ∧ G p = none ∧ H p = some (.dK kvs) ∧ kvs.map (·.1) = ks ∧ RepA K G (kvs.map (·.2)) ds := by
  obtain ⟨p, h1, h2, h3, kvs, h4, h5, h6⟩ := rel.own h rfl
  exact ⟨p, kvs, h1, h2, h4, h5, h6⟩
/-- xs.append(e) in terms of the hand layer's rule for a method -/
theorem wApp_ok {K : PySem.W.Frag} {i : Nat} {Dn : Ends} {σ : L2.St} {H : Hp} (h : tS K B W (wApp i fa) Dn σ H) (hg : ∀ env P R, fa env P R → ∃ ds, env[i]? = some (.l ds)) : tDrop (tBM K "list" rAppend (tVar i) (tCons (tP K B W fa) tNil)) Dn σ H := by
  obtain ⟨G, env, P, rel, hF, ok⟩ := h
  obtain ⟨ds, he⟩ := hg _ _ _ hF
  obtain ⟨p, vs, s1, s2, s3, s4⟩ := get_own rel he
  refine ⟨.ref p, s1, .inl ⟨rfl, vs, SqL.of s3⟩, G, env, _, _, rel, hF, fun d pd v G1 H1 g1 rv => ?_, ok.err rel⟩
  rw [he] at pd
  obtain ⟨p1, p2⟩ := pd
  refine ⟨p, vs, v, rfl, rfl, g1.h _ _ s3, by rw [s4.len]; exact p1, ok.nx _ p2 _ G1 _ g1.g ((rel.grow g1).mut he rfl s1 (s' := .l (ds ++ [d])) ⟨vs ++ [v], upd_same, (s4.ex g1.g).app (.one rv)⟩)⟩
/-- the same where the slot is known to be one's own only behind e -/
def wApp' (i : Nat) (fa : Fx D) : Fs := fun env P => match env[i]? with
  | some (.l ds) => fa env (fun d => ds.length < sizeLine ∧ P (.nx (env.set i (.l (ds ++ [d]))))) (fun e => P (.er env e))
  | _ => False
theorem wApp'_ok {K : PySem.W.Frag} {i : Nat} {Dn : Ends} {σ : L2.St} {H : Hp} (h : tS K B W (wApp' i fa) Dn σ H) : tDrop (tBM K "list" rAppend (tVar i) (tCons (tP K B W fa) tNil)) Dn σ H := by
  obtain ⟨G, env, P, rel, hF, ok⟩ := h
  unfold wApp' at hF
  split at hF
  · rename_i ds he
    obtain ⟨p, vs, s1, s2, s3, s4⟩ := get_own rel he
    refine ⟨.ref p, s1, .inl ⟨rfl, vs, SqL.of s3⟩, G, env, _, _, rel, hF, fun d pd v G1 H1 g1 rv => ?_, ok.err rel⟩
    obtain ⟨p1, p2⟩ := pd
    exact ⟨p, vs, v, rfl, rfl, g1.h _ _ s3, by rw [s4.len]; exact p1, ok.nx _ p2 _ G1 _ g1.g ((rel.grow g1).mut he rfl s1 (s' := .l (ds ++ [d])) ⟨vs ++ [v], upd_same, (s4.ex g1.g).app (.one rv)⟩)⟩
  · exact hF.elim
theorem pds_append {i : Nat} (h : PS X st (tDrop (tBM X.K "list" rAppend (tVar i) (tCons (tP X.K B W fa) tNil)))) : PDs B W X st (wApp' i fa) := h.imp fun _ _ _ q => wApp'_ok q
/-- xs.extend(e) -/
def wExt (i : Nat) (fa : Fx D) : Fs := fun env P => match env[i]? with
  | some (.l ds) => fa env (fun d => match d with | .lst es => ds.length + es.length ≤ sizeLine ∧ P (.nx (env.set i (.l (ds ++ es)))) | _ => False) (fun e => P (.er env e))
  | _ => False
theorem pds_extend {i : Nat} (h : PS X st (tDrop (tBM X.K "list" rExtend (tVar i) (tCons (tP X.K B W fa) tNil)))) : PDs B W X st (wExt i fa) := h.imp fun Dn σ H ⟨G, env, P, rel, hF, ok⟩ => by
  unfold wExt at hF
  split at hF
  · rename_i ds he
    obtain ⟨p, vs, s1, s2, s3, s4⟩ := get_own rel he
    refine ⟨.ref p, s1, .inl ⟨rfl, vs, SqL.of s3⟩, G, env, _, _, rel, hF, fun d pd v G1 H1 g1 rv => ?_, ok.err rel⟩
    cases d <;> first | exact pd.elim | skip
    obtain ⟨p1, p2⟩ := pd
    obtain ⟨q, ws, rfl, hq, rq⟩ := rv.lst_inv
    exact ⟨p, q, vs, ws, rfl, rfl, g1.h _ _ s3, g1.gh _ _ hq, by rw [s4.len, rq.len]; exact p1, ok.nx _ p2 _ G1 _ g1.g ((rel.grow g1).mut he rfl s1 (s' := .l (ds ++ _)) ⟨_, upd_same, (s4.ex g1.g).app rq⟩)⟩
  · exact hF.elim
/-- xs[k] = e -/
def wPut (i : Nat) (fa fb : Fx D) : Fs := fun env P => fa env (fun d => match env[i]? with
  | some (.l ds) => fb env (fun x => match x with
    | .int k => match ixN ds.length k with
      | some j => P (.nx (env.set i (.l (ds.set j d))))
      | none => False
    | _ => False) (fun e => P (.er env e))
  | _ => False) (fun e => P (.er env e))
theorem pds_put {i : Nat} (h : PS X st (tAsg (tP X.K B W fa) (gSub (tVar i) (tP X.K B W fb) rSetL))) : PDs B W X st (wPut i fa fb) := h.imp fun Dn σ H ⟨G, env, P, rel, hF, ok⟩ =>
  ⟨G, env, _, _, rel, hF, fun d pd v G1 H1 g1 rv => by
    split at pd
    · rename_i ds he
      have rel1 := rel.grow g1
      obtain ⟨p, vs, s1, s2, s3, s4⟩ := get_own rel1 he
      refine ⟨.ref p, s1, G1, env, _, _, rel1, pd, fun x px vx G2 H2 g2 rx => ?_, fun e p => ((ok.err rel) e p).grow g1⟩
      cases x <;> first | exact px.elim | skip
      cases rx
      simp only at px
      split at px
      · rename_i j hj
        exact ⟨p, vs, _, j, rfl, rfl, g2.h _ _ s3, by rw [s4.len]; exact hj, ok.nx _ px _ G2 _ (g1.trans g2).g ((rel1.grow g2).mut he rfl s1 (s' := .l (ds.set j d)) ⟨_, upd_same, (s4.ex g2.g).set (rv.ex g2.g) j⟩)⟩
      · exact px.elim
    · exact pd.elim, ok.err rel⟩
/-- one's own is let go ahead of what follows -/
def letGo (env : En) (i : Nat) : En := match env[i]? with
  | some (.l ds) => env.set i (.v (.lst ds))
  | some (.k ks ds) => env.set i (.v (.dic ks ds))
  | some (.i _ C ns ds) => env.set i (.v (.obj C ns ds))
  | _ => env
theorem Rel.letGo {K : PySem.W.Frag} {G H : Hp} {σ : L2.St} {env : En} (rel : Rel K B G σ H env) (i : Nat) : ∃ G', Ex G G' ∧ Rel K B G' σ H (letGo env i) := by
  unfold Pd.letGo
  split
  · rename_i ds he
    obtain ⟨p, vs, s1, s2, s3, s4⟩ := get_own rel he
    exact ⟨upd G p (.lst vs), exn s2, rel.let he rfl s1 s3 (.lst upd_same (s4.ex (exn s2)))⟩
  · rename_i ks ds he
    obtain ⟨p, kvs, s1, s2, s3, s4, s5⟩ := get_ownK rel he
    exact ⟨upd G p (.dK kvs), exn s2, rel.let he rfl s1 s3 (.dic upd_same s4 (s5.ex (exn s2)))⟩
  · rename_i q C ns ds he
    obtain ⟨p, s1, s2, _, _, dx, fs, s3, s4, s5⟩ := rel.own he rfl
    exact ⟨upd G p (.ins C dx fs), exn s2, rel.let he rfl s1 s3 (.obj upd_same s4 (s5.ex (exn s2)))⟩
  · exact ⟨G, ex0, rel⟩
def wLet (i : Nat) (f : Fs) : Fs := fun env P => f (letGo env i) P
theorem pdss_let (i : Nat) (h : PDss B W X rest f) : PDss B W X rest (wLet i f) := PSs.imp h fun Dn σ H ⟨G, env, P, rel, hF, ok⟩ => by
  obtain ⟨G', e, rel'⟩ := rel.letGo i
  exact ⟨G', _, P, rel', hF, ok.ex e⟩
theorem pds_let (i : Nat) (h : PDs B W X st f) : PDs B W X st (wLet i f) := PS.imp h fun Dn σ H ⟨G, env, P, rel, hF, ok⟩ => by
  obtain ⟨G', e, rel'⟩ := rel.letGo i
  exact ⟨G', _, P, rel', hF, ok.ex e⟩
/-- lent for an expression whose value is flat -/
def wLend (i : Nat) (fa : Fx D) : Fx D := fun env P R => fa (letGo env i) (fun d => d.flat = true ∧ P d) (fun _ => False)
theorem flat_rep {K : PySem.W.Frag} {G G' : Hp} {v : V} {d : D} (r : Rep K G v d) (h : d.flat = true) : Rep K G' v d := by
  cases r <;> first | (cases h; done) | constructor
theorem Rel.lend {K : PySem.W.Frag} {G H : Hp} {σ : L2.St} {env : En} (rel : Rel K B G σ H env) (i : Nat) : ∃ G1, Rel K B G1 σ H (Pd.letGo env i) ∧ ∀ G2 H2, Grow G1 H G2 H2 → ∃ G3, Grow G H G3 H2 := by
  obtain ⟨G1, e, rel1⟩ := rel.letGo i
  refine ⟨G1, rel1, fun G2 H2 g2 => ⟨fun p => if H p = none then G2 p else G p, ?_, g2.h, ?_, ?_⟩⟩
  · intro p o h
    have : H p ≠ none := by rw [rel.gh _ _ h]; simp
    show (if H p = none then G2 p else G p) = some o
    rw [if_neg this]
    exact h
  · intro p o h
    have h' : (if H p = none then G2 p else G p) = some o := h
    split at h'
    · exact g2.gh _ _ h'
    · exact g2.h _ _ (rel.gh _ _ h')
  · intro p h
    show (if H p = none then G2 p else G p) = G p
    rw [if_neg h]
theorem pd_lend (i : Nat) (h : PD B W X e fa) : PD B W X e (wLend i fa) := PE.imp h fun σ H Q ⟨G, env, P, R, rel, hF, hP, hR⟩ => by
  obtain ⟨G1, rel1, k⟩ := rel.lend i
  exact ⟨G1, _, _, _, rel1, hF, fun d pd v G2 H2 g2 rv => by
    obtain ⟨G3, g3⟩ := k G2 H2 g2
    exact hP d pd.2 v G3 H2 g3 (flat_rep rv pd.1), fun e q => q.elim⟩
def wLendQ (i : Nat) (ga : Fx Bool) : Fx Bool := fun env P R => ga (letGo env i) P (fun _ => False)
theorem pq_lend (i : Nat) (h : PQ B W X e ga) : PQ B W X e (wLendQ i ga) := PT.imp h fun σ H Q ⟨G, env, P, R, rel, hF, hP, hR⟩ => by
  obtain ⟨G1, rel1, k⟩ := rel.lend i
  exact ⟨G1, _, _, _, rel1, hF, fun b pb G2 H2 g2 => by
    obtain ⟨G3, g3⟩ := k G2 H2 g2
    exact hP b pb G3 H2 g3, fun e q => q.elim⟩

/-! ### loops -/
def wLoop (s : Tg) (body : Fs) : List D → Fs
  | [], env, P => P (.nx env)
  | d :: ds, env, P => match s d env with
    | some e => body e (fun o => match o with | .nx e => wLoop s body ds e P | .ct e => wLoop s body ds e P | .bk e => P (.nx e) | .rt d => P (.rt d) | .er e r => P (.er e r))
    | none => False
/-- a walk yields these, from any heap that has grown -/
structure ItOk (K : PySem.W.Frag) (J : It) (G : Hp) (ds : List D) : Prop where
  go : ∀ i H G', Ex G G' → Ex G' H → i < ds.length → J.go i H
  yld : ∀ i H x H' G' d, Ex G G' → Ex G' H → ds[i]? = some d → J.yld i H x H' → ∃ G'', Grow G' H G'' H' ∧ Rep K G'' x d
  stop : ∀ H G', Ex G G' → Ex G' H → J.stop ds.length H
def tI (K : PySem.W.Frag) (B : Bs) (W : WX) (F : Fx (List D)) : TI := fun σ H R => ∃ G env P Re, Rel K B G σ H env ∧ F env P Re ∧ (∀ ds, P ds → ∀ J G' H', Grow G H G' H' → ItOk K J G' ds → R J H') ∧ ∀ e, Re e → ErrTo K G H W σ e
def PDI (B : Bs) (W : WX) (X : Cx) (tg iter : Expr) (F : Fx (List D)) : Prop := PI X tg iter (tI X.K B W F)
theorem _root_.L2.PI.imp {X : Cx} {tg e : Expr} {t t' : TI} (h : PI X tg e t) (k : ∀ σ H Q, t' σ H Q → t σ H Q) : PI X tg e t' := ⟨fun pins s σ H Q I q => h.run pins s σ H Q I (k σ H Q q)⟩
@[irreducible] def wFor (fi : Fx (List D)) (s : Tg) (body : Fs) : Fs := fun env P => fi env (fun ds => wLoop s body ds env P) (fun e => P (.er env e))
theorem pds_for {tg iter : Expr} {body : List Stmt} {fi : Fx (List D)} {s : Tg} (hp : PassesOwn (model X.prog X.w) X.A X.env X.xe) (hc : X.calm = true) (hi : PDI B W X tg iter fi) (hg : PGd B X tg s) (hb : PDss B W X body f)
    (hs : ∀ x, foldedSetIterable iter X.env x = pure x := by intro _; rfl) : PDs B W X (.For tg iter body [] pos) (wFor fi s f) :=
  (ps_for hp hc hi hg hb hs).imp fun Dn σ H ⟨G, env, P, rel, hF, ok⟩ => ⟨G, env, fun ds => wLoop s f ds env P, fun e => P (.er env e), rel, (by unfold wFor at hF; exact hF), fun ds pds J G1 H1 g1 it => by
    refine ⟨fun i m σ' H' => m = ds.length - i ∧ i ≤ ds.length ∧ ∃ G' env', Ex G1 G' ∧ Rel X.K B G' σ' H' env' ∧ wLoop s f (ds.drop i) env' P, ⟨ds.length, rfl, Nat.zero_le _, G1, env, ex0, rel.grow g1, pds⟩, ?_⟩
    rintro i m σ' H' ⟨rfl, hi, G', env', e', rel', hw⟩
    by_cases hlt : i < ds.length
    · refine .inr ⟨it.go i H' G' e' rel'.gh hlt, fun σ' H' => ∃ G' env', Ex G1 G' ∧ Rel X.K B G' σ' H' env' ∧ wLoop s f (ds.drop (i + 1)) env' P, fun σ2 H2 ⟨G2, env2, e2, rel2, w2⟩ => ⟨ds.length - (i + 1), by omega, rfl, hlt, G2, env2, e2, rel2, w2⟩, fun x H2 y => ?_⟩
      obtain ⟨G2, g2, rx⟩ := it.yld i H' x H2 G' ds[i] e' rel'.gh (List.getElem?_eq_getElem hlt) y
      rw [List.drop_eq_getElem_cons hlt] at hw
      simp only [wLoop] at hw
      split at hw
      · rename_i env3 he
        refine ⟨G2, env', _, env3, rel'.grow g2, rx, he, fun σ3 rel3 => ⟨G2, env3, _, rel3, hw, ?_⟩⟩
        have e12 : Ex G1 G2 := e'.trans g2.g
        exact ⟨fun env4 p σ4 G4 H4 x4 rel4 => ⟨G4, env4, e12.trans x4, rel4, p⟩, fun env4 p σ4 G4 H4 x4 rel4 => ok.nx _ p _ _ _ ((g1.g.trans e12).trans x4) rel4, fun env4 p σ4 G4 H4 x4 rel4 => ⟨G4, env4, e12.trans x4, rel4, p⟩, ok.rt, fun env4 r p σ4 G4 H4 x4 => ok.er _ r p _ _ _ ((g1.g.trans e12).trans x4)⟩
      · exact hw.elim
    · have ei : i = ds.length := by omega
      subst ei
      rw [List.drop_length] at hw
      exact .inl ⟨it.stop H' G' e' rel'.gh, ok.nx _ hw _ _ _ (g1.g.trans e') rel'⟩, ok.err rel⟩
def wWh (gc : Fx Bool) (body : Fs) : Nat → Fs
  | 0, _, _ => False
  | n + 1, env, P => gc env (fun b => if b = true then body env (fun o => match o with | .nx e => wWh gc body n e P | .ct e => wWh gc body n e P | .bk e => P (.nx e) | .rt d => P (.rt d) | .er e r => P (.er e r)) else P (.nx env)) (fun e => P (.er env e))
@[irreducible] def wWhile (gc : Fx Bool) (body : Fs) : Fs := fun env P => ∃ n, wWh gc body n env P
theorem pds_while {body : List Stmt} (hp : PassesOwn (model X.prog X.w) X.A X.env X.xe) (hc : PQ B W X c ga) (hb : PDss B W X body f) : PDs B W X (.While c body [] pos) (wWhile ga f) :=
  (ps_while hp hc hb).imp fun Dn σ H ⟨G, env, P, rel, hF, ok⟩ => by
    unfold wWhile at hF
    obtain ⟨n, hF⟩ := hF
    refine ⟨fun m σ' H' => ∃ G' env', Ex G G' ∧ Rel X.K B G' σ' H' env' ∧ wWh ga f m env' P, ⟨n, G, env, ex0, rel, hF⟩, ?_⟩
    rintro m σ' H' ⟨G', env', e', rel', hw⟩
    cases m with
    | zero => exact hw.elim
    | succ m =>
      refine ⟨G', env', _, _, rel', hw, fun b pb G2 H2 g2 => ?_, fun e p => ok.er _ e p _ _ _ e' rel'⟩
      cases b with
      | false => exact ok.nx _ pb _ _ _ (e'.trans g2.g) (rel'.grow g2)
      | true =>
        rw [if_pos rfl]
        refine ⟨fun σ' H' => ∃ G' env', Ex G G' ∧ Rel X.K B G' σ' H' env' ∧ wWh ga f m env' P, fun σ3 H3 q => ⟨m, Nat.lt_succ_self m, q⟩, G2, env', _, rel'.grow g2, pb, ?_⟩
        have e12 : Ex G G2 := e'.trans g2.g
        exact ⟨fun env4 p σ4 G4 H4 x4 rel4 => ⟨G4, env4, e12.trans x4, rel4, p⟩, fun env4 p σ4 G4 H4 x4 rel4 => ok.nx _ p _ _ _ (e12.trans x4) rel4, fun env4 p σ4 G4 H4 x4 rel4 => ⟨G4, env4, e12.trans x4, rel4, p⟩, ok.rt, fun env4 r p σ4 G4 H4 x4 => ok.er _ r p _ _ _ (e12.trans x4)⟩

/-! ### defs -/
abbrev Fd := List D → (D → Prop) → (Err → Prop) → Prop
def spP (K : PySem.W.Frag) (n : Nat) (F : Fd) : Sp := fun vs H Q E => ∃ G ds P R, Ex G H ∧ RepA K G vs ds ∧ ds.length = n ∧ F ds P R ∧ (∀ d, P d → ∀ v G' H', Grow G H G' H' → Rep K G' v d → Q v H') ∧ ∀ e, R e → ErrTo K G H (fun c d _ H => E c d H) [] e
theorem spP_len {K : PySem.W.Frag} {n : Nat} {F : Fd} (vs : List V) (H : Hp) (Q : VK) (E : XK) (h : spP K n F vs H Q E) : vs.length = n := by
  obtain ⟨G, ds, P, R, _, r, hl, _⟩ := h
  rw [r.len, hl]
def fin (P : D → Prop) (R : Err → Prop) : Out → Prop
  | .rt d => P d
  | .nx _ => P .non
  | .er _ e => R e
  | _ => False
def startE (n : Nat) (ds : List D) : En := ds.map Sl.v ++ List.replicate (n - ds.length) Sl.no
theorem ErrTo.slots {K : PySem.W.Frag} {G H : Hp} {E : XK} {σ σ' : L2.St} {e : Err} (h : ErrTo K G H (fun c d _ H => E c d H) σ e) : ErrTo K G H (fun c d _ H => E c d H) σ' e := by cases e <;> exact h
theorem okP {P : Program} {w : World} {K : PySem.W.Frag} {mg : Str → Option Value} {base : Heap} {x qual : Str} {st : Stmt} {f : Addr} {fd : FuncData} {N ps : List Str} {k n : Nat} {F : Fd} (Fn : Fun K x qual st f fd) (S : FnScope N ps (defScope st)) (hn : ps.length = n)
    (hbody : ∀ (cdv : Value) (A : Around) (outer : List Env) (s : Shared) (H : Hp) (E : XK) (B : Bs), Room k (A.deeper (envOfC qual (defScope st) s.heap.objs.size f cdv)) →
      ∃ Fb, PDss B (fun c d _ H => E c d H) (cxOf (L2.CX P w) P w K mg base N qual (defScope st) f cdv A outer s H E) (defBody st) Fb ∧ ∀ ds Q R, ds.length = n → F ds Q R → Fb (startE N.length ds) (fin Q R)) :
    FnOk P w K mg base (L2.CX P w) (k + 1) f fd ps (spP K n F) := by
  refine Fn.okX S (fun vs H Q E h => by rw [hn]; exact spP_len vs H Q E h) fun cdv A outer s H vs Q E hr hsp => ?_
  obtain ⟨G, ds, P', R', eg, r, hl, hF, hP, hR⟩ := hsp
  obtain ⟨Fb, hb, hq⟩ := hbody cdv A outer s H E ⟨G, H⟩ hr
  refine ⟨_, hb, G, startE N.length ds, fin P' R', ?_, hq ds P' R' hl hF, ?_⟩
  · unfold L2.start startE
    rw [r.len]
    exact Rel.start eg r _
  · exact ⟨fun env p σ' G' H' x rel => hP _ p .non G' H' rel.all .non, fun env p => p.elim, fun env p => p.elim, fun d p v G' H' g r => hP d p v G' H' g r, fun env e p σ' G' H' x rel => ((hR e p).grow rel.all).slots⟩
def wCall (n : Nat) (F : Fd) (fas : Fx (List D)) : Fx D := fun env P R => fas env (fun ds => ds.length = n ∧ F ds P R) R
variable {es : List Expr} {fas : Fx (List D)} {k n : Nat} {fn : Addr} {fd : FuncData} {ps : List Str} {F : Fd} {x : Str} {p : Pos}
theorem ErrTo.call {K : PySem.W.Frag} {G H : Hp} {W : WX} {σ : L2.St} {e : Err} (h : ErrTo K G H W σ e) : ErrTo K G H (fun c d _ H => WE W σ c d H) [] e := by cases e <;> exact h
theorem pd_call (hF0 : FnOk X.prog X.w X.K X.mg X.base (L2.CX X.prog X.w) k fn fd ps (spP X.K n F)) (hr : Room k X.A) (hg : Gl X x) (hm : X.mg x = some (.ref fn)) (hk : PySem.W.keepIn X.K (.ref fn) = true) (hb : Binds X.K fd ps []) (tk : Takes X W)
    (ha : PDA B W X (e :: es) fas) (hdb : (x == ("__debug__" : Str)) = false := by decide) (he : starEach (e :: es) X.env = (false, eval e X.env) :: starEach es X.env := by rfl) (hpl : (backTo pos (starEach es X.env)).any (·.1) = false := by rfl) :
    PD B W X (.Call (.Name x p) (e :: es) [] pos) (wCall n F fas) :=
  (pe_callS hF0 hr hg hm hk hb (fun σ => passAt tk σ) ha hdb he hpl).imp fun σ H Q ⟨G, env, P, R, rel, hF, hP, hR⟩ => ⟨G, env, _, R, rel, hF, fun ds pd vs G1 H1 g1 rvs =>
    ⟨G1, ds, P, R, g1.gh, rvs, pd.1, pd.2, fun d pd v G2 H2 g2 rv => hP d pd v G2 H2 (g1.trans g2) rv, fun e re => ((hR e re).grow g1).call⟩, hR⟩
end
end Pd
set_option maxRecDepth 100000
set_option maxHeartbeats 4000000
/-! what is walked, comprehensions -/
namespace Pd
open PySem PySem.Spec PyProof.Rows L2 Pre

/-- a list or a tuple, told behind its reading -/
def iAny (K : PySem.W.Frag) (tl : TE) : TI := fun σ H R => tl σ H fun x H1 => ∃ a, x = .ref a ∧ (((∃ xs, SqL K H1 a xs) ∧ R (Itl K a) H1) ∨ ((∃ xs, SqT K H1 a xs) ∧ R (Itt K a) H1))
theorem pi_any {X : Cx} {tg l : Expr} {tl : TE} (hl : PE X l tl) : PI X tg l (iAny X.K tl) := by
  refine ⟨fun pins s σ H R I h => ?_⟩
  refine thn (hl.run pins s σ H _ I h) fun v s1 ⟨x, H1, I1, r1, q1⟩ => ?_
  obtain ⟨a, e, q⟩ := q1
  subst e
  cases r1
  rcases q with ⟨⟨xs, hq⟩, q⟩ | ⟨⟨xs, hq⟩, q⟩
  · obtain ⟨its, rv, p, hz⟩ := I1.list hq
    refine wpAny_pyIter_list p.isList ?_
    refine ⟨s1.heap.objs.size, [s1.heap.objs.size], _, _, H1, rfl, I1.kept (t' := s1.toks) fun b o e => Heap.get?_push_of_some _ e, turn_list a _, ⟨_, Heap.get?_push_size _ rfl, rfl, rfl⟩, fun b hb => ?_, q⟩
    have e : b = s1.heap.objs.size := by simpa using hb
    subst e
    exact I1.fpOk (Nat.le_refl _) (I1.hok.fresh (Nat.le_refl _))
  · obtain ⟨its, rv, p, hz⟩ := I1.tuple hq
    refine wpAny_pyIter_tuple (show s1.heap.IsTuple a its.toArray from p) ?_
    refine ⟨s1.heap.objs.size, [s1.heap.objs.size], _, _, H1, rfl, I1.kept (t' := s1.toks) fun b o e => Heap.get?_push_of_some _ e, turn_tuple a _, ⟨_, Heap.get?_push_size _ rfl, rfl, rfl⟩, fun b hb => ?_, q⟩
    have e : b = s1.heap.objs.size := by simpa using hb
    subst e
    exact I1.fpOk (Nat.le_refl _) (I1.hok.fresh (Nat.le_refl _))
section
variable {B : Bs} {W : WX} {X : Cx} {pos p : Pos} {a b c e tg iter : Expr} {fa fb fc : Fx D} {ga : Fx Bool} {es : List Expr} {fas : Fx (List D)} {K : PySem.W.Frag}

theorem it_list {G : Hp} {q : Addr} {xs : List V} {ds : List D} (h : SqL K G q xs) (r : RepA K G xs ds) : ItOk K (Itl K q) G ds where
  go := fun i H G' e e' hi => by
    have hx : i < xs.length := by rw [r.len]; exact hi
    exact ⟨xs, xs[i], exl e' (exl e h), List.getElem?_eq_getElem hx⟩
  yld := fun i H x H' G' d e e' hd y => by
    obtain ⟨rfl, y⟩ := y
    obtain ⟨v, hv, rv⟩ := r.get hd
    have hx := y xs (exl e' (exl e h))
    rw [hv] at hx
    cases hx
    exact ⟨G', Grow.refl e', rv.ex e⟩
  stop := fun H G' e e' => ⟨xs, exl e' (exl e h), by rw [r.len]; exact Nat.le_refl _⟩
theorem it_tup {G : Hp} {q : Addr} {xs : List V} {ds : List D} (h : SqT K G q xs) (r : RepA K G xs ds) : ItOk K (Itt K q) G ds where
  go := fun i H G' e e' hi => by
    have hx : i < xs.length := by rw [r.len]; exact hi
    exact ⟨xs, xs[i], ext e' (ext e h), List.getElem?_eq_getElem hx⟩
  yld := fun i H x H' G' d e e' hd y => by
    obtain ⟨rfl, y⟩ := y
    obtain ⟨v, hv, rv⟩ := r.get hd
    have hx := y xs (ext e' (ext e h))
    rw [hv] at hx
    cases hx
    exact ⟨G', Grow.refl e', rv.ex e⟩
  stop := fun H G' e e' => ⟨xs, ext e' (ext e h), by rw [r.len]; exact Nat.le_refl _⟩
def wItems (fa : Fx D) : Fx (List D) := fun env P R => fa env (fun d => match d.items with | some ds => P ds | none => False) R
theorem pdi_seq (h : PD B W X iter fa) : PDI B W X tg iter (wItems fa) :=
  (pi_any h).imp fun σ H R ⟨G, env, P, Re, rel, hF, hP, hR⟩ => ⟨G, env, _, Re, rel, hF, fun d pd v G1 H1 g1 rv => by
    cases d <;> first | exact pd.elim | skip
    · obtain ⟨q, xs, rfl, h, r⟩ := rv.lst_inv
      exact ⟨q, rfl, .inl ⟨⟨xs, SqL.of (g1.gh _ _ h)⟩, hP _ pd _ G1 H1 g1 (it_list (SqL.of h) r)⟩⟩
    · obtain ⟨q, xs, rfl, h, r⟩ := rv.tup_inv
      exact ⟨q, rfl, .inr ⟨⟨xs, ext g1.gh h⟩, hP _ pd _ G1 H1 g1 (it_tup h r)⟩⟩
    · cases rv with
      | frz h r => exact ⟨_, rfl, .inl ⟨⟨_, exl g1.gh h⟩, hP _ pd _ G1 H1 g1 (it_list h r)⟩⟩, hR⟩
/-- the signs of a text -/
def signs (z : Str) : List D := z.cps.toList.map fun c => .str ⟨#[c]⟩
def wSigns (fa : Fx D) : Fx (List D) := fun env P R => fa env (fun d => match d with | .str z => P (signs z) | _ => False) R
theorem it_str {G : Hp} {z : Str} : ItOk K (Its z) G (signs z) where
  go := fun i H G' e e' hi => by
    show i < z.cps.size
    simpa [signs] using hi
  yld := fun i H x H' G' d e e' hd y => by
    obtain ⟨rfl, c, hc, rfl⟩ := y
    have hc' : z.cps.toList[i]? = some c := by simpa using hc
    rw [signs, List.getElem?_map, hc'] at hd
    cases hd
    exact ⟨G', Grow.refl e', .str _⟩
  stop := fun H G' e e' => by
    show z.cps.size ≤ (signs z).length
    simp [signs]
theorem pdi_str (h : PD B W X iter fa) : PDI B W X tg iter (wSigns fa) :=
  (pi_str h).imp fun σ H R ⟨G, env, P, Re, rel, hF, hP, hR⟩ => ⟨G, env, _, Re, rel, hF, fun d pd v G1 H1 g1 rv => by
    cases d <;> first | exact pd.elim | skip
    exact ⟨_, rv.str_inv, hP _ pd _ G1 H1 g1 it_str⟩, hR⟩
/-- range -/
def rangeD (lo : Int) (n : Nat) : List D := (List.range n).map fun (i : Nat) => D.int (lo + (i : Int))
theorem it_range {G : Hp} {lo : Int} {n : Nat} : ItOk K (Itr lo n) G (rangeD lo n) where
  go := fun i H G' e e' hi => by
    show i < n
    simpa [rangeD] using hi
  yld := fun i H x H' G' d e e' hd y => by
    obtain ⟨rfl, rfl⟩ := y
    have hi : i < n := by simpa [rangeD] using get_lt hd
    rw [rangeD, List.getElem?_map, List.getElem?_range hi] at hd
    cases hd
    exact ⟨G', Grow.refl e', .int _⟩
  stop := fun H G' e e' => by
    show n ≤ (rangeD lo n).length
    simp [rangeD]
def wRng1 (fas : Fx (List D)) : Fx (List D) := fun env P R => fas env (fun ds => match ds with
  | [.int j] => (-(2 ^ 62) ≤ j ∧ j < 2 ^ 62) ∧ P (rangeD 0 j.toNat)
  | _ => False) R
def wRng2 (fas : Fx (List D)) : Fx (List D) := fun env P R => fas env (fun ds => match ds with
  | [.int i, .int j] => (-(2 ^ 62) ≤ i ∧ i < 2 ^ 62 ∧ -(2 ^ 62) ≤ j ∧ j < 2 ^ 62) ∧ P (rangeD i (j - i).toNat)
  | _ => False) R
theorem pdi_range1 (hg : Gl X "range") (hm : X.mg "range" = none) (ha : PDA B W X [a] fas) (hs : starEach [a] X.env = [(false, eval a X.env)] := by rfl) : PDI B W X tg (.Call (.Name "range" p) [a] [] pos) (wRng1 fas) :=
  (pi_range1 hg hm ha hs).imp fun σ H R ⟨G, env, P, Re, rel, hF, hP, hR⟩ => ⟨G, env, _, Re, rel, hF, fun ds pd vs G1 H1 g1 rvs => by
    split at pd
    · cases rvs with
      | cons r1 r2 =>
        cases r2
        exact ⟨_, by rw [r1.int_inv], pd.1.1, pd.1.2, hP _ pd.2 _ G1 H1 g1 it_range⟩
    · exact pd.elim, hR⟩
theorem pdi_range2 (hg : Gl X "range") (hm : X.mg "range" = none) (ha : PDA B W X [a, b] fas) (hs : starEach [a, b] X.env = [(false, eval a X.env), (false, eval b X.env)] := by rfl) (hs2 : starEach [b] X.env = [(false, eval b X.env)] := by rfl) :
    PDI B W X tg (.Call (.Name "range" p) [a, b] [] pos) (wRng2 fas) :=
  (pi_range2 hg hm ha hs hs2).imp fun σ H R ⟨G, env, P, Re, rel, hF, hP, hR⟩ => ⟨G, env, _, Re, rel, hF, fun ds pd vs G1 H1 g1 rvs => by
    split at pd
    · cases rvs with
      | cons r1 r2 =>
        cases r2 with
        | cons r2 r3 =>
          cases r3
          exact ⟨_, _, by rw [r1.int_inv, r2.int_inv], pd.1, hP _ pd.2 _ G1 H1 g1 it_range⟩
    · exact pd.elim, hR⟩
/-- enumerate -/
def enumD (n : Nat) : List D → List D
  | [] => []
  | d :: ds => .tup [.int n, d] :: enumD (n + 1) ds
theorem enumD_get : ∀ (ds : List D) (n i : Nat) (d : D), (enumD n ds)[i]? = some d → ∃ x, ds[i]? = some x ∧ d = .tup [.int ((n + i : Nat) : Int), x]
  | [], _, _, _, h => by simp [enumD] at h
  | x :: ds, n, 0, d, h => by
    simp only [enumD, List.getElem?_cons_zero, Option.some.injEq] at h
    exact ⟨x, rfl, h.symm⟩
  | x :: ds, n, i + 1, d, h => by
    simp only [enumD, List.getElem?_cons_succ] at h
    obtain ⟨y, h1, h2⟩ := enumD_get ds (n + 1) i d h
    refine ⟨y, by simpa using h1, ?_⟩
    rw [h2, show n + 1 + i = n + (i + 1) from by omega]
theorem enumD_len : ∀ (ds : List D) (n : Nat), (enumD n ds).length = ds.length
  | [], _ => rfl
  | _ :: ds, n => congrArg (· + 1) (enumD_len ds (n + 1))
theorem rep2 {G : Hp} {x y : V} {dx dy : D} {T : Addr} (h : G T = some (.tup [x, y])) (rx : Rep K G x dx) (ry : Rep K G y dy) : Rep K G (.ref T) (.tup [dx, dy]) := .tup (SqT.of h) (.cons rx (.cons ry .nil))
theorem it_enum {k : Bool} {G : Hp} {q : Addr} {xs : List V} {ds : List D} (h : SqB k K G q xs) (r : RepA K G xs ds) : ItOk K (ItEn k K q) G (enumD 0 ds) where
  go := fun i H G' e e' hi => by
    rw [enumD_len] at hi
    have hx : i < xs.length := by rw [r.len]; exact hi
    exact ⟨xs, xs[i], (h.ex e).ex e', List.getElem?_eq_getElem hx⟩
  yld := fun i H x H' G' d e e' hd y => by
    obtain ⟨T, z, rfl, nT, rfl, y⟩ := y
    obtain ⟨x', hx', rfl⟩ := enumD_get ds 0 i d hd
    obtain ⟨v, hv, rv⟩ := r.get hx'
    have hx := y xs ((h.ex e).ex e')
    rw [hv] at hx
    cases hx
    refine ⟨_, Grow.new e' nT, rep2 upd_same ?_ ((rv.ex e).ex (exn (Evl.fresh_back e' nT)))⟩
    rw [Nat.zero_add]
    exact .int _
  stop := fun H G' e e' => ⟨xs, (h.ex e).ex e', by rw [enumD_len]; exact r.len⟩
def wEnum (fas : Fx (List D)) : Fx (List D) := fun env P R => fas env (fun ds => match ds with
  | [d] => match d.items with
    | some ds => P (enumD 0 ds)
    | none => False
  | _ => False) R
theorem seq_of {G H : Hp} {v : V} {d : D} {ds : List D} (e : Ex G H) (rv : Rep K G v d) (h : d.items = some ds) : ∃ k a xs, v = .ref a ∧ SqB k K G a xs ∧ SqB k K H a xs ∧ RepA K G xs ds := by
  obtain ⟨q, ys, rfl, hs, rs⟩ := items_inv rv h
  rcases hs with hs | hs
  · exact ⟨true, q, ys, rfl, hs, exl e hs, rs⟩
  · exact ⟨false, q, ys, rfl, hs, ext e hs, rs⟩
theorem pdi_enum {tpos : Pos} {elts : List Expr} {kk : Nat} (hg : Gl X "enumerate") (hm : X.mg "enumerate" = none) (ha : PDA B W X [a] fas) (hs : starEach [a] X.env = [(false, eval a X.env)] := by rfl) :
    PDI B W X (.Tuple elts kk tpos) (.Call (.Name "enumerate" p) [a] [] pos) (wEnum fas) :=
  (pi_enumM hg hm ha hs).imp fun σ H R ⟨G, env, P, Re, rel, hF, hP, hR⟩ => ⟨G, env, _, Re, rel, hF, fun ds pd vs G1 H1 g1 rvs => by
    split at pd
    · cases rvs with
      | cons r1 r2 =>
        cases r2
        split at pd
        · rename_i ds' hd
          obtain ⟨k, q, ys, rfl, h1, h2, rs⟩ := seq_of g1.gh r1 hd
          exact ⟨k, q, ys, rfl, h2, hP _ pd _ G1 H1 g1 (it_enum h1 rs)⟩
        · exact pd.elim
    · exact pd.elim, hR⟩
/-- zip of two sequences of one length -/
def zipD : List D → List D → List D
  | x :: xs, y :: ys => .tup [x, y] :: zipD xs ys
  | _, _ => []
theorem zipD_get : ∀ (xs ys : List D) (i : Nat) (d : D), (zipD xs ys)[i]? = some d → ∃ x y, xs[i]? = some x ∧ ys[i]? = some y ∧ d = .tup [x, y]
  | [], _, _, _, h => by simp [zipD] at h
  | _ :: _, [], _, _, h => by simp [zipD] at h
  | x :: xs, y :: ys, 0, d, h => by
    simp only [zipD, List.getElem?_cons_zero, Option.some.injEq] at h
    exact ⟨x, y, rfl, rfl, h.symm⟩
  | x :: xs, y :: ys, i + 1, d, h => by
    simp only [zipD, List.getElem?_cons_succ] at h
    obtain ⟨x', y', h1, h2, h3⟩ := zipD_get xs ys i d h
    exact ⟨x', y', by simpa using h1, by simpa using h2, h3⟩
theorem zipD_min : ∀ (xs ys : List D), (zipD xs ys).length = min xs.length ys.length
  | [], ys => by simp [zipD]
  | _ :: _, [] => by simp [zipD]
  | _ :: xs, _ :: ys => by
    show (zipD xs ys).length + 1 = min (xs.length + 1) (ys.length + 1)
    rw [zipD_min xs ys]
    omega
theorem zipD_len (xs ys : List D) (h : xs.length = ys.length) : (zipD xs ys).length = xs.length := by
  rw [zipD_min]
  omega
theorem it_zip {k1 k2 : Bool} {G : Hp} {q1 q2 : Addr} {xs ys : List V} {ds es : List D} (h1 : SqB k1 K G q1 xs) (h2 : SqB k2 K G q2 ys) (r1 : RepA K G xs ds) (r2 : RepA K G ys es) : ItOk K (Itm k1 k2 K q1 q2) G (zipD ds es) where
  go := fun i H G' e e' hi => by
    rw [zipD_min] at hi
    have hx : i < xs.length := by rw [r1.len]; omega
    have hy : i < ys.length := by rw [r2.len]; omega
    exact ⟨xs, ys, xs[i], ys[i], (h1.ex e).ex e', (h2.ex e).ex e', List.getElem?_eq_getElem hx, List.getElem?_eq_getElem hy⟩
  yld := fun i H x H' G' d e e' hd y => by
    obtain ⟨T, z, z', rfl, nT, rfl, y1, y2⟩ := y
    obtain ⟨x', y', hx', hy', rfl⟩ := zipD_get ds es i d hd
    obtain ⟨v, hv, rv⟩ := r1.get hx'
    obtain ⟨u, hu, ru⟩ := r2.get hy'
    have hx := y1 xs ((h1.ex e).ex e')
    have hy := y2 ys ((h2.ex e).ex e')
    rw [hv] at hx
    rw [hu] at hy
    cases hx
    cases hy
    have en := exn (o := HO.tup [z, z']) (Evl.fresh_back e' nT)
    exact ⟨_, Grow.new e' nT, rep2 upd_same ((rv.ex e).ex en) ((ru.ex e).ex en)⟩
  stop := fun H G' e e' => ⟨xs, ys, (h1.ex e).ex e', (h2.ex e).ex e', by rw [zipD_min, r1.len]; omega, by rw [zipD_min, r2.len]; omega, by rw [zipD_min, r1.len, r2.len]; omega⟩
def wZip (fas : Fx (List D)) : Fx (List D) := fun env P R => fas env (fun ds => match ds with
  | [d, e] => match d.items, e.items with
    | some ds, some es => P (zipD ds es)
    | _, _ => False
  | _ => False) R
theorem pdi_zip {tpos : Pos} {elts : List Expr} {kk : Nat} (hg : Gl X "zip") (hm : X.mg "zip" = none) (ha : PDA B W X [a, b] fas) (hs : starEach [a, b] X.env = (false, eval a X.env) :: starEach [b] X.env := by rfl) (hpl : (backTo pos (starEach [b] X.env)).any (·.1) = false := by rfl) :
    PDI B W X (.Tuple elts kk tpos) (.Call (.Name "zip" p) [a, b] [] pos) (wZip fas) :=
  (pi_zipM hg hm ha hs hpl).imp fun σ H R ⟨G, env, P, Re, rel, hF, hP, hR⟩ => ⟨G, env, _, Re, rel, hF, fun ds pd vs G1 H1 g1 rvs => by
    split at pd
    · cases rvs with
      | cons r1 r2 =>
        cases r2 with
        | cons r2 r3 =>
          cases r3
          split at pd
          · rename_i ds' es' hd he
            obtain ⟨k, q, ys, rfl, h1, h2, rs⟩ := seq_of g1.gh r1 hd
            obtain ⟨k', q', ys', rfl, h1', h2', rs'⟩ := seq_of g1.gh r2 he
            exact ⟨k, k', q, q', ys, ys', rfl, h2, h2', hP _ pd _ G1 H1 g1 (it_zip h1 h1' rs rs')⟩
          · exact pd.elim
    · exact pd.elim, hR⟩

/-! ### comprehensions -/
def wipeE (env : En) : List Nat → En
  | [] => env
  | v :: vs => (wipeE env vs).set v .no
theorem Rel.wipe {G H : Hp} {σ : L2.St} {env : En} (rel : Rel K B G σ H env) : ∀ vs : List Nat, Rel K B G (L2.wipe σ vs) H (wipeE env vs)
  | [] => rel
  | v :: vs => (rel.wipe vs).setno v none
def tgc (K : PySem.W.Frag) (B : Bs) (vs : List Nat) (s : Tg) : TG := fun v σ H Q => ∃ G env d env', Rel K B G σ H env ∧ Rep K G v d ∧ s d env = some env' ∧ ∀ σ', L2.wipe σ' vs = L2.wipe σ vs → Rel K B G σ' H env' → Q σ' H
def PGc (B : Bs) (X : Cx) (vs : List Nat) (tg : Expr) (s : Tg) : Prop := PG X tg (tgc X.K B vs s)
def tgcs (K : PySem.W.Frag) (B : Bs) (vs : List Nat) (s : Tgs) : TGs := fun xs σ H Q => ∃ G env ds env', Rel K B G σ H env ∧ RepA K G xs ds ∧ s ds env = some env' ∧ ∀ σ', L2.wipe σ' vs = L2.wipe σ vs → Rel K B G σ' H env' → Q σ' H
def PGcs (B : Bs) (X : Cx) (vs : List Nat) (tg : List Expr) (s : Tgs) : Prop := PGs X tg (tgcs X.K B vs s)
theorem wipe_set {σ : L2.St} {i : Nat} {o : Option V} : ∀ {vs : List Nat}, i ∈ vs → L2.wipe (σ.set i o) vs = L2.wipe σ vs
  | v :: vs, h => by
    by_cases e : i ∈ vs
    · show (L2.wipe (σ.set i o) vs).set v none = (L2.wipe σ vs).set v none
      rw [wipe_set e]
    · have ei : i = v := by
        rcases List.mem_cons.mp h with h | h
        · exact h
        · exact (e h).elim
      subst ei
      have key : ∀ us : List Nat, i ∉ us → L2.wipe (σ.set i o) us = (L2.wipe σ us).set i o := by
        intro us
        induction us with
        | nil => intro _; rfl
        | cons u us ih =>
          intro hu
          rw [List.mem_cons, not_or] at hu
          show (L2.wipe (σ.set i o) us).set u none = ((L2.wipe σ us).set u none).set i o
          rw [ih hu.2, List.set_comm _ _ hu.1]
      show (L2.wipe (σ.set i o) vs).set i none = (L2.wipe σ vs).set i none
      rw [key vs e, List.set_set]
theorem wipe_in {σ : L2.St} {i : Nat} : ∀ {vs : List Nat}, i ∈ vs → (L2.wipe σ vs)[i]? = σ[i]?.map fun _ => none
  | v :: vs, h => by
    show ((L2.wipe σ vs).set v none)[i]? = _
    by_cases e : v = i
    · subst e
      rw [List.getElem?_set]
      simp only [if_true]
      by_cases hl : v < σ.length
      · rw [if_pos (by rw [L2.wipe_length]; exact hl), List.getElem?_eq_getElem hl]
        rfl
      · rw [if_neg (by rw [L2.wipe_length]; exact hl), List.getElem?_eq_none (by omega)]
        rfl
    · rw [List.getElem?_set_ne e]
      rcases List.mem_cons.mp h with h | h
      · exact (e h.symm).elim
      · exact wipe_in h
theorem wipe_wipe {σ : L2.St} {vs : List Nat} : L2.wipe (L2.wipe σ vs) vs = L2.wipe σ vs := by
  apply List.ext_getElem?
  intro i
  by_cases h : i ∈ vs
  · rw [wipe_in h, wipe_in h]
    cases σ[i]? <;> rfl
  · rw [L2.wipe_out h]
theorem pgc_name {vs : List Nat} {i : Nat} {x : Str} (hN : X.N.Nodup) (hi : X.N[i]? = some x) (hx : Loc X.env.scope x) (hv : i ∈ vs := by decide) (hf : X.fn x = true ∨ X.env.scope.names.lookup x = some .local := by first | exact .inl rfl | exact .inr rfl | assumption) : PGc B X vs (.Name x pos) (sName i) :=
  (pg_name hN hi hx hf).imp fun v σ H Q ⟨G, env, d, env', rel, r, e, k⟩ => by
    cases e
    exact k _ (wipe_set hv) (rel.setv r i)
theorem pgcs_nil {vs : List Nat} : PGcs B X vs [] sNil := pgs_nil.imp fun xs σ H Q ⟨G, env, ds, env', rel, r, e, k⟩ => by
  cases r <;> cases e
  exact ⟨rfl, k _ rfl rel⟩
theorem pgcs_cons {vs : List Nat} {es : List Expr} {s : Tg} {t : Tgs} (h1 : PGc B X vs e s) (h2 : PGcs B X vs es t) (hs : (assignEach (e :: es) X.env).map (·.2) = assign e X.env :: (assignEach es X.env).map (·.2) := by rfl) : PGcs B X vs (e :: es) (sCons s t) :=
  (pgs_cons h1 h2 hs).imp fun xs σ H Q ⟨G, env, ds, env', rel, r, e, k⟩ => by
    cases r with
    | nil => cases e
    | cons rv rs =>
      simp only [sCons] at e
      split at e
      · rename_i env1 e1
        exact ⟨_, _, rfl, G, env, _, env1, rel, rv, e1, fun σ1 w1 rel1 => ⟨G, env1, _, env', rel1, rs, e, fun σ2 w2 rel2 => k σ2 (w2.trans w1) rel2⟩⟩
      · cases e
theorem pgc_tup {vs : List Nat} {es : List Expr} {k : Nat} {t : Tgs} {n : Nat} (hc : X.calm = true) (h : PGcs B X vs es t) (hn : (assignEach es X.env).length = n := by rfl) (hst : (assignEach es X.env).findIdx? (·.1) = none := by rfl) : PGc B X vs (.Tuple es k pos) (sTup n t) :=
  (pg_tup hc h hn hst).imp fun v σ H Q ⟨G, env, d, env', rel, r, e, k⟩ => by
    cases d <;> first | (cases e; done) | skip
    simp only [sTup] at e
    split at e
    · rename_i hl
      obtain ⟨a, xs, rfl, hs, rs⟩ := r.tup_inv
      exact ⟨a, xs, rfl, ext rel.gh hs, by rw [rs.len]; exact hl, G, env, _, env', rel, rs, e, k⟩
    · cases e
def W0 : WX := fun _ _ _ _ => False
def PQs (B : Bs) (W : WX) (X : Cx) (ifs : List Expr) (F : Fx Bool) : Prop := PTs X ifs (tQ X.K B W F)
def wYes : Fx Bool := fun _ P _ => P true
theorem _root_.L2.PTs.imp {X : Cx} {e : List Expr} {t t' : TT} (h : PTs X e t) (k : ∀ σ H Q, t' σ H Q → t σ H Q) : PTs X e t' := ⟨fun pins s σ H Q I q => h.run pins s σ H Q I (k σ H Q q)⟩
theorem pqs_nil : PQs B W X [] wYes := pts_nil.imp fun σ H Q ⟨G, env, P, R, rel, hF, hP, hR⟩ => hP _ hF G H (Grow.refl rel.gh)
theorem pqs_one (h : PQ B W X c ga) : PQs B W X [c] ga := pts_one h
def wLc (vs : List Nat) (s : Tg) (gt : Fx Bool) (fe : Fx D) : List D → List D → Fx (List D)
  | [], acc, _, P, _ => P acc
  | d :: ds, acc, env, P, R => match s d (wipeE env vs) with
    | some e1 => gt e1 (fun b => if b = true then fe e1 (fun y => acc.length < sizeLine ∧ wLc vs s gt fe ds (acc ++ [y]) env P R) (fun _ => False) else wLc vs s gt fe ds acc env P R) (fun _ => False)
    | none => False
def wComp (vs : List Nat) (fi : Fx (List D)) (s : Tg) (gt : Fx Bool) (fe : Fx D) : Fx (List D) := fun env P R => fi env (fun ds => wLc vs s gt fe ds [] env P R) R
/-- the reading of a comprehension -/
theorem lc_ok {fi : Fx (List D)} {s : Tg} {gt : Fx Bool} {fe : Fx D} {vs : List Nat} {σ : L2.St} {H : Hp} {Q : VK} (h : tL K B W (wComp vs fi s gt fe) σ H Q) : tLc (tI K B W fi) (tgc K B vs s) (tQ K B W0 gt) (tP K B W0 fe) vs σ H Q := by
  obtain ⟨G, env, P, R, rel, hF, hP, hR⟩ := h
  refine ⟨G, env, _, R, rel, hF, fun ds pds J G1 H1 g1 it Dl nD => ?_, hR⟩
  refine ⟨fun i m H' => m = ds.length - i ∧ i ≤ ds.length ∧ ∃ G' ys acc, Grow G1 H1 G' H' ∧ G' Dl = none ∧ H' Dl = some (.lst ys) ∧ RepA K G' ys acc ∧ wLc vs s gt fe (ds.drop i) acc env P R,
    ⟨ds.length, rfl, Nat.zero_le _, G1, [], [], Grow.own g1.gh nD, Evl.fresh_back g1.gh nD, upd_same, .nil, pds⟩, ?_⟩
  rintro i m H' ⟨rfl, hi, G', ys, acc, gr, nG, hD, ra, hw⟩
  have rel1 := rel.grow g1
  by_cases hlt : i < ds.length
  · refine .inr ⟨it.go i H' G' gr.g gr.gh hlt, fun H' => ∃ G' ys acc, Grow G1 H1 G' H' ∧ G' Dl = none ∧ H' Dl = some (.lst ys) ∧ RepA K G' ys acc ∧ wLc vs s gt fe (ds.drop (i + 1)) acc env P R,
      fun H2 q => ⟨ds.length - (i + 1), by omega, rfl, hlt, q⟩, fun x H2 y => ?_⟩
    obtain ⟨G2, g2, rx⟩ := it.yld i H' x H2 G' ds[i] gr.g gr.gh (List.getElem?_eq_getElem hlt) y
    rw [List.drop_eq_getElem_cons hlt] at hw
    simp only [wLc] at hw
    split at hw
    · rename_i e1 he
      have gr2 := gr.trans g2
      have stay : ∀ {G3 H3 : Hp}, Grow G2 H2 G3 H3 → G3 Dl = none ∧ H3 Dl = some (.lst ys) := fun {G3 H3} g3 => by
        have h2 := g2.h _ _ hD
        exact ⟨(g3.nw _ (by rw [h2]; simp)).trans ((g2.nw _ (by rw [hD]; simp)).trans nG), g3.h _ _ h2⟩
      refine ⟨G2, _, _, e1, (rel1.grow gr2).wipe vs, rx, he, fun σ3 w3 rel3 => ⟨w3.trans (by rw [wipe_wipe]), ?_⟩⟩
      refine ⟨G2, e1, _, _, rel3, hw, fun b pb G3 H3 g3 => ?_, fun _ z => z.elim⟩
      cases b with
      | false =>
        obtain ⟨n3, h3⟩ := stay g3
        exact ⟨G3, ys, acc, gr2.trans g3, n3, h3, ra.ex (g2.trans g3).g, pb⟩
      | true =>
        rw [if_pos rfl]
        refine ⟨G3, e1, _, _, rel3.grow g3, pb, fun dy py v G4 H4 g4 rv => ?_, fun _ z => z.elim⟩
        obtain ⟨n4, h4⟩ := stay (g3.trans g4)
        have gr4 := gr2.trans (g3.trans g4)
        have ra4 := ra.ex ((g2.trans g3).trans g4).g
        refine ⟨ys, h4, by rw [ra.len]; exact py.1, G4, ys ++ [v], acc ++ [dy], ⟨gr4.g, gr4.h.mut nD, gr4.gh.mut n4, gr4.nw⟩, n4, upd_same, ra4.app (.one rv), py.2⟩
    · exact hw.elim
  · have ei : i = ds.length := by omega
    subst ei
    rw [List.drop_length] at hw
    exact .inl ⟨it.stop H' G' gr.g gr.gh, hP _ hw Dl ys G' H' (g1.trans gr) (Evl.fresh_back g1.h nD) nG hD ra⟩
end
end Pd
set_option maxRecDepth 100000
set_option maxHeartbeats 4000000
/-! built-ins -/
namespace Pd
open PySem PySem.Spec PyProof.Rows L2 Pre
section
variable {B : Bs} {W : WX} {X : Cx} {pos p : Pos} {a b c e tg iter : Expr} {fa fb fc : Fx D} {ga : Fx Bool} {es : List Expr} {fas : Fx (List D)} {K : PySem.W.Frag}

/-! ### comprehensions, as rules -/
theorem pl_lc {elt : Expr} {ifs : List Expr} {scope : Scope} {own : List (Str × Nat)} {fi : Fx (List D)} {s : Tg} {gt : Fx Bool} {fe : Fx D} (hc : X.calm = true) (hN : X.N.Nodup) (hi : PDI B W X tg iter fi) (ok : BlkOk X.N X.env.scope scope own)
    (hg : ∀ (s' : Shared) (H : Hp) (C : Addr) (cl : List (Str × Addr)) (fp : List Addr), PGc B (X.blk s' H scope (compEnvC scope cl C X.env) fp) (own.map (·.2)) tg s)
    (ht : ∀ (s' : Shared) (H : Hp) (C : Addr) (cl : List (Str × Addr)) (fp : List Addr), PQs B W0 (X.blk s' H scope (compEnvC scope cl C X.env) fp) ifs gt)
    (he : ∀ (s' : Shared) (H : Hp) (C : Addr) (cl : List (Str × Addr)) (fp : List Addr), PD B W0 (X.blk s' H scope (compEnvC scope cl C X.env) fp) elt fe) (hs : ∀ x, foldedSetIterable iter X.env x = pure x := by intro _; rfl) :
    PL B W X (.ListComp elt [⟨tg, iter, ifs, 0⟩] scope pos) (wComp (own.map (·.2)) fi s gt fe) := (pe_lc (g := tgc X.K B (own.map fun q : Str × Nat => q.2) s) (tt := tQ X.K B W0 gt) (te := tP X.K B W0 fe) hc hN hi ok hg ht he hs).imp fun _ _ _ q => lc_ok q
theorem pds_setLc {i : Nat} {y : Str} {py : Pos} {elt : Expr} {ifs : List Expr} {scope : Scope} {own : List (Str × Nat)} {spos : Pos} {fi : Fx (List D)} {s : Tg} {gt : Fx Bool} {fe : Fx D} (hc : X.calm = true) (hN : X.N.Nodup) (hy : X.N[i]? = some y) (hyl : X.env.scope.names.lookup y = some .local)
    (hsw : swapsWith (.ListComp elt [⟨tg, iter, ifs, 0⟩] scope pos) (some (.Name y py)) spos.line X.env = pure true) (hi : PDI B W X tg iter fi) (ok : BlkOk X.N X.env.scope scope own)
    (hg : ∀ (s' : Shared) (H : Hp) (C : Addr) (cl : List (Str × Addr)) (fp : List Addr), PGc B (X.blk s' H scope (compEnvC scope cl C X.env) fp) (own.map (·.2)) tg s)
    (ht : ∀ (s' : Shared) (H : Hp) (C : Addr) (cl : List (Str × Addr)) (fp : List Addr), PQs B W0 (X.blk s' H scope (compEnvC scope cl C X.env) fp) ifs gt)
    (he : ∀ (s' : Shared) (H : Hp) (C : Addr) (cl : List (Str × Addr)) (fp : List Addr), PD B W0 (X.blk s' H scope (compEnvC scope cl C X.env) fp) elt fe) (hs : ∀ x, foldedSetIterable iter X.env x = pure x := by intro _; rfl) :
    PDs B W X (.Assign [.Name y py] (.ListComp elt [⟨tg, iter, ifs, 0⟩] scope pos) spos) (wSetL i (wComp (own.map (·.2)) fi s gt fe)) :=
  (ps_setLc (g := tgc X.K B (own.map fun q : Str × Nat => q.2) s) (tt := tQ X.K B W0 gt) (te := tP X.K B W0 fe) hc hN hy hyl hsw hi ok hg ht he hs).imp fun Dn σ H ⟨G, env, P, rel, hF, ok⟩ => lc_ok (B := B) (W := W) (Q := fun x H1 => gName i x σ H1 Dn.nx) ⟨G, env, _, _, rel, hF, fun ds pd p vs G1 H1 g1 n1 n2 h1 rv => ok.nx _ pd _ G1 H1 g1.g (rel.newL g1 n1 n2 h1 rv i), ok.err rel⟩

/-! ### len, abs, int -/
def φLen : List D → (D → Prop) → Prop
  | [.lst ds], P => P (.int ds.length)
  | [.tup ds], P => P (.int ds.length)
  | [.frz ds], P => P (.int ds.length)
  | [.str z], P => z.length ≤ sizeLine ∧ P (.int z.length)
  | _, _ => False
theorem RepA.one_inv {G : Hp} {vs : List V} {d : D} (r : RepA K G vs [d]) : ∃ v, vs = [v] ∧ Rep K G v d := by
  cases r with
  | cons h r => cases r; exact ⟨_, rfl, h⟩
theorem RepA.two_inv {G : Hp} {vs : List V} {d e : D} (r : RepA K G vs [d, e]) : ∃ v u, vs = [v, u] ∧ Rep K G v d ∧ Rep K G u e := by
  cases r with
  | cons h r => obtain ⟨u, rfl, h2⟩ := r.one_inv; exact ⟨_, _, rfl, h, h2⟩
theorem RepA.three_inv {G : Hp} {vs : List V} {d e f : D} (r : RepA K G vs [d, e, f]) : ∃ v u w, vs = [v, u, w] ∧ Rep K G v d ∧ Rep K G u e ∧ Rep K G w f := by
  cases r with
  | cons h r => obtain ⟨u, w, rfl, h2, h3⟩ := r.two_inv; exact ⟨_, _, _, rfl, h, h2, h3⟩
def rLenA (K : PySem.W.Frag) : List V → Hp → VK → Prop := fun xs H Q => ∃ x n, xs = [x] ∧ LenV K x H n ∧ Q (.int n) H
theorem cdLen : CaD K (fun xs H Q => ∃ x n, xs = [x] ∧ LenV K x H n ∧ Q (.int n) H) φLen := fun xs ds G H P Q e r p k => by
  unfold φLen at p
  split at p
  · obtain ⟨v, rfl, h⟩ := r.one_inv
    obtain ⟨q, ys, rfl, hs, rs⟩ := h.lst_inv
    exact ⟨_, _, rfl, .inl ⟨ys, SqL.of (e _ _ hs), rfl⟩, by rw [rs.len]; exact k _ p _ G H (Grow.refl e) (.int _)⟩
  · obtain ⟨v, rfl, h⟩ := r.one_inv
    obtain ⟨q, ys, rfl, hs, rs⟩ := h.tup_inv
    exact ⟨_, _, rfl, .inr ⟨ys, ext e hs, rfl⟩, by rw [rs.len]; exact k _ p _ G H (Grow.refl e) (.int _)⟩
  · obtain ⟨v, rfl, h⟩ := r.one_inv
    cases h with
    | frz hs rs => exact ⟨_, _, rfl, .inl ⟨_, exl e hs, rfl⟩, by rw [rs.len]; exact k _ p _ G H (Grow.refl e) (.int _)⟩
  · obtain ⟨v, rfl, h⟩ := r.one_inv
    cases h
    exact ⟨_, _, rfl, ⟨p.1, rfl⟩, k _ p.2 _ G H (Grow.refl e) (.int _)⟩
  · exact p.elim
def φAbs : List D → (D → Prop) → Prop
  | [.int i], P => P (.int i.natAbs)
  | _, _ => False
theorem cdAbs : CaD K (fun xs H Q => ∃ i, xs = [.int i] ∧ Q (.int (if i < 0 then -i else i)) H) φAbs := fun xs ds G H P Q e r p k => by
  unfold φAbs at p
  split at p
  · obtain ⟨v, rfl, h⟩ := r.one_inv
    cases h
    rename_i i
    refine ⟨_, rfl, ?_⟩
    have : (if i < 0 then -i else i) = (i.natAbs : Int) := by split <;> omega
    rw [this]
    exact k _ p _ G H (Grow.refl e) (.int _)
  · exact p.elim
def φInt : List D → (D → Prop) → Prop
  | [.int i], P => P (.int i)
  | [.bl b], P => P (.int (if b then 1 else 0))
  | _, _ => False
theorem cdInt : CaD K (fun xs H Q => (∃ i, xs = [.int i] ∧ Q (.int i) H) ∨ ∃ k, xs = [.bl k] ∧ Q (.int (if k then 1 else 0)) H) φInt := fun xs ds G H P Q e r p k => by
  unfold φInt at p
  split at p
  · obtain ⟨v, rfl, h⟩ := r.one_inv
    cases h
    exact .inl ⟨_, rfl, k _ p _ G H (Grow.refl e) (.int _)⟩
  · obtain ⟨v, rfl, h⟩ := r.one_inv
    cases h
    exact .inr ⟨_, rfl, k _ p _ G H (Grow.refl e) (.int _)⟩
  · exact p.elim
/-! ### max, min of two; sum, all, any of a list -/
def φMax2 : List D → (D → Prop) → Prop
  | [.int i, .int j], P => P (.int (max i j))
  | _, _ => False
theorem cdMax2 : CaD K (fun xs H Q => ∃ i j, xs = [.int i, .int j] ∧ Q (.int (if j > i then j else i)) H) φMax2 := fun xs ds G H P Q e r p k => by
  unfold φMax2 at p
  split at p
  · obtain ⟨v, u, rfl, h1, h2⟩ := r.two_inv
    cases h1
    cases h2
    rename_i i j
    refine ⟨_, _, rfl, ?_⟩
    have : (if j > i then j else i) = max i j := by rw [Int.max_def]; split <;> split <;> omega
    rw [this]
    exact k _ p _ G H (Grow.refl e) (.int _)
  · exact p.elim
def φMin2 : List D → (D → Prop) → Prop
  | [.int i, .int j], P => P (.int (min i j))
  | _, _ => False
theorem cdMin2 : CaD K (fun xs H Q => ∃ i j, xs = [.int i, .int j] ∧ Q (.int (if j < i then j else i)) H) φMin2 := fun xs ds G H P Q e r p k => by
  unfold φMin2 at p
  split at p
  · obtain ⟨v, u, rfl, h1, h2⟩ := r.two_inv
    cases h1
    cases h2
    rename_i i j
    refine ⟨_, _, rfl, ?_⟩
    have : (if j < i then j else i) = min i j := by rw [Int.min_def]; split <;> split <;> omega
    rw [this]
    exact k _ p _ G H (Grow.refl e) (.int _)
  · exact p.elim
def D.toI : D → Option Int
  | .int i => some i
  | _ => none
def D.toB : D → Option Bool
  | .bl i => some i
  | _ => none
def D.toS : D → Option Str
  | .str i => some i
  | _ => none
def allI : List D → Option (List Int)
  | [] => some []
  | d :: ds => match d.toI, allI ds with
    | some i, some is => some (i :: is)
    | _, _ => none
def allB : List D → Option (List Bool)
  | [] => some []
  | d :: ds => match d.toB, allB ds with
    | some i, some is => some (i :: is)
    | _, _ => none
def allS : List D → Option (List Str)
  | [] => some []
  | d :: ds => match d.toS, allS ds with
    | some i, some is => some (i :: is)
    | _, _ => none
theorem allI_eq : ∀ {ds : List D} {ns : List Int}, allI ds = some ns → ds = ns.map D.int
  | [], ns, h => by cases h; rfl
  | d :: ds, ns, h => by
    simp only [allI] at h
    split at h
    · rename_i i is h1 h2
      cases h
      cases d <;> first | (cases h1; done) | skip
      cases h1
      rw [allI_eq h2]; rfl
    · cases h
theorem allB_eq : ∀ {ds : List D} {ns : List Bool}, allB ds = some ns → ds = ns.map D.bl
  | [], ns, h => by cases h; rfl
  | d :: ds, ns, h => by
    simp only [allB] at h
    split at h
    · rename_i i is h1 h2
      cases h
      cases d <;> first | (cases h1; done) | skip
      cases h1
      rw [allB_eq h2]; rfl
    · cases h
theorem allS_eq : ∀ {ds : List D} {ns : List Str}, allS ds = some ns → ds = ns.map D.str
  | [], ns, h => by cases h; rfl
  | d :: ds, ns, h => by
    simp only [allS] at h
    split at h
    · rename_i i is h1 h2
      cases h
      cases d <;> first | (cases h1; done) | skip
      cases h1
      rw [allS_eq h2]; rfl
    · cases h
theorem allI_map (ns : List Int) : allI (ns.map D.int) = some ns := by
  induction ns with
  | nil => rfl
  | cons n ns ih => simp only [List.map_cons, allI, D.toI, ih]
theorem allB_map (ns : List Bool) : allB (ns.map D.bl) = some ns := by
  induction ns with
  | nil => rfl
  | cons n ns ih => simp only [List.map_cons, allB, D.toB, ih]
theorem allS_map (ns : List Str) : allS (ns.map D.str) = some ns := by
  induction ns with
  | nil => rfl
  | cons n ns ih => simp only [List.map_cons, allS, D.toS, ih]
@[irreducible] def φSum : List D → (D → Prop) → Prop
  | [.lst ds], P => match allI ds with
    | some ns => P (.int ns.sum)
    | none => False
  | _, _ => False
theorem cdSum : CaD K (rSum K) φSum := fun xs ds G H P Q e r p k => by
  unfold φSum at p
  split at p
  · split at p
    · rename_i ns hn
      obtain ⟨v, rfl, h⟩ := r.one_inv
      obtain ⟨q, ys, rfl, hs, rs⟩ := h.lst_inv
      rw [allI_eq hn] at rs
      rw [rs.ints] at hs
      exact ⟨q, ns, rfl, SqL.of (e _ _ hs), k _ p _ G H (Grow.refl e) (.int _)⟩
    · exact p.elim
  · exact p.elim
def φAll (any : Bool) : List D → (D → Prop) → Prop
  | [.lst ds], P => match allB ds with
    | some ns => P (.bl (if any then ns.any id else ns.all id))
    | none => False
  | _, _ => False
theorem cdAll : CaD K (rAll K) (φAll false) := fun xs ds G H P Q e r p k => by
  unfold φAll at p
  split at p
  · split at p
    · rename_i ns hn
      obtain ⟨v, rfl, h⟩ := r.one_inv
      obtain ⟨q, ys, rfl, hs, rs⟩ := h.lst_inv
      rw [allB_eq hn] at rs
      rw [rs.bls] at hs
      exact ⟨q, ns, rfl, SqL.of (e _ _ hs), k _ p _ G H (Grow.refl e) (.bl _)⟩
    · exact p.elim
  · exact p.elim
theorem cdAny : CaD K (rAny K) (φAll true) := fun xs ds G H P Q e r p k => by
  unfold φAll at p
  split at p
  · split at p
    · rename_i ns hn
      obtain ⟨v, rfl, h⟩ := r.one_inv
      obtain ⟨q, ys, rfl, hs, rs⟩ := h.lst_inv
      rw [allB_eq hn] at rs
      rw [rs.bls] at hs
      exact ⟨q, ns, rfl, SqL.of (e _ _ hs), k _ p _ G H (Grow.refl e) (.bl _)⟩
    · exact p.elim
  · exact p.elim
/-! ### tuple(..), list(..) -/
def φTuple : List D → (D → Prop) → Prop
  | [.lst ds], P => P (.tup ds)
  | [.tup ds], P => P (.tup ds)
  | _, _ => False
theorem cdTuple : CaD K (fun xs H Q => ∃ p ys, xs = [.ref p] ∧ ((SqL K H p ys ∧ ∀ l, H l = none → Q (.ref l) (upd H l (.tup ys))) ∨ (SqT K H p ys ∧ Q (.ref p) H))) φTuple := fun xs ds G H P Q e r p k => by
  unfold φTuple at p
  split at p
  · obtain ⟨v, rfl, h⟩ := r.one_inv
    obtain ⟨q, ys, rfl, hs, rs⟩ := h.lst_inv
    exact ⟨q, ys, rfl, .inl ⟨SqL.of (e _ _ hs), fun t nt => k _ p _ _ _ (Grow.new e nt) (.tup (SqT.of upd_same) (rs.ex (exn (Evl.fresh_back e nt))))⟩⟩
  · obtain ⟨v, rfl, h⟩ := r.one_inv
    obtain ⟨q, ys, rfl, hs, rs⟩ := h.tup_inv
    exact ⟨q, ys, rfl, .inr ⟨ext e hs, k _ p _ G H (Grow.refl e) (.tup hs rs)⟩⟩
  · exact p.elim
def φList : List D → (List D → Prop) → Prop
  | [.lst ds], P => P ds
  | [.tup ds], P => P ds
  | _, _ => False
theorem cdList : ClD K (fun xs H Q => ∃ p ys, xs = [.ref p] ∧ (SqL K H p ys ∨ SqT K H p ys) ∧ ∀ l, H l = none → Q (.ref l) (upd H l (.lst ys))) φList := fun xs ds G H P Q e r p k => by
  unfold φList at p
  split at p
  · obtain ⟨v, rfl, h⟩ := r.one_inv
    obtain ⟨q, ys, rfl, hs, rs⟩ := h.lst_inv
    exact ⟨q, ys, rfl, .inl (SqL.of (e _ _ hs)), fun t nt => k _ p _ _ _ _ (Grow.own e nt) nt (Evl.fresh_back e nt) upd_same rs⟩
  · obtain ⟨v, rfl, h⟩ := r.one_inv
    obtain ⟨q, ys, rfl, hs, rs⟩ := h.tup_inv
    exact ⟨q, ys, rfl, .inr (ext e hs), fun t nt => k _ p _ _ _ _ (Grow.own e nt) nt (Evl.fresh_back e nt) upd_same rs⟩
  · exact p.elim

/-! ### order of data -/
def py (d : D) : PyData := (toPy d).getD .none
/-- the data that Python's < compares place by place -/
def ltOk (x y : D) : Prop := ∃ p q, toPy x = some p ∧ toPy y = some q ∧ PySem.W.alike p q = true ∧ p ≠ .none ∧ min p.depth q.depth ≤ 64
def ltD (x y : D) : Bool := PySem.W.dataLt (py x) (py y)
def rLtD (K : PySem.W.Frag) (neg swap : Bool) : R2 := fun x y H Q => ∃ p q, Dp K H x p ∧ Dp K H y q ∧ PySem.W.alike p q = true ∧ p ≠ .none ∧ min p.depth q.depth ≤ 64 ∧ Q (.bl (if neg then !PySem.W.dataLt (if swap then q else p) (if swap then p else q) else PySem.W.dataLt (if swap then q else p) (if swap then p else q))) H
theorem op_ltData (hu : X.A.units + 64 < cLine) : OpR X (compareOp .Lt) (rLtD X.K false false) := by
  intro pins s σ H x y v u Q I rx ry ⟨p, q, h1, h2, h3, h4, h5, k⟩
  obtain ⟨as, r1⟩ := Dp.reads I p x v h1 rx
  obtain ⟨bs, r2⟩ := Dp.reads I q y u h2 ry
  exact PySem.W.lt_data r1 r2 h3 h4 (by omega) ⟨.bl _, H, I, rfl, k⟩
theorem op_gtData (hu : X.A.units + 64 < cLine) : OpR X (compareOp .Gt) (rLtD X.K false true) := by
  intro pins s σ H x y v u Q I rx ry ⟨p, q, h1, h2, h3, h4, h5, k⟩
  obtain ⟨as, r1⟩ := Dp.reads I p x v h1 rx
  obtain ⟨bs, r2⟩ := Dp.reads I q y u h2 ry
  exact PySem.W.gt_data r1 r2 h3 h4 (by omega) ⟨.bl _, H, I, rfl, k⟩
theorem op_leData (hu : X.A.units + 64 < cLine) : OpR X (compareOp .LtE) (rLtD X.K true true) := by
  intro pins s σ H x y v u Q I rx ry ⟨p, q, h1, h2, h3, h4, h5, k⟩
  obtain ⟨as, r1⟩ := Dp.reads I p x v h1 rx
  obtain ⟨bs, r2⟩ := Dp.reads I q y u h2 ry
  exact PySem.W.le_data r1 r2 h3 h4 (by omega) ⟨.bl _, H, I, rfl, k⟩
theorem op_geData (hu : X.A.units + 64 < cLine) : OpR X (compareOp .GtE) (rLtD X.K true false) := by
  intro pins s σ H x y v u Q I rx ry ⟨p, q, h1, h2, h3, h4, h5, k⟩
  obtain ⟨as, r1⟩ := Dp.reads I p x v h1 rx
  obtain ⟨bs, r2⟩ := Dp.reads I q y u h2 ry
  exact PySem.W.ge_data r1 r2 h3 h4 (by omega) ⟨.bl _, H, I, rfl, k⟩
def φLtD (neg swap : Bool) (x y : D) (P : D → Prop) : Prop := ltOk x y ∧ P (.bl (if neg then !ltD (if swap then y else x) (if swap then x else y) else ltD (if swap then y else x) (if swap then x else y)))
theorem odLtD {neg swap : Bool} : OpD K (rLtD K neg swap) (φLtD neg swap) := fun x y dx dy G H P Q e rx ry ⟨⟨p, q, h1, h2, h3, h4, h5⟩, pp⟩ k => by
  refine ⟨p, q, dp_ex e (rx.dp h1), dp_ex e (ry.dp h2), h3, h4, h5, ?_⟩
  have e1 : py dx = p := by unfold py; rw [h1]; rfl
  have e2 : py dy = q := by unfold py; rw [h2]; rfl
  have kk := k _ pp _ G H (Grow.refl e) (.bl _)
  unfold ltD at kk
  cases swap <;> cases neg <;> simpa [e1, e2] using kk

/-! ### sorted -/
def leD (x y : D) : Bool := !ltD y x
def sortOk (ds : List D) : Prop := (∀ d ∈ ds, ∃ p, toPy d = some p ∧ p.depth ≤ 60) ∧ PySem.W.AllAlike (ds.map py) ∧ PySem.W.Sortable (ds.map py)
@[irreducible] def φSorted : List D → (List D → Prop) → Prop
  | [.lst ds], P => sortOk ds ∧ P (ds.mergeSort leD)
  | _, _ => False
theorem each_of {G : Hp} : ∀ {xs : List V} {ds : List D} {us : List Value}, RepA K G xs ds → Vals xs us → ∃ bs : List (V × D), bs.map (·.1) = xs ∧ bs.map (·.2) = ds ∧ PySem.W.EachIs (fun u b => RelV b.1 u ∧ Rep K G b.1 b.2) us bs
  | _, _, _, .nil, .nil => ⟨[], rfl, rfl, .nil⟩
  | _, _, _, .cons h r, .cons rv rr => by
    obtain ⟨bs, h1, h2, h3⟩ := each_of r rr
    exact ⟨(_, _) :: bs, by rw [List.map_cons, h1], by rw [List.map_cons, h2], .cons ⟨rv, h⟩ h3⟩
theorem of_each {G : Hp} : ∀ {us : List Value} {bs : List (V × D)}, PySem.W.EachIs (fun u b => RelV b.1 u ∧ Rep K G b.1 b.2) us bs → Vals (bs.map (·.1)) us ∧ RepA K G (bs.map (·.1)) (bs.map (·.2))
  | _, _, .nil => ⟨.nil, .nil⟩
  | _, _, .cons h r => by
    obtain ⟨h1, h2⟩ := of_each r
    exact ⟨.cons h.1 h1, .cons h.2 h2⟩
theorem leD_eq (a b : V × D) : PySem.W.dataLe false (fun b : V × D => py b.2) a b = leD a.2 b.2 := by
  rw [PySem.W.dataLe_eq]
  rfl
def rSortedD (K : PySem.W.Frag) : List V → Hp → VK → Prop := fun xs H Q => ∃ (a : Addr) (ys : List V) (ds : List D) (G : Hp), xs = [.ref a] ∧ SqL K H a ys ∧ Ex G H ∧ RepA K G ys ds ∧ sortOk ds ∧ ∀ p zs, H p = none → RepA K G zs (ds.mergeSort leD) → Q (.ref p) (upd H p (.lst zs))
theorem cr_sortedD (hu : X.A.units + 64 < cLine) : CallR X (.builtin "sorted") (rSortedD X.K) := by
  intro pins s σ H vs us Q I r h
  obtain ⟨a, ys, ds, G, rfl, hs, eg, ra, ⟨ok1, ok2, ok3⟩, q⟩ := h
  obtain ⟨its, rv, hl, hz⟩ := I.list hs
  rw [Vals.ref1 r]
  obtain ⟨bs, b1, b2, eb⟩ := each_of ra rv
  have hlen : bs.length = ys.length := by rw [← b1, List.length_map]
  have em : bs.map (fun b : V × D => py b.2) = ds.map py := by rw [← b2, List.map_map]; rfl
  refine PySem.W.sorted_data (R := fun u b => RelV b.1 u ∧ Rep X.K G b.1 b.2) (enc := fun b : V × D => py b.2) hl.isList eb ?_ (by rw [em]; exact ok2) (by rw [em]; exact ok3) (by rw [hlen]; exact hz) ?_ fun out h1 h2 => ?_
  · have key : ∀ {us : List Value} {cs : List (V × D)}, PySem.W.EachIs (fun u b => RelV b.1 u ∧ Rep X.K G b.1 b.2) us cs → (∀ b ∈ cs, b.2 ∈ ds) → PySem.W.EachIs (fun v b => ∃ as, Reads s.heap v ((fun b : V × D => py b.2) b) as) us cs := by
      intro us cs h
      induction h with
      | nil => intro _; exact .nil
      | cons h r ih =>
        rename_i u c us cs
        intro hm
        refine .cons ?_ (ih fun b hb => hm b (List.mem_cons_of_mem _ hb))
        obtain ⟨p, hp, _⟩ := ok1 c.2 (hm c List.mem_cons_self)
        obtain ⟨as, ra⟩ := Dp.reads I p c.1 u (dp_ex eg (h.2.dp hp)) h.1
        refine ⟨as, ?_⟩
        show Reads s.heap u (py c.2) as
        unfold py
        rw [hp]
        exact ra
    exact key eb fun b hb => by rw [← b2]; exact List.mem_map_of_mem hb
  · intro b hb
    have hd : b.2 ∈ ds := by rw [← b2]; exact List.mem_map_of_mem hb
    obtain ⟨p, hp, hd'⟩ := ok1 b.2 hd
    show X.A.units + 2 + (py b.2).depth < cLine
    unfold py
    rw [hp]
    show X.A.units + 2 + p.depth < cLine
    omega
  · have hsort : (bs.mergeSort (PySem.W.dataLe false fun b : V × D => py b.2)).map (·.2) = ds.mergeSort leD := by
      rw [← b2]
      exact PySem.W.sort_maps (fun b : V × D => b.2) fun a _ b _ => leD_eq a b
    obtain ⟨v1, v2⟩ := of_each h2
    rw [hsort] at v2
    obtain ⟨ep, he'⟩ := PyProof.Rows.sortedAll_at s.heap its out.toArray
    have hl2 : ((bs.mergeSort (PySem.W.dataLe false fun b : V × D => py b.2)).map (·.1)).length ≤ sizeLine := by
      rw [List.length_map, List.length_mergeSort, hlen]
      exact hz
    exact ⟨.ref _, upd H (s.heap.objs.size + 1) (.lst _), I.laid (t' := s.toks) (fun _ _ => PyProof.Rows.sortedAll_old) (Nat.le_succ _) ⟨hl2, out, ep, v1, he'⟩, rfl, q _ _ (I.hok.fresh (Nat.le_succ _)) v2⟩
theorem cdSorted : ClD K (rSortedD K) φSorted := fun xs ds G H P Q e r p k => by
  unfold φSorted at p
  split at p
  · obtain ⟨v, rfl, h⟩ := r.one_inv
    obtain ⟨q, ys, rfl, hs, rs⟩ := h.lst_inv
    exact ⟨q, ys, _, G, rfl, SqL.of (e _ _ hs), e, rs, p.1, fun t zs nt rz => k _ p.2 _ _ _ _ (Grow.own e nt) nt (Evl.fresh_back e nt) upd_same rz⟩
  · exact p.elim
end
end Pd
set_option maxRecDepth 100000
set_option maxHeartbeats 4000000
/-! isinstance, fields, instances made, errors raised and caught, calls by keywords -/
namespace Pd
open PySem PySem.Spec PyProof.Rows L2 Pre
section
variable {B : Bs} {W : WX} {X : Cx} {pos p : Pos} {a b c e tg iter : Expr} {fa fb fc : Fx D} {ga : Fx Bool} {es : List Expr} {fas : Fx (List D)} {K : PySem.W.Frag}

/-! ### isinstance -/
inductive Kd where
  | int | bool | str | tuple | list | dict
def Kd.name : Kd → String
  | .int => "int" | .bool => "bool" | .str => "str" | .tuple => "tuple" | .list => "list" | .dict => "dict"
inductive Ty where
  | none | bool | int | str | bytes | list | tuple | dict
def Ty.name : Ty → String
  | .none => "NoneType" | .bool => "bool" | .int => "int" | .str => "str" | .bytes => "bytes" | .list => "list" | .tuple => "tuple" | .dict => "dict"
def D.ty : D → Option Ty
  | .non => some .none | .bl _ => some .bool | .int _ => some .int | .str _ => some .str | .byt _ => some .bytes
  | .lst _ => some .list | .tup _ => some .tuple | .dic _ _ => some .dict
  | _ => none
def isTy : Kd → Ty → Bool
  | .int, .int => true | .int, .bool => true
  | .bool, .bool => true
  | .str, .str => true
  | .tuple, .tuple => true
  | .list, .list => true
  | .dict, .dict => true
  | _, _ => false
def isKd (k : Kd) (d : D) : Bool := match d.ty with
  | some t => isTy k t
  | none => false
theorem kit_ty' (k : Kd) (t : Ty) : kitB t.name k.name = some (isTy k t) := by cases k <;> cases t <;> decide +kernel
theorem kit_kd {k : Kd} {d : D} {t : Ty} (h : d.ty = some t) : kitB t.name k.name = some (isKd k d) := by
  unfold isKd
  rw [h]
  exact kit_ty' k t
theorem ty_of {G : Hp} {x : V} {d : D} {t : Ty} (r : Rep K G x d) (h : d.ty = some t) : TyX K G x (.type t.name) := by
  cases r <;> first | (cases h; done) | skip
  · cases h; exact .base .non
  · cases h; exact .base (.bl _)
  · cases h; exact .base (.int _)
  · cases h; exact .base (.str _)
  · cases h; exact .byt _
  · cases h; exact .base (.lst ‹_›)
  · cases h
    rename_i hs _
    rcases hs with (hs | ⟨o, hs⟩) | ⟨o, its, n, h1, h2, _⟩
    · exact .base (.tup hs)
    · exact .fTuple hs
    · exact .kTuple h1 h2
  · cases h; exact .base (.dK ‹_›)
theorem _root_.L2.TyX.ex {K : PySem.W.Frag} {G H : Hp} {x : V} {t : Value} (h : TyX K G x t) (e : Ex G H) : TyX K H x t := by
  cases h with
  | base h =>
    cases h with
    | non => exact .base .non
    | bl x => exact .base (.bl x)
    | int x => exact .base (.int x)
    | str x => exact .base (.str x)
    | flt x => exact .base (.flt x)
    | lst h => exact .base (.lst (e _ _ h))
    | frz h => exact .base (.frz (e _ _ h))
    | tup h => exact .base (.tup (e _ _ h))
    | dK h => exact .base (.dK (e _ _ h))
    | dT h => exact .base (.dT (e _ _ h))
    | ins h a b c d f => exact .base (.ins (e _ _ h) a b c d f)
  | byt b => exact .byt b
  | set h => exact .set (e _ _ h)
  | kList a b => exact .kList a b
  | kTuple a b => exact .kTuple a b
  | kDict a b => exact .kDict a b
  | fTuple h => exact .fTuple (e _ _ h)
  | fDict h => exact .fDict (e _ _ h)
/-- what is known of an own class -/
structure OwnC (K : PySem.W.Frag) (C : Addr) : Prop where
  cl : Cls K C
  ha : PySem.W.findIn K (.ref C) "__class__" = some (some (.builtin "object.__class__"))
  hn : PySem.W.specialIn K (.builtin "object.__class__") "__get__" = some (some (.builtin "getset_descriptor.__get__"))
  htk : PySem.W.takesIn K (.builtin "object.__class__") = some true
  hm : PySem.W.mroIn K C (.type "object") = some true
/-- isinstance: cs: the own classes that are known -/
@[irreducible] def φIsi (k : Kd) (cs : List Addr) : D → (D → Prop) → Prop := fun d P => match d with
  | .obj C _ _ => C ∈ cs ∧ P (.bl false)
  | .hid _ => False
  | .frz _ => False
  | .raw _ => False
  | d => P (.bl (isKd k d))
def wIsi (k : Kd) (cs : List Addr) (fa : Fx D) : Fx D := fun env P R => fa env (fun d => φIsi k cs d P) R
theorem pd_isi {k : Kd} {cs : List Addr} {x : Str} (hcs : ∀ C ∈ cs, OwnC X.K C ∧ ∀ k : Kd, PySem.W.kitOne X.K (.ref C) (.type k.name) = some false) (hg : Gl X x) (hm : X.mg x = none) (hv : bootBuiltins x = some (.builtin "isinstance")) (ha : PD B W X a fa) (hk : PE X b (tC (.ty k.name)))
    (hn : x ≠ "__name__" := by decide) (hdb : (x == ("__debug__" : Str)) = false := by decide) (s1 : starEach [a, b] X.env = (false, eval a X.env) :: starEach [b] X.env := by rfl) (s2 : starEach [b] X.env = (false, eval b X.env) :: starEach [] X.env := by rfl)
    (hpl : (backTo pos (starEach [b] X.env)).any (·.1) = false := by rfl) : PD B W X (.Call (.Name x p) [a, b] [] pos) (wIsi k cs fa) :=
  (pe_callB call_isi hg hm hv (pa_cons ha (pa_cons hk pa_nil s2) s1) hn hdb s1 hpl).imp fun σ H Q ⟨G, env, P, R, rel, hF, hP, hR⟩ => ⟨G, env, _, R, rel, hF, fun d pd v G1 H1 g1 rv => by
    unfold φIsi at pd
    show rIsi X.K [v, .ty k.name] H1 Q
    have go : ∀ t, d.ty = some t → P (.bl (isKd k d)) → rIsi X.K [v, .ty k.name] H1 Q := fun t ht pp => ⟨v, .ty k.name, .type t.name, .type k.name, _, rfl, .ty _, (ty_of rv ht).ex g1.gh, kit_ty (kit_kd ht), hP _ pp _ G1 H1 g1 (.bl _)⟩
    cases d with
    | obj C ns ds =>
      obtain ⟨hC, pp⟩ := pd
      obtain ⟨o, f⟩ := hcs C hC
      cases rv with
      | obj h e r => exact ⟨_, .ty k.name, .ref C, .type k.name, false, rfl, .ty _, .base (.ins (g1.gh _ _ h) o.cl o.ha o.hn o.htk o.hm), f k, hP _ pp _ G1 H1 g1 (.bl _)⟩
    | hid _ => exact pd.elim
    | frz _ => exact pd.elim
    | raw _ => exact pd.elim
    | non => exact go _ rfl pd
    | bl _ => exact go _ rfl pd
    | int _ => exact go _ rfl pd
    | str _ => exact go _ rfl pd
    | byt _ => exact go _ rfl pd
    | lst _ => exact go _ rfl pd
    | tup _ => exact go _ rfl pd
    | dic _ _ => exact go _ rfl pd, hR⟩

/-! ### fields -/
def nlook : List Str → List D → Str → Option D
  | n :: ns, d :: ds, f => if f = n then some d else nlook ns ds f
  | _, _, _ => none
theorem nlook_of {G : Hp} : ∀ {fs : List (Str × V)} {ns : List Str} {ds : List D} {f : Str} {d : D}, fs.map (·.1) = ns → RepA K G (fs.map (·.2)) ds → nlook ns ds f = some d → ∃ v, fs.lookup f = some v ∧ Rep K G v d
  | [], ns, ds, f, d, e, r, h => by
    cases e
    cases r
    cases h
  | (n, v) :: fs, ns, ds, f, d, e, r, h => by
    cases e
    cases r with
    | cons hv hr =>
      simp only [List.map_cons, nlook] at h
      by_cases q : f = n
      · subst q
        rw [if_pos rfl] at h
        cases h
        exact ⟨v, by rw [List.lookup_cons, beq_self_eq_true], hv⟩
      · rw [if_neg q] at h
        obtain ⟨u, h1, h2⟩ := nlook_of rfl hr h
        exact ⟨u, by rw [List.lookup_cons, beq_eq_false_iff_ne.mpr q]; exact h1, h2⟩
def wFld (C : Addr) (f : Str) (fa : Fx D) : Fx D := fun env P R => fa env (fun d => match d with
  | .obj C' ns ds => C' = C ∧ match nlook ns ds f with
    | some d => P d
    | none => False
  | _ => False) R
theorem pd_fld {C : Addr} {f : Str} (hc : Cls X.K C) (hn : NoAttr X.K C f) (ha : PD B W X a fa) (hb : attributeBase a f X.env (eval a X.env) = eval a X.env := by rfl) : PD B W X (.Attribute a f pos) (wFld C f fa) :=
  (pe_fld ha hb).imp fun σ H Q ⟨G, env, P, R, rel, hF, hP, hR⟩ => ⟨G, env, _, R, rel, hF, fun d pd v G1 H1 g1 rv => by
    cases d <;> first | exact pd.elim | skip
    obtain ⟨rfl, pd⟩ := pd
    split at pd
    · rename_i d' hd
      cases rv with
      | obj h e r =>
        obtain ⟨u, h1, h2⟩ := nlook_of e r hd
        exact ⟨_, _, _, _, u, rfl, g1.gh _ _ h, hc, hn, h1, hP _ pd _ G1 H1 g1 h2⟩
    · exact pd.elim, hR⟩
/-- self.f = e, self one's own -/
def putN (ns : List Str) (ds : List D) (f : Str) (d : D) : List Str × List D := match ns, ds with
  | n :: ns, x :: ds => if n = f then (n :: ns, d :: ds) else let r := putN ns ds f d; (n :: r.1, x :: r.2)
  | _, _ => ([f], [d])
theorem putN_of {G : Hp} {f : Str} {v : V} {d : D} (rv : Rep K G v d) : ∀ {fs : List (Str × V)} {ds : List D}, RepA K G (fs.map (·.2)) ds → (putF f v fs).map (·.1) = (putN (fs.map (·.1)) ds f d).1 ∧ RepA K G ((putF f v fs).map (·.2)) (putN (fs.map (·.1)) ds f d).2
  | [], ds, r => by
    cases r
    exact ⟨rfl, .one rv⟩
  | (n, x) :: fs, ds, r => by
    cases r with
    | cons h r =>
      obtain ⟨h1, h2⟩ := putN_of rv r
      by_cases q : n = f
      · simp only [putF, putN, List.map_cons, if_pos q]
        exact ⟨trivial, .cons rv r⟩
      · simp only [putF, putN, List.map_cons, if_neg q]
        exact ⟨by rw [h1], .cons h h2⟩
theorem putF_len (f : Str) (v : V) : ∀ fs : List (Str × V), (putF f v fs).length ≤ fs.length + 1
  | [] => Nat.le_refl _
  | (n, x) :: fs => by
    simp only [putF]
    split
    · simp
    · simpa using putF_len f v fs
def wStF (i : Nat) (f : Str) (fa : Fx D) : Fs := fun env P => match env[i]? with
  | some (.i q C ns ds) => fa env (fun d => ns.length < 1000 ∧ P (.nx (env.set i (.i q C (putN ns ds f d).1 (putN ns ds f d).2)))) (fun e => P (.er env e))
  | _ => False
theorem pds_stf {i : Nat} {C0 : Addr} {f : Str} {st : Stmt} (hc : Cls X.K C0) (hn : NoAttr X.K C0 f) (h : PS X st (sFld X.K (tVar i) (tP X.K B W fa) f)) : PDs B W X st (fun env P => (∃ q ns ds, env[i]? = some (.i q C0 ns ds)) ∧ wStF i f fa env P) :=
  h.imp fun Dn σ H ⟨G, env, P, rel, ⟨⟨q0, ns, ds, he⟩, hF⟩, ok⟩ => by
    unfold wStF at hF
    rw [he] at hF
    exact ⟨G, env, _, _, rel, hF, fun d pd v G1 H1 g1 rv => by
      have rel1 := rel.grow g1
      obtain ⟨q, s1, s2, _, eq, dx, fs, s3, s4, s5⟩ := rel1.own he rfl
      subst s4
      obtain ⟨e1, e2⟩ := putN_of (f := f) rv s5
      refine ⟨.ref q, s1, q, C0, dx, fs, rfl, s3, hc, hn, by simpa using pd.1, ok.nx _ pd.2 _ G1 _ g1.g (rel1.mut he rfl s1 (s' := .i q0 C0 _ _) ⟨eq, dx, _, upd_same, e1, e2⟩)⟩, ok.err rel⟩

/-! ### an instance made by its __init__ -/
abbrev Fm := List D → (List Str × List D → Prop) → (Err → Prop) → Prop
/-- __init__'s promise: self is new, and what it holds at the end -/
def spMk (K : PySem.W.Frag) (C : Addr) (n : Nat) (F : Fm) : Sp := fun vs H Q E => ∃ (x dx : Addr) (us : List V) (H0 G : Hp) (ds : List D) (P : List Str × List D → Prop) (R : Err → Prop), vs = .ref x :: us ∧ H0 x = none ∧ H0 dx = none ∧ dx ≠ x ∧ H = upd (upd H0 dx (.own x)) x (.ins C dx []) ∧ Ex G H0 ∧ RepA K G us ds ∧ ds.length = n ∧ F ds P R ∧
  (∀ y, P y → ∀ (G' H' : Hp) dx' fs, Grow G H0 G' H' → G' x = none → H' x = some (.ins C dx' fs) → fs.map (·.1) = y.1 → RepA K G' (fs.map (·.2)) y.2 → Q .non H') ∧ ∀ e, R e → ErrTo K G H0 (fun c d _ H => E c d H) [] e
theorem spMk_len {C : Addr} {n : Nat} {F : Fm} (vs : List V) (H : Hp) (Q : VK) (E : XK) (h : spMk K C n F vs H Q E) : vs.length = n + 1 := by
  obtain ⟨x, dx, us, H0, G, ds, P, R, rfl, _, _, _, _, _, r, hl, _⟩ := h
  rw [List.length_cons, r.len, hl]
def finM (x C : Addr) (P : List Str × List D → Prop) (R : Err → Prop) : Out → Prop
  | .nx env => match (env[0]? : Option Sl) with
    | some (Sl.i x' C' ns ds) => x' = x ∧ C' = C ∧ P (ns, ds)
    | _ => False
  | .er _ e => R e
  | _ => False
def startM (x C : Addr) (n : Nat) (ds : List D) : En := .i x C [] [] :: (ds.map Sl.v ++ List.replicate (n - (ds.length + 1)) Sl.no)
theorem Rel.startM {G H0 : Hp} {C x dx : Addr} {us : List V} {ds : List D} (e : Ex G H0) (n1 : H0 x = none) (n2 : H0 dx = none) (ne : dx ≠ x) (r : RepA K G us ds) (n : Nat) :
    Rel K ⟨G, H0⟩ G (some (.ref x) :: (us.map some ++ List.replicate n none)) (upd (upd H0 dx (.own x)) x (.ins C dx [])) (.i x C [] [] :: (ds.map Sl.v ++ List.replicate n Sl.no)) := by
  have R0 := Rel.start (K := K) e r n
  have e1 : Ex H0 (upd (upd H0 dx (.own x)) x (.ins C dx [])) := (exn n2).trans (exn (by rw [upd_ne (Ne.symm ne)]; exact n1))
  refine ⟨ex0, e1, e.trans e1, fun _ _ => rfl, by simp [R0.len], fun i o s h1 h2 => ?_, fun i j q si sj h1 h2 w1 w2 k1 k2 => ?_⟩
  · cases i with
    | zero =>
      cases h1
      cases h2
      exact ⟨x, rfl, Evl.fresh_back e n1, n1, rfl, dx, [], upd_same, rfl, .nil⟩
    | succ i =>
      have h1' : (us.map some ++ List.replicate n none)[i]? = some o := h1
      have h2' : (ds.map Sl.v ++ List.replicate n Sl.no)[i]? = some s := h2
      have q := R0.sl i o s h1' h2'
      cases s with
      | no => trivial
      | v d => exact q
      | l ds => obtain ⟨p, _, _, z, vs, hv, _⟩ := q; exact nomatch (show H0 p = none from z).symm.trans hv
      | k ks ds => obtain ⟨p, _, _, z, vs, hv, _⟩ := q; exact nomatch (show H0 p = none from z).symm.trans hv
      | i q C ns ds => obtain ⟨p, _, _, z, _, dx, vs, hv, _⟩ := q; exact nomatch (show H0 p = none from z).symm.trans hv
  · have key : ∀ {i : Nat} {s : Sl}, (ds.map Sl.v ++ List.replicate n Sl.no)[i]? = some s → s.own = true → False := fun {i s} h w => by
      have m := List.mem_of_getElem? h
      rcases List.mem_append.mp m with m | m
      · obtain ⟨d, _, rfl⟩ := List.mem_map.mp m
        cases w
      · obtain rfl := List.eq_of_mem_replicate m
        cases w
    cases i with
    | zero =>
      cases j with
      | zero => rfl
      | succ j => exact (key (show (ds.map Sl.v ++ List.replicate n Sl.no)[j]? = some sj from h2) w2).elim
    | succ i => exact (key (show (ds.map Sl.v ++ List.replicate n Sl.no)[i]? = some si from h1) w1).elim
theorem okM {P : Program} {w : World} {mg : Str → Option Value} {base : Heap} {x qual : Str} {st : Stmt} {f C : Addr} {fd : FuncData} {N ps : List Str} {k n : Nat} {F : Fm} (Fn : Fun K x qual st f fd) (S : FnScope N ps (defScope st)) (hn : ps.length = n + 1) (hN : n + 1 ≤ N.length)
    (hbody : ∀ (cdv : Value) (A : Around) (outer : List Env) (s : Shared) (H : Hp) (E : XK) (B : Bs), Room k (A.deeper (envOfC qual (defScope st) s.heap.objs.size f cdv)) →
      ∃ Fb, PDss B (fun c d _ H => E c d H) (cxOf (L2.CX P w) P w K mg base N qual (defScope st) f cdv A outer s H E) (defBody st) Fb ∧ ∀ x ds Q R, ds.length = n → F ds Q R → Fb (startM x C N.length ds) (finM x C Q R)) :
    FnOk P w K mg base (L2.CX P w) (k + 1) f fd ps (spMk K C n F) := by
  refine Fn.okX S (fun vs H Q E h => by rw [hn]; exact spMk_len vs H Q E h) fun cdv A outer s H vs Q E hr hsp => ?_
  obtain ⟨x, dx, us, H0, G, ds, P', R', rfl, n1, n2, ne, rfl, eg, r, hl, hF, hP, hR⟩ := hsp
  obtain ⟨Fb, hb, hq⟩ := hbody cdv A outer s _ E ⟨G, H0⟩ hr
  refine ⟨_, hb, G, startM x C N.length ds, finM x C P' R', ?_, hq x ds P' R' hl hF, ?_⟩
  · have R0 := Rel.startM (C := C) eg n1 n2 ne r (N.length - (ds.length + 1))
    unfold L2.start startM
    rw [List.length_cons, r.len]
    exact R0
  · refine ⟨fun env p σ' G' H' x' rel => ?_, fun env p => p.elim, fun env p => p.elim, fun d p => p.elim, fun env e p σ' G' H' x rel => ((hR e p).grow rel.all).slots⟩
    simp only [finM] at p
    split at p
    · rename_i x1 C1 ns ds1 he
      obtain ⟨rfl, rfl, p⟩ := p
      obtain ⟨q, s1, s2, s3, rfl, dx1, fs, s4, s5, s6⟩ := rel.own he rfl
      exact hP _ p G' H' dx1 fs rel.all s2 s4 s5 s6
    · exact p.elim
variable {CX : CXT} {k n : Nat} {C f : Addr} {fd : FuncData} {ps : List Str} {sp : Sp} {x : Str} {E : L2.St → XK}
theorem run_makeS {pins : List (Addr × Obj)} {σ : L2.St} {H : Hp} {s : Shared} {Q : VK} {us : List Value} {vs : List V} {E : XK} (M : Mk X.K C f) (F : FnOk X.prog X.w X.K X.mg X.base CX k f fd ps sp) (hr : Room (k + 1) X.A) (hb : Binds X.K fd ps [])
    (hx : PassesAt CX X σ E) (I : Inv X pins σ H s) (r : Vals vs us)
    (h : ∀ x dx, H x = none → H dx = none → dx ≠ x → sp (.ref x :: vs) (upd (upd H dx (.own x)) x (.ins C dx [])) (fun v H2 => v = .non ∧ Q (.ref x) H2) E) :
    wpAny (model X.prog X.w) X.A (call (.ref C) us) (EP X pins σ Q) X.xe s := by
  have hq := h (s.heap.objs.size + 1) s.heap.objs.size (I.hok.fresh (Nat.le_succ _)) (I.hok.fresh (Nat.le_refl _)) (Nat.ne_of_lt (Nat.lt_succ_self _))
  have I2 := Inv.made (C := C) I
  have r2 : Vals (V.ref (s.heap.objs.size + 1) :: vs) (Value.ref (s.heap.objs.size + 1) :: us) := .cons rfl r
  have hl : (Value.ref (s.heap.objs.size + 1) :: us ++ []).length = ps.length := by
    have e := r2.length
    rw [F.len _ _ _ _ hq] at e
    rw [List.append_nil]
    exact e.symm
  have b0 := hb _ (Value.ref (s.heap.objs.size + 1) :: us) I2.kIn hl
  rw [List.append_nil] at b0
  refine wpAny_call (make_map (f := f) I.kIn M.makes M.init (beq_iff_eq.mp M.fn) (codeAny_mono (F.run _ X.stack _ _ ⟨Value.ref (s.heap.objs.size + 1) :: us, []⟩ (Value.ref (s.heap.objs.size + 1) :: us) _ _ E (hr.make C us [])
    (I2.env0.make C us []) b0 r2 hq) fun r s' hq' => ?_))
  cases r with
  | error e => exact hx pins _ _ e s' I2 hq'
  | ok fl =>
    cases fl with
    | ret u =>
      obtain ⟨v, H', I3, rv, ev, q3⟩ := I2.after hq'
      subst ev
      exact ⟨rv, ⟨V.ref (s.heap.objs.size + 1), H', I3, rfl, q3⟩⟩
    | next => exact False.elim hq'
    | brk => exact False.elim hq'
    | cont => exact False.elim hq'
def tMakeS (C : Addr) (sp : Sp) (E : L2.St → XK) (t : TA) : TE := fun σ H Q => t σ H fun vs H1 => ∀ x dx, H1 x = none → H1 dx = none → dx ≠ x → sp (.ref x :: vs) (upd (upd H1 dx (.own x)) x (.ins C dx [])) (fun v H2 => v = .non ∧ Q (.ref x) H2) (E σ)
theorem pe_makeS {t : TA} (M : Mk X.K C f) (F : FnOk X.prog X.w X.K X.mg X.base CX k f fd ps sp) (hr : Room (k + 1) X.A) (hg : Gl X x) (hm : X.mg x = some (.ref C)) (hb : Binds X.K fd ps []) (hx : ∀ σ, PassesAt CX X σ (E σ))
    (ha : PA X (e :: es) t) (hdb : (x == ("__debug__" : Str)) = false := by decide) (he : starEach (e :: es) X.env = (false, eval e X.env) :: starEach es X.env := by rfl) (hpl : (backTo pos (starEach es X.env)).any (·.1) = false := by rfl) :
    PE X (.Call (.Name x p) (e :: es) [] pos) (tMakeS C sp E t) := by
  refine ⟨fun pins s σ H Q I h => ?_⟩
  refine wpAny_Call_Name_kw (ld_glob I hg hm ?_ hdb)
  refine PySem.W.callWith_K (h₀ := X.base) I.ok.mod.kin M.kp (thn (ha.run pos pins s σ H _ I h) fun us s1 ⟨vs, H1, I1, r, q⟩ => ⟨I1.kIn, ?_⟩) he hpl
  exact run_makeS M F hr hb (hx σ) I1 r q
@[irreducible] def wMake (C : Addr) (n : Nat) (F : Fm) (fas : Fx (List D)) : Fx D := fun env P R => fas env (fun ds => ds.length = n ∧ F ds (fun y => P (.obj C y.1 y.2)) R) R
theorem pd_make {F : Fm} (M : Mk X.K C f) (hF0 : FnOk X.prog X.w X.K X.mg X.base (L2.CX X.prog X.w) k f fd ps (spMk X.K C n F)) (hr : Room (k + 1) X.A) (hg : Gl X x) (hm : X.mg x = some (.ref C)) (hb : Binds X.K fd ps []) (tk : Takes X W)
    (ha : PDA B W X (e :: es) fas) (hdb : (x == ("__debug__" : Str)) = false := by decide) (he : starEach (e :: es) X.env = (false, eval e X.env) :: starEach es X.env := by rfl) (hpl : (backTo pos (starEach es X.env)).any (·.1) = false := by rfl) :
    PD B W X (.Call (.Name x p) (e :: es) [] pos) (wMake C n F fas) :=
  (pe_makeS M hF0 hr hg hm hb (fun σ => passAt tk σ) ha hdb he hpl).imp fun σ H Q ⟨G, env, P, R, rel, hF, hP, hR⟩ => ⟨G, env, fun ds => ds.length = n ∧ F ds (fun y => P (.obj C y.1 y.2)) R, R, rel, (by unfold wMake at hF; exact hF), fun ds pd vs G1 H1 g1 rvs x dx n1 n2 ne =>
    ⟨x, dx, vs, H1, G1, ds, _, R, rfl, n1, n2, ne, rfl, g1.gh, rvs, pd.1, pd.2, fun y py G2 H2 dx' fs g2 nx hx ey ry => ⟨rfl, hP _ py _ _ _ (g1.trans (g2.see n1 nx hx)) (.obj upd_same ey (ry.ex (exn nx)))⟩, fun e re => ((hR e re).grow g1).call⟩, hR⟩

/-! ### calls by keywords alone: f(a = .., b = ..) -/
def wPerm (g : List D → List D) (fas : Fx (List D)) : Fx (List D) := fun env P R => fas env (fun ds => P (g ds)) R
/-- the bound order is a permutation of the written one, told by places -/
def perm {α : Type} (is : List Nat) (xs : List α) : List α := is.filterMap fun i => xs[i]?
theorem perm_rel {G : Hp} {is : List Nat} {vs : List V} {ds : List D} (r : RepA K G vs ds) : RepA K G (perm is vs) (perm is ds) := by
  induction is with
  | nil => exact .nil
  | cons i is ih =>
    unfold perm at ih ⊢
    rw [List.filterMap_cons, List.filterMap_cons]
    cases hd : ds[i]? with
    | none =>
      have hv : vs[i]? = none := List.getElem?_eq_none_iff.mpr (by rw [r.len]; exact List.getElem?_eq_none_iff.mp hd)
      rw [hv]
      exact ih
    | some d =>
      obtain ⟨v, hv, rv⟩ := r.get hd
      rw [hv]
      exact .cons rv ih
theorem run_fnNS {ks : List Str} {g : List Value → List Value → List Value} {gV : List V → List V → List V} {E : XK} {pins : List (Addr × Obj)} {σ : L2.St} {H : Hp} {s : Shared} {Q : VK} {us ws : List Value} {vs zs : List V} (F : FnOk X.prog X.w X.K X.mg X.base CX k f fd ps sp) (hr : Room k X.A) (hb : KBn X.K fd ps n ks g gV) (hx : PassesAt CX X σ E)
    (I : Inv X pins σ H s) (r : Vals vs us) (rz : Vals zs ws) (l1 : vs.length = n) (l2 : zs.length = ks.length) (h : sp (gV vs zs) H Q E) : wpAny (model X.prog X.w) X.A (call (.ref f) us (ks.zip ws)) (EP X pins σ Q) X.xe s := by
  have r2 := hb.rel r rz
  refine wpAny_call (codeAny_mono (F.run X.A X.stack s H ⟨us, ks.zip ws⟩ (g us ws) (gV vs zs) Q E hr I.env0 (hb.to s us ws I.kIn (r.length.symm.trans l1) (rz.length.symm.trans l2)) r2 h) fun r s' hq => ?_)
  cases r with
  | error e => exact hx pins H s e s' I hq
  | ok fl =>
    cases fl with
    | ret u => exact I.after hq
    | next => exact False.elim hq
    | brk => exact False.elim hq
    | cont => exact False.elim hq
def tCallNS (m : Nat) (sp : Sp) (gV : List V → List V → List V) (E : L2.St → XK) (tk : TA) : TE := fun σ H Q => tk σ H fun zs H2 => zs.length = m ∧ sp (gV [] zs) H2 Q (E σ)
variable {kws : List Keyword} {ks : List Str} {g : List Value → List Value → List Value} {gV : List V → List V → List V} {tk' : TA}
theorem pe_callKS (F : FnOk X.prog X.w X.K X.mg X.base CX k f fd ps sp) (hr : Room k X.A) (hg : Gl X x) (hm : X.mg x = some (.ref f)) (hk : PySem.W.keepIn X.K (.ref f) = true) (hb : KBn X.K fd ps 0 ks g gV) (hx : ∀ σ, PassesAt CX X σ (E σ)) (hkw : L2.PK X kws tk')
    (hall : (backToKw pos (keywordEach kws X.env)).all (·.1.isSome) = true := by rfl) (hks : (backToKw pos (keywordEach kws X.env)).filterMap (·.1) = ks := by rfl) (hdb : (x == ("__debug__" : Str)) = false := by decide)
    (hpl : ((backTo pos (starEach [] X.env)).any (·.1) || (backToKw pos (keywordEach kws X.env)).any (·.1.isNone)) = false := by rfl) :
    PE X (.Call (.Name x p) [] kws pos) (tCallNS ks.length sp gV E tk') := by
  refine ⟨fun pins s σ H Q I h => ?_⟩
  refine wpAny_Call_Name_kw (ld_glob I hg hm ?_ hdb)
  refine PySem.W.callWith_KW0 (h₀ := X.base) I.ok.mod.kin hk hall ?_ hpl
  refine thn (hkw.run pos pins s σ H _ I h) fun ws s2 ⟨zs, H2, I2, rz, l2, q2⟩ => ⟨I2.kIn, ?_⟩
  rw [hks]
  exact run_fnNS (us := []) (vs := []) F hr hb (hx σ) I2 .nil rz rfl l2 q2
def PDK (B : Bs) (W : WX) (X : Cx) (kws : List Keyword) (F : Fx (List D)) : Prop := L2.PK X kws (tA X.K B W F)
theorem _root_.L2.PK.imp {X : Cx} {e : List Keyword} {t t' : TA} (h : L2.PK X e t) (k : ∀ σ H Q, t' σ H Q → t σ H Q) : L2.PK X e t' := ⟨fun pos pins s σ H Q I q => h.run pos pins s σ H Q I (k σ H Q q)⟩
theorem pdk_nil : PDK B W X [] wNil := pk_nil.imp fun σ H Q ⟨G, env, P, R, rel, hF, hP, hR⟩ => hP _ hF [] G H (Grow.refl rel.gh) .nil
theorem pdk_cons {nm : Option Str} {kpos : Pos} (ha : PD B W X a fa) (hr : PDK B W X kws fas) : PDK B W X (⟨nm, a, kpos⟩ :: kws) (wCons fa fas) :=
  (pk_cons ha hr).imp fun σ H Q ⟨G, env, P, R, rel, hF, hP, hR⟩ => ⟨G, env, _, R, rel, hF, fun dx px x G1 H1 g1 rx => ⟨G1, env, _, R, rel.grow g1, px, fun ds pds vs G2 H2 g2 rvs => hP _ pds _ G2 H2 (g1.trans g2) (.cons (rx.ex g2.g) rvs), fun e re => (hR e re).grow g1⟩, hR⟩
theorem pd_callK {F : Fd} {is : List Nat} (hF0 : FnOk X.prog X.w X.K X.mg X.base (L2.CX X.prog X.w) k f fd ps (spP X.K n F)) (hr : Room k X.A) (hg : Gl X x) (hm : X.mg x = some (.ref f)) (hk : PySem.W.keepIn X.K (.ref f) = true) (hb : KBn X.K fd ps 0 ks (fun _ zs => perm is zs) (fun _ zs => perm is zs)) (tk : Takes X W) (hkw : PDK B W X kws fas)
    (hall : (backToKw pos (keywordEach kws X.env)).all (·.1.isSome) = true := by rfl) (hks : (backToKw pos (keywordEach kws X.env)).filterMap (·.1) = ks := by rfl) (hdb : (x == ("__debug__" : Str)) = false := by decide)
    (hpl : ((backTo pos (starEach [] X.env)).any (·.1) || (backToKw pos (keywordEach kws X.env)).any (·.1.isNone)) = false := by rfl) :
    PD B W X (.Call (.Name x p) [] kws pos) (fun env P R => fas env (fun ds => ds.length = ks.length ∧ (perm is ds).length = n ∧ F (perm is ds) P R) R) :=
  (pe_callKS hF0 hr hg hm hk hb (fun σ => passAt tk σ) hkw hall hks hdb hpl).imp fun σ H Q ⟨G, env, P, R, rel, hF, hP, hR⟩ => ⟨G, env, _, R, rel, hF, fun ds pd vs G1 H1 g1 rvs =>
    ⟨by rw [rvs.len]; exact pd.1, G1, perm is ds, P, R, g1.gh, perm_rel rvs, pd.2.1, pd.2.2, fun d pd v G2 H2 g2 rv => hP d pd v G2 H2 (g1.trans g2) rv, fun e re => ((hR e re).grow g1).call⟩, hR⟩
theorem vals_perm {is : List Nat} {zs : List V} {ws : List Value} (r : Vals zs ws) : Vals (perm is zs) (perm is ws) := by
  induction is with
  | nil => exact .nil
  | cons i is ih =>
    unfold perm at ih ⊢
    rw [List.filterMap_cons, List.filterMap_cons]
    cases hd : zs[i]? with
    | none =>
      rw [r.none_of hd]
      exact ih
    | some d =>
      obtain ⟨u, hu, ru⟩ := r.get hd
      rw [hu]
      exact .cons ru ih
/-- how keywords alone bind -/
theorem kbn_perm {is : List Nat} (h : ∀ (s : Shared) (ws : List Value), ws.length = ks.length → BindsTo s fd ⟨[], ks.zip ws⟩ (ps.zip (perm is ws))) : KBn K fd ps 0 ks (fun _ zs => perm is zs) (fun _ zs => perm is zs) :=
  ⟨fun s us ws hk h1 h2 => by
    obtain rfl : us = [] := List.eq_nil_of_length_eq_zero h1
    exact h s ws h2, fun _ r => vals_perm r⟩

/-! ### a local name that holds a def -/
def tCallLS (i : Nat) (f : Addr) (sp : Sp) (E : L2.St → XK) (t : TA) : TE := fun σ H Q => σ[i]? = some (some (.ref f)) ∧ t σ H fun vs H1 => sp vs H1 Q (E σ)
theorem pe_callLS {i : Nat} {t : TA} (F : FnOk X.prog X.w X.K X.mg X.base CX k f fd ps sp) (hr : Room k X.A) (hN : X.N[i]? = some x) (hv : Vis X.env.scope x) (hk : PySem.W.keepIn X.K (.ref f) = true) (hb : Binds X.K fd ps []) (hx : ∀ σ, PassesAt CX X σ (E σ)) (ha : PA X (e :: es) t)
    (hdb : (x == ("__debug__" : Str)) = false := by decide) (hcd : (x == ("__classdict__" : Str)) = false := by decide)
    (he : starEach (e :: es) X.env = (false, eval e X.env) :: starEach es X.env := by rfl) (hpl : (backTo pos (starEach es X.env)).any (·.1) = false := by rfl) : PE X (.Call (.Name x p) (e :: es) [] pos) (tCallLS i f sp E t) := by
  refine ⟨fun pins s σ H Q I h => ?_⟩
  obtain ⟨hs, ht⟩ := h
  refine wpAny_Call_Name_kw (thn ((pe_var (pos := p) hN hv hdb hcd).run pins s σ H (fun v H1 => v = .ref f ∧ H1 = H) I ⟨.ref f, hs, rfl, rfl⟩) fun u s1 ⟨v, H1, I1, r1, q1⟩ => ?_)
  obtain ⟨rfl, rfl⟩ := q1
  cases r1
  refine PySem.W.callWith_K (h₀ := X.base) I.ok.mod.kin hk (thn (ha.run pos pins s1 σ _ _ I1 ht) fun us s2 ⟨vs, H2, I2, r, q⟩ => ⟨I2.kIn, ?_⟩) he hpl
  exact run_fnS F hr hb (hx σ) I2 r q
def wCallL (i : Nat) (f : Addr) (n : Nat) (F : Fd) (fas : Fx (List D)) : Fx D := fun env P R => env[i]? = some (.v (.raw (.ref f))) ∧ fas env (fun ds => ds.length = n ∧ F ds P R) R
theorem pd_callL {i : Nat} {F : Fd} (hF0 : FnOk X.prog X.w X.K X.mg X.base (L2.CX X.prog X.w) k f fd ps (spP X.K n F)) (hr : Room k X.A) (hk : PySem.W.keepIn X.K (.ref f) = true) (hb : Binds X.K fd ps []) (tk : Takes X W) (ha : PDA B W X (e :: es) fas)
    (hN : X.N[i]? = some x := by rfl) (hv : Vis X.env.scope x := by first | exact Or.inl rfl | exact Or.inr (Or.inl rfl) | exact Or.inr (Or.inr rfl))
    (hdb : (x == ("__debug__" : Str)) = false := by decide) (hcd : (x == ("__classdict__" : Str)) = false := by decide) (he : starEach (e :: es) X.env = (false, eval e X.env) :: starEach es X.env := by rfl) (hpl : (backTo pos (starEach es X.env)).any (·.1) = false := by rfl) :
    PD B W X (.Call (.Name x p) (e :: es) [] pos) (wCallL i f n F fas) :=
  (pe_callLS hF0 hr hN hv hk hb (fun σ => passAt tk σ) ha hdb hcd he hpl).imp fun σ H Q ⟨G, env, P, R, rel, hF, hP, hR⟩ => by
    obtain ⟨v, h1, h2⟩ := rel.val hF.1
    cases h2
    exact ⟨h1, G, env, _, R, rel, hF.2, fun ds pd vs G1 H1 g1 rvs => ⟨G1, ds, P, R, g1.gh, rvs, pd.1, pd.2, fun d pd v G2 H2 g2 rv => hP d pd v G2 H2 (g1.trans g2) rv, fun e re => ((hR e re).grow g1).call⟩, hR⟩

/-! ### raise, try -/
variable {C0 : Addr} {fn gn : Str} {Bn newId : String}
def wRaise1 (C : Addr) (f : Str) (fa : Fx D) : Fs := fun env P => fa env (fun d => P (.er env (.fld C [f] [d]))) (fun e => P (.er env e))
theorem pds_raise1 (hc : X.calm = true) (tk : Takes X W) (hm : PMk X e (tMkO C0 (Xc.spI C0 fn) [] (tCons (tP X.K B W fa) tNil))) : PDs B W X (.Raise (some e) none pos) (wRaise1 C0 fn fa) :=
  (ps_raise hc tk hm).imp fun Dn σ H ⟨G, env, P, rel, hF, ok⟩ => ⟨G, env, _, _, rel, hF, fun d pd v G1 H1 g1 rv => Xc.mk1 (C := C0) (f := fn) (H1 := H1) (v := v) (Q := fun cls d H' => W cls d σ H') fun dd nd =>
    ok.er _ _ pd σ G1 H1 g1.g (rel.grow g1) _ _ dd [(fn, v)] (Grow.new g1.gh nd) upd_same rfl (.one (rv.ex (exn (Evl.fresh_back g1.gh nd)))), ok.err rel⟩
def wRaise2 (C : Addr) (f g : Str) (fa fb : Fx D) : Fs := fun env P => fa env (fun d => fb env (fun d2 => P (.er env (.fld C [g, f] [d2, d]))) (fun e => P (.er env e))) (fun e => P (.er env e))
theorem pds_raise2 (hc : X.calm = true) (tk : Takes X W) (hm : PMk X e (tMkO C0 (Xc.spI2 C0 fn gn) [] (tCons (tP X.K B W fa) (tCons (tP X.K B W fb) tNil)))) : PDs B W X (.Raise (some e) none pos) (wRaise2 C0 fn gn fa fb) :=
  (ps_raise hc tk hm).imp fun Dn σ H ⟨G, env, P, rel, hF, ok⟩ => ⟨G, env, _, _, rel, hF, fun d pd v G1 H1 g1 rv => ⟨G1, env, _, _, rel.grow g1, pd, fun d2 pd2 u G2 H2 g2 ru => Xc.mk2 (C := C0) (f := fn) (g := gn) (H1 := H2) (v := v) (u := u) (Q := fun cls d H' => W cls d σ H') fun dd nd =>
    ok.er _ _ pd2 σ G2 H2 (g1.trans g2).g (rel.grow (g1.trans g2)) _ _ dd [(gn, u), (fn, v)] (Grow.new g2.gh nd) upd_same rfl (.cons (ru.ex (exn (Evl.fresh_back g2.gh nd))) (.one (rv.ex (g2.g.trans (exn (Evl.fresh_back g2.gh nd)))))), fun e p => ((ok.err rel) e p).grow g1⟩, ok.err rel⟩
/-- in a suite: the error that was caught -/
def XcAt (K : PySem.W.Frag) (B : Bs) (cls : Value) (d : Option Addr) (C : Addr) (ns : List Str) (ds : List D) : Prop := cls = .ref C ∧ ∃ (dd : Addr) (fs : List (Str × V)), d = some dd ∧ B.G dd = some (.xd fs) ∧ fs.map (·.1) = ns ∧ RepA K B.G (fs.map (·.2)) ds
def tSu (K : PySem.W.Frag) (B : Bs) (C : Addr) (i : Nat) (F : List Str → List D → Fs) (cls : Value) (d : Option Addr) : TS := fun Dn σ H => ∃ (B2 : Bs) (ns : List Str) (ds : List D), XcAt K B2 cls d C ns ds ∧ tS K B2 W0 (F ns ds) Dn σ H
theorem pdss_suite {X : Cx} {i : Nat} {cls : Value} {d : Option Addr} {sts : List Stmt} {F : List Str → List D → Fs} (h : ∀ (B2 : Bs) (ns : List Str) (ds : List D), XcAt X.K B2 cls d C0 ns ds → PDss B2 W0 X sts (F ns ds)) : PSs X sts (tSu X.K B C0 i F cls d) :=
  ⟨fun pins s σ H D I ⟨B2, ns, ds, hx, q⟩ => (h B2 ns ds hx).run pins s σ H D I q⟩
def wXf (i : Nat) (a : Addr) (f : Str) (ns : List Str) (ds : List D) : Fx D := fun env P _ => env[i]? = some (.v (.raw (.ref a))) ∧ match nlook ns ds f with
  | some d => P d
  | none => False
theorem pd_xf {X : Cx} {a' : Addr} {oe : Obj} {cls : Value} {d : Option Addr} {pn : List (Addr × Obj)} {i : Nat} {f : Str} {ns : List Str} {ds : List D} {B : Bs} {W : WX} (hx : XcAt X.K B cls d C0 ns ds) (T : XfC X.K C0) (hno : PySem.W.findIn X.K (.ref C0) f = some none)
    (hz : Zc cls d oe) (hf : ∃ vs, oe.data = .fields vs) (hv : PE (X.suite a' ((a', oe) :: pn)) e (tVar i)) (hb : attributeBase e f X.env (eval e X.env) = eval e X.env := by rfl) : PD B W (X.suite a' ((a', oe) :: pn)) (.Attribute e f pos) (fun env P R => wXf i a' f ns ds env P R) :=
  (pe_xf T hno hz hf hv hb).imp fun σ H Q ⟨G, env, P, R, rel, hF, hP, hR⟩ => by
    obtain ⟨ec, dd, fs, ed, e1, e2, e3⟩ := hx
    obtain ⟨v, h1, h2⟩ := rel.val hF.1
    cases h2
    have hF2 := hF.2
    split at hF2
    · rename_i d' hd
      obtain ⟨u, h3, h4⟩ := nlook_of e2 e3 hd
      exact ⟨_, h1, rfl, ec, dd, fs, u, ed, rel.gh _ _ (rel.bg _ _ e1), h3, hP _ hF2 u G H (Grow.refl rel.gh) (h4.ex rel.bg)⟩
    · exact hF2.elim
end
end Pd
set_option maxRecDepth 100000
set_option maxHeartbeats 4000000
/-! try; dicts; truth; pops; several targets -/
namespace Pd
open PySem PySem.Spec PyProof.Rows L2 Pre
section
variable {B : Bs} {W : WX} {X : Cx} {pos p : Pos} {a b c e tg iter : Expr} {fa fb fc : Fx D} {ga : Fx Bool} {es : List Expr} {fas : Fx (List D)} {K : PySem.W.Frag} {f g h : Fs} {st : Stmt} {rest : List Stmt}

/-! ### try -/
theorem Rel.rebase {G H : Hp} {σ : L2.St} {env : En} (r : Rel K B G σ H env) : Rel K ⟨G, B.H⟩ G σ H env :=
  ⟨ex0, r.bh, r.gh, fun _ _ => rfl, r.len, fun i o s h1 h2 => by
    have q := r.sl i o s h1 h2
    cases s <;> exact q, r.ds⟩
theorem Rel.unbase {G G2 H H2 : Hp} {σ σ2 : L2.St} {env env2 : En} (r : Rel K B G2 σ2 H2 env2) (r' : Rel K ⟨G2, B.H⟩ G σ H env) : Rel K B G σ H env :=
  ⟨r.bg.trans r'.bg, r'.bh, r'.gh, fun p hp => (r'.nw p hp).trans (r.nw p hp), r'.len, fun i o s h1 h2 => by
    have q := r'.sl i o s h1 h2
    cases s <;> exact q, r'.ds⟩
def clrO (i : Nat) : Out → Out
  | .nx env => .nx (env.set i .no)
  | .bk env => .bk (env.set i .no)
  | .ct env => .ct (env.set i .no)
  | o => o
def wTry (C : Addr) (i : Nat) (fb : Fs) (fsu : Addr → List Str → List D → Fs) : Fs := fun env P => fb env (fun o => match o with
  | .er env' (.fld C' ns ds) => C' = C ∧ ∀ a, fsu a ns ds (env'.set i (.v (.raw (.ref a)))) (fun o => match o with | .er _ _ => False | o => P (clrO i o))
  | .er _ _ => False
  | .nx e => P (.nx e) | .bk e => P (.bk e) | .ct e => P (.ct e) | .rt d => P (.rt d))
theorem wTry_ok {C : Addr} {i : Nat} {fb : Fs} {fsu : Addr → List Str → List D → Fs} (hex : PySem.W.exmOne K (.ref C) (.ref C) = some true) {Dn : Ends} {σ : L2.St} {H : Hp} (q : tS K B W (wTry C i fb fsu) Dn σ H) :
    tS K B (Xc.wAll K W Dn [(.ref C, some i, fun a cls d => tSu K B C i (fsu a) cls d)]) fb Dn σ H := by
  obtain ⟨G, env, P, rel, hF, ok⟩ := q
  refine ⟨G, env, _, rel, hF, ⟨ok.nx, ok.bk, ok.ct, ok.rt, fun env' e p σ' G' H' x rel' => ?_⟩⟩
  cases e with
  | bare C => exact p.elim
  | blt n => exact p.elim
  | fld C' ns ds =>
    obtain ⟨rfl, p⟩ := p
    intro G2 H2 dd fs g2 e1 e2 e3
    refine ⟨true, hex, fun _ a na => ?_, fun z => nomatch z⟩
    have rel2 := rel'.grow g2
    have rr := rel2.rebase
    refine ⟨⟨G2, B.H⟩, ns, ds, ⟨rfl, dd, fs, rfl, e1, e2, e3⟩, G2, _, _, rr.setv (.raw (.ref a)) i, p a, ?_⟩
    have xx := x.trans g2.g
    refine ⟨fun env3 p3 σ3 G3 H3 x3 rel3 => ok.nx _ p3 _ G3 H3 (xx.trans x3) ((rel2.unbase rel3).setno i none), fun env3 p3 σ3 G3 H3 x3 rel3 => ok.bk _ p3 _ G3 H3 (xx.trans x3) ((rel2.unbase rel3).setno i none),
      fun env3 p3 σ3 G3 H3 x3 rel3 => ok.ct _ p3 _ G3 H3 (xx.trans x3) ((rel2.unbase rel3).setno i none), fun d p3 v G3 H3 g3 r => ok.rt d p3 v G3 H3 ⟨rel2.bg.trans g3.g, g3.h, g3.gh, fun p hp => (g3.nw p hp).trans (rel2.nw p hp)⟩ r, fun env3 e p3 => p3.elim⟩
theorem pds_try {C : Addr} {i : Nat} {fb : Fs} {fsu : Addr → List Str → List D → Fs} {body : List Stmt} {x n : Str} {b₀ : Stmt} {suite : List Stmt} {np pos' : Pos} (hex : PySem.W.exmOne X.K (.ref C) (.ref C) = some true) (hs : X.stack = X.env :: X.outer) (hf : X.env.frame = some X.env.locals) (tk : Takes X W)
    (hN : X.N.Nodup) (hi : X.N[i]? = some n) (hln : X.env.kindOf n = some .local) (hc : Names X x (.ref C))
    (hb : ∀ (W' : WX) (pn : List (Addr × Obj)) (xe : Value → Shared → Prop), Takes (X.tr pn xe) W' → PassesOwn (model X.prog X.w) X.A X.env xe → PDss B W' (X.tr pn xe) body fb)
    (hsu : ∀ (a : Addr) (oe : Obj) (cls : Value) (d : Option Addr) (pn : List (Addr × Obj)), Zc cls d oe → (∃ vs, oe.data = .fields vs) → PSs (X.suite a ((a, oe) :: pn)) (b₀ :: suite) (tSu X.K B C i (fsu a) cls d)) :
    PDs B W X (.Try body [.ExceptHandler (some (.Name x np)) (some n) (b₀ :: suite) pos'] [] [] pos) (wTry C i fb fsu) :=
  (Xc.ps_try_all (tb := fun W' => tS X.K B W' fb) (l := [(.ref C, some i, fun a cls d => tSu X.K B C i (fsu a) cls d)]) hs hf tk hb (Xc.Hds.as_ hN hi hln hc hsu .nil)).imp fun Dn σ H q => wTry_ok hex q

/-! ### dicts -/
def keyOf : D → Option Key
  | .int i => some (.inl i)
  | .str s => some (.inr s)
  | _ => none
def dOf : Key → D
  | .inl i => .int i
  | .inr s => .str s
theorem keyOf_rep {G : Hp} {v : V} {d : D} {k : Key} (r : Rep K G v d) (h : keyOf d = some k) : v = kV k := by
  cases d <;> first | (cases h; done) | skip
  · cases h; exact r.int_inv
  · cases h; exact r.str_inv
theorem rep_key {G : Hp} (k : Key) : Rep K G (kV k) (dOf k) := by
  cases k with
  | inl i => exact .int i
  | inr s => exact .str s
def dget : List Key → List D → Key → Option D
  | k' :: ks, d :: ds, k => if k' = k then some d else dget ks ds k
  | _, _, _ => none
theorem dget_of {G : Hp} {k : Key} : ∀ {kvs : List (Key × V)} {ds : List D}, RepA K G (kvs.map (·.2)) ds → (∀ d, dget (kvs.map (·.1)) ds k = some d → ∃ v, valV kvs k = some v ∧ Rep K G v d) ∧ (dget (kvs.map (·.1)) ds k = none → valV kvs k = none)
  | [], ds, r => by
    cases r
    exact ⟨fun d h => (by cases h), fun _ => rfl⟩
  | (k', v) :: kvs, ds, r => by
    cases r with
    | cons h r =>
      rename_i d ds
      obtain ⟨h1, h2⟩ := dget_of (k := k) r
      by_cases q : k' = k
      · have e0 : dget (List.map (fun x => x.1) ((k', v) :: kvs)) (d :: ds) k = some d := by
          show (if k' = k then some d else _) = _
          rw [if_pos q]
        rw [e0, valV_pos q]
        exact ⟨fun d' e => (by cases e; exact ⟨v, rfl, h⟩), fun e => (by cases e)⟩
      · have e0 : dget (List.map (fun x => x.1) ((k', v) :: kvs)) (d :: ds) k = dget (kvs.map (·.1)) ds k := by
          show (if k' = k then some d else _) = _
          rw [if_neg q]
        rw [e0, valV_neg q]
        exact ⟨h1, h2⟩
def dput (ks : List Key) (ds : List D) (k : Key) (d : D) : List Key × List D := if (ks.any fun k' => decide (k' = k)) = true then (ks, List.zipWith (fun k' d' => if k' = k then d else d') ks ds) else (ks ++ [k], ds ++ [d])
theorem repA_zw {G : Hp} {k : Key} {v : V} {d : D} (rv : Rep K G v d) : ∀ {kvs : List (Key × V)} {ds : List D}, RepA K G (kvs.map (·.2)) ds → RepA K G ((kvs.map fun kv => if kv.1 = k then (kv.1, v) else kv).map (·.2)) (List.zipWith (fun k' d' => if k' = k then d else d') (kvs.map (·.1)) ds)
  | [], ds, r => by cases r; exact .nil
  | (k', u) :: kvs, ds, r => by
    cases r with
    | cons h r =>
      have ih := repA_zw (k := k) rv r
      simp only [List.map_cons, List.zipWith_cons_cons]
      refine .cons ?_ ih
      by_cases q : k' = k
      · rw [if_pos q, if_pos q]; exact rv
      · rw [if_neg q, if_neg q]; exact h
theorem dput_of {G : Hp} {k : Key} {v : V} {d : D} (rv : Rep K G v d) {kvs : List (Key × V)} {ds : List D} (r : RepA K G (kvs.map (·.2)) ds) : (putK kvs k v).map (·.1) = (dput (kvs.map (·.1)) ds k d).1 ∧ RepA K G ((putK kvs k v).map (·.2)) (dput (kvs.map (·.1)) ds k d).2 := by
  have hany : ((kvs.map (·.1)).any fun k' => decide (k' = k)) = kvs.any fun kv => decide (kv.1 = k) := by
    rw [List.any_map]
    rfl
  unfold putK dput
  rw [hany]
  by_cases q : (kvs.any fun kv => decide (kv.1 = k)) = true
  · rw [if_pos q, if_pos q]
    refine ⟨?_, repA_zw rv r⟩
    rw [List.map_map]
    apply List.map_congr_left
    intro kv _
    show (if kv.1 = k then (kv.1, v) else kv).1 = kv.1
    split <;> rfl
  · rw [if_neg q, if_neg q]
    rw [List.map_append, List.map_append]
    exact ⟨rfl, r.app (.one rv)⟩
def envDic (env : En) (i : Nat) : Option (List Key × List D) := match env[i]? with
  | some (.k ks ds) => some (ks, ds)
  | some (.v (.dic ks ds)) => some (ks, ds)
  | _ => none
theorem Rel.dic {G H : Hp} {σ : L2.St} {env : En} {i : Nat} {x : List Key × List D} (rel : Rel K B G σ H env) (h : envDic env i = some x) : ∃ q, ∃ kvs : List (Key × V), σ[i]? = some (some (.ref q)) ∧ H q = some (.dK kvs) ∧ kvs.map (·.1) = x.1 ∧ RepA K G (kvs.map (·.2)) x.2 := by
  unfold envDic at h
  split at h
  · rename_i ks ds he
    cases h
    obtain ⟨p, kvs, h1, h2, h3, h4, h5⟩ := get_ownK rel he
    exact ⟨p, kvs, h1, h3, h4, h5⟩
  · rename_i ks ds he
    cases h
    obtain ⟨v, h1, h2⟩ := rel.val he
    cases h2 with
    | dic h e r => exact ⟨_, _, h1, rel.gh _ _ h, e, r⟩
  · cases h
/-- d.get(k, x) -/
def wDGet (i : Nat) (fk fx : Fx D) : Fx D := fun env P R => match envDic env i with
  | some x => fk env (fun k => fx env (fun z => match keyOf k with | some kk => P ((dget x.1 x.2 kk).getD z) | none => False) R) R
  | none => False
theorem pd_dget2 {i : Nat} (h : PE X e (tDGet2 (tVar i) (tP X.K B W fa) (tP X.K B W fb))) : PD B W X e (wDGet i fa fb) :=
  h.imp fun σ H Q ⟨G, env, P, R, rel, hF, hP, hR⟩ => by
    unfold wDGet at hF
    split at hF
    · rename_i x hx
      obtain ⟨q, kvs, s1, s2, s3, s4⟩ := rel.dic hx
      refine ⟨.ref q, s1, q, rfl, .inl ⟨kvs, .inl s2⟩, G, env, _, R, rel, hF, fun dk pk vk G1 H1 g1 rk => ⟨G1, env, _, R, rel.grow g1, pk, fun dz pz vz G2 H2 g2 rz => ?_, fun e re => (hR e re).grow g1⟩, hR⟩
      split at pz
      · rename_i kk hk
        have ek := keyOf_rep rk hk
        subst ek
        rw [← s3] at pz
        have s4' := s4.ex (g1.trans g2).g
        obtain ⟨h1, h2⟩ := dget_of (k := kk) s4'
        refine ⟨_, DGet.k ((g1.trans g2).h _ _ s2), ?_⟩
        cases hd : dget (kvs.map (·.1)) x.2 kk with
        | none =>
          rw [h2 hd]
          rw [hd] at pz
          exact hP _ pz _ G2 H2 (g1.trans g2) rz
        | some d =>
          obtain ⟨v, hv, rv⟩ := h1 d hd
          rw [hv]
          rw [hd] at pz
          exact hP _ pz _ G2 H2 (g1.trans g2) rv
      · exact pz.elim
    · exact hF.elim
/-- d[k], it is there -/
@[irreducible] def wDIx (i : Nat) (fk : Fx D) : Fx D := fun env P R => match envDic env i with
  | some x => fk env (fun k => match keyOf k with
    | some kk => match dget x.1 x.2 kk with
      | some d => P d
      | none => False
    | none => False) R
  | none => False
theorem pd_dix {i : Nat} (h : PE X e (tDGet (tVar i) (tP X.K B W fa))) : PD B W X e (wDIx i fa) :=
  h.imp fun σ H Q ⟨G, env, P, R, rel, hF, hP, hR⟩ => by
    unfold wDIx at hF
    split at hF
    · rename_i x hx
      obtain ⟨q, kvs, s1, s2, s3, s4⟩ := rel.dic hx
      refine ⟨.ref q, s1, G, env, _, R, rel, hF, fun dk pk vk G1 H1 g1 rk => ?_, hR⟩
      split at pk
      · rename_i kk hk
        have ek := keyOf_rep rk hk
        subst ek
        split at pk
        · rename_i d hd
          rw [← s3] at hd
          obtain ⟨v, hv, rv⟩ := (dget_of (k := kk) (s4.ex g1.g)).1 d hd
          exact ⟨q, v, rfl, by rw [← hv]; exact DGet.k (g1.h _ _ s2), hP _ pk v G1 H1 g1 rv⟩
        · exact pk.elim
      · exact pk.elim
    · exact hF.elim
/-- k in d -/
def wDIn (neg : Bool) (i : Nat) (fk : Fx D) : Fx D := fun env P R => match envDic env i with
  | some x => fk env (fun k => match keyOf k with
    | some kk => P (.bl (if neg then !(dget x.1 x.2 kk).isSome else (dget x.1 x.2 kk).isSome))
    | none => False) R
  | none => False
theorem dget_some {G : Hp} {kvs : List (Key × V)} {ds : List D} {k : Key} (r : RepA K G (kvs.map (·.2)) ds) : (valV kvs k).isSome = (dget (kvs.map (·.1)) ds k).isSome := by
  obtain ⟨h1, h2⟩ := dget_of (k := k) r
  cases hd : dget (kvs.map (·.1)) ds k with
  | none => rw [h2 hd]; rfl
  | some d => obtain ⟨v, hv, _⟩ := h1 d hd; rw [hv]; rfl
theorem wDIn_ok {neg : Bool} {i : Nat} {σ : L2.St} {H : Hp} {Q : VK} (h : tP K B W (wDIn neg i fa) σ H Q) : (if neg then tDNotIn (tP K B W fa) (tVar i) σ H Q else tDIn (tP K B W fa) (tVar i) σ H Q) := by
  obtain ⟨G, env, P, R, rel, hF, hP, hR⟩ := h
  unfold wDIn at hF
  split at hF
  · rename_i x hx
    obtain ⟨q, kvs, s1, s2, s3, s4⟩ := rel.dic hx
    cases neg with
    | false =>
      refine ⟨G, env, _, R, rel, hF, fun dk pk vk G1 H1 g1 rk => ?_, hR⟩
      split at pk
      · rename_i kk hk
        have ek := keyOf_rep rk hk
        subst ek
        refine ⟨.ref q, s1, q, _, rfl, DGet.k (g1.h _ _ s2), ?_⟩
        rw [← s3, ← dget_some s4] at pk
        exact hP _ pk _ G1 H1 g1 (.bl _)
      · exact pk.elim
    | true =>
      refine ⟨G, env, _, R, rel, hF, fun dk pk vk G1 H1 g1 rk => ?_, hR⟩
      split at pk
      · rename_i kk hk
        have ek := keyOf_rep rk hk
        subst ek
        refine ⟨.ref q, s1, q, _, rfl, DGet.k (g1.h _ _ s2), ?_⟩
        rw [← s3, ← dget_some s4] at pk
        exact hP _ pk _ G1 H1 g1 (.bl _)
      · exact pk.elim
  · exact hF.elim
theorem pd_inK {i : Nat} (hu : X.A.units + 1 < cLine) (ha : PD B W X a fa) (hb : PE X b (tVar i)) (hm : behindInMarks .In b = false := by rfl) : PD B W X (.Compare a [.In] [b] pos) (wDIn false i fa) := (pe_cmp (pc_din hu ha hb) hm).imp fun _ _ _ q => wDIn_ok (neg := false) q
theorem pd_notInK {i : Nat} (hu : X.A.units + 1 < cLine) (ha : PD B W X a fa) (hb : PE X b (tVar i)) (hm : behindInMarks .NotIn b = false := by rfl) : PD B W X (.Compare a [.NotIn] [b] pos) (wDIn true i fa) := (pe_cmp (pc_dnotin hu ha hb) hm).imp fun _ _ _ q => wDIn_ok (neg := true) q
theorem wB_t {fa' : Fx D} {t : TE} (k : ∀ σ H Q, tP K B W fa' σ H Q → t σ H Q) {σ : L2.St} {H : Hp} {Q : Bool → Hp → Prop} (h : tQ K B W (wB fa') σ H Q) : tB t σ H Q := k _ _ _ (wB_ok h)
theorem pq_inK {i : Nat} (hu : X.A.units + 1 < cLine) (ha : PD B W X a fa) (hb : PE X b (tVar i)) (hm : behindInMarks .In b = false := by rfl) : PQ B W X (.Compare a [.In] [b] pos) (wB (wDIn false i fa)) := (pt_cmp (pc_din hu ha hb) hm).imp fun _ _ _ q => wB_t (fun _ _ _ q => wDIn_ok (neg := false) q) q
theorem pq_notInK {i : Nat} (hu : X.A.units + 1 < cLine) (ha : PD B W X a fa) (hb : PE X b (tVar i)) (hm : behindInMarks .NotIn b = false := by rfl) : PQ B W X (.Compare a [.NotIn] [b] pos) (wB (wDIn true i fa)) := (pt_cmp (pc_dnotin hu ha hb) hm).imp fun _ _ _ q => wB_t (fun _ _ _ q => wDIn_ok (neg := true) q) q
/-- d[k] = v, d one's own -/
@[irreducible] def wDPut (i : Nat) (fk fv : Fx D) : Fs := fun env P => fv env (fun v => fk env (fun k => match env[i]?, keyOf k with
  | some (.k ks ds), some kk => ks.length < sizeLine ∧ P (.nx (env.set i (.k (dput ks ds kk v).1 (dput ks ds kk v).2)))
  | _, _ => False) (fun e => P (.er env e))) (fun e => P (.er env e))
theorem pds_dput {i : Nat} (h : PS X st (sDPut (tVar i) (tP X.K B W fa) (tP X.K B W fb))) : PDs B W X st (fun env P => (∃ ks ds, env[i]? = some (.k ks ds)) ∧ wDPut i fa fb env P) :=
  h.imp fun Dn σ H ⟨G, env, P, rel, ⟨⟨ks, ds, he⟩, hF⟩, ok⟩ => by
  unfold wDPut at hF
  exact ⟨G, env, _, _, rel, hF, fun dv pv v G1 H1 g1 rv => by
    have rel1 := rel.grow g1
    obtain ⟨q, kvs, s1, s2, s3, s4, s5⟩ := get_ownK rel1 he
    refine ⟨.ref q, s1, G1, env, _, _, rel1, pv, fun dk pk vk G2 H2 g2 rk => ?_, fun e p => ((ok.err rel) e p).grow g1⟩
    rw [he] at pk
    split at pk
    · rename_i ks' ds' kk e1 hk
      cases e1
      have ek := keyOf_rep rk hk
      subst ek
      subst s4
      obtain ⟨z1, z2⟩ := dput_of (k := kk) (rv.ex g2.g) (s5.ex g2.g)
      exact ⟨q, _, rfl, DPut.k (g2.h _ _ s3) (by simpa using pk.1), ok.nx _ pk.2 _ G2 _ (g1.trans g2).g ((rel1.grow g2).mut he rfl s1 (s' := .k _ _) ⟨_, upd_same, z1, z2⟩)⟩
    · exact pk.elim, ok.err rel⟩
/-- {} -/
def wDNew : Fx (List Key × List D) := fun _ P _ => P ([], [])
theorem pk_new : PK' B W X (.Dict [] [] pos) wDNew := pe_dnewK.imp fun σ H Q ⟨G, env, P, R, rel, hF, hP, hR⟩ => fun q nq => hP _ hF q [] G _ (Grow.own rel.gh nq) nq (Evl.fresh_back rel.gh nq) upd_same rfl .nil
/-- list(d), sorted(d) -/
def φListD : List D → (List D → Prop) → Prop
  | [.dic ks _], P => P (ks.map dOf)
  | _, _ => False
theorem repA_keys {G : Hp} : ∀ kvs : List (Key × V), RepA K G (kvs.map fun kv => kV kv.1) ((kvs.map (·.1)).map dOf)
  | [] => .nil
  | kv :: kvs => .cons (rep_key _) (repA_keys kvs)
theorem cdListD : ClD K (fun xs H Q => ∃ (a : Addr) (kvs : List (Key × V)), xs = [.ref a] ∧ Rd H a (.dK kvs) ∧ ∀ p, H p = none → Q (.ref p) (upd H p (.lst (kvs.map fun kv => kV kv.1)))) φListD := fun xs ds G H P Q e r p k => by
  unfold φListD at p
  split at p
  · obtain ⟨v, rfl, h⟩ := r.one_inv
    cases h with
    | dic h e1 r1 =>
      subst e1
      exact ⟨_, _, rfl, .inl (e _ _ h), fun t nt => k _ p _ _ _ _ (Grow.own e nt) nt (Evl.fresh_back e nt) upd_same (repA_keys _)⟩
  · exact p.elim
def txtKeys : List Key → Option (List Str)
  | [] => some []
  | .inr s :: ks => (txtKeys ks).map (s :: ·)
  | _ => none
theorem txtKeys_eq : ∀ {ks : List Key} {ss : List Str}, txtKeys ks = some ss → ks = ss.map Sum.inr
  | [], ss, h => by cases h; rfl
  | .inl _ :: _, ss, h => by cases h
  | .inr s :: ks, ss, h => by
    simp only [txtKeys] at h
    cases q : txtKeys ks with
    | none => rw [q] at h; cases h
    | some r => rw [q] at h; cases h; rw [txtKeys_eq q]; rfl
theorem txtKeys_map (ss : List Str) : txtKeys (ss.map Sum.inr) = some ss := by
  induction ss with
  | nil => rfl
  | cons s ss ih => simp only [List.map_cons, txtKeys, ih, Option.map_some]
@[irreducible] def φSortD : List D → (List D → Prop) → Prop
  | [.dic ks _], P => match txtKeys ks with
    | some ss => ss.length < 64 ∧ ∀ ys, ys.Perm ss → sortedS ys = true → P (ys.map D.str)
    | none => False
  | _, _ => False
theorem cdSortD : ClD K (fun xs H Q => ∃ (a : Addr) (kvs : List (Key × V)) (ks : List Str), xs = [.ref a] ∧ Rd H a (.dK kvs) ∧ kvs.map (·.1) = ks.map Sum.inr ∧ ks.length < 64 ∧ ∀ ys p, ys.Perm ks → sortedS ys = true → H p = none → Q (.ref p) (upd H p (.lst (ys.map V.str)))) φSortD := fun xs ds G H P Q e r p k => by
  unfold φSortD at p
  split at p
  · split at p
    · rename_i ss hs
      obtain ⟨v, rfl, h⟩ := r.one_inv
      cases h with
      | dic h e1 r1 => exact ⟨_, _, ss, rfl, .inl (e _ _ h), by rw [e1, txtKeys_eq hs], p.1, fun ys t h1 h2 nt => k _ (p.2 ys h1 h2) _ _ _ _ (Grow.own e nt) nt (Evl.fresh_back e nt) upd_same (repA_strs _)⟩
    · exact p.elim
  · exact p.elim
/-- lent for an expression that makes a new list of flat things -/
def wLendL (i : Nat) (f : Fx (List D)) : Fx (List D) := fun env P R => f (letGo env i) (fun ds => ds.all D.flat = true ∧ P ds) (fun _ => False)
theorem flats_rep {G G' : Hp} : ∀ {vs : List V} {ds : List D}, RepA K G vs ds → ds.all D.flat = true → RepA K G' vs ds
  | _, _, .nil, _ => .nil
  | _, _, .cons h r, q => by
    rw [List.all_cons, Bool.and_eq_true] at q
    exact .cons (flat_rep h q.1) (flats_rep r q.2)
theorem pl_lend {f : Fx (List D)} (i : Nat) (h : PL B W X e f) : PL B W X e (wLendL i f) := PE.imp h fun σ H Q ⟨G, env, P, R, rel, hF, hP, hR⟩ => by
  obtain ⟨G1, rel1, k⟩ := rel.lend i
  exact ⟨G1, _, _, _, rel1, hF, fun ds pd q vs G2 H2 g2 n1 n2 h1 rv => by
    refine hP ds pd.2 q vs (fun p => if H p = none then (if p = q then none else G2 p) else G p) H2 ?_ n1 ?_ h1 (flats_rep rv pd.1)
    · refine ⟨?_, g2.h, ?_, ?_⟩
      · intro p o h
        have : H p ≠ none := by rw [rel.gh _ _ h]; simp
        show (if H p = none then _ else G p) = some o
        rw [if_neg this]
        exact h
      · intro p o h
        have h' : (if H p = none then (if p = q then none else G2 p) else G p) = some o := h
        split at h'
        · split at h'
          · cases h'
          · exact g2.gh _ _ h'
        · exact g2.h _ _ (rel.gh _ _ h')
      · intro p h
        show (if H p = none then _ else G p) = G p
        rw [if_neg h]
    · show (if H q = none then (if q = q then none else G2 q) else G q) = none
      rw [if_pos n1, if_pos rfl], fun e q => q.elim⟩

/-! ### truth -/
def truD : D → Option Bool
  | .non => some false
  | .bl b => some b
  | .int i => some (i != 0)
  | .lst ds => some (!ds.isEmpty)
  | .tup ds => some (!ds.isEmpty)
  | .dic ks _ => some (!ks.isEmpty)
  | _ => none
def wTru (fa : Fx D) : Fx Bool := fun env P R => fa env (fun d => match truD d with | some b => P b | none => False) R
theorem emp_len {vs : List V} {ds : List D} {G : Hp} (r : RepA K G vs ds) : (!vs.isEmpty) = !ds.isEmpty := by cases r <;> rfl
theorem pq_tru (ha : PD B W X a fa) (he : ∀ whole, isTrue a X.env whole = (do let v ← whole; standAt a.pos; holding [v] (truthy v)) := by intro _; rfl) : PQ B W X a (wTru fa) :=
  (pt_truth ha he).imp fun σ H Q ⟨G, env, P, R, rel, hF, hP, hR⟩ => ⟨G, env, _, R, rel, hF, fun d pd v G1 H1 g1 rv => by
    cases d <;> first | exact pd.elim | skip
    · cases rv; exact ⟨false, rfl, hP _ pd G1 H1 g1⟩
    · cases rv; exact ⟨_, rfl, hP _ pd G1 H1 g1⟩
    · cases rv; exact ⟨_, rfl, hP _ pd G1 H1 g1⟩
    · obtain ⟨q, xs, rfl, h1, h2⟩ := rv.lst_inv
      exact ⟨_, .inl ⟨xs, SqL.of (g1.gh _ _ h1), rfl⟩, by rw [emp_len h2]; exact hP _ pd G1 H1 g1⟩
    · obtain ⟨q, xs, rfl, h1, h2⟩ := rv.tup_inv
      exact ⟨_, .inr (.inl ⟨xs, ext g1.gh h1, rfl⟩), by rw [emp_len h2]; exact hP _ pd G1 H1 g1⟩
    · cases rv with
      | dic h e r =>
        rename_i kvs
        refine ⟨_, .inr (.inr ⟨kvs, g1.gh _ _ h, rfl⟩), ?_⟩
        have : (!kvs.isEmpty) = !(kvs.map (·.1)).isEmpty := by cases kvs <;> rfl
        rw [this, e]
        exact hP _ pd G1 H1 g1, hR⟩
end
end Pd
set_option maxRecDepth 100000
set_option maxHeartbeats 4000000
/-! several targets; expressions that change one's own; texts -/
namespace Pd
open PySem PySem.Spec PyProof.Rows L2 Pre
section
variable {B : Bs} {W : WX} {X : Cx} {pos p : Pos} {a b c e tg iter : Expr} {fa fb fc : Fx D} {ga : Fx Bool} {es : List Expr} {fas : Fx (List D)} {K : PySem.W.Frag} {f g h : Fs} {st : Stmt} {rest : List Stmt}

/-! ### what a slot is given: a value, or a new thing of one's own -/
def SlNew (K : PySem.W.Frag) (H G' H' : Hp) (v : V) : Sl → Prop
  | .no => False
  | .v d => Rep K G' v d
  | s => ∃ q, v = .ref q ∧ H q = none ∧ G' q = none ∧ OwnAt K G' H' q s
def tSl' (K : PySem.W.Frag) (B : Bs) (W : WX) (F : Fx Sl) : TE := fun σ H Q => ∃ G env P R, Rel K B G σ H env ∧ F env P R ∧ (∀ s, P s → ∀ v G' H', Grow G H G' H' → SlNew K H G' H' v s → Q v H') ∧ ∀ e, R e → ErrTo K G H W σ e
def PSl (B : Bs) (W : WX) (X : Cx) (e : Expr) (F : Fx Sl) : Prop := PE X e (tSl' X.K B W F)
def wSv (fa : Fx D) : Fx Sl := fun env P R => fa env (fun d => P (.v d)) R
def wSl_ (f : Fx (List D)) : Fx Sl := fun env P R => f env (fun d => P (.l d)) R
def wSk (f : Fx (List Key × List D)) : Fx Sl := fun env P R => f env (fun d => P (.k d.1 d.2)) R
theorem psl_v (h : PD B W X e fa) : PSl B W X e (wSv fa) := PE.imp h fun σ H Q ⟨G, env, P, R, rel, hF, hP, hR⟩ => ⟨G, env, _, R, rel, hF, fun d pd v G' H' g r => hP _ pd v G' H' g r, hR⟩
theorem psl_l {f : Fx (List D)} (h : PL B W X e f) : PSl B W X e (wSl_ f) := PE.imp h fun σ H Q ⟨G, env, P, R, rel, hF, hP, hR⟩ => ⟨G, env, _, R, rel, hF, fun d pd q vs G' H' g n1 n2 h1 r => hP _ pd _ G' H' g ⟨q, rfl, n1, n2, vs, h1, r⟩, hR⟩
theorem psl_k {f : Fx (List Key × List D)} (h : PK' B W X e f) : PSl B W X e (wSk f) := PE.imp h fun σ H Q ⟨G, env, P, R, rel, hF, hP, hR⟩ => ⟨G, env, _, R, rel, hF, fun d pd q vs G' H' g n1 n2 h1 e r => hP _ pd _ G' H' g ⟨q, rfl, n1, n2, vs, h1, e, r⟩, hR⟩
theorem SlNew.some {H G' H' : Hp} {v : V} {s : Sl} (h : SlNew K H G' H' v s) : s ≠ .no := by
  rintro rfl
  exact h
theorem SlNew.grow {H G' H' G2 H2 : Hp} {v : V} {s : Sl} (h : SlNew K H G' H' v s) (g : Grow G' H' G2 H2) : SlNew K H G2 H2 v s := by
  cases s with
  | no => exact h
  | v d => exact (show Rep K G' v d from h).ex g.g
  | l ds => obtain ⟨q, e, n1, n2, oa⟩ := h; obtain ⟨o, ho⟩ := oa.some; exact ⟨q, e, n1, (g.nw q (by rw [ho]; simp)).trans n2, oa.mono g.g ((g.h _ _ ho).trans ho.symm)⟩
  | k ks ds => obtain ⟨q, e, n1, n2, oa⟩ := h; obtain ⟨o, ho⟩ := oa.some; exact ⟨q, e, n1, (g.nw q (by rw [ho]; simp)).trans n2, oa.mono g.g ((g.h _ _ ho).trans ho.symm)⟩
  | i q C ns ds => obtain ⟨q, e, n1, n2, oa⟩ := h; obtain ⟨o, ho⟩ := oa.some; exact ⟨q, e, n1, (g.nw q (by rw [ho]; simp)).trans n2, oa.mono g.g ((g.h _ _ ho).trans ho.symm)⟩
/-- the slot is given it -/
theorem Rel.sets {G H G' H' : Hp} {σ : L2.St} {env : En} {v : V} {s : Sl} (rel : Rel K B G' σ H' env) (nb : ∀ q, H q = none → B.H q = none) (fr : ∀ q, H q = none → ∀ (j : Nat) t, env[j]? = some t → t.own = true → σ[j]? ≠ some (some (.ref q))) (h : SlNew K H G' H' v s) (i : Nat) : Rel K B G' (σ.set i (some v)) H' (env.set i s) := by
  cases s with
  | no => exact h.elim
  | v d => exact rel.setv h i
  | l ds => obtain ⟨q, rfl, n1, n2, oa⟩ := h; exact rel.seto oa n2 (nb q n1) (fr q n1) i
  | k ks ds => obtain ⟨q, rfl, n1, n2, oa⟩ := h; exact rel.seto oa n2 (nb q n1) (fr q n1) i
  | i q C ns ds => obtain ⟨q, rfl, n1, n2, oa⟩ := h; exact rel.seto oa n2 (nb q n1) (fr q n1) i
/-- behind a store the younger things are still not held -/
theorem fresh_set {σ : L2.St} {env : En} {i : Nat} {v : V} {s : Sl} (q : Addr) (fr : ∀ (j : Nat) t, env[j]? = some t → t.own = true → σ[j]? ≠ some (some (.ref q))) (nv : s.own = true → v ≠ .ref q) : ∀ (j : Nat) t, (env.set i s)[j]? = some t → t.own = true → (σ.set i (some v))[j]? ≠ some (some (.ref q)) := fun j t h1 h2 h3 => by
  by_cases e : i = j
  · subst e
    have l1 := get_lt h1
    have l2 := get_lt h3
    rw [List.length_set] at l1 l2
    rw [List.getElem?_set_self l1] at h1
    rw [List.getElem?_set_self l2] at h3
    cases h1
    cases h3
    exact nv h2 rfl
  · rw [List.getElem?_set_ne e] at h1 h3
    exact fr j t h1 h2 h3
def wSetS (i : Nat) (fa : Fx Sl) : Fs := fun env P => fa env (fun s => P (.nx (env.set i s))) (fun e => P (.er env e))
theorem pds_setS {i : Nat} {x : Str} {pos' : Pos} {fs : Fx Sl} (hN : X.N.Nodup) (hi : X.N[i]? = some x) (hx : Loc X.env.scope x) (he : PSl B W X a fs) (hs : swapsWith a (some (.Name x pos')) pos.line X.env = pure false := by rfl) (hf : X.fn x = true ∨ X.env.scope.names.lookup x = some .local := by first | exact .inl rfl | exact .inr rfl | assumption) :
    PDs B W X (.Assign [.Name x pos'] a pos) (wSetS i fs) :=
  (ps_set hN hi hx he hs hf).imp fun Dn σ H ⟨G, env, P, rel, hF, ok⟩ => ⟨G, env, _, _, rel, hF, fun s ps v G1 H1 g1 hn => ok.nx _ ps _ G1 H1 g1.g ((rel.grow g1).sets (G := G) (H := H) (fun q n => rel.newB n) (fun q n => rel.fresh n) hn i), ok.err rel⟩
def wPar2 (i j : Nat) (fa fb : Fx Sl) : Fs := fun env P => fa env (fun x => fb env (fun y => P (.nx ((env.set i x).set j y))) (fun e => P (.er env e))) (fun e => P (.er env e))
theorem own_ref {H G' H' : Hp} {v : V} {s : Sl} (h : SlNew K H G' H' v s) (w : s.own = true) : ∃ q o, v = .ref q ∧ H' q = some o := by
  cases s with
  | no => exact h.elim
  | v d => cases w
  | l ds => obtain ⟨q, e, _, _, oa⟩ := h; obtain ⟨o, ho⟩ := oa.some; exact ⟨q, o, e, ho⟩
  | k ks ds => obtain ⟨q, e, _, _, oa⟩ := h; obtain ⟨o, ho⟩ := oa.some; exact ⟨q, o, e, ho⟩
  | i q C ns ds => obtain ⟨q, e, _, _, oa⟩ := h; obtain ⟨o, ho⟩ := oa.some; exact ⟨q, o, e, ho⟩
theorem pds_par2 {i j : Nat} {x y : Str} {px py pt : Pos} {kt k2 pt2} {fs ft : Fx Sl} (hc : X.calm = true) (hN : X.N.Nodup) (hi : X.N[i]? = some x) (hj : X.N[j]? = some y) (hij : i ≠ j)
    (hx : X.env.scope.names.lookup x = some .local) (hy : X.env.scope.names.lookup y = some .local) (ha : PSl B W X a fs) (hb : PSl B W X b ft)
    (hw : swappedStores [.Tuple [.Name x px, .Name y py] kt pt] (.Tuple [a, b] k2 pt2) X.env = pure (some [x, y]))
    (hs : swapsWithSole [.Tuple [.Name x px, .Name y py] kt pt] (.Tuple [a, b] k2 pt2) pos.line X.env = pure false := by rfl)
    (s1 : starEach [a, b] X.env = (false, eval a X.env) :: starEach [b] X.env := by rfl) (s2 : starEach [b] X.env = (false, eval b X.env) :: starEach [] X.env := by rfl) :
    PDs B W X (.Assign [.Tuple [.Name x px, .Name y py] kt pt] (.Tuple [a, b] k2 pt2) pos) (wPar2 i j fs ft) :=
  (ps_par hc hN hi hj hij hx hy (pa_cons ha (pa_cons hb pa_nil s2) s1) hw hs).imp fun Dn σ H ⟨G, env, P, rel, hF, ok⟩ =>
    ⟨G, env, _, _, rel, hF, fun s ps v G1 H1 g1 hn => ⟨G1, env, _, _, rel.grow g1, ps, fun t pt u G2 H2 g2 hm => ⟨v, u, rfl, by
      have rel2 := (rel.grow (g1.trans g2)).sets (G := G) (H := H) (fun q n => rel.newB n) (fun q n => rel.fresh n) (hn.grow g2) i
      refine ok.nx _ pt _ G2 H2 (g1.trans g2).g (rel2.sets (G := G1) (H := H1) (fun q n => (rel.grow g1).newB n) (fun q n => fresh_set q ((rel.grow g1).fresh n) fun w z => ?_) hm j)
      obtain ⟨q', o, e1, e2⟩ := own_ref hn w
      rw [z] at e1
      cases e1
      rw [n] at e2
      cases e2⟩, fun e p => ((ok.err rel) e p).grow g1⟩, ok.err rel⟩
def wPar3 (i j l : Nat) (fa fb fc : Fx Sl) : Fs := fun env P => fa env (fun x => fb env (fun y => fc env (fun z => P (.nx (((env.set i x).set j y).set l z))) (fun e => P (.er env e))) (fun e => P (.er env e))) (fun e => P (.er env e))
theorem pds_par3 {i j l : Nat} {x y z : Str} {px py pz pt : Pos} {kt k2 pt2} {fs ft fu : Fx Sl} (hc : X.calm = true) (hN : X.N.Nodup) (hi : X.N[i]? = some x) (hj : X.N[j]? = some y) (hl : X.N[l]? = some z) (hij : i ≠ j) (hil : i ≠ l) (hjl : j ≠ l)
    (hx : X.env.scope.names.lookup x = some .local) (hy : X.env.scope.names.lookup y = some .local) (hz : X.env.scope.names.lookup z = some .local) (ha : PSl B W X a fs) (hb : PSl B W X b ft) (hc3 : PSl B W X c fu)
    (hw : swappedStores [.Tuple [.Name x px, .Name y py, .Name z pz] kt pt] (.Tuple [a, b, c] k2 pt2) X.env = pure (some [x, y, z]))
    (hs : swapsWithSole [.Tuple [.Name x px, .Name y py, .Name z pz] kt pt] (.Tuple [a, b, c] k2 pt2) pos.line X.env = pure false := by rfl)
    (s1 : starEach [a, b, c] X.env = (false, eval a X.env) :: starEach [b, c] X.env := by rfl) (s2 : starEach [b, c] X.env = (false, eval b X.env) :: starEach [c] X.env := by rfl) (s3 : starEach [c] X.env = (false, eval c X.env) :: starEach [] X.env := by rfl) :
    PDs B W X (.Assign [.Tuple [.Name x px, .Name y py, .Name z pz] kt pt] (.Tuple [a, b, c] k2 pt2) pos) (wPar3 i j l fs ft fu) :=
  (ps_par3 hc hN hi hj hl hij hil hjl hx hy hz (pa_cons ha (pa_cons hb (pa_cons hc3 pa_nil s3) s2) s1) hw hs).imp fun Dn σ H ⟨G, env, P, rel, hF, ok⟩ =>
    ⟨G, env, _, _, rel, hF, fun s ps v G1 H1 g1 hn => ⟨G1, env, _, _, rel.grow g1, ps, fun t pt u G2 H2 g2 hm => ⟨G2, env, _, _, rel.grow (g1.trans g2), pt, fun r pr w G3 H3 g3 hr => ⟨v, u, w, rfl, by
      have g := (g1.trans g2).trans g3
      have rel3 := (rel.grow g).sets (G := G) (H := H) (fun q n => rel.newB n) (fun q n => rel.fresh n) (hn.grow (g2.trans g3)) i
      have key1 : ∀ q, H1 q = none → s.own = true → v ≠ .ref q := fun q n w' z' => by
        obtain ⟨q', o, e1, e2⟩ := own_ref hn w'
        rw [z'] at e1
        cases e1
        rw [n] at e2
        cases e2
      have key2 : ∀ q, H2 q = none → t.own = true → u ≠ .ref q := fun q n w' z' => by
        obtain ⟨q', o, e1, e2⟩ := own_ref hm w'
        rw [z'] at e1
        cases e1
        rw [n] at e2
        cases e2
      have rel4 := rel3.sets (G := G1) (H := H1) (fun q n => (rel.grow g1).newB n) (fun q n => fresh_set q ((rel.grow g1).fresh n) (key1 q n)) (hm.grow g3) j
      exact ok.nx _ pr _ G3 H3 g.g (rel4.sets (G := G2) (H := H2) (fun q n => (rel.grow (g1.trans g2)).newB n) (fun q n => fresh_set q (fresh_set q ((rel.grow (g1.trans g2)).fresh n) (key1 q (Evl.fresh_back g2.h n))) (key2 q n)) hr l)⟩,
      fun e p => ((ok.err rel) e p).grow (g1.trans g2)⟩, fun e p => ((ok.err rel) e p).grow g1⟩, ok.err rel⟩

/-! ### expressions that change one's own lists -/
abbrev Fe := En → (D → En → Prop) → (Err → Prop) → Prop
def tE (K : PySem.W.Frag) (B : Bs) (W : WX) (F : Fe) : TE := fun σ H Q => ∃ G env P R, Rel K B G σ H env ∧ F env P R ∧ (∀ d env', P d env' → ∀ v G' H', Ex G G' → Rel K B G' σ H' env' → Rep K G' v d → Q v H') ∧ ∀ e, R e → ErrTo K G H W σ e
def PDe (B : Bs) (W : WX) (X : Cx) (e : Expr) (F : Fe) : Prop := PE X e (tE X.K B W F)
def wPure (fa : Fx D) : Fe := fun env P R => fa env (fun d => P d env) R
theorem pde_pd (h : PD B W X e fa) : PDe B W X e (wPure fa) := PE.imp h fun σ H Q ⟨G, env, P, R, rel, hF, hP, hR⟩ => ⟨G, env, _, R, rel, hF, fun d pd v G' H' g r => hP _ _ pd v G' H' g.g (rel.grow g) r, hR⟩
/-- xs.pop() -/
@[irreducible] def wPop (i : Nat) : Fe := fun env P _ => match env[i]? with
  | some (.l ds) => match ds[ds.length - 1]? with
    | some d => P d (env.set i (.l ds.dropLast))
    | none => False
  | _ => False
theorem RepA.dropLast {G : Hp} {vs : List V} {ds : List D} (r : RepA K G vs ds) : RepA K G vs.dropLast ds.dropLast := by
  rw [List.dropLast_eq_take, List.dropLast_eq_take, r.len]
  exact r.take _
theorem pde_pop {i : Nat} (h : PE X e (tBM0 X.K "list" rPop (tVar i))) : PDe B W X e (wPop i) := h.imp fun σ H Q ⟨G, env, P, R, rel, hF, hP, hR⟩ => by
  unfold wPop at hF
  split at hF
  · rename_i ds he
    split at hF
    · rename_i d hd
      obtain ⟨q, vs, s1, s2, s3, s4⟩ := get_own rel he
      obtain ⟨v, hv, rv⟩ := s4.get hd
      exact ⟨.ref q, s1, .inl ⟨rfl, vs, SqL.of s3⟩, q, vs, v, rfl, rfl, s3, by rw [s4.len]; exact hv, hP _ _ hF v G _ ex0 (rel.mut he rfl s1 (s' := .l ds.dropLast) ⟨_, upd_same, s4.dropLast⟩) rv⟩
    · exact hF.elim
  · exact hF.elim
/-- xs.pop(k) -/
@[irreducible] def wPopAt (i : Nat) (fa : Fx D) : Fe := fun env P R => match env[i]? with
  | some (.l ds) => fa env (fun x => match x with
    | .int k => (-(2 ^ 63) ≤ k ∧ k < 2 ^ 63) ∧ match seqIndex? k ds.length with
      | some j => match ds[j]? with
        | some d => P d (env.set i (.l (ds.eraseIdx j)))
        | none => False
      | none => False
    | _ => False) R
  | _ => False
theorem RepA.erase {G : Hp} : ∀ {vs : List V} {ds : List D} (j : Nat), RepA K G vs ds → RepA K G (vs.eraseIdx j) (ds.eraseIdx j)
  | _, _, _, .nil => .nil
  | _, _, 0, .cons _ r => r
  | _, _, j + 1, .cons h r => .cons h (r.erase j)
theorem pde_popAt {i : Nat} (h : PE X e (tBM X.K "list" rPopAt (tVar i) (tCons (tP X.K B W fa) tNil))) : PDe B W X e (wPopAt i fa) := h.imp fun σ H Q ⟨G, env, P, R, rel, hF, hP, hR⟩ => by
  unfold wPopAt at hF
  split at hF
  · rename_i ds he
    obtain ⟨q, vs, s1, s2, s3, s4⟩ := get_own rel he
    refine ⟨.ref q, s1, .inl ⟨rfl, vs, SqL.of s3⟩, G, env, _, R, rel, hF, fun x px v G1 H1 g1 rv => ?_, hR⟩
    cases x <;> first | exact px.elim | skip
    cases rv
    obtain ⟨⟨b1, b2⟩, px⟩ := px
    split at px
    · rename_i j hj
      split at px
      · rename_i d hd
        have s4' := s4.ex g1.g
        obtain ⟨u, hu, ru⟩ := s4'.get hd
        exact ⟨q, vs, _, j, u, rfl, rfl, g1.h _ _ s3, b1, b2, by rw [s4.len]; exact hj, hu, hP _ _ px u G1 _ g1.g ((rel.grow g1).mut he rfl s1 (s' := .l (ds.eraseIdx j)) ⟨_, upd_same, s4'.erase j⟩) ru⟩
      · exact px.elim
    · exact px.elim
  · exact hF.elim
/-- an operator whose right side changes things -/
def wOpE (φ : D → D → (D → Prop) → Prop) (fa : Fx D) (fe : Fe) : Fe := fun env P R => fa env (fun x => fe env (fun y env' => φ x y (fun z => P z env')) R) R
theorem tE_of {K : PySem.W.Frag} {fe : Fe} {r : R2} {φ : D → D → (D → Prop) → Prop} (hd : OpD K r φ) {σ : L2.St} {H : Hp} {Q : VK} (h : tE K B W (wOpE φ fa fe) σ H Q) : tOp r (tP K B W fa) (tE K B W fe) σ H Q := by
  obtain ⟨G, env, P, R, rel, hF, hP, hR⟩ := h
  exact ⟨G, env, _, R, rel, hF, fun dx px x G1 H1 g1 rx => ⟨G1, env, _, R, rel.grow g1, px, fun dy env' py y G2 H2 x2 rel2 ry => hd x y dx dy G2 H2 _ Q rel2.gh (rx.ex x2) ry py fun d pd v G3 H3 g3 rv => hP _ _ pd v G3 H3 ((g1.g.trans x2).trans g3.g) (rel2.grow g3) rv, fun e re => (hR e re).grow g1⟩, hR⟩
theorem pde_op {op : Operator} {r : R2} {φ : D → D → (D → Prop) → Prop} {fe : Fe} (ho : OpR X (binaryOp op) r) (hd : OpD X.K r φ) (ha : PD B W X a fa) (hb : PDe B W X b fe) : PDe B W X (.BinOp a op b pos) (wOpE φ fa fe) := (pe_op ho ha hb).imp fun _ _ _ q => tE_of hd q
/-- a subscript of such -/
def wIxE (φ : D → D → (D → Prop) → Prop) (fe : Fe) (fb : Fx D) : Fe := fun env P R => fe env (fun x env' => fb env' (fun y => φ x y (fun z => P z env')) (fun _ => False)) R
theorem pde_ix {r : R2} {φ : D → D → (D → Prop) → Prop} {fe : Fe} (hi : IxR X r) (hd : OpD X.K r φ) (ha : PDe B W X a fe) (hb : PD B W X b fb) (hs : PlainIx b) : PDe B W X (.Subscript a b pos) (wIxE φ fe fb) :=
  (pe_ix hi ha hb hs).imp fun σ H Q ⟨G, env, P, R, rel, hF, hP, hR⟩ => ⟨G, env, _, R, rel, hF, fun dx env' px x G1 H1 x1 rel1 rx => ⟨G1, env', _, _, rel1, px, fun dy py y G2 H2 g2 ry => hd x y dx dy G2 H2 _ Q g2.gh (rx.ex g2.g) ry py fun d pd v G3 H3 g3 rv => hP _ _ pd v G3 H3 (x1.trans (g2.trans g3).g) (rel1.grow (g2.trans g3)) rv, fun e z => z.elim⟩, hR⟩
def wSetE (i : Nat) (fe : Fe) : Fs := fun env P => fe env (fun d env' => P (.nx (env'.set i (.v d)))) (fun e => P (.er env e))
theorem pds_setE {i : Nat} {x : Str} {pos' : Pos} {fe : Fe} (hN : X.N.Nodup) (hi : X.N[i]? = some x) (hx : Loc X.env.scope x) (he : PDe B W X a fe) (hs : swapsWith a (some (.Name x pos')) pos.line X.env = pure false := by rfl) (hf : X.fn x = true ∨ X.env.scope.names.lookup x = some .local := by first | exact .inl rfl | exact .inr rfl | assumption) :
    PDs B W X (.Assign [.Name x pos'] a pos) (wSetE i fe) :=
  (ps_set hN hi hx he hs hf).imp fun Dn σ H ⟨G, env, P, rel, hF, ok⟩ => ⟨G, env, _, _, rel, hF, fun d env' pd v G1 H1 x1 rel1 rv => ok.nx _ pd _ G1 H1 x1 (rel1.setv rv i), ok.err rel⟩
/-- xs.append(e) with such an e -/
def wAppE (i : Nat) (fe : Fe) : Fs := fun env P => (∃ ds, env[i]? = some (.l ds)) ∧ fe env (fun d env' => match env'[i]? with
  | some (.l ds) => ds.length < sizeLine ∧ P (.nx (env'.set i (.l (ds ++ [d]))))
  | _ => False) (fun e => P (.er env e))
theorem pds_appE {i : Nat} {fe : Fe} (h : PS X st (tDrop (tBM X.K "list" rAppend (tVar i) (tCons (tE X.K B W fe) tNil)))) : PDs B W X st (wAppE i fe) := h.imp fun Dn σ H ⟨G, env, P, rel, ⟨⟨ds0, he0⟩, hF⟩, ok⟩ => by
  obtain ⟨q, vs, s1, s2, s3, s4⟩ := get_own rel he0
  refine ⟨.ref q, s1, .inl ⟨rfl, vs, SqL.of s3⟩, G, env, _, _, rel, hF, fun d env' pd v G1 H1 x1 rel1 rv => ?_, ok.err rel⟩
  split at pd
  · rename_i ds he
    obtain ⟨q', ws, t1, t2, t3, t4⟩ := get_own rel1 he
    rw [s1] at t1
    cases t1
    exact ⟨q, ws, v, rfl, rfl, t3, by rw [t4.len]; exact pd.1, ok.nx _ pd.2 _ G1 _ x1 (rel1.mut he rfl s1 (s' := .l (ds ++ [d])) ⟨_, upd_same, t4.app (.one rv)⟩)⟩
  · exact pd.elim

/-! ### texts -/
@[irreducible] def φJoin (x y : D) (P : D → Prop) : Prop := match x, y.items with
  | .str s, some ds => match allS ds with
    | some ys => (ys.map (·.length)).sum + ys.length * s.length ≤ 16777216 ∧ P (.str (Txt.join s ys))
    | none => False
  | _, _ => False
def wJoin (fa fb : Fx D) : Fx D := fun env P R => fa env (fun x => (∃ s, x = .str s) ∧ fb env (fun y => φJoin x y P) R) R
theorem pd_join {e2 : Expr} (h : PE X e2 (tM1 (fun x xs H Q => ∃ a p, ∃ ys : List Str, x = .str a ∧ xs = [.ref p] ∧ (SqL X.K H p (ys.map V.str) ∨ SqT X.K H p (ys.map V.str)) ∧ (ys.map (·.length)).sum + ys.length * a.length ≤ 16777216 ∧ Q (.str (Txt.join a ys)) H) (tP X.K B W fa) (tP X.K B W fb))) : PD B W X e2 (wJoin fa fb) :=
  h.imp fun σ H Q ⟨G, env, P, R, rel, hF, hP, hR⟩ => ⟨G, env, _, R, rel, hF, fun dx px x G1 H1 g1 rx => by
    obtain ⟨⟨s, rfl⟩, px⟩ := px
    cases rx
    refine ⟨⟨_, rfl⟩, G1, env, _, R, rel.grow g1, px, fun dy py y G2 H2 g2 ry => ?_, fun e re => (hR e re).grow g1⟩
    unfold φJoin at py
    split at py
    · rename_i s' ds e1 hd
      cases e1
      split at py
      · rename_i ys hy
        obtain ⟨q, vs, rfl, hs, rs⟩ := items_inv ry hd
        rw [allS_eq hy] at rs
        rw [rs.strs] at hs
        exact ⟨_, q, ys, rfl, rfl, sq_ex g2.gh hs, py.1, hP _ py.2 _ G2 H2 (g1.trans g2) (.str _)⟩
      · exact py.elim
    · exact py.elim, hR⟩
def repT (x : Str) (n : Int) : Str := if n < 1 then Str.empty else if n = 1 ∨ x.length = 0 then x else Lg.repS x n.toNat
theorem op_repT : OpR X (binaryOp .Mult) (fun x y H Q => ∃ (a : Str) (n : Int), x = .str a ∧ y = .int n ∧ -5000 ≤ n ∧ n ≤ 100000 ∧ a.length ≤ 160 ∧ Q (.str (repT a n)) H) := by
  intro pins s σ H x y v u Q I rx ry h
  obtain ⟨a, n, rfl, rfl, n2, n5, a2, q⟩ := h
  obtain ⟨t, rfl⟩ := rx
  obtain ⟨t2, rfl⟩ := ry
  refine PySem.P.mul_str (by rw [Bool.or_eq_false_iff]; exact ⟨decide_eq_false (by omega), decide_eq_false (by omega)⟩) (fun h1 h2 => ?_) (fun h1 h2 => ?_) ?_
  · have : (160 : Int) ≤ (2 ^ 63 - 1) / n := by
      refine (Int.le_ediv_iff_mul_le (by omega)).mpr ?_
      omega
    omega
  · have le : a.length * n.toNat ≤ 16000000 := Nat.le_trans (Nat.mul_le_mul a2 (show n.toNat ≤ 100000 by omega)) (by decide)
    exact decide_eq_false (by rw [sizeLine_eq]; omega)
  · unfold repT at q
    by_cases h1 : n < 1
    · rw [if_pos h1] at q ⊢
      exact ⟨by decide, .str _, H, I.tok _, ⟨_, rfl⟩, q⟩
    · rw [if_neg h1] at q ⊢
      by_cases h2 : n = 1 ∨ a.length = 0
      · have hb : (n == 1 || a.length == 0) = true := by
          rcases h2 with h2 | h2
          · rw [h2]; rfl
          · simp [h2]
        rw [if_pos h2] at q
        rw [if_pos hb]
        exact ⟨.str _, H, I, ⟨_, rfl⟩, q⟩
      · have hb : ¬ (n == 1 || a.length == 0) = true := by
          rw [not_or] at h2
          simp [h2.1, h2.2]
        rw [if_neg h2] at q
        rw [if_neg hb]
        have le : a.length * n.toNat ≤ 16000000 := Nat.le_trans (Nat.mul_le_mul a2 (show n.toNat ≤ 100000 by omega)) (by decide)
        exact ⟨by show (Lg.repS a n.toNat).length ≤ sizeLine; rw [Lg.repS_len, sizeLine_eq]; omega, .str (Lg.repS a n.toNat), H, I.tok _, ⟨_, rfl⟩, q⟩
def φRepT : D → D → (D → Prop) → Prop
  | .str a, .int n, P => (-5000 ≤ n ∧ n ≤ 100000 ∧ a.length ≤ 160) ∧ P (.str (repT a n))
  | _, _, _ => False
theorem odRepT : OpD K (fun x y H Q => ∃ (a : Str) (n : Int), x = .str a ∧ y = .int n ∧ -5000 ≤ n ∧ n ≤ 100000 ∧ a.length ≤ 160 ∧ Q (.str (repT a n)) H) φRepT := fun x y dx dy G H P Q e rx ry p k => by
  cases dx <;> first | exact p.elim | skip
  cases dy <;> first | exact p.elim | skip
  cases rx
  cases ry
  exact ⟨_, _, rfl, rfl, p.1.1, p.1.2.1, p.1.2.2, k _ p.2 _ G H (Grow.refl e) (.str _)⟩
end
end Pd
set_option maxRecDepth 100000
set_option maxHeartbeats 4000000
/-! operators for all kinds at once; a new list hidden; walks over lists, tuples, texts -/
namespace Pd
open PySem PySem.Spec PyProof.Rows L2 Pre

def rOr (r r' : R2) : R2 := fun x y H Q => r x y H Q ∨ r' x y H Q
theorem opOr {X : Cx} {f : Value → Value → Sem Value} {r r' : R2} (h : OpR X f r) (h' : OpR X f r') : OpR X f (rOr r r') := fun pins s σ H x y v u Q I rx ry q => q.elim (h pins s σ H x y v u Q I rx ry) (h' pins s σ H x y v u Q I rx ry)
section
variable {K : PySem.W.Frag}
abbrev Φ2 := D → D → (D → Prop) → Prop
theorem odOr {r r' : R2} {φ φ' ψ : Φ2} (h : OpD K r φ) (h' : OpD K r' φ') (k : ∀ x y P, ψ x y P → φ x y P ∨ φ' x y P) : OpD K (rOr r r') ψ := fun x y dx dy G H P Q e rx ry p kk => (k _ _ _ p).elim (fun p => .inl (h x y dx dy G H P Q e rx ry p kk)) fun p => .inr (h' x y dx dy G H P Q e rx ry p kk)
/-! ### + -/
def φCatV : Φ2
  | .lst a, .lst b, P => a.length + b.length ≤ sizeLine ∧ P (.lst (a ++ b))
  | _, _, _ => False
theorem odCatV : OpD K rCat φCatV := fun x y dx dy G H P Q e rx ry p k => by
  cases dx <;> first | exact p.elim | skip
  cases dy <;> first | exact p.elim | skip
  obtain ⟨a, xs, rfl, hx, rx⟩ := rx.lst_inv
  obtain ⟨b, ys, rfl, hy, ry⟩ := ry.lst_inv
  exact ⟨a, b, xs, ys, rfl, rfl, e _ _ hx, e _ _ hy, by rw [rx.len, ry.len]; exact p.1, fun t nt => k _ p.2 _ _ _ (Grow.new e nt) (.lst upd_same ((rx.app ry).ex (exn (Evl.fresh_back e nt))))⟩
def φAdd : Φ2
  | .int i, .int j, P => P (.int (i + j))
  | .str i, .str j, P => i.length + j.length ≤ sizeLine ∧ P (.str (i ++ j))
  | .tup a, .tup b, P => a.length + b.length ≤ sizeLine ∧ P (.tup (a ++ b))
  | .lst a, .lst b, P => a.length + b.length ≤ sizeLine ∧ P (.lst (a ++ b))
  | _, _, _ => False
def rAddU (K : PySem.W.Frag) : R2 := rOr (rI0 fun i j => .int (i + j)) (rOr (fun x y H Q => ∃ i j, x = .str i ∧ y = .str j ∧ i.length + j.length ≤ sizeLine ∧ Q (.str (i ++ j)) H) (rOr (rCatA K) rCat))
theorem op_addU {X : Cx} : OpR X (binaryOp .Add) (rAddU X.K) := opOr op_add (opOr op_add_str (opOr op_catA op_cat))
theorem odAddU : OpD K (rAddU K) φAdd := by
  refine odOr (φ := φI0 fun i j => .int (i + j)) (φ' := fun x y P => φAddS x y P ∨ φCatT x y P ∨ φCatV x y P) odI0 (odOr (φ' := fun x y P => φCatT x y P ∨ φCatV x y P) odAddS (odOr odCatT odCatV fun x y P h => h) fun x y P h => h) ?_
  intro x y P p
  cases x <;> first | exact p.elim | skip
  all_goals cases y <;> first | exact p.elim | skip
  · exact .inl p
  · exact .inr (.inl p)
  · exact .inr (.inr (.inr p))
  · exact .inr (.inr (.inl p))
/-! ### * -/
def φRepL : Φ2
  | .lst a, .int k, P => (-(2 ^ 63) ≤ k ∧ k < 2 ^ 63 ∧ a.length * k.toNat ≤ sizeLine) ∧ P (.lst (List.replicate k.toNat a).flatten)
  | _, _, _ => False
theorem repA_rep {G : Hp} {xs : List V} {ds : List D} (r : RepA K G xs ds) : ∀ n : Nat, RepA K G (List.replicate n xs).flatten (List.replicate n ds).flatten
  | 0 => .nil
  | n + 1 => by
    rw [List.replicate_succ, List.replicate_succ, List.flatten_cons, List.flatten_cons]
    exact r.app (repA_rep r n)
theorem odRepL : OpD K rRep φRepL := fun x y dx dy G H P Q e rx ry p k => by
  cases dx <;> first | exact p.elim | skip
  cases dy <;> first | exact p.elim | skip
  obtain ⟨a, xs, rfl, hx, rx⟩ := rx.lst_inv
  cases ry
  exact ⟨a, _, xs, rfl, rfl, e _ _ hx, p.1.1, p.1.2.1, by rw [rx.len]; exact p.1.2.2, fun t nt => k _ p.2 _ _ _ (Grow.new e nt) (.lst upd_same ((repA_rep rx _).ex (exn (Evl.fresh_back e nt))))⟩
theorem op_repI {X : Cx} : OpR X (binaryOp .Mult) (fun x y H Q => ∃ (a : Str) (n : Int), x = .int n ∧ y = .str a ∧ -5000 ≤ n ∧ n ≤ 100000 ∧ a.length ≤ 160 ∧ Q (.str (repT a n)) H) := by
  intro pins s σ H x y v u Q I rx ry h
  obtain ⟨a, n, rfl, rfl, n2, n5, a2, q⟩ := h
  obtain ⟨t, rfl⟩ := rx
  obtain ⟨t2, rfl⟩ := ry
  refine mul_int_str (by rw [Bool.or_eq_false_iff]; exact ⟨decide_eq_false (by omega), decide_eq_false (by omega)⟩) (fun h1 h2 => ?_) (fun h1 h2 => ?_) ?_
  · have : (160 : Int) ≤ (2 ^ 63 - 1) / n := by
      refine (Int.le_ediv_iff_mul_le (by omega)).mpr ?_
      omega
    omega
  · have le : a.length * n.toNat ≤ 16000000 := Nat.le_trans (Nat.mul_le_mul a2 (show n.toNat ≤ 100000 by omega)) (by decide)
    exact decide_eq_false (by rw [sizeLine_eq]; omega)
  · unfold repT at q
    by_cases h1 : n < 1
    · rw [if_pos h1] at q ⊢
      exact ⟨by decide, .str _, H, I.tok _, ⟨_, rfl⟩, q⟩
    · rw [if_neg h1] at q ⊢
      by_cases h2 : n = 1 ∨ a.length = 0
      · have hb : (n == 1 || a.length == 0) = true := by
          rcases h2 with h2 | h2
          · rw [h2]; rfl
          · simp [h2]
        rw [if_pos h2] at q
        rw [if_pos hb]
        exact ⟨.str _, H, I, ⟨_, rfl⟩, q⟩
      · have hb : ¬ (n == 1 || a.length == 0) = true := by
          rw [not_or] at h2
          simp [h2.1, h2.2]
        rw [if_neg h2] at q
        rw [if_neg hb]
        have le : a.length * n.toNat ≤ 16000000 := Nat.le_trans (Nat.mul_le_mul a2 (show n.toNat ≤ 100000 by omega)) (by decide)
        exact ⟨by show (Lg.repS a n.toNat).length ≤ sizeLine; rw [Lg.repS_len, sizeLine_eq]; omega, .str (Lg.repS a n.toNat), H, I.tok _, ⟨_, rfl⟩, q⟩
def φRepI : Φ2
  | .int n, .str a, P => (-5000 ≤ n ∧ n ≤ 100000 ∧ a.length ≤ 160) ∧ P (.str (repT a n))
  | _, _, _ => False
theorem odRepI : OpD K (fun x y H Q => ∃ (a : Str) (n : Int), x = .int n ∧ y = .str a ∧ -5000 ≤ n ∧ n ≤ 100000 ∧ a.length ≤ 160 ∧ Q (.str (repT a n)) H) φRepI := fun x y dx dy G H P Q e rx ry p k => by
  cases dx <;> first | exact p.elim | skip
  cases dy <;> first | exact p.elim | skip
  cases rx
  cases ry
  exact ⟨_, _, rfl, rfl, p.1.1, p.1.2.1, p.1.2.2, k _ p.2 _ G H (Grow.refl e) (.str _)⟩
def φMul : Φ2
  | .int i, .int j, P => CMulW i j ∧ P (.int (i * j))
  | .str a, .int n, P => (-5000 ≤ n ∧ n ≤ 100000 ∧ a.length ≤ 160) ∧ P (.str (repT a n))
  | .int n, .str a, P => (-5000 ≤ n ∧ n ≤ 100000 ∧ a.length ≤ 160) ∧ P (.str (repT a n))
  | .lst a, .int k, P => (-(2 ^ 63) ≤ k ∧ k < 2 ^ 63 ∧ a.length * k.toNat ≤ sizeLine) ∧ P (.lst (List.replicate k.toNat a).flatten)
  | _, _, _ => False
def rMulU : R2 := rOr (rI CMulW fun i j => .int (i * j)) (rOr (fun x y H Q => ∃ (a : Str) (n : Int), x = .str a ∧ y = .int n ∧ -5000 ≤ n ∧ n ≤ 100000 ∧ a.length ≤ 160 ∧ Q (.str (repT a n)) H) (rOr (fun x y H Q => ∃ (a : Str) (n : Int), x = .int n ∧ y = .str a ∧ -5000 ≤ n ∧ n ≤ 100000 ∧ a.length ≤ 160 ∧ Q (.str (repT a n)) H) rRep))
theorem op_mulU {X : Cx} : OpR X (binaryOp .Mult) rMulU := opOr op_mulW (opOr op_repT (opOr op_repI op_rep))
theorem odMulU : OpD K rMulU φMul := by
  refine odOr (φ := φI CMulW fun i j => .int (i * j)) (φ' := fun x y P => φRepT x y P ∨ φRepI x y P ∨ φRepL x y P) odI (odOr (φ' := fun x y P => φRepI x y P ∨ φRepL x y P) odRepT (odOr odRepI odRepL fun x y P h => h) fun x y P h => h) ?_
  intro x y P p
  cases x <;> first | exact p.elim | skip
  all_goals cases y <;> first | exact p.elim | skip
  · exact .inl p
  · exact .inr (.inr (.inl p))
  · exact .inr (.inl p)
  · exact .inr (.inr (.inr p))
def φSub : Φ2 := φI0 fun i j => .int (i - j)
def φFdv : Φ2 := φI CDivG fun i j => .int (i.fdiv j)
def φMod : Φ2 := φI (fun _ j => j ≠ 0) fun i j => .int (i.fmod j)
def φPow : Φ2 := φI CPow fun i j => .int (i ^ j.toNat)
theorem odSubU : OpD K (rI0 fun i j => .int (i - j)) φSub := odI0
theorem odFdvU : OpD K (rI CDivG fun i j => .int (i.fdiv j)) φFdv := odI
theorem odModU : OpD K (rI (fun _ j => j ≠ 0) fun i j => .int (i.fmod j)) φMod := odI
theorem odPowU : OpD K (rI CPow fun i j => .int (i ^ j.toNat)) φPow := odI
/-! ### order -/
def φOrd (gi : Int → Int → Bool) (gs : Str → Str → Bool) (neg swap : Bool) : Φ2
  | .int i, .int j, P => P (.bl (gi i j))
  | .str i, .str j, P => P (.bl (gs i j))
  | x, y, P => φLtD neg swap x y P
def sLt (i j : Str) : Bool := decide (i.cps.toList < j.cps.toList)
def rOrd (K : PySem.W.Frag) (gi : Int → Int → Bool) (gs : Str → Str → Bool) (neg swap : Bool) : R2 := rOr (rI0 fun i j => .bl (gi i j)) (rOr (fun x y H Q => ∃ i j, x = .str i ∧ y = .str j ∧ Q (.bl (gs i j)) H) (rLtD K neg swap))
theorem odOrd {gi : Int → Int → Bool} {gs : Str → Str → Bool} {neg swap : Bool} : OpD K (rOrd K gi gs neg swap) (φOrd gi gs neg swap) := by
  refine odOr (φ := φI0 fun i j => .bl (gi i j)) (φ' := fun x y P => φSS gs x y P ∨ φLtD neg swap x y P) odB0 (odOr odSS odLtD fun x y P h => h) ?_
  intro x y P p
  unfold φOrd at p
  split at p
  · exact .inl p
  · exact .inr (.inl p)
  · exact .inr (.inr p)
theorem op_ltU {X : Cx} (hu : X.A.units + 64 < cLine) : OpR X (compareOp .Lt) (rOrd X.K (fun i j => decide (i < j)) sLt false false) := opOr op_lt (opOr op_lt_str (op_ltData hu))
theorem op_leU {X : Cx} (hu : X.A.units + 64 < cLine) : OpR X (compareOp .LtE) (rOrd X.K (fun i j => decide (i ≤ j)) (fun i j => !sLt j i) true true) := opOr op_le (opOr op_le_str (op_leData hu))
theorem op_gtU {X : Cx} (hu : X.A.units + 64 < cLine) : OpR X (compareOp .Gt) (rOrd X.K (fun i j => decide (j < i)) (fun i j => sLt j i) false true) := opOr op_gt (opOr op_gt_str (op_gtData hu))
theorem op_geU {X : Cx} (hu : X.A.units + 64 < cLine) : OpR X (compareOp .GtE) (rOrd X.K (fun i j => decide (j ≤ i)) (fun i j => !sLt i j) true false) := opOr op_ge (opOr op_ge_str (op_geData hu))
abbrev φLtU : Φ2 := φOrd (fun i j => decide (i < j)) sLt false false
abbrev φLeU : Φ2 := φOrd (fun i j => decide (i ≤ j)) (fun i j => !sLt j i) true true
abbrev φGtU : Φ2 := φOrd (fun i j => decide (j < i)) (fun i j => sLt j i) false true
abbrev φGeU : Φ2 := φOrd (fun i j => decide (j ≤ i)) (fun i j => !sLt i j) true false
/-! ### ==, in -/
@[irreducible] def φEqU (neg : Bool) : Φ2 := fun x y P => match scalD x y with
  | true => P (.bl (if neg then !flatEq x y else flatEq x y))
  | false => φEqD neg x y P
theorem odEqU : OpD K (rOr rEq (rEqD K)) (φEqU false) := odOr odEq odEqD fun x y P h => by
  unfold φEqU at h
  split at h
  · rename_i hs
    exact .inl ⟨hs, h⟩
  · exact .inr h
theorem odNeU : OpD K (rOr rNe (rNeD K)) (φEqU true) := odOr odNe odNeD fun x y P h => by
  unfold φEqU at h
  split at h
  · rename_i hs
    exact .inl ⟨hs, h⟩
  · exact .inr h
theorem op_eqU {X : Cx} (hu : X.A.units + 64 < cLine) : OpR X (compareOp .Eq) (rOr rEq (rEqD X.K)) := opOr op_eq (op_eqD hu)
theorem op_neU {X : Cx} (hu : X.A.units + 64 < cLine) : OpR X (compareOp .NotEq) (rOr rNe (rNeD X.K)) := opOr op_ne (op_neD hu)
def φInD (neg : Bool) (x y : D) (P : D → Prop) : Prop := match toPy x, toPy y with
  | some p, some (.list ps) => SeqAt.shaped p = true ∧ SeqAt.shaped (.list ps) = true ∧ P (.bl (if neg then !(ps.any fun z => PyData.eqv z p) else ps.any fun z => PyData.eqv z p))
  | _, _ => False
theorem odInD : OpD K (rInD K) (φInD false) := fun x y dx dy G H P Q e rx ry p k => by
  unfold φInD at p
  split at p
  · rename_i a b h1 h2
    exact ⟨a, b, dp_ex e (rx.dp h1), dp_ex e (ry.dp h2), p.1, p.2.1, k _ p.2.2 _ G H (Grow.refl e) (.bl _)⟩
  · exact p.elim
theorem odNotInD : OpD K (rNotInD K) (φInD true) := fun x y dx dy G H P Q e rx ry p k => by
  unfold φInD at p
  split at p
  · rename_i a b h1 h2
    exact ⟨a, b, dp_ex e (rx.dp h1), dp_ex e (ry.dp h2), p.1, p.2.1, k _ p.2.2 _ G H (Grow.refl e) (.bl _)⟩
  · exact p.elim
@[irreducible] def φInU (neg : Bool) : Φ2 := fun x y P => match y with
  | .str t => φInS neg x (.str t) P
  | y => match x.flat with
    | true => φIn neg x y P
    | false => φInD neg x y P
theorem odInU : OpD K (rOr (fun x y H Q => ∃ (c : Nat) (z : Str), x = .str ⟨#[c]⟩ ∧ y = .str z ∧ Q (.bl (decide (c ∈ z.cps.toList))) H) (rOr (rIn K false) (rInD K))) (φInU false) := by
  refine odOr (φ' := fun x y P => φIn false x y P ∨ φInD false x y P) odInS (odOr odIn odInD fun x y P h => h) fun x y P h => ?_
  unfold φInU at h
  split at h
  · exact .inl h
  · split at h
    · exact .inr (.inl h)
    · exact .inr (.inr h)
theorem odNotInU : OpD K (rOr (fun x y H Q => ∃ (c : Nat) (z : Str), x = .str ⟨#[c]⟩ ∧ y = .str z ∧ Q (.bl (!decide (c ∈ z.cps.toList))) H) (rOr (rIn K true) (rNotInD K))) (φInU true) := by
  refine odOr (φ' := fun x y P => φIn true x y P ∨ φInD true x y P) odNotInS (odOr odIn odNotInD fun x y P h => h) fun x y P h => ?_
  unfold φInU at h
  split at h
  · exact .inl h
  · split at h
    · exact .inr (.inl h)
    · exact .inr (.inr h)
theorem op_inU {X : Cx} (hu : X.A.units + 65 < cLine) : OpR X (compareOp .In) (rOr (fun x y H Q => ∃ (c : Nat) (z : Str), x = .str ⟨#[c]⟩ ∧ y = .str z ∧ Q (.bl (decide (c ∈ z.cps.toList))) H) (rOr (rIn X.K false) (rInD X.K))) := opOr op_in_sign (opOr op_in_seq (op_inD hu))
theorem op_notInU {X : Cx} (hu : X.A.units + 65 < cLine) : OpR X (compareOp .NotIn) (rOr (fun x y H Q => ∃ (c : Nat) (z : Str), x = .str ⟨#[c]⟩ ∧ y = .str z ∧ Q (.bl (!decide (c ∈ z.cps.toList))) H) (rOr (rIn X.K true) (rNotInD X.K))) := opOr op_notIn_sign (opOr op_notIn_seq (op_notInD hu))
/-! ### subscripts, slices -/
theorem ixOr {X : Cx} {r r' : R2} (h : IxR X r) (h' : IxR X r') : IxR X (rOr r r') := by
  intro value slice pins s σ H x y v u Q I rx ry q hs
  exact q.elim (fun q => h value slice pins s σ H x y v u Q I rx ry q hs) fun q => h' value slice pins s σ H x y v u Q I rx ry q hs
@[irreducible] def φIxU : Φ2 := fun x y P => match x with
  | .str s => φIxS (.str s) y P
  | x => φIx x y P
theorem odIxU : OpD K (rOr (rIx K) rIxS) φIxU := odOr odIx odIxS fun x y P h => by
  unfold φIxU at h
  split at h
  · exact .inr h
  · exact .inl h
theorem ix_U {X : Cx} : IxR X (rOr (rIx X.K) rIxS) := ixOr ix_seq ix_str
abbrev RS := V → Option Int → Option Int → Hp → VK → Prop
abbrev ΦS := D → Option Int → Option Int → (D → Prop) → Prop
def rOrS (r r' : RS) : RS := fun x l u H Q => r x l u H Q ∨ r' x l u H Q
theorem slOr {X : Cx} {r r' : RS} (h : L2.SlR X r) (h' : L2.SlR X r') : L2.SlR X (rOrS r r') := h.or h'
theorem sdOr {r r' : RS} {φ φ' ψ : ΦS} (h : SlD K r φ) (h' : SlD K r' φ') (k : ∀ x l u P, ψ x l u P → φ x l u P ∨ φ' x l u P) : SlD K (rOrS r r') ψ := fun x dx l u G H P Q e rx p kk => (k _ _ _ _ p).elim (fun p => .inl (h x dx l u G H P Q e rx p kk)) fun p => .inr (h' x dx l u G H P Q e rx p kk)
def φSlL : ΦS
  | .lst ds, l, u, P => P (.lst (cutD ds l u))
  | _, _, _, _ => False
theorem sdL : SlD K (rSlL K) φSlL := fun x dx l u G H P Q e rx p k => by
  cases dx <;> first | exact p.elim | skip
  obtain ⟨a, xs, rfl, hs, rs⟩ := rx.lst_inv
  exact ⟨a, xs, rfl, SqL.of (e _ _ hs), fun t nt => k _ p _ _ _ (Grow.new e nt) (.lst upd_same (rs.cut.ex (exn (Evl.fresh_back e nt))))⟩
def φSlU : ΦS
  | .lst ds, l, u, P => P (.lst (cutD ds l u))
  | .tup ds, l, u, P => P (.tup (cutD ds l u))
  | .str z, l, u, P => z.length ≤ sizeLine ∧ P (.str (cutS z l u))
  | _, _, _, _ => False
theorem sdU : SlD K (rOrS (rSlA K) (rOrS rSlS (rSlL K))) φSlU := by
  refine sdOr (φ' := fun x l u P => φSlS x l u P ∨ φSlL x l u P) sdT (sdOr sdS sdL fun x l u P h => h) fun x l u P p => ?_
  cases x <;> first | exact p.elim | skip
  · exact .inr (.inl p)
  · exact .inr (.inr p)
  · exact .inl p
theorem sl_U {X : Cx} : L2.SlR X (rOrS (rSlA X.K) (rOrS rSlS (rSlL X.K))) := slOr sl_tupA (slOr sl_str sl_list)

/-! ### walks over lists, tuples, texts -/
def iAny3 (K : PySem.W.Frag) (tl : TE) : TI := fun σ H R => tl σ H fun x H1 => (∃ a, x = .ref a ∧ (((∃ xs, SqL K H1 a xs) ∧ R (Itl K a) H1) ∨ ((∃ xs, SqT K H1 a xs) ∧ R (Itt K a) H1))) ∨ ∃ z, x = .str z ∧ R (Its z) H1
/-- a value that is told is read: what a walk's head makes of it -/
theorem pi_any3 {X : Cx} {tg l : Expr} {tl : TE} (hl : PE X l tl) : PI X tg l (iAny3 X.K tl) := by
  refine ⟨fun pins s σ H R I h => ?_⟩
  refine thn (hl.run pins s σ H _ I h) fun v s1 ⟨x, H1, I1, r1, q1⟩ => ?_
  rcases q1 with ⟨a, e, q⟩ | ⟨z, ez, q⟩
  · subst e
    cases r1
    rcases q with ⟨⟨xs, hq⟩, q⟩ | ⟨⟨xs, hq⟩, q⟩
    · obtain ⟨its, rv, p, hz⟩ := I1.list hq
      refine wpAny_pyIter_list p.isList ?_
      refine ⟨s1.heap.objs.size, [s1.heap.objs.size], _, _, H1, rfl, I1.kept (t' := s1.toks) fun b o e => Heap.get?_push_of_some _ e, turn_list a _, ⟨_, Heap.get?_push_size _ rfl, rfl, rfl⟩, fun b hb => ?_, q⟩
      have e : b = s1.heap.objs.size := by simpa using hb
      subst e
      exact I1.fpOk (Nat.le_refl _) (I1.hok.fresh (Nat.le_refl _))
    · obtain ⟨its, rv, p, hz⟩ := I1.tuple hq
      refine wpAny_pyIter_tuple (show s1.heap.IsTuple a its.toArray from p) ?_
      refine ⟨s1.heap.objs.size, [s1.heap.objs.size], _, _, H1, rfl, I1.kept (t' := s1.toks) fun b o e => Heap.get?_push_of_some _ e, turn_tuple a _, ⟨_, Heap.get?_push_size _ rfl, rfl, rfl⟩, fun b hb => ?_, q⟩
      have e : b = s1.heap.objs.size := by simpa using hb
      subst e
      exact I1.fpOk (Nat.le_refl _) (I1.hok.fresh (Nat.le_refl _))
  · subst ez
    obtain ⟨t, rfl⟩ := r1
    cases ha : z.cps.all (· < 128)
    · exact wpAny_pyIter_wide ha (pi_one (tk := s1.toks) I1 _ (turn_str _ z t "str_iterator" (.inr rfl)) ⟨_, Heap.get?_push_size _ rfl, rfl, rfl⟩ q)
    · exact wpAny_pyIter_ascii ha (pi_one (tk := s1.toks) I1 _ (turn_str _ z t "str_ascii_iterator" (.inl rfl)) ⟨_, Heap.get?_push_size _ rfl, rfl, rfl⟩ q)
variable {B : Bs} {W : WX} {X : Cx} {pos p : Pos} {a b c e tg iter : Expr} {fa fb fc : Fx D}
def D.walk : D → Option (List D)
  | .lst ds => some ds
  | .tup ds => some ds
  | .str z => some (signs z)
  | _ => none
def wWalk (fa : Fx D) : Fx (List D) := fun env P R => fa env (fun d => match d.walk with | some ds => P ds | none => False) R
theorem pdi_walk (h : PD B W X iter fa) : PDI B W X tg iter (wWalk fa) :=
  (pi_any3 h).imp fun σ H R ⟨G, env, P, Re, rel, hF, hP, hR⟩ => ⟨G, env, _, Re, rel, hF, fun d pd v G1 H1 g1 rv => by
    cases d <;> first | exact pd.elim | skip
    · exact .inr ⟨_, rv.str_inv, hP _ pd _ G1 H1 g1 it_str⟩
    · obtain ⟨q, xs, rfl, h, r⟩ := rv.lst_inv
      exact .inl ⟨q, rfl, .inl ⟨⟨xs, SqL.of (g1.gh _ _ h)⟩, hP _ pd _ G1 H1 g1 (it_list (SqL.of h) r)⟩⟩
    · obtain ⟨q, xs, rfl, h, r⟩ := rv.tup_inv
      exact .inl ⟨q, rfl, .inr ⟨⟨xs, ext g1.gh h⟩, hP _ pd _ G1 H1 g1 (it_tup h r)⟩⟩, hR⟩
/-! ### a new list that is hidden -/
def wHid (φ : List V → Prop) (f : Fx (List D)) : Fx D := fun env P R => f env (fun ds => (∀ (K : PySem.W.Frag) (G : Hp) vs, RepA K G vs ds → φ vs) ∧ P (.hid φ)) R
theorem pd_hid {φ : List V → Prop} {f : Fx (List D)} (h : PL B W X e f) : PD B W X e (wHid φ f) :=
  (Pre.pe_close h).imp fun σ H Q ⟨G, env, P, R, rel, hF, hP, hR⟩ => ⟨G, env, _, R, rel, hF, fun ds pd q vs G1 H1 g1 n1 n2 h1 rv => by
    refine ⟨q, φ, vs, h1, pd.1 _ _ _ rv, hP _ pd.2 _ (upd G1 q (LstX q φ)) _ ⟨g1.g.trans (exn n2), g1.h.mut n1, fun a u k => ?_, fun r hr => ?_⟩ (.hid upd_same)⟩
    · by_cases z : a = q
      · subst z
        rw [upd_same] at k ⊢
        exact k
      · rw [upd_ne z] at k ⊢
        exact g1.gh _ _ k
    · rw [upd_ne (fun z => hr (by rw [z]; exact n1))]
      exact g1.nw r hr, hR⟩
end
end Pd
set_option maxRecDepth 100000
set_option maxHeartbeats 4000000
/-! comprehensions of two clauses; dict(pairs); fields of several classes -/
namespace Pd
open PySem PySem.Spec PyProof.Rows L2 Pre
section
variable {B : Bs} {W : WX} {X : Cx} {pos p : Pos} {a b c e tg iter : Expr} {fa fb fc : Fx D} {ga : Fx Bool} {es : List Expr} {fas : Fx (List D)} {K : PySem.W.Frag}
def nE : Err → Prop := fun _ => False
/-- a target that stores values at these slots alone -/
def TgOk (vs : List Nat) (s : Tg) : Prop := ∀ d env e, s d env = some e → (∀ i, i ∉ vs → e[i]? = env[i]?) ∧ ((∀ i ∈ vs, ∀ t, env[i]? = some t → t.own = false) → ∀ i ∈ vs, ∀ t, e[i]? = some t → t.own = false)
def TgsOk (vs : List Nat) (s : Tgs) : Prop := ∀ d env e, s d env = some e → (∀ i, i ∉ vs → e[i]? = env[i]?) ∧ ((∀ i ∈ vs, ∀ t, env[i]? = some t → t.own = false) → ∀ i ∈ vs, ∀ t, e[i]? = some t → t.own = false)
theorem tgok_name {vs : List Nat} {i : Nat} (h : i ∈ vs := by decide) : TgOk vs (sName i) := fun d env e he => by
  cases he
  refine ⟨fun j hj => List.getElem?_set_ne (fun z : i = j => hj (by rw [← z]; exact h)), fun ho j hj t ht => ?_⟩
  by_cases z : i = j
  · subst z
    have l := get_lt ht
    rw [List.length_set] at l
    rw [List.getElem?_set_self l] at ht
    cases ht
    rfl
  · rw [List.getElem?_set_ne z] at ht
    exact ho j hj t ht
theorem tgsok_nil {vs : List Nat} : TgsOk vs sNil := fun ds env e he => by
  cases ds <;> cases he
  exact ⟨fun _ _ => rfl, fun h => h⟩
theorem tgsok_cons {vs : List Nat} {s : Tg} {t : Tgs} (h1 : TgOk vs s) (h2 : TgsOk vs t) : TgsOk vs (sCons s t) := fun ds env e he => by
  cases ds with
  | nil => cases he
  | cons d ds =>
    simp only [sCons] at he
    split at he
    · rename_i e1 q
      obtain ⟨a1, a2⟩ := h1 _ _ _ q
      obtain ⟨b1, b2⟩ := h2 _ _ _ he
      exact ⟨fun i hi => (b1 i hi).trans (a1 i hi), fun ho => b2 (a2 ho)⟩
    · cases he
theorem tgok_tup {vs : List Nat} {n : Nat} {t : Tgs} (h : TgsOk vs t) : TgOk vs (sTup n t) := fun d env e he => by
  cases d <;> first | (cases he; done) | skip
  simp only [sTup] at he
  split at he
  · exact h _ _ _ he
  · cases he
theorem wipeE_in {env : En} {i : Nat} {t : Sl} : ∀ {vs : List Nat}, i ∈ vs → (wipeE env vs)[i]? = some t → t = .no
  | v :: vs, h, e => by
    have e : ((wipeE env vs).set v .no)[i]? = some t := e
    by_cases z : v = i
    · subst z
      have l := get_lt e
      rw [List.length_set] at l
      rw [List.getElem?_set_self l] at e
      cases e
      rfl
    · rw [List.getElem?_set_ne z] at e
      rcases List.mem_cons.mp h with h | h
      · exact (z h.symm).elim
      · exact wipeE_in h e
theorem wipeE_out {env : En} {i : Nat} : ∀ {vs : List Nat}, i ∉ vs → (wipeE env vs)[i]? = env[i]?
  | [], _ => rfl
  | v :: vs, h => by
    rw [List.mem_cons, not_or] at h
    show ((wipeE env vs).set v .no)[i]? = env[i]?
    rw [List.getElem?_set_ne (Ne.symm h.1), wipeE_out h.2]
def wLc2i (vs1 : List Nat) (s1 : Tg) (gt1 : Fx Bool) (fe : Fx D) : List D → List D → En → (List D → Prop) → Prop
  | [], acc, _, k => k acc
  | d :: ds, acc, e1, k => match s1 d (wipeE e1 vs1) with
    | some e2 => gt1 e2 (fun b => if b = true then fe e2 (fun y => acc.length < sizeLine ∧ wLc2i vs1 s1 gt1 fe ds (acc ++ [y]) e1 k) nE else wLc2i vs1 s1 gt1 fe ds acc e1 k) nE
    | none => False
def wLc2o (vs : List Nat) (s : Tg) (gt : Fx Bool) (fi1 : Fx (List D)) (inner : List D → List D → En → (List D → Prop) → Prop) : List D → List D → En → (List D → Prop) → Prop
  | [], acc, _, P => P acc
  | d :: ds, acc, env, P => match s d (wipeE env vs) with
    | some e1 => gt e1 (fun b => if b = true then fi1 e1 (fun ds1 => inner ds1 acc e1 (fun acc' => wLc2o vs s gt fi1 inner ds acc' env P)) nE else wLc2o vs s gt fi1 inner ds acc env P) nE
    | none => False
def wComp2 (vs vs1 : List Nat) (fi : Fx (List D)) (s : Tg) (gt : Fx Bool) (fi1 : Fx (List D)) (s1 : Tg) (gt1 : Fx Bool) (fe : Fx D) : Fx (List D) := fun env P R => fi env (fun ds => wLc2o vs s gt fi1 (wLc2i vs1 s1 gt1 fe) ds [] env P) R
theorem lc2_ok {fi fi1 : Fx (List D)} {s s1 : Tg} {gt gt1 : Fx Bool} {fe : Fx D} {vs vs1 : List Nat} {σ : L2.St} {H : Hp} {Q : VK} (ho : TgOk vs s) (h : tL K B W (wComp2 vs vs1 fi s gt fi1 s1 gt1 fe) σ H Q) :
    tLc2 (tI K B W fi) (tgc K B vs s) (tQ K B W0 gt) (tI K B W0 fi1) (tgc K B vs1 s1) (tQ K B W0 gt1) (tP K B W0 fe) vs vs1 σ H Q := by
  obtain ⟨G, env, P, R, rel, hF, hP, hR⟩ := h
  refine ⟨G, env, _, R, rel, hF, fun ds pds J G1 H1 g1 it Dl nD => ?_, hR⟩
  refine ⟨fun i m H' => m = ds.length - i ∧ i ≤ ds.length ∧ ∃ G' ys acc, Grow G1 H1 G' H' ∧ G' Dl = none ∧ H' Dl = some (.lst ys) ∧ RepA K G' ys acc ∧ wLc2o vs s gt fi1 (wLc2i vs1 s1 gt1 fe) (ds.drop i) acc env P,
    ⟨ds.length, rfl, Nat.zero_le _, G1, [], [], Grow.own g1.gh nD, Evl.fresh_back g1.gh nD, upd_same, .nil, pds⟩, ?_⟩
  rintro i m H' ⟨rfl, hi, G', ys, acc, gr, nG, hD, ra, hw⟩
  have rel1 := rel.grow g1
  by_cases hlt : i < ds.length
  · refine .inr ⟨it.go i H' G' gr.g gr.gh hlt, fun H' => ∃ G' ys acc, Grow G1 H1 G' H' ∧ G' Dl = none ∧ H' Dl = some (.lst ys) ∧ RepA K G' ys acc ∧ wLc2o vs s gt fi1 (wLc2i vs1 s1 gt1 fe) (ds.drop (i + 1)) acc env P,
      fun H2 q => ⟨ds.length - (i + 1), by omega, rfl, hlt, q⟩, fun x H2 y => ?_⟩
    obtain ⟨G2, g2, rx⟩ := it.yld i H' x H2 G' ds[i] gr.g gr.gh (List.getElem?_eq_getElem hlt) y
    rw [List.drop_eq_getElem_cons hlt] at hw
    simp only [wLc2o] at hw
    split at hw
    · rename_i e1 he
      have gr2 := gr.trans g2
      have stay : ∀ {G3 H3 : Hp}, Grow G2 H2 G3 H3 → G3 Dl = none ∧ H3 Dl = some (.lst ys) := fun {G3 H3} g3 => by
        have h2 := g2.h _ _ hD
        exact ⟨(g3.nw _ (by rw [h2]; simp)).trans ((g2.nw _ (by rw [hD]; simp)).trans nG), g3.h _ _ h2⟩
      refine ⟨G2, _, _, e1, (rel1.grow gr2).wipe vs, rx, he, fun σ3 w3 rel3 => ⟨w3.trans (by rw [wipe_wipe]), ?_⟩⟩
      refine ⟨G2, e1, _, _, rel3, hw, fun b pb G3 H3 g3 => ?_, fun _ z => z.elim⟩
      cases b with
      | false =>
        obtain ⟨n3, h3⟩ := stay g3
        exact ⟨G3, ys, acc, gr2.trans g3, n3, h3, ra.ex (g2.trans g3).g, pb⟩
      | true =>
        rw [if_pos rfl]
        refine ⟨G3, e1, _, _, rel3.grow g3, pb, fun ds1 pds1 J1 G4 H4 g4 it1 => ?_, fun _ z => z.elim⟩
        obtain ⟨n4, h4⟩ := stay (g3.trans g4)
        have gr4 := gr2.trans (g3.trans g4)
        have ra4 := ra.ex ((g2.trans g3).trans g4).g
        have rel4 := rel3.grow (g3.trans g4)
        have nh : ∀ (a : Nat) t, e1[a]? = some t → t.own = true → σ3[a]? ≠ some (some (.ref Dl)) := fun a t h1 h2 h3 => by
          obtain ⟨o1, o2⟩ := ho _ _ _ he
          have ha : a ∉ vs := fun hin => by
            have := o2 (fun i hi t ht => by rw [wipeE_in hi ht]; rfl) a hin t h1
            rw [h2] at this
            cases this
          rw [o1 a ha, wipeE_out ha] at h1
          have e3 : σ3[a]? = σ[a]? := by
            rw [← L2.wipe_out ha, w3, wipe_wipe, L2.wipe_out ha]
          rw [e3] at h3
          exact rel1.fresh nD a t h1 h2 h3
        -- the inner walk
        refine ⟨fun j k H' => k = ds1.length - j ∧ j ≤ ds1.length ∧ ∃ G' ys acc, Ex G4 G' ∧ Grow G1 H1 G' H' ∧ Rel K B G' σ3 H' e1 ∧ G' Dl = none ∧ H' Dl = some (.lst ys) ∧ RepA K G' ys acc ∧ wLc2i vs1 s1 gt1 fe (ds1.drop j) acc e1 (fun acc' => wLc2o vs s gt fi1 (wLc2i vs1 s1 gt1 fe) (ds.drop (i + 1)) acc' env P),
          ⟨ds1.length, rfl, Nat.zero_le _, G4, ys, acc, ex0, gr4, rel4, n4, h4, ra4, pds1⟩, ?_⟩
        rintro j k H5 ⟨rfl, hj, G5, ys5, acc5, x5, gr5, rel5, n5, h5, ra5, hw5⟩
        by_cases hlj : j < ds1.length
        · refine .inr ⟨it1.go j H5 G5 x5 rel5.gh hlj, fun H' => ∃ G' ys acc, Ex G4 G' ∧ Grow G1 H1 G' H' ∧ Rel K B G' σ3 H' e1 ∧ G' Dl = none ∧ H' Dl = some (.lst ys) ∧ RepA K G' ys acc ∧ wLc2i vs1 s1 gt1 fe (ds1.drop (j + 1)) acc e1 (fun acc' => wLc2o vs s gt fi1 (wLc2i vs1 s1 gt1 fe) (ds.drop (i + 1)) acc' env P),
            fun H' q => ⟨ds1.length - (j + 1), by omega, rfl, hlj, q⟩, fun x1 H6 y1 => ?_⟩
          obtain ⟨G6, g6, rx6⟩ := it1.yld j H5 x1 H6 G5 ds1[j] x5 rel5.gh (List.getElem?_eq_getElem hlj) y1
          rw [List.drop_eq_getElem_cons hlj] at hw5
          simp only [wLc2i] at hw5
          split at hw5
          · rename_i e2 he2
            have stay5 : ∀ {G7 H7 : Hp}, Grow G6 H6 G7 H7 → G7 Dl = none ∧ H7 Dl = some (.lst ys5) := fun {G7 H7} g7 => by
              have h2 := g6.h _ _ h5
              exact ⟨(g7.nw _ (by rw [h2]; simp)).trans ((g6.nw _ (by rw [h5]; simp)).trans n5), g7.h _ _ h2⟩
            refine ⟨G6, _, _, e2, (rel5.grow g6).wipe vs1, rx6, he2, fun σ7 w7 rel7 => ⟨w7.trans (by rw [wipe_wipe]), ?_⟩⟩
            refine ⟨G6, e2, _, _, rel7, hw5, fun b pb G7 H7 g7 => ?_, fun _ z => z.elim⟩
            cases b with
            | false =>
              obtain ⟨n7, h7⟩ := stay5 g7
              have gg := g6.trans g7
              exact ⟨G7, ys5, acc5, x5.trans gg.g, gr5.trans gg, rel5.grow gg, n7, h7, ra5.ex gg.g, pb⟩
            | true =>
              rw [if_pos rfl]
              refine ⟨G7, e2, _, _, rel7.grow g7, pb, fun dy py v G8 H8 g8 rv => ?_, fun _ z => z.elim⟩
              obtain ⟨n8, h8⟩ := stay5 (g7.trans g8)
              have gg := (g6.trans g7).trans g8
              have ra8 := ra5.ex gg.g
              have gr8 := gr5.trans gg
              have rel8 := rel5.grow gg
              refine ⟨ys5, h8, by rw [ra5.len]; exact py.1, G8, ys5 ++ [v], acc5 ++ [dy], x5.trans gg.g, ⟨gr8.g, gr8.h.mut nD, gr8.gh.mut n8, gr8.nw⟩, ?_, n8, upd_same, ra8.app (.one rv), py.2⟩
              -- one's own slots do not hold the list that is being made
              have nB : B.H Dl = none := rel1.newB nD
              refine ⟨rel8.bg, rel8.bh.mut nB, rel8.gh.mut n8, rel8.nw, rel8.len, fun a o t h1 h2 => ?_, rel8.ds⟩
              refine (rel8.sl a o t h1 h2).mono ex0 fun q e1 w => ?_
              obtain ⟨q', e2, n2, _, oa⟩ := (rel8.sl a o t h1 h2).own w
              rw [e1] at e2
              obtain rfl : q = q' := by injection e2 with z; injection z
              by_cases zz : q = Dl
              · exfalso
                subst zz
                exact nh a t h2 w (h1.trans (congrArg some e1))
              · exact ⟨upd_ne zz, n2⟩
          · exact hw5.elim
        · have ej : j = ds1.length := by omega
          subst ej
          rw [List.drop_length] at hw5
          exact .inl ⟨it1.stop H5 G5 x5 rel5.gh, G5, ys5, acc5, gr5, n5, h5, ra5, hw5⟩
    · exact hw.elim
  · have ei : i = ds.length := by omega
    subst ei
    rw [List.drop_length] at hw
    exact .inl ⟨it.stop H' G' gr.g gr.gh, hP _ hw Dl ys G' H' (g1.trans gr) (Evl.fresh_back g1.h nD) nG hD ra⟩
theorem pl_lc2 {elt tg1 iter1 : Expr} {ifs ifs1 : List Expr} {scope : Scope} {own : List (Str × Nat)} {vs1 : List Nat} {fi fi1 : Fx (List D)} {s s1 : Tg} {gt gt1 : Fx Bool} {fe : Fx D} (hc : X.calm = true) (hN : X.N.Nodup) (hi : PDI B W X tg iter fi) (ok : BlkOk X.N X.env.scope scope own)
    (hv : ∀ i ∈ vs1, i ∈ own.map (·.2)) (ho : TgOk (own.map (·.2)) s)
    (hg : ∀ (s' : Shared) (H : Hp) (C : Addr) (cl : List (Str × Addr)) (fp : List Addr), PGc B (X.blk s' H scope (compEnvC scope cl C X.env) fp) (own.map (·.2)) tg s)
    (ht : ∀ (s' : Shared) (H : Hp) (C : Addr) (cl : List (Str × Addr)) (fp : List Addr), PQs B W0 (X.blk s' H scope (compEnvC scope cl C X.env) fp) ifs gt)
    (hi1 : ∀ (s' : Shared) (H : Hp) (C : Addr) (cl : List (Str × Addr)) (fp : List Addr), PDI B W0 (X.blk s' H scope (compEnvC scope cl C X.env) fp) tg1 iter1 fi1)
    (hg1 : ∀ (s' : Shared) (H : Hp) (C : Addr) (cl : List (Str × Addr)) (fp : List Addr), PGc B (X.blk s' H scope (compEnvC scope cl C X.env) fp) vs1 tg1 s1)
    (ht1 : ∀ (s' : Shared) (H : Hp) (C : Addr) (cl : List (Str × Addr)) (fp : List Addr), PQs B W0 (X.blk s' H scope (compEnvC scope cl C X.env) fp) ifs1 gt1)
    (he : ∀ (s' : Shared) (H : Hp) (C : Addr) (cl : List (Str × Addr)) (fp : List Addr), PD B W0 (X.blk s' H scope (compEnvC scope cl C X.env) fp) elt fe) (hs : ∀ x, foldedSetIterable iter X.env x = pure x := by intro _; rfl) (hs1 : ∀ env x, foldedSetIterable iter1 env x = pure x := by intro _ _; rfl) :
    PL B W X (.ListComp elt [⟨tg, iter, ifs, 0⟩, ⟨tg1, iter1, ifs1, 0⟩] scope pos) (wComp2 (own.map (·.2)) vs1 fi s gt fi1 s1 gt1 fe) :=
  (pe_lc2 (g := tgc X.K B (own.map fun q : Str × Nat => q.2) s) (tt := tQ X.K B W0 gt) (wi1 := tI X.K B W0 fi1) (g1 := tgc X.K B vs1 s1) (tt1 := tQ X.K B W0 gt1) (te := tP X.K B W0 fe) hc hN hi ok hv hg ht hi1 hg1 ht1 he hs hs1).imp fun _ _ _ q => lc2_ok ho q

/-! ### dict(pairs) -/
def pairsOf : List D → Option (List (Key × D))
  | [] => some []
  | .tup [k, v] :: r => match keyOf k, pairsOf r with
    | some kk, some ps => some ((kk, v) :: ps)
    | _, _ => none
  | _ => none
def putAll (x : List Key × List D) : List (Key × D) → List Key × List D
  | [] => x
  | kd :: r => putAll (dput x.1 x.2 kd.1 kd.2) r
theorem putAll_of {G : Hp} : ∀ {more : List (Key × V)} {ps : List (Key × D)} {kvs : List (Key × V)} {x : List Key × List D}, more.map (·.1) = ps.map (·.1) → RepA K G (more.map (·.2)) (ps.map (·.2)) → kvs.map (·.1) = x.1 → RepA K G (kvs.map (·.2)) x.2 →
    (mergeK kvs more).map (·.1) = (putAll x ps).1 ∧ RepA K G ((mergeK kvs more).map (·.2)) (putAll x ps).2
  | [], [], kvs, x, _, _, h1, h2 => ⟨h1, h2⟩
  | [], _ :: _, _, _, e, _, _, _ => nomatch e
  | _ :: _, [], _, _, e, _, _, _ => nomatch e
  | (k, v) :: more, (k', d) :: ps, kvs, x, e, r, h1, h2 => by
    simp only [List.map_cons, List.cons.injEq] at e
    obtain ⟨rfl, e⟩ := e
    cases r with
    | cons hv hr =>
      obtain ⟨x1, x2⟩ := x
      subst h1
      obtain ⟨z1, z2⟩ := dput_of (k := k) hv h2
      exact putAll_of (more := more) (ps := ps) (kvs := putK kvs k v) (x := dput (kvs.map (·.1)) x2 k d) e hr z1 z2
@[irreducible] def φDictP : List D → (List Key × List D → Prop) → Prop
  | [.lst ds], P => match pairsOf ds with
    | some ps => P (putAll ([], []) ps)
    | none => False
  | _, _ => False
theorem pairs_inv {G : Hp} : ∀ {ds : List D} {ps : List (Key × D)} {xs : List V}, pairsOf ds = some ps → RepA K G xs ds → ∃ (qs : List Addr) (kvs : List (Key × V)), xs = qs.map V.ref ∧ Paired (fun p kv => SqT K G p [kV kv.1, kv.2]) qs kvs ∧ kvs.map (·.1) = ps.map (·.1) ∧ RepA K G (kvs.map (·.2)) (ps.map (·.2))
  | [], ps, xs, h, r => by
    cases h
    cases r
    exact ⟨[], [], rfl, .nil, rfl, .nil⟩
  | d :: ds, ps, xs, h, r => by
    cases r with
    | cons hv hr =>
      unfold pairsOf at h
      split at h
      · rename_i heq; cases heq
      · rename_i k v r' heq
        cases heq
        split at h
        · rename_i kk ps' hk hp
          cases h
          obtain ⟨a, ys, rfl, hs, rs⟩ := hv.tup_inv
          obtain ⟨v1, v2, rfl, r1, r2⟩ := rs.two_inv
          have ek := keyOf_rep r1 hk
          subst ek
          obtain ⟨qs, kvs, rfl, h1, h2, h3⟩ := pairs_inv hp hr
          exact ⟨a :: qs, (kk, v2) :: kvs, rfl, .cons hs h1, by simp only [List.map_cons, h2], .cons r2 h3⟩
        · cases h
      · cases h
def wBk (φ : List D → (List Key × List D → Prop) → Prop) (fas : Fx (List D)) : Fx (List Key × List D) := fun env P R => fas env (fun ds => φ ds P) R
theorem paired_ex {G H : Hp} (e : Ex G H) : ∀ {qs : List Addr} {kvs : List (Key × V)}, Paired (fun p kv => SqT K G p [kV kv.1, kv.2]) qs kvs → Paired (fun p kv => SqT K H p [kV kv.1, kv.2]) qs kvs
  | _, _, .nil => .nil
  | _, _, .cons h r => .cons (ext e h) (paired_ex e r)
theorem pk_dictP (h : PE X e (tCB (fun xs H Q => ∃ (a : Addr) (ps : List Addr) (kvs : List (Key × V)), xs = [.ref a] ∧ SqL X.K H a (ps.map V.ref) ∧ Paired (fun p kv => SqT X.K H p [kV kv.1, kv.2]) ps kvs ∧ ∀ p, H p = none → Q (.ref p) (upd H p (.dK (mergeK [] kvs)))) (tA X.K B W fas))) : PK' B W X e (wBk φDictP fas) :=
  h.imp fun σ H Q ⟨G, env, P, R, rel, hF, hP, hR⟩ => ⟨G, env, _, R, rel, hF, fun ds pd vs G1 H1 g1 rvs => by
    unfold φDictP at pd
    split at pd
    · split at pd
      · rename_i ps hps
        obtain ⟨v, rfl, hv⟩ := rvs.one_inv
        obtain ⟨q, ys, rfl, hs, rs⟩ := hv.lst_inv
        obtain ⟨qs, kvs, rfl, h1, h2, h3⟩ := pairs_inv hps rs
        obtain ⟨z1, z2⟩ := putAll_of (x := ([], [])) (kvs := []) h2 h3 rfl .nil
        exact ⟨q, qs, kvs, rfl, SqL.of (g1.gh _ _ hs), paired_ex g1.gh h1, fun t nt => hP _ pd t _ G1 _ (g1.trans (Grow.own g1.gh nt)) (Evl.fresh_back g1.h nt) (Evl.fresh_back g1.gh nt) upd_same z1 z2⟩
      · exact pd.elim
    · exact pd.elim, hR⟩

/-! ### fields of any of several classes -/
def wFlds (cs : List Addr) (f : Str) (fa : Fx D) : Fx D := fun env P R => fa env (fun d => match d with
  | .obj C ns ds => C ∈ cs ∧ match nlook ns ds f with
    | some d => P d
    | none => False
  | _ => False) R
theorem pd_flds {cs : List Addr} {f : Str} (hc : ∀ C ∈ cs, Cls X.K C ∧ NoAttr X.K C f) (ha : PD B W X a fa) (hb : attributeBase a f X.env (eval a X.env) = eval a X.env := by rfl) : PD B W X (.Attribute a f pos) (wFlds cs f fa) :=
  (pe_fld ha hb).imp fun σ H Q ⟨G, env, P, R, rel, hF, hP, hR⟩ => ⟨G, env, _, R, rel, hF, fun d pd v G1 H1 g1 rv => by
    cases d <;> first | exact pd.elim | skip
    obtain ⟨hC, pd⟩ := pd
    split at pd
    · rename_i d' hd
      cases rv with
      | obj h e r =>
        obtain ⟨u, h1, h2⟩ := nlook_of e r hd
        exact ⟨_, _, _, _, u, rfl, g1.gh _ _ h, (hc _ hC).1, (hc _ hC).2, h1, hP _ pd _ G1 H1 g1 h2⟩
    · exact pd.elim, hR⟩
end
end Pd
set_option maxRecDepth 100000
set_option maxHeartbeats 4000000
/-! what the generated texts name -/
namespace Pd
open PySem PySem.Spec PyProof.Rows L2 Pre
theorem _root_.L2.Room.units65 {k : Nat} {A : Around} (r : Room k A) : A.units + 65 < cLine := by have := r.un; omega
/-- a def of which nothing is asked -/
theorem okF {P : Program} {w : World} {K : PySem.W.Frag} {mg : Str → Option Value} {base : Heap} {CX : CXT} {k n : Nat} {f : Addr} {fd : FuncData} {ps : List Str} (_ : ps.length = n) : FnOk P w K mg base CX k f fd ps (spP K n fun _ _ _ => False) :=
  ⟨fun vs H Q E ⟨_, _, _, _, _, _, _, h, _⟩ => h.elim, fun A outer s H args us vs Q E _ _ _ _ ⟨_, _, _, _, _, _, _, h, _⟩ => h.elim⟩
/-- what is known of an own class that is no error, as one Bool -/
def objB (K : PySem.W.Frag) (C : Addr) : Bool :=
  PySem.W.plainGet K C Str.empty && (PySem.W.hasDictIn K C && (PySem.W.plainOver K C && (PySem.W.findIn K (.ref C) "__setattr__" == some (some (.builtin "object.__setattr__")) &&
  (PySem.W.findIn K (.ref C) "__class__" == some (some (.builtin "object.__class__")) && (PySem.W.specialIn K (.builtin "object.__class__") "__get__" == some (some (.builtin "getset_descriptor.__get__")) && (PySem.W.takesIn K (.builtin "object.__class__") == some true && (PySem.W.mroIn K C (.type "object") == some true &&
  (PySem.W.kitOne K (.ref C) (.type "int") == some false && (PySem.W.kitOne K (.ref C) (.type "bool") == some false && (PySem.W.kitOne K (.ref C) (.type "str") == some false && (PySem.W.kitOne K (.ref C) (.type "tuple") == some false && (PySem.W.kitOne K (.ref C) (.type "list") == some false && PySem.W.kitOne K (.ref C) (.type "dict") == some false))))))))))))
theorem objB_ok {K : PySem.W.Frag} {C : Addr} (h : objB K C = true) : OwnC K C ∧ ∀ k : Kd, PySem.W.kitOne K (.ref C) (.type k.name) = some false := by
  unfold objB at h
  simp only [Bool.and_eq_true, beq_iff_eq] at h
  obtain ⟨h0, h1, h2, h3, h4, h5, h6, h7, h8, h9, h10, h11, h12, h13⟩ := h
  refine ⟨⟨⟨h0, h1, h2, h3⟩, h4, h5, h6, h7⟩, fun k => ?_⟩
  cases k <;> assumption
def mkB (K : PySem.W.Frag) (C f : Addr) : Bool := PySem.W.makesIn K C && (PySem.W.isFn K (.ref f) && PySem.W.keepIn K (.ref C))
theorem mkB_ok {K : PySem.W.Frag} {C f : Addr} (h : mkB K C f = true) (hi : PySem.W.findIn K (.ref C) "__init__" = some (some (.ref f))) : Mk K C f := by
  unfold mkB at h
  simp only [Bool.and_eq_true] at h
  exact ⟨h.1, hi, h.2.1, h.2.2⟩
theorem exm_self {K : PySem.W.Frag} {cs : List Addr} {E N c : Addr} (h : Xc.tabB K cs E N = true) (hc : c ∈ cs) : PySem.W.exmOne K (.ref c) (.ref c) = some true := by
  have := (Xc.tab_pair h hc hc).1
  rwa [beq_self_eq_true] at this
def wCallK (m n : Nat) (is : List Nat) (F : Fd) (fas : Fx (List D)) : Fx D := fun env P R => fas env (fun ds => ds.length = m ∧ (perm is ds).length = n ∧ F (perm is ds) P R) R
theorem cxNo {P : Program} {w : World} {outer : List Env} {H : Hp} {s : Shared} {e : Value} {s' : Shared} (h : L2.CX P w outer H s (fun _ _ _ => False) e s') : False := by
  obtain ⟨_, _, _, _, _, _, _, _, _, _, _, _, z⟩ := h
  exact z.elim
/-- the law's promise, from the pure meaning -/
def spLaw (K : PySem.W.Frag) : Sp := fun vs H Q _ => ∃ (a : Addr) (ns : List Int), vs = [.ref a] ∧ SqL K H a (ns.map V.int) ∧ ns.length ≤ 63 ∧ ∀ H', Q (.bl true) H'
theorem law_of {P : Program} {w : World} {K : PySem.W.Frag} {mg : Str → Option Value} {base : Heap} {CX : CXT} {k : Nat} {f : Addr} {fd : FuncData} {ps : List Str} {F : Fd} (ok : FnOk P w K mg base CX k f fd ps (spP K 1 F))
    (h : ∀ (ns : List Int), ns.length ≤ 63 → F [.frz (ns.map D.int)] (fun d => d = .bl true) (fun _ => False)) : FnOk P w K mg base CX k f fd ps (spLaw K) := ok.imp fun vs H Q E ⟨a, ns, e, hs, hl, q⟩ => by
  subst e
  exact ⟨H, _, _, _, ex0, .one (.frz hs (repA_ints ns)), rfl, h ns hl, fun d hd v G' H' g r => by subst hd; cases r; exact q H', fun _ z => z.elim⟩
/-! ### the box: three numbers, not below 0, and no more is known of them -/
def BoxP : List V → Prop := fun xs => ∃ c m j : Int, xs = [.int c, .int m, .int j] ∧ 0 ≤ c ∧ 0 ≤ m ∧ 0 ≤ j
def BoxAt (H : Hp) (b : Addr) : Prop := H b = some (LstX b BoxP)
theorem BoxAt.ex {H H' : Hp} {b : Addr} (h : BoxAt H b) (e : Ex H H') : BoxAt H' b := e _ _ h
/-- the box is open, all else stands -/
structure Open (H : Hp) (b : Addr) (c m j : Int) (H' : Hp) : Prop where
  hb : H' b = some (.lst [.int c, .int m, .int j])
  c0 : 0 ≤ c
  m0 : 0 ≤ m
  j0 : 0 ≤ j
  off : ∀ x o, H x = some o → x ≠ b → H' x = some o
theorem Open.set {H H' : Hp} {b : Addr} {c m j c' m' j' : Int} {xs : List V} (S : Open H b c m j H') (e : xs = [.int c', .int m', .int j']) (h1 : 0 ≤ c') (h2 : 0 ≤ m') (h3 : 0 ≤ j') : Open H b c' m' j' (upd H' b (.lst xs)) :=
  ⟨by rw [e]; exact upd_same, h1, h2, h3, fun x o h ne => by rw [upd_ne ne]; exact S.off x o h ne⟩
theorem Open.close {H H' : Hp} {b : Addr} {c m j : Int} (S : Open H b c m j H') (h : BoxAt H b) : Ex H (upd H' b (LstX b BoxP)) := fun x o hx => by
  by_cases e : x = b
  · subst e
    rw [upd_same]
    exact h.symm.trans hx
  · rw [upd_ne e]
    exact S.off x o hx e
def spTake : Sp := fun vs H Q _ => ∃ (b : Addr) (many : Int), vs = [.ref b, .int many] ∧ BoxAt H b ∧ 1 ≤ many ∧ many ≤ 10 ^ 18 ∧ ∀ r H', Ex H H' → 0 ≤ r → r < many → Q (.int r) H'
abbrev dBox : D := .hid BoxP
def FTake : Fd := fun ds P _ => match ds with
  | [.hid φ, .int many] => φ = BoxP ∧ 1 ≤ many ∧ many ≤ 10 ^ 18 ∧ ∀ r, 0 ≤ r → r < many → P (.int r)
  | _ => False
theorem take_of {P : Program} {w : World} {K : PySem.W.Frag} {mg : Str → Option Value} {base : Heap} {CX : CXT} {k : Nat} {f : Addr} {fd : FuncData} {ps : List Str} (ok : FnOk P w K mg base CX k f fd ps spTake) : FnOk P w K mg base CX k f fd ps (spP K 2 FTake) := ok.imp fun vs H Q E ⟨G, ds, P', R', e, r, hl, hF, hP, hR⟩ => by
  unfold FTake at hF
  split at hF
  · rename_i φ many
    obtain ⟨rfl, h1, h2, h3⟩ := hF
    obtain ⟨v, u, rfl, r1, r2⟩ := r.two_inv
    cases r2
    cases r1 with
    | hid hg => exact ⟨_, many, rfl, e _ _ hg, h1, h2, fun r H' x r0 r1 => hP _ (h3 r r0 r1) _ G H' ⟨ex0, x, e.trans x, fun _ _ => rfl⟩ (.int _)⟩
  · exact hF.elim
/-! ### a, b = x, y where a name is a cell: a tuple stands between -/
section
variable {B : Bs} {W : WX} {X : Cx} {pos : Pos} {a b c : Expr}
theorem pds_parT2 {i j : Nat} {x y : Str} {px py pt : Pos} {kt k2 pt2} {fs ft : Fx Sl} (hc : X.calm = true) (hN : X.N.Nodup) (hi : X.N[i]? = some x) (hj : X.N[j]? = some y)
    (hx : Loc X.env.scope x) (hy : Loc X.env.scope y) (fx : X.fn x = true ∨ X.env.scope.names.lookup x = some .local) (fy : X.fn y = true ∨ X.env.scope.names.lookup y = some .local) (ha : PSl B W X a fs) (hb : PSl B W X b ft)
    (hw : swappedStores [.Tuple [.Name x px, .Name y py] kt pt] (.Tuple [a, b] k2 pt2) X.env = pure none := by rfl)
    (hs : swapsWithSole [.Tuple [.Name x px, .Name y py] kt pt] (.Tuple [a, b] k2 pt2) pos.line X.env = pure false := by rfl)
    (s1 : starEach [a, b] X.env = (false, eval a X.env) :: starEach [b] X.env := by rfl) (s2 : starEach [b] X.env = (false, eval b X.env) :: starEach [] X.env := by rfl)
    (h1 : (assignEach [.Tuple [.Name x px, .Name y py] kt pt] X.env).map (·.2) = [assign (.Tuple [.Name x px, .Name y py] kt pt) X.env] := by rfl)
    (g1 : (assignEach [.Name x px, .Name y py] X.env).map (·.2) = assign (.Name x px) X.env :: (assignEach [.Name y py] X.env).map (·.2) := by rfl)
    (g2 : (assignEach [.Name y py] X.env).map (·.2) = assign (.Name y py) X.env :: (assignEach [] X.env).map (·.2) := by rfl)
    (g3 : (assignEach [.Name x px, .Name y py] X.env).length = 2 := by rfl) (g4 : (assignEach [.Name x px, .Name y py] X.env).findIdx? (·.1) = none := by rfl) :
    PDs B W X (.Assign [.Tuple [.Name x px, .Name y py] kt pt] (.Tuple [a, b] k2 pt2) pos) (wPar2 i j fs ft) :=
  (ps_asg (pe_tup (pa_cons ha (pa_cons hb pa_nil s2) s1)) (pg_tup hc (pgs_cons (pg_name hN hi hx fx) (pgs_cons (pg_name hN hj hy fy) pgs_nil g2) g1) g3 g4) hs hw h1).imp fun Dn σ H ⟨G, env, P, rel, hF, ok⟩ =>
    ⟨G, env, _, _, rel, hF, fun s ps v G1 H1 g1 hn => ⟨G1, env, _, _, rel.grow g1, ps, fun t pt u G2 H2 g2 hm => ⟨by show 2 ≤ sizeLine; decide, fun p np => ⟨p, [v, u], rfl, SqT.of upd_same, rfl, v, [u], rfl, u, [], rfl, rfl, by
      have g3 : Grow G2 H2 G2 (upd H2 p (.tup [v, u])) := Grow.own g2.gh np
      have g := (g1.trans g2).trans g3
      have rel2 := (rel.grow g).sets (G := G) (H := H) (fun q n => rel.newB n) (fun q n => rel.fresh n) (hn.grow (g2.trans g3)) i
      refine ok.nx _ pt _ G2 _ g.g (rel2.sets (G := G1) (H := H1) (fun q n => (rel.grow g1).newB n) (fun q n => fresh_set q ((rel.grow g1).fresh n) fun w z => ?_) (hm.grow g3) j)
      obtain ⟨q', o, e1, e2⟩ := own_ref hn w
      rw [z] at e1
      cases e1
      rw [n] at e2
      cases e2⟩⟩, fun e p => ((ok.err rel) e p).grow g1⟩, ok.err rel⟩
end
end Pd
set_option maxRecDepth 100000
set_option maxHeartbeats 4000000
/-! bits, ord, stars in displays, reversed walks, lists of ranges -/
namespace Pd
open PySem PySem.Spec PyProof.Rows L2 Pre StX RT
section
variable {K : PySem.W.Frag}
def φAnd : Φ2 := φI0 fun i j => .int (Builtin.bitAnd i j)
theorem odAnd : OpD K (rI0 fun i j => .int (Builtin.bitAnd i j)) φAnd := odI0
def φShr : Φ2 := φI (fun _ j => 0 ≤ j) fun i j => .int (i / 2 ^ j.toNat)
theorem odShr : OpD K (rI (fun _ j => 0 ≤ j) fun i j => .int (i / 2 ^ j.toNat)) φShr := odI
def φShl : Φ2 := φI CShl fun i j => .int (i * 2 ^ j.toNat)
theorem odShl : OpD K (rI CShl fun i j => .int (i * 2 ^ j.toNat)) φShl := odI
def φOrd1 : List D → (D → Prop) → Prop
  | [.str x], P => x.length = 1 ∧ P (.int (x.cps.getD 0 0 : Nat))
  | _, _ => False
theorem cdOrd : CaD K (fun xs H Q => ∃ x, xs = [.str x] ∧ x.length = 1 ∧ Q (.int (x.cps.getD 0 0 : Nat)) H) φOrd1 := fun xs ds G H P Q e r p k => by
  unfold φOrd1 at p
  split at p
  · obtain ⟨v, rfl, h⟩ := r.one_inv
    cases h
    exact ⟨_, rfl, p.1, k _ p.2 _ G H (Grow.refl e) (.int _)⟩
  · exact p.elim
end
section
variable {B : Bs} {W : WX} {X : Cx} {a : Expr} {fa : Fx D} {fas : Fx (List D)} {es : List Expr} {p pos apos : Pos} {tg : Expr}
def wBits (fa : Fx D) : Fx D := fun env P R => fa env (fun d => match d with | .int i => P (.int (Builtin.Int.intBits i : Nat)) | _ => False) R
theorem pd_bits (ha : PD B W X a fa) (hbase : attributeBase a "bit_length" X.env (eval a X.env) = eval a X.env := by rfl) (hline : (apos.endLine == pos.line) = true := by rfl) : PD B W X (.Call (.Attribute a "bit_length" apos) [] [] pos) (wBits fa) :=
  (pe_bits ha hbase hline).imp fun σ H Q ⟨G, env, P, R, rel, hF, hP, hR⟩ => ⟨G, env, _, R, rel, hF, fun d pd v G2 H2 g2 rv => by
    cases d <;> first | exact pd.elim | skip
    cases rv
    exact ⟨_, rfl, hP _ pd _ _ _ g2 (.int _)⟩, hR⟩
/-- all of a list or tuple, in a display or a call -/
def wStar (fa : Fx D) (fas : Fx (List D)) : Fx (List D) := fun env P R => fa env (fun x => match x.items with | some ds => fas env (fun xs => P (ds ++ xs)) R | none => False) R
theorem pda_star (ha : PD B W X a fa) (hr : PDA B W X es fas) (hs : starEach (.Starred a p :: es) X.env = (true, eval a X.env) :: starEach es X.env := by rfl) : PDA B W X (.Starred a p :: es) (wStar fa fas) :=
  (pa_star ha hr hs).imp fun σ H Q ⟨G, env, P, R, rel, hF, hP, hR⟩ => ⟨G, env, _, R, rel, hF, fun dx px x G1 H1 g1 rx => by
    split at px
    · rename_i ds hd
      obtain ⟨q, ys, rfl, hs, rs⟩ := items_inv rx hd
      refine ⟨q, ys, rfl, ?_, G1, env, _, R, rel.grow g1, px, fun es' pes vs G2 H2 g2 rvs => hP _ pes _ G2 H2 (g1.trans g2) ((rs.ex g2.g).app rvs), fun e re => (hR e re).grow g1⟩
      rcases hs with hs | hs
      · exact .inr (exl g1.gh hs)
      · exact .inl (ext g1.gh hs)
    · exact px.elim, hR⟩
/-! ### reversed -/
theorem it_revL {K : PySem.W.Frag} {G : Hp} {q : Addr} {xs : List V} {ds : List D} (h : SqL K G q xs) (r : RepA K G xs ds) : ItOk K (Itv K q xs.length) G ds.reverse where
  go := fun i H G' e e' hi => by
    rw [List.length_reverse, ← r.len] at hi
    exact ⟨hi, xs, xs[xs.length - 1 - i], exl e' (exl e h), List.getElem?_eq_getElem (by omega)⟩
  yld := fun i H x H' G' d e e' hd y => by
    obtain ⟨rfl, y⟩ := y
    have hx := y xs (exl e' (exl e h))
    have hi := (List.getElem?_eq_some_iff.mp hd).1
    rw [List.length_reverse] at hi
    rw [List.getElem?_reverse hi, ← r.len] at hd
    obtain ⟨v, hv, rv⟩ := r.get hd
    rw [hx] at hv
    cases hv
    exact ⟨G', Grow.refl e', rv.ex e⟩
  stop := fun H G' e e' => by
    show xs.length ≤ _
    rw [List.length_reverse, r.len]
    exact Nat.le_refl _
theorem it_revT {K : PySem.W.Frag} {G : Hp} {q : Addr} {xs : List V} {ds : List D} (h : SqT K G q xs) (r : RepA K G xs ds) : ItOk K (ItvT K q xs.length) G ds.reverse where
  go := fun i H G' e e' hi => by
    rw [List.length_reverse, ← r.len] at hi
    exact ⟨hi, xs, xs[xs.length - 1 - i], ext e' (ext e h), List.getElem?_eq_getElem (by omega)⟩
  yld := fun i H x H' G' d e e' hd y => by
    obtain ⟨rfl, y⟩ := y
    have hx := y xs (ext e' (ext e h))
    have hi := (List.getElem?_eq_some_iff.mp hd).1
    rw [List.length_reverse] at hi
    rw [List.getElem?_reverse hi, ← r.len] at hd
    obtain ⟨v, hv, rv⟩ := r.get hd
    rw [hx] at hv
    cases hv
    exact ⟨G', Grow.refl e', rv.ex e⟩
  stop := fun H G' e e' => by
    show xs.length ≤ _
    rw [List.length_reverse, r.len]
    exact Nat.le_refl _
def wRev (fa : Fx D) : Fx (List D) := fun env P R => fa env (fun d => match d.items with | some ds => P ds.reverse | none => False) R
theorem pdi_rev (hg : Gl X "reversed") (hm : X.mg "reversed" = none) (ha : PD B W X a fa) (hs : starEach [a] X.env = (false, eval a X.env) :: starEach [] X.env := by rfl) : PDI B W X tg (.Call (.Name "reversed" p) [a] [] pos) (wRev fa) :=
  (pi_revA hg hm ha hs).imp fun σ H R ⟨G, env, P, Re, rel, hF, hP, hR⟩ => ⟨G, env, _, Re, rel, hF, fun d pd v G1 H1 g1 rv => by
    split at pd
    · rename_i ds hd
      obtain ⟨q, ys, rfl, hs, rs⟩ := items_inv rv hd
      rcases hs with hs | hs
      · exact ⟨q, ys, rfl, .inl ⟨exl g1.gh hs, hP _ pd _ G1 H1 g1 (it_revL hs rs)⟩⟩
      · exact ⟨q, ys, rfl, .inr ⟨ext g1.gh hs, hP _ pd _ G1 H1 g1 (it_revT hs rs)⟩⟩
    · exact pd.elim, hR⟩
/-! ### list(range(..)) -/
theorem repA_range (K : PySem.W.Frag) (G : Hp) (f : Nat → Int) (n : Nat) : RepA K G ((List.range n).map fun i => V.int (f i)) ((List.range n).map fun i => D.int (f i)) := by
  have e1 : ((List.range n).map fun i => V.int (f i)) = ((List.range n).map f).map V.int := by rw [List.map_map]; rfl
  have e2 : ((List.range n).map fun i => D.int (f i)) = ((List.range n).map f).map D.int := by rw [List.map_map]; rfl
  rw [e1, e2]
  exact repA_ints _
def wLRng1 (fa : Fx D) : Fx (List D) := fun env P R => fa env (fun d => match d with | .int j => RgOk 0 j ∧ P (rangeD 0 j.toNat) | _ => False) R
theorem pl_lrng1 {p2 pos2 : Pos} (hc : X.calm = true) (hg : Gl X "list") (hm : X.mg "list" = none) (hg2 : Gl X "range") (hm2 : X.mg "range" = none) (ha : PD B W X a fa)
    (na : starEach [a] X.env = (false, eval a X.env) :: starEach [] X.env := by rfl) (nb : starEach [.Call (.Name "range" p2) [a] [] pos2] X.env = (false, eval (.Call (.Name "range" p2) [a] [] pos2) X.env) :: starEach [] X.env := by rfl) :
    PL B W X (.Call (.Name "list" p) [.Call (.Name "range" p2) [a] [] pos2] [] pos) (wLRng1 fa) :=
  (pe_listRg hc hg hm (prg_1 hg2 hm2 ha na) nb).imp fun σ H Q ⟨G, env, P, R, rel, hF, hP, hR⟩ => ⟨G, env, _, R, rel, hF, fun d pd v G1 H1 g1 rv => by
    cases d <;> first | exact pd.elim | skip
    cases rv
    rename_i j
    refine ⟨j, rfl, pd.1, fun q nq => hP _ pd.2 q _ G1 _ (g1.trans (Grow.own g1.gh nq)) (Evl.fresh_back g1.h nq) (Evl.fresh_back g1.gh nq) upd_same ?_⟩
    have e : (j - 0).toNat = j.toNat := by rw [Int.sub_zero]
    unfold rgV rangeD
    rw [e]
    exact repA_range X.K G1 (fun i => 0 + (i : Int)) j.toNat, hR⟩
/-- a range with a step -/
def rgC (i c : Int) (n : Nat) : List V := (List.range n).map fun k => V.int (i + (k : Nat) * c)
def rangeC (i c : Int) (n : Nat) : List D := (List.range n).map fun k => D.int (i + (k : Nat) * c)
theorem vals_rgC {i c : Int} {n : Nat} {acc : Array Value} (h : ItemsOf (fun k v => ∃ t, v = .int (i + k * c) t) acc n) : Vals (rgC i c n) acc.toList := by
  have e : acc.toList.length = n := by rw [Array.length_toList]; exact h.1
  unfold rgC
  rw [← e]
  refine vals_of_get acc.toList _ fun j u hj => ?_
  obtain ⟨t, rfl⟩ := h.2 j u (by rw [← hj, Array.getElem?_toList])
  exact ⟨t, rfl⟩
def tLstRg3 (ta : TA) : TE := fun σ H Q => ta σ H fun vs H1 => ∃ (i j c : Int) (n : Nat), vs = [.int i, .int j, .int c] ∧ RgC i j c n ∧ n ≤ 2 ^ 24 ∧ ∀ q, H1 q = none → Q (.ref q) (upd H1 q (.lst (rgC i c n)))
theorem pe_listRg3 {b c : Expr} {ta : TA} {p2 pos2 : Pos} (hc : X.calm = true) (hg : Gl X "list") (hm : X.mg "list" = none) (hg2 : Gl X "range") (hm2 : X.mg "range" = none) (ha : PA X [a, b, c] ta)
    (hs : starEach [a, b, c] X.env = (false, eval a X.env) :: starEach [b, c] X.env := by rfl) (hpl : (backTo pos2 (starEach [b, c] X.env)).any (·.1) = false := by rfl)
    (nb : starEach [.Call (.Name "range" p2) [a, b, c] [] pos2] X.env = (false, eval (.Call (.Name "range" p2) [a, b, c] [] pos2) X.env) :: starEach [] X.env := by rfl) :
    PE X (.Call (.Name "list" p) [.Call (.Name "range" p2) [a, b, c] [] pos2] [] pos) (tLstRg3 ta) := by
  refine ⟨fun pins s σ H Q I h => ?_⟩
  refine Call_ (ld_blt I hg hm boot_list (PyProof.Rows.callWith_type1 (args_cons (Q := fun us s' => wpAny (model X.prog X.w) X.A (call (.type "list") us) _ X.xe s') ?_ nb) nb))
  refine Call_ (ld_blt I hg2 hm2 boot_range (PyProof.Rows.callWith_type1 (thn (ha.run pos2 pins s σ H _ I h) fun us s1 ⟨vs, H1, I1, r1, q1⟩ => ?_) hs hpl))
  obtain ⟨i, j, k, n, e, ⟨c0, c1, c2, c3⟩, nl, q⟩ := q1
  subst e
  cases r1 with
  | cons r rr =>
    cases rr with
    | cons r' rr =>
      cases rr with
      | cons r'' rr =>
        cases rr
        obtain ⟨t, rfl⟩ := r
        obtain ⟨t', rfl⟩ := r'
        obtain ⟨t'', rfl⟩ := r''
        refine call_range_3 c0 ?_ (.inl (PyProof.noPylong_small c1))
        have I2 : Inv X pins σ H1 { s1 with heap := s1.heap.push { cls := .type "range", data := .fields #[.int i t, .int j t', .int k t''] } } := I1.kept (t' := s1.toks) fun b o e => Heap.get?_push_of_some _ e
        refine args_nil ?_
        refine call_list_range (n := n) (I2.ok.hd hc) (IsRange.new ..) c2 c3 nl fun h' tk acc c' hk e' hi => ?_
        refine ⟨.ref _, upd H1 _ (.lst (rgC i k n)), I2.laid hk (Nat.le_refl _) (show ObjOk X.prog X.w _ _ _ (.lst (rgC i k n)) from ⟨?_, acc.toList, c', vals_rgC hi, ?_⟩), rfl, q _ (I2.hok.fresh (Nat.le_refl _))⟩
        · unfold rgC
          rw [List.length_map, List.length_range, sizeLine_eq]
          omega
        · rw [Array.toArray_toList]; exact e'
def wLRng3 (fas : Fx (List D)) : Fx (List D) := fun env P R => fas env (fun ds => match ds with
  | [.int i, .int j, .int c] => ∃ n : Nat, RgC i j c n ∧ n ≤ 2 ^ 24 ∧ P (rangeC i c n)
  | _ => False) R
theorem pl_lrng3 {b c : Expr} {p2 pos2 : Pos} (hc : X.calm = true) (hg : Gl X "list") (hm : X.mg "list" = none) (hg2 : Gl X "range") (hm2 : X.mg "range" = none) (ha : PDA B W X [a, b, c] fas)
    (hs : starEach [a, b, c] X.env = (false, eval a X.env) :: starEach [b, c] X.env := by rfl) (hpl : (backTo pos2 (starEach [b, c] X.env)).any (·.1) = false := by rfl)
    (nb : starEach [.Call (.Name "range" p2) [a, b, c] [] pos2] X.env = (false, eval (.Call (.Name "range" p2) [a, b, c] [] pos2) X.env) :: starEach [] X.env := by rfl) :
    PL B W X (.Call (.Name "list" p) [.Call (.Name "range" p2) [a, b, c] [] pos2] [] pos) (wLRng3 fas) :=
  (pe_listRg3 hc hg hm hg2 hm2 ha hs hpl nb).imp fun σ H Q ⟨G, env, P, R, rel, hF, hP, hR⟩ => ⟨G, env, _, R, rel, hF, fun ds pd vs G1 H1 g1 rvs => by
    split at pd
    · obtain ⟨n, hn, nl, pp⟩ := pd
      obtain ⟨v, u, w, rfl, h1, h2, h3⟩ := rvs.three_inv
      cases h1
      cases h2
      cases h3
      exact ⟨_, _, _, n, rfl, hn, nl, fun q nq => hP _ pp q _ G1 _ (g1.trans (Grow.own g1.gh nq)) (Evl.fresh_back g1.h nq) (Evl.fresh_back g1.gh nq) upd_same (repA_range X.K G1 (fun k => _ + (k : Nat) * _) n)⟩
    · exact pd.elim, hR⟩
end
/-! ### dict displays -/
def wPairs : List (Fx D × Fx D) → Fx (List (D × D))
  | [] => fun _ P _ => P []
  | f :: r => fun env P R => f.1 env (fun k => f.2 env (fun v => wPairs r env (fun ps => P ((k, v) :: ps)) R) R) R
def keysOf : List (D × D) → Option (List (Key × D))
  | [] => some []
  | kd :: r => match keyOf kd.1, keysOf r with
    | some k, some ps => some ((k, kd.2) :: ps)
    | _, _ => none
def wDisp (fs : List (Fx D × Fx D)) : Fx (List Key × List D) := fun env P R => wPairs fs env (fun ps => match keysOf ps with | some ks => P (putAll ([], []) ks) | none => False) R
section
variable {B : Bs} {W : WX} {X : Cx}
inductive RepP (K : PySem.W.Frag) (G : Hp) : List (V × V) → List (D × D) → Prop
  | nil : RepP K G [] []
  | cons {k v : V} {dk dv : D} {ps : List (V × V)} {ds : List (D × D)} (hk : Rep K G k dk) (hv : Rep K G v dv) (r : RepP K G ps ds) : RepP K G ((k, v) :: ps) ((dk, dv) :: ds)
theorem RepP.keys {K : PySem.W.Frag} {G : Hp} : ∀ {ps : List (V × V)} {ds : List (D × D)} {ks : List (Key × D)}, RepP K G ps ds → keysOf ds = some ks → ∃ kvs : List (Key × V), ps = kvs.map (fun kv => (kV kv.1, kv.2)) ∧ kvs.map (·.1) = ks.map (·.1) ∧ RepA K G (kvs.map (·.2)) (ks.map (·.2))
  | _, _, _, .nil, h => by
    cases h
    exact ⟨[], rfl, rfl, .nil⟩
  | _, _, _, .cons hk hv r, h => by
    unfold keysOf at h
    split at h
    · rename_i k ps h1 h2
      cases h
      obtain ⟨kvs, rfl, e, rr⟩ := r.keys h2
      have := keyOf_rep hk h1
      subst this
      exact ⟨(k, _) :: kvs, rfl, by simp [e], .cons hv rr⟩
    · cases h
theorem pairs_ok {K : PySem.W.Frag} : ∀ (fs : List (Fx D × Fx D)) {σ : L2.St} {G H : Hp} {env : En} {P : List (D × D) → Prop} {R : Err → Prop} {Q : List (V × V) → Hp → Prop}, Rel K B G σ H env → wPairs fs env P R → (∀ e, R e → ErrTo K G H W σ e) →
    (∀ ps, P ps → ps.length = fs.length → ∀ vs G' H', Grow G H G' H' → RepP K G' vs ps → Q vs H') → tPairs (fs.map fun f => (tP K B W f.1, tP K B W f.2)) σ H Q
  | [], σ, G, H, env, P, R, Q, rel, hF, hR, k => k [] hF rfl [] G H (Grow.refl rel.gh) .nil
  | f :: fs, σ, G, H, env, P, R, Q, rel, hF, hR, k => ⟨G, env, _, R, rel, hF, fun dx px x G1 H1 g1 rx => ⟨G1, env, _, R, rel.grow g1, px, fun dy py y G2 H2 g2 ry =>
      pairs_ok fs ((rel.grow g1).grow g2) py (fun e re => (hR e re).grow (g1.trans g2)) fun ps pp pl vs G3 H3 g3 rr => k _ pp (congrArg (· + 1) pl) _ G3 H3 ((g1.trans g2).trans g3) (.cons ((rx.ex g2.g).ex g3.g) (ry.ex g3.g) rr), fun e re => (hR e re).grow g1⟩, hR⟩
theorem keysOf_len : ∀ {ds : List (D × D)} {ks : List (Key × D)}, keysOf ds = some ks → ks.length = ds.length
  | [], _, h => by cases h; rfl
  | _ :: ds, _, h => by
    unfold keysOf at h
    split at h
    · rename_i k ps h1 h2
      cases h
      exact congrArg (· + 1) (keysOf_len h2)
    · cases h
theorem RepP.len {K : PySem.W.Frag} {G : Hp} : ∀ {ps : List (V × V)} {ds : List (D × D)}, RepP K G ps ds → ps.length = ds.length
  | _, _, .nil => rfl
  | _, _, .cons _ _ r => congrArg (· + 1) r.len
inductive PPd (B : Bs) (W : WX) (X : Cx) : List (Option Expr) → List Expr → List (Fx D × Fx D) → Prop
  | nil : PPd B W X [] [] []
  | cons {k v : Expr} {ks vs fs} {fk fv : Fx D} (hk : PD B W X k fk) (hv : PD B W X v fv) (r : PPd B W X ks vs fs) : PPd B W X (some k :: ks) (v :: vs) ((fk, fv) :: fs)
theorem PPd.pps {pos : Pos} : ∀ {ks : List (Option Expr)} {vs : List Expr} {fs : List (Fx D × Fx D)}, PPd B W X ks vs fs → PPs X pos ks vs (fs.map fun f => (tP X.K B W f.1, tP X.K B W f.2))
  | _, _, _, .nil => pps_nil
  | _, _, _, .cons hk hv r => pps_cons hk hv r.pps
theorem PPd.lens : ∀ {ks : List (Option Expr)} {vs : List Expr} {fs : List (Fx D × Fx D)}, PPd B W X ks vs fs → fs.length = ks.length
  | _, _, _, .nil => rfl
  | _, _, _, .cons _ _ r => congrArg (· + 1) r.lens
theorem pk_disp {pos : Pos} {ks : List (Option Expr)} {vs : List Expr} {fs : List (Fx D × Fx D)} (h : PPd B W X ks vs fs) (hall : ks.all (·.isSome) = true) (hl : ks.length = vs.length) (h0 : ks ≠ []) (h15 : ks.length ≤ 15) : PK' B W X (.Dict ks vs pos) (wDisp fs) :=
  (pe_disp h.pps hall hl h0 h15).imp fun σ H Q ⟨G, env, P, R, rel, hF, hP, hR⟩ => fun p np => by
    have g0 : Grow G H G (upd H p (.dK [])) := Grow.own rel.gh np
    refine pairs_ok fs (rel.grow g0) hF (fun e re => (hR e re).grow g0) fun ps pp pl vs' G2 H2 g2 rr => ?_
    split at pp
    · rename_i kds hk
      obtain ⟨kvs, rfl, e1, e2⟩ := rr.keys hk
      have hp := g2.h _ _ (upd_same (H := H) (a := p) (o := HO.dK []))
      refine ⟨hp, kvs, rfl, ?_, ?_⟩
      · have h1 := rr.len
        have hfl := h.lens
        rw [List.length_map] at h1
        omega
      · obtain ⟨z1, z2⟩ := putAll_of (x := ([], [])) (kvs := []) e1 e2 rfl .nil
        have nG : G p = none := Evl.fresh_back rel.gh np
        have nG2 : G2 p = none := (g2.nw p (by rw [upd_same]; simp)).trans nG
        have gg := g0.trans g2
        have ne : ∀ a o, H a = some o → a ≠ p := fun a o k z => by rw [z, np] at k; cases k
        have ne2 : ∀ a o, G2 a = some o → a ≠ p := fun a o k z => by rw [z, nG2] at k; cases k
        exact hP _ pp p _ G2 _ ⟨gg.g, fun a u k => by rw [upd_ne (ne a u k)]; exact gg.h _ _ k, fun a u k => by rw [upd_ne (ne2 a u k)]; exact gg.gh _ _ k, gg.nw⟩ np nG2 upd_same z1 z2
    · exact pp.elim
/-- d[k] of a new dict -/
@[irreducible] def wDixK (f : Fx (List Key × List D)) (fk : Fx D) : Fx D := fun env P R => f env (fun x => fk env (fun k => match keyOf k with
  | some kk => match dget x.1 x.2 kk with
    | some d => P d
    | none => False
  | none => False) R) R
theorem pd_dixK {e : Expr} {f : Fx (List Key × List D)} {fa : Fx D} (h : PE X e (tDGet (tK X.K B W f) (tP X.K B W fa))) : PD B W X e (wDixK f fa) :=
  h.imp fun σ H Q ⟨G, env, P, R, rel, hF, hP, hR⟩ => by
    unfold wDixK at hF
    refine ⟨G, env, _, R, rel, hF, fun x px p kvs G1 H1 g1 n1 n2 h2 ek rk => ?_, hR⟩
    have g1' := g1.see n1 n2 h2
    refine ⟨_, env, _, R, rel.grow g1', px, fun dk pk vk G2 H2 g2 rkk => ?_, fun e re => (hR e re).grow g1'⟩
    split at pk
    · rename_i kk hk
      have ekk := keyOf_rep rkk hk
      subst ekk
      split at pk
      · rename_i d hd
        rw [← ek] at hd
        obtain ⟨v, hv, rv⟩ := (dget_of (k := kk) (rk.ex ((exn n2).trans g2.g))).1 d hd
        exact ⟨p, v, rfl, by rw [← hv]; exact DGet.k (g2.h _ _ h2), hP _ pk v _ _ (g1'.trans g2) rv⟩
      · exact pk.elim
    · exact pk.elim
end
end Pd
set_option maxRecDepth 100000
set_option maxHeartbeats 4000000
/-! defs of one row that return a new list, which is the caller's own -/
namespace Pd
open PySem PySem.Spec PyProof.Rows L2 Pre
abbrev Fl := List D → (List D → Prop) → (Err → Prop) → Prop
def spPL (K : PySem.W.Frag) (n : Nat) (F : Fl) : Sp := fun vs H Q E => ∃ G ds P R, Ex G H ∧ RepA K G vs ds ∧ ds.length = n ∧ F ds P R ∧ (∀ d, P d → ∀ p us G' H', Grow G H G' H' → H p = none → G' p = none → H' p = some (.lst us) → RepA K G' us d → Q (.ref p) H') ∧ ∀ e, R e → ErrTo K G H (fun c d _ H => E c d H) [] e
theorem spPL_len {K : PySem.W.Frag} {n : Nat} {F : Fl} (vs : List V) (H : Hp) (Q : VK) (E : XK) (h : spPL K n F vs H Q E) : vs.length = n := by
  obtain ⟨G, ds, P, R, _, r, hl, _⟩ := h
  rw [r.len, hl]
theorem okPL {P : Program} {w : World} {K : PySem.W.Frag} {mg : Str → Option Value} {base : Heap} {x qual : Str} {st : Stmt} {f : Addr} {fd : FuncData} {N ps : List Str} {k n : Nat} {F : Fl} {a : Expr} {pos : Pos} (Fn : Fun K x qual st f fd) (S : FnScope N ps (defScope st)) (hn : ps.length = n) (hst : defBody st = [.Return (some a) pos])
    (hbody : ∀ (cdv : Value) (A : Around) (outer : List Env) (s : Shared) (H : Hp) (E : XK) (B : Bs), Room k (A.deeper (envOfC qual (defScope st) s.heap.objs.size f cdv)) →
      ∃ Fb, PL B (fun c d _ H => E c d H) (cxOf (L2.CX P w) P w K mg base N qual (defScope st) f cdv A outer s H E) a Fb ∧ ∀ ds Q R, ds.length = n → F ds Q R → Fb (startE N.length ds) Q R) :
    FnOk P w K mg base (L2.CX P w) (k + 1) f fd ps (spPL K n F) := by
  refine Fn.okX S (fun vs H Q E h => by rw [hn]; exact spPL_len vs H Q E h) fun cdv A outer s H vs Q E hr hsp => ?_
  obtain ⟨G, ds, P', R', eg, r, hl, hF, hP, hR⟩ := hsp
  obtain ⟨Fb, hb, hq⟩ := hbody cdv A outer s H E ⟨G, H⟩ hr
  rw [hst]
  refine ⟨_, pss_one (ps_ret hb), G, startE N.length ds, P', R', ?_, hq ds P' R' hl hF, fun d pd p us G1 H1 g1 n1 n2 h1 rs => hP d pd p us G1 H1 g1 n1 n2 h1 rs, fun e re => (hR e re).slots⟩
  unfold L2.start startE
  rw [r.len]
  exact Rel.start eg r _
section
variable {B : Bs} {W : WX} {X : Cx} {a e : Expr} {es : List Expr} {fas : Fx (List D)} {x : Str} {p pos : Pos} {fn : Addr} {fd : FuncData} {ps : List Str} {k n : Nat}
def wCallN (n : Nat) (F : Fl) (fas : Fx (List D)) : Fx (List D) := fun env P R => fas env (fun ds => ds.length = n ∧ F ds P R) R
theorem pl_call {F : Fl} (hF0 : FnOk X.prog X.w X.K X.mg X.base (L2.CX X.prog X.w) k fn fd ps (spPL X.K n F)) (hr : Room k X.A) (hg : Gl X x) (hm : X.mg x = some (.ref fn)) (hk : PySem.W.keepIn X.K (.ref fn) = true) (hb : Binds X.K fd ps []) (tk : Takes X W)
    (ha : PDA B W X (e :: es) fas) (hdb : (x == ("__debug__" : Str)) = false := by decide) (he : starEach (e :: es) X.env = (false, eval e X.env) :: starEach es X.env := by rfl) (hpl : (backTo pos (starEach es X.env)).any (·.1) = false := by rfl) :
    PL B W X (.Call (.Name x p) (e :: es) [] pos) (wCallN n F fas) :=
  (pe_callS hF0 hr hg hm hk hb (fun σ => passAt tk σ) ha hdb he hpl).imp fun σ H Q ⟨G, env, P, R, rel, hF, hP, hR⟩ => ⟨G, env, _, R, rel, hF, fun ds pd vs G1 H1 g1 rvs =>
    ⟨G1, ds, P, R, g1.gh, rvs, pd.1, pd.2, fun d pd p us G2 H2 g2 n1 n2 h2 rv => hP d pd p us G2 H2 (g1.trans g2) (Evl.fresh_back g1.h n1) n2 h2 rv, fun e re => ((hR e re).grow g1).call⟩, hR⟩
end
end Pd
set_option maxRecDepth 100000
set_option maxHeartbeats 4000000
/-! the pure kit: how meanings are computed -/
namespace Pd
open PySem PySem.Spec PyProof.Rows L2 Pre
/-! ### ifs -/
theorem wT {b : Bool} {p q : Prop} (h : b = true) (a : p) : if b = true then p else q := by rw [if_pos h]; exact a
theorem wF {b : Bool} {p q : Prop} (h : b = false) (a : q) : if b = true then p else q := by rw [if_neg (by rw [h]; decide)]; exact a
theorem wTF {b : Bool} {p q : Prop} (h1 : b = true → p) (h2 : b = false → q) : if b = true then p else q := by
  cases hb : b with
  | true => rw [if_pos rfl]; exact h1 hb
  | false => rw [if_neg (by decide)]; exact h2 hb
theorem nT {p : Prop} [Decidable p] (h : p) : (!decide p) = false := by rw [decide_eq_true h]; rfl
theorem nF {p : Prop} [Decidable p] (h : ¬ p) : (!decide p) = true := by rw [decide_eq_false h]; rfl
/-! ### loops -/
structure LpQ (P : Out → Prop) (I : En → Prop) (Q : Out → Prop) : Prop where
  nx : ∀ e, I e → Q (.nx e)
  ct : ∀ e, I e → Q (.ct e)
  bk : ∀ e, P (.nx e) → Q (.bk e)
  rt : ∀ d, P (.rt d) → Q (.rt d)
  er : ∀ e r, P (.er e r) → Q (.er e r)
theorem loop_inv {s : Tg} {body : Fs} {P : Out → Prop} (Inv : Nat → En → Prop) : ∀ (ds : List D) (n : Nat) (env : En), Inv n env →
    (∀ i d e0 (Q : Out → Prop), ds[i]? = some d → Inv (n + i) e0 → LpQ P (Inv (n + i + 1)) Q → ∃ e, s d e0 = some e ∧ body e Q) → (∀ e, Inv (n + ds.length) e → P (.nx e)) → wLoop s body ds env P
  | [], n, env, h0, step, fin => fin _ h0
  | d :: ds, n, env, h0, step, fin => by
    obtain ⟨e, he, hb⟩ := step 0 d env (fun o => match o with | .nx e => wLoop s body ds e P | .ct e => wLoop s body ds e P | .bk e => P (.nx e) | .rt d => P (.rt d) | .er e r => P (.er e r)) rfl h0 (by
      have go : ∀ e, Inv (n + 1) e → wLoop s body ds e P := fun e he => loop_inv Inv ds (n + 1) e he (fun i d e0 Q hd hi hq => step (i + 1) d e0 Q (by simpa using hd) (by rw [show n + (i + 1) = n + 1 + i from by omega]; exact hi) (by rw [show n + (i + 1) = n + 1 + i from by omega]; exact hq))
        fun e hi => fin e (by rw [List.length_cons, show n + (ds.length + 1) = n + 1 + ds.length from by omega]; exact hi)
      exact ⟨go, go, fun _ h => h, fun _ h => h, fun _ _ h => h⟩)
    unfold wLoop
    rw [he]
    exact hb
theorem for_inv {fi : Fx (List D)} {s : Tg} {body : Fs} {env : En} {P : Out → Prop} (ds : List D) (hi : ∀ (Q : List D → Prop) R, Q ds → fi env Q R) (Inv : Nat → En → Prop) (h0 : Inv 0 env)
    (step : ∀ i d e0 (Q : Out → Prop), ds[i]? = some d → Inv i e0 → LpQ P (Inv (i + 1)) Q → ∃ e, s d e0 = some e ∧ body e Q) (fin : ∀ e, Inv ds.length e → P (.nx e)) : wFor fi s body env P := by
  unfold wFor
  exact hi _ _ (loop_inv Inv ds 0 env h0 (fun i d e0 Q hd h hq => step i d e0 Q hd (by simpa using h) (by simpa using hq)) (by simpa using fin))
/-! ### comprehensions -/
section
variable {vs : List Nat} {s : Tg} {gt : Fx Bool} {fe : Fx D} {env : En} {P : List D → Prop} {R : Err → Prop}
theorem lc_go (Rl : Nat → D → Prop) : ∀ (ds acc : List D) (n : Nat), acc.length + ds.length ≤ sizeLine →
    (∀ i d (Q : D → Prop), ds[i]? = some d → (∀ y, Rl (n + i) y → Q y) → ∃ e1, s d (wipeE env vs) = some e1 ∧ fe e1 Q (fun _ => False)) →
    (∀ ys : List D, ys.length = ds.length → (∀ i y, ys[i]? = some y → Rl (n + i) y) → P (acc ++ ys)) → wLc vs s wYes fe ds acc env P R
  | [], acc, n, hl, step, k => by
    show P acc
    simpa using k [] rfl (by simp)
  | d :: ds, acc, n, hl, step, k => by
    rw [List.length_cons] at hl
    obtain ⟨e1, he, hb⟩ := step 0 d (fun y => acc.length < sizeLine ∧ wLc vs s wYes fe ds (acc ++ [y]) env P R) rfl fun y hy => ⟨by omega, lc_go Rl ds (acc ++ [y]) (n + 1) (by simp; omega)
      (fun i d Q hd hq => step (i + 1) d Q (by simpa using hd) (by rw [show n + (i + 1) = n + 1 + i from by omega]; exact hq)) fun ys h1 h2 => by
        rw [List.append_assoc]
        refine k (y :: ys) (by simp [h1]) fun i z hz => ?_
        cases i with
        | zero =>
          have : y = z := by simpa using hz
          rw [← this]
          exact hy
        | succ i => rw [show n + (i + 1) = n + 1 + i from by omega]; exact h2 i z (by simpa using hz)⟩
    unfold wLc
    rw [he]
    exact hb
/-- each turn gives something -/
theorem lc_rel {ds : List D} (Rl : Nat → D → Prop) (hl : ds.length ≤ sizeLine) (step : ∀ i d (Q : D → Prop), ds[i]? = some d → (∀ y, Rl i y → Q y) → ∃ e1, s d (wipeE env vs) = some e1 ∧ fe e1 Q (fun _ => False))
    (k : ∀ ys : List D, ys.length = ds.length → (∀ i y, ys[i]? = some y → Rl i y) → P ys) : wLc vs s wYes fe ds [] env P R :=
  lc_go Rl ds [] 0 (by simpa using hl) (fun i d Q hd hq => step i d Q hd (by simpa using hq)) fun ys h1 h2 => k ys h1 fun i y hy => by simpa using h2 i y hy
/-- each turn gives just this -/
theorem lc_map {ds : List D} (g : D → D) (hl : ds.length ≤ sizeLine) (step : ∀ d ∈ ds, ∀ Q : D → Prop, Q (g d) → ∃ e1, s d (wipeE env vs) = some e1 ∧ fe e1 Q (fun _ => False)) (k : P (ds.map g)) : wLc vs s wYes fe ds [] env P R :=
  lc_rel (fun i y => ∃ d, ds[i]? = some d ∧ y = g d) hl (fun i d Q hd hq => step d (List.mem_of_getElem? hd) Q (hq _ ⟨d, hd, rfl⟩)) fun ys h1 h2 => by
    have : ys = ds.map g := by
      apply List.ext_getElem?
      intro i
      rw [List.getElem?_map]
      cases hy : ys[i]? with
      | none =>
        have : ds[i]? = none := List.getElem?_eq_none (by have := List.getElem?_eq_none_iff.mp hy; omega)
        rw [this]; rfl
      | some y =>
        obtain ⟨d, hd, rfl⟩ := h2 i y hy
        rw [hd]; rfl
    rw [this]
    exact k
theorem lc_fgo (c : D → Bool) (g : D → D) : ∀ (ds acc : List D), acc.length + ds.length ≤ sizeLine →
    (∀ d ∈ ds, ∃ e1, s d (wipeE env vs) = some e1 ∧ (∀ Q : Bool → Prop, Q (c d) → gt e1 Q (fun _ => False)) ∧ (c d = true → ∀ Q : D → Prop, Q (g d) → fe e1 Q (fun _ => False))) → P (acc ++ (ds.filter c).map g) → wLc vs s gt fe ds acc env P R
  | [], acc, hl, step, k => by
    show P acc
    simpa using k
  | d :: ds, acc, hl, step, k => by
    rw [List.length_cons] at hl
    obtain ⟨e1, he, h1, h2⟩ := step d List.mem_cons_self
    unfold wLc
    rw [he]
    refine h1 _ (wTF (fun hc => h2 hc _ ⟨by omega, lc_fgo c g ds (acc ++ [g d]) (by simp; omega) (fun d hd => step d (List.mem_cons_of_mem _ hd)) ?_⟩) fun hc => lc_fgo c g ds acc (by omega) (fun d hd => step d (List.mem_cons_of_mem _ hd)) ?_)
    · rw [List.filter_cons_of_pos hc] at k
      simpa using k
    · rw [List.filter_cons_of_neg (by rw [hc]; decide)] at k
      exact k
/-- those of which the test holds -/
theorem lc_sel {ds : List D} (c : D → Bool) (g : D → D) (hl : ds.length ≤ sizeLine) (step : ∀ d ∈ ds, ∃ e1, s d (wipeE env vs) = some e1 ∧ (∀ Q : Bool → Prop, Q (c d) → gt e1 Q (fun _ => False)) ∧ (c d = true → ∀ Q : D → Prop, Q (g d) → fe e1 Q (fun _ => False)))
    (k : P ((ds.filter c).map g)) : wLc vs s gt fe ds [] env P R := lc_fgo c g ds [] (by simpa using hl) step (by simpa using k)
end
theorem small (n : Nat) (h : n ≤ 100000 := by omega) : n ≤ sizeLine := by rw [sizeLine_eq]; omega
/-! ### signs and names -/
theorem signs_len (z : Str) : (Pd.signs z).length = z.length := by
  unfold Pd.signs
  rw [List.length_map]
  show _ = z.cps.size
  simp
theorem signs_get {z : Str} {i : Nat} {d : D} (h : (signs z)[i]? = some d) : ∃ c, z.cps.toList[i]? = some c ∧ d = .str ⟨#[c]⟩ := by
  unfold signs at h
  rw [List.getElem?_map] at h
  cases hc : z.cps.toList[i]? with
  | none => rw [hc] at h; cases h
  | some c => rw [hc] at h; cases h; exact ⟨c, rfl, rfl⟩
def isLetter (c : Nat) : Bool := decide (97 ≤ c ∧ c ≤ 122)
def isName (s : Str) : Bool := decide (1 ≤ s.length) && (decide (s.length ≤ 8) && s.cps.toList.all isLetter)
theorem len_cps (s : Str) : s.length = s.cps.toList.length := by
  show s.cps.size = _
  simp
theorem letters_list : ("abcdefghijklmnopqrstuvwxyz" : Str).cps.toList = (List.range 26).map (· + 97) := by decide +kernel
theorem letter_mem (c : Nat) : decide (c ∈ ("abcdefghijklmnopqrstuvwxyz" : Str).cps.toList) = isLetter c := by
  rw [letters_list]
  unfold isLetter
  apply decide_eq_decide.mpr
  simp only [List.mem_map, List.mem_range]
  constructor
  · rintro ⟨a, h1, h2⟩
    omega
  · intro h
    exact ⟨c - 97, by omega, by omega⟩
/-! ### order of texts -/
theorem sLt_irrefl (a : Str) : sLt a a = false := decide_eq_false (List.lt_irrefl _)
theorem sLt_trans {a b c : Str} (h1 : sLt a b = true) (h2 : sLt b c = true) : sLt a c = true := decide_eq_true (List.lt_trans (of_decide_eq_true h1) (of_decide_eq_true h2))
theorem str_ext {a b : Str} (h : a.cps.toList = b.cps.toList) : a = b := by
  cases a
  cases b
  exact congrArg _ (Array.toList_inj.mp h)
theorem sLt_tri {a b : Str} (h1 : sLt a b = false) (h2 : sLt b a = false) : a = b := str_ext (by
  have e1 := of_decide_eq_false h1
  have e2 := of_decide_eq_false h2
  exact List.le_antisymm (List.not_lt.mp e2) (List.not_lt.mp e1))
/-! ### built-ins, read -/
section
variable {Q : D → Prop}
theorem all_ok {ds : List D} (bs : List Bool) (h : ds = bs.map D.bl) (q : Q (.bl (bs.all id))) : φAll false [.lst ds] Q := by
  subst h
  show match allB (bs.map D.bl) with | some ns => Q (.bl (if false = true then ns.any id else ns.all id)) | none => False
  rw [allB_map]
  exact q
theorem any_ok {ds : List D} (bs : List Bool) (h : ds = bs.map D.bl) (q : Q (.bl (bs.any id))) : φAll true [.lst ds] Q := by
  subst h
  show match allB (bs.map D.bl) with | some ns => Q (.bl (if true = true then ns.any id else ns.all id)) | none => False
  rw [allB_map]
  exact q
theorem sum_ok {ds : List D} (ns : List Int) (h : ds = ns.map D.int) (q : Q (.int ns.sum)) : φSum [.lst ds] Q := by
  unfold φSum
  subst h
  show match allI (ns.map D.int) with | some ns => Q (.int ns.sum) | none => False
  rw [allI_map]
  exact q
theorem atI_nat {α : Type} {ds : List α} {i : Nat} {d : α} (h : ds[i]? = some d) : L2.atI ds (i : Int) = some d := L2.atI_nat h
theorem ixl (i : Nat) {ds : List D} {k : Int} {d : D} (h : ds[i]? = some d) (q : Q d) (hk : k = (i : Int) := by first | rfl | omega) : φIxU (.lst ds) (.int k) Q := by
  unfold φIxU
  subst hk
  show match L2.atI ds (i : Int) with | some d => Q d | none => False
  rw [L2.atI_nat h]
  exact q
theorem ixt (i : Nat) {ds : List D} {k : Int} {d : D} (h : ds[i]? = some d) (q : Q d) (hk : k = (i : Int) := by first | rfl | omega) : φIxU (.tup ds) (.int k) Q := by
  unfold φIxU
  subst hk
  show match L2.atI ds (i : Int) with | some d => Q d | none => False
  rw [L2.atI_nat h]
  exact q
theorem ixf (i : Nat) {ds : List D} {k : Int} {d : D} (h : ds[i]? = some d) (q : Q d) (hk : k = (i : Int) := by first | rfl | omega) : φIxU (.frz ds) (.int k) Q := by
  unfold φIxU
  subst hk
  show match L2.atI ds (i : Int) with | some d => Q d | none => False
  rw [L2.atI_nat h]
  exact q
theorem ixs (i : Nat) {z : Str} {k : Int} {c : Nat} (h : z.cps.toList[i]? = some c) (hl : z.length ≤ 16777216) (q : Q (.str ⟨#[c]⟩)) (hk : k = (i : Int) := by first | rfl | omega) : φIxU (.str z) (.int k) Q := by
  unfold φIxU
  subst hk
  refine ⟨by rw [sizeLine_eq]; exact hl, ?_⟩
  show match L2.atI z.cps.toList (i : Int) with | some c => Q (.str ⟨#[c]⟩) | none => False
  rw [L2.atI_nat h]
  exact q
/-- the last of a list -/
theorem ixl_last {ds : List D} {d : D} (h : ds.getLast? = some d) (q : Q d) : φIxU (.lst ds) (.int (-1)) Q := by
  unfold φIxU
  cases hl : ds.length with
  | zero => rw [List.length_eq_zero_iff.mp hl] at h; cases h
  | succ n =>
    have e : L2.atI ds (-1) = some d := by
      unfold L2.atI
      have : ixN ds.length (-1) = some n := by
        unfold ixN
        rw [hl, if_neg (by omega), if_pos (by omega)]
        exact congrArg some (by omega)
      rw [this]
      show ds[n]? = some d
      rw [← h, List.getLast?_eq_getElem?, hl]
      rfl
    show match L2.atI ds (-1) with | some d => Q d | none => False
    rw [e]
    exact q
end
/-- the sign's part of is_name -/
def letD : D → Bool
  | .str z => match z.cps.toList with
    | [c] => isLetter c
    | _ => false
  | _ => false
theorem map_letD (s : Str) : (signs s).map (fun d => D.bl (letD d)) = (s.cps.toList.map isLetter).map D.bl := by
  unfold signs
  rw [List.map_map, List.map_map]
  rfl
/-- a pop at a drawn place -/
theorem popAt_ok {i : Nat} {env : En} {fa : Fx D} {P : D → En → Prop} {R : Err → Prop} {ds : List D} (he : env[i]? = some (.l ds)) (hf : ∀ Q' : D → Prop, (∀ r : Nat, r < ds.length → Q' (.int r)) → fa env Q' R) (hl : ds.length ≤ 100000)
    (k : ∀ r (h : r < ds.length), P ds[r] (env.set i (.l (ds.eraseIdx r)))) : wPopAt i fa env P R := by
  unfold wPopAt
  rw [he]
  refine hf _ fun r hr => ⟨⟨by omega, by omega⟩, ?_⟩
  have e1 : seqIndex? (r : Int) ds.length = some r := by
    have h0 : ¬ ((r : Int) < 0) := by omega
    simp [seqIndex?, h0, hr]
  rw [e1]
  simp only
  rw [List.getElem?_eq_getElem hr]
  exact k r hr
theorem erase_perm {α : Type} {l : List α} {r : Nat} (h : r < l.length) : (l[r] :: l.eraseIdx r).Perm l := by
  have e : l = l.take r ++ l[r] :: l.drop (r + 1) := by rw [← List.drop_eq_getElem_cons h, List.take_append_drop]
  rw [List.eraseIdx_eq_take_drop_succ]
  conv => rhs; rw [e]
  exact List.perm_middle.symm
/-- one of two, by a test -/
theorem ixl2 {b : Bool} {x y : D} {Q : D → Prop} (h : ∀ z, z = x ∨ z = y → Q z) : φIxU (.lst [x, y]) (.int (if b = true then 1 else 0)) Q := by
  cases b with
  | true => exact ixl 1 rfl (h y (.inr rfl))
  | false => exact ixl 0 rfl (h x (.inl rfl))
end Pd
set_option maxRecDepth 100000
set_option maxHeartbeats 4000000
/-! data: == of trees -/
namespace Pd
open PySem PySem.Spec PyProof.Rows L2 Pre
theorem leR {a b : Nat} (h : Nat.ble a b = true := by rfl) : a ≤ b := Nat.le_of_ble_eq_true h
mutual
def okD : D → Bool
  | .non => true | .bl _ => true | .int _ => true
  | .str s => PyData.strOk s
  | .lst ds => okA ds
  | .tup ds => okA ds
  | _ => false
def okA : List D → Bool
  | [] => true
  | d :: ds => okD d && okA ds
end
mutual
def dep : D → Nat
  | .lst ds => depA ds + 1
  | .tup ds => depA ds + 1
  | _ => 0
def depA : List D → Nat
  | [] => 0
  | d :: ds => max (dep d) (depA ds)
end
mutual
theorem toPy_ok : ∀ d : D, okD d = true → toPy d = some (py d) ∧ (py d).canLay0 = true ∧ (py d).depth = dep d
  | .non, h => ⟨rfl, rfl, rfl⟩
  | .bl _, h => ⟨rfl, rfl, rfl⟩
  | .int _, h => ⟨rfl, rfl, rfl⟩
  | .str s, h => ⟨rfl, by
      show PyData.canLay0 (.str s) = true
      simpa [PyData.canLay0, okD] using h, rfl⟩
  | .lst ds, h => by
    obtain ⟨h1, h2, h3⟩ := toPyA_ok ds (by simpa [okD] using h)
    have e : toPy (.lst ds) = some (.list (ds.map py)) := by simp [toPy, h1]
    have e2 : py (.lst ds) = .list (ds.map py) := by unfold py; rw [e]; rfl
    rw [e2]
    exact ⟨e, by simpa [PyData.canLay0] using h2, by simp [PyData.depth, dep, h3]⟩
  | .tup ds, h => by
    obtain ⟨h1, h2, h3⟩ := toPyA_ok ds (by simpa [okD] using h)
    have e : toPy (.tup ds) = some (.tuple (ds.map py)) := by simp [toPy, h1]
    have e2 : py (.tup ds) = .tuple (ds.map py) := by unfold py; rw [e]; rfl
    rw [e2]
    exact ⟨e, by simpa [PyData.canLay0] using h2, by simp [PyData.depth, dep, h3]⟩
  | .byt _, h => by simp [okD] at h
  | .dic _ _, h => by simp [okD] at h
  | .obj _ _ _, h => by simp [okD] at h
  | .hid _, h => by simp [okD] at h
  | .frz _, h => by simp [okD] at h
  | .raw _, h => by simp [okD] at h
theorem toPyA_ok : ∀ ds : List D, okA ds = true → toPyA ds = some (ds.map py) ∧ PyData.canLayAll0 (ds.map py) = true ∧ PyData.depthAll (ds.map py) = depA ds
  | [], h => ⟨by simp [toPyA], rfl, rfl⟩
  | d :: ds, h => by
    simp only [okA, Bool.and_eq_true] at h
    obtain ⟨h1, h2, h3⟩ := toPy_ok d h.1
    obtain ⟨g1, g2, g3⟩ := toPyA_ok ds h.2
    refine ⟨by simp [toPyA, h1, g1], ?_, ?_⟩
    · rw [List.map_cons]
      simp [PyData.canLayAll0, h2, g2]
    · rw [List.map_cons]
      simp [PyData.depthAll, depA, h3, g3]
end
/-- == of data -/
def eqD (x y : D) : Bool := PyData.eqv (py x) (py y)
def eqA (xs ys : List D) : Bool := PyData.eqvAll (xs.map py) (ys.map py)
theorem py_tup {ds : List D} (h : okA ds = true) : py (.tup ds) = .tuple (ds.map py) := by
  obtain ⟨h1, _, _⟩ := toPyA_ok ds h
  unfold py
  simp only [toPy, h1]
  rfl
theorem py_lst {ds : List D} (h : okA ds = true) : py (.lst ds) = .list (ds.map py) := by
  obtain ⟨h1, _, _⟩ := toPyA_ok ds h
  unfold py
  simp only [toPy, h1]
  rfl
theorem eqD_tup {xs ys : List D} (h1 : okA xs = true) (h2 : okA ys = true) : eqD (.tup xs) (.tup ys) = eqA xs ys := by
  unfold eqD
  rw [py_tup h1, py_tup h2]
  simp [PyData.eqv, eqA]
theorem eqD_lst {xs ys : List D} (h1 : okA xs = true) (h2 : okA ys = true) : eqD (.lst xs) (.lst ys) = eqA xs ys := by
  unfold eqD
  rw [py_lst h1, py_lst h2]
  simp [PyData.eqv, eqA]
theorem eqD_refl {x : D} (h : okD x = true) : eqD x x = true := SeqAt.eqv_refl _ (toPy_ok x h).2.1
theorem shaped_of {x : D} (h : okD x = true) (hd : dep x ≤ 64) : SeqAt.shaped (py x) = true := by
  obtain ⟨h1, h2, h3⟩ := toPy_ok x h
  unfold SeqAt.shaped
  rw [h2, h3, decide_eq_true hd]
  rfl
theorem flat_eqD : ∀ {x y : D}, scalD x y = true → okD x = true → okD y = true → flatEq x y = eqD x y := by
  intro x y h h1 h2
  cases x <;> cases y <;> first | (cases h; done) | rfl | (simp [okD] at h1; done)
theorem eq_ok {neg : Bool} {x y : D} {Q : D → Prop} (h1 : okD x = true) (h2 : okD y = true) (d1 : dep x ≤ 64) (d2 : dep y ≤ 64) (q : Q (.bl (if neg then !eqD x y else eqD x y))) : φEqU neg x y Q := by
  unfold φEqU
  cases hs : scalD x y with
  | true =>
    show Q (.bl (if neg then !flatEq x y else flatEq x y))
    rw [flat_eqD hs h1 h2]
    exact q
  | false =>
    show φEqD neg x y Q
    unfold φEqD
    rw [(toPy_ok x h1).1, (toPy_ok y h2).1]
    exact ⟨shaped_of h1 d1, shaped_of h2 d2, q⟩
theorem inD_strs (s : Str) (ns : List Str) : inD (.str s) (ns.map D.str) = decide (s ∈ ns) := by
  unfold inD
  rw [List.any_map, Bool.eq_iff_iff, decide_eq_true_iff, List.any_eq_true]
  constructor
  · rintro ⟨x, h1, h2⟩
    have : x = s := beq_iff_eq.mp h2
    rw [← this]
    exact h1
  · intro h
    exact ⟨s, h, beq_iff_eq.mpr rfl⟩
theorem flat_strs (ns : List Str) : (ns.map D.str).all D.flat = true := by
  rw [List.all_map]
  exact List.all_eq_true.mpr fun _ _ => rfl
theorem in_tupS {neg : Bool} {s : Str} {ns : List Str} {Q : D → Prop} (q : Q (.bl (if neg then !decide (s ∈ ns) else decide (s ∈ ns)))) : φInU neg (.str s) (.tup (ns.map D.str)) Q := by
  unfold φInU
  refine ⟨rfl, flat_strs ns, ?_⟩
  rw [inD_strs]
  exact q
theorem in_lstS {neg : Bool} {s : Str} {ns : List Str} {Q : D → Prop} (q : Q (.bl (if neg then !decide (s ∈ ns) else decide (s ∈ ns)))) : φInU neg (.str s) (.lst (ns.map D.str)) Q := by
  unfold φInU
  refine ⟨rfl, flat_strs ns, ?_⟩
  rw [inD_strs]
  exact q
theorem in_sign {neg : Bool} {c : Nat} {z : Str} {Q : D → Prop} (q : Q (.bl (if neg then !decide (c ∈ z.cps.toList) else decide (c ∈ z.cps.toList)))) : φInU neg (.str ⟨#[c]⟩) (.str z) Q := by
  unfold φInU
  exact q
theorem eq_scal {neg : Bool} {x y : D} {Q : D → Prop} (h : scalD x y = true) (q : Q (.bl (if neg then !flatEq x y else flatEq x y))) : φEqU neg x y Q := by
  unfold φEqU
  rw [h]
  exact q
theorem isN_non {neg : Bool} {Q : D → Prop} (q : Q (.bl (!neg))) : φIsN neg .non .non Q := by
  unfold φIsN
  exact q
def some1 : D → Bool
  | .non => false | .raw _ => false
  | _ => true
theorem isN_not {neg : Bool} {x : D} {Q : D → Prop} (h : some1 x = true) (q : Q (.bl neg)) : φIsN neg x .non Q := by
  unfold φIsN
  cases x <;> first | exact q | (cases h; done)
theorem eqi {neg : Bool} {i j : Int} {Q : D → Prop} (q : Q (.bl (if neg then !decide (i = j) else decide (i = j)))) : φEqU neg (.int i) (.int j) Q := eq_ok rfl rfl leR leR (by
  have e : eqD (.int i) (.int j) = decide (i = j) := by
    show (i == j) = _
    rw [Bool.eq_iff_iff, beq_iff_eq, decide_eq_true_iff]
  rw [e]
  exact q)
theorem map_str_at {ns : List Str} {i : Nat} {d : D} (h : (ns.map D.str)[i]? = some d) : ∃ s, ns[i]? = some s ∧ d = .str s := by
  rw [List.getElem?_map] at h
  cases hp : ns[i]? with
  | none => rw [hp] at h; cases h
  | some p => rw [hp] at h; cases h; exact ⟨p, rfl, rfl⟩
theorem map_at {α : Type} {f : α → D} {ns : List α} {i : Nat} {d : D} (h : (ns.map f)[i]? = some d) : ∃ s, ns[i]? = some s ∧ d = f s := by
  rw [List.getElem?_map] at h
  cases hp : ns[i]? with
  | none => rw [hp] at h; cases h
  | some p => rw [hp] at h; cases h; exact ⟨p, rfl, rfl⟩
theorem at_map {α : Type} {f : α → D} {ns : List α} {i : Nat} {s : α} (h : ns[i]? = some s) : (ns.map f)[i]? = some (f s) := by
  rw [List.getElem?_map, h]
  rfl
end Pd
set_option maxRecDepth 100000
set_option maxHeartbeats 4000000
/-! sorting of texts, of rows by their names; texts put together -/
namespace Pd
open PySem PySem.Spec PyProof.Rows L2 Pre
theorem leD_trans (a b c : D) (h1 : leD a b = true) (h2 : leD b c = true) : leD a c = true := by
  unfold leD ltD PySem.W.dataLt at *
  cases h : PyProof.Rows.lexLt itemOrd (PySem.W.keyToks (py c)) (PySem.W.keyToks (py a)) with
  | false => rfl
  | true =>
    rcases lex_negTrans (O := itemOrd) _ (PySem.W.keyToks (py b)) _ h with q | q
    · rw [q] at h2; cases h2
    · rw [q] at h1; cases h1
theorem leD_total (a b : D) : (leD a b || leD b a) = true := by
  unfold leD ltD PySem.W.dataLt
  cases h : PyProof.Rows.lexLt itemOrd (PySem.W.keyToks (py b)) (PySem.W.keyToks (py a)) with
  | false => rfl
  | true =>
    cases h' : PyProof.Rows.lexLt itemOrd (PySem.W.keyToks (py a)) (PySem.W.keyToks (py b)) with
    | false => rfl
    | true =>
      have := lex_trans (O := itemOrd) _ _ _ h h'
      rw [lex_irrefl] at this
      cases this
theorem ltD_str (a b : Str) : ltD (.str a) (.str b) = sLt a b := PySem.W.dataLt_str a b
theorem perm_map {α : Type} {f : α → D} : ∀ {l : List D} {xs : List α}, l.Perm (xs.map f) → ∃ ys : List α, ys.Perm xs ∧ ys.map f = l := by
  intro l xs h
  generalize hm : xs.map f = m at h
  induction h generalizing xs with
  | nil =>
    have : xs = [] := List.map_eq_nil_iff.mp hm
    subst this
    exact ⟨[], .nil, rfl⟩
  | cons d h ih =>
    cases xs with
    | nil => cases hm
    | cons x xs =>
      simp only [List.map_cons, List.cons.injEq] at hm
      obtain ⟨rfl, hm⟩ := hm
      obtain ⟨ys, h1, h2⟩ := ih hm
      exact ⟨x :: ys, h1.cons x, by rw [List.map_cons, h2]⟩
  | swap a b l =>
    cases xs with
    | nil => cases hm
    | cons x xs =>
      cases xs with
      | nil => simp at hm
      | cons y xs =>
        simp only [List.map_cons, List.cons.injEq] at hm
        obtain ⟨rfl, rfl, rfl⟩ := hm
        exact ⟨y :: x :: xs, .swap _ _ _, rfl⟩
  | trans _ _ ih1 ih2 =>
    obtain ⟨zs, h1, h2⟩ := ih2 hm
    obtain ⟨ys, h3, h4⟩ := ih1 h2
    exact ⟨ys, h3.trans h1, h4⟩
/-- things with distinct names, sorted where a name is what is compared first -/
theorem sorted_by_mem {α : Type} (f : α → D) (n : α → Str) {xs : List α} (hf : ∀ a ∈ xs, ∀ b ∈ xs, n a ≠ n b → ltD (f a) (f b) = sLt (n a) (n b)) (hn : (xs.map n).Nodup) (ok : sortOk (xs.map f)) {Q : List D → Prop} (q : ∀ ys : List α, ys.Perm xs → (ys.map n).Pairwise (fun a b => sLt a b = true) → Q (ys.map f)) : φSorted [.lst (xs.map f)] Q := by
  unfold φSorted
  refine ⟨ok, ?_⟩
  have hp := List.mergeSort_perm (xs.map f) leD
  have hs := List.pairwise_mergeSort (le := leD) leD_trans leD_total (xs.map f)
  obtain ⟨ys, h1, h2⟩ := perm_map hp
  rw [← h2] at hs ⊢
  refine q ys h1 ?_
  have nd : (ys.map n).Nodup := (h1.map n).nodup_iff.mpr hn
  rw [List.pairwise_map] at hs ⊢
  rw [List.nodup_iff_pairwise_ne, List.pairwise_map] at nd
  refine List.Pairwise.imp_of_mem ?_ (hs.and nd)
  intro a b ma mb ⟨h3, h4⟩
  have h5 : ltD (f b) (f a) = false := by
    have : leD (f a) (f b) = true := h3
    unfold leD at this
    simpa using this
  rw [hf b (h1.mem_iff.mp mb) a (h1.mem_iff.mp ma) (Ne.symm h4)] at h5
  cases h6 : sLt (n a) (n b) with
  | true => rfl
  | false => exact absurd (sLt_tri h6 h5) h4
theorem sortOk_strs {ws : List Str} : sortOk (ws.map D.str) := by
  refine ⟨fun d hd => ?_, fun a ha b hb => ?_, .inr fun d hd => ?_⟩
  · obtain ⟨s, _, rfl⟩ := List.mem_map.mp hd
    exact ⟨.str s, rfl, Nat.zero_le _⟩
  · obtain ⟨x, hx, rfl⟩ := List.mem_map.mp ha
    obtain ⟨y, hy, rfl⟩ := List.mem_map.mp hb
    obtain ⟨s, _, rfl⟩ := List.mem_map.mp hx
    obtain ⟨t, _, rfl⟩ := List.mem_map.mp hy
    rfl
  · obtain ⟨x, hx, rfl⟩ := List.mem_map.mp hd
    obtain ⟨s, _, rfl⟩ := List.mem_map.mp hx
    exact ⟨(fun h => nomatch h), (fun xs h => nomatch h)⟩
theorem sorted_strs {ws : List Str} (hn : ws.Nodup) {Q : List D → Prop} (q : ∀ ns : List Str, ns.Perm ws → ns.Pairwise (fun a b => sLt a b = true) → Q (ns.map D.str)) : φSorted [.lst (ws.map D.str)] Q :=
  sorted_by_mem D.str id (fun a _ b _ _ => ltD_str a b) (by simpa using hn) sortOk_strs fun ys h1 h2 => q ys h1 (by simpa using h2)
/-! ### texts -/
theorem cps_app (a b : Str) : (a ++ b).cps.toList = a.cps.toList ++ b.cps.toList := by
  show (a.cps ++ b.cps).toList = _
  simp
theorem join_empty : ∀ cs : List Nat, (Txt.join ("" : Str) (cs.map fun c => (⟨#[c]⟩ : Str))).cps.toList = cs
  | [] => rfl
  | [c] => rfl
  | c :: d :: cs => by
    have ih := join_empty (d :: cs)
    rw [TL.join_eq] at ih ⊢
    show ((⟨#[c]⟩ : Str) ++ ("" : Str) ++ Str.join "" ((d :: cs).map fun c => (⟨#[c]⟩ : Str))).cps.toList = _
    rw [cps_app, cps_app, ih]
    rfl
theorem join_ok {s : Str} {ss : List Str} {Q : D → Prop} (h : (ss.map (·.length)).sum + ss.length * s.length ≤ 16777216) (q : Q (.str (Txt.join s ss))) : φJoin (.str s) (.lst (ss.map D.str)) Q := by
  unfold φJoin
  show match allS (ss.map D.str) with | some ys => (ys.map (·.length)).sum + ys.length * s.length ≤ 16777216 ∧ Q (.str (Txt.join s ys)) | none => False
  rw [allS_map]
  exact ⟨h, q⟩
theorem signs_of {ys : List D} (h : ∀ (i : Nat) y, ys[i]? = some y → ∃ c, isLetter c = true ∧ y = .str ⟨#[c]⟩) : ∃ cs : List Nat, ys = (cs.map fun c => (⟨#[c]⟩ : Str)).map D.str ∧ ∀ c ∈ cs, isLetter c = true := by
  induction ys with
  | nil => exact ⟨[], rfl, by simp⟩
  | cons y ys ih =>
    obtain ⟨c, hc, rfl⟩ := h 0 y rfl
    obtain ⟨cs, h1, h2⟩ := ih fun i y hy => h (i + 1) y (by simpa using hy)
    exact ⟨c :: cs, by rw [h1]; rfl, by simp [hc, h2]; exact h2⟩
theorem name_of {s : Str} {cs : List Nat} (h : s.cps.toList = cs) (h1 : 1 ≤ cs.length) (h2 : cs.length ≤ 8) (h3 : ∀ c ∈ cs, isLetter c = true) : isName s = true := by
  have hl : s.length = cs.length := by rw [len_cps, h]
  unfold isName
  rw [hl, decide_eq_true h1, decide_eq_true h2, h, List.all_eq_true.mpr h3]
  rfl
theorem repT_cps (c : Nat) (n : Nat) (hn : 1 ≤ n) : (repT ⟨#[c]⟩ (n : Int)).cps.toList = List.replicate n c := by
  unfold repT
  rw [if_neg (by omega)]
  by_cases h : n = 1
  · subst h
    rw [if_pos (by simp)]
    rfl
  · rw [if_neg (by rw [not_or]; exact ⟨by omega, fun z => nomatch z⟩)]
    show (Lg.repS ⟨#[c]⟩ n).cps.toList = _
    unfold Lg.repS
    have key : ∀ (n : Nat) (acc : Array Nat), ((List.replicate n (#[c] : Array Nat)).foldl (· ++ ·) acc).toList = acc.toList ++ List.replicate n c := by
      intro n
      induction n with
      | zero => intro acc; simp
      | succ n ih =>
        intro acc
        rw [List.replicate_succ, List.foldl_cons, ih, List.replicate_succ]
        simp
    simpa using key n #[]
theorem cutS_lo (z : Str) (k : Nat) (h : k ≤ z.length) : (cutS z none (some (k : Int))).cps.toList = z.cps.toList.take k := by
  unfold cutS
  have e1 : HT.sIx z.length 0 none = 0 := rfl
  have e2 : HT.sIx z.length z.length (some (k : Int)) = k := by
    rw [HT.sIx_nat]
    omega
  rw [e1, e2]
  simp
theorem cutS_hi (z : Str) (k : Nat) (h : k ≤ z.length) : (cutS z (some (k : Int)) none).cps.toList = z.cps.toList.drop k := by
  unfold cutS
  have e1 : HT.sIx z.length 0 (some (k : Int)) = k := by
    rw [HT.sIx_nat]
    omega
  have e2 : HT.sIx z.length z.length none = z.length := rfl
  rw [e1, e2]
  have e3 : (z.cps.toList.drop k).length ≤ z.length - k := by rw [List.length_drop, len_cps]; omega
  show ((z.cps.toList.drop k).take (z.length - k)).toArray.toList = _
  rw [List.take_of_length_le e3]
theorem cutS_len (z : Str) (lo hi : Option Int) : (cutS z lo hi).length ≤ z.length := by
  show ((z.cps.toList.drop (HT.sIx z.length 0 lo)).take (HT.sIx z.length z.length hi - HT.sIx z.length 0 lo)).toArray.size ≤ z.cps.size
  simp
  omega
theorem range_at {n i : Nat} {d : D} (h : (rangeD 0 n)[i]? = some d) : i < n ∧ d = .int (i : Int) := by
  have hi : i < n := by have := get_lt h; rw [rangeD, List.length_map, List.length_range] at this; exact this
  rw [rangeD, List.getElem?_map, List.getElem?_range hi] at h
  have := Option.some.inj h
  exact ⟨hi, by rw [← this]; show D.int (0 + (i : Int)) = _; rw [Int.zero_add]⟩
theorem range_len (n : Nat) : (rangeD 0 n).length = n := by rw [rangeD, List.length_map, List.length_range]
theorem choose_list {α β : Type} (f : α → D) (n : α → β) (ok : α → Prop) : ∀ {ys : List D} {ns : List β}, ys.length = ns.length → (∀ (i : Nat) y, ys[i]? = some y → ∃ a, ns[i]? = some (n a) ∧ ok a ∧ y = f a) → ∃ as : List α, ys = as.map f ∧ as.map n = ns ∧ ∀ a ∈ as, ok a
  | [], [], _, _ => ⟨[], rfl, rfl, by simp⟩
  | [], _ :: _, h, _ => by simp at h
  | _ :: _, [], h, _ => by simp at h
  | y :: ys, m :: ns, h, hy => by
    obtain ⟨a, h1, h2, rfl⟩ := hy 0 y rfl
    have h1 : m = n a := by simpa using h1
    obtain ⟨as, e1, e2, e3⟩ := choose_list f n ok (ys := ys) (ns := ns) (by simpa using h) fun i y hi => by simpa using hy (i + 1) y (by simpa using hi)
    refine ⟨a :: as, by rw [List.map_cons, ← e1], by rw [List.map_cons, e2, h1], fun b hb => ?_⟩
    rcases List.mem_cons.mp hb with rfl | hb
    · exact h2
    · exact e3 b hb
/-- a for over something drawn -/
theorem for_go {fi : Fx (List D)} {s : Tg} {body : Fs} {env : En} {P : Out → Prop} (Dk : List D → Prop) (hi : ∀ (Q : List D → Prop) R, (∀ ds, Dk ds → Q ds) → fi env Q R) (k : ∀ ds, Dk ds → wLoop s body ds env P) : wFor fi s body env P := by
  unfold wFor
  exact hi _ _ k
theorem loop0 {s : Tg} {body : Fs} {env : En} {P : Out → Prop} {ds : List D} (Inv : Nat → En → Prop) (h0 : Inv 0 env)
    (step : ∀ i d e0 (Q : Out → Prop), ds[i]? = some d → Inv i e0 → LpQ P (Inv (i + 1)) Q → ∃ e, s d e0 = some e ∧ body e Q) (fin : ∀ e, Inv ds.length e → P (.nx e)) : wLoop s body ds env P :=
  loop_inv Inv ds 0 env h0 (fun i d e0 Q hd h hq => step i d e0 Q hd (by simpa using h) (by simpa using hq)) (by simpa using fin)
end Pd
set_option maxRecDepth 100000
set_option maxHeartbeats 1000000
/-! dicts of texts to numbers: adding up by names -/
namespace Pd
open PySem PySem.Spec PyProof.Rows L2 Pre
abbrev Ms := List (Str × Int)
def kOf (m : Ms) : List Key := m.map fun p => Sum.inr p.1
def vOf (m : Ms) : List D := m.map fun p => D.int p.2
/-- what a name has, 0 if nothing -/
def at0 (m : Ms) (s : Str) : Int := match m with
  | [] => 0
  | p :: m => if p.1 = s then p.2 else at0 m s
def has (m : Ms) (s : Str) : Bool := m.any fun p => decide (p.1 = s)
theorem dget_at (m : Ms) (s : Str) : (dget (kOf m) (vOf m) (.inr s)).getD (.int 0) = .int (at0 m s) := by
  induction m with
  | nil => rfl
  | cons p m ih =>
    show (if (Sum.inr p.1 : Key) = .inr s then some (D.int p.2) else dget (kOf m) (vOf m) (.inr s)).getD (.int 0) = .int (if p.1 = s then p.2 else at0 m s)
    by_cases h : p.1 = s
    · rw [if_pos (by rw [h]), if_pos h]; rfl
    · rw [if_neg (fun e => h (by injection e)), if_neg h]; exact ih
theorem dget_has {m : Ms} {s : Str} (h : has m s = true) : dget (kOf m) (vOf m) (.inr s) = some (.int (at0 m s)) := by
  induction m with
  | nil => cases h
  | cons p m ih =>
    show (if (Sum.inr p.1 : Key) = .inr s then some (D.int p.2) else dget (kOf m) (vOf m) (.inr s)) = some (.int (if p.1 = s then p.2 else at0 m s))
    by_cases q : p.1 = s
    · rw [if_pos (by rw [q]), if_pos q]
    · rw [if_neg (fun e => q (by injection e)), if_neg q]
      refine ih ?_
      have : (decide (p.1 = s) || has m s) = true := h
      rw [decide_eq_false q, Bool.false_or] at this
      exact this
def put (m : Ms) (s : Str) (v : Int) : Ms := if has m s = true then m.map (fun p => if p.1 = s then (p.1, v) else p) else m ++ [(s, v)]
theorem dput_put (m : Ms) (s : Str) (v : Int) : dput (kOf m) (vOf m) (.inr s) (.int v) = (kOf (put m s v), vOf (put m s v)) := by
  have hany : ((kOf m).any fun k' => decide (k' = .inr s)) = has m s := by
    unfold kOf has
    rw [List.any_map]
    congr 1
    funext p
    show decide ((Sum.inr p.1 : Key) = .inr s) = decide (p.1 = s)
    by_cases q : p.1 = s
    · rw [decide_eq_true q, decide_eq_true (by rw [q])]
    · rw [decide_eq_false q, decide_eq_false (fun e => q (by injection e))]
  unfold dput put
  rw [hany]
  by_cases h : has m s = true
  · rw [if_pos h, if_pos h]
    refine Prod.ext ?_ ?_
    · show kOf m = kOf _
      unfold kOf
      rw [List.map_map]
      apply List.map_congr_left
      intro p _
      show (Sum.inr p.1 : Key) = Sum.inr (if p.1 = s then (p.1, v) else p).1
      split <;> rfl
    · show List.zipWith _ (kOf m) (vOf m) = vOf _
      clear h hany
      induction m with
      | nil => rfl
      | cons p m ih =>
        show (if (Sum.inr p.1 : Key) = .inr s then D.int v else D.int p.2) :: List.zipWith _ (kOf m) (vOf m) = D.int (if p.1 = s then (p.1, v) else p).2 :: vOf (m.map fun p => if p.1 = s then (p.1, v) else p)
        rw [ih]
        by_cases q : p.1 = s
        · rw [if_pos (by rw [q]), if_pos q]
        · rw [if_neg (fun e => q (by injection e)), if_neg q]
  · rw [if_neg h, if_neg h]
    unfold kOf vOf
    rw [List.map_append, List.map_append]
    rfl
theorem at0_put (m : Ms) (s t : Str) (v : Int) : at0 (put m s v) t = if t = s then v else at0 m t := by
  unfold put
  by_cases h : has m s = true
  · rw [if_pos h]
    induction m with
    | nil => cases h
    | cons p m ih =>
      rw [List.map_cons]
      show (if (if p.1 = s then (p.1, v) else p).1 = t then (if p.1 = s then (p.1, v) else p).2 else at0 (m.map fun p => if p.1 = s then (p.1, v) else p) t) = if t = s then v else (if p.1 = t then p.2 else at0 m t)
      by_cases q : p.1 = s
      · rw [if_pos q]
        by_cases e : p.1 = t
        · rw [if_pos e, if_pos (e.symm.trans q)]
        · rw [if_neg e, if_neg (fun z => e (q.trans z.symm)), if_neg e]
          have ne : t ≠ s := fun z => e (q.trans z.symm)
          by_cases h2 : has m s = true
          · have := ih h2
            rw [if_neg ne] at this
            exact this
          · have : (m.map fun p => if p.1 = s then (p.1, v) else p) = m := by
              conv => rhs; rw [← List.map_id m]
              apply List.map_congr_left
              intro x hx
              rw [if_neg fun z => h2 (List.any_eq_true.mpr ⟨x, hx, decide_eq_true z⟩)]
              rfl
            rw [this]
      · rw [if_neg q]
        have h2 : has m s = true := by
          have : (decide (p.1 = s) || has m s) = true := h
          rw [decide_eq_false q, Bool.false_or] at this
          exact this
        rw [ih h2]
        by_cases e : p.1 = t
        · rw [if_pos e, if_pos e, if_neg (fun z => q (e.trans z))]
        · rw [if_neg e, if_neg e]
  · rw [if_neg h]
    have ns : at0 m s = 0 := by
      clear v t
      induction m with
      | nil => rfl
      | cons p m ih =>
        show (if p.1 = s then p.2 else at0 m s) = 0
        have h' : ¬ (decide (p.1 = s) || has m s) = true := h
        rw [Bool.or_eq_true, not_or] at h'
        rw [if_neg (fun z => h'.1 (decide_eq_true z))]
        exact ih h'.2
    have key : ∀ m : Ms, ¬ has m s = true → at0 (m ++ [(s, v)]) t = if t = s then v else at0 m t := by
      intro m
      induction m with
      | nil =>
        intro _
        show (if s = t then v else 0) = if t = s then v else 0
        by_cases e : s = t
        · rw [if_pos e, if_pos e.symm]
        · rw [if_neg e, if_neg (Ne.symm e)]
      | cons p m ih =>
        intro h
        have h' : ¬ (decide (p.1 = s) || has m s) = true := h
        rw [Bool.or_eq_true, not_or] at h'
        have hp : p.1 ≠ s := fun z => h'.1 (decide_eq_true z)
        show (if p.1 = t then p.2 else at0 (m ++ [(s, v)]) t) = if t = s then v else (if p.1 = t then p.2 else at0 m t)
        rw [ih h'.2]
        by_cases e : p.1 = t
        · rw [if_pos e, if_pos e, if_neg (fun z => hp (e.trans z))]
        · rw [if_neg e, if_neg e]
    exact key m h
theorem names_put (m : Ms) (s : Str) (v : Int) : (put m s v).map (·.1) = if has m s = true then m.map (·.1) else m.map (·.1) ++ [s] := by
  unfold put
  by_cases h : has m s = true
  · rw [if_pos h, if_pos h, List.map_map]
    apply List.map_congr_left
    intro p _
    show (if p.1 = s then (p.1, v) else p).1 = p.1
    split <;> rfl
  · rw [if_neg h, if_neg h, List.map_append]
    rfl
theorem has_iff {m : Ms} {s : Str} : has m s = true ↔ s ∈ m.map (·.1) := by
  unfold has
  rw [List.any_eq_true, List.mem_map]
  exact ⟨fun ⟨p, h1, h2⟩ => ⟨p, h1, of_decide_eq_true h2⟩, fun ⟨p, h1, h2⟩ => ⟨p, h1, decide_eq_true h2⟩⟩
/-- two strictly ascending lists of the same things are the same -/
theorem asc_uniq : ∀ {a b : List Str}, a.Pairwise (fun x y => sLt x y = true) → b.Pairwise (fun x y => sLt x y = true) → (∀ s, s ∈ a ↔ s ∈ b) → a = b
  | [], [], _, _, _ => rfl
  | [], y :: b, _, _, h => absurd ((h y).mpr List.mem_cons_self) (by simp)
  | x :: a, [], _, _, h => absurd ((h x).mp List.mem_cons_self) (by simp)
  | x :: a, y :: b, ha, hb, h => by
    rw [List.pairwise_cons] at ha hb
    have exy : x = y := by
      rcases List.mem_cons.mp ((h x).mp List.mem_cons_self) with e | m
      · exact e
      · rcases List.mem_cons.mp ((h y).mpr List.mem_cons_self) with e | m'
        · exact e.symm
        · have h1 := hb.1 x m
          have h2 := ha.1 y m'
          have := sLt_trans h1 h2
          rw [sLt_irrefl] at this
          cases this
    subst exy
    refine congrArg (x :: ·) (asc_uniq ha.2 hb.2 fun s => ?_)
    constructor
    · intro hs
      rcases List.mem_cons.mp ((h s).mp (List.mem_cons_of_mem _ hs)) with e | m
      · have := ha.1 s hs
        rw [e, sLt_irrefl] at this
        cases this
      · exact m
    · intro hs
      rcases List.mem_cons.mp ((h s).mpr (List.mem_cons_of_mem _ hs)) with e | m
      · have := hb.1 s hs
        rw [e, sLt_irrefl] at this
        cases this
      · exact m
theorem dacc_ok {i ik iv : Nat} {env : En} {m : Ms} {s : Str} {v : Int} {P : Out → Prop} (he : env[i]? = some (.k (kOf m) (vOf m))) (hk : env[ik]? = some (.v (.str s))) (hv : env[iv]? = some (.v (.int v))) (hl : m.length < 10000)
    (k : P (.nx (env.set i (.k (kOf (put m s (at0 m s + v))) (vOf (put m s (at0 m s + v))))))) : wDPut i (wVar ik) (wOp φAdd (wDGet i (wVar ik) (wC (.int 0))) (wVar iv)) env P := by
  have e1 : envDic env i = some (kOf m, vOf m) := by unfold envDic; rw [he]
  unfold wDPut wOp wDGet wVar wC
  simp only [e1, hk, hv, he, keyOf]
  rw [dget_at]
  simp only [φAdd, dput_put]
  exact ⟨by unfold kOf; rw [List.length_map, sizeLine_eq]; omega, k⟩
def tot : Ms → Str → Int
  | [], _ => 0
  | p :: l, s => (if p.1 = s then p.2 else 0) + tot l s
theorem tot_app (a b : Ms) (s : Str) : tot (a ++ b) s = tot a s + tot b s := by
  induction a with
  | nil => show tot b s = 0 + tot b s; omega
  | cons p a ih =>
    show (if p.1 = s then p.2 else 0) + tot (a ++ b) s = (if p.1 = s then p.2 else 0) + tot a s + tot b s
    rw [ih]
    omega
/-- m has added up l -/
structure Upto (l : Ms) (m : Ms) : Prop where
  nd : (m.map (·.1)).Nodup
  mem : ∀ s, s ∈ m.map (·.1) ↔ s ∈ l.map (·.1)
  val : ∀ s, at0 m s = tot l s
theorem upto_nil : Upto [] [] := ⟨List.nodup_nil, fun _ => Iff.rfl, fun _ => rfl⟩
theorem Upto.step {l m : Ms} (u : Upto l m) (p : Str × Int) : Upto (l ++ [p]) (put m p.1 (at0 m p.1 + p.2)) where
  nd := by
    rw [names_put]
    by_cases h : has m p.1 = true
    · rw [if_pos h]; exact u.nd
    · rw [if_neg h, List.nodup_append]
      refine ⟨u.nd, by simp, fun a ha b hb e => ?_⟩
      rw [List.mem_singleton.mp hb] at e
      rw [e] at ha
      exact h (has_iff.mpr ha)
  mem := fun s => by
    rw [names_put, List.map_append, List.mem_append]
    show _ ↔ s ∈ l.map (·.1) ∨ s ∈ [p.1]
    by_cases h : has m p.1 = true
    · rw [if_pos h, u.mem]
      constructor
      · exact .inl
      · rintro (q | q)
        · exact q
        · rw [List.mem_singleton.mp q]
          exact (u.mem _).mp (has_iff.mp h)
    · rw [if_neg h, List.mem_append, u.mem]
  val := fun s => by
    rw [at0_put, tot_app, ← u.val s]
    show _ = at0 m s + ((if p.1 = s then p.2 else 0) + 0)
    by_cases e : s = p.1
    · subst e
      rw [if_pos rfl, if_pos rfl]
      omega
    · rw [if_neg e, if_neg (Ne.symm e)]
      omega
theorem lt_cps (a b : Str) : ltCps a.cps.toList b.cps.toList = sLt a b := by
  unfold sLt
  first | exact ltCps_eq _ _ | exact ltCps_decide _ _ | rfl | simp
theorem rising_all : ∀ (l : List Str) (p : Str), PyProof.Rows.risingS p l = true → (∀ x ∈ l, sLt x p = false) ∧ l.Pairwise (fun a b => sLt b a = false)
  | [], p, _ => ⟨by simp, .nil⟩
  | x :: l, p, h => by
    unfold PyProof.Rows.risingS at h
    rw [Bool.and_eq_true, lt_cps] at h
    have h1 : sLt x p = false := by simpa using h.1
    obtain ⟨h2, h3⟩ := rising_all l x h.2
    refine ⟨fun y hy => ?_, List.pairwise_cons.mpr ⟨h2, h3⟩⟩
    rcases List.mem_cons.mp hy with rfl | hy
    · exact h1
    · cases q : sLt y p with
      | false => rfl
      | true =>
        have a := h2 y hy
        cases r : sLt p x with
        | true =>
          have := sLt_trans q r
          rw [a] at this
          cases this
        | false =>
          have := sLt_tri h1 r
          rw [this, q] at a
          cases a
theorem asc_sortedS {ns : List Str} (nd : ns.Nodup) (h : PyProof.Rows.sortedS ns = true) : ns.Pairwise (fun a b => sLt a b = true) := by
  cases ns with
  | nil => exact .nil
  | cons x l =>
    obtain ⟨h1, h2⟩ := rising_all l x h
    have hp : (x :: l).Pairwise (fun a b => sLt b a = false) := List.pairwise_cons.mpr ⟨h1, h2⟩
    rw [List.nodup_iff_pairwise_ne] at nd
    refine (hp.and nd).imp fun {a b} ⟨h3, h4⟩ => ?_
    cases q : sLt a b with
    | true => rfl
    | false => exact absurd (sLt_tri q h3) h4
end Pd
set_option maxRecDepth 100000
set_option maxHeartbeats 4000000
/-! whiles by a measure; rows of numbers -/
namespace Pd
open PySem PySem.Spec PyProof.Rows L2 Pre
theorem while_go {gc : Fx Bool} {body : Fs} {P : Out → Prop} (Inv : Nat → En → Prop)
    (step : ∀ m e (Q : Out → Prop), Inv m e → LpQ P (fun e' => ∃ m', m' < m ∧ Inv m' e') Q → gc e (fun b => if b = true then body e Q else P (.nx e)) (fun r => P (.er e r))) :
    ∀ (n m : Nat) (e : En), m < n → Inv m e → wWh gc body n e P
  | 0, _, _, h, _ => absurd h (Nat.not_lt_zero _)
  | n + 1, m, e, h, hi => step m e _ hi
    { nx := fun e' ⟨m', h1, h2⟩ => while_go Inv step n m' e' (by omega) h2
      ct := fun e' ⟨m', h1, h2⟩ => while_go Inv step n m' e' (by omega) h2
      bk := fun e' p => p
      rt := fun d p => p
      er := fun e' r p => p }
theorem while_inv {gc : Fx Bool} {body : Fs} {P : Out → Prop} {env : En} (Inv : Nat → En → Prop) (m : Nat) (h0 : Inv m env)
    (step : ∀ m e (Q : Out → Prop), Inv m e → LpQ P (fun e' => ∃ m', m' < m ∧ Inv m' e') Q → gc e (fun b => if b = true then body e Q else P (.nx e)) (fun r => P (.er e r))) :
    wWhile gc body env P := by
  unfold wWhile
  exact ⟨m + 1, while_go Inv step (m + 1) m env (Nat.lt_succ_self m) h0⟩
/-- rows of numbers -/
abbrev nD (n : Nat) : D := .int (n : Int)
def natsD (ns : List Nat) : List D := ns.map nD
theorem nats_okA : ∀ ns : List Nat, okA (natsD ns) = true
  | [] => rfl
  | _ :: ns => nats_okA ns
theorem nats_dep : ∀ ns : List Nat, depA (natsD ns) = 0
  | [] => rfl
  | n :: ns => by
    show max 0 (depA (natsD ns)) = 0
    rw [nats_dep ns]
    rfl
theorem nats_at {ns : List Nat} {i : Nat} {d : D} (h : (natsD ns)[i]? = some d) : ∃ n, ns[i]? = some n ∧ d = nD n := map_at h
theorem nats_len (ns : List Nat) : (natsD ns).length = ns.length := List.length_map _
theorem mulOk {i j : Int} (a b : Nat) (ha : i.natAbs < 2 ^ a) (hb : j.natAbs < 2 ^ b) (h : a + b ≤ 1000000 := by decide) (h0 : 0 < a := by decide) (h1 : 0 < b := by decide) : CMulW i j := wide_mul ha hb h0 h1 h
theorem cutD_nn {ds : List D} {a b : Nat} (h : a ≤ b) : cutD ds (some (a : Int)) (some (b : Int)) = (ds.take b).drop a := by
  unfold cutD
  rw [HT.sIx_nat, HT.sIx_nat]
  rcases Nat.le_total a ds.length with ha | ha
  · rw [Nat.min_eq_left ha]
    rcases Nat.le_total b ds.length with hb | hb
    · rw [Nat.min_eq_left hb, List.drop_take]
    · rw [Nat.min_eq_right hb, List.take_of_length_le hb]
      exact List.take_of_length_le (by rw [List.length_drop]; omega)
  · rw [Nat.min_eq_right ha, Nat.min_eq_right (by omega), List.drop_length]
    rw [List.drop_eq_nil_of_le (by rw [List.length_take]; omega)]
    simp
theorem cutD_n0 {ds : List D} {b : Nat} : cutD ds none (some (b : Int)) = ds.take b := by
  have := cutD_nn (ds := ds) (a := 0) (b := b) (Nat.zero_le _)
  rw [List.drop_zero] at this
  exact this
theorem cutD_0n {ds : List D} {a : Nat} : cutD ds (some (a : Int)) none = ds.drop a := by
  unfold cutD
  have e1 : HT.sIx ds.length ds.length none = ds.length := rfl
  rw [e1, HT.sIx_nat]
  rcases Nat.le_total a ds.length with ha | ha
  · rw [Nat.min_eq_left ha]
    exact List.take_of_length_le (by rw [List.length_drop]; exact Nat.le_refl _)
  · rw [Nat.min_eq_right ha, List.drop_length, List.drop_eq_nil_of_le ha]
    simp
theorem var_ok {i : Nat} {env : En} {d : D} {P' : D → Prop} {R : Err → Prop} (h : env[i]? = some (.v d)) (q : P' d) : wVar i env P' R := by
  unfold wVar
  rw [h]
  exact q
theorem wC_ok {d : D} {env : En} {P : D → Prop} {R : Err → Prop} (q : P d) : wC d env P R := q
theorem asg_eq {fa : Fx D} {s : Tg} {env : En} {P : Out → Prop} (d : D) {e : En} (hf : ∀ (Q : D → Prop) R, Q d → fa env Q R) (hs : s d env = some e) (k : P (.nx e)) : wAsg fa s env P := hf _ _ (by rw [hs]; exact k)
/-- another form of a value -/
theorem cont_eq {d d' : D} {P : D → Prop} (h : d = d') (q : P d') : P d := by rw [h]; exact q
/-- on to the next (a step for the kernel) -/
theorem next_ok {env : En} {P : Out → Prop} (q : P (.nx env)) : wNext env P := q
/-- of what isinstance is told without a look -/
def plainD : D → Bool
  | .obj _ _ _ => false | .hid _ => false | .frz _ => false | .raw _ => false
  | _ => true
theorem isi_plain {k : Kd} {cs : List Addr} {d : D} {Q : D → Prop} (h : plainD d = true) (q : Q (.bl (isKd k d))) : φIsi k cs d Q := by
  unfold φIsi
  cases d <;> first | exact q | (cases h; done)
end Pd
/-! figures to the base 128, the least first -/
namespace M85
def val : List Nat → Nat
  | [] => 0
  | f :: fs => f + 128 * val fs
def Dig (fs : List Nat) : Prop := ∀ f ∈ fs, f < 128
theorem Dig.tail {f : Nat} {fs : List Nat} (h : Dig (f :: fs)) : Dig fs := fun x hx => h x (List.mem_cons_of_mem _ hx)
theorem Dig.take {fs : List Nat} (h : Dig fs) (n : Nat) : Dig (fs.take n) := fun x hx => h x (List.mem_of_mem_take hx)
theorem Dig.drop {fs : List Nat} (h : Dig fs) (n : Nat) : Dig (fs.drop n) := fun x hx => h x (List.mem_of_mem_drop hx)
theorem val_lt : ∀ {fs : List Nat}, Dig fs → val fs < 128 ^ fs.length
  | [], _ => by decide
  | f :: fs, h => by
    have h1 := h f List.mem_cons_self
    have h2 := val_lt h.tail
    show f + 128 * val fs < 128 ^ (fs.length + 1)
    rw [Nat.pow_succ]
    omega
theorem val_split : ∀ (j : Nat) (fs : List Nat), val fs = val (fs.take j) + 128 ^ j * val (fs.drop j)
  | 0, fs => by simp [val]
  | j + 1, [] => by simp [val]
  | j + 1, f :: fs => by
    show f + 128 * val fs = (f + 128 * val (fs.take j)) + 128 ^ (j + 1) * val (fs.drop j)
    rw [val_split j fs, Nat.mul_add, Nat.pow_succ, ← Nat.mul_assoc, Nat.mul_comm 128 (128 ^ j)]
    omega
theorem take_lt {fs : List Nat} (h : Dig fs) (j : Nat) : val (fs.take j) < 128 ^ j :=
  Nat.lt_of_lt_of_le (val_lt (h.take j)) (Nat.pow_le_pow_right (by decide) (by rw [List.length_take]; omega))
theorem val_mod {fs : List Nat} (h : Dig fs) (j : Nat) : val fs % 128 ^ j = val (fs.take j) := by
  rw [val_split j fs, Nat.add_mul_mod_self_left, Nat.mod_eq_of_lt (take_lt h j)]
theorem val_div {fs : List Nat} (h : Dig fs) (j : Nat) : val fs / 128 ^ j = val (fs.drop j) := by
  rw [val_split j fs, Nat.add_mul_div_left _ _ (Nat.pow_pos (by decide)), Nat.div_eq_of_lt (take_lt h j), Nat.zero_add]
theorem val_at {fs : List Nat} (h : Dig fs) {k f : Nat} (hk : fs[k]? = some f) : val fs / 128 ^ k % 128 = f := by
  rw [val_div h]
  have hl := (List.getElem?_eq_some_iff.mp hk).1
  have e : fs.drop k = f :: fs.drop (k + 1) := by
    rw [List.drop_eq_getElem_cons hl, (List.getElem?_eq_some_iff.mp hk).2]
  rw [e]
  show (f + 128 * val _) % 128 = f
  rw [Nat.add_mul_mod_self_left]
  exact Nat.mod_eq_of_lt (h f (List.mem_of_getElem? hk))
theorem val_app : ∀ (fs gs : List Nat), val (fs ++ gs) = val fs + 128 ^ fs.length * val gs
  | [], gs => by simp [val]
  | f :: fs, gs => by
    show f + 128 * val (fs ++ gs) = (f + 128 * val fs) + 128 ^ (fs.length + 1) * val gs
    rw [val_app fs gs, Nat.mul_add, Nat.pow_succ, ← Nat.mul_assoc, Nat.mul_comm 128 (128 ^ fs.length)]
    omega
/-- no needless figure at the end -/
structure Can (fs : List Nat) : Prop where
  dig : Dig fs
  ne : fs ≠ []
  last : fs.length = 1 ∨ fs.getLast? ≠ some 0
theorem val_pos : ∀ {fs : List Nat}, Dig fs → ∀ f, fs.getLast? = some f → f ≠ 0 → 128 ^ (fs.length - 1) ≤ val fs
  | [], _, f, h, _ => by cases h
  | [g], _, f, h, h0 => by
    have e : g = f := by simpa using h
    show 1 ≤ g + 128 * 0
    omega
  | a :: b :: t, hd, f, h, h0 => by
    have ih := val_pos (fs := b :: t) hd.tail f (by rwa [List.getLast?_cons_cons] at h) h0
    show 128 ^ (t.length + 1) ≤ a + 128 * val (b :: t)
    have e : 128 ^ (t.length + 1) = 128 * 128 ^ t.length := by rw [Nat.pow_succ, Nat.mul_comm]
    have ih : 128 ^ t.length ≤ val (b :: t) := ih
    rw [e]
    omega
def bits (n : Nat) : Nat := if n = 0 then 0 else n.log2 + 1
theorem can_bits {fs : List Nat} (h : Can fs) : max 1 ((bits (val fs) + 6) / 7) = fs.length := by
  have l0 : 0 < fs.length := List.length_pos_iff.mpr h.ne
  have up := val_lt h.dig
  have p7 : ∀ k, (128 : Nat) ^ k = 2 ^ (7 * k) := fun k => by rw [Nat.pow_mul]
  unfold bits
  by_cases v0 : val fs = 0
  · rw [if_pos v0]
    rcases h.last with h1 | h1
    · rw [h1]
      decide
    · obtain ⟨f, hf⟩ : ∃ f, fs.getLast? = some f := ⟨_, List.getLast?_eq_some_getLast h.ne⟩
      have := val_pos h.dig f hf (fun e => h1 (e ▸ hf))
      have := Nat.pow_pos (n := fs.length - 1) (show 0 < 128 by decide)
      omega
  · rw [if_neg v0]
    have h1 : (val fs).log2 < 7 * fs.length := (Nat.log2_lt v0).mpr (by rw [← p7]; exact up)
    have h2 : 7 * (fs.length - 1) ≤ (val fs).log2 := by
      by_cases l1 : fs.length = 1
      · rw [l1]
        omega
      · obtain ⟨f, hf⟩ : ∃ f, fs.getLast? = some f := ⟨_, List.getLast?_eq_some_getLast h.ne⟩
        have h3 := val_pos h.dig f hf (fun e => (h.last.resolve_left l1) (e ▸ hf))
        exact (Nat.le_log2 v0).mpr (by rw [← p7]; exact h3)
    omega
/-- as octets: all but the last are marked -/
def mark (fs : List Nat) : List Nat := fs.dropLast.map (· + 128) ++ fs.drop (fs.length - 1)
end M85
set_option maxRecDepth 100000
set_option maxHeartbeats 4000000
namespace K86
open PySem PySem.Spec PyProof.Rows L2 Pre Pd
def topS (i : Nat) : Stmt := PySem.Challenge.pw_caseshome_k86_whole_rows_of_frames_cut_a.main.body.getD i (.Pass ⟨0, 0, 0, 0⟩)
abbrev s_number_octets : Stmt := topS 4
abbrev s_number_of_figures : Stmt := topS 5
abbrev s_read_number : Stmt := topS 6
abbrev s_sum_of_octets : Stmt := topS 7
abbrev s_frame : Stmt := topS 8
abbrev s_frame_at : Stmt := topS 9
abbrev s_frames : Stmt := topS 10
abbrev s_law_box : Stmt := topS 12
abbrev s_law_take : Stmt := topS 13
abbrev s_law_pick : Stmt := topS 14
abbrev s_law_is_row : Stmt := topS 15
abbrev s_law_is_told : Stmt := topS 16
abbrev s_law_counted : Stmt := topS 17
abbrev s_law_sum : Stmt := topS 18
abbrev s_law_block_sum : Stmt := topS 19
abbrev s_law_framed : Stmt := topS 20
abbrev s_law_body : Stmt := topS 21
abbrev s_law_row : Stmt := topS 22
abbrev s_law_flat : Stmt := topS 23
abbrev s_law_ahead : Stmt := topS 24
abbrev s_law_read : Stmt := topS 25
abbrev s_law_frames_hold : Stmt := topS 26
abbrev s_law_cuts_hold : Stmt := topS 27
abbrev s_law_spoilt : Stmt := topS 28
abbrev s_law_spoils_hold : Stmt := topS 29
abbrev s_law_any_hold : Stmt := topS 30
abbrev s_law_great_holds : Stmt := topS 31
abbrev s_law : Stmt := topS 32
theorem sc_number_octets : FnScope ["number", "left", "figures", "part", "k", "figure"] ["number"] (defScope s_number_octets) := ⟨rfl, rfl, rfl, by decide +kernel, rfl, by decide +kernel, by decide +kernel⟩
theorem sc_number_of_figures : FnScope ["figures", "number", "at", "part", "figure"] ["figures"] (defScope s_number_of_figures) := ⟨rfl, rfl, rfl, by decide +kernel, rfl, by decide +kernel, by decide +kernel⟩
theorem sc_read_number : FnScope ["octets", "at", "last", "octet"] ["octets", "at"] (defScope s_read_number) := ⟨rfl, rfl, rfl, by decide +kernel, rfl, by decide +kernel, by decide +kernel⟩
theorem sc_sum_of_octets : FnScope ["octets", "at", "octet"] ["octets"] (defScope s_sum_of_octets) := ⟨rfl, rfl, rfl, by decide +kernel, rfl, by decide +kernel, by decide +kernel⟩
theorem sc_frame : FnScope ["body", "total"] ["body"] (defScope s_frame) := ⟨rfl, rfl, rfl, by decide +kernel, rfl, by decide +kernel, by decide +kernel⟩
theorem sc_frame_at : FnScope ["octets", "at", "found", "many", "start", "body", "low", "high"] ["octets", "at"] (defScope s_frame_at) := ⟨rfl, rfl, rfl, by decide +kernel, rfl, by decide +kernel, by decide +kernel⟩
theorem sc_frames : FnScope ["octets", "bodies", "at", "found", "body"] ["octets"] (defScope s_frames) := ⟨rfl, rfl, rfl, by decide +kernel, rfl, by decide +kernel, by decide +kernel⟩
theorem sc_law_box : FnScope ["script", "k", "cell"] ["script", "k"] (defScope s_law_box) := ⟨rfl, rfl, rfl, by decide +kernel, rfl, by decide +kernel, by decide +kernel⟩
theorem sc_law_take : FnScope ["box", "many", "digit", "raw"] ["box", "many"] (defScope s_law_take) := ⟨rfl, rfl, rfl, by decide +kernel, rfl, by decide +kernel, by decide +kernel⟩
theorem sc_law_pick : FnScope ["box", "some"] ["box", "some"] (defScope s_law_pick) := ⟨rfl, rfl, rfl, by decide +kernel, rfl, by decide +kernel, by decide +kernel⟩
theorem sc_law_is_row : FnScope ["told", "due", "one"] ["told", "due"] (defScope s_law_is_row) := ⟨rfl, rfl, rfl, by decide +kernel, rfl, by decide +kernel, by decide +kernel⟩
theorem sc_law_is_told : FnScope ["told", "bodies", "behind", "k"] ["told", "bodies", "behind"] (defScope s_law_is_told) := ⟨rfl, rfl, rfl, by decide +kernel, rfl, by decide +kernel, by decide +kernel⟩
theorem sc_law_counted : FnScope ["many"] ["many"] (defScope s_law_counted) := ⟨rfl, rfl, rfl, by decide +kernel, rfl, by decide +kernel, by decide +kernel⟩
theorem sc_law_sum : FnScope ["body", "found", "place"] ["body"] (defScope s_law_sum) := ⟨rfl, rfl, rfl, by decide +kernel, rfl, by decide +kernel, by decide +kernel⟩
theorem sc_law_block_sum : FnScope ["block", "many", "size", "placed", "place"] ["block", "many"] (defScope s_law_block_sum) := ⟨rfl, rfl, rfl, by decide +kernel, rfl, by decide +kernel, by decide +kernel⟩
theorem sc_law_framed : FnScope ["body", "total"] ["body", "total"] (defScope s_law_framed) := ⟨rfl, rfl, rfl, by decide +kernel, rfl, by decide +kernel, by decide +kernel⟩
theorem sc_law_body : FnScope ["box", "great", "many", "block", "times", "k"] ["box", "great"] (defScope s_law_body) := ⟨rfl, rfl, rfl, by decide +kernel, rfl, by decide +kernel, by decide +kernel⟩
theorem sc_law_row : FnScope ["box", "may_be_great", "great", "found", "k", "body", "total"] ["box", "may_be_great"] (defScope s_law_row) := ⟨rfl, rfl, rfl, by decide +kernel, rfl, by decide +kernel, by decide +kernel⟩
theorem sc_law_flat : FnScope ["found", "row", "body", "octets_due"] ["found"] (defScope s_law_flat) := ⟨rfl, rfl, rfl, by decide +kernel, rfl, by decide +kernel, by decide +kernel⟩
theorem sc_law_ahead : FnScope ["found", "cut", "many", "place", "body", "octets_due"] ["found", "cut"] (defScope s_law_ahead) := ⟨rfl, rfl, rfl, by decide +kernel, rfl, by decide +kernel, by decide +kernel⟩
theorem sc_law_read : FnScope ["row", "bodies", "place", "k", "end", "step", "length", "body"] ["row"] (defScope s_law_read) := ⟨rfl, rfl, rfl, by decide +kernel, rfl, by decide +kernel, by decide +kernel⟩
theorem sc_law_frames_hold : FnScope ["found", "body", "octets_due", "row"] ["found"] (defScope s_law_frames_hold) := ⟨rfl, rfl, rfl, by decide +kernel, rfl, by decide +kernel, by decide +kernel⟩
theorem sc_law_cuts_hold : FnScope ["box", "found", "row", "cuts", "bounds", "place", "body", "octets_due", "cut", "many", "behind", "k", "pair"] ["box", "found"] (defScope s_law_cuts_hold) := ⟨rfl, rfl, rfl, by decide +kernel, rfl, by decide +kernel, by decide +kernel⟩
theorem sc_law_spoilt : FnScope ["box", "pair", "body", "due", "head", "kind", "spoilt", "one", "other", "place", "octet"] ["box", "pair"] (defScope s_law_spoilt) := ⟨rfl, rfl, rfl, by decide +kernel, rfl, by decide +kernel, by decide +kernel⟩
theorem sc_law_spoils_hold : FnScope ["box", "found", "many", "ahead", "row", "pair"] ["box", "found"] (defScope s_law_spoils_hold) := ⟨rfl, rfl, rfl, by decide +kernel, rfl, by decide +kernel, by decide +kernel⟩
theorem sc_law_any_hold : FnScope ["box", "found", "row", "k", "kind", "place", "bodies", "behind"] ["box", "found"] (defScope s_law_any_hold) := ⟨rfl, rfl, rfl, by decide +kernel, rfl, by decide +kernel, by decide +kernel⟩
theorem sc_law_great_holds : FnScope ["box", "kind", "k", "block", "due", "many", "told", "place"] ["box"] (defScope s_law_great_holds) := ⟨rfl, rfl, rfl, by decide +kernel, rfl, by decide +kernel, by decide +kernel⟩
theorem sc_law : FnScope ["script", "k", "box", "found"] ["script"] (defScope s_law) := ⟨rfl, rfl, rfl, by decide +kernel, rfl, by decide +kernel, by decide +kernel⟩
structure Tx (K : PySem.W.Frag) (mg : Str → Option Value) where
  number_octets : Addr
  number_octets_fd : FuncData
  number_octets_F : Fun K "number_octets" "number_octets" s_number_octets number_octets number_octets_fd
  number_octets_m : mg "number_octets" = some (.ref number_octets)
  number_octets_b : Binds K number_octets_fd ["number"] []
  number_of_figures : Addr
  number_of_figures_fd : FuncData
  number_of_figures_F : Fun K "number_of_figures" "number_of_figures" s_number_of_figures number_of_figures number_of_figures_fd
  number_of_figures_m : mg "number_of_figures" = some (.ref number_of_figures)
  number_of_figures_b : Binds K number_of_figures_fd ["figures"] []
  read_number : Addr
  read_number_fd : FuncData
  read_number_F : Fun K "read_number" "read_number" s_read_number read_number read_number_fd
  read_number_m : mg "read_number" = some (.ref read_number)
  read_number_b : Binds K read_number_fd ["octets", "at"] []
  sum_of_octets : Addr
  sum_of_octets_fd : FuncData
  sum_of_octets_F : Fun K "sum_of_octets" "sum_of_octets" s_sum_of_octets sum_of_octets sum_of_octets_fd
  sum_of_octets_m : mg "sum_of_octets" = some (.ref sum_of_octets)
  sum_of_octets_b : Binds K sum_of_octets_fd ["octets"] []
  frame : Addr
  frame_fd : FuncData
  frame_F : Fun K "frame" "frame" s_frame frame frame_fd
  frame_m : mg "frame" = some (.ref frame)
  frame_b : Binds K frame_fd ["body"] []
  frame_at : Addr
  frame_at_fd : FuncData
  frame_at_F : Fun K "frame_at" "frame_at" s_frame_at frame_at frame_at_fd
  frame_at_m : mg "frame_at" = some (.ref frame_at)
  frame_at_b : Binds K frame_at_fd ["octets", "at"] []
  frames : Addr
  frames_fd : FuncData
  frames_F : Fun K "frames" "frames" s_frames frames frames_fd
  frames_m : mg "frames" = some (.ref frames)
  frames_b : Binds K frames_fd ["octets"] []
  law_box : Addr
  law_box_fd : FuncData
  law_box_F : Fun K "_law_box" "_law_box" s_law_box law_box law_box_fd
  law_box_m : mg "_law_box" = some (.ref law_box)
  law_box_b : Binds K law_box_fd ["script", "k"] []
  law_take : Addr
  law_take_fd : FuncData
  law_take_F : Fun K "_law_take" "_law_take" s_law_take law_take law_take_fd
  law_take_m : mg "_law_take" = some (.ref law_take)
  law_take_b : Binds K law_take_fd ["box", "many"] []
  law_pick : Addr
  law_pick_fd : FuncData
  law_pick_F : Fun K "_law_pick" "_law_pick" s_law_pick law_pick law_pick_fd
  law_pick_m : mg "_law_pick" = some (.ref law_pick)
  law_pick_b : Binds K law_pick_fd ["box", "some"] []
  law_is_row : Addr
  law_is_row_fd : FuncData
  law_is_row_F : Fun K "_law_is_row" "_law_is_row" s_law_is_row law_is_row law_is_row_fd
  law_is_row_m : mg "_law_is_row" = some (.ref law_is_row)
  law_is_row_b : Binds K law_is_row_fd ["told", "due"] []
  law_is_told : Addr
  law_is_told_fd : FuncData
  law_is_told_F : Fun K "_law_is_told" "_law_is_told" s_law_is_told law_is_told law_is_told_fd
  law_is_told_m : mg "_law_is_told" = some (.ref law_is_told)
  law_is_told_b : Binds K law_is_told_fd ["told", "bodies", "behind"] []
  law_counted : Addr
  law_counted_fd : FuncData
  law_counted_F : Fun K "_law_counted" "_law_counted" s_law_counted law_counted law_counted_fd
  law_counted_m : mg "_law_counted" = some (.ref law_counted)
  law_counted_b : Binds K law_counted_fd ["many"] []
  law_sum : Addr
  law_sum_fd : FuncData
  law_sum_F : Fun K "_law_sum" "_law_sum" s_law_sum law_sum law_sum_fd
  law_sum_m : mg "_law_sum" = some (.ref law_sum)
  law_sum_b : Binds K law_sum_fd ["body"] []
  law_block_sum : Addr
  law_block_sum_fd : FuncData
  law_block_sum_F : Fun K "_law_block_sum" "_law_block_sum" s_law_block_sum law_block_sum law_block_sum_fd
  law_block_sum_m : mg "_law_block_sum" = some (.ref law_block_sum)
  law_block_sum_b : Binds K law_block_sum_fd ["block", "many"] []
  law_framed : Addr
  law_framed_fd : FuncData
  law_framed_F : Fun K "_law_framed" "_law_framed" s_law_framed law_framed law_framed_fd
  law_framed_m : mg "_law_framed" = some (.ref law_framed)
  law_framed_b : Binds K law_framed_fd ["body", "total"] []
  law_body : Addr
  law_body_fd : FuncData
  law_body_F : Fun K "_law_body" "_law_body" s_law_body law_body law_body_fd
  law_body_m : mg "_law_body" = some (.ref law_body)
  law_body_b : Binds K law_body_fd ["box", "great"] []
  law_row : Addr
  law_row_fd : FuncData
  law_row_F : Fun K "_law_row" "_law_row" s_law_row law_row law_row_fd
  law_row_m : mg "_law_row" = some (.ref law_row)
  law_row_b : Binds K law_row_fd ["box", "may_be_great"] []
  law_flat : Addr
  law_flat_fd : FuncData
  law_flat_F : Fun K "_law_flat" "_law_flat" s_law_flat law_flat law_flat_fd
  law_flat_m : mg "_law_flat" = some (.ref law_flat)
  law_flat_b : Binds K law_flat_fd ["found"] []
  law_ahead : Addr
  law_ahead_fd : FuncData
  law_ahead_F : Fun K "_law_ahead" "_law_ahead" s_law_ahead law_ahead law_ahead_fd
  law_ahead_m : mg "_law_ahead" = some (.ref law_ahead)
  law_ahead_b : Binds K law_ahead_fd ["found", "cut"] []
  law_read : Addr
  law_read_fd : FuncData
  law_read_F : Fun K "_law_read" "_law_read" s_law_read law_read law_read_fd
  law_read_m : mg "_law_read" = some (.ref law_read)
  law_read_b : Binds K law_read_fd ["row"] []
  law_frames_hold : Addr
  law_frames_hold_fd : FuncData
  law_frames_hold_F : Fun K "_law_frames_hold" "_law_frames_hold" s_law_frames_hold law_frames_hold law_frames_hold_fd
  law_frames_hold_m : mg "_law_frames_hold" = some (.ref law_frames_hold)
  law_frames_hold_b : Binds K law_frames_hold_fd ["found"] []
  law_cuts_hold : Addr
  law_cuts_hold_fd : FuncData
  law_cuts_hold_F : Fun K "_law_cuts_hold" "_law_cuts_hold" s_law_cuts_hold law_cuts_hold law_cuts_hold_fd
  law_cuts_hold_m : mg "_law_cuts_hold" = some (.ref law_cuts_hold)
  law_cuts_hold_b : Binds K law_cuts_hold_fd ["box", "found"] []
  law_spoilt : Addr
  law_spoilt_fd : FuncData
  law_spoilt_F : Fun K "_law_spoilt" "_law_spoilt" s_law_spoilt law_spoilt law_spoilt_fd
  law_spoilt_m : mg "_law_spoilt" = some (.ref law_spoilt)
  law_spoilt_b : Binds K law_spoilt_fd ["box", "pair"] []
  law_spoils_hold : Addr
  law_spoils_hold_fd : FuncData
  law_spoils_hold_F : Fun K "_law_spoils_hold" "_law_spoils_hold" s_law_spoils_hold law_spoils_hold law_spoils_hold_fd
  law_spoils_hold_m : mg "_law_spoils_hold" = some (.ref law_spoils_hold)
  law_spoils_hold_b : Binds K law_spoils_hold_fd ["box", "found"] []
  law_any_hold : Addr
  law_any_hold_fd : FuncData
  law_any_hold_F : Fun K "_law_any_hold" "_law_any_hold" s_law_any_hold law_any_hold law_any_hold_fd
  law_any_hold_m : mg "_law_any_hold" = some (.ref law_any_hold)
  law_any_hold_b : Binds K law_any_hold_fd ["box", "found"] []
  law_great_holds : Addr
  law_great_holds_fd : FuncData
  law_great_holds_F : Fun K "_law_great_holds" "_law_great_holds" s_law_great_holds law_great_holds law_great_holds_fd
  law_great_holds_m : mg "_law_great_holds" = some (.ref law_great_holds)
  law_great_holds_b : Binds K law_great_holds_fd ["box"] []
  law : Addr
  law_fd : FuncData
  law_F : Fun K "law" "law" s_law law law_fd
  law_m : mg "law" = some (.ref law)
  law_b : Binds K law_fd ["script"] []
  z_abs : mg "abs" = none
  z_bool : mg "bool" = none
  z_enumerate : mg "enumerate" = none
  z_int : mg "int" = none
  z_isinstance : mg "isinstance" = none
  z_len : mg "len" = none
  z_list : mg "list" = none
  z_max : mg "max" = none
  z_min : mg "min" = none
  z_range : mg "range" = none
  z_reversed : mg "reversed" = none
  z_sum : mg "sum" = none
  z_tuple : mg "tuple" = none
  MANY_BITS_t : Tok
  MANY_BITS_m : mg "MANY_BITS" = some (.int 448 MANY_BITS_t)
  MANY_FIGURES_t : Tok
  MANY_FIGURES_m : mg "MANY_FIGURES" = some (.int 64 MANY_FIGURES_t)
  SUM_BASE_t : Tok
  SUM_BASE_m : mg "SUM_BASE" = some (.int 65521 SUM_BASE_t)
def Tx.objs {K : PySem.W.Frag} {mg : Str → Option Value} (T : Tx K mg) : List Addr := []
theorem Tx.objs_isi {K : PySem.W.Frag} {mg : Str → Option Value} (T : Tx K mg) : ∀ C ∈ T.objs, OwnC K C ∧ ∀ k : Kd, PySem.W.kitOne K (.ref C) (.type k.name) = some false := fun C hC => by cases hC
theorem kb_frame_body {K : PySem.W.Frag} {f : Addr} {fd : FuncData} (F : Fun K "frame" "frame" s_frame f fd) : KBn K fd ["body"] 0 ["body"] (fun _ zs => perm [0] zs) (fun _ zs => perm [0] zs) := by
  obtain ⟨oc, od, kV, doc, pm, an, cdv, ct, osl, rfl, lk, hcd⟩ := F.ex
  exact kbn_perm fun s ws h => match ws, h with | [a0], _ => .of_eq rfl
theorem kb_frames_octets {K : PySem.W.Frag} {f : Addr} {fd : FuncData} (F : Fun K "frames" "frames" s_frames f fd) : KBn K fd ["octets"] 0 ["octets"] (fun _ zs => perm [0] zs) (fun _ zs => perm [0] zs) := by
  obtain ⟨oc, od, kV, doc, pm, an, cdv, ct, osl, rfl, lk, hcd⟩ := F.ex
  exact kbn_perm fun s ws h => match ws, h with | [a0], _ => .of_eq rfl
section
variable {P : Program} {w : World} {K : PySem.W.Frag} {mg : Str → Option Value} {base : Heap}

theorem ok_law_take0 (T : Tx K mg) : FnOk P w K mg base (L2.CX P w) 1 T.law_take T.law_take_fd ["box", "many"] spTake := by
  refine T.law_take_F.okX sc_law_take (fun vs H Q E h => ?_) (fun cdv A outer s H vs Q E hr h => ?_)
  · obtain ⟨b, many, rfl, _⟩ := h
    rfl
  · obtain ⟨b, many, rfl, hb, h1, h2, k⟩ := h
    refine ⟨_, (Pre.pss_open (pss_cons (ps_if (pt_cmpR op_gt (pe_ix ix_list (pv 0) pe_int (fun _ _ => rfl)) pe_int (nomark _)) (pss_cons (ps_set (i := 2) sc_law_take.nd rfl (Or.inl rfl) (pe_op op_mod (pe_callTy call_int1 (by rfl) T.z_int (by decide +kernel) (pa_cons (pe_ix ix_list (pv 0) pe_int (fun _ _ => rfl)) pa_nil)) (pv 1)))
      (pss_cons (ps_asg (pe_op Pre.op_fdivG (pe_ix ix_list (pv 0) pe_int (fun _ _ => rfl)) (pv 1)) (pg_sub (pv 0) pe_int set_list))
      (pss_one (ps_ret (Pre.pe_close (pv 2)))))) pss_nil)
      (pss_cons (ps_asg (pe_op op_add (pe_ix ix_list (pv 0) pe_int (fun _ _ => rfl)) pe_int) (pg_sub (pv 0) pe_int set_list))
      (pss_cons (ps_set (i := 3) sc_law_take.nd rfl (Or.inl rfl) (pe_op op_mod (pe_callTy call_int1 (by rfl) T.z_int (by decide +kernel) (pa_cons (pe_op op_add (pe_op op_mul (pe_op op_add (pe_ix ix_list (pv 0) pe_int (fun _ _ => rfl)) (pe_op op_mul pe_int (pe_ix ix_list (pv 0) pe_int (fun _ _ => rfl)))) pe_int) pe_int) pa_nil)) pe_int))
      (pss_cons (ps_asg (pe_op op_add (pe_op op_mod (pe_callTy call_int1 (by rfl) T.z_int (by decide +kernel) (pa_cons (pe_op op_add (pe_op op_mul (pv 3) pe_int) pe_int) pa_nil)) pe_int) pe_int) (pg_sub (pv 0) pe_int set_list))
      (pss_one (ps_ret (Pre.pe_close (pe_op op_mod (pe_callTy call_int1 (by rfl) T.z_int (by decide +kernel) (pa_cons (pe_op op_fdiv (pe_op op_add (pe_op op_mul (pv 3) pe_int) (pe_ix ix_list (pv 0) pe_int (fun _ _ => rfl))) pe_int) pa_nil)) (pv 1)))))))))), ?_⟩
    refine ⟨b, BoxP, hb, fun xs ⟨c, m, j, ex, c0, m0, j0⟩ _ => ?_⟩
    subst ex
    have S : Open H b c m j (upd H b (.lst [.int c, .int m, .int j])) := ⟨upd_same, c0, m0, j0, fun x o h ne => by rw [upd_ne ne]; exact h⟩
    generalize upd H b (.lst [.int c, .int m, .int j]) = H0 at S ⊢
    refine ⟨_, rfl, b, _, _, _, rfl, rfl, SqL.of S.hb, rfl, _, _, rfl, rfl, _, rfl, ite2 (fun hc => ?_) (fun hc => ?_)⟩
    · refine ⟨_, rfl, b, _, _, _, rfl, rfl, SqL.of S.hb, rfl, .inl ⟨_, rfl, _, rfl, _, _, rfl, rfl, (by show (0 : Int) < many; omega), ?_⟩⟩
      refine ⟨_, rfl, b, _, _, _, rfl, rfl, SqL.of S.hb, rfl, _, rfl, _, _, rfl, rfl, Pre.div_ok (b := 64) (by omega) (by omega), _, rfl, b, _, _, 0, rfl, rfl, S.hb, rfl, ?_⟩
      have S2 := S.set (xs := [V.int (c.fdiv many), .int m, .int j]) rfl (Int.fdiv_nonneg c0 (by omega)) m0 j0
      exact ⟨_, rfl, b, BoxP, _, S2.hb, ⟨_, _, _, rfl, S2.c0, S2.m0, S2.j0⟩, k _ _ (S2.close hb) (Int.emod_nonneg _ (by omega)) (Int.emod_lt_of_pos _ (by omega))⟩
    · refine ⟨_, rfl, b, _, _, _, rfl, rfl, SqL.of S.hb, atI_nat (j := 2) rfl, _, _, rfl, rfl, _, rfl, b, _, _, 2, rfl, rfl, S.hb, rfl, ?_⟩
      have S2 := S.set (xs := [V.int c, .int m, .int (j + 1)]) (j' := j + 1) rfl c0 m0 (by omega)
      generalize hg2 : upd H0 b _ = H2 at S2
      have e2 : upd H0 b (.lst ([V.int c, .int m, .int j].set 2 (.int (j + 1)))) = H2 := hg2
      rw [e2]
      clear hg2 e2
      refine ⟨_, rfl, b, _, _, _, rfl, rfl, SqL.of S2.hb, atI_nat (j := 1) rfl, _, rfl, b, _, _, _, rfl, rfl, SqL.of S2.hb, atI_nat (j := 2) rfl, _, _, rfl, rfl, .inl ⟨by decide, by decide⟩, _, _, rfl, rfl, _, _, rfl, rfl, .inr ⟨by decide, by decide⟩, _, _, rfl, rfl,
        .inl ⟨_, rfl, _, _, rfl, rfl, (by show (0 : Int) < 2147483563; decide), ?_⟩⟩
      refine ⟨_, rfl, _, _, rfl, rfl, .inr ⟨by decide, by decide⟩, _, _, rfl, rfl, .inl ⟨_, rfl, _, _, rfl, rfl, (by show (0 : Int) < 2147483587; decide), _, _, rfl, rfl, _, rfl, b, _, _, 1, rfl, rfl, S2.hb, rfl, ?_⟩⟩
      have m1 : 0 ≤ ((((m + 65027 * (j + 1)) * 62011 + 41) % 2147483563) * 36013 + 20011) % 2147483587 + 1 := by
        have := Int.emod_nonneg ((((m + 65027 * (j + 1)) * 62011 + 41) % 2147483563) * 36013 + 20011) (show (2147483587 : Int) ≠ 0 by decide)
        omega
      have S3 := S2.set (xs := [V.int c, .int (((((m + 65027 * (j + 1)) * 62011 + 41) % 2147483563) * 36013 + 20011) % 2147483587 + 1), .int (j + 1)]) rfl c0 m1 (by omega)
      refine ⟨_, rfl, _, _, rfl, rfl, .inr ⟨by decide, by decide⟩, _, rfl, b, _, _, _, rfl, rfl, SqL.of S3.hb, atI_nat (j := 1) rfl, _, _, rfl, rfl, _, _, rfl, rfl, ⟨by decide, by decide⟩, .inl ⟨_, rfl, _, rfl, _, _, rfl, rfl, (by show (0 : Int) < many; omega), b, BoxP, _, S3.hb, ⟨_, _, _, rfl, c0, m1, by omega⟩,
        k _ _ (S3.close hb) (Int.emod_nonneg _ (by omega)) (Int.emod_lt_of_pos _ (by omega))⟩⟩
@[irreducible] def F_law_take (_ : Tx K mg) : Fd := FTake
theorem ok_law_take (T : Tx K mg) : FnOk P w K mg base (L2.CX P w) 1 T.law_take T.law_take_fd ["box", "many"] (spP K 2 (F_law_take T)) := by
  unfold F_law_take
  exact take_of (ok_law_take0 T)

def Fr_number_octets (T : Tx K mg) : Fd := fun as Pr Re => (wSeq (wSetS 1 (wSv (wBt φMax2 (wCons (wC (.int 1)) (wCons (wUn φNeg (wOp φFdv (wUn φNeg (wBits (wVar 0))) (wC (.int 7)))) wNil)))))
      (wSeq (wSetS 2 (wSl_ (wLst wNil)))
      (wSeq (wWhile (wOpB φGtU (wVar 1) (wC (.int 0))) (wSeq (wSetS 3 (wSv (wOp φAnd (wVar 0) (wOp φSub (wOp φShl (wC (.int 1)) (wC (.int 448))) (wC (.int 1))))))
      (wSeq (wSetS 0 (wSv (wOp φShr (wVar 0) (wC (.int 448)))))
      (wSeq (wExt 2 (wLV (wComp [4] (wRng1 (wCons (wBt φMin2 (wCons (wVar 1) (wCons (wC (.int 64)) wNil))) wNil)) (sName 4) wYes (wOp φAnd (wOp φShr (wVar 3) (wOp φMul (wC (.int 7)) (wVar 4))) (wC (.int 127))))))
      (wSetS 1 (wSv (wOp φSub (wVar 1) (wC (.int 64)))))))))
      (wLet 2 (wRet (wTup (wStar (wLV (wComp [5] (wWalk (wSl φSlU (wVar 2) wNoP (wPart (wUn φNeg (wC (.int 1)))))) (sName 5) wYes (wOp φAdd (wVar 5) (wC (.int 128))))) (wCons (wOp φIxU (wVar 2) (wUn φNeg (wC (.int 1)))) wNil)))))))) (startE 6 as) (fin Pr Re)
theorem okr_number_octets (T : Tx K mg) : FnOk P w K mg base (L2.CX P w) 1 T.number_octets T.number_octets_fd ["number"] (spP K 1 (Fr_number_octets T)) :=
  okP T.number_octets_F sc_number_octets rfl fun cdv A outer s H E B hr => ⟨_, pdss_cons (pds_setS (i := 1) sc_number_octets.nd rfl (Or.inl rfl) (psl_v (pd_bt (pe_callB (call_max2 rfl) (by rfl) T.z_max (by decide +kernel) (pda_cons pd_int (pda_cons (pd_un un_neg udNeg (pd_op op_fdivG odFdvU (pd_un un_neg udNeg (pd_bits (pd_var 0))) pd_int)) pda_nil))) cdMax2)))
      (pdss_cons (pds_setS (i := 2) sc_number_octets.nd rfl (Or.inl rfl) (psl_l (pl_lst pda_nil)))
      (pdss_cons (pds_while (passes_of rfl) (pq_cmp (op_gtU hr.units) odOrd (pd_var 1) pd_int (nomark _)) (pdss_cons (pds_setS (i := 3) sc_number_octets.nd rfl (Or.inr rfl) (psl_v (pd_op op_and odAnd (pd_var 0) (pd_op op_sub odSubU (pd_op op_shlW odShl pd_int (pd_const (v := .int 448) (pe_glob (by rfl) T.MANY_BITS_m ⟨_, rfl⟩) (fun _ _ => .int _))) pd_int))))
      (pdss_cons (pds_setS (i := 0) sc_number_octets.nd rfl (Or.inl rfl) (psl_v (pd_op op_shr odShr (pd_var 0) (pd_const (v := .int 448) (pe_glob (by rfl) T.MANY_BITS_m ⟨_, rfl⟩) (fun _ _ => .int _)))))
      (pdss_cons (pds_extend (ps_expr (pe_bm PySem.F.plainAttrs_list PySem.F.slot_list_extend PySem.F.type_list_extend mt_extend (pv 2) (pa_cons (pd_of_pl (pl_lc (own := [("k", 4)]) rfl sc_number_octets.nd (pdi_range1 (by rfl) T.z_range (pda_cons (pd_bt (pe_callB (call_min2 rfl) (by rfl) T.z_min (by decide +kernel) (pda_cons (pd_var 1) (pda_cons (pd_const (v := .int 64) (pe_glob (by rfl) T.MANY_FIGURES_m ⟨_, rfl⟩) (fun _ _ => .int _)) pda_nil))) cdMin2) pda_nil)) (blkOk_by (own := [("k", 4)]) (N := ["number", "left", "figures", "part", "k", "figure"]) (sc := defScope s_number_octets) (by decide +kernel)) (fun _ _ _ _ _ => pgc_name (i := 4) sc_number_octets.nd rfl (Or.inl rfl)) (fun _ _ _ _ _ => pqs_nil) (fun _ _ _ _ _ => pd_op op_and odAnd (pd_op op_shr odShr (pd_var 3) (pd_op op_mulU odMulU pd_int (pd_var 4))) pd_int))) pa_nil)) (by rfl)))
      (pdss_one (pds_setS (i := 1) sc_number_octets.nd rfl (Or.inl rfl) (psl_v (pd_op op_sub odSubU (pd_var 1) (pd_const (v := .int 64) (pe_glob (by rfl) T.MANY_FIGURES_m ⟨_, rfl⟩) (fun _ _ => .int _))))))))))
      (pdss_let 2 (pdss_one (pds_ret (pd_tup (pda_star (pd_of_pl (pl_lc (own := [("figure", 5)]) rfl sc_number_octets.nd (pdi_walk (pd_sl sl_U sdU (pd_var 2) pdo_none (pdo_some (pd_un un_neg udNeg pd_int)))) (blkOk_by (own := [("figure", 5)]) (N := ["number", "left", "figures", "part", "k", "figure"]) (sc := defScope s_number_octets) (by decide +kernel)) (fun _ _ _ _ _ => pgc_name (i := 5) sc_number_octets.nd rfl (Or.inl rfl)) (fun _ _ _ _ _ => pqs_nil) (fun _ _ _ _ _ => pd_op op_addU odAddU (pd_var 5) pd_int))) (pda_cons (pd_ix ix_U odIxU (pd_var 2) (pd_un un_neg udNeg pd_int) (fun _ _ => rfl)) pda_nil)))))))), fun _ _ _ _ hF => hF⟩
@[irreducible] def F_number_octets (T : Tx K mg) : Fd := Fr_number_octets T
theorem ok_number_octets (T : Tx K mg) : FnOk P w K mg base (L2.CX P w) 1 T.number_octets T.number_octets_fd ["number"] (spP K 1 (F_number_octets T)) := by
  unfold F_number_octets
  exact okr_number_octets T
def Fr_number_of_figures (T : Tx K mg) : Fd := fun as Pr Re => (wSeq (wSetS 1 (wSv (wC (.int 0))))
      (wSeq (wFor (wRev (wLV (wLRng3 (wCons (wC (.int 0)) (wCons (wBt φLen (wCons (wVar 0) wNil)) (wCons (wC (.int 64)) wNil)))))) (sName 2) (wSeq (wSetS 3 (wSv (wC (.int 0))))
      (wSeq (wFor (wRev (wSl φSlU (wVar 0) (wPart (wVar 2)) (wPart (wOp φAdd (wVar 2) (wC (.int 64)))))) (sName 4) (wSetS 3 (wSv (wOp φAdd (wOp φMul (wVar 3) (wC (.int 128))) (wVar 4)))))
      (wSetS 1 (wSv (wOp φAdd (wOp φShl (wVar 1) (wC (.int 448))) (wVar 3)))))))
      (wRet (wVar 1)))) (startE 5 as) (fin Pr Re)
theorem okr_number_of_figures (T : Tx K mg) : FnOk P w K mg base (L2.CX P w) 1 T.number_of_figures T.number_of_figures_fd ["figures"] (spP K 1 (Fr_number_of_figures T)) :=
  okP T.number_of_figures_F sc_number_of_figures rfl fun cdv A outer s H E B hr => ⟨_, pdss_cons (pds_setS (i := 1) sc_number_of_figures.nd rfl (Or.inl rfl) (psl_v pd_int))
      (pdss_cons (pds_for (passes_of rfl) rfl (pdi_rev (by rfl) T.z_reversed (pd_of_pl (pl_lrng3 rfl (by rfl) T.z_list (by rfl) T.z_range (pda_cons pd_int (pda_cons (pd_bt (pe_callB call_len (by rfl) T.z_len (by decide +kernel) (pda_cons (pd_var 0) pda_nil)) cdLen) (pda_cons (pd_const (v := .int 64) (pe_glob (by rfl) T.MANY_FIGURES_m ⟨_, rfl⟩) (fun _ _ => .int _)) pda_nil)))))) (pgd_name (i := 2) sc_number_of_figures.nd rfl (Or.inl rfl)) (pdss_cons (pds_setS (i := 3) sc_number_of_figures.nd rfl (Or.inl rfl) (psl_v pd_int))
      (pdss_cons (pds_for (passes_of rfl) rfl (pdi_rev (by rfl) T.z_reversed (pd_sl sl_U sdU (pd_var 0) (pdo_some (pd_var 2)) (pdo_some (pd_op op_addU odAddU (pd_var 2) (pd_const (v := .int 64) (pe_glob (by rfl) T.MANY_FIGURES_m ⟨_, rfl⟩) (fun _ _ => .int _)))))) (pgd_name (i := 4) sc_number_of_figures.nd rfl (Or.inl rfl)) (pdss_one (pds_setS (i := 3) sc_number_of_figures.nd rfl (Or.inl rfl) (psl_v (pd_op op_addU odAddU (pd_op op_mulU odMulU (pd_var 3) pd_int) (pd_var 4))))))
      (pdss_one (pds_setS (i := 1) sc_number_of_figures.nd rfl (Or.inl rfl) (psl_v (pd_op op_addU odAddU (pd_op op_shlW odShl (pd_var 1) (pd_const (v := .int 448) (pe_glob (by rfl) T.MANY_BITS_m ⟨_, rfl⟩) (fun _ _ => .int _))) (pd_var 3))))))))
      (pdss_one (pds_ret (pd_var 1)))), fun _ _ _ _ hF => hF⟩
@[irreducible] def F_number_of_figures (T : Tx K mg) : Fd := Fr_number_of_figures T
theorem ok_number_of_figures (T : Tx K mg) : FnOk P w K mg base (L2.CX P w) 1 T.number_of_figures T.number_of_figures_fd ["figures"] (spP K 1 (F_number_of_figures T)) := by
  unfold F_number_of_figures
  exact okr_number_of_figures T
def Fr_read_number (T : Tx K mg) : Fd := fun as Pr Re => (wSeq (wIfS (wNot (wB (wCh φLeU φLtU (wC (.int 0)) (wVar 1) (wBt φLen (wCons (wVar 0) wNil))))) (wRet (wC .non)) wNext)
      (wSeq (wSetS 2 (wSv (wVar 1)))
      (wSeq (wWhile (wAnd (wOpB φLtU (wVar 2) (wBt φLen (wCons (wVar 0) wNil))) (wOpB φGeU (wOp φIxU (wVar 0) (wVar 2)) (wC (.int 128)))) (wSetS 2 (wSv (wOp φAdd (wVar 2) (wC (.int 1))))))
      (wSeq (wIfS (wOr (wOpB (φEqU false) (wVar 2) (wBt φLen (wCons (wVar 0) wNil))) (wAnd (wOpB (φEqU false) (wOp φIxU (wVar 0) (wVar 2)) (wC (.int 0))) (wOpB φGtU (wVar 2) (wVar 1)))) (wRet (wC .non)) wNext)
      (wRet (wTup (wCons (wCall 1 (F_number_of_figures T) (wCons (wLV (wComp [3] (wWalk (wSl φSlU (wVar 0) (wPart (wVar 1)) (wPart (wOp φAdd (wVar 2) (wC (.int 1)))))) (sName 3) wYes (wOp φAnd (wVar 3) (wC (.int 127))))) wNil)) (wCons (wOp φAdd (wVar 2) (wC (.int 1))) wNil)))))))) (startE 4 as) (fin Pr Re)
theorem okr_read_number (T : Tx K mg) : FnOk P w K mg base (L2.CX P w) 2 T.read_number T.read_number_fd ["octets", "at"] (spP K 2 (Fr_read_number T)) :=
  okP T.read_number_F sc_read_number rfl fun cdv A outer s H E B hr => ⟨_, pdss_cons (pds_if (pq_not (pq_chain (op_leU hr.units) (op_ltU hr.units) odOrd odOrd pd_int (pd_var 1) (pd_bt (pe_callB call_len (by rfl) T.z_len (by decide +kernel) (pda_cons (pd_var 0) pda_nil)) cdLen))) (pdss_one (pds_ret pd_non)) pdss_nil)
      (pdss_cons (pds_setS (i := 2) sc_read_number.nd rfl (Or.inl rfl) (psl_v (pd_var 1)))
      (pdss_cons (pds_while (passes_of rfl) (pqw_pt (pqw_and (pq_cmp (op_ltU hr.units) odOrd (pd_var 2) (pd_bt (pe_callB call_len (by rfl) T.z_len (by decide +kernel) (pda_cons (pd_var 0) pda_nil)) cdLen) (nomark _)) (pqw_and1 (pq_cmp (op_geU hr.units) odOrd (pd_ix ix_U odIxU (pd_var 0) (pd_var 2) (fun _ _ => rfl)) pd_int (nomark _))))) (pdss_one (pds_setS (i := 2) sc_read_number.nd rfl (Or.inl rfl) (psl_v (pd_op op_addU odAddU (pd_var 2) pd_int)))))
      (pdss_cons (pds_if (pqw_pt (pqw_or (pq_cmp (op_eqU hr.units) odEqU (pd_var 2) (pd_bt (pe_callB call_len (by rfl) T.z_len (by decide +kernel) (pda_cons (pd_var 0) pda_nil)) cdLen) (nomark _)) (pqw_or1 (pqw_pt (pqw_and (pq_cmp (op_eqU hr.units) odEqU (pd_ix ix_U odIxU (pd_var 0) (pd_var 2) (fun _ _ => rfl)) pd_int (nomark _)) (pqw_and1 (pq_cmp (op_gtU hr.units) odOrd (pd_var 2) (pd_var 1) (nomark _)))))))) (pdss_one (pds_ret pd_non)) pdss_nil)
      (pdss_one (pds_ret (pd_tup (pda_cons (pd_call (ok_number_of_figures T) (hr.mono (by omega)) (by rfl) T.number_of_figures_m T.number_of_figures_F.kp T.number_of_figures_b (takes_of rfl rfl rfl rfl) (pda_cons (pd_of_pl (pl_lc (own := [("octet", 3)]) rfl sc_read_number.nd (pdi_walk (pd_sl sl_U sdU (pd_var 0) (pdo_some (pd_var 1)) (pdo_some (pd_op op_addU odAddU (pd_var 2) pd_int)))) (blkOk_by (own := [("octet", 3)]) (N := ["octets", "at", "last", "octet"]) (sc := defScope s_read_number) (by decide +kernel)) (fun _ _ _ _ _ => pgc_name (i := 3) sc_read_number.nd rfl (Or.inl rfl)) (fun _ _ _ _ _ => pqs_nil) (fun _ _ _ _ _ => pd_op op_and odAnd (pd_var 3) pd_int))) pda_nil)) (pda_cons (pd_op op_addU odAddU (pd_var 2) pd_int) pda_nil)))))))), fun _ _ _ _ hF => hF⟩
@[irreducible] def F_read_number (T : Tx K mg) : Fd := Fr_read_number T
theorem ok_read_number (T : Tx K mg) : FnOk P w K mg base (L2.CX P w) 2 T.read_number T.read_number_fd ["octets", "at"] (spP K 2 (F_read_number T)) := by
  unfold F_read_number
  exact okr_read_number T
def Fr_sum_of_octets (T : Tx K mg) : Fd := fun as Pr Re => (wRet (wOp φMod (wBt φSum (wCons (wLV (wComp [1, 2] (wEnum (wCons (wVar 0) wNil)) (sTup 2 (sCons (sName 1) (sCons (sName 2) sNil))) wYes (wOp φMul (wVar 2) (wOp φAdd (wVar 1) (wC (.int 1)))))) wNil)) (wC (.int 65521)))) (startE 3 as) (fin Pr Re)
theorem okr_sum_of_octets (T : Tx K mg) : FnOk P w K mg base (L2.CX P w) 1 T.sum_of_octets T.sum_of_octets_fd ["octets"] (spP K 1 (Fr_sum_of_octets T)) :=
  okP T.sum_of_octets_F sc_sum_of_octets rfl fun cdv A outer s H E B hr => ⟨_, pdss_one (pds_ret (pd_op op_modN odModU (pd_bt (pe_callB (cr_sum rfl) (by rfl) T.z_sum (by decide +kernel) (pda_cons (pd_of_pl (pl_lc (own := [("at", 1), ("octet", 2)]) rfl sc_sum_of_octets.nd (pdi_enum (by rfl) T.z_enumerate (pda_cons (pd_var 0) pda_nil)) (blkOk_by (own := [("at", 1), ("octet", 2)]) (N := ["octets", "at", "octet"]) (sc := defScope s_sum_of_octets) (by decide +kernel)) (fun _ _ _ _ _ => pgc_tup rfl (pgcs_cons (pgc_name (i := 1) sc_sum_of_octets.nd rfl (Or.inl rfl)) (pgcs_cons (pgc_name (i := 2) sc_sum_of_octets.nd rfl (Or.inl rfl)) pgcs_nil))) (fun _ _ _ _ _ => pqs_nil) (fun _ _ _ _ _ => pd_op op_mulU odMulU (pd_var 2) (pd_op op_addU odAddU (pd_var 1) pd_int)))) pda_nil)) cdSum) (pd_const (v := .int 65521) (pe_glob (by rfl) T.SUM_BASE_m ⟨_, rfl⟩) (fun _ _ => .int _)))), fun _ _ _ _ hF => hF⟩
@[irreducible] def F_sum_of_octets (T : Tx K mg) : Fd := Fr_sum_of_octets T
theorem ok_sum_of_octets (T : Tx K mg) : FnOk P w K mg base (L2.CX P w) 1 T.sum_of_octets T.sum_of_octets_fd ["octets"] (spP K 1 (F_sum_of_octets T)) := by
  unfold F_sum_of_octets
  exact okr_sum_of_octets T
def Fr_frame (T : Tx K mg) : Fd := fun as Pr Re => (wSeq (wSetS 1 (wSv (wCall 1 (F_sum_of_octets T) (wCons (wVar 0) wNil))))
      (wRet (wTup (wStar (wCall 1 (F_number_octets T) (wCons (wBt φLen (wCons (wVar 0) wNil)) wNil)) (wStar (wVar 0) (wCons (wOp φAnd (wVar 1) (wC (.int 255))) (wCons (wOp φShr (wVar 1) (wC (.int 8))) wNil))))))) (startE 2 as) (fin Pr Re)
theorem okr_frame (T : Tx K mg) : FnOk P w K mg base (L2.CX P w) 2 T.frame T.frame_fd ["body"] (spP K 1 (Fr_frame T)) :=
  okP T.frame_F sc_frame rfl fun cdv A outer s H E B hr => ⟨_, pdss_cons (pds_setS (i := 1) sc_frame.nd rfl (Or.inl rfl) (psl_v (pd_call (ok_sum_of_octets T) (hr.mono (by omega)) (by rfl) T.sum_of_octets_m T.sum_of_octets_F.kp T.sum_of_octets_b (takes_of rfl rfl rfl rfl) (pda_cons (pd_var 0) pda_nil))))
      (pdss_one (pds_ret (pd_tup (pda_star (pd_call (ok_number_octets T) (hr.mono (by omega)) (by rfl) T.number_octets_m T.number_octets_F.kp T.number_octets_b (takes_of rfl rfl rfl rfl) (pda_cons (pd_bt (pe_callB call_len (by rfl) T.z_len (by decide +kernel) (pda_cons (pd_var 0) pda_nil)) cdLen) pda_nil)) (pda_star (pd_var 0) (pda_cons (pd_op op_and odAnd (pd_var 1) pd_int) (pda_cons (pd_op op_shr odShr (pd_var 1) pd_int) pda_nil))))))), fun _ _ _ _ hF => hF⟩
@[irreducible] def F_frame (T : Tx K mg) : Fd := Fr_frame T
theorem ok_frame (T : Tx K mg) : FnOk P w K mg base (L2.CX P w) 2 T.frame T.frame_fd ["body"] (spP K 1 (F_frame T)) := by
  unfold F_frame
  exact okr_frame T
def Fr_frame_at (T : Tx K mg) : Fd := fun as Pr Re => (wSeq (wSetS 2 (wSv (wCall 2 (F_read_number T) (wCons (wVar 0) (wCons (wVar 1) wNil)))))
      (wSeq (wIfS (wOr (wOpB (φIsN false) (wVar 2) (wC .non)) (wOpB φGtU (wOp φAdd (wOp φIxU (wVar 2) (wC (.int 0))) (wC (.int 2))) (wOp φSub (wBt φLen (wCons (wVar 0) wNil)) (wOp φIxU (wVar 2) (wC (.int 1)))))) (wRet (wC .non)) wNext)
      (wSeq (wAsg (wVar 2) (sTup 2 (sCons (sName 3) (sCons (sName 4) sNil))))
      (wSeq (wSetS 5 (wSv (wBt φTuple (wCons (wSl φSlU (wVar 0) (wPart (wVar 4)) (wPart (wOp φAdd (wVar 4) (wVar 3)))) wNil))))
      (wSeq (wAsg (wSl φSlU (wVar 0) (wPart (wOp φAdd (wVar 4) (wVar 3))) (wPart (wOp φAdd (wOp φAdd (wVar 4) (wVar 3)) (wC (.int 2))))) (sTup 2 (sCons (sName 6) (sCons (sName 7) sNil))))
      (wRet (wIf (wOpB (φEqU false) (wCall 1 (F_sum_of_octets T) (wCons (wVar 5) wNil)) (wOp φAdd (wVar 6) (wOp φMul (wC (.int 256)) (wVar 7)))) (wTup (wCons (wVar 5) (wCons (wOp φAdd (wOp φAdd (wVar 4) (wVar 3)) (wC (.int 2))) wNil))) (wC .non)))))))) (startE 8 as) (fin Pr Re)
theorem okr_frame_at (T : Tx K mg) : FnOk P w K mg base (L2.CX P w) 3 T.frame_at T.frame_at_fd ["octets", "at"] (spP K 2 (Fr_frame_at T)) :=
  okP T.frame_at_F sc_frame_at rfl fun cdv A outer s H E B hr => ⟨_, pdss_cons (pds_setS (i := 2) sc_frame_at.nd rfl (Or.inl rfl) (psl_v (pd_call (ok_read_number T) (hr.mono (by omega)) (by rfl) T.read_number_m T.read_number_F.kp T.read_number_b (takes_of rfl rfl rfl rfl) (pda_cons (pd_var 0) (pda_cons (pd_var 1) pda_nil)))))
      (pdss_cons (pds_if (pqw_pt (pqw_or (pq_cmp op_isN odIsN (pd_var 2) pd_non (nomark _)) (pqw_or1 (pq_cmp (op_gtU hr.units) odOrd (pd_op op_addU odAddU (pd_ix ix_U odIxU (pd_var 2) pd_int (fun _ _ => rfl)) pd_int) (pd_op op_sub odSubU (pd_bt (pe_callB call_len (by rfl) T.z_len (by decide +kernel) (pda_cons (pd_var 0) pda_nil)) cdLen) (pd_ix ix_U odIxU (pd_var 2) pd_int (fun _ _ => rfl))) (nomark _))))) (pdss_one (pds_ret pd_non)) pdss_nil)
      (pdss_cons (pds_asg (pd_var 2) (pgd_tup rfl (pgds_cons (pgd_name (i := 3) sc_frame_at.nd rfl (Or.inl rfl)) (pgds_cons (pgd_name (i := 4) sc_frame_at.nd rfl (Or.inl rfl)) pgds_nil))))
      (pdss_cons (pds_setS (i := 5) sc_frame_at.nd rfl (Or.inl rfl) (psl_v (pd_bt (pe_callTy call_tuple_of (by rfl) T.z_tuple (by decide +kernel) (pda_cons (pd_sl sl_U sdU (pd_var 0) (pdo_some (pd_var 4)) (pdo_some (pd_op op_addU odAddU (pd_var 4) (pd_var 3)))) pda_nil)) cdTuple)))
      (pdss_cons (pds_asg (pd_sl sl_U sdU (pd_var 0) (pdo_some (pd_op op_addU odAddU (pd_var 4) (pd_var 3))) (pdo_some (pd_op op_addU odAddU (pd_op op_addU odAddU (pd_var 4) (pd_var 3)) pd_int))) (pgd_tup rfl (pgds_cons (pgd_name (i := 6) sc_frame_at.nd rfl (Or.inl rfl)) (pgds_cons (pgd_name (i := 7) sc_frame_at.nd rfl (Or.inl rfl)) pgds_nil))))
      (pdss_one (pds_ret (pd_ifE (pq_cmp (op_eqU hr.units) odEqU (pd_call (ok_sum_of_octets T) (hr.mono (by omega)) (by rfl) T.sum_of_octets_m T.sum_of_octets_F.kp T.sum_of_octets_b (takes_of rfl rfl rfl rfl) (pda_cons (pd_var 5) pda_nil)) (pd_op op_addU odAddU (pd_var 6) (pd_op op_mulU odMulU pd_int (pd_var 7))) (nomark _)) (pd_tup (pda_cons (pd_var 5) (pda_cons (pd_op op_addU odAddU (pd_op op_addU odAddU (pd_var 4) (pd_var 3)) pd_int) pda_nil))) pd_non))))))), fun _ _ _ _ hF => hF⟩
@[irreducible] def F_frame_at (T : Tx K mg) : Fd := Fr_frame_at T
theorem ok_frame_at (T : Tx K mg) : FnOk P w K mg base (L2.CX P w) 3 T.frame_at T.frame_at_fd ["octets", "at"] (spP K 2 (F_frame_at T)) := by
  unfold F_frame_at
  exact okr_frame_at T
def Fr_frames (T : Tx K mg) : Fd := fun as Pr Re => (wSeq (wSetS 1 (wSl_ (wLst wNil)))
      (wSeq (wSetS 2 (wSv (wC (.int 0))))
      (wSeq (wSetS 3 (wSv (wCall 2 (F_frame_at T) (wCons (wVar 0) (wCons (wVar 2) wNil)))))
      (wSeq (wWhile (wOpB (φIsN true) (wVar 3) (wC .non)) (wSeq (wAsg (wVar 3) (sTup 2 (sCons (sName 4) (sCons (sName 2) sNil))))
      (wSeq (wApp' 1 (wVar 4))
      (wSetS 3 (wSv (wCall 2 (F_frame_at T) (wCons (wVar 0) (wCons (wVar 2) wNil))))))))
      (wLet 1 (wRet (wTup (wCons (wBt φTuple (wCons (wVar 1) wNil)) (wCons (wVar 2) wNil))))))))) (startE 5 as) (fin Pr Re)
theorem okr_frames (T : Tx K mg) : FnOk P w K mg base (L2.CX P w) 4 T.frames T.frames_fd ["octets"] (spP K 1 (Fr_frames T)) :=
  okP T.frames_F sc_frames rfl fun cdv A outer s H E B hr => ⟨_, pdss_cons (pds_setS (i := 1) sc_frames.nd rfl (Or.inl rfl) (psl_l (pl_lst pda_nil)))
      (pdss_cons (pds_setS (i := 2) sc_frames.nd rfl (Or.inl rfl) (psl_v pd_int))
      (pdss_cons (pds_setS (i := 3) sc_frames.nd rfl (Or.inl rfl) (psl_v (pd_call (ok_frame_at T) (hr.mono (by omega)) (by rfl) T.frame_at_m T.frame_at_F.kp T.frame_at_b (takes_of rfl rfl rfl rfl) (pda_cons (pd_var 0) (pda_cons (pd_var 2) pda_nil)))))
      (pdss_cons (pds_while (passes_of rfl) (pq_cmp op_notN odNotN (pd_var 3) pd_non (nomark _)) (pdss_cons (pds_asg (pd_var 3) (pgd_tup rfl (pgds_cons (pgd_name (i := 4) sc_frames.nd rfl (Or.inl rfl)) (pgds_cons (pgd_name (i := 2) sc_frames.nd rfl (Or.inl rfl)) pgds_nil))))
      (pdss_cons (pds_append (ps_expr (pe_bm PySem.F.plainAttrs_list PySem.F.slot_list_append PySem.F.type_list_append mt_append (pv 1) (pa_cons (pd_var 4) pa_nil)) (by rfl)))
      (pdss_one (pds_setS (i := 3) sc_frames.nd rfl (Or.inl rfl) (psl_v (pd_call (ok_frame_at T) (hr.mono (by omega)) (by rfl) T.frame_at_m T.frame_at_F.kp T.frame_at_b (takes_of rfl rfl rfl rfl) (pda_cons (pd_var 0) (pda_cons (pd_var 2) pda_nil)))))))))
      (pdss_let 1 (pdss_one (pds_ret (pd_tup (pda_cons (pd_bt (pe_callTy call_tuple_of (by rfl) T.z_tuple (by decide +kernel) (pda_cons (pd_var 1) pda_nil)) cdTuple) (pda_cons (pd_var 2) pda_nil))))))))), fun _ _ _ _ hF => hF⟩
@[irreducible] def F_frames (T : Tx K mg) : Fd := Fr_frames T
theorem ok_frames (T : Tx K mg) : FnOk P w K mg base (L2.CX P w) 4 T.frames T.frames_fd ["octets"] (spP K 1 (F_frames T)) := by
  unfold F_frames
  exact okr_frames T
end
end K86
set_option maxRecDepth 100000
set_option maxHeartbeats 4000000
namespace K86
open PySem PySem.Spec PyProof.Rows L2 Pre Pd
section
variable {P : Program} {w : World} {K : PySem.W.Frag} {mg : Str → Option Value} {base : Heap}
def Fr_law_box (T : Tx K mg) : Fd := fun as Pr Re => (wSeq (wSetS 2 (wSv (wOp φAdd (wOp φMul (wC (.int 7919)) (wVar 1)) (wC (.int 1373)))))
      (wSeq (wIfS (wOpB φLtU (wVar 1) (wBt φLen (wCons (wVar 0) wNil))) (wSetS 2 (wSv (wBt φAbs (wCons (wOp φIxU (wVar 0) (wVar 1)) wNil)))) (wIfS (wOpB φGtU (wBt φLen (wCons (wVar 0) wNil)) (wC (.int 0))) (wSetS 2 (wSv (wOp φAdd (wVar 2) (wOp φMul (wOp φMod (wBt φInt (wCons (wBt φAbs (wCons (wOp φIxU (wVar 0) (wOp φMod (wBt φInt (wCons (wVar 1) wNil)) (wBt φLen (wCons (wVar 0) wNil)))) wNil)) wNil)) (wC (.int 2147483587))) (wC (.int 60013)))))) wNext))
      (wRet (wHid BoxP (wLst (wCons (wOp φIxU (wLV (wLst (wCons (wC (.int 0)) (wCons (wVar 2) wNil)))) (wBt φInt (wCons (wOp φGeU (wVar 2) (wOp φPow (wC (.int 10)) (wC (.int 18)))) wNil))) (wCons (wOp φAdd (wOp φMod (wBt φInt (wCons (wOp φAdd (wOp φMul (wOp φMod (wBt φInt (wCons (wVar 2) wNil)) (wC (.int 2147483587))) (wC (.int 45007))) (wOp φMul (wC (.int 51449)) (wVar 1))) wNil)) (wC (.int 2147483587))) (wC (.int 1))) (wCons (wC (.int 0)) wNil)))))))) (startE 3 as) (fin Pr Re)
theorem okr_law_box (T : Tx K mg) : FnOk P w K mg base (L2.CX P w) 1 T.law_box T.law_box_fd ["script", "k"] (spP K 2 (Fr_law_box T)) :=
  okP T.law_box_F sc_law_box rfl fun cdv A outer s H E B hr => ⟨_, pdss_cons (pds_setS (i := 2) sc_law_box.nd rfl (Or.inl rfl) (psl_v (pd_op op_addU odAddU (pd_op op_mulU odMulU pd_int (pd_var 1)) pd_int)))
      (pdss_cons (pds_if (pq_cmp (op_ltU hr.units) odOrd (pd_var 1) (pd_bt (pe_callB call_len (by rfl) T.z_len (by decide +kernel) (pda_cons (pd_var 0) pda_nil)) cdLen) (nomark _)) (pdss_one (pds_setS (i := 2) sc_law_box.nd rfl (Or.inl rfl) (psl_v (pd_bt (pe_callB call_abs (by rfl) T.z_abs (by decide +kernel) (pda_cons (pd_ix ix_U odIxU (pd_var 0) (pd_var 1) (fun _ _ => rfl)) pda_nil)) cdAbs)))) (pdss_one (pds_if (pq_cmp (op_gtU hr.units) odOrd (pd_bt (pe_callB call_len (by rfl) T.z_len (by decide +kernel) (pda_cons (pd_var 0) pda_nil)) cdLen) pd_int (nomark _)) (pdss_one (pds_setS (i := 2) sc_law_box.nd rfl (Or.inl rfl) (psl_v (pd_op op_addU odAddU (pd_var 2) (pd_op op_mulU odMulU (pd_op op_modN odModU (pd_bt (pe_callTy call_int1 (by rfl) T.z_int (by decide +kernel) (pda_cons (pd_bt (pe_callB call_abs (by rfl) T.z_abs (by decide +kernel) (pda_cons (pd_ix ix_U odIxU (pd_var 0) (pd_op op_modN odModU (pd_bt (pe_callTy call_int1 (by rfl) T.z_int (by decide +kernel) (pda_cons (pd_var 1) pda_nil)) cdInt) (pd_bt (pe_callB call_len (by rfl) T.z_len (by decide +kernel) (pda_cons (pd_var 0) pda_nil)) cdLen)) (fun _ _ => rfl)) pda_nil)) cdAbs) pda_nil)) cdInt) pd_int) pd_int))))) pdss_nil)))
      (pdss_one (pds_ret (pd_hid (φ := BoxP) (pl_lst (pda_cons (pd_ix ix_U odIxU (pd_of_pl (pl_lst (pda_cons pd_int (pda_cons (pd_var 2) pda_nil)))) (pd_bt (pe_callTy call_int1 (by rfl) T.z_int (by decide +kernel) (pda_cons (pd_cmp (op_geU hr.units) odOrd (pd_var 2) (pd_op op_pow odPowU pd_int pd_int) (nomark _)) pda_nil)) cdInt) (fun _ _ => rfl)) (pda_cons (pd_op op_addU odAddU (pd_op op_modN odModU (pd_bt (pe_callTy call_int1 (by rfl) T.z_int (by decide +kernel) (pda_cons (pd_op op_addU odAddU (pd_op op_mulU odMulU (pd_op op_modN odModU (pd_bt (pe_callTy call_int1 (by rfl) T.z_int (by decide +kernel) (pda_cons (pd_var 2) pda_nil)) cdInt) pd_int) pd_int) (pd_op op_mulU odMulU pd_int (pd_var 1))) pda_nil)) cdInt) pd_int) pd_int) (pda_cons pd_int pda_nil)))))))), fun _ _ _ _ hF => hF⟩
@[irreducible] def F_law_box (T : Tx K mg) : Fd := Fr_law_box T
theorem ok_law_box (T : Tx K mg) : FnOk P w K mg base (L2.CX P w) 1 T.law_box T.law_box_fd ["script", "k"] (spP K 2 (F_law_box T)) := by
  unfold F_law_box
  exact okr_law_box T
def Fr_law_pick (T : Tx K mg) : Fd := fun as Pr Re => (wRet (wOp φIxU (wVar 1) (wCall 2 (F_law_take T) (wCons (wVar 0) (wCons (wBt φLen (wCons (wVar 1) wNil)) wNil))))) (startE 2 as) (fin Pr Re)
theorem okr_law_pick (T : Tx K mg) : FnOk P w K mg base (L2.CX P w) 2 T.law_pick T.law_pick_fd ["box", "some"] (spP K 2 (Fr_law_pick T)) :=
  okP T.law_pick_F sc_law_pick rfl fun cdv A outer s H E B hr => ⟨_, pdss_one (pds_ret (pd_ix ix_U odIxU (pd_var 1) (pd_call (ok_law_take T) (hr.mono (by omega)) (by rfl) T.law_take_m T.law_take_F.kp T.law_take_b (takes_of rfl rfl rfl rfl) (pda_cons (pd_var 0) (pda_cons (pd_bt (pe_callB call_len (by rfl) T.z_len (by decide +kernel) (pda_cons (pd_var 1) pda_nil)) cdLen) pda_nil))) (fun _ _ => rfl))), fun _ _ _ _ hF => hF⟩
@[irreducible] def F_law_pick (T : Tx K mg) : Fd := Fr_law_pick T
theorem ok_law_pick (T : Tx K mg) : FnOk P w K mg base (L2.CX P w) 2 T.law_pick T.law_pick_fd ["box", "some"] (spP K 2 (F_law_pick T)) := by
  unfold F_law_pick
  exact okr_law_pick T
def Fr_law_is_row (T : Tx K mg) : Fd := fun as Pr Re => (wSeq (wIfS (wOr (wNot (wTru (wIsi .tuple T.objs (wVar 0)))) (wOpB (φEqU true) (wBt φLen (wCons (wVar 0) wNil)) (wBt φLen (wCons (wVar 1) wNil)))) (wRet (wC (.bl false))) wNext)
      (wSeq (wIfS (wOpB (φEqU true) (wLV (wComp [2] (wWalk (wVar 0)) (sName 2) (wOr (wNot (wTru (wIsi .int T.objs (wVar 2)))) (wTru (wIsi .bool T.objs (wVar 2)))) (wVar 2))) (wLV (wLst wNil))) (wRet (wC (.bl false))) wNext)
      (wRet (wOp (φEqU false) (wLV (wBl φList (wCons (wVar 0) wNil))) (wLV (wBl φList (wCons (wVar 1) wNil))))))) (startE 3 as) (fin Pr Re)
theorem okr_law_is_row (T : Tx K mg) : FnOk P w K mg base (L2.CX P w) 1 T.law_is_row T.law_is_row_fd ["told", "due"] (spP K 2 (Fr_law_is_row T)) :=
  okP T.law_is_row_F sc_law_is_row rfl fun cdv A outer s H E B hr => ⟨_, pdss_cons (pds_if (pqw_pt (pqw_or (pq_not (pq_tru (pd_isi (k := .tuple) T.objs_isi (by rfl) T.z_isinstance (by decide +kernel) (pd_var 0) (pe_bltn (v := .ty "tuple") (by rfl) T.z_tuple boot_tuple rfl)))) (pqw_or1 (pq_cmp (op_neU hr.units) odNeU (pd_bt (pe_callB call_len (by rfl) T.z_len (by decide +kernel) (pda_cons (pd_var 0) pda_nil)) cdLen) (pd_bt (pe_callB call_len (by rfl) T.z_len (by decide +kernel) (pda_cons (pd_var 1) pda_nil)) cdLen) (nomark _))))) (pdss_one (pds_ret pd_bl)) pdss_nil)
      (pdss_cons (pds_if (pq_cmp (op_neU hr.units) odNeU (pd_of_pl (pl_lc (own := [("one", 2)]) rfl sc_law_is_row.nd (pdi_walk (pd_var 0)) (blkOk_by (own := [("one", 2)]) (N := ["told", "due", "one"]) (sc := defScope s_law_is_row) (by decide +kernel)) (fun _ _ _ _ _ => pgc_name (i := 2) sc_law_is_row.nd rfl (Or.inl rfl)) (fun _ _ _ _ _ => pqs_one (pqw_pt (pqw_or (pq_not (pq_tru (pd_isi (k := .int) T.objs_isi (by rfl) T.z_isinstance (by decide +kernel) (pd_var 2) (pe_bltn (v := .ty "int") (by rfl) T.z_int boot_int rfl)))) (pqw_or1 (pq_tru (pd_isi (k := .bool) T.objs_isi (by rfl) T.z_isinstance (by decide +kernel) (pd_var 2) (pe_bltn (v := .ty "bool") (by rfl) T.z_bool boot_bool rfl))))))) (fun _ _ _ _ _ => pd_var 2))) (pd_of_pl (pl_lst pda_nil)) (nomark _)) (pdss_one (pds_ret pd_bl)) pdss_nil)
      (pdss_one (pds_ret (pd_cmp (op_eqU hr.units) odEqU (pd_of_pl (pl_bt (pe_callTy call_list_of (by rfl) T.z_list (by decide +kernel) (pda_cons (pd_var 0) pda_nil)) cdList)) (pd_of_pl (pl_bt (pe_callTy call_list_of (by rfl) T.z_list (by decide +kernel) (pda_cons (pd_var 1) pda_nil)) cdList)) (nomark _))))), fun _ _ _ _ hF => hF⟩
@[irreducible] def F_law_is_row (T : Tx K mg) : Fd := Fr_law_is_row T
theorem ok_law_is_row (T : Tx K mg) : FnOk P w K mg base (L2.CX P w) 1 T.law_is_row T.law_is_row_fd ["told", "due"] (spP K 2 (F_law_is_row T)) := by
  unfold F_law_is_row
  exact okr_law_is_row T
def Fr_law_counted (T : Tx K mg) : Fd := fun as Pr Re => (wSeq (wIfS (wOpB φLtU (wVar 0) (wC (.int 128))) (wRet (wLV (wLst (wCons (wVar 0) wNil)))) wNext)
      (wSeq (wIfS (wOpB φLtU (wVar 0) (wC (.int 16384))) (wRet (wLV (wLst (wCons (wOp φAdd (wOp φMod (wBt φInt (wCons (wVar 0) wNil)) (wC (.int 128))) (wC (.int 128))) (wCons (wOp φFdv (wVar 0) (wC (.int 128))) wNil))))) wNext)
      (wRet (wLV (wLst (wCons (wOp φAdd (wOp φMod (wBt φInt (wCons (wVar 0) wNil)) (wC (.int 128))) (wC (.int 128))) (wCons (wOp φAdd (wOp φMod (wBt φInt (wCons (wOp φFdv (wVar 0) (wC (.int 128))) wNil)) (wC (.int 128))) (wC (.int 128))) (wCons (wOp φFdv (wVar 0) (wC (.int 16384))) wNil)))))))) (startE 1 as) (fin Pr Re)
theorem okr_law_counted (T : Tx K mg) : FnOk P w K mg base (L2.CX P w) 1 T.law_counted T.law_counted_fd ["many"] (spP K 1 (Fr_law_counted T)) :=
  okP T.law_counted_F sc_law_counted rfl fun cdv A outer s H E B hr => ⟨_, pdss_cons (pds_if (pq_cmp (op_ltU hr.units) odOrd (pd_var 0) pd_int (nomark _)) (pdss_one (pds_ret (pd_of_pl (pl_lst (pda_cons (pd_var 0) pda_nil))))) pdss_nil)
      (pdss_cons (pds_if (pq_cmp (op_ltU hr.units) odOrd (pd_var 0) pd_int (nomark _)) (pdss_one (pds_ret (pd_of_pl (pl_lst (pda_cons (pd_op op_addU odAddU (pd_op op_modN odModU (pd_bt (pe_callTy call_int1 (by rfl) T.z_int (by decide +kernel) (pda_cons (pd_var 0) pda_nil)) cdInt) pd_int) pd_int) (pda_cons (pd_op op_fdivG odFdvU (pd_var 0) pd_int) pda_nil)))))) pdss_nil)
      (pdss_one (pds_ret (pd_of_pl (pl_lst (pda_cons (pd_op op_addU odAddU (pd_op op_modN odModU (pd_bt (pe_callTy call_int1 (by rfl) T.z_int (by decide +kernel) (pda_cons (pd_var 0) pda_nil)) cdInt) pd_int) pd_int) (pda_cons (pd_op op_addU odAddU (pd_op op_modN odModU (pd_bt (pe_callTy call_int1 (by rfl) T.z_int (by decide +kernel) (pda_cons (pd_op op_fdivG odFdvU (pd_var 0) pd_int) pda_nil)) cdInt) pd_int) pd_int) (pda_cons (pd_op op_fdivG odFdvU (pd_var 0) pd_int) pda_nil)))))))), fun _ _ _ _ hF => hF⟩
@[irreducible] def F_law_counted (T : Tx K mg) : Fd := Fr_law_counted T
theorem ok_law_counted (T : Tx K mg) : FnOk P w K mg base (L2.CX P w) 1 T.law_counted T.law_counted_fd ["many"] (spP K 1 (F_law_counted T)) := by
  unfold F_law_counted
  exact okr_law_counted T
def Fr_law_is_told (T : Tx K mg) : Fd := fun as Pr Re => (wSeq (wIfS (wOr (wNot (wTru (wIsi .tuple T.objs (wVar 0)))) (wOr (wOpB (φEqU true) (wBt φLen (wCons (wVar 0) wNil)) (wC (.int 2))) (wOr (wNot (wTru (wIsi .tuple T.objs (wOp φIxU (wVar 0) (wC (.int 0)))))) (wOpB (φEqU true) (wBt φLen (wCons (wOp φIxU (wVar 0) (wC (.int 0))) wNil)) (wBt φLen (wCons (wVar 1) wNil)))))) (wRet (wC (.bl false))) wNext)
      (wSeq (wFor (wRng1 (wCons (wBt φLen (wCons (wVar 1) wNil)) wNil)) (sName 3) (wIfS (wNot (wTru (wCall 2 (F_law_is_row T) (wCons (wOp φIxU (wOp φIxU (wVar 0) (wC (.int 0))) (wVar 3)) (wCons (wOp φIxU (wVar 1) (wVar 3)) wNil))))) (wRet (wC (.bl false))) wNext))
      (wRet (wAndV (wIsi .int T.objs (wOp φIxU (wVar 0) (wC (.int 1)))) (wAndV (wNotV (wIsi .bool T.objs (wOp φIxU (wVar 0) (wC (.int 1))))) (wOp (φEqU false) (wOp φIxU (wVar 0) (wC (.int 1))) (wVar 2))))))) (startE 4 as) (fin Pr Re)
theorem okr_law_is_told (T : Tx K mg) : FnOk P w K mg base (L2.CX P w) 2 T.law_is_told T.law_is_told_fd ["told", "bodies", "behind"] (spP K 3 (Fr_law_is_told T)) :=
  okP T.law_is_told_F sc_law_is_told rfl fun cdv A outer s H E B hr => ⟨_, pdss_cons (pds_if (pqw_pt (pqw_or (pq_not (pq_tru (pd_isi (k := .tuple) T.objs_isi (by rfl) T.z_isinstance (by decide +kernel) (pd_var 0) (pe_bltn (v := .ty "tuple") (by rfl) T.z_tuple boot_tuple rfl)))) (pqw_or (pq_cmp (op_neU hr.units) odNeU (pd_bt (pe_callB call_len (by rfl) T.z_len (by decide +kernel) (pda_cons (pd_var 0) pda_nil)) cdLen) pd_int (nomark _)) (pqw_or (pq_not (pq_tru (pd_isi (k := .tuple) T.objs_isi (by rfl) T.z_isinstance (by decide +kernel) (pd_ix ix_U odIxU (pd_var 0) pd_int (fun _ _ => rfl)) (pe_bltn (v := .ty "tuple") (by rfl) T.z_tuple boot_tuple rfl)))) (pqw_or1 (pq_cmp (op_neU hr.units) odNeU (pd_bt (pe_callB call_len (by rfl) T.z_len (by decide +kernel) (pda_cons (pd_ix ix_U odIxU (pd_var 0) pd_int (fun _ _ => rfl)) pda_nil)) cdLen) (pd_bt (pe_callB call_len (by rfl) T.z_len (by decide +kernel) (pda_cons (pd_var 1) pda_nil)) cdLen) (nomark _))))))) (pdss_one (pds_ret pd_bl)) pdss_nil)
      (pdss_cons (pds_for (passes_of rfl) rfl (pdi_range1 (by rfl) T.z_range (pda_cons (pd_bt (pe_callB call_len (by rfl) T.z_len (by decide +kernel) (pda_cons (pd_var 1) pda_nil)) cdLen) pda_nil)) (pgd_name (i := 3) sc_law_is_told.nd rfl (Or.inl rfl)) (pdss_one (pds_if (pq_not (pq_tru (pd_call (ok_law_is_row T) (hr.mono (by omega)) (by rfl) T.law_is_row_m T.law_is_row_F.kp T.law_is_row_b (takes_of rfl rfl rfl rfl) (pda_cons (pd_ix ix_U odIxU (pd_ix ix_U odIxU (pd_var 0) pd_int (fun _ _ => rfl)) (pd_var 3) (fun _ _ => rfl)) (pda_cons (pd_ix ix_U odIxU (pd_var 1) (pd_var 3) (fun _ _ => rfl)) pda_nil))))) (pdss_one (pds_ret pd_bl)) pdss_nil)))
      (pdss_one (pds_ret (pd_and (pd_isi (k := .int) T.objs_isi (by rfl) T.z_isinstance (by decide +kernel) (pd_ix ix_U odIxU (pd_var 0) pd_int (fun _ _ => rfl)) (pe_bltn (v := .ty "int") (by rfl) T.z_int boot_int rfl)) (pd_and (pd_not (pd_isi (k := .bool) T.objs_isi (by rfl) T.z_isinstance (by decide +kernel) (pd_ix ix_U odIxU (pd_var 0) pd_int (fun _ _ => rfl)) (pe_bltn (v := .ty "bool") (by rfl) T.z_bool boot_bool rfl))) (pd_one (pd_cmp (op_eqU hr.units) odEqU (pd_ix ix_U odIxU (pd_var 0) pd_int (fun _ _ => rfl)) (pd_var 2) (nomark _)))))))), fun _ _ _ _ hF => hF⟩
@[irreducible] def F_law_is_told (T : Tx K mg) : Fd := Fr_law_is_told T
theorem ok_law_is_told (T : Tx K mg) : FnOk P w K mg base (L2.CX P w) 2 T.law_is_told T.law_is_told_fd ["told", "bodies", "behind"] (spP K 3 (F_law_is_told T)) := by
  unfold F_law_is_told
  exact okr_law_is_told T
def Fr_law_sum (T : Tx K mg) : Fd := fun as Pr Re => (wSeq (wSetS 1 (wSv (wC (.int 0))))
      (wSeq (wFor (wRng1 (wCons (wBt φLen (wCons (wVar 0) wNil)) wNil)) (sName 2) (wSetS 1 (wSv (wOp φAdd (wVar 1) (wOp φMul (wOp φAdd (wVar 2) (wC (.int 1))) (wOp φIxU (wVar 0) (wVar 2)))))))
      (wRet (wOp φMod (wBt φInt (wCons (wVar 1) wNil)) (wC (.int 65521)))))) (startE 3 as) (fin Pr Re)
theorem okr_law_sum (T : Tx K mg) : FnOk P w K mg base (L2.CX P w) 1 T.law_sum T.law_sum_fd ["body"] (spP K 1 (Fr_law_sum T)) :=
  okP T.law_sum_F sc_law_sum rfl fun cdv A outer s H E B hr => ⟨_, pdss_cons (pds_setS (i := 1) sc_law_sum.nd rfl (Or.inl rfl) (psl_v pd_int))
      (pdss_cons (pds_for (passes_of rfl) rfl (pdi_range1 (by rfl) T.z_range (pda_cons (pd_bt (pe_callB call_len (by rfl) T.z_len (by decide +kernel) (pda_cons (pd_var 0) pda_nil)) cdLen) pda_nil)) (pgd_name (i := 2) sc_law_sum.nd rfl (Or.inl rfl)) (pdss_one (pds_setS (i := 1) sc_law_sum.nd rfl (Or.inl rfl) (psl_v (pd_op op_addU odAddU (pd_var 1) (pd_op op_mulU odMulU (pd_op op_addU odAddU (pd_var 2) pd_int) (pd_ix ix_U odIxU (pd_var 0) (pd_var 2) (fun _ _ => rfl))))))))
      (pdss_one (pds_ret (pd_op op_modN odModU (pd_bt (pe_callTy call_int1 (by rfl) T.z_int (by decide +kernel) (pda_cons (pd_var 1) pda_nil)) cdInt) pd_int)))), fun _ _ _ _ hF => hF⟩
@[irreducible] def F_law_sum (T : Tx K mg) : Fd := Fr_law_sum T
theorem ok_law_sum (T : Tx K mg) : FnOk P w K mg base (L2.CX P w) 1 T.law_sum T.law_sum_fd ["body"] (spP K 1 (F_law_sum T)) := by
  unfold F_law_sum
  exact okr_law_sum T
def Fr_law_block_sum (T : Tx K mg) : Fd := fun as Pr Re => (wSeq (wPar2 2 3 (wSv (wBt φLen (wCons (wVar 0) wNil))) (wSv (wC (.int 0))))
      (wSeq (wFor (wRng1 (wCons (wVar 2) wNil)) (sName 4) (wSetS 3 (wSv (wOp φAdd (wVar 3) (wOp φMul (wOp φAdd (wVar 4) (wC (.int 1))) (wOp φIxU (wVar 0) (wVar 4)))))))
      (wRet (wOp φMod (wBt φInt (wCons (wOp φAdd (wOp φMul (wVar 1) (wVar 3)) (wOp φMul (wOp φMul (wBt φSum (wCons (wVar 0) wNil)) (wVar 2)) (wOp φFdv (wOp φMul (wVar 1) (wOp φSub (wVar 1) (wC (.int 1)))) (wC (.int 2))))) wNil)) (wC (.int 65521)))))) (startE 5 as) (fin Pr Re)
theorem okr_law_block_sum (T : Tx K mg) : FnOk P w K mg base (L2.CX P w) 1 T.law_block_sum T.law_block_sum_fd ["block", "many"] (spP K 2 (Fr_law_block_sum T)) :=
  okP T.law_block_sum_F sc_law_block_sum rfl fun cdv A outer s H E B hr => ⟨_, pdss_cons (pds_par2 (i := 2) (j := 3) (by rfl) sc_law_block_sum.nd rfl rfl (by decide) rfl rfl (psl_v (pd_bt (pe_callB call_len (by rfl) T.z_len (by decide +kernel) (pda_cons (pd_var 0) pda_nil)) cdLen)) (psl_v pd_int) (by rfl))
      (pdss_cons (pds_for (passes_of rfl) rfl (pdi_range1 (by rfl) T.z_range (pda_cons (pd_var 2) pda_nil)) (pgd_name (i := 4) sc_law_block_sum.nd rfl (Or.inl rfl)) (pdss_one (pds_setS (i := 3) sc_law_block_sum.nd rfl (Or.inl rfl) (psl_v (pd_op op_addU odAddU (pd_var 3) (pd_op op_mulU odMulU (pd_op op_addU odAddU (pd_var 4) pd_int) (pd_ix ix_U odIxU (pd_var 0) (pd_var 4) (fun _ _ => rfl))))))))
      (pdss_one (pds_ret (pd_op op_modN odModU (pd_bt (pe_callTy call_int1 (by rfl) T.z_int (by decide +kernel) (pda_cons (pd_op op_addU odAddU (pd_op op_mulU odMulU (pd_var 1) (pd_var 3)) (pd_op op_mulU odMulU (pd_op op_mulU odMulU (pd_bt (pe_callB (cr_sum rfl) (by rfl) T.z_sum (by decide +kernel) (pda_cons (pd_var 0) pda_nil)) cdSum) (pd_var 2)) (pd_op op_fdivG odFdvU (pd_op op_mulU odMulU (pd_var 1) (pd_op op_sub odSubU (pd_var 1) pd_int)) pd_int))) pda_nil)) cdInt) pd_int)))), fun _ _ _ _ hF => hF⟩
@[irreducible] def F_law_block_sum (T : Tx K mg) : Fd := Fr_law_block_sum T
theorem ok_law_block_sum (T : Tx K mg) : FnOk P w K mg base (L2.CX P w) 1 T.law_block_sum T.law_block_sum_fd ["block", "many"] (spP K 2 (F_law_block_sum T)) := by
  unfold F_law_block_sum
  exact okr_law_block_sum T
def Fr_law_framed (T : Tx K mg) : Fl := fun as Pr Re => (wOpL φCatL (wOp φAdd (wCall 1 (F_law_counted T) (wCons (wBt φLen (wCons (wVar 0) wNil)) wNil)) (wVar 0)) (wLV (wLst (wCons (wOp φMod (wBt φInt (wCons (wVar 1) wNil)) (wC (.int 256))) (wCons (wOp φFdv (wVar 1) (wC (.int 256))) wNil))))) (startE 2 as) Pr Re
theorem okr_law_framed (T : Tx K mg) : FnOk P w K mg base (L2.CX P w) 2 T.law_framed T.law_framed_fd ["body", "total"] (spPL K 2 (Fr_law_framed T)) :=
  okPL T.law_framed_F sc_law_framed rfl rfl fun cdv A outer s H E B hr => ⟨_, pl_cat (pd_op op_addU odAddU (pd_call (ok_law_counted T) (hr.mono (by omega)) (by rfl) T.law_counted_m T.law_counted_F.kp T.law_counted_b (takes_of rfl rfl rfl rfl) (pda_cons (pd_bt (pe_callB call_len (by rfl) T.z_len (by decide +kernel) (pda_cons (pd_var 0) pda_nil)) cdLen) pda_nil)) (pd_var 0)) (pd_of_pl (pl_lst (pda_cons (pd_op op_modN odModU (pd_bt (pe_callTy call_int1 (by rfl) T.z_int (by decide +kernel) (pda_cons (pd_var 1) pda_nil)) cdInt) pd_int) (pda_cons (pd_op op_fdivG odFdvU (pd_var 1) pd_int) pda_nil)))), fun _ _ _ _ hF => hF⟩
@[irreducible] def F_law_framed (T : Tx K mg) : Fl := Fr_law_framed T
theorem ok_law_framed (T : Tx K mg) : FnOk P w K mg base (L2.CX P w) 2 T.law_framed T.law_framed_fd ["body", "total"] (spPL K 2 (F_law_framed T)) := by
  unfold F_law_framed
  exact okr_law_framed T
def Fr_law_body (T : Tx K mg) : Fd := fun as Pr Re => (wSeq (wSetS 2 (wSv (wCall 2 (F_law_pick T) (wCons (wVar 0) (wCons (wLV (wLst (wCons (wC (.int 0)) (wCons (wC (.int 1)) (wCons (wC (.int 1)) (wCons (wC (.int 2)) (wCons (wC (.int 3)) (wCons (wC (.int 5)) (wCons (wC (.int 8)) (wCons (wC (.int 20)) (wCons (wC (.int 60)) wNil))))))))))) wNil)))))
      (wSeq (wIfS (wOpB (φEqU false) (wCall 2 (F_law_take T) (wCons (wVar 0) (wCons (wC (.int 3)) wNil))) (wC (.int 0))) (wSetS 2 (wSv (wCall 2 (F_law_pick T) (wCons (wVar 0) (wCons (wLV (wLst (wCons (wC (.int 126)) (wCons (wC (.int 127)) (wCons (wC (.int 128)) (wCons (wC (.int 129)) (wCons (wC (.int 255)) (wCons (wC (.int 256)) (wCons (wC (.int 300)) wNil))))))))) wNil))))) wNext)
      (wSeq (wIfS (wTru (wVar 1)) (wSetS 2 (wSv (wCall 2 (F_law_pick T) (wCons (wVar 0) (wCons (wLV (wLst (wCons (wC (.int 3999)) (wCons (wC (.int 4000)) (wCons (wOp φAdd (wC (.int 1000)) (wCall 2 (F_law_take T) (wCons (wVar 0) (wCons (wC (.int 3000)) wNil)))) wNil))))) wNil))))) wNext)
      (wSeq (wSetL 3 (wComp [5] (wRng1 (wCons (wOp φAdd (wC (.int 1)) (wCall 2 (F_law_take T) (wCons (wVar 0) (wCons (wC (.int 6)) wNil)))) wNil)) (sName 5) wYes (wCall 2 (F_law_pick T) (wCons (wVar 0) (wCons (wLV (wLst (wCons (wC (.int 0)) (wCons (wC (.int 1)) (wCons (wC (.int 255)) (wCons (wC (.int 128)) (wCons (wCall 2 (F_law_take T) (wCons (wVar 0) (wCons (wC (.int 256)) wNil))) wNil))))))) wNil)))))
      (wLet 3 (wSeq (wIfS (wOpB φLtU (wVar 2) (wBt φLen (wCons (wVar 3) wNil))) (wSetS 3 (wSv (wSl φSlU (wVar 3) wNoP (wPart (wVar 2))))) wNext)
      (wSeq (wIfS (wOpB (φEqU false) (wVar 2) (wC (.int 0))) (wRet (wTup (wCons (wLV (wLst wNil)) (wCons (wC (.int 0)) wNil)))) wNext)
      (wSeq (wSetS 4 (wSv (wOp φFdv (wVar 2) (wBt φLen (wCons (wVar 3) wNil)))))
      (wRet (wTup (wCons (wOp φMul (wVar 3) (wVar 4)) (wCons (wCall 2 (F_law_block_sum T) (wCons (wVar 3) (wCons (wVar 4) wNil))) wNil)))))))))))) (startE 6 as) (fin Pr Re)
theorem okr_law_body (T : Tx K mg) : FnOk P w K mg base (L2.CX P w) 3 T.law_body T.law_body_fd ["box", "great"] (spP K 2 (Fr_law_body T)) :=
  okP T.law_body_F sc_law_body rfl fun cdv A outer s H E B hr => ⟨_, pdss_cons (pds_setS (i := 2) sc_law_body.nd rfl (Or.inl rfl) (psl_v (pd_call (ok_law_pick T) (hr.mono (by omega)) (by rfl) T.law_pick_m T.law_pick_F.kp T.law_pick_b (takes_of rfl rfl rfl rfl) (pda_cons (pd_var 0) (pda_cons (pd_of_pl (pl_lst (pda_cons pd_int (pda_cons pd_int (pda_cons pd_int (pda_cons pd_int (pda_cons pd_int (pda_cons pd_int (pda_cons pd_int (pda_cons pd_int (pda_cons pd_int pda_nil))))))))))) pda_nil)))))
      (pdss_cons (pds_if (pq_cmp (op_eqU hr.units) odEqU (pd_call (ok_law_take T) (hr.mono (by omega)) (by rfl) T.law_take_m T.law_take_F.kp T.law_take_b (takes_of rfl rfl rfl rfl) (pda_cons (pd_var 0) (pda_cons pd_int pda_nil))) pd_int (nomark _)) (pdss_one (pds_setS (i := 2) sc_law_body.nd rfl (Or.inl rfl) (psl_v (pd_call (ok_law_pick T) (hr.mono (by omega)) (by rfl) T.law_pick_m T.law_pick_F.kp T.law_pick_b (takes_of rfl rfl rfl rfl) (pda_cons (pd_var 0) (pda_cons (pd_of_pl (pl_lst (pda_cons pd_int (pda_cons pd_int (pda_cons pd_int (pda_cons pd_int (pda_cons pd_int (pda_cons pd_int (pda_cons pd_int pda_nil))))))))) pda_nil)))))) pdss_nil)
      (pdss_cons (pds_if (pq_tru (pd_var 1)) (pdss_one (pds_setS (i := 2) sc_law_body.nd rfl (Or.inl rfl) (psl_v (pd_call (ok_law_pick T) (hr.mono (by omega)) (by rfl) T.law_pick_m T.law_pick_F.kp T.law_pick_b (takes_of rfl rfl rfl rfl) (pda_cons (pd_var 0) (pda_cons (pd_of_pl (pl_lst (pda_cons pd_int (pda_cons pd_int (pda_cons (pd_op op_addU odAddU pd_int (pd_call (ok_law_take T) (hr.mono (by omega)) (by rfl) T.law_take_m T.law_take_F.kp T.law_take_b (takes_of rfl rfl rfl rfl) (pda_cons (pd_var 0) (pda_cons pd_int pda_nil)))) pda_nil))))) pda_nil)))))) pdss_nil)
      (pdss_cons (pds_setLc (own := [("k", 5)]) (i := 3) rfl sc_law_body.nd rfl rfl (sw_true rfl rfl rfl (by decide +kernel)) (pdi_range1 (by rfl) T.z_range (pda_cons (pd_op op_addU odAddU pd_int (pd_call (ok_law_take T) (hr.mono (by omega)) (by rfl) T.law_take_m T.law_take_F.kp T.law_take_b (takes_of rfl rfl rfl rfl) (pda_cons (pd_var 0) (pda_cons pd_int pda_nil)))) pda_nil)) (blkOk_by (own := [("k", 5)]) (N := ["box", "great", "many", "block", "times", "k"]) (sc := defScope s_law_body) (by decide +kernel)) (fun _ _ _ _ _ => pgc_name (i := 5) sc_law_body.nd rfl (Or.inl rfl)) (fun _ _ _ _ _ => pqs_nil) (fun _ _ _ _ _ => pd_call (ok_law_pick T) (hr.mono (by omega)) (by rfl) T.law_pick_m T.law_pick_F.kp T.law_pick_b takes0 (pda_cons (pd_var 0) (pda_cons (pd_of_pl (pl_lst (pda_cons pd_int (pda_cons pd_int (pda_cons pd_int (pda_cons pd_int (pda_cons (pd_call (ok_law_take T) (hr.mono (by omega)) (by rfl) T.law_take_m T.law_take_F.kp T.law_take_b takes0 (pda_cons (pd_var 0) (pda_cons pd_int pda_nil))) pda_nil))))))) pda_nil))))
      (pdss_let 3 (pdss_cons (pds_if (pq_cmp (op_ltU hr.units) odOrd (pd_var 2) (pd_bt (pe_callB call_len (by rfl) T.z_len (by decide +kernel) (pda_cons (pd_var 3) pda_nil)) cdLen) (nomark _)) (pdss_one (pds_setS (i := 3) sc_law_body.nd rfl (Or.inl rfl) (psl_v (pd_sl sl_U sdU (pd_var 3) pdo_none (pdo_some (pd_var 2)))))) pdss_nil)
      (pdss_cons (pds_if (pq_cmp (op_eqU hr.units) odEqU (pd_var 2) pd_int (nomark _)) (pdss_one (pds_ret (pd_tup (pda_cons (pd_of_pl (pl_lst pda_nil)) (pda_cons pd_int pda_nil))))) pdss_nil)
      (pdss_cons (pds_setS (i := 4) sc_law_body.nd rfl (Or.inl rfl) (psl_v (pd_op op_fdivG odFdvU (pd_var 2) (pd_bt (pe_callB call_len (by rfl) T.z_len (by decide +kernel) (pda_cons (pd_var 3) pda_nil)) cdLen))))
      (pdss_one (pds_ret (pd_tup (pda_cons (pd_op op_mulU odMulU (pd_var 3) (pd_var 4)) (pda_cons (pd_call (ok_law_block_sum T) (hr.mono (by omega)) (by rfl) T.law_block_sum_m T.law_block_sum_F.kp T.law_block_sum_b (takes_of rfl rfl rfl rfl) (pda_cons (pd_var 3) (pda_cons (pd_var 4) pda_nil))) pda_nil)))))))))))), fun _ _ _ _ hF => hF⟩
@[irreducible] def F_law_body (T : Tx K mg) : Fd := Fr_law_body T
theorem ok_law_body (T : Tx K mg) : FnOk P w K mg base (L2.CX P w) 3 T.law_body T.law_body_fd ["box", "great"] (spP K 2 (F_law_body T)) := by
  unfold F_law_body
  exact okr_law_body T
def Fr_law_row (T : Tx K mg) : Fd := fun as Pr Re => (wSeq (wPar2 2 3 (wSv (wAndV (wVar 1) (wOp (φEqU false) (wCall 2 (F_law_take T) (wCons (wVar 0) (wCons (wC (.int 4)) wNil))) (wC (.int 0))))) (wSl_ (wLst wNil)))
      (wSeq (wFor (wRng1 (wCons (wOp φAdd (wC (.int 1)) (wCall 2 (F_law_take T) (wCons (wVar 0) (wCons (wC (.int 6)) wNil)))) wNil)) (sName 4) (wSeq (wAsg (wCall 2 (F_law_body T) (wCons (wVar 0) (wCons (wAndV (wVar 2) (wOp φLtU (wVar 4) (wC (.int 1)))) wNil))) (sTup 2 (sCons (sName 5) (sCons (sName 6) sNil))))
      (wApp' 3 (wTup (wCons (wVar 5) (wCons (wLV (wCallN 2 (F_law_framed T) (wCons (wVar 5) (wCons (wVar 6) wNil)))) wNil))))))
      (wLet 3 (wRet (wVar 3))))) (startE 7 as) (fin Pr Re)
theorem okr_law_row (T : Tx K mg) : FnOk P w K mg base (L2.CX P w) 4 T.law_row T.law_row_fd ["box", "may_be_great"] (spP K 2 (Fr_law_row T)) :=
  okP T.law_row_F sc_law_row rfl fun cdv A outer s H E B hr => ⟨_, pdss_cons (pds_par2 (i := 2) (j := 3) (by rfl) sc_law_row.nd rfl rfl (by decide) rfl rfl (psl_v (pd_and (pd_var 1) (pd_one (pd_cmp (op_eqU hr.units) odEqU (pd_call (ok_law_take T) (hr.mono (by omega)) (by rfl) T.law_take_m T.law_take_F.kp T.law_take_b (takes_of rfl rfl rfl rfl) (pda_cons (pd_var 0) (pda_cons pd_int pda_nil))) pd_int (nomark _))))) (psl_l (pl_lst pda_nil)) (by rfl))
      (pdss_cons (pds_for (passes_of rfl) rfl (pdi_range1 (by rfl) T.z_range (pda_cons (pd_op op_addU odAddU pd_int (pd_call (ok_law_take T) (hr.mono (by omega)) (by rfl) T.law_take_m T.law_take_F.kp T.law_take_b (takes_of rfl rfl rfl rfl) (pda_cons (pd_var 0) (pda_cons pd_int pda_nil)))) pda_nil)) (pgd_name (i := 4) sc_law_row.nd rfl (Or.inl rfl)) (pdss_cons (pds_asg (pd_call (ok_law_body T) (hr.mono (by omega)) (by rfl) T.law_body_m T.law_body_F.kp T.law_body_b (takes_of rfl rfl rfl rfl) (pda_cons (pd_var 0) (pda_cons (pd_and (pd_var 2) (pd_one (pd_cmp (op_ltU hr.units) odOrd (pd_var 4) pd_int (nomark _)))) pda_nil))) (pgd_tup rfl (pgds_cons (pgd_name (i := 5) sc_law_row.nd rfl (Or.inl rfl)) (pgds_cons (pgd_name (i := 6) sc_law_row.nd rfl (Or.inl rfl)) pgds_nil))))
      (pdss_one (pds_append (ps_expr (pe_bm PySem.F.plainAttrs_list PySem.F.slot_list_append PySem.F.type_list_append mt_append (pv 3) (pa_cons (pd_tup (pda_cons (pd_var 5) (pda_cons (pd_of_pl (pl_call (ok_law_framed T) (hr.mono (by omega)) (by rfl) T.law_framed_m T.law_framed_F.kp T.law_framed_b (takes_of rfl rfl rfl rfl) (pda_cons (pd_var 5) (pda_cons (pd_var 6) pda_nil)))) pda_nil))) pa_nil)) (by rfl))))))
      (pdss_let 3 (pdss_one (pds_ret (pd_var 3))))), fun _ _ _ _ hF => hF⟩
@[irreducible] def F_law_row (T : Tx K mg) : Fd := Fr_law_row T
theorem ok_law_row (T : Tx K mg) : FnOk P w K mg base (L2.CX P w) 4 T.law_row T.law_row_fd ["box", "may_be_great"] (spP K 2 (F_law_row T)) := by
  unfold F_law_row
  exact okr_law_row T
def Fr_law_flat (T : Tx K mg) : Fd := fun as Pr Re => (wSeq (wSetS 1 (wSl_ (wLst wNil)))
      (wSeq (wFor (wWalk (wVar 0)) (sTup 2 (sCons (sName 2) (sCons (sName 3) sNil))) (wExt 1 (wVar 3)))
      (wLet 1 (wRet (wVar 1))))) (startE 4 as) (fin Pr Re)
theorem okr_law_flat (T : Tx K mg) : FnOk P w K mg base (L2.CX P w) 1 T.law_flat T.law_flat_fd ["found"] (spP K 1 (Fr_law_flat T)) :=
  okP T.law_flat_F sc_law_flat rfl fun cdv A outer s H E B hr => ⟨_, pdss_cons (pds_setS (i := 1) sc_law_flat.nd rfl (Or.inl rfl) (psl_l (pl_lst pda_nil)))
      (pdss_cons (pds_for (passes_of rfl) rfl (pdi_walk (pd_var 0)) (pgd_tup rfl (pgds_cons (pgd_name (i := 2) sc_law_flat.nd rfl (Or.inl rfl)) (pgds_cons (pgd_name (i := 3) sc_law_flat.nd rfl (Or.inl rfl)) pgds_nil))) (pdss_one (pds_extend (ps_expr (pe_bm PySem.F.plainAttrs_list PySem.F.slot_list_extend PySem.F.type_list_extend mt_extend (pv 1) (pa_cons (pd_var 3) pa_nil)) (by rfl)))))
      (pdss_let 1 (pdss_one (pds_ret (pd_var 1))))), fun _ _ _ _ hF => hF⟩
@[irreducible] def F_law_flat (T : Tx K mg) : Fd := Fr_law_flat T
theorem ok_law_flat (T : Tx K mg) : FnOk P w K mg base (L2.CX P w) 1 T.law_flat T.law_flat_fd ["found"] (spP K 1 (F_law_flat T)) := by
  unfold F_law_flat
  exact okr_law_flat T
def Fr_law_ahead (T : Tx K mg) : Fd := fun as Pr Re => (wSeq (wAsg (wTup (wCons (wC (.int 0)) (wCons (wC (.int 0)) wNil))) (sTup 2 (sCons (sName 2) (sCons (sName 3) sNil))))
      (wSeq (wFor (wWalk (wVar 0)) (sTup 2 (sCons (sName 4) (sCons (sName 5) sNil))) (wSeq (wIfS (wOpB φGtU (wOp φAdd (wVar 3) (wBt φLen (wCons (wVar 5) wNil))) (wVar 1)) (wRet (wTup (wCons (wVar 2) (wCons (wVar 3) wNil)))) wNext)
      (wPar2 2 3 (wSv (wOp φAdd (wVar 2) (wC (.int 1)))) (wSv (wOp φAdd (wVar 3) (wBt φLen (wCons (wVar 5) wNil)))))))
      (wRet (wTup (wCons (wVar 2) (wCons (wVar 3) wNil)))))) (startE 6 as) (fin Pr Re)
theorem okr_law_ahead (T : Tx K mg) : FnOk P w K mg base (L2.CX P w) 1 T.law_ahead T.law_ahead_fd ["found", "cut"] (spP K 2 (Fr_law_ahead T)) :=
  okP T.law_ahead_F sc_law_ahead rfl fun cdv A outer s H E B hr => ⟨_, pdss_cons (pds_asg (pd_tup (pda_cons pd_int (pda_cons pd_int pda_nil))) (pgd_tup rfl (pgds_cons (pgd_name (i := 2) sc_law_ahead.nd rfl (Or.inl rfl)) (pgds_cons (pgd_name (i := 3) sc_law_ahead.nd rfl (Or.inl rfl)) pgds_nil))))
      (pdss_cons (pds_for (passes_of rfl) rfl (pdi_walk (pd_var 0)) (pgd_tup rfl (pgds_cons (pgd_name (i := 4) sc_law_ahead.nd rfl (Or.inl rfl)) (pgds_cons (pgd_name (i := 5) sc_law_ahead.nd rfl (Or.inl rfl)) pgds_nil))) (pdss_cons (pds_if (pq_cmp (op_gtU hr.units) odOrd (pd_op op_addU odAddU (pd_var 3) (pd_bt (pe_callB call_len (by rfl) T.z_len (by decide +kernel) (pda_cons (pd_var 5) pda_nil)) cdLen)) (pd_var 1) (nomark _)) (pdss_one (pds_ret (pd_tup (pda_cons (pd_var 2) (pda_cons (pd_var 3) pda_nil))))) pdss_nil)
      (pdss_one (pds_par2 (i := 2) (j := 3) (by rfl) sc_law_ahead.nd rfl rfl (by decide) rfl rfl (psl_v (pd_op op_addU odAddU (pd_var 2) pd_int)) (psl_v (pd_op op_addU odAddU (pd_var 3) (pd_bt (pe_callB call_len (by rfl) T.z_len (by decide +kernel) (pda_cons (pd_var 5) pda_nil)) cdLen))) (by rfl)))))
      (pdss_one (pds_ret (pd_tup (pda_cons (pd_var 2) (pda_cons (pd_var 3) pda_nil)))))), fun _ _ _ _ hF => hF⟩
@[irreducible] def F_law_ahead (T : Tx K mg) : Fd := Fr_law_ahead T
theorem ok_law_ahead (T : Tx K mg) : FnOk P w K mg base (L2.CX P w) 1 T.law_ahead T.law_ahead_fd ["found", "cut"] (spP K 2 (F_law_ahead T)) := by
  unfold F_law_ahead
  exact okr_law_ahead T
def Fr_law_read (T : Tx K mg) : Fd := fun as Pr Re => (wSeq (wPar2 1 2 (wSv (wLV (wLst wNil))) (wSv (wC (.int 0))))
      (wSeq (wFor (wRng1 (wCons (wBt φLen (wCons (wVar 0) wNil)) wNil)) (sName 3) (wSeq (wSetS 4 (wSv (wVar 2)))
      (wSeq (wFor (wRng1 (wCons (wBt φLen (wCons (wVar 0) wNil)) wNil)) (sName 5) (wSeq (wIfS (wOr (wOpB φGeU (wVar 4) (wBt φLen (wCons (wVar 0) wNil))) (wOpB φLtU (wOp φIxU (wVar 0) (wVar 4)) (wC (.int 128)))) wBreak wNext)
      (wSetS 4 (wSv (wOp φAdd (wVar 4) (wC (.int 1)))))))
      (wSeq (wIfS (wOr (wOpB φGeU (wVar 4) (wBt φLen (wCons (wVar 0) wNil))) (wAnd (wOpB φGtU (wVar 4) (wVar 2)) (wOpB (φEqU false) (wOp φIxU (wVar 0) (wVar 4)) (wC (.int 0))))) (wRet (wTup (wCons (wVar 1) (wCons (wVar 2) wNil)))) wNext)
      (wSeq (wSetS 6 (wSv (wC (.int 0))))
      (wSeq (wFor (wRng1 (wCons (wOp φAdd (wOp φSub (wVar 4) (wVar 2)) (wC (.int 1))) wNil)) (sName 5) (wSetS 6 (wSv (wOp φAdd (wOp φMul (wVar 6) (wC (.int 128))) (wOp φMod (wBt φInt (wCons (wOp φIxU (wVar 0) (wOp φSub (wVar 4) (wVar 5))) wNil)) (wC (.int 128)))))))
      (wSeq (wIfS (wOpB φGtU (wVar 6) (wOp φSub (wOp φSub (wBt φLen (wCons (wVar 0) wNil)) (wVar 4)) (wC (.int 3)))) (wRet (wTup (wCons (wVar 1) (wCons (wVar 2) wNil)))) wNext)
      (wSeq (wSetS 7 (wSv (wSl φSlU (wVar 0) (wPart (wOp φAdd (wVar 4) (wC (.int 1)))) (wPart (wOp φAdd (wOp φAdd (wVar 4) (wC (.int 1))) (wVar 6))))))
      (wSeq (wIfS (wOpB (φEqU true) (wSl φSlU (wVar 0) (wPart (wOp φAdd (wOp φAdd (wVar 4) (wC (.int 1))) (wVar 6))) (wPart (wOp φAdd (wOp φAdd (wVar 4) (wC (.int 3))) (wVar 6)))) (wLV (wLst (wCons (wOp φMod (wBt φInt (wCons (wCall 1 (F_law_sum T) (wCons (wVar 7) wNil)) wNil)) (wC (.int 256))) (wCons (wOp φFdv (wCall 1 (F_law_sum T) (wCons (wVar 7) wNil)) (wC (.int 256))) wNil))))) (wRet (wTup (wCons (wVar 1) (wCons (wVar 2) wNil)))) wNext)
      (wPar2 1 2 (wSv (wOp φAdd (wVar 1) (wLV (wLst (wCons (wVar 7) wNil))))) (wSv (wOp φAdd (wOp φAdd (wVar 4) (wC (.int 3))) (wVar 6)))))))))))))
      (wRet (wTup (wCons (wVar 1) (wCons (wVar 2) wNil)))))) (startE 8 as) (fin Pr Re)
theorem okr_law_read (T : Tx K mg) : FnOk P w K mg base (L2.CX P w) 2 T.law_read T.law_read_fd ["row"] (spP K 1 (Fr_law_read T)) :=
  okP T.law_read_F sc_law_read rfl fun cdv A outer s H E B hr => ⟨_, pdss_cons (pds_par2 (i := 1) (j := 2) (by rfl) sc_law_read.nd rfl rfl (by decide) rfl rfl (psl_v (pd_of_pl (pl_lst pda_nil))) (psl_v pd_int) (by rfl))
      (pdss_cons (pds_for (passes_of rfl) rfl (pdi_range1 (by rfl) T.z_range (pda_cons (pd_bt (pe_callB call_len (by rfl) T.z_len (by decide +kernel) (pda_cons (pd_var 0) pda_nil)) cdLen) pda_nil)) (pgd_name (i := 3) sc_law_read.nd rfl (Or.inl rfl)) (pdss_cons (pds_setS (i := 4) sc_law_read.nd rfl (Or.inl rfl) (psl_v (pd_var 2)))
      (pdss_cons (pds_for (passes_of rfl) rfl (pdi_range1 (by rfl) T.z_range (pda_cons (pd_bt (pe_callB call_len (by rfl) T.z_len (by decide +kernel) (pda_cons (pd_var 0) pda_nil)) cdLen) pda_nil)) (pgd_name (i := 5) sc_law_read.nd rfl (Or.inl rfl)) (pdss_cons (pds_if (pqw_pt (pqw_or (pq_cmp (op_geU hr.units) odOrd (pd_var 4) (pd_bt (pe_callB call_len (by rfl) T.z_len (by decide +kernel) (pda_cons (pd_var 0) pda_nil)) cdLen) (nomark _)) (pqw_or1 (pq_cmp (op_ltU hr.units) odOrd (pd_ix ix_U odIxU (pd_var 0) (pd_var 4) (fun _ _ => rfl)) pd_int (nomark _))))) (pdss_one pds_break) pdss_nil)
      (pdss_one (pds_setS (i := 4) sc_law_read.nd rfl (Or.inl rfl) (psl_v (pd_op op_addU odAddU (pd_var 4) pd_int))))))
      (pdss_cons (pds_if (pqw_pt (pqw_or (pq_cmp (op_geU hr.units) odOrd (pd_var 4) (pd_bt (pe_callB call_len (by rfl) T.z_len (by decide +kernel) (pda_cons (pd_var 0) pda_nil)) cdLen) (nomark _)) (pqw_or1 (pqw_pt (pqw_and (pq_cmp (op_gtU hr.units) odOrd (pd_var 4) (pd_var 2) (nomark _)) (pqw_and1 (pq_cmp (op_eqU hr.units) odEqU (pd_ix ix_U odIxU (pd_var 0) (pd_var 4) (fun _ _ => rfl)) pd_int (nomark _)))))))) (pdss_one (pds_ret (pd_tup (pda_cons (pd_var 1) (pda_cons (pd_var 2) pda_nil))))) pdss_nil)
      (pdss_cons (pds_setS (i := 6) sc_law_read.nd rfl (Or.inl rfl) (psl_v pd_int))
      (pdss_cons (pds_for (passes_of rfl) rfl (pdi_range1 (by rfl) T.z_range (pda_cons (pd_op op_addU odAddU (pd_op op_sub odSubU (pd_var 4) (pd_var 2)) pd_int) pda_nil)) (pgd_name (i := 5) sc_law_read.nd rfl (Or.inl rfl)) (pdss_one (pds_setS (i := 6) sc_law_read.nd rfl (Or.inl rfl) (psl_v (pd_op op_addU odAddU (pd_op op_mulU odMulU (pd_var 6) pd_int) (pd_op op_modN odModU (pd_bt (pe_callTy call_int1 (by rfl) T.z_int (by decide +kernel) (pda_cons (pd_ix ix_U odIxU (pd_var 0) (pd_op op_sub odSubU (pd_var 4) (pd_var 5)) (fun _ _ => rfl)) pda_nil)) cdInt) pd_int))))))
      (pdss_cons (pds_if (pq_cmp (op_gtU hr.units) odOrd (pd_var 6) (pd_op op_sub odSubU (pd_op op_sub odSubU (pd_bt (pe_callB call_len (by rfl) T.z_len (by decide +kernel) (pda_cons (pd_var 0) pda_nil)) cdLen) (pd_var 4)) pd_int) (nomark _)) (pdss_one (pds_ret (pd_tup (pda_cons (pd_var 1) (pda_cons (pd_var 2) pda_nil))))) pdss_nil)
      (pdss_cons (pds_setS (i := 7) sc_law_read.nd rfl (Or.inl rfl) (psl_v (pd_sl sl_U sdU (pd_var 0) (pdo_some (pd_op op_addU odAddU (pd_var 4) pd_int)) (pdo_some (pd_op op_addU odAddU (pd_op op_addU odAddU (pd_var 4) pd_int) (pd_var 6))))))
      (pdss_cons (pds_if (pq_cmp (op_neU hr.units) odNeU (pd_sl sl_U sdU (pd_var 0) (pdo_some (pd_op op_addU odAddU (pd_op op_addU odAddU (pd_var 4) pd_int) (pd_var 6))) (pdo_some (pd_op op_addU odAddU (pd_op op_addU odAddU (pd_var 4) pd_int) (pd_var 6)))) (pd_of_pl (pl_lst (pda_cons (pd_op op_modN odModU (pd_bt (pe_callTy call_int1 (by rfl) T.z_int (by decide +kernel) (pda_cons (pd_call (ok_law_sum T) (hr.mono (by omega)) (by rfl) T.law_sum_m T.law_sum_F.kp T.law_sum_b (takes_of rfl rfl rfl rfl) (pda_cons (pd_var 7) pda_nil)) pda_nil)) cdInt) pd_int) (pda_cons (pd_op op_fdivG odFdvU (pd_call (ok_law_sum T) (hr.mono (by omega)) (by rfl) T.law_sum_m T.law_sum_F.kp T.law_sum_b (takes_of rfl rfl rfl rfl) (pda_cons (pd_var 7) pda_nil)) pd_int) pda_nil)))) (nomark _)) (pdss_one (pds_ret (pd_tup (pda_cons (pd_var 1) (pda_cons (pd_var 2) pda_nil))))) pdss_nil)
      (pdss_one (pds_par2 (i := 1) (j := 2) (by rfl) sc_law_read.nd rfl rfl (by decide) rfl rfl (psl_v (pd_op op_addU odAddU (pd_var 1) (pd_of_pl (pl_lst (pda_cons (pd_var 7) pda_nil))))) (psl_v (pd_op op_addU odAddU (pd_op op_addU odAddU (pd_var 4) pd_int) (pd_var 6))) (by rfl))))))))))))
      (pdss_one (pds_ret (pd_tup (pda_cons (pd_var 1) (pda_cons (pd_var 2) pda_nil)))))), fun _ _ _ _ hF => hF⟩
@[irreducible] def F_law_read (T : Tx K mg) : Fd := Fr_law_read T
theorem ok_law_read (T : Tx K mg) : FnOk P w K mg base (L2.CX P w) 2 T.law_read T.law_read_fd ["row"] (spP K 1 (F_law_read T)) := by
  unfold F_law_read
  exact okr_law_read T
end
end K86
set_option maxRecDepth 100000
set_option maxHeartbeats 4000000
namespace K86
open PySem PySem.Spec PyProof.Rows L2 Pre Pd
section
variable {P : Program} {w : World} {K : PySem.W.Frag} {mg : Str → Option Value} {base : Heap}
def Fr_law_frames_hold (T : Tx K mg) : Fd := fun as Pr Re => (wSeq (wFor (wWalk (wVar 0)) (sTup 2 (sCons (sName 1) (sCons (sName 2) sNil))) (wIfS (wNot (wTru (wCall 2 (F_law_is_row T) (wCons (wCall 1 (F_frame T) (wCons (wBt φTuple (wCons (wVar 1) wNil)) wNil)) (wCons (wVar 2) wNil))))) (wRet (wC (.bl false))) wNext))
      (wSeq (wSetS 3 (wSv (wBt φTuple (wCons (wCall 1 (F_law_flat T) (wCons (wVar 0) wNil)) wNil))))
      (wSeq (wIfS (wAnd (wOpB φLtU (wBt φLen (wCons (wVar 3) wNil)) (wC (.int 2000))) (wNot (wTru (wCall 2 (F_law_is_row T) (wCons (wCallK 1 1 [0] (F_frame T) (wCons (wBt φTuple (wCons (wOp φIxU (wOp φIxU (wVar 0) (wC (.int 0))) (wC (.int 0))) wNil)) wNil)) (wCons (wOp φIxU (wOp φIxU (wVar 0) (wC (.int 0))) (wC (.int 1))) wNil)))))) (wRet (wC (.bl false))) wNext)
      (wRet (wCall 3 (F_law_is_told T) (wCons (wCall 1 (F_frames T) (wCons (wVar 3) wNil)) (wCons (wLV (wComp [1, 2] (wWalk (wVar 0)) (sTup 2 (sCons (sName 1) (sCons (sName 2) sNil))) wYes (wVar 1))) (wCons (wBt φLen (wCons (wVar 3) wNil)) wNil)))))))) (startE 4 as) (fin Pr Re)
theorem okr_law_frames_hold (T : Tx K mg) : FnOk P w K mg base (L2.CX P w) 5 T.law_frames_hold T.law_frames_hold_fd ["found"] (spP K 1 (Fr_law_frames_hold T)) :=
  okP T.law_frames_hold_F sc_law_frames_hold rfl fun cdv A outer s H E B hr => ⟨_, pdss_cons (pds_for (passes_of rfl) rfl (pdi_walk (pd_var 0)) (pgd_tup rfl (pgds_cons (pgd_name (i := 1) sc_law_frames_hold.nd rfl (Or.inl rfl)) (pgds_cons (pgd_name (i := 2) sc_law_frames_hold.nd rfl (Or.inl rfl)) pgds_nil))) (pdss_one (pds_if (pq_not (pq_tru (pd_call (ok_law_is_row T) (hr.mono (by omega)) (by rfl) T.law_is_row_m T.law_is_row_F.kp T.law_is_row_b (takes_of rfl rfl rfl rfl) (pda_cons (pd_call (ok_frame T) (hr.mono (by omega)) (by rfl) T.frame_m T.frame_F.kp T.frame_b (takes_of rfl rfl rfl rfl) (pda_cons (pd_bt (pe_callTy call_tuple_of (by rfl) T.z_tuple (by decide +kernel) (pda_cons (pd_var 1) pda_nil)) cdTuple) pda_nil)) (pda_cons (pd_var 2) pda_nil))))) (pdss_one (pds_ret pd_bl)) pdss_nil)))
      (pdss_cons (pds_setS (i := 3) sc_law_frames_hold.nd rfl (Or.inl rfl) (psl_v (pd_bt (pe_callTy call_tuple_of (by rfl) T.z_tuple (by decide +kernel) (pda_cons (pd_call (ok_law_flat T) (hr.mono (by omega)) (by rfl) T.law_flat_m T.law_flat_F.kp T.law_flat_b (takes_of rfl rfl rfl rfl) (pda_cons (pd_var 0) pda_nil)) pda_nil)) cdTuple)))
      (pdss_cons (pds_if (pqw_pt (pqw_and (pq_cmp (op_ltU hr.units) odOrd (pd_bt (pe_callB call_len (by rfl) T.z_len (by decide +kernel) (pda_cons (pd_var 3) pda_nil)) cdLen) pd_int (nomark _)) (pqw_and1 (pq_not (pq_tru (pd_call (ok_law_is_row T) (hr.mono (by omega)) (by rfl) T.law_is_row_m T.law_is_row_F.kp T.law_is_row_b (takes_of rfl rfl rfl rfl) (pda_cons (pd_callK (ks := ["body"]) (is := [0]) (ok_frame T) (hr.mono (by omega)) (by rfl) T.frame_m T.frame_F.kp (kb_frame_body T.frame_F) (takes_of rfl rfl rfl rfl) (pdk_cons (pd_bt (pe_callTy call_tuple_of (by rfl) T.z_tuple (by decide +kernel) (pda_cons (pd_ix ix_U odIxU (pd_ix ix_U odIxU (pd_var 0) pd_int (fun _ _ => rfl)) pd_int (fun _ _ => rfl)) pda_nil)) cdTuple) pdk_nil)) (pda_cons (pd_ix ix_U odIxU (pd_ix ix_U odIxU (pd_var 0) pd_int (fun _ _ => rfl)) pd_int (fun _ _ => rfl)) pda_nil)))))))) (pdss_one (pds_ret pd_bl)) pdss_nil)
      (pdss_one (pds_ret (pd_call (ok_law_is_told T) (hr.mono (by omega)) (by rfl) T.law_is_told_m T.law_is_told_F.kp T.law_is_told_b (takes_of rfl rfl rfl rfl) (pda_cons (pd_call (ok_frames T) (hr.mono (by omega)) (by rfl) T.frames_m T.frames_F.kp T.frames_b (takes_of rfl rfl rfl rfl) (pda_cons (pd_var 3) pda_nil)) (pda_cons (pd_of_pl (pl_lc (own := [("body", 1), ("octets_due", 2)]) rfl sc_law_frames_hold.nd (pdi_walk (pd_var 0)) (blkOk_by (own := [("body", 1), ("octets_due", 2)]) (N := ["found", "body", "octets_due", "row"]) (sc := defScope s_law_frames_hold) (by decide +kernel)) (fun _ _ _ _ _ => pgc_tup rfl (pgcs_cons (pgc_name (i := 1) sc_law_frames_hold.nd rfl (Or.inl rfl)) (pgcs_cons (pgc_name (i := 2) sc_law_frames_hold.nd rfl (Or.inl rfl)) pgcs_nil))) (fun _ _ _ _ _ => pqs_nil) (fun _ _ _ _ _ => pd_var 1))) (pda_cons (pd_bt (pe_callB call_len (by rfl) T.z_len (by decide +kernel) (pda_cons (pd_var 3) pda_nil)) cdLen) pda_nil)))))))), fun _ _ _ _ hF => hF⟩
@[irreducible] def F_law_frames_hold (T : Tx K mg) : Fd := Fr_law_frames_hold T
theorem ok_law_frames_hold (T : Tx K mg) : FnOk P w K mg base (L2.CX P w) 5 T.law_frames_hold T.law_frames_hold_fd ["found"] (spP K 1 (F_law_frames_hold T)) := by
  unfold F_law_frames_hold
  exact okr_law_frames_hold T
def Fr_law_cuts_hold (T : Tx K mg) : Fd := fun as Pr Re => (wSeq (wSetS 2 (wSv (wCall 1 (F_law_flat T) (wCons (wVar 1) wNil))))
      (wSeq (wSetL 3 (wComp [11] (wRng1 (wCons (wC (.int 4)) wNil)) (sName 11) wYes (wCall 2 (F_law_take T) (wCons (wVar 0) (wCons (wOp φAdd (wBt φLen (wCons (wVar 2) wNil)) (wC (.int 1))) wNil)))))
      (wSeq (wIfS (wOpB φLeU (wBt φLen (wCons (wVar 2) wNil)) (wC (.int 40))) (wSetS 3 (wSl_ (wLRng1 (wOp φAdd (wBt φLen (wCons (wVar 2) wNil)) (wC (.int 1)))))) wNext)
      (wSeq (wPar2 4 5 (wSl_ (wLst wNil)) (wSv (wC (.int 0))))
      (wSeq (wFor (wWalk (wVar 1)) (sTup 2 (sCons (sName 6) (sCons (sName 7) sNil))) (wSeq (wSetS 5 (wSv (wOp φAdd (wVar 5) (wBt φLen (wCons (wVar 7) wNil)))))
      (wExt 4 (wLV (wLst (wCons (wOp φSub (wVar 5) (wC (.int 1))) (wCons (wVar 5) wNil)))))))
      (wLet 4 (wSeq (wApp' 3 (wCall 2 (F_law_pick T) (wCons (wVar 0) (wCons (wVar 4) wNil))))
      (wLet 3 (wSeq (wFor (wWalk (wVar 3)) (sName 8) (wSeq (wAsg (wCall 2 (F_law_ahead T) (wCons (wVar 1) (wCons (wVar 8) wNil))) (sTup 2 (sCons (sName 9) (sCons (sName 10) sNil))))
      (wIfS (wNot (wTru (wCall 3 (F_law_is_told T) (wCons (wCall 1 (F_frames T) (wCons (wBt φTuple (wCons (wSl φSlU (wVar 2) wNoP (wPart (wVar 8))) wNil)) wNil)) (wCons (wLV (wComp [12] (wWalk (wSl φSlU (wVar 1) wNoP (wPart (wVar 9)))) (sName 12) wYes (wOp φIxU (wVar 12) (wC (.int 0))))) (wCons (wVar 10) wNil)))))) (wRet (wC (.bl false))) wNext)))
      (wRet (wC (.bl true)))))))))))) (startE 13 as) (fin Pr Re)
theorem okr_law_cuts_hold (T : Tx K mg) : FnOk P w K mg base (L2.CX P w) 5 T.law_cuts_hold T.law_cuts_hold_fd ["box", "found"] (spP K 2 (Fr_law_cuts_hold T)) :=
  okP T.law_cuts_hold_F sc_law_cuts_hold rfl fun cdv A outer s H E B hr => ⟨_, pdss_cons (pds_setS (i := 2) sc_law_cuts_hold.nd rfl (Or.inr rfl) (psl_v (pd_call (ok_law_flat T) (hr.mono (by omega)) (by rfl) T.law_flat_m T.law_flat_F.kp T.law_flat_b (takes_of rfl rfl rfl rfl) (pda_cons (pd_var 1) pda_nil))))
      (pdss_cons (pds_setLc (own := [("k", 11)]) (i := 3) rfl sc_law_cuts_hold.nd rfl rfl (sw_true rfl rfl rfl (by decide +kernel)) (pdi_range1 (by rfl) T.z_range (pda_cons pd_int pda_nil)) (blkOk_by (own := [("k", 11)]) (N := ["box", "found", "row", "cuts", "bounds", "place", "body", "octets_due", "cut", "many", "behind", "k", "pair"]) (sc := defScope s_law_cuts_hold) (by decide +kernel)) (fun _ _ _ _ _ => pgc_name (i := 11) sc_law_cuts_hold.nd rfl (Or.inl rfl)) (fun _ _ _ _ _ => pqs_nil) (fun _ _ _ _ _ => pd_call (ok_law_take T) (hr.mono (by omega)) (by rfl) T.law_take_m T.law_take_F.kp T.law_take_b takes0 (pda_cons (pd_var 0) (pda_cons (pd_op op_addU odAddU (pd_bt (pe_callB call_len (by rfl) T.z_len (by decide +kernel) (pda_cons (pd_var 2) pda_nil)) cdLen) pd_int) pda_nil))))
      (pdss_cons (pds_if (pq_cmp (op_leU hr.units) odOrd (pd_bt (pe_callB call_len (by rfl) T.z_len (by decide +kernel) (pda_cons (pd_var 2) pda_nil)) cdLen) pd_int (nomark _)) (pdss_one (pds_setS (i := 3) sc_law_cuts_hold.nd rfl (Or.inl rfl) (psl_l (pl_lrng1 rfl (by rfl) T.z_list (by rfl) T.z_range (pd_op op_addU odAddU (pd_bt (pe_callB call_len (by rfl) T.z_len (by decide +kernel) (pda_cons (pd_var 2) pda_nil)) cdLen) pd_int))))) pdss_nil)
      (pdss_cons (pds_par2 (i := 4) (j := 5) (by rfl) sc_law_cuts_hold.nd rfl rfl (by decide) rfl rfl (psl_l (pl_lst pda_nil)) (psl_v pd_int) (by rfl))
      (pdss_cons (pds_for (passes_of rfl) rfl (pdi_walk (pd_var 1)) (pgd_tup rfl (pgds_cons (pgd_name (i := 6) sc_law_cuts_hold.nd rfl (Or.inl rfl)) (pgds_cons (pgd_name (i := 7) sc_law_cuts_hold.nd rfl (Or.inl rfl)) pgds_nil))) (pdss_cons (pds_setS (i := 5) sc_law_cuts_hold.nd rfl (Or.inl rfl) (psl_v (pd_op op_addU odAddU (pd_var 5) (pd_bt (pe_callB call_len (by rfl) T.z_len (by decide +kernel) (pda_cons (pd_var 7) pda_nil)) cdLen))))
      (pdss_one (pds_extend (ps_expr (pe_bm PySem.F.plainAttrs_list PySem.F.slot_list_extend PySem.F.type_list_extend mt_extend (pv 4) (pa_cons (pd_of_pl (pl_lst (pda_cons (pd_op op_sub odSubU (pd_var 5) pd_int) (pda_cons (pd_var 5) pda_nil)))) pa_nil)) (by rfl))))))
      (pdss_let 4 (pdss_cons (pds_append (ps_expr (pe_bm PySem.F.plainAttrs_list PySem.F.slot_list_append PySem.F.type_list_append mt_append (pv 3) (pa_cons (pd_call (ok_law_pick T) (hr.mono (by omega)) (by rfl) T.law_pick_m T.law_pick_F.kp T.law_pick_b (takes_of rfl rfl rfl rfl) (pda_cons (pd_var 0) (pda_cons (pd_var 4) pda_nil))) pa_nil)) (by rfl)))
      (pdss_let 3 (pdss_cons (pds_for (passes_of rfl) rfl (pdi_walk (pd_var 3)) (pgd_name (i := 8) sc_law_cuts_hold.nd rfl (Or.inl rfl)) (pdss_cons (pds_asg (pd_call (ok_law_ahead T) (hr.mono (by omega)) (by rfl) T.law_ahead_m T.law_ahead_F.kp T.law_ahead_b (takes_of rfl rfl rfl rfl) (pda_cons (pd_var 1) (pda_cons (pd_var 8) pda_nil))) (pgd_tup rfl (pgds_cons (pgd_name (i := 9) sc_law_cuts_hold.nd rfl (Or.inl rfl)) (pgds_cons (pgd_name (i := 10) sc_law_cuts_hold.nd rfl (Or.inl rfl)) pgds_nil))))
      (pdss_one (pds_if (pq_not (pq_tru (pd_call (ok_law_is_told T) (hr.mono (by omega)) (by rfl) T.law_is_told_m T.law_is_told_F.kp T.law_is_told_b (takes_of rfl rfl rfl rfl) (pda_cons (pd_call (ok_frames T) (hr.mono (by omega)) (by rfl) T.frames_m T.frames_F.kp T.frames_b (takes_of rfl rfl rfl rfl) (pda_cons (pd_bt (pe_callTy call_tuple_of (by rfl) T.z_tuple (by decide +kernel) (pda_cons (pd_sl sl_U sdU (pd_var 2) pdo_none (pdo_some (pd_var 8))) pda_nil)) cdTuple) pda_nil)) (pda_cons (pd_of_pl (pl_lc (own := [("pair", 12)]) rfl sc_law_cuts_hold.nd (pdi_walk (pd_sl sl_U sdU (pd_var 1) pdo_none (pdo_some (pd_var 9)))) (blkOk_by (own := [("pair", 12)]) (N := ["box", "found", "row", "cuts", "bounds", "place", "body", "octets_due", "cut", "many", "behind", "k", "pair"]) (sc := defScope s_law_cuts_hold) (by decide +kernel)) (fun _ _ _ _ _ => pgc_name (i := 12) sc_law_cuts_hold.nd rfl (Or.inl rfl)) (fun _ _ _ _ _ => pqs_nil) (fun _ _ _ _ _ => pd_ix ix_U odIxU (pd_var 12) pd_int (fun _ _ => rfl)))) (pda_cons (pd_var 10) pda_nil)))))) (pdss_one (pds_ret pd_bl)) pdss_nil))))
      (pdss_one (pds_ret pd_bl)))))))))), fun _ _ _ _ hF => hF⟩
@[irreducible] def F_law_cuts_hold (T : Tx K mg) : Fd := Fr_law_cuts_hold T
theorem ok_law_cuts_hold (T : Tx K mg) : FnOk P w K mg base (L2.CX P w) 5 T.law_cuts_hold T.law_cuts_hold_fd ["box", "found"] (spP K 2 (F_law_cuts_hold T)) := by
  unfold F_law_cuts_hold
  exact okr_law_cuts_hold T
def Fr_law_spoilt (T : Tx K mg) : Fd := fun as Pr Re => (wSeq (wAsg (wVar 1) (sTup 2 (sCons (sName 2) (sCons (sName 3) sNil))))
      (wSeq (wPar2 4 5 (wSv (wOp φSub (wOp φSub (wBt φLen (wCons (wVar 3) wNil)) (wBt φLen (wCons (wVar 2) wNil))) (wC (.int 2)))) (wSv (wCall 2 (F_law_take T) (wCons (wVar 0) (wCons (wC (.int 5)) wNil)))))
      (wSeq (wSetS 6 (wSl_ (wBl φList (wCons (wVar 3) wNil))))
      (wSeq (wIfS (wAnd (wOpB (φEqU false) (wVar 5) (wC (.int 0))) (wOpB φGtU (wBt φLen (wCons (wVar 2) wNil)) (wC (.int 1)))) (wSeq (wPar2 7 8 (wSv (wOp φAdd (wVar 4) (wCall 2 (F_law_take T) (wCons (wVar 0) (wCons (wBt φLen (wCons (wVar 2) wNil)) wNil))))) (wSv (wOp φAdd (wVar 4) (wCall 2 (F_law_take T) (wCons (wVar 0) (wCons (wBt φLen (wCons (wVar 2) wNil)) wNil))))))
      (wSeq (wPut 6 (wOp φIxU (wVar 3) (wVar 8)) (wVar 7))
      (wSeq (wPut 6 (wOp φIxU (wVar 3) (wVar 7)) (wVar 8))
      (wIfS (wOpB (φEqU true) (wOp φIxU (wVar 3) (wVar 7)) (wOp φIxU (wVar 3) (wVar 8))) (wLet 6 (wRet (wVar 6))) wNext)))) wNext)
      (wSeq (wIfS (wAnd (wOpB (φEqU false) (wVar 5) (wC (.int 1))) (wOpB (φEqU true) (wOp φIxU (wVar 3) (wOp φSub (wBt φLen (wCons (wVar 3) wNil)) (wC (.int 2)))) (wOp φIxU (wVar 3) (wOp φSub (wBt φLen (wCons (wVar 3) wNil)) (wC (.int 1)))))) (wRet (wOp φAdd (wSl φSlU (wVar 3) wNoP (wPart (wOp φSub (wBt φLen (wCons (wVar 3) wNil)) (wC (.int 2))))) (wLV (wLst (wCons (wOp φIxU (wVar 3) (wOp φSub (wBt φLen (wCons (wVar 3) wNil)) (wC (.int 1)))) (wCons (wOp φIxU (wVar 3) (wOp φSub (wBt φLen (wCons (wVar 3) wNil)) (wC (.int 2)))) wNil)))))) wNext)
      (wSeq (wIfS (wOpB (φEqU false) (wVar 5) (wC (.int 2))) (wRet (wOp φAdd (wOp φAdd (wLV (wComp [10] (wWalk (wSl φSlU (wVar 3) wNoP (wPart (wVar 4)))) (sName 10) wYes (wOp φAdd (wVar 10) (wOp φMul (wC (.int 128)) (wBt φInt (wCons (wOp φLtU (wVar 10) (wC (.int 128))) wNil)))))) (wLV (wLst (wCons (wC (.int 0)) wNil)))) (wSl φSlU (wVar 3) (wPart (wVar 4)) wNoP))) wNext)
      (wSeq (wSetS 9 (wSv (wOp φAdd (wVar 4) (wCall 2 (F_law_pick T) (wCons (wVar 0) (wCons (wLV (wLst (wCons (wC (.int 0)) (wCons (wBt φLen (wCons (wVar 2) wNil)) (wCons (wOp φAdd (wBt φLen (wCons (wVar 2) wNil)) (wC (.int 1))) (wCons (wCall 2 (F_law_take T) (wCons (wVar 0) (wCons (wOp φAdd (wBt φLen (wCons (wVar 2) wNil)) (wC (.int 2))) wNil))) wNil)))))) wNil))))))
      (wSeq (wPut 6 (wOp φMod (wBt φInt (wCons (wOp φAdd (wOp φAdd (wOp φIxU (wVar 3) (wVar 9)) (wC (.int 1))) (wCall 2 (F_law_pick T) (wCons (wVar 0) (wCons (wLV (wLst (wCons (wC (.int 0)) (wCons (wC (.int 127)) (wCons (wC (.int 254)) (wCons (wCall 2 (F_law_take T) (wCons (wVar 0) (wCons (wC (.int 255)) wNil))) wNil)))))) wNil)))) wNil)) (wC (.int 256))) (wVar 9))
      (wLet 6 (wRet (wVar 6))))))))))) (startE 11 as) (fin Pr Re)
theorem okr_law_spoilt (T : Tx K mg) : FnOk P w K mg base (L2.CX P w) 3 T.law_spoilt T.law_spoilt_fd ["box", "pair"] (spP K 2 (Fr_law_spoilt T)) :=
  okP T.law_spoilt_F sc_law_spoilt rfl fun cdv A outer s H E B hr => ⟨_, pdss_cons (pds_asg (pd_var 1) (pgd_tup rfl (pgds_cons (pgd_name (i := 2) sc_law_spoilt.nd rfl (Or.inl rfl)) (pgds_cons (pgd_name (i := 3) sc_law_spoilt.nd rfl (Or.inl rfl)) pgds_nil))))
      (pdss_cons (pds_par2 (i := 4) (j := 5) (by rfl) sc_law_spoilt.nd rfl rfl (by decide) rfl rfl (psl_v (pd_op op_sub odSubU (pd_op op_sub odSubU (pd_bt (pe_callB call_len (by rfl) T.z_len (by decide +kernel) (pda_cons (pd_var 3) pda_nil)) cdLen) (pd_bt (pe_callB call_len (by rfl) T.z_len (by decide +kernel) (pda_cons (pd_var 2) pda_nil)) cdLen)) pd_int)) (psl_v (pd_call (ok_law_take T) (hr.mono (by omega)) (by rfl) T.law_take_m T.law_take_F.kp T.law_take_b (takes_of rfl rfl rfl rfl) (pda_cons (pd_var 0) (pda_cons pd_int pda_nil)))) (by rfl))
      (pdss_cons (pds_setS (i := 6) sc_law_spoilt.nd rfl (Or.inl rfl) (psl_l (pl_bt (pe_callTy call_list_of (by rfl) T.z_list (by decide +kernel) (pda_cons (pd_var 3) pda_nil)) cdList)))
      (pdss_cons (pds_if (pqw_pt (pqw_and (pq_cmp (op_eqU hr.units) odEqU (pd_var 5) pd_int (nomark _)) (pqw_and1 (pq_cmp (op_gtU hr.units) odOrd (pd_bt (pe_callB call_len (by rfl) T.z_len (by decide +kernel) (pda_cons (pd_var 2) pda_nil)) cdLen) pd_int (nomark _))))) (pdss_cons (pds_par2 (i := 7) (j := 8) (by rfl) sc_law_spoilt.nd rfl rfl (by decide) rfl rfl (psl_v (pd_op op_addU odAddU (pd_var 4) (pd_call (ok_law_take T) (hr.mono (by omega)) (by rfl) T.law_take_m T.law_take_F.kp T.law_take_b (takes_of rfl rfl rfl rfl) (pda_cons (pd_var 0) (pda_cons (pd_bt (pe_callB call_len (by rfl) T.z_len (by decide +kernel) (pda_cons (pd_var 2) pda_nil)) cdLen) pda_nil))))) (psl_v (pd_op op_addU odAddU (pd_var 4) (pd_call (ok_law_take T) (hr.mono (by omega)) (by rfl) T.law_take_m T.law_take_F.kp T.law_take_b (takes_of rfl rfl rfl rfl) (pda_cons (pd_var 0) (pda_cons (pd_bt (pe_callB call_len (by rfl) T.z_len (by decide +kernel) (pda_cons (pd_var 2) pda_nil)) cdLen) pda_nil))))) (by rfl))
      (pdss_cons (pds_put (ps_asg (pd_ix ix_U odIxU (pd_var 3) (pd_var 8) (fun _ _ => rfl)) (pg_sub (pv 6) (pd_var 7) set_list)))
      (pdss_cons (pds_put (ps_asg (pd_ix ix_U odIxU (pd_var 3) (pd_var 7) (fun _ _ => rfl)) (pg_sub (pv 6) (pd_var 8) set_list)))
      (pdss_one (pds_if (pq_cmp (op_neU hr.units) odNeU (pd_ix ix_U odIxU (pd_var 3) (pd_var 7) (fun _ _ => rfl)) (pd_ix ix_U odIxU (pd_var 3) (pd_var 8) (fun _ _ => rfl)) (nomark _)) (pdss_let 6 (pdss_one (pds_ret (pd_var 6)))) pdss_nil))))) pdss_nil)
      (pdss_cons (pds_if (pqw_pt (pqw_and (pq_cmp (op_eqU hr.units) odEqU (pd_var 5) pd_int (nomark _)) (pqw_and1 (pq_cmp (op_neU hr.units) odNeU (pd_ix ix_U odIxU (pd_var 3) (pd_op op_sub odSubU (pd_bt (pe_callB call_len (by rfl) T.z_len (by decide +kernel) (pda_cons (pd_var 3) pda_nil)) cdLen) pd_int) (fun _ _ => rfl)) (pd_ix ix_U odIxU (pd_var 3) (pd_op op_sub odSubU (pd_bt (pe_callB call_len (by rfl) T.z_len (by decide +kernel) (pda_cons (pd_var 3) pda_nil)) cdLen) pd_int) (fun _ _ => rfl)) (nomark _))))) (pdss_one (pds_ret (pd_op op_addU odAddU (pd_sl sl_U sdU (pd_var 3) pdo_none (pdo_some (pd_op op_sub odSubU (pd_bt (pe_callB call_len (by rfl) T.z_len (by decide +kernel) (pda_cons (pd_var 3) pda_nil)) cdLen) pd_int))) (pd_of_pl (pl_lst (pda_cons (pd_ix ix_U odIxU (pd_var 3) (pd_op op_sub odSubU (pd_bt (pe_callB call_len (by rfl) T.z_len (by decide +kernel) (pda_cons (pd_var 3) pda_nil)) cdLen) pd_int) (fun _ _ => rfl)) (pda_cons (pd_ix ix_U odIxU (pd_var 3) (pd_op op_sub odSubU (pd_bt (pe_callB call_len (by rfl) T.z_len (by decide +kernel) (pda_cons (pd_var 3) pda_nil)) cdLen) pd_int) (fun _ _ => rfl)) pda_nil))))))) pdss_nil)
      (pdss_cons (pds_if (pq_cmp (op_eqU hr.units) odEqU (pd_var 5) pd_int (nomark _)) (pdss_one (pds_ret (pd_op op_addU odAddU (pd_op op_addU odAddU (pd_of_pl (pl_lc (own := [("octet", 10)]) rfl sc_law_spoilt.nd (pdi_walk (pd_sl sl_U sdU (pd_var 3) pdo_none (pdo_some (pd_var 4)))) (blkOk_by (own := [("octet", 10)]) (N := ["box", "pair", "body", "due", "head", "kind", "spoilt", "one", "other", "place", "octet"]) (sc := defScope s_law_spoilt) (by decide +kernel)) (fun _ _ _ _ _ => pgc_name (i := 10) sc_law_spoilt.nd rfl (Or.inl rfl)) (fun _ _ _ _ _ => pqs_nil) (fun _ _ _ _ _ => pd_op op_addU odAddU (pd_var 10) (pd_op op_mulU odMulU pd_int (pd_bt (pe_callTy call_int1 (by rfl) T.z_int (by decide +kernel) (pda_cons (pd_cmp (op_ltU hr.units) odOrd (pd_var 10) pd_int (nomark _)) pda_nil)) cdInt))))) (pd_of_pl (pl_lst (pda_cons pd_int pda_nil)))) (pd_sl sl_U sdU (pd_var 3) (pdo_some (pd_var 4)) pdo_none)))) pdss_nil)
      (pdss_cons (pds_setS (i := 9) sc_law_spoilt.nd rfl (Or.inl rfl) (psl_v (pd_op op_addU odAddU (pd_var 4) (pd_call (ok_law_pick T) (hr.mono (by omega)) (by rfl) T.law_pick_m T.law_pick_F.kp T.law_pick_b (takes_of rfl rfl rfl rfl) (pda_cons (pd_var 0) (pda_cons (pd_of_pl (pl_lst (pda_cons pd_int (pda_cons (pd_bt (pe_callB call_len (by rfl) T.z_len (by decide +kernel) (pda_cons (pd_var 2) pda_nil)) cdLen) (pda_cons (pd_op op_addU odAddU (pd_bt (pe_callB call_len (by rfl) T.z_len (by decide +kernel) (pda_cons (pd_var 2) pda_nil)) cdLen) pd_int) (pda_cons (pd_call (ok_law_take T) (hr.mono (by omega)) (by rfl) T.law_take_m T.law_take_F.kp T.law_take_b (takes_of rfl rfl rfl rfl) (pda_cons (pd_var 0) (pda_cons (pd_op op_addU odAddU (pd_bt (pe_callB call_len (by rfl) T.z_len (by decide +kernel) (pda_cons (pd_var 2) pda_nil)) cdLen) pd_int) pda_nil))) pda_nil)))))) pda_nil))))))
      (pdss_cons (pds_put (ps_asg (pd_op op_modN odModU (pd_bt (pe_callTy call_int1 (by rfl) T.z_int (by decide +kernel) (pda_cons (pd_op op_addU odAddU (pd_op op_addU odAddU (pd_ix ix_U odIxU (pd_var 3) (pd_var 9) (fun _ _ => rfl)) pd_int) (pd_call (ok_law_pick T) (hr.mono (by omega)) (by rfl) T.law_pick_m T.law_pick_F.kp T.law_pick_b (takes_of rfl rfl rfl rfl) (pda_cons (pd_var 0) (pda_cons (pd_of_pl (pl_lst (pda_cons pd_int (pda_cons pd_int (pda_cons pd_int (pda_cons (pd_call (ok_law_take T) (hr.mono (by omega)) (by rfl) T.law_take_m T.law_take_F.kp T.law_take_b (takes_of rfl rfl rfl rfl) (pda_cons (pd_var 0) (pda_cons pd_int pda_nil))) pda_nil)))))) pda_nil)))) pda_nil)) cdInt) pd_int) (pg_sub (pv 6) (pd_var 9) set_list)))
      (pdss_let 6 (pdss_one (pds_ret (pd_var 6))))))))))), fun _ _ _ _ hF => hF⟩
@[irreducible] def F_law_spoilt (T : Tx K mg) : Fd := Fr_law_spoilt T
theorem ok_law_spoilt (T : Tx K mg) : FnOk P w K mg base (L2.CX P w) 3 T.law_spoilt T.law_spoilt_fd ["box", "pair"] (spP K 2 (F_law_spoilt T)) := by
  unfold F_law_spoilt
  exact okr_law_spoilt T
def Fr_law_spoils_hold (T : Tx K mg) : Fd := fun as Pr Re => (wSeq (wSetS 2 (wSv (wCall 2 (F_law_take T) (wCons (wVar 0) (wCons (wBt φLen (wCons (wVar 1) wNil)) wNil)))))
      (wSeq (wSetS 3 (wSv (wCall 1 (F_law_flat T) (wCons (wSl φSlU (wVar 1) wNoP (wPart (wVar 2))) wNil))))
      (wSeq (wSetS 4 (wSv (wBt φTuple (wCons (wOp φAdd (wOp φAdd (wVar 3) (wCall 2 (F_law_spoilt T) (wCons (wVar 0) (wCons (wOp φIxU (wVar 1) (wVar 2)) wNil)))) (wCall 1 (F_law_flat T) (wCons (wSl φSlU (wVar 1) (wPart (wOp φAdd (wVar 2) (wC (.int 1)))) wNoP) wNil))) wNil))))
      (wRet (wCall 3 (F_law_is_told T) (wCons (wCall 1 (F_frames T) (wCons (wVar 4) wNil)) (wCons (wLV (wComp [5] (wWalk (wSl φSlU (wVar 1) wNoP (wPart (wVar 2)))) (sName 5) wYes (wOp φIxU (wVar 5) (wC (.int 0))))) (wCons (wBt φLen (wCons (wVar 3) wNil)) wNil)))))))) (startE 6 as) (fin Pr Re)
theorem okr_law_spoils_hold (T : Tx K mg) : FnOk P w K mg base (L2.CX P w) 5 T.law_spoils_hold T.law_spoils_hold_fd ["box", "found"] (spP K 2 (Fr_law_spoils_hold T)) :=
  okP T.law_spoils_hold_F sc_law_spoils_hold rfl fun cdv A outer s H E B hr => ⟨_, pdss_cons (pds_setS (i := 2) sc_law_spoils_hold.nd rfl (Or.inl rfl) (psl_v (pd_call (ok_law_take T) (hr.mono (by omega)) (by rfl) T.law_take_m T.law_take_F.kp T.law_take_b (takes_of rfl rfl rfl rfl) (pda_cons (pd_var 0) (pda_cons (pd_bt (pe_callB call_len (by rfl) T.z_len (by decide +kernel) (pda_cons (pd_var 1) pda_nil)) cdLen) pda_nil)))))
      (pdss_cons (pds_setS (i := 3) sc_law_spoils_hold.nd rfl (Or.inl rfl) (psl_v (pd_call (ok_law_flat T) (hr.mono (by omega)) (by rfl) T.law_flat_m T.law_flat_F.kp T.law_flat_b (takes_of rfl rfl rfl rfl) (pda_cons (pd_sl sl_U sdU (pd_var 1) pdo_none (pdo_some (pd_var 2))) pda_nil))))
      (pdss_cons (pds_setS (i := 4) sc_law_spoils_hold.nd rfl (Or.inl rfl) (psl_v (pd_bt (pe_callTy call_tuple_of (by rfl) T.z_tuple (by decide +kernel) (pda_cons (pd_op op_addU odAddU (pd_op op_addU odAddU (pd_var 3) (pd_call (ok_law_spoilt T) (hr.mono (by omega)) (by rfl) T.law_spoilt_m T.law_spoilt_F.kp T.law_spoilt_b (takes_of rfl rfl rfl rfl) (pda_cons (pd_var 0) (pda_cons (pd_ix ix_U odIxU (pd_var 1) (pd_var 2) (fun _ _ => rfl)) pda_nil)))) (pd_call (ok_law_flat T) (hr.mono (by omega)) (by rfl) T.law_flat_m T.law_flat_F.kp T.law_flat_b (takes_of rfl rfl rfl rfl) (pda_cons (pd_sl sl_U sdU (pd_var 1) (pdo_some (pd_op op_addU odAddU (pd_var 2) pd_int)) pdo_none) pda_nil))) pda_nil)) cdTuple)))
      (pdss_one (pds_ret (pd_call (ok_law_is_told T) (hr.mono (by omega)) (by rfl) T.law_is_told_m T.law_is_told_F.kp T.law_is_told_b (takes_of rfl rfl rfl rfl) (pda_cons (pd_call (ok_frames T) (hr.mono (by omega)) (by rfl) T.frames_m T.frames_F.kp T.frames_b (takes_of rfl rfl rfl rfl) (pda_cons (pd_var 4) pda_nil)) (pda_cons (pd_of_pl (pl_lc (own := [("pair", 5)]) rfl sc_law_spoils_hold.nd (pdi_walk (pd_sl sl_U sdU (pd_var 1) pdo_none (pdo_some (pd_var 2)))) (blkOk_by (own := [("pair", 5)]) (N := ["box", "found", "many", "ahead", "row", "pair"]) (sc := defScope s_law_spoils_hold) (by decide +kernel)) (fun _ _ _ _ _ => pgc_name (i := 5) sc_law_spoils_hold.nd rfl (Or.inl rfl)) (fun _ _ _ _ _ => pqs_nil) (fun _ _ _ _ _ => pd_ix ix_U odIxU (pd_var 5) pd_int (fun _ _ => rfl)))) (pda_cons (pd_bt (pe_callB call_len (by rfl) T.z_len (by decide +kernel) (pda_cons (pd_var 3) pda_nil)) cdLen) pda_nil)))))))), fun _ _ _ _ hF => hF⟩
@[irreducible] def F_law_spoils_hold (T : Tx K mg) : Fd := Fr_law_spoils_hold T
theorem ok_law_spoils_hold (T : Tx K mg) : FnOk P w K mg base (L2.CX P w) 5 T.law_spoils_hold T.law_spoils_hold_fd ["box", "found"] (spP K 2 (F_law_spoils_hold T)) := by
  unfold F_law_spoils_hold
  exact okr_law_spoils_hold T
def Fr_law_any_hold (T : Tx K mg) : Fd := fun as Pr Re => (wSeq (wSetS 2 (wSl_ (wSlL (wCall 1 (F_law_flat T) (wCons (wVar 1) wNil)) wNoP (wPart (wC (.int 300))))))
      (wSeq (wFor (wRng1 (wCons (wOp φAdd (wC (.int 1)) (wCall 2 (F_law_take T) (wCons (wVar 0) (wCons (wC (.int 3)) wNil)))) wNil)) (sName 3) (wSeq (wSetS 4 (wSv (wCall 2 (F_law_take T) (wCons (wVar 0) (wCons (wC (.int 4)) wNil)))))
      (wSeq (wSetS 5 (wSv (wCall 2 (F_law_take T) (wCons (wVar 0) (wCons (wOp φAdd (wLend 2 (wBt φLen (wCons (wVar 2) wNil))) (wC (.int 1))) wNil)))))
      (wSeq (wIfS (wLendQ 2 (wAnd (wOpB (φEqU false) (wVar 4) (wC (.int 0))) (wOpB φLtU (wVar 5) (wBt φLen (wCons (wVar 2) wNil))))) (wPut 2 (wCall 2 (F_law_take T) (wCons (wVar 0) (wCons (wC (.int 256)) wNil))) (wVar 5)) wNext)
      (wSeq (wIfS (wOpB (φEqU false) (wVar 4) (wC (.int 1))) (wSetS 2 (wSl_ (wLendL 2 (wOpL φCatL (wOp φAdd (wSl φSlU (wVar 2) wNoP (wPart (wVar 5))) (wLV (wLst (wCons (wCall 2 (F_law_pick T) (wCons (wVar 0) (wCons (wLV (wLst (wCons (wC (.int 0)) (wCons (wC (.int 1)) (wCons (wC (.int 127)) (wCons (wC (.int 128)) (wCons (wC (.int 255)) wNil))))))) wNil))) wNil)))) (wSl φSlU (wVar 2) (wPart (wVar 5)) wNoP))))) wNext)
      (wSeq (wIfS (wOpB (φEqU false) (wVar 4) (wC (.int 2))) (wExt 2 (wOp φMul (wLV (wLst (wCons (wC (.int 0)) wNil))) (wCall 2 (F_law_take T) (wCons (wVar 0) (wCons (wC (.int 8)) wNil))))) wNext)
      (wIfS (wOpB (φEqU false) (wVar 4) (wC (.int 3))) (wSetS 2 (wSl_ (wLendL 2 (wOpL φCatL (wSl φSlU (wVar 2) wNoP (wPart (wVar 5))) (wSl φSlU (wVar 2) (wPart (wOp φAdd (wVar 5) (wC (.int 1)))) wNoP))))) wNext)))))))
      (wLet 2 (wSeq (wAsg (wCall 1 (F_law_read T) (wCons (wVar 2) wNil)) (sTup 2 (sCons (sName 6) (sCons (sName 7) sNil))))
      (wRet (wCall 3 (F_law_is_told T) (wCons (wCallK 1 1 [0] (F_frames T) (wCons (wBt φTuple (wCons (wVar 2) wNil)) wNil)) (wCons (wVar 6) (wCons (wVar 7) wNil))))))))) (startE 8 as) (fin Pr Re)
theorem okr_law_any_hold (T : Tx K mg) : FnOk P w K mg base (L2.CX P w) 5 T.law_any_hold T.law_any_hold_fd ["box", "found"] (spP K 2 (Fr_law_any_hold T)) :=
  okP T.law_any_hold_F sc_law_any_hold rfl fun cdv A outer s H E B hr => ⟨_, pdss_cons (pds_setS (i := 2) sc_law_any_hold.nd rfl (Or.inl rfl) (psl_l (pl_sl (pd_call (ok_law_flat T) (hr.mono (by omega)) (by rfl) T.law_flat_m T.law_flat_F.kp T.law_flat_b (takes_of rfl rfl rfl rfl) (pda_cons (pd_var 1) pda_nil)) pdo_none (pdo_some pd_int))))
      (pdss_cons (pds_for (passes_of rfl) rfl (pdi_range1 (by rfl) T.z_range (pda_cons (pd_op op_addU odAddU pd_int (pd_call (ok_law_take T) (hr.mono (by omega)) (by rfl) T.law_take_m T.law_take_F.kp T.law_take_b (takes_of rfl rfl rfl rfl) (pda_cons (pd_var 0) (pda_cons pd_int pda_nil)))) pda_nil)) (pgd_name (i := 3) sc_law_any_hold.nd rfl (Or.inl rfl)) (pdss_cons (pds_setS (i := 4) sc_law_any_hold.nd rfl (Or.inl rfl) (psl_v (pd_call (ok_law_take T) (hr.mono (by omega)) (by rfl) T.law_take_m T.law_take_F.kp T.law_take_b (takes_of rfl rfl rfl rfl) (pda_cons (pd_var 0) (pda_cons pd_int pda_nil)))))
      (pdss_cons (pds_setS (i := 5) sc_law_any_hold.nd rfl (Or.inl rfl) (psl_v (pd_call (ok_law_take T) (hr.mono (by omega)) (by rfl) T.law_take_m T.law_take_F.kp T.law_take_b (takes_of rfl rfl rfl rfl) (pda_cons (pd_var 0) (pda_cons (pd_op op_addU odAddU (pd_lend 2 (pd_bt (pe_callB call_len (by rfl) T.z_len (by decide +kernel) (pda_cons (pd_var 2) pda_nil)) cdLen)) pd_int) pda_nil)))))
      (pdss_cons (pds_if (pq_lend 2 (pqw_pt (pqw_and (pq_cmp (op_eqU hr.units) odEqU (pd_var 4) pd_int (nomark _)) (pqw_and1 (pq_cmp (op_ltU hr.units) odOrd (pd_var 5) (pd_bt (pe_callB call_len (by rfl) T.z_len (by decide +kernel) (pda_cons (pd_var 2) pda_nil)) cdLen) (nomark _)))))) (pdss_one (pds_put (ps_asg (pd_call (ok_law_take T) (hr.mono (by omega)) (by rfl) T.law_take_m T.law_take_F.kp T.law_take_b (takes_of rfl rfl rfl rfl) (pda_cons (pd_var 0) (pda_cons pd_int pda_nil))) (pg_sub (pv 2) (pd_var 5) set_list)))) pdss_nil)
      (pdss_cons (pds_if (pq_cmp (op_eqU hr.units) odEqU (pd_var 4) pd_int (nomark _)) (pdss_one (pds_setS (i := 2) sc_law_any_hold.nd rfl (Or.inl rfl) (psl_l (pl_lend 2 (pl_cat (pd_op op_addU odAddU (pd_sl sl_U sdU (pd_var 2) pdo_none (pdo_some (pd_var 5))) (pd_of_pl (pl_lst (pda_cons (pd_call (ok_law_pick T) (hr.mono (by omega)) (by rfl) T.law_pick_m T.law_pick_F.kp T.law_pick_b (takes_of rfl rfl rfl rfl) (pda_cons (pd_var 0) (pda_cons (pd_of_pl (pl_lst (pda_cons pd_int (pda_cons pd_int (pda_cons pd_int (pda_cons pd_int (pda_cons pd_int pda_nil))))))) pda_nil))) pda_nil)))) (pd_sl sl_U sdU (pd_var 2) (pdo_some (pd_var 5)) pdo_none)))))) pdss_nil)
      (pdss_cons (pds_if (pq_cmp (op_eqU hr.units) odEqU (pd_var 4) pd_int (nomark _)) (pdss_one (pds_extend (ps_expr (pe_bm PySem.F.plainAttrs_list PySem.F.slot_list_extend PySem.F.type_list_extend mt_extend (pv 2) (pa_cons (pd_op op_mulU odMulU (pd_of_pl (pl_lst (pda_cons pd_int pda_nil))) (pd_call (ok_law_take T) (hr.mono (by omega)) (by rfl) T.law_take_m T.law_take_F.kp T.law_take_b (takes_of rfl rfl rfl rfl) (pda_cons (pd_var 0) (pda_cons pd_int pda_nil)))) pa_nil)) (by rfl)))) pdss_nil)
      (pdss_one (pds_if (pq_cmp (op_eqU hr.units) odEqU (pd_var 4) pd_int (nomark _)) (pdss_one (pds_setS (i := 2) sc_law_any_hold.nd rfl (Or.inl rfl) (psl_l (pl_lend 2 (pl_cat (pd_sl sl_U sdU (pd_var 2) pdo_none (pdo_some (pd_var 5))) (pd_sl sl_U sdU (pd_var 2) (pdo_some (pd_op op_addU odAddU (pd_var 5) pd_int)) pdo_none)))))) pdss_nil))))))))
      (pdss_let 2 (pdss_cons (pds_asg (pd_call (ok_law_read T) (hr.mono (by omega)) (by rfl) T.law_read_m T.law_read_F.kp T.law_read_b (takes_of rfl rfl rfl rfl) (pda_cons (pd_var 2) pda_nil)) (pgd_tup rfl (pgds_cons (pgd_name (i := 6) sc_law_any_hold.nd rfl (Or.inl rfl)) (pgds_cons (pgd_name (i := 7) sc_law_any_hold.nd rfl (Or.inl rfl)) pgds_nil))))
      (pdss_one (pds_ret (pd_call (ok_law_is_told T) (hr.mono (by omega)) (by rfl) T.law_is_told_m T.law_is_told_F.kp T.law_is_told_b (takes_of rfl rfl rfl rfl) (pda_cons (pd_callK (ks := ["octets"]) (is := [0]) (ok_frames T) (hr.mono (by omega)) (by rfl) T.frames_m T.frames_F.kp (kb_frames_octets T.frames_F) (takes_of rfl rfl rfl rfl) (pdk_cons (pd_bt (pe_callTy call_tuple_of (by rfl) T.z_tuple (by decide +kernel) (pda_cons (pd_var 2) pda_nil)) cdTuple) pdk_nil)) (pda_cons (pd_var 6) (pda_cons (pd_var 7) pda_nil))))))))), fun _ _ _ _ hF => hF⟩
@[irreducible] def F_law_any_hold (T : Tx K mg) : Fd := Fr_law_any_hold T
theorem ok_law_any_hold (T : Tx K mg) : FnOk P w K mg base (L2.CX P w) 5 T.law_any_hold T.law_any_hold_fd ["box", "found"] (spP K 2 (F_law_any_hold T)) := by
  unfold F_law_any_hold
  exact okr_law_any_hold T
def Fr_law_great_holds (T : Tx K mg) : Fd := fun as Pr Re => (wSeq (wSetS 1 (wSv (wCall 2 (F_law_take T) (wCons (wVar 0) (wCons (wC (.int 6)) wNil)))))
      (wSeq (wIfS (wOpB φGtU (wVar 1) (wC (.int 1))) (wRet (wC (.bl true))) wNext)
      (wSeq (wSetL 3 (wComp [2] (wRng1 (wCons (wOp φAdd (wC (.int 1)) (wCall 2 (F_law_take T) (wCons (wVar 0) (wCons (wC (.int 9)) wNil)))) wNil)) (sName 2) wYes (wCall 2 (F_law_take T) (wCons (wVar 0) (wCons (wC (.int 256)) wNil)))))
      (wLet 3 (wSeq (wIfS (wOpB (φEqU false) (wVar 1) (wC (.int 0))) (wSeq (wSetS 4 (wSl_ (wCallN 2 (F_law_framed T) (wCons (wVar 3) (wCons (wCall 1 (F_law_sum T) (wCons (wVar 3) wNil)) wNil)))))
      (wSeq (wSetS 5 (wSv (wOp φSub (wOp φSub (wOp φFdv (wC (.int 60000)) (wLend 4 (wBt φLen (wCons (wVar 4) wNil)))) (wC (.int 1))) (wCall 2 (F_law_take T) (wCons (wVar 0) (wCons (wC (.int 3)) wNil))))))
      (wLet 4 (wSeq (wSetS 6 (wSv (wCall 1 (F_frames T) (wCons (wBt φTuple (wCons (wOp φAdd (wOp φMul (wVar 4) (wVar 5)) (wSl φSlU (wVar 4) wNoP (wPart (wOp φSub (wBt φLen (wCons (wVar 4) wNil)) (wC (.int 1)))))) wNil)) wNil))))
      (wSeq (wIfS (wOr (wNot (wTru (wIsi .tuple T.objs (wVar 6)))) (wOr (wOpB (φEqU true) (wBt φLen (wCons (wVar 6) wNil)) (wC (.int 2))) (wOr (wNot (wTru (wIsi .tuple T.objs (wOp φIxU (wVar 6) (wC (.int 0)))))) (wOpB (φEqU true) (wBt φLen (wCons (wOp φIxU (wVar 6) (wC (.int 0))) wNil)) (wVar 5))))) (wRet (wC (.bl false))) wNext)
      (wSeq (wFor (wWalk (wLV (wLst (wCons (wC (.int 0)) (wCons (wC (.int 1)) (wCons (wOp φSub (wVar 5) (wC (.int 1))) (wCons (wOp φFdv (wVar 5) (wC (.int 2))) (wCons (wCall 2 (F_law_take T) (wCons (wVar 0) (wCons (wVar 5) wNil))) wNil)))))))) (sName 2) (wIfS (wNot (wTru (wCall 2 (F_law_is_row T) (wCons (wOp φIxU (wOp φIxU (wVar 6) (wC (.int 0))) (wVar 2)) (wCons (wVar 3) wNil))))) (wRet (wC (.bl false))) wNext))
      (wRet (wCall 2 (F_law_is_row T) (wCons (wTup (wCons (wOp φIxU (wVar 6) (wC (.int 1))) wNil)) (wCons (wLV (wLst (wCons (wOp φMul (wVar 5) (wBt φLen (wCons (wVar 4) wNil))) wNil))) wNil)))))))))) wNext)
      (wSeq (wSetS 5 (wSv (wOp φFdv (wOp φAdd (wC (.int 16380)) (wCall 2 (F_law_take T) (wCons (wVar 0) (wCons (wC (.int 3000)) wNil)))) (wBt φLen (wCons (wVar 3) wNil)))))
      (wSeq (wSetS 4 (wSl_ (wCallN 2 (F_law_framed T) (wCons (wOp φMul (wVar 3) (wVar 5)) (wCons (wCall 2 (F_law_block_sum T) (wCons (wVar 3) (wCons (wVar 5) wNil))) wNil)))))
      (wSeq (wIfS (wLendQ 4 (wNot (wTru (wCall 3 (F_law_is_told T) (wCons (wCall 1 (F_frames T) (wCons (wBt φTuple (wCons (wOp φAdd (wVar 4) (wSl φSlU (wVar 4) wNoP (wPart (wC (.int 100))))) wNil)) wNil)) (wCons (wLV (wLst (wCons (wOp φMul (wVar 3) (wVar 5)) wNil))) (wCons (wBt φLen (wCons (wVar 4) wNil)) wNil))))))) (wRet (wC (.bl false))) wNext)
      (wSeq (wIfS (wNot (wTru (wCall 2 (F_law_is_row T) (wCons (wTup (wCons (wCall 1 (F_sum_of_octets T) (wCons (wBt φTuple (wCons (wOp φMul (wVar 3) (wVar 5)) wNil)) wNil)) wNil)) (wCons (wLV (wLst (wCons (wCall 2 (F_law_block_sum T) (wCons (wVar 3) (wCons (wVar 5) wNil))) wNil))) wNil))))) (wRet (wC (.bl false))) wNext)
      (wSeq (wSetS 7 (wSv (wOp φSub (wOp φSub (wLend 4 (wBt φLen (wCons (wVar 4) wNil))) (wC (.int 3))) (wCall 2 (F_law_take T) (wCons (wVar 0) (wCons (wC (.int 16000)) wNil))))))
      (wSeq (wPut 4 (wOp φMod (wBt φInt (wCons (wOp φAdd (wOp φAdd (wLend 4 (wOp φIxU (wVar 4) (wVar 7))) (wC (.int 1))) (wCall 2 (F_law_take T) (wCons (wVar 0) (wCons (wC (.int 255)) wNil)))) wNil)) (wC (.int 256))) (wVar 7))
      (wLet 4 (wRet (wCall 3 (F_law_is_told T) (wCons (wCall 1 (F_frames T) (wCons (wBt φTuple (wCons (wVar 4) wNil)) wNil)) (wCons (wLV (wLst wNil)) (wCons (wC (.int 0)) wNil))))))))))))))))) (startE 8 as) (fin Pr Re)
theorem okr_law_great_holds (T : Tx K mg) : FnOk P w K mg base (L2.CX P w) 5 T.law_great_holds T.law_great_holds_fd ["box"] (spP K 1 (Fr_law_great_holds T)) :=
  okP T.law_great_holds_F sc_law_great_holds rfl fun cdv A outer s H E B hr => ⟨_, pdss_cons (pds_setS (i := 1) sc_law_great_holds.nd rfl (Or.inl rfl) (psl_v (pd_call (ok_law_take T) (hr.mono (by omega)) (by rfl) T.law_take_m T.law_take_F.kp T.law_take_b (takes_of rfl rfl rfl rfl) (pda_cons (pd_var 0) (pda_cons pd_int pda_nil)))))
      (pdss_cons (pds_if (pq_cmp (op_gtU hr.units) odOrd (pd_var 1) pd_int (nomark _)) (pdss_one (pds_ret pd_bl)) pdss_nil)
      (pdss_cons (pds_setLc (own := [("k", 2)]) (i := 3) rfl sc_law_great_holds.nd rfl rfl (sw_true rfl rfl rfl (by decide +kernel)) (pdi_range1 (by rfl) T.z_range (pda_cons (pd_op op_addU odAddU pd_int (pd_call (ok_law_take T) (hr.mono (by omega)) (by rfl) T.law_take_m T.law_take_F.kp T.law_take_b (takes_of rfl rfl rfl rfl) (pda_cons (pd_var 0) (pda_cons pd_int pda_nil)))) pda_nil)) (blkOk_by (own := [("k", 2)]) (N := ["box", "kind", "k", "block", "due", "many", "told", "place"]) (sc := defScope s_law_great_holds) (by decide +kernel)) (fun _ _ _ _ _ => pgc_name (i := 2) sc_law_great_holds.nd rfl (Or.inl rfl)) (fun _ _ _ _ _ => pqs_nil) (fun _ _ _ _ _ => pd_call (ok_law_take T) (hr.mono (by omega)) (by rfl) T.law_take_m T.law_take_F.kp T.law_take_b takes0 (pda_cons (pd_var 0) (pda_cons pd_int pda_nil))))
      (pdss_let 3 (pdss_cons (pds_if (pq_cmp (op_eqU hr.units) odEqU (pd_var 1) pd_int (nomark _)) (pdss_cons (pds_setS (i := 4) sc_law_great_holds.nd rfl (Or.inl rfl) (psl_l (pl_call (ok_law_framed T) (hr.mono (by omega)) (by rfl) T.law_framed_m T.law_framed_F.kp T.law_framed_b (takes_of rfl rfl rfl rfl) (pda_cons (pd_var 3) (pda_cons (pd_call (ok_law_sum T) (hr.mono (by omega)) (by rfl) T.law_sum_m T.law_sum_F.kp T.law_sum_b (takes_of rfl rfl rfl rfl) (pda_cons (pd_var 3) pda_nil)) pda_nil)))))
      (pdss_cons (pds_setS (i := 5) sc_law_great_holds.nd rfl (Or.inl rfl) (psl_v (pd_op op_sub odSubU (pd_op op_sub odSubU (pd_op op_fdivG odFdvU pd_int (pd_lend 4 (pd_bt (pe_callB call_len (by rfl) T.z_len (by decide +kernel) (pda_cons (pd_var 4) pda_nil)) cdLen))) pd_int) (pd_call (ok_law_take T) (hr.mono (by omega)) (by rfl) T.law_take_m T.law_take_F.kp T.law_take_b (takes_of rfl rfl rfl rfl) (pda_cons (pd_var 0) (pda_cons pd_int pda_nil))))))
      (pdss_let 4 (pdss_cons (pds_setS (i := 6) sc_law_great_holds.nd rfl (Or.inl rfl) (psl_v (pd_call (ok_frames T) (hr.mono (by omega)) (by rfl) T.frames_m T.frames_F.kp T.frames_b (takes_of rfl rfl rfl rfl) (pda_cons (pd_bt (pe_callTy call_tuple_of (by rfl) T.z_tuple (by decide +kernel) (pda_cons (pd_op op_addU odAddU (pd_op op_mulU odMulU (pd_var 4) (pd_var 5)) (pd_sl sl_U sdU (pd_var 4) pdo_none (pdo_some (pd_op op_sub odSubU (pd_bt (pe_callB call_len (by rfl) T.z_len (by decide +kernel) (pda_cons (pd_var 4) pda_nil)) cdLen) pd_int)))) pda_nil)) cdTuple) pda_nil))))
      (pdss_cons (pds_if (pqw_pt (pqw_or (pq_not (pq_tru (pd_isi (k := .tuple) T.objs_isi (by rfl) T.z_isinstance (by decide +kernel) (pd_var 6) (pe_bltn (v := .ty "tuple") (by rfl) T.z_tuple boot_tuple rfl)))) (pqw_or (pq_cmp (op_neU hr.units) odNeU (pd_bt (pe_callB call_len (by rfl) T.z_len (by decide +kernel) (pda_cons (pd_var 6) pda_nil)) cdLen) pd_int (nomark _)) (pqw_or (pq_not (pq_tru (pd_isi (k := .tuple) T.objs_isi (by rfl) T.z_isinstance (by decide +kernel) (pd_ix ix_U odIxU (pd_var 6) pd_int (fun _ _ => rfl)) (pe_bltn (v := .ty "tuple") (by rfl) T.z_tuple boot_tuple rfl)))) (pqw_or1 (pq_cmp (op_neU hr.units) odNeU (pd_bt (pe_callB call_len (by rfl) T.z_len (by decide +kernel) (pda_cons (pd_ix ix_U odIxU (pd_var 6) pd_int (fun _ _ => rfl)) pda_nil)) cdLen) (pd_var 5) (nomark _))))))) (pdss_one (pds_ret pd_bl)) pdss_nil)
      (pdss_cons (pds_for (passes_of rfl) rfl (pdi_walk (pd_of_pl (pl_lst (pda_cons pd_int (pda_cons pd_int (pda_cons (pd_op op_sub odSubU (pd_var 5) pd_int) (pda_cons (pd_op op_fdivG odFdvU (pd_var 5) pd_int) (pda_cons (pd_call (ok_law_take T) (hr.mono (by omega)) (by rfl) T.law_take_m T.law_take_F.kp T.law_take_b (takes_of rfl rfl rfl rfl) (pda_cons (pd_var 0) (pda_cons (pd_var 5) pda_nil))) pda_nil)))))))) (pgd_name (i := 2) sc_law_great_holds.nd rfl (Or.inl rfl)) (pdss_one (pds_if (pq_not (pq_tru (pd_call (ok_law_is_row T) (hr.mono (by omega)) (by rfl) T.law_is_row_m T.law_is_row_F.kp T.law_is_row_b (takes_of rfl rfl rfl rfl) (pda_cons (pd_ix ix_U odIxU (pd_ix ix_U odIxU (pd_var 6) pd_int (fun _ _ => rfl)) (pd_var 2) (fun _ _ => rfl)) (pda_cons (pd_var 3) pda_nil))))) (pdss_one (pds_ret pd_bl)) pdss_nil)))
      (pdss_one (pds_ret (pd_call (ok_law_is_row T) (hr.mono (by omega)) (by rfl) T.law_is_row_m T.law_is_row_F.kp T.law_is_row_b (takes_of rfl rfl rfl rfl) (pda_cons (pd_tup (pda_cons (pd_ix ix_U odIxU (pd_var 6) pd_int (fun _ _ => rfl)) pda_nil)) (pda_cons (pd_of_pl (pl_lst (pda_cons (pd_op op_mulU odMulU (pd_var 5) (pd_bt (pe_callB call_len (by rfl) T.z_len (by decide +kernel) (pda_cons (pd_var 4) pda_nil)) cdLen)) pda_nil))) pda_nil))))))))))) pdss_nil)
      (pdss_cons (pds_setS (i := 5) sc_law_great_holds.nd rfl (Or.inl rfl) (psl_v (pd_op op_fdivG odFdvU (pd_op op_addU odAddU pd_int (pd_call (ok_law_take T) (hr.mono (by omega)) (by rfl) T.law_take_m T.law_take_F.kp T.law_take_b (takes_of rfl rfl rfl rfl) (pda_cons (pd_var 0) (pda_cons pd_int pda_nil)))) (pd_bt (pe_callB call_len (by rfl) T.z_len (by decide +kernel) (pda_cons (pd_var 3) pda_nil)) cdLen))))
      (pdss_cons (pds_setS (i := 4) sc_law_great_holds.nd rfl (Or.inl rfl) (psl_l (pl_call (ok_law_framed T) (hr.mono (by omega)) (by rfl) T.law_framed_m T.law_framed_F.kp T.law_framed_b (takes_of rfl rfl rfl rfl) (pda_cons (pd_op op_mulU odMulU (pd_var 3) (pd_var 5)) (pda_cons (pd_call (ok_law_block_sum T) (hr.mono (by omega)) (by rfl) T.law_block_sum_m T.law_block_sum_F.kp T.law_block_sum_b (takes_of rfl rfl rfl rfl) (pda_cons (pd_var 3) (pda_cons (pd_var 5) pda_nil))) pda_nil)))))
      (pdss_cons (pds_if (pq_lend 4 (pq_not (pq_tru (pd_call (ok_law_is_told T) (hr.mono (by omega)) (by rfl) T.law_is_told_m T.law_is_told_F.kp T.law_is_told_b (takes_of rfl rfl rfl rfl) (pda_cons (pd_call (ok_frames T) (hr.mono (by omega)) (by rfl) T.frames_m T.frames_F.kp T.frames_b (takes_of rfl rfl rfl rfl) (pda_cons (pd_bt (pe_callTy call_tuple_of (by rfl) T.z_tuple (by decide +kernel) (pda_cons (pd_op op_addU odAddU (pd_var 4) (pd_sl sl_U sdU (pd_var 4) pdo_none (pdo_some pd_int))) pda_nil)) cdTuple) pda_nil)) (pda_cons (pd_of_pl (pl_lst (pda_cons (pd_op op_mulU odMulU (pd_var 3) (pd_var 5)) pda_nil))) (pda_cons (pd_bt (pe_callB call_len (by rfl) T.z_len (by decide +kernel) (pda_cons (pd_var 4) pda_nil)) cdLen) pda_nil))))))) (pdss_one (pds_ret pd_bl)) pdss_nil)
      (pdss_cons (pds_if (pq_not (pq_tru (pd_call (ok_law_is_row T) (hr.mono (by omega)) (by rfl) T.law_is_row_m T.law_is_row_F.kp T.law_is_row_b (takes_of rfl rfl rfl rfl) (pda_cons (pd_tup (pda_cons (pd_call (ok_sum_of_octets T) (hr.mono (by omega)) (by rfl) T.sum_of_octets_m T.sum_of_octets_F.kp T.sum_of_octets_b (takes_of rfl rfl rfl rfl) (pda_cons (pd_bt (pe_callTy call_tuple_of (by rfl) T.z_tuple (by decide +kernel) (pda_cons (pd_op op_mulU odMulU (pd_var 3) (pd_var 5)) pda_nil)) cdTuple) pda_nil)) pda_nil)) (pda_cons (pd_of_pl (pl_lst (pda_cons (pd_call (ok_law_block_sum T) (hr.mono (by omega)) (by rfl) T.law_block_sum_m T.law_block_sum_F.kp T.law_block_sum_b (takes_of rfl rfl rfl rfl) (pda_cons (pd_var 3) (pda_cons (pd_var 5) pda_nil))) pda_nil))) pda_nil))))) (pdss_one (pds_ret pd_bl)) pdss_nil)
      (pdss_cons (pds_setS (i := 7) sc_law_great_holds.nd rfl (Or.inl rfl) (psl_v (pd_op op_sub odSubU (pd_op op_sub odSubU (pd_lend 4 (pd_bt (pe_callB call_len (by rfl) T.z_len (by decide +kernel) (pda_cons (pd_var 4) pda_nil)) cdLen)) pd_int) (pd_call (ok_law_take T) (hr.mono (by omega)) (by rfl) T.law_take_m T.law_take_F.kp T.law_take_b (takes_of rfl rfl rfl rfl) (pda_cons (pd_var 0) (pda_cons pd_int pda_nil))))))
      (pdss_cons (pds_put (ps_asg (pd_op op_modN odModU (pd_bt (pe_callTy call_int1 (by rfl) T.z_int (by decide +kernel) (pda_cons (pd_op op_addU odAddU (pd_op op_addU odAddU (pd_lend 4 (pd_ix ix_U odIxU (pd_var 4) (pd_var 7) (fun _ _ => rfl))) pd_int) (pd_call (ok_law_take T) (hr.mono (by omega)) (by rfl) T.law_take_m T.law_take_F.kp T.law_take_b (takes_of rfl rfl rfl rfl) (pda_cons (pd_var 0) (pda_cons pd_int pda_nil)))) pda_nil)) cdInt) pd_int) (pg_sub (pv 4) (pd_var 7) set_list)))
      (pdss_let 4 (pdss_one (pds_ret (pd_call (ok_law_is_told T) (hr.mono (by omega)) (by rfl) T.law_is_told_m T.law_is_told_F.kp T.law_is_told_b (takes_of rfl rfl rfl rfl) (pda_cons (pd_call (ok_frames T) (hr.mono (by omega)) (by rfl) T.frames_m T.frames_F.kp T.frames_b (takes_of rfl rfl rfl rfl) (pda_cons (pd_bt (pe_callTy call_tuple_of (by rfl) T.z_tuple (by decide +kernel) (pda_cons (pd_var 4) pda_nil)) cdTuple) pda_nil)) (pda_cons (pd_of_pl (pl_lst pda_nil)) (pda_cons pd_int pda_nil))))))))))))))))), fun _ _ _ _ hF => hF⟩
@[irreducible] def F_law_great_holds (T : Tx K mg) : Fd := Fr_law_great_holds T
theorem ok_law_great_holds (T : Tx K mg) : FnOk P w K mg base (L2.CX P w) 5 T.law_great_holds T.law_great_holds_fd ["box"] (spP K 1 (F_law_great_holds T)) := by
  unfold F_law_great_holds
  exact okr_law_great_holds T
def Fr_law (T : Tx K mg) : Fd := fun as Pr Re => (wSeq (wFor (wRng1 (wCons (wC (.int 3)) wNil)) (sName 1) (wSeq (wSetS 2 (wSv (wCall 2 (F_law_box T) (wCons (wVar 0) (wCons (wVar 1) wNil)))))
      (wSeq (wSetS 3 (wSv (wCall 2 (F_law_row T) (wCons (wVar 2) (wCons (wOp (φEqU false) (wVar 1) (wC (.int 0))) wNil)))))
      (wSeq (wIfS (wOr (wNot (wTru (wCall 1 (F_law_frames_hold T) (wCons (wVar 3) wNil)))) (wOr (wNot (wTru (wCall 2 (F_law_cuts_hold T) (wCons (wVar 2) (wCons (wVar 3) wNil))))) (wNot (wTru (wCall 2 (F_law_spoils_hold T) (wCons (wVar 2) (wCons (wVar 3) wNil))))))) (wRet (wC (.bl false))) wNext)
      (wIfS (wOr (wNot (wTru (wCall 2 (F_law_any_hold T) (wCons (wVar 2) (wCons (wVar 3) wNil))))) (wAnd (wOpB (φEqU false) (wVar 1) (wC (.int 1))) (wNot (wTru (wCall 1 (F_law_great_holds T) (wCons (wVar 2) wNil)))))) (wRet (wC (.bl false))) wNext)))))
      (wRet (wC (.bl true)))) (startE 4 as) (fin Pr Re)
theorem okr_law (T : Tx K mg) : FnOk P w K mg base (L2.CX P w) 6 T.law T.law_fd ["script"] (spP K 1 (Fr_law T)) :=
  okP T.law_F sc_law rfl fun cdv A outer s H E B hr => ⟨_, pdss_cons (pds_for (passes_of rfl) rfl (pdi_range1 (by rfl) T.z_range (pda_cons pd_int pda_nil)) (pgd_name (i := 1) sc_law.nd rfl (Or.inl rfl)) (pdss_cons (pds_setS (i := 2) sc_law.nd rfl (Or.inl rfl) (psl_v (pd_call (ok_law_box T) (hr.mono (by omega)) (by rfl) T.law_box_m T.law_box_F.kp T.law_box_b (takes_of rfl rfl rfl rfl) (pda_cons (pd_var 0) (pda_cons (pd_var 1) pda_nil)))))
      (pdss_cons (pds_setS (i := 3) sc_law.nd rfl (Or.inl rfl) (psl_v (pd_call (ok_law_row T) (hr.mono (by omega)) (by rfl) T.law_row_m T.law_row_F.kp T.law_row_b (takes_of rfl rfl rfl rfl) (pda_cons (pd_var 2) (pda_cons (pd_cmp (op_eqU hr.units) odEqU (pd_var 1) pd_int (nomark _)) pda_nil)))))
      (pdss_cons (pds_if (pqw_pt (pqw_or (pq_not (pq_tru (pd_call (ok_law_frames_hold T) (hr.mono (by omega)) (by rfl) T.law_frames_hold_m T.law_frames_hold_F.kp T.law_frames_hold_b (takes_of rfl rfl rfl rfl) (pda_cons (pd_var 3) pda_nil)))) (pqw_or (pq_not (pq_tru (pd_call (ok_law_cuts_hold T) (hr.mono (by omega)) (by rfl) T.law_cuts_hold_m T.law_cuts_hold_F.kp T.law_cuts_hold_b (takes_of rfl rfl rfl rfl) (pda_cons (pd_var 2) (pda_cons (pd_var 3) pda_nil))))) (pqw_or1 (pq_not (pq_tru (pd_call (ok_law_spoils_hold T) (hr.mono (by omega)) (by rfl) T.law_spoils_hold_m T.law_spoils_hold_F.kp T.law_spoils_hold_b (takes_of rfl rfl rfl rfl) (pda_cons (pd_var 2) (pda_cons (pd_var 3) pda_nil))))))))) (pdss_one (pds_ret pd_bl)) pdss_nil)
      (pdss_one (pds_if (pqw_pt (pqw_or (pq_not (pq_tru (pd_call (ok_law_any_hold T) (hr.mono (by omega)) (by rfl) T.law_any_hold_m T.law_any_hold_F.kp T.law_any_hold_b (takes_of rfl rfl rfl rfl) (pda_cons (pd_var 2) (pda_cons (pd_var 3) pda_nil))))) (pqw_or1 (pqw_pt (pqw_and (pq_cmp (op_eqU hr.units) odEqU (pd_var 1) pd_int (nomark _)) (pqw_and1 (pq_not (pq_tru (pd_call (ok_law_great_holds T) (hr.mono (by omega)) (by rfl) T.law_great_holds_m T.law_great_holds_F.kp T.law_great_holds_b (takes_of rfl rfl rfl rfl) (pda_cons (pd_var 2) pda_nil)))))))))) (pdss_one (pds_ret pd_bl)) pdss_nil))))))
      (pdss_one (pds_ret pd_bl)), fun _ _ _ _ hF => hF⟩
@[irreducible] def F_law (T : Tx K mg) : Fd := Fr_law T
theorem ok_law (T : Tx K mg) : FnOk P w K mg base (L2.CX P w) 6 T.law T.law_fd ["script"] (spP K 1 (F_law T)) := by
  unfold F_law
  exact okr_law T
end
end K86
set_option maxRecDepth 100000
set_option maxHeartbeats 4000000
namespace K86
open PySem PySem.Spec PyProof.Rows L2 Pre Pd M85
section
variable {P : Program} {w : World} {K : PySem.W.Frag} {mg : Str → Option Value} {base : Heap} (T : Tx K mg) {Q : D → Prop} {R : Err → Prop}
theorem take_s {many : Int} (h1 : 1 ≤ many) (h2 : many ≤ 10 ^ 18) (q : ∀ r : Nat, (r : Int) < many → Q (.int r)) : F_law_take T [dBox, .int many] Q R := by
  unfold F_law_take
  refine ⟨rfl, h1, h2, fun r r0 r1 => ?_⟩
  obtain ⟨n, rfl⟩ := Int.eq_ofNat_of_zero_le r0
  exact q n r1
theorem ne0 : (2147483587 : Int) ≠ 0 := by decide
theorem box_s {ns : List Int} (hl : ns.length ≤ 63) {k : Nat} (hk : k ≤ 100) (q : Q dBox) : F_law_box T [.frz (ns.map D.int), .int k] Q R := by
  unfold F_law_box Fr_law_box
  have key : ∀ c : Int, 0 ≤ c → (wRet (wHid BoxP (wLst (wCons (wOp φIxU (wLV (wLst (wCons (wC (.int 0)) (wCons (wVar 2) wNil)))) (wBt φInt (wCons (wOp φGeU (wVar 2) (wOp φPow (wC (.int 10)) (wC (.int 18)))) wNil))) (wCons (wOp φAdd (wOp φMod (wBt φInt (wCons (wOp φAdd (wOp φMul (wOp φMod (wBt φInt (wCons (wVar 2) wNil)) (wC (.int 2147483587))) (wC (.int 45007))) (wOp φMul (wC (.int 51449)) (wVar 1))) wNil)) (wC (.int 2147483587))) (wC (.int 1))) (wCons (wC (.int 0)) wNil))))))
      [.v (.frz (ns.map D.int)), .v (.int k), .v (.int c)] (fin Q R) := by
    intro c c0
    refine ⟨small 2, ⟨by decide, by decide, by decide⟩, ?_⟩
    have m1 : (c.fmod 2147483587).natAbs < 2 ^ 40 := by
      have h1 := Int.fmod_nonneg_of_pos c (show (0 : Int) < 2147483587 by decide)
      have h2 := Int.fmod_lt_of_pos c (show (0 : Int) < 2147483587 by decide)
      omega
    have fin2 : ∀ d : Int, 0 ≤ d → (wHid BoxP (wLst (wCons (wC (.int d)) (wCons (wOp φAdd (wOp φMod (wBt φInt (wCons (wOp φAdd (wOp φMul (wOp φMod (wBt φInt (wCons (wVar 2) wNil)) (wC (.int 2147483587))) (wC (.int 45007))) (wOp φMul (wC (.int 51449)) (wVar 1))) wNil)) (wC (.int 2147483587))) (wC (.int 1))) (wCons (wC (.int 0)) wNil)))))
        [.v (.frz (ns.map D.int)), .v (.int k), .v (.int c)] Q R := by
      intro d d0
      refine ⟨ne0, mulOk 40 20 m1 (by decide), mulOk 20 20 (by decide) (by omega), ne0, small 3, fun K' G vs r => ?_, q⟩
      cases r with
      | cons h r =>
        obtain ⟨v, u, rfl, h2, h3⟩ := r.two_inv
        cases h
        cases h2
        cases h3
        refine ⟨_, _, _, rfl, d0, ?_, by decide⟩
        have := Int.fmod_nonneg_of_pos ((c.fmod 2147483587 * 45007 + 51449 * (k : Int))) (show (0 : Int) < 2147483587 by decide)
        show 0 ≤ (c.fmod 2147483587 * 45007 + 51449 * (k : Int)).fmod 2147483587 + 1
        omega
    cases hb : decide ((10 : Int) ^ (18 : Int).toNat ≤ c) with
    | true => exact ixl 1 rfl (fin2 c c0) (by show (if decide ((10 : Int) ^ (18 : Int).toNat ≤ c) = true then (1 : Int) else 0) = ((1 : Nat) : Int); rw [hb]; rfl)
    | false => exact ixl 0 rfl (fin2 0 (by decide)) (by show (if decide ((10 : Int) ^ (18 : Int).toNat ≤ c) = true then (1 : Int) else 0) = ((0 : Nat) : Int); rw [hb]; rfl)
  have at_ : ∀ {i : Nat}, i < ns.length → ∃ m : Int, (ns.map D.int)[i]? = some (.int m) := fun {i} hi => ⟨ns[i], by rw [List.getElem?_map, List.getElem?_eq_getElem hi]; rfl⟩
  refine ⟨mulOk 20 20 (by decide) (by omega), ?_⟩
  refine wTF (fun hc => ?_) (fun hc => ?_)
  · have hc := of_decide_eq_true hc
    rw [List.length_map] at hc
    obtain ⟨m, hm⟩ := at_ (show k < ns.length by omega)
    exact ixf k hm (key _ (by omega))
  · refine wTF (fun hd => ?_) (fun hd => key _ (by omega))
    have hd := of_decide_eq_true hd
    rw [List.length_map] at hd
    have nz : (ns.length : Int) ≠ 0 := by omega
    refine ⟨by rw [List.length_map]; exact nz, ?_⟩
    have h1 := Int.fmod_nonneg_of_pos (k : Int) (show (0 : Int) < (ns.length : Int) by omega)
    have h2 := Int.fmod_lt_of_pos (k : Int) (show (0 : Int) < (ns.length : Int) by omega)
    obtain ⟨i, hi⟩ := Int.eq_ofNat_of_zero_le h1
    obtain ⟨m, hm⟩ := at_ (show i < ns.length by omega)
    refine ixf i hm ?_ (by rw [List.length_map]; exact hi)
    have h3 := Int.fmod_nonneg_of_pos (m.natAbs : Int) (show (0 : Int) < 2147483587 by decide)
    have h4 := Int.fmod_lt_of_pos (m.natAbs : Int) (show (0 : Int) < 2147483587 by decide)
    refine ⟨ne0, mulOk 40 20 (by show ((m.natAbs : Int).fmod 2147483587).natAbs < 2 ^ 40; omega) (by decide), key _ ?_⟩
    show 0 ≤ 7919 * (k : Int) + 1373 + (m.natAbs : Int).fmod 2147483587 * 60013
    omega
theorem pick_s {d : D} {ds : List D} (hw : d.walk = some ds) (h1 : 1 ≤ ds.length) (h2 : ds.length ≤ 100000) (q : ∀ x ∈ ds, Q x) : F_law_pick T [dBox, d] Q R := by
  unfold F_law_pick Fr_law_pick
  cases d <;> first | (cases hw; done) | skip
  · rename_i z
    cases hw
    rw [signs_len] at h1 h2
    refine ⟨by rw [sizeLine_eq]; omega, ⟨rfl, take_s T (by omega) (by omega) fun r hr => ?_⟩⟩
    have hr : r < z.cps.toList.length := by rw [← len_cps]; omega
    refine ixs r (List.getElem?_eq_getElem hr) (by omega) (q _ ?_)
    exact List.mem_map.mpr ⟨_, List.getElem_mem hr, rfl⟩
  · cases hw
    refine ⟨rfl, take_s T (by omega) (by omega) fun r hr => ?_⟩
    exact ixl r (List.getElem?_eq_getElem (by omega)) (q _ (List.getElem_mem _))
  · cases hw
    refine ⟨rfl, take_s T (by omega) (by omega) fun r hr => ?_⟩
    exact ixt r (List.getElem?_eq_getElem (by omega)) (q _ (List.getElem_mem _))

theorem p448 : (2 : Int) ^ 448 = ((128 ^ 64 : Nat) : Int) := by decide +kernel
theorem bits_eq (n : Nat) : Builtin.Int.intBits (n : Int) = bits n := by
  unfold Builtin.Int.intBits bits
  by_cases h : n = 0
  · rw [h]; rfl
  · rw [if_neg h, if_neg (by simpa using h)]
    rfl
theorem part_and {n : Nat} : Builtin.bitAnd (n : Int) (1 * 2 ^ (448 : Int).toNat - 1) = ((n % 128 ^ 64 : Nat) : Int) := by
  have e : (1 * 2 ^ (448 : Int).toNat - 1 : Int) = 2 ^ 448 - 1 := by rw [Int.one_mul]; rfl
  rw [e, Bits.bitAnd_mask 448 (Int.natCast_nonneg _), p448]
  exact (Int.natCast_emod _ _).symm
theorem low_and {n : Nat} : Builtin.bitAnd (n : Int) 127 = ((n % 128 : Nat) : Int) := by
  have e : (127 : Int) = 2 ^ 7 - 1 := by decide
  rw [e, Bits.bitAnd_mask 7 (Int.natCast_nonneg _)]
  exact (Int.natCast_emod _ _).symm
theorem shr_nat {n k : Nat} {z : Int} (hz : z = ((7 * k : Nat) : Int)) : (n : Int) / 2 ^ z.toNat = ((n / 128 ^ k : Nat) : Int) := by
  subst hz
  rw [Int.toNat_natCast, Nat.pow_mul 2 7 k |> fun h => (by rw [show ((2 : Int) ^ (7 * k)) = ((2 ^ (7 * k) : Nat) : Int) from by push_cast; rfl, h] : (n : Int) / (2 : Int) ^ (7 * k) = (n : Int) / (((2 ^ 7) ^ k : Nat) : Int))]
  exact (Int.natCast_ediv _ _).symm
/-- marked figures of a list, sliced and starred -/
theorem neg1_cut {ds : List D} : Pd.cutD ds none (some (-1)) = ds.dropLast := by
  unfold Pd.cutD
  have e0 : HT.sIx ds.length 0 none = 0 := rfl
  rw [e0, List.dropLast_eq_take, List.drop_zero]
  congr 1
  cases ds with
  | nil => rfl
  | cons a t =>
    show HT.sIx (t.length + 1) (t.length + 1) (some (-1)) - 0 = t.length + 1 - 1
    unfold HT.sIx
    simp
    omega
theorem number_octets_s {fs : List Nat} (c : Can fs) (hl : fs.length ≤ 100000) (q : Q (.tup (natsD (mark fs)))) : F_number_octets T [.int ((val fs : Nat) : Int)] Q R := by
  unfold F_number_octets Fr_number_octets
  have l0 : 0 < fs.length := List.length_pos_iff.mpr c.ne
  have hb := can_bits c
  refine ⟨div_ok (b := 20) (by decide) (by decide), small 0, ?_⟩
  refine while_inv (fun m e => ∃ (N L : Int) (k : Nat) (x3 x4 x5 : Sl), e = [.v (.int N), .v (.int L), .l (natsD (fs.take (64 * k))), x3, x4, x5] ∧ N = ((val (fs.drop (64 * k)) : Nat) : Int) ∧ L = (fs.length : Int) - 64 * (k : Int) ∧ 64 * k ≤ fs.length + 63 ∧ m + k = fs.length) fs.length
    ⟨_, _, 0, _, _, _, rfl, by simp, ?_, by omega, by omega⟩ ?_
  · rw [bits_eq, Int.fdiv_eq_ediv_of_nonneg _ (by decide)]
    have e : ((fs.length : Nat) : Int) = ((max 1 ((bits (val fs) + 6) / 7) : Nat) : Int) := by rw [hb]
    rw [e]
    show max (1 : Int) (-(-((bits (val fs) : Nat) : Int) / 7)) = _
    omega
  · rintro m e Q' ⟨N, L, k, x3, x4, x5, rfl, hN, hL, hk, hm⟩ hq
    refine wTF (fun h => ?_) (fun h => ?_)
    · have h : (0 : Int) < L := of_decide_eq_true h
      have hlt : 64 * k < fs.length := by omega
      have dg := c.dig.drop (64 * k)
      have hpart : Builtin.bitAnd N (1 * 2 ^ (448 : Int).toNat - 1) = ((val ((fs.drop (64 * k)).take 64) : Nat) : Int) := by
        rw [hN, part_and, val_mod dg]
      have hnext : N / 2 ^ (448 : Int).toNat = ((val (fs.drop (64 * (k + 1))) : Nat) : Int) := by
        rw [hN]
        have := shr_nat (n := val (fs.drop (64 * k))) (k := 64) (z := 448) (by decide)
        rw [this, val_div dg, List.drop_drop]
        rfl
      refine ⟨shl_ok (j := 448) (n := 2) (i := 1) (by decide) (by decide), by show (0 : Int) ≤ 448; decide, ?_⟩
      have hmin : (min L 64).toNat = ((fs.drop (64 * k)).take 64).length := by
        rw [List.length_take, List.length_drop]
        omega
      refine ⟨⟨by omega, by omega⟩, ?_⟩
      have hln : ((fs.drop (64 * k)).take 64).length ≤ 64 := by rw [List.length_take]; omega
      refine lc_map (fun d => match d with | .int i => .int ((val ((fs.drop (64 * k)).take 64) / 128 ^ i.toNat % 128 : Nat) : Int) | y => y) (small _ (by rw [range_len]; omega)) (fun d hd Q'' hq'' => ?_) ?_
      · obtain ⟨i, hi⟩ := List.getElem?_of_mem hd
        obtain ⟨hi, rfl⟩ := range_at hi
        refine ⟨_, rfl, mulOk 20 30 (by decide) (by show (i : Int).natAbs < 2 ^ 30; omega), by show (0 : Int) ≤ 7 * (i : Int); omega, ?_⟩
        have e1 : Builtin.bitAnd (Builtin.bitAnd N (1 * 2 ^ (448 : Int).toNat - 1) / 2 ^ (7 * (i : Int)).toNat) 127 = ((val ((fs.drop (64 * k)).take 64) / 128 ^ i % 128 : Nat) : Int) := by
          rw [hpart, shr_nat (k := i) (by push_cast; rfl), low_and]
        show Q'' (.int (Builtin.bitAnd (Builtin.bitAnd N (1 * 2 ^ (448 : Int).toNat - 1) / 2 ^ (7 * (i : Int)).toNat) 127))
        rw [e1]
        exact hq''
      · have e2 : (rangeD 0 (min L 64).toNat).map (fun d => match d with | .int i => .int ((val ((fs.drop (64 * k)).take 64) / 128 ^ i.toNat % 128 : Nat) : Int) | y => y) = natsD ((fs.drop (64 * k)).take 64) := by
          rw [hmin]
          refine List.ext_getElem? fun i => ?_
          unfold rangeD natsD
          rw [List.map_map, List.getElem?_map, List.getElem?_map]
          cases hg : ((fs.drop (64 * k)).take 64)[i]? with
          | none =>
            rw [List.getElem?_eq_none (by rw [List.length_range]; exact List.getElem?_eq_none_iff.mp hg)]
            rfl
          | some f =>
            rw [List.getElem?_range (List.getElem?_eq_some_iff.mp hg).1]
            show some (D.int ((val _ / 128 ^ (0 + (i : Int)).toNat % 128 : Nat) : Int)) = some (D.int (f : Int))
            have e3 : (0 + (i : Int)).toNat = i := by omega
            rw [e3, val_at (dg.take 64) hg]
        rw [e2]
        have e4 : natsD (fs.take (64 * k)) ++ natsD ((fs.drop (64 * k)).take 64) = natsD (fs.take (64 * (k + 1))) := by
          unfold natsD
          rw [← List.map_append]
          congr 1
          rw [show 64 * (k + 1) = 64 * k + 64 from by omega, List.take_add]
        refine ⟨by rw [nats_len, nats_len, sizeLine_eq, List.length_take]; omega, ?_⟩
        rw [e4]
        exact hq.nx _ ⟨m - 1, by omega, _, _, k + 1, _, _, _, rfl, hnext, by rw [hL]; push_cast; omega, by omega, by omega⟩
    · have h : ¬ (0 : Int) < L := of_decide_eq_false h
      have hge : fs.length ≤ 64 * k := by omega
      have ht : fs.take (64 * k) = fs := List.take_of_length_le hge
      rw [ht]
      have neg : ∀ z : Int, z = -1 → Pd.cutD (natsD fs) none (some z) = natsD fs.dropLast := fun z hz => by
        rw [hz, neg1_cut]
        unfold natsD
        rw [List.map_dropLast]
      show wLc _ _ _ _ (Pd.cutD (natsD fs) none (some (-1))) _ _ _ _
      rw [neg _ rfl]
      refine lc_map (fun d => match d with | .int i => .int (i + 128) | y => y) (small _ (by rw [nats_len, List.length_dropLast]; omega)) (fun d hd Q'' hq'' => ?_) ?_
      · obtain ⟨f, hf, rfl⟩ := List.mem_map.mp hd
        exact ⟨_, rfl, hq''⟩
      · obtain ⟨f, hf⟩ : ∃ f, fs.getLast? = some f := ⟨_, List.getLast?_eq_some_getLast c.ne⟩
        have e5 : (natsD fs.dropLast).map (fun d => match d with | .int i => .int (i + 128) | y => y) = natsD (fs.dropLast.map (· + 128)) := by
          unfold natsD
          rw [List.map_map, List.map_map]
          rfl
        rw [e5]
        refine ixl_last (d := nD f) (by unfold natsD; rw [List.getLast?_map, hf]; rfl) ?_
        have e6 : natsD (fs.dropLast.map (· + 128)) ++ [nD f] = natsD (mark fs) := by
          unfold mark natsD
          rw [List.map_append]
          congr 1
          have e7 : fs.drop (fs.length - 1) = [f] := by
            have := List.dropLast_concat_getLast c.ne
            rw [List.getLast?_eq_some_getLast c.ne] at hf
            rw [Option.some.inj hf] at this
            have hd : (fs.dropLast ++ [f]).drop (fs.length - 1) = [f] := by
              rw [List.drop_append_of_le_length (by rw [List.length_dropLast]; omega), List.drop_eq_nil_of_le (by rw [List.length_dropLast]; omega)]
              rfl
            rwa [this] at hd
          rw [e7]
          rfl
        refine ⟨small _ (by simp [natsD]; omega), ?_⟩
        show Q (.tup (natsD (fs.dropLast.map (· + 128)) ++ [nD f]))
        rw [e6]
        exact q
end
end K86
set_option maxRecDepth 100000
set_option maxHeartbeats 4000000
namespace K86
open PySem PySem.Spec PyProof.Rows L2 Pre Pd M85
theorem rg64 (n : Nat) (h : n ≤ 100000) : RgC 0 (n : Int) 64 ((n + 63) / 64) := by
  have e : Builtin.Range.rangeSize 0 (n : Int) 64 = (((n + 63) / 64 : Nat) : Int) := by
    unfold Builtin.Range.rangeSize
    rw [if_pos (by decide)]
    split <;> omega
  refine ⟨by decide, by decide, ?_, e⟩
  have fit : ∀ z : Int, 0 ≤ z → z ≤ 200000 → Builtin.Range.rangeFitsLong z = true := fun z h1 h2 => by
    unfold Builtin.Range.rangeFitsLong
    rw [Bool.and_eq_true]
    exact ⟨decide_eq_true (by omega), decide_eq_true (by omega)⟩
  unfold Builtin.Range.small
  rw [e, fit 0 (by decide) (by decide), fit n (by omega) (by omega), fit 64 (by decide) (by decide), fit _ (by omega) (by omega), if_pos (by decide), fit _ (by omega) (by omega), Bool.or_true]
  rfl
section
variable {P : Program} {w : World} {K : PySem.W.Frag} {mg : Str → Option Value} {base : Heap} (T : Tx K mg) {Q : D → Prop} {R : Err → Prop}
theorem val_le {fs : List Nat} (h : Dig fs) : val fs < 2 ^ (7 * fs.length) := by
  rw [Nat.pow_mul]
  exact val_lt h
theorem mul128 {n b : Nat} (h : n < 2 ^ b) (hb : b ≤ 900000) (h0 : 0 < b) : CMulW (n : Int) 128 := wide_mul (a := b) (b := 20) (by show n < 2 ^ b; exact h) (by decide) h0 (by decide) (by omega)
theorem number_of_figures_s {fs : List Nat} (dg : Dig fs) (hl : fs.length ≤ 100000) (q : Q (.int ((val fs : Nat) : Int))) : F_number_of_figures T [.lst (natsD fs)] Q R := by
  unfold F_number_of_figures Fr_number_of_figures
  refine for_inv (rangeC 0 64 ((fs.length + 63) / 64)).reverse ?_ (fun i e => ∃ (x2 x3 x4 : Sl), e = [.v (.lst (natsD fs)), .v (.int ((val (fs.drop (64 * ((fs.length + 63) / 64 - i))) : Nat) : Int)), x2, x3, x4]) ⟨.no, .no, .no, ?_⟩ ?_ ?_
  · intro Q' R' k
    refine ⟨(fs.length + 63) / 64, ?_, by omega, k⟩
    show RgC 0 ((natsD fs).length : Int) 64 _
    rw [nats_len]
    exact rg64 fs.length hl
  · have : fs.drop (64 * ((fs.length + 63) / 64 - 0)) = [] := List.drop_eq_nil_of_le (by omega)
    rw [this]
    rfl
  · rintro i d e0 Q' hd ⟨x2, x3, x4, rfl⟩ hq
    have hi := (List.getElem?_eq_some_iff.mp hd).1
    have lc : (rangeC 0 64 ((fs.length + 63) / 64)).length = (fs.length + 63) / 64 := by unfold rangeC; rw [List.length_map, List.length_range]
    rw [List.length_reverse, lc] at hi
    rw [List.getElem?_reverse (by rw [lc]; exact hi), lc] at hd
    unfold rangeC at hd
    rw [List.getElem?_map, List.getElem?_range (by omega)] at hd
    cases hd
    generalize hj : (fs.length + 63) / 64 - 1 - i = j at *
    have ej : (fs.length + 63) / 64 - i = j + 1 := by omega
    have ej2 : (fs.length + 63) / 64 - (i + 1) = j := by omega
    rw [ej]
    have dgj := dg.drop (64 * j)
    have ea : (0 + (j : Int) * 64) = ((64 * j : Nat) : Int) := by push_cast; omega
    have eb : (0 + (j : Int) * 64) + 64 = ((64 * j + 64 : Nat) : Int) := by push_cast; omega
    refine ⟨_, rfl, ?_⟩
    refine for_inv (natsD ((fs.drop (64 * j)).take 64).reverse) ?_ (fun i e => ∃ (x4 : Sl), e = [.v (.lst (natsD fs)), .v (.int ((val (fs.drop (64 * (j + 1))) : Nat) : Int)), .v (.int (0 + (j : Int) * 64)), .v (.int ((val (((fs.drop (64 * j)).take 64).drop (((fs.drop (64 * j)).take 64).length - i)) : Nat) : Int)), x4]) ⟨x4, ?_⟩ ?_ ?_
    · intro Q'' R'' k
      show Q'' (Pd.cutD (natsD fs) (some (0 + (j : Int) * 64)) (some (0 + (j : Int) * 64 + 64))).reverse
      rw [ea]
      have : Pd.cutD (natsD fs) (some ((64 * j : Nat) : Int)) (some (((64 * j : Nat) : Int) + 64)) = (natsD ((fs.drop (64 * j)).take 64)) := by
        rw [show (((64 * j : Nat) : Int) + 64) = ((64 * j + 64 : Nat) : Int) from by push_cast; rfl, cutD_nn (by omega)]
        unfold natsD
        rw [List.drop_take, ← List.map_drop, ← List.map_take]
        rw [show 64 * j + 64 - 64 * j = 64 from by omega]
      rw [this]
      unfold natsD
      rw [← List.map_reverse]
      exact k
    · rw [Nat.sub_zero, List.drop_length]
      rfl
    · generalize hg : (fs.drop (64 * j)).take 64 = gs
      have dgg : Dig gs := hg ▸ dgj.take 64
      have lg : gs.length ≤ 64 := by rw [← hg, List.length_take]; omega
      rintro i2 d e0 Q'' hd ⟨x4, rfl⟩ hq2
      obtain ⟨f, hf, rfl⟩ := nats_at hd
      have hi2 := (List.getElem?_eq_some_iff.mp hf).1
      rw [List.length_reverse] at hi2
      rw [List.getElem?_reverse hi2] at hf
      have hv := val_le (dgg.drop (gs.length - i2))
      refine ⟨_, rfl, mul128 (b := 7 * 64 + 1) (Nat.lt_of_lt_of_le hv (Nat.pow_le_pow_right (by decide) (by rw [List.length_drop]; omega))) (by decide) (by decide), hq2.nx _ ⟨.v (.int (f : Int)), ?_⟩⟩
      have e1 : gs.drop (gs.length - (i2 + 1)) = f :: gs.drop (gs.length - i2) := by
        have hlt : gs.length - 1 - i2 < gs.length := by omega
        have := List.drop_eq_getElem_cons hlt
        rw [(List.getElem?_eq_some_iff.mp hf).2] at this
        rw [show gs.length - (i2 + 1) = gs.length - 1 - i2 from by omega, this, show gs.length - 1 - i2 + 1 = gs.length - i2 from by omega]
      rw [e1]
      show [_, _, _, Sl.v (.int (((val (gs.drop (gs.length - i2)) : Nat) : Int) * 128 + (f : Int))), Sl.v (.int (f : Int))] = _
      have e2 : (((val (gs.drop (gs.length - i2)) : Nat) : Int) * 128 + (f : Int)) = ((val (f :: gs.drop (gs.length - i2)) : Nat) : Int) := by
        show _ = ((f + 128 * val (gs.drop (gs.length - i2)) : Nat) : Int)
        push_cast
        omega
      rw [e2]
    · rintro e ⟨x4, rfl⟩
      have e0 : ((fs.drop (64 * j)).take 64).drop (((fs.drop (64 * j)).take 64).length - (natsD ((fs.drop (64 * j)).take 64).reverse).length) = (fs.drop (64 * j)).take 64 := by
        rw [nats_len, List.length_reverse, Nat.sub_self]
        rfl
      rw [e0]
      have hv := val_le (dg.drop (64 * (j + 1)))
      refine ⟨shl_ok (j := 448) (n := 7 * (fs.drop (64 * (j + 1))).length + 1) (i := ((val (fs.drop (64 * (j + 1))) : Nat) : Int)) (by show val _ < _; exact Nat.lt_of_lt_of_le hv (Nat.pow_le_pow_right (by decide) (by omega))) (by rw [List.length_drop]; omega), ?_⟩
      refine hq.nx _ ⟨.v (.int (0 + (j : Int) * 64)), .v (.int ((val ((fs.drop (64 * j)).take 64) : Nat) : Int)), x4, ?_⟩
      rw [ej2]
      have e3 : ((val (fs.drop (64 * (j + 1))) : Nat) : Int) * 2 ^ (448 : Int).toNat + ((val ((fs.drop (64 * j)).take 64) : Nat) : Int) = ((val (fs.drop (64 * j)) : Nat) : Int) := by
        rw [show (2 : Int) ^ (448 : Int).toNat = ((128 ^ 64 : Nat) : Int) from p448, val_split 64 (fs.drop (64 * j)), List.drop_drop]
        rw [show 64 * j + 64 = 64 * (j + 1) from by omega]
        rw [Int.natCast_add, Int.natCast_mul, Int.mul_comm, Int.add_comm]
      show [_, Sl.v (.int (((val (fs.drop (64 * (j + 1))) : Nat) : Int) * 2 ^ (448 : Int).toNat + ((val ((fs.drop (64 * j)).take 64) : Nat) : Int))), _, _, _] = _
      rw [e3]
  · rintro e ⟨x2, x3, x4, rfl⟩
    have lc : (rangeC 0 64 ((fs.length + 63) / 64)).length = (fs.length + 63) / 64 := by unfold rangeC; rw [List.length_map, List.length_range]
    rw [List.length_reverse, lc, Nat.sub_self]
    exact q
end
end K86
set_option maxRecDepth 100000
set_option maxHeartbeats 4000000
namespace K86
open PySem PySem.Spec PyProof.Rows L2 Pre Pd M85
/-! reading numbers and texts -/
def run (os : List Nat) (a : Nat) : Nat := ((os.drop a).takeWhile (fun x => decide (128 ≤ x))).length
theorem run_eq {os : List Nat} {a l : Nat} (h1 : a ≤ l) (h2 : l ≤ os.length) (h3 : ∀ i x, a ≤ i → i < l → os[i]? = some x → 128 ≤ x) (h4 : ∀ x, os[l]? = some x → x < 128) : run os a = l - a := by
  have e : os.drop a = (os.drop a).take (l - a) ++ os.drop l := by
    have := List.take_append_drop (l - a) (os.drop a)
    rw [List.drop_drop, show a + (l - a) = l from by omega] at this
    exact this.symm
  unfold run
  rw [e, List.takeWhile_append_of_pos (fun x hx => by
    obtain ⟨i, hi⟩ := List.getElem?_of_mem hx
    have hl := (List.getElem?_eq_some_iff.mp hi).1
    rw [List.length_take, List.length_drop] at hl
    rw [List.getElem?_take_of_lt (by omega), List.getElem?_drop] at hi
    exact decide_eq_true (h3 _ x (by omega) (by omega) hi))]
  have e2 : (os.drop l).takeWhile (fun x => decide (128 ≤ x)) = [] := by
    cases hd : os.drop l with
    | nil => rfl
    | cons x t =>
      have hx : os[l]? = some x := by
        have := List.getElem?_drop (xs := os) (i := l) (j := 0)
        rw [hd] at this
        exact this.symm
      rw [List.takeWhile_cons_of_neg (by have := h4 x hx; simpa using this)]
  rw [e2, List.append_nil, List.length_take, List.length_drop]
  omega
/-- a number as it is read -/
def rdN (os : List Nat) (a : Nat) : Option (Nat × Nat) :=
  if os.length ≤ a then none
  else if a + run os a = os.length ∨ (os[a + run os a]?.getD 0 = 0 ∧ a < a + run os a) then none
  else some (val (((os.take (a + run os a + 1)).drop a).map (· % 128)), a + run os a + 1)
def rdI (os : List Nat) (z : Int) : Option (Nat × Nat) := if 0 ≤ z then rdN os z.toNat else none
def resN : Option (Nat × Nat) → D
  | none => .non
  | some (v, e) => .tup [nD v, nD e]
theorem dig_mod (os : List Nat) : Dig (os.map (· % 128)) := fun f hf => by
  obtain ⟨o, _, rfl⟩ := List.mem_map.mp hf
  exact Nat.mod_lt _ (by decide)
/-- which codes are signs -/
def okS (c : Nat) : Bool := decide (c = 10) || (decide (32 ≤ c) && (decide (c ≤ 126) && !decide (c = 37)))
def sgD (c : Nat) : D := if okS c = true then .str ⟨#[c]⟩ else .non
section
variable {P : Program} {w : World} {K : PySem.W.Frag} {mg : Str → Option Value} {base : Heap} (T : Tx K mg) {Q : D → Prop} {R : Err → Prop}
theorem rn_tail {os : List Nat} {z : Int} {a l : Nat} {x3 : Sl} (ha : z = (a : Int)) (hl : os.length ≤ 100000) (g1 : a ≤ l) (g2 : l ≤ os.length) (g0 : a < os.length) (g3 : run os a = l - a) (q : Q (resN (rdN os a))) :
    wSeq (wIfS (wOr (wOpB (φEqU false) (wVar 2) (wBt φLen (wCons (wVar 0) wNil))) (wAnd (wOpB (φEqU false) (wOp φIxU (wVar 0) (wVar 2)) (wC (.int 0))) (wOpB φGtU (wVar 2) (wVar 1)))) (wRet (wC .non)) wNext)
      (wRet (wTup (wCons (wCall 1 (F_number_of_figures T) (wCons (wLV (wComp [3] (wWalk (wSl φSlU (wVar 0) (wPart (wVar 1)) (wPart (wOp φAdd (wVar 2) (wC (.int 1)))))) (sName 3) wYes (wOp φAnd (wVar 3) (wC (.int 127))))) wNil)) (wCons (wOp φAdd (wVar 2) (wC (.int 1))) wNil))))
      [.v (.tup (natsD os)), .v (.int z), .v (.int (l : Int)), x3] (fin Q R) := by
  have ln := nats_len os
  have el : a + run os a = l := by omega
  unfold rdN at q
  rw [if_neg (by omega), el] at q
  by_cases h1 : l = os.length
  · rw [if_pos (.inl h1)] at q
    exact eqi (wT (by show decide ((l : Int) = ((natsD os).length : Int)) = true; rw [ln]; exact decide_eq_true (by omega)) q)
  · refine eqi (wF (by show decide ((l : Int) = ((natsD os).length : Int)) = false; rw [ln]; exact decide_eq_false (by omega)) ?_)
    obtain ⟨o, ho⟩ : ∃ o, os[l]? = some o := ⟨_, List.getElem?_eq_getElem (by omega)⟩
    rw [ho] at q
    refine ixt l (by unfold natsD; rw [List.getElem?_map, ho]; rfl) (eqi ?_)
    have more : (¬ (o = 0 ∧ a < l)) → wRet (wTup (wCons (wCall 1 (F_number_of_figures T) (wCons (wLV (wComp [3] (wWalk (wSl φSlU (wVar 0) (wPart (wVar 1)) (wPart (wOp φAdd (wVar 2) (wC (.int 1)))))) (sName 3) wYes (wOp φAnd (wVar 3) (wC (.int 127))))) wNil)) (wCons (wOp φAdd (wVar 2) (wC (.int 1))) wNil)))
      [.v (.tup (natsD os)), .v (.int z), .v (.int (l : Int)), x3] (fin Q R) := fun hn => by
      rw [if_neg (fun h => h.elim h1 hn)] at q
      have e1 : Pd.cutD (natsD os) (some z) (some ((l : Int) + 1)) = natsD ((os.take (l + 1)).drop a) := by
        rw [ha, show (l : Int) + 1 = ((l + 1 : Nat) : Int) from rfl, cutD_nn (by omega)]
        unfold natsD
        rw [← List.map_take, ← List.map_drop]
      show wLc _ _ _ _ (Pd.cutD (natsD os) (some z) (some ((l : Int) + 1))) _ _ _ _
      rw [e1]
      refine lc_map (fun d => match d with | .int i => .int ((i.toNat % 128 : Nat) : Int) | y => y) (small _ (by rw [nats_len, List.length_drop, List.length_take]; omega)) (fun d hd Q'' hq'' => ?_) ?_
      · obtain ⟨f, hf, rfl⟩ := List.mem_map.mp hd
        refine ⟨_, rfl, ?_⟩
        show Q'' (.int (Builtin.bitAnd (f : Int) 127))
        rw [low_and]
        exact hq''
      · have e2 : (natsD ((os.take (l + 1)).drop a)).map (fun d => match d with | .int i => .int ((i.toNat % 128 : Nat) : Int) | y => y) = natsD (((os.take (l + 1)).drop a).map (· % 128)) := by
          unfold natsD
          rw [List.map_map, List.map_map]
          rfl
        rw [e2]
        exact ⟨rfl, number_of_figures_s T (dig_mod _) (by rw [List.length_map, List.length_drop, List.length_take]; omega) ⟨small 2, q⟩⟩
    refine wTF (fun h => ?_) (fun h => ?_)
    · have h : ((o : Nat) : Int) = 0 := of_decide_eq_true h
      refine wTF (fun h5 => ?_) (fun h5 => ?_)
      · have h5 : z < (l : Int) := of_decide_eq_true h5
        rw [if_pos (.inr ⟨by show o = 0; omega, by omega⟩)] at q
        exact q
      · have h5 : ¬ z < (l : Int) := of_decide_eq_false h5
        exact more (by omega)
    · have h : ¬ ((o : Nat) : Int) = 0 := of_decide_eq_false h
      exact more (by omega)
theorem read_number_s {os : List Nat} {z : Int} (hl : os.length ≤ 100000) (q : Q (resN (rdI os z))) : F_read_number T [.tup (natsD os), .int z] Q R := by
  unfold F_read_number Fr_read_number
  have ln := nats_len os
  by_cases h0 : 0 ≤ z
  · obtain ⟨a, ha⟩ := Int.eq_ofNat_of_zero_le h0
    have q : Q (resN (rdN os a)) := by
      unfold rdI at q
      rw [if_pos h0, show z.toNat = a from by omega] at q
      exact q
    refine wT (decide_eq_true h0) ?_
    by_cases h1 : a < os.length
    · refine wF (by show (!decide (z < ((natsD os).length : Int))) = false; exact nT (by omega)) ?_
      refine while_inv (fun m e => ∃ (l : Nat) (x3 : Sl), e = [.v (.tup (natsD os)), .v (.int z), .v (.int (l : Int)), x3] ∧ a ≤ l ∧ l ≤ os.length ∧ (∀ i x, a ≤ i → i < l → os[i]? = some x → 128 ≤ x) ∧ m = os.length - l) _
        ⟨a, .no, by rw [← ha]; rfl, Nat.le_refl _, by omega, fun i x h1 h2 => by omega, rfl⟩ ?_
      rintro m e Q' ⟨l, x3, rfl, g1, g2, g3, rfl⟩ hq
      refine wTF (fun h => ?_) (fun h => ?_)
      · have h : (l : Int) < ((natsD os).length : Int) := of_decide_eq_true h
        rw [ln] at h
        obtain ⟨o, ho⟩ : ∃ o, os[l]? = some o := ⟨_, List.getElem?_eq_getElem (by omega)⟩
        refine ixt l (by unfold natsD; rw [List.getElem?_map, ho]; rfl) ?_
        refine wTF (fun h5 => ?_) (fun h5 => ?_)
        · have h5 : (128 : Int) ≤ (o : Int) := of_decide_eq_true h5
          refine hq.nx _ ⟨os.length - (l + 1), by omega, l + 1, x3, by show [_, _, Sl.v (.int ((l : Int) + 1)), _] = _; rfl, by omega, by omega, fun i x i1 i2 hx => ?_, rfl⟩
          by_cases e : i = l
          · subst e
            rw [ho] at hx
            cases hx
            omega
          · exact g3 i x i1 (by omega) hx
        · have h5 : ¬ (128 : Int) ≤ (o : Int) := of_decide_eq_false h5
          exact rn_tail T ha hl g1 g2 h1 (run_eq g1 g2 g3 fun x hx => by rw [ho] at hx; cases hx; omega) q
      · have h : ¬ (l : Int) < ((natsD os).length : Int) := of_decide_eq_false h
        rw [ln] at h
        exact rn_tail T ha hl g1 g2 h1 (run_eq g1 g2 g3 fun x hx => by have := (List.getElem?_eq_some_iff.mp hx).1; omega) q
    · refine wT (by show (!decide (z < ((natsD os).length : Int))) = true; exact nF (by omega)) ?_
      unfold rdN at q
      rw [if_pos (by omega)] at q
      exact q
  · refine wF (decide_eq_false h0) (wT rfl ?_)
    unfold rdI at q
    rw [if_neg h0] at q
    exact q
end
end K86
set_option maxRecDepth 100000
set_option maxHeartbeats 4000000
namespace K86
open PySem PySem.Spec PyProof.Rows L2 Pre Pd M85
section
variable {P : Program} {w : World} {K : PySem.W.Frag} {mg : Str → Option Value} {base : Heap} (T : Tx K mg) {Q : D → Prop} {R : Err → Prop}
def wsum (os : List Nat) : Nat := (os.zipIdx.map fun p => p.1 * (p.2 + 1)).sum
theorem enum_sum : ∀ (os : List Nat) (k : Nat), (enumD k (natsD os)).map (fun d => match d with | .tup [.int i, .int o] => D.int (o * (i + 1)) | y => y) = ((os.zipIdx k).map fun p => ((p.1 * (p.2 + 1) : Nat) : Int)).map D.int
  | [], _ => rfl
  | o :: os, k => by
    rw [List.zipIdx_cons]
    show D.int ((o : Int) * ((k : Int) + 1)) :: (enumD (k + 1) (natsD os)).map _ = _
    rw [enum_sum os (k + 1)]
    rfl
theorem sum_cast : ∀ l : List Nat, (l.map fun n : Nat => (n : Int)).sum = ((l.sum : Nat) : Int)
  | [] => rfl
  | n :: l => by
    rw [List.map_cons, List.sum_cons, sum_cast l, List.sum_cons]
    push_cast
    rfl
theorem sum_of_octets_s {os : List Nat} (hl : os.length ≤ 100000) (hb : ∀ o ∈ os, o < 2 ^ 20) (q : Q (nD (wsum os % 65521))) : F_sum_of_octets T [.tup (natsD os)] Q R := by
  unfold F_sum_of_octets Fr_sum_of_octets
  have le : (enumD 0 (natsD os)).length = os.length := by rw [enumD_len, nats_len]
  refine lc_map (fun d => match d with | .tup [.int i, .int o] => .int (o * (i + 1)) | y => y) (small _ (by rw [le]; omega)) (fun d hd Q' hq => ?_) ?_
  · obtain ⟨i, hi⟩ := List.getElem?_of_mem hd
    obtain ⟨x, hx, rfl⟩ := enumD_get _ _ _ _ hi
    obtain ⟨o, ho, rfl⟩ := nats_at hx
    have hlt := (List.getElem?_eq_some_iff.mp ho).1
    refine ⟨_, rfl, mulOk 20 20 (by show o < 2 ^ 20; exact hb o (List.mem_of_getElem? ho)) (by show (((0 + i : Nat) : Int) + 1).natAbs < 2 ^ 20; omega), hq⟩
  · refine sum_ok (os.zipIdx.map fun p => ((p.1 * (p.2 + 1) : Nat) : Int)) (enum_sum os 0) ?_
    refine ⟨by show (65521 : Int) ≠ 0; decide, ?_⟩
    have e : (os.zipIdx.map fun p => ((p.1 * (p.2 + 1) : Nat) : Int)).sum.fmod 65521 = ((wsum os % 65521 : Nat) : Int) := by
      have e1 : (os.zipIdx.map fun p => ((p.1 * (p.2 + 1) : Nat) : Int)) = (os.zipIdx.map fun p => p.1 * (p.2 + 1)).map fun n : Nat => (n : Int) := by rw [List.map_map]; rfl
      rw [e1, sum_cast, Int.fmod_eq_emod_of_nonneg _ (by decide)]
      exact (Int.natCast_emod _ _).symm
    show Q (.int ((os.zipIdx.map fun p => ((p.1 * (p.2 + 1) : Nat) : Int)).sum.fmod 65521))
    rw [e]
    exact q
end
end K86
set_option maxRecDepth 100000
set_option maxHeartbeats 4000000
namespace K86
open PySem PySem.Spec PyProof.Rows L2 Pre Pd M85
/-! where numbers and texts are read as they were laid -/
theorem run_of {os : List Nat} {a : Nat} {ms rest : List Nat} (h : os.drop a = ms ++ rest) (hm : ∀ x ∈ ms, 128 ≤ x) (hr : ∀ x, rest[0]? = some x → x < 128) : run os a = ms.length := by
  unfold run
  rw [h, List.takeWhile_append_of_pos (fun x hx => decide_eq_true (hm x hx))]
  have e : rest.takeWhile (fun x => decide (128 ≤ x)) = [] := by
    cases rest with
    | nil => rfl
    | cons x t => rw [List.takeWhile_cons_of_neg (by have := hr x rfl; simpa using this)]
  rw [e, List.append_nil]
theorem drop_len {os : List Nat} {a : Nat} {l : List Nat} (h : os.drop a = l) (ha : l ≠ []) : os.length = a + l.length ∧ a < os.length := by
  have e := congrArg List.length h
  rw [List.length_drop] at e
  have := List.length_pos_iff.mpr ha
  omega
theorem drop_at {os : List Nat} {a : Nat} {l : List Nat} (h : os.drop a = l) (k : Nat) : os[a + k]? = l[k]? := by rw [← h, List.getElem?_drop]
theorem mark_split {gs : List Nat} (hg : gs ≠ []) : ∃ f, gs.getLast? = some f ∧ gs = gs.dropLast ++ [f] ∧ mark gs = gs.dropLast.map (· + 128) ++ [f] := by
  obtain ⟨f, hf⟩ : ∃ f, gs.getLast? = some f := ⟨_, List.getLast?_eq_some_getLast hg⟩
  have e0 : gs = gs.dropLast ++ [f] := by
    have := List.dropLast_concat_getLast hg
    rw [List.getLast?_eq_some_getLast hg] at hf
    rw [Option.some.inj hf] at this
    exact this.symm
  refine ⟨f, hf, e0, ?_⟩
  unfold mark
  have hl := List.length_pos_iff.mpr hg
  have hd : (gs.dropLast ++ [f]).drop (gs.length - 1) = [f] := by
    rw [List.drop_append_of_le_length (by rw [List.length_dropLast]; omega), List.drop_eq_nil_of_le (by rw [List.length_dropLast]; omega)]
    rfl
  rw [← e0] at hd
  rw [hd]
theorem mark_len {gs : List Nat} : (mark gs).length = gs.length := by
  unfold mark
  rw [List.length_append, List.length_map, List.length_dropLast, List.length_drop]
  omega
theorem mark_mod {gs : List Nat} (hg : gs ≠ []) (d : Dig gs) : (mark gs).map (· % 128) = gs := by
  obtain ⟨f, hf, e1, e2⟩ := mark_split hg
  rw [e2, List.map_append, List.map_map]
  have e3 : gs.dropLast.map ((· % 128) ∘ (· + 128)) = gs.dropLast := by
    have : gs.dropLast.map ((· % 128) ∘ (· + 128)) = gs.dropLast.map id := List.map_congr_left fun x hx => by
      have := d x (List.dropLast_subset _ hx)
      show (x + 128) % 128 = x
      omega
    rw [this, List.map_id]
  have hfd := d f (List.mem_of_getLast? hf)
  rw [e3]
  show gs.dropLast ++ [f % 128] = gs
  rw [Nat.mod_eq_of_lt hfd]
  exact e1.symm
/-- a number that lies there -/
theorem rd_mark {os : List Nat} {a : Nat} {gs rest : List Nat} (c : Can gs) (h : os.drop a = mark gs ++ rest) : rdN os a = some (val gs, a + gs.length) := by
  obtain ⟨f, hf, e1, e2⟩ := mark_split c.ne
  have hl := List.length_pos_iff.mpr c.ne
  have hfd := c.dig f (List.mem_of_getLast? hf)
  have ll : gs.dropLast.length = gs.length - 1 := List.length_dropLast
  have h2 : os.drop a = gs.dropLast.map (· + 128) ++ ([f] ++ rest) := by rw [h, e2, List.append_assoc]
  have hr : run os a = gs.length - 1 := by
    rw [run_of h2 (fun x hx => by obtain ⟨y, _, rfl⟩ := List.mem_map.mp hx; omega) (fun x hx => by cases hx; exact hfd), List.length_map, ll]
  obtain ⟨n1, n2⟩ := drop_len h (by intro z; have := congrArg List.length z; rw [List.length_append, mark_len, List.length_nil] at this; omega)
  rw [List.length_append, mark_len] at n1
  unfold rdN
  rw [if_neg (by omega), hr]
  have at_ : os[a + (gs.length - 1)]? = some f := by
    rw [drop_at h2, List.getElem?_append_right (by rw [List.length_map, ll]; exact Nat.le_refl _), List.length_map, ll, Nat.sub_self]
    rfl
  rw [at_]
  rw [if_neg (by
    rintro (z | ⟨z1, z2⟩)
    · omega
    · rcases c.last with l1 | l1
      · omega
      · exact l1 (hf.trans (congrArg some z1)))]
  have e3 : (os.take (a + (gs.length - 1) + 1)).drop a = mark gs := by
    rw [List.drop_take, h, show a + (gs.length - 1) + 1 - a = (mark gs).length from by rw [mark_len]; omega, List.take_left]
  rw [e3, mark_mod c.ne c.dig, show a + (gs.length - 1) + 1 = a + gs.length from by omega]
/-- a needless figure -/
theorem rd_needless {os : List Nat} {a : Nat} {ms rest : List Nat} (h : os.drop a = ms ++ 0 :: rest) (hm : ∀ x ∈ ms, 128 ≤ x) (h0 : ms ≠ []) : rdN os a = none := by
  have hl := List.length_pos_iff.mpr h0
  have hr := run_of h hm (fun x hx => by cases hx; decide)
  unfold rdN
  split
  · rfl
  · rw [if_pos (.inr ⟨by rw [hr, drop_at h, List.getElem?_append_right (Nat.le_refl _), Nat.sub_self]; rfl, by omega⟩)]
/-- no end -/
theorem rd_endless {os : List Nat} {a : Nat} (hm : ∀ x ∈ os.drop a, 128 ≤ x) : rdN os a = none := by
  unfold rdN
  by_cases h : os.length ≤ a
  · rw [if_pos h]
  · have hr : run os a = (os.drop a).length := run_of (rest := []) (by rw [List.append_nil]) hm (fun x hx => by cases hx)
    rw [if_neg h, if_pos (.inl (by rw [hr, List.length_drop]; omega))]
theorem rd_out {os : List Nat} {a : Nat} (h : os.length ≤ a) : rdN os a = none := by unfold rdN; rw [if_pos h]
theorem rdI_nat (os : List Nat) (a : Nat) : rdI os (a : Int) = rdN os a := by unfold rdI; rw [if_pos (by omega)]; rfl
theorem rdI_neg {os : List Nat} {z : Int} (h : z < 0) : rdI os z = none := by unfold rdI; rw [if_neg (by omega)]
theorem can_drop {fs : List Nat} (c : Can fs) {k : Nat} (hk : k < fs.length) : Can (fs.drop k) where
  dig := c.dig.drop k
  ne := by intro z; have := congrArg List.length z; rw [List.length_drop] at this; simp at this; omega
  last := by
    rw [List.length_drop]
    by_cases e : fs.length - k = 1
    · exact .inl e
    · refine .inr fun z => ?_
      rw [List.getLast?_drop, if_neg (by omega)] at z
      rcases c.last with l1 | l1
      · omega
      · exact l1 z
theorem mark_drop {fs : List Nat} (h0 : fs ≠ []) {k : Nat} (hk : k < fs.length) : (mark fs).drop k = mark (fs.drop k) := by
  unfold mark
  rw [List.drop_append_of_le_length (by rw [List.length_map, List.length_dropLast]; omega), ← List.map_drop, List.drop_drop, List.length_drop, show k + (fs.length - k - 1) = fs.length - 1 from by omega]
  congr 2
  rw [List.dropLast_eq_take, List.dropLast_eq_take, List.length_drop, List.drop_take]
  congr 1
  omega
/-- figures of a length -/
def cnt (n : Nat) : List Nat := if n < 128 then [n] else if n < 16384 then [n % 128, n / 128] else [n % 128, n / 128 % 128, n / 16384]
theorem cnt_can {n : Nat} (h : n ≤ 100000) : Can (cnt n) := by
  unfold cnt
  split
  · exact ⟨fun f hf => by rw [List.mem_singleton.mp hf]; omega, by simp, .inl rfl⟩
  · split
    · exact ⟨fun f hf => by simp only [List.mem_cons, List.not_mem_nil, or_false] at hf; rcases hf with rfl | rfl <;> omega, by simp, .inr (by simp; omega)⟩
    · exact ⟨fun f hf => by simp only [List.mem_cons, List.not_mem_nil, or_false] at hf; rcases hf with rfl | rfl | rfl <;> omega, by simp, .inr (by simp; omega)⟩
theorem cnt_val (n : Nat) : val (cnt n) = n := by
  unfold cnt
  split
  · show n + 128 * 0 = n
    omega
  · split
    · show n % 128 + 128 * (n / 128 + 128 * 0) = n
      omega
    · show n % 128 + 128 * (n / 128 % 128 + 128 * (n / 16384 + 128 * 0)) = n
      omega
theorem cnt_len (n : Nat) : (cnt n).length ≤ 3 ∧ 1 ≤ (cnt n).length := by
  unfold cnt
  split
  · simp
  · split <;> simp
end K86
set_option maxRecDepth 100000
set_option maxHeartbeats 4000000
namespace K86
open PySem PySem.Spec PyProof.Rows L2 Pre Pd M85
section
variable {P : Program} {w : World} {K : PySem.W.Frag} {mg : Str → Option Value} {base : Heap} (T : Tx K mg) {Q : D → Prop} {R : Err → Prop}
theorem natsD_ok (ns : List Nat) : okD (.lst (natsD ns)) = true := nats_okA ns
theorem natsD_dep (ns : List Nat) : dep (.lst (natsD ns)) ≤ 64 := by
  show depA (natsD ns) + 1 ≤ 64
  rw [nats_dep]
  decide
theorem is_row_s {xs : List Nat} (hl : xs.length ≤ 100000) (q : Q (.bl true)) : F_law_is_row T [.tup (natsD xs), .lst (natsD xs)] Q R := by
  unfold F_law_is_row Fr_law_is_row
  refine isi_plain rfl (wF rfl ?_)
  refine eqi (wF (by show (!decide (((natsD xs).length : Int) = ((natsD xs).length : Int))) = false; exact nT rfl) ?_)
  refine lc_sel (fun _ => false) (fun d => d) (small _ (by rw [nats_len]; omega)) (fun d hd => ?_) ?_
  · obtain ⟨n, hn, rfl⟩ := List.mem_map.mp hd
    exact ⟨_, rfl, fun Q' hq => isi_plain rfl (wF rfl (isi_plain rfl hq)), fun h => by cases h⟩
  · have e : (natsD xs).filter (fun _ => false) = [] := List.filter_eq_nil_iff.mpr fun _ _ h => by cases h
    rw [e]
    refine ⟨small 0, eq_ok (x := .lst []) (y := .lst []) rfl rfl leR leR (wF (by rw [eqD_refl rfl]; rfl) ?_)⟩
    refine eq_ok (natsD_ok xs) (natsD_ok xs) (natsD_dep xs) (natsD_dep xs) ?_
    rw [eqD_refl (natsD_ok xs)]
    exact q
theorem pick_nats (l : List Nat) (h1 : 1 ≤ l.length) (h2 : l.length ≤ 1000) (q : ∀ n ∈ l, Q (nD n)) : F_law_pick T [dBox, .lst (natsD l)] Q R := by
  refine pick_s T (ds := natsD l) rfl (by rw [nats_len]; exact h1) (by rw [nats_len]; omega) fun d hd => ?_
  obtain ⟨n, hn, rfl⟩ := List.mem_map.mp hd
  exact q n hn
/-- xs[k] = e -/
theorem put_ok {i j : Nat} {fa fb : Fx D} {env : En} {P : Out → Prop} {ds : List D} {Dk : D → Prop} (ha : ∀ Q' R', (∀ d, Dk d → Q' d) → fa env Q' R') (he : env[i]? = some (.l ds)) (hj : j < ds.length) (hb : ∀ Q' R', Q' (.int (j : Int)) → fb env Q' R')
    (k : ∀ d, Dk d → P (.nx (env.set i (.l (ds.set j d))))) : wPut i fa fb env P := by
  refine ha _ _ fun d hd => ?_
  rw [he]
  refine hb _ _ ?_
  have e : ixN ds.length (j : Int) = some j := by
    unfold ixN
    rw [if_pos (by omega), if_pos (by omega)]
    rfl
  show match ixN ds.length (j : Int) with | some j => P (.nx (env.set i (.l (ds.set j d)))) | none => False
  rw [e]
  exact k d hd
theorem counted_s {n : Nat} (hn : n ≤ 100000) (q : Q (.lst (natsD (mark (cnt n))))) : F_law_counted T [nD n] Q R := by
  unfold F_law_counted Fr_law_counted
  unfold cnt at q
  by_cases h1 : n < 128
  · rw [if_pos h1] at q
    exact wT (decide_eq_true (by omega)) ⟨small 1, q⟩
  · rw [if_neg h1] at q
    refine wF (decide_eq_false (by omega)) ?_
    have m128 : ((n : Int)).fmod 128 = ((n % 128 : Nat) : Int) := by rw [Int.fmod_eq_emod_of_nonneg _ (by decide)]; exact (Int.natCast_emod _ _).symm
    have d128 : ((n : Int)).fdiv 128 = ((n / 128 : Nat) : Int) := by rw [Int.fdiv_eq_ediv_of_nonneg _ (by decide)]; exact (Int.natCast_ediv _ _).symm
    by_cases h2 : n < 16384
    · rw [if_pos h2] at q
      refine wT (decide_eq_true (by omega)) ⟨by show (128 : Int) ≠ 0; decide, div_ok (b := 20) (by decide) (by decide), small 2, ?_⟩
      show Q (.lst [.int ((n : Int).fmod 128 + 128), .int ((n : Int).fdiv 128)])
      rw [m128, d128]
      exact q
    · rw [if_neg h2] at q
      have m2 : ((n / 128 : Nat) : Int).fmod 128 = ((n / 128 % 128 : Nat) : Int) := by rw [Int.fmod_eq_emod_of_nonneg _ (by decide)]; exact (Int.natCast_emod _ _).symm
      have d2 : ((n : Int)).fdiv 16384 = ((n / 16384 : Nat) : Int) := by rw [Int.fdiv_eq_ediv_of_nonneg _ (by decide)]; exact (Int.natCast_ediv _ _).symm
      refine wF (decide_eq_false (by omega)) ⟨by show (128 : Int) ≠ 0; decide, div_ok (b := 20) (by decide) (by decide), by show (128 : Int) ≠ 0; decide, div_ok (b := 20) (by decide) (by decide), small 3, ?_⟩
      show Q (.lst [.int ((n : Int).fmod 128 + 128), .int (((n : Int).fdiv 128).fmod 128 + 128), .int ((n : Int).fdiv 16384)])
      rw [m128, d128, m2, d2]
      exact q
end
end K86
set_option maxRecDepth 100000
set_option maxHeartbeats 4000000
namespace K86
open PySem PySem.Spec PyProof.Rows L2 Pre Pd M85
/-! frames -/
def tail2 (n : Nat) : List Nat := [n % 256, n / 256]
def frm (b : List Nat) : List Nat := mark (cnt b.length) ++ (b ++ tail2 (wsum b % 65521))
def fr (os : List Nat) (a : Nat) : Option (List Nat × Nat) := match rdN os a with
  | none => none
  | some (m, st) => if os.length < st + m + 2 then none
    else if wsum ((os.drop st).take m) % 65521 = os[st + m]?.getD 0 + 256 * os[st + m + 1]?.getD 0 then some ((os.drop st).take m, st + m + 2) else none
def bD (b : List Nat) : D := .tup (natsD b)
def resF : Option (List Nat × Nat) → D
  | none => .non
  | some (b, e) => .tup [bD b, nD e]
inductive Frs (os : List Nat) : Nat → List (List Nat) → Nat → Prop
  | stop {a : Nat} (h : fr os a = none) : Frs os a [] a
  | step {a e z : Nat} {b : List Nat} {bs : List (List Nat)} (h : fr os a = some (b, e)) (r : Frs os e bs z) : Frs os a (b :: bs) z
theorem rdN_up {os : List Nat} {a v e : Nat} (h : rdN os a = some (v, e)) : a < e ∧ e ≤ os.length := by
  unfold rdN at h
  split at h
  · cases h
  · split at h
    · cases h
    · rename_i h1 h2
      have := Option.some.inj h
      injection this with h3 h4
      have h5 : run os a ≤ os.length - a := by
        unfold run
        have := (List.takeWhile_sublist (l := os.drop a) (fun x => decide (128 ≤ x))).length_le
        rw [List.length_drop] at this
        exact this
      rw [not_or] at h2
      omega
theorem fr_up {os : List Nat} {a e : Nat} {b : List Nat} (h : fr os a = some (b, e)) : a < e ∧ e ≤ os.length := by
  unfold fr at h
  split at h
  · cases h
  · rename_i m st hr
    have := rdN_up hr
    split at h
    · cases h
    · split at h
      · have := Option.some.inj h
        injection this with h3 h4
        omega
      · cases h
theorem frs_ex (os : List Nat) : ∀ (n a : Nat), os.length - a ≤ n → ∃ bs z, Frs os a bs z
  | 0, a, h => by
    refine ⟨[], a, .stop ?_⟩
    have : rdN os a = none := rd_out (by omega)
    unfold fr
    rw [this]
  | n + 1, a, h => by
    cases hf : fr os a with
    | none => exact ⟨[], a, .stop hf⟩
    | some p =>
      obtain ⟨b, e⟩ := p
      have := fr_up hf
      obtain ⟨bs, z, r⟩ := frs_ex os n e (by omega)
      exact ⟨b :: bs, z, .step hf r⟩
theorem frs_len {os : List Nat} : ∀ {a z : Nat} {bs : List (List Nat)}, Frs os a bs z → bs.length ≤ os.length - a
  | _, _, _, .stop h => Nat.zero_le _
  | _, _, _, .step h r => by
    have := fr_up h
    have := frs_len r
    rw [List.length_cons]
    omega
theorem and255 {n : Nat} : Builtin.bitAnd (n : Int) 255 = ((n % 256 : Nat) : Int) := by
  have e : (255 : Int) = 2 ^ 8 - 1 := by decide
  rw [e, Bits.bitAnd_mask 8 (Int.natCast_nonneg _)]
  exact (Int.natCast_emod _ _).symm
section
variable {P : Program} {w : World} {K : PySem.W.Frag} {mg : Str → Option Value} {base : Heap} (T : Tx K mg) {Q : D → Prop} {R : Err → Prop}
theorem natsD_app (a b : List Nat) : natsD a ++ natsD b = natsD (a ++ b) := (List.map_append).symm
theorem frame_s {b : List Nat} (hl : b.length ≤ 90000) (hb : ∀ x ∈ b, x < 2 ^ 20) (q : Q (bD (frm b))) : F_frame T [bD b] Q R := by
  unfold F_frame Fr_frame
  refine ⟨rfl, sum_of_octets_s T (by omega) hb ?_⟩
  refine ⟨rfl, ?_⟩
  show F_number_octets T [.int ((natsD b).length : Int)] _ _
  rw [nats_len, ← cnt_val b.length]
  obtain ⟨c1, c2⟩ := cnt_len b.length
  refine number_octets_s T (cnt_can (by omega)) (by omega) ⟨by show (0 : Int) ≤ 8; decide, ?_⟩
  have e1 : Builtin.bitAnd ((wsum b % 65521 : Nat) : Int) 255 = ((wsum b % 65521 % 256 : Nat) : Int) := and255
  have e2 : ((wsum b % 65521 : Nat) : Int) / 2 ^ (8 : Int).toNat = ((wsum b % 65521 / 256 : Nat) : Int) := by
    show ((wsum b % 65521 : Nat) : Int) / ((256 : Nat) : Int) = _
    exact (Int.natCast_ediv _ _).symm
  have e3 : natsD (mark (cnt b.length)) ++ (natsD b ++ [D.int (Builtin.bitAnd ((wsum b % 65521 : Nat) : Int) 255), .int (((wsum b % 65521 : Nat) : Int) / 2 ^ (8 : Int).toNat)]) = natsD (frm b) := by
    rw [e1, e2]
    unfold frm
    rw [← natsD_app, ← natsD_app]
    rfl
  refine ⟨?_, ?_⟩
  · show (natsD (mark (cnt b.length)) ++ (natsD b ++ [D.int (Builtin.bitAnd ((wsum b % 65521 : Nat) : Int) 255), .int (((wsum b % 65521 : Nat) : Int) / 2 ^ (8 : Int).toNat)])).length ≤ sizeLine
    rw [List.length_append, List.length_append, nats_len, nats_len, mark_len, sizeLine_eq]
    show _ + (_ + 2) ≤ _
    omega
  · show Q (.tup (natsD (mark (cnt b.length)) ++ (natsD b ++ [D.int (Builtin.bitAnd ((wsum b % 65521 : Nat) : Int) 255), .int (((wsum b % 65521 : Nat) : Int) / 2 ^ (8 : Int).toNat)])))
    rw [e3]
    exact q
theorem frame_at_s {os : List Nat} {a : Nat} (hl : os.length ≤ 90000) (hb : ∀ x ∈ os, x < 2 ^ 20) (q : Q (resF (fr os a))) : F_frame_at T [bD os, nD a] Q R := by
  unfold F_frame_at Fr_frame_at
  refine ⟨rfl, read_number_s T (z := (a : Int)) (by omega) ?_⟩
  rw [rdI_nat]
  unfold fr at q
  cases hr : rdN os a with
  | none =>
    rw [hr] at q
    exact isN_non (wT rfl (wT rfl q))
  | some p =>
    obtain ⟨m, st⟩ := p
    obtain ⟨u1, u2⟩ := rdN_up hr
    rw [hr] at q
    replace q : Q (resF (if os.length < st + m + 2 then none else if wsum ((os.drop st).take m) % 65521 = os[st + m]?.getD 0 + 256 * os[st + m + 1]?.getD 0 then some ((os.drop st).take m, st + m + 2) else none)) := q
    refine isN_not rfl (wF rfl ?_)
    refine ixt 0 rfl (ixt 1 rfl ?_)
    have lo := nats_len os
    refine wTF (fun h => ?_) (fun h => next_ok ?_)
    · have h : ((natsD os).length : Int) - (st : Int) < (m : Int) + 2 := of_decide_eq_true h
      rw [lo] at h
      rw [if_pos (by omega)] at q
      exact q
    · have h : ¬ ((natsD os).length : Int) - (st : Int) < (m : Int) + 2 := of_decide_eq_false h
      rw [lo] at h
      rw [if_neg (by omega)] at q
      have e1 : Pd.cutD (natsD os) (some (st : Int)) (some ((st : Int) + (m : Int))) = natsD ((os.drop st).take m) := by
        rw [show (st : Int) + (m : Int) = ((st + m : Nat) : Int) from rfl, cutD_nn (by omega)]
        unfold natsD
        rw [List.drop_take, ← List.map_drop, ← List.map_take, show st + m - st = m from by omega]
      obtain ⟨x, hx⟩ : ∃ x, os[st + m]? = some x := ⟨_, List.getElem?_eq_getElem (by omega)⟩
      obtain ⟨y, hy⟩ : ∃ y, os[st + m + 1]? = some y := ⟨_, List.getElem?_eq_getElem (by omega)⟩
      have e2 : Pd.cutD (natsD os) (some ((st : Int) + (m : Int))) (some ((st : Int) + (m : Int) + 2)) = [nD x, nD y] := by
        rw [show (st : Int) + (m : Int) = ((st + m : Nat) : Int) from rfl, show ((st + m : Nat) : Int) + 2 = ((st + m + 2 : Nat) : Int) from rfl, cutD_nn (by omega)]
        unfold natsD
        rw [List.drop_take, ← List.map_drop, ← List.map_take, show st + m + 2 - (st + m) = 2 from by omega]
        have g1 := List.drop_eq_getElem_cons (show st + m < os.length by omega)
        have g2 := List.drop_eq_getElem_cons (show st + m + 1 < os.length by omega)
        rw [g1, g2, (List.getElem?_eq_some_iff.mp hx).2, (List.getElem?_eq_some_iff.mp hy).2]
        rfl
      rw [hx, hy] at q
      replace q : Q (resF (if wsum ((os.drop st).take m) % 65521 = x + 256 * y then some ((os.drop st).take m, st + m + 2) else none)) := q
      have lbd : ((os.drop st).take m).length ≤ 100000 := by rw [List.length_take, List.length_drop]; omega
      have hbd : ∀ o ∈ (os.drop st).take m, o < 2 ^ 20 := fun o ho => hb o (List.mem_of_mem_drop (List.mem_of_mem_take ho))
      have go : ∀ ds : List D, ds = natsD ((os.drop st).take m) → (wSeq (wAsg (wSl φSlU (wVar 0) (wPart (wOp φAdd (wVar 4) (wVar 3))) (wPart (wOp φAdd (wOp φAdd (wVar 4) (wVar 3)) (wC (.int 2))))) (sTup 2 (sCons (sName 6) (sCons (sName 7) sNil))))
      (wRet (wIf (wOpB (φEqU false) (wCall 1 (F_sum_of_octets T) (wCons (wVar 5) wNil)) (wOp φAdd (wVar 6) (wOp φMul (wC (.int 256)) (wVar 7)))) (wTup (wCons (wVar 5) (wCons (wOp φAdd (wOp φAdd (wVar 4) (wVar 3)) (wC (.int 2))) wNil))) (wC .non)))) [.v (bD os), .v (nD a), .v (.tup [nD m, nD st]), .v (nD m), .v (nD st), .v (.tup ds), .no, .no] (fin Q R) := by
        rintro ds rfl
        refine asg_eq (.tup [nD x, nD y]) (fun Q' R' kk => ?_) rfl ?_
        · show Q' (.tup (Pd.cutD (natsD os) (some ((st : Int) + (m : Int))) (some ((st : Int) + (m : Int) + 2))))
          rw [e2]
          exact kk
        refine ⟨rfl, sum_of_octets_s T lbd hbd ⟨mulOk 20 20 (by decide) (by have := hb y (List.mem_of_getElem? hy); show y < 2 ^ 20; exact this), eqi ?_⟩⟩
        by_cases h2 : wsum ((os.drop st).take m) % 65521 = x + 256 * y
        · rw [if_pos h2] at q
          exact wT (decide_eq_true (by omega)) ⟨small 2, q⟩
        · rw [if_neg h2] at q
          exact wF (decide_eq_false (by omega)) q
      exact go _ e1
def manyD (bs : List (List Nat)) : List D := bs.map bD
theorem frames_s {os : List Nat} {bs : List (List Nat)} {z : Nat} (hl : os.length ≤ 90000) (hb : ∀ x ∈ os, x < 2 ^ 20) (h : Frs os 0 bs z) (q : Q (.tup [.tup (manyD bs), nD z])) : F_frames T [bD os] Q R := by
  unfold F_frames Fr_frames
  have lb := frs_len h
  refine ⟨small 0, rfl, frame_at_s T (a := 0) hl hb ?_⟩
  refine while_inv (fun m e => ∃ (done rest : List (List Nat)) (a : Nat) (x4 : Sl), e = [.v (bD os), .l (manyD done), .v (nD a), .v (resF (fr os a)), x4] ∧ Frs os a rest z ∧ done ++ rest = bs ∧ m = rest.length) bs.length ⟨[], bs, 0, .no, rfl, h, rfl, rfl⟩ ?_
  rintro m e Q' ⟨done, rest, a, x4, rfl, hr, hd, rfl⟩ hq
  cases hr with
  | stop h0 =>
    rw [h0]
    refine isN_non (wF rfl ?_)
    rw [List.append_nil] at hd
    subst hd
    exact ⟨small 2, q⟩
  | step h1 r =>
    rename_i e1 b bs1
    rw [h1]
    refine isN_not rfl (wT rfl ?_)
    have ld : done.length ≤ 90000 := by
      have := congrArg List.length hd
      rw [List.length_append] at this
      omega
    refine ⟨by unfold manyD; rw [List.length_map, sizeLine_eq]; omega, rfl, frame_at_s T hl hb ?_⟩
    have e2 : manyD done ++ [bD b] = manyD (done ++ [b]) := by unfold manyD; rw [List.map_append]; rfl
    refine hq.nx _ ⟨bs1.length, Nat.lt_succ_self _, done ++ [b], bs1, e1, .v (bD b), ?_, r, by rw [List.append_assoc]; exact hd, rfl⟩
    rw [← e2]
    rfl
end
end K86
set_option maxRecDepth 100000
set_option maxHeartbeats 4000000
namespace K86
open PySem PySem.Spec PyProof.Rows L2 Pre Pd M85
/-! sums of places -/
def ws (k : Nat) : List Nat → Nat
  | [] => 0
  | o :: os => o * (k + 1) + ws (k + 1) os
theorem ws_eq : ∀ (os : List Nat) (k : Nat), ((os.zipIdx k).map fun p => p.1 * (p.2 + 1)).sum = ws k os
  | [], _ => rfl
  | o :: os, k => by
    rw [List.zipIdx_cons, List.map_cons, List.sum_cons, ws_eq os (k + 1)]
    rfl
theorem wsum_ws (os : List Nat) : wsum os = ws 0 os := ws_eq os 0
theorem ws_app : ∀ (a b : List Nat) (k : Nat), ws k (a ++ b) = ws k a + ws (k + a.length) b
  | [], b, k => by simp [ws]
  | o :: a, b, k => by
    show o * (k + 1) + ws (k + 1) (a ++ b) = (o * (k + 1) + ws (k + 1) a) + ws (k + (a.length + 1)) b
    rw [ws_app a b (k + 1), show k + 1 + a.length = k + (a.length + 1) from by omega]
    omega
theorem ws_shift : ∀ (a : List Nat) (k : Nat), ws k a = ws 0 a + k * a.sum
  | [], k => by simp [ws]
  | o :: a, k => by
    show o * (k + 1) + ws (k + 1) a = (o * (0 + 1) + ws (0 + 1) a) + k * (o :: a).sum
    rw [ws_shift a (k + 1), ws_shift a (0 + 1), List.sum_cons, Nat.mul_add k, Nat.add_mul, Nat.add_mul, Nat.mul_comm k o, Nat.mul_add o]
    omega
def rep (b : List Nat) (n : Nat) : List Nat := (List.replicate n b).flatten
theorem rep_len (b : List Nat) (n : Nat) : (rep b n).length = n * b.length := by
  induction n with
  | zero => simp [rep]
  | succ n ih =>
    have : rep b (n + 1) = b ++ rep b n := by unfold rep; rw [List.replicate_succ, List.flatten_cons]
    rw [this, List.length_append, ih, Nat.succ_mul]
    omega
theorem rep_mem {b : List Nat} {n x : Nat} (h : x ∈ rep b n) : x ∈ b := by
  obtain ⟨l, h1, h2⟩ := List.mem_flatten.mp h
  rw [(List.mem_replicate.mp h1).2] at h2
  exact h2
theorem rep_snoc (b : List Nat) (n : Nat) : rep b (n + 1) = rep b n ++ b := by
  unfold rep
  rw [List.replicate_succ', List.flatten_append]
  simp
theorem tri (n : Nat) : (n + 1) * n / 2 = n * (n - 1) / 2 + n := by
  cases n with
  | zero => rfl
  | succ n =>
    show (n + 1 + 1) * (n + 1) / 2 = (n + 1) * n / 2 + (n + 1)
    have : (n + 1 + 1) * (n + 1) = (n + 1) * n + (n + 1) * 2 := by rw [← Nat.mul_add, Nat.mul_comm]
    rw [this, Nat.add_mul_div_right _ _ (by decide)]
theorem ws_rep (b : List Nat) : ∀ n, ws 0 (rep b n) = n * ws 0 b + b.sum * b.length * (n * (n - 1) / 2)
  | 0 => by simp [rep, ws]
  | n + 1 => by
    rw [rep_snoc, ws_app, ws_rep b n, ws_shift b (0 + (rep b n).length), rep_len, show n + 1 - 1 = n from rfl, tri n, Nat.zero_add, Nat.mul_add, Nat.succ_mul]
    have : n * b.length * b.sum = b.sum * b.length * n := by rw [Nat.mul_assoc, Nat.mul_comm n, Nat.mul_comm b.length b.sum]
    rw [this]
    omega
theorem ws_take {b : List Nat} {i x : Nat} (h : b[i]? = some x) : ws 0 (b.take (i + 1)) = ws 0 (b.take i) + x * (i + 1) := by
  have hl := (List.getElem?_eq_some_iff.mp h).1
  rw [List.take_add_one, h, ws_app]
  show _ + (x * (0 + (b.take i).length + 1) + 0) = _
  rw [List.length_take, Nat.min_eq_left (by omega), Nat.zero_add]
  rfl
theorem ws_bound : ∀ (b : List Nat) (k M : Nat), (∀ x ∈ b, x ≤ 255) → k + b.length ≤ M → ws k b ≤ b.length * (255 * M)
  | [], _, _, _, _ => by simp [ws]
  | x :: b, k, M, h, hk => by
    show x * (k + 1) + ws (k + 1) b ≤ (b.length + 1) * (255 * M)
    have h1 := ws_bound b (k + 1) M (fun y hy => h y (List.mem_cons_of_mem _ hy)) (by rw [List.length_cons] at hk; omega)
    have h2 := Nat.mul_le_mul (h x List.mem_cons_self) (show k + 1 ≤ M by rw [List.length_cons] at hk; omega)
    rw [Nat.succ_mul]
    omega
theorem sum_bound : ∀ (b : List Nat), (∀ x ∈ b, x ≤ 255) → b.sum ≤ b.length * 255
  | [], _ => by simp
  | x :: b, h => by
    have h1 := sum_bound b fun y hy => h y (List.mem_cons_of_mem _ hy)
    have h2 := h x List.mem_cons_self
    rw [List.sum_cons, List.length_cons, Nat.succ_mul]
    omega

/-- octets -/
def Oct (b : List Nat) : Prop := ∀ x ∈ b, x ≤ 255
theorem Oct.app {a b : List Nat} (ha : Oct a) (hb : Oct b) : Oct (a ++ b) := fun x hx => (List.mem_append.mp hx).elim (ha x) (hb x)
theorem Oct.small {a : List Nat} (ha : Oct a) : ∀ x ∈ a, x < 2 ^ 20 := fun x hx => by have := ha x hx; omega
theorem wsum_lt {b : List Nat} (h : Oct b) (hl : b.length ≤ 100000) : wsum b < 2 ^ 50 := by
  rw [wsum_ws]
  have := ws_bound b 0 100000 h (by omega)
  have h2 : b.length * (255 * 100000) ≤ 100000 * (255 * 100000) := Nat.mul_le_mul_right _ hl
  omega
section
variable {P : Program} {w : World} {K : PySem.W.Frag} {mg : Str → Option Value} {base : Heap} (T : Tx K mg) {Q : D → Prop} {R : Err → Prop}
theorem law_sum_s {b : List Nat} (h : Oct b) (hl : b.length ≤ 90000) (q : Q (nD (wsum b % 65521))) : F_law_sum T [.lst (natsD b)] Q R := by
  unfold F_law_sum Fr_law_sum
  have lb := nats_len b
  refine for_inv (rangeD 0 b.length) (fun Q' R' k => ⟨⟨by omega, by show ((natsD b).length : Int) < 2 ^ 62; rw [lb]; omega⟩, by rw [lb]; exact k⟩) (fun i e => ∃ a : Sl, e = [.v (.lst (natsD b)), .v (nD (ws 0 (b.take i))), a]) ⟨.no, rfl⟩ ?_ ?_
  · rintro i d e0 Q' hd ⟨a, rfl⟩ hq
    obtain ⟨hi, rfl⟩ := range_at hd
    obtain ⟨x, hx⟩ : ∃ x, b[i]? = some x := ⟨_, List.getElem?_eq_getElem hi⟩
    have hx255 := h x (List.mem_of_getElem? hx)
    refine ⟨_, rfl, ixl i (d := nD x) (by unfold natsD; rw [List.getElem?_map, hx]; rfl) ⟨mulOk 20 20 (by omega) (by show x < 2 ^ 20; omega), hq.nx _ ⟨.v (.int (i : Int)), ?_⟩⟩⟩
    rw [ws_take hx]
    show [_, Sl.v (.int (((ws 0 (b.take i) : Nat) : Int) + ((i : Int) + 1) * (x : Int))), _] = _
    have : (((ws 0 (b.take i) : Nat) : Int) + ((i : Int) + 1) * (x : Int)) = ((ws 0 (b.take i) + x * (i + 1) : Nat) : Int) := by
      push_cast
      rw [Int.mul_comm]
    rw [this]
  · rintro e ⟨a, rfl⟩
    rw [range_len, List.take_length]
    refine ⟨by show (65521 : Int) ≠ 0; decide, ?_⟩
    show Q (.int (((ws 0 b : Nat) : Int).fmod 65521))
    have : (((ws 0 b : Nat) : Int).fmod 65521) = ((wsum b % 65521 : Nat) : Int) := by
      rw [← wsum_ws, Int.fmod_eq_emod_of_nonneg _ (by decide)]
      exact (Int.natCast_emod _ _).symm
    rw [this]
    exact q
theorem block_sum_s {b : List Nat} {many : Nat} (h : Oct b) (b0 : 1 ≤ b.length) (b9 : b.length ≤ 10) (hm : many ≤ 60000) (q : Q (nD (wsum (rep b many) % 65521))) : F_law_block_sum T [.lst (natsD b), nD many] Q R := by
  unfold F_law_block_sum Fr_law_block_sum
  have lb := nats_len b
  have sb := sum_bound b h
  have wb := ws_bound b 0 10 h (by omega)
  have go : ∀ n2 : Int, n2 = ((b.length : Nat) : Int) → (wSeq (wFor (wRng1 (wCons (wVar 2) wNil)) (sName 4) (wSetS 3 (wSv (wOp φAdd (wVar 3) (wOp φMul (wOp φAdd (wVar 4) (wC (.int 1))) (wOp φIxU (wVar 0) (wVar 4)))))))
      (wRet (wOp φMod (wBt φInt (wCons (wOp φAdd (wOp φMul (wVar 1) (wVar 3)) (wOp φMul (wOp φMul (wBt φSum (wCons (wVar 0) wNil)) (wVar 2)) (wOp φFdv (wOp φMul (wVar 1) (wOp φSub (wVar 1) (wC (.int 1)))) (wC (.int 2))))) wNil)) (wC (.int 65521))))) [.v (.lst (natsD b)), .v (nD many), .v (.int n2), .v (.int 0), .no] (fin Q R) := by
    rintro n2 rfl
    refine for_inv (rangeD 0 b.length) (fun Q' R' k => ⟨⟨by omega, by omega⟩, by rw [Int.toNat_natCast]; exact k⟩) (fun i e => ∃ a : Sl, e = [.v (.lst (natsD b)), .v (nD many), .v (nD b.length), .v (nD (ws 0 (b.take i))), a]) ⟨.no, rfl⟩ ?_ ?_
    · rintro i d e0 Q' hd ⟨a, rfl⟩ hq
      obtain ⟨hi, rfl⟩ := range_at hd
      obtain ⟨x, hx⟩ : ∃ x, b[i]? = some x := ⟨_, List.getElem?_eq_getElem hi⟩
      have hx255 := h x (List.mem_of_getElem? hx)
      refine ⟨_, rfl, ixl i (d := nD x) (by unfold natsD; rw [List.getElem?_map, hx]; rfl) ⟨mulOk 20 20 (by omega) (by show x < 2 ^ 20; omega), hq.nx _ ⟨.v (.int (i : Int)), ?_⟩⟩⟩
      rw [ws_take hx]
      show [_, _, _, Sl.v (.int (((ws 0 (b.take i) : Nat) : Int) + ((i : Int) + 1) * (x : Int))), _] = _
      have : (((ws 0 (b.take i) : Nat) : Int) + ((i : Int) + 1) * (x : Int)) = ((ws 0 (b.take i) + x * (i + 1) : Nat) : Int) := by
        push_cast
        rw [Int.mul_comm]
      rw [this]
    · rintro e ⟨a, rfl⟩
      rw [range_len, List.take_length]
      have m1 : CMulW ((many : Nat) : Int) ((ws 0 b : Nat) : Int) := mulOk 20 40 (by show many < 2 ^ 20; omega) (by show ws 0 b < 2 ^ 40; have := Nat.mul_le_mul_right (255 * 10) b9; omega)
      have m2 : CMulW ((b.sum : Nat) : Int) ((b.length : Nat) : Int) := mulOk 20 20 (by show b.sum < 2 ^ 20; omega) (by show b.length < 2 ^ 20; omega)
      have e3 : ((many : Nat) : Int) * (((many : Nat) : Int) - 1) = ((many * (many - 1) : Nat) : Int) := by
        cases many with
        | zero => rfl
        | succ n => rw [show n + 1 - 1 = n from rfl]; push_cast; rw [show (n : Int) + 1 - 1 = n from by omega]
      have m3 : CMulW ((many : Nat) : Int) (((many : Nat) : Int) - 1) := mulOk 20 20 (by show many < 2 ^ 20; omega) (by omega)
      have e4 : (((many : Nat) : Int) * (((many : Nat) : Int) - 1)).fdiv 2 = ((many * (many - 1) / 2 : Nat) : Int) := by
        rw [e3, Int.fdiv_eq_ediv_of_nonneg _ (by decide)]
        exact (Int.natCast_ediv _ _).symm
      have hmm : many * (many - 1) ≤ 60000 * 60000 := Nat.mul_le_mul hm (by omega)
      have m4 : CMulW (((b.sum : Nat) : Int) * ((b.length : Nat) : Int)) ((((many : Nat) : Int) * (((many : Nat) : Int) - 1)).fdiv 2) := by
        rw [e4]
        have : b.sum * b.length ≤ 10 * 255 * 10 := Nat.mul_le_mul (by omega) b9
        exact mulOk 40 40 (by rw [show ((b.sum : Nat) : Int) * ((b.length : Nat) : Int) = ((b.sum * b.length : Nat) : Int) from by push_cast; rfl]; show b.sum * b.length < 2 ^ 40; omega) (by show many * (many - 1) / 2 < 2 ^ 40; omega)
      refine ⟨m1, ?_⟩
      refine sum_ok (b.map fun n : Nat => (n : Int)) (by unfold natsD; rw [List.map_map]; rfl) ?_
      have go3 : ∀ n : Int, n = ((b.sum : Nat) : Int) → wOp φMod (wBt φInt (wCons (wOp φAdd (wC (.int (((many : Nat) : Int) * ((ws 0 b : Nat) : Int)))) (wOp φMul (wOp φMul (wC (.int n)) (wVar 2)) (wOp φFdv (wOp φMul (wVar 1) (wOp φSub (wVar 1) (wC (.int 1)))) (wC (.int 2))))) wNil)) (wC (.int 65521)) [.v (.lst (natsD b)), .v (nD many), .v (nD b.length), .v (nD (ws 0 b)), a] (fun d => fin Q R (.rt d)) (fun e => fin Q R (.er [.v (.lst (natsD b)), .v (nD many), .v (nD b.length), .v (nD (ws 0 b)), a] e)) := by
        rintro n rfl
        refine ⟨m2, m3, div_ok (b := 20) (by decide) (by decide), m4, by show (65521 : Int) ≠ 0; decide, ?_⟩
        have : ((many : Nat) : Int) * ((ws 0 b : Nat) : Int) + ((b.sum : Nat) : Int) * ((b.length : Nat) : Int) * ((((many : Nat) : Int) * (((many : Nat) : Int) - 1)).fdiv 2) = ((wsum (rep b many) : Nat) : Int) := by
          rw [e4, wsum_ws, ws_rep]
          push_cast
          rfl
        show Q (.int ((((many : Nat) : Int) * ((ws 0 b : Nat) : Int) + ((b.sum : Nat) : Int) * ((b.length : Nat) : Int) * ((((many : Nat) : Int) * (((many : Nat) : Int) - 1)).fdiv 2)).fmod 65521))
        have e5 : (((many : Nat) : Int) * ((ws 0 b : Nat) : Int) + ((b.sum : Nat) : Int) * ((b.length : Nat) : Int) * ((((many : Nat) : Int) * (((many : Nat) : Int) - 1)).fdiv 2)).fmod 65521 = ((wsum (rep b many) % 65521 : Nat) : Int) := by
          rw [this, Int.fmod_eq_emod_of_nonneg _ (by decide)]
          exact (Int.natCast_emod _ _).symm
        rw [e5]
        exact q
      exact go3 _ (sum_cast b)
  exact go _ (by rw [lb])
theorem framed_s {Q' : List D → Prop} {b : List Nat} {t : Nat} (hl : b.length ≤ 90000) (ht : t < 65536) (q : Q' (natsD (mark (cnt b.length) ++ (b ++ tail2 t)))) : F_law_framed T [.lst (natsD b), nD t] Q' R := by
  unfold F_law_framed Fr_law_framed
  refine ⟨rfl, ?_⟩
  show F_law_counted T [.int ((natsD b).length : Int)] _ _
  rw [nats_len]
  obtain ⟨c1, c2⟩ := cnt_len b.length
  refine counted_s T (by omega) ⟨small _ (by rw [nats_len, nats_len, mark_len]; omega), by show (256 : Int) ≠ 0; decide, div_ok (b := 20) (by decide) (by decide), small 2, small _ (by rw [List.length_append, nats_len, nats_len, mark_len]; show _ + 2 ≤ 100000; omega), ?_⟩
  have e1 : ((t : Nat) : Int).fmod 256 = ((t % 256 : Nat) : Int) := by rw [Int.fmod_eq_emod_of_nonneg _ (by decide)]; exact (Int.natCast_emod _ _).symm
  have e2 : ((t : Nat) : Int).fdiv 256 = ((t / 256 : Nat) : Int) := by rw [Int.fdiv_eq_ediv_of_nonneg _ (by decide)]; exact (Int.natCast_ediv _ _).symm
  have e3 : natsD (mark (cnt b.length)) ++ natsD b ++ [D.int (((t : Nat) : Int).fmod 256), .int (((t : Nat) : Int).fdiv 256)] = natsD (mark (cnt b.length) ++ (b ++ tail2 t)) := by
    rw [e1, e2, ← List.append_assoc, ← natsD_app, ← natsD_app]
    rfl
  show Q' (natsD (mark (cnt b.length)) ++ natsD b ++ [D.int (((t : Nat) : Int).fmod 256), .int (((t : Nat) : Int).fdiv 256)])
  rw [e3]
  exact q
end
end K86
set_option maxRecDepth 100000
set_option maxHeartbeats 4000000
namespace K86
open PySem PySem.Spec PyProof.Rows L2 Pre Pd M85
/-! frames that lie there -/
theorem wsum_mod (b : List Nat) : wsum b % 65521 < 65521 := Nat.mod_lt _ (by decide)
theorem tail2_back (t : Nat) : t % 256 + 256 * (t / 256) = t := by omega
theorem frm_len (b : List Nat) : (frm b).length = (cnt b.length).length + b.length + 2 := by
  unfold frm tail2
  rw [List.length_append, List.length_append, mark_len]
  show _ + (_ + 2) = _
  omega
/-- what is read where a head of n and so much behind it lies -/
theorem fr_gen {os : List Nat} {a n : Nat} {rest : List Nat} (hn : n ≤ 100000) (h : os.drop a = mark (cnt n) ++ rest) :
    fr os a = if rest.length < n + 2 then none else if wsum (rest.take n) % 65521 = rest[n]?.getD 0 + 256 * rest[n + 1]?.getD 0 then some (rest.take n, a + (cnt n).length + n + 2) else none := by
  have e := rd_mark (cnt_can hn) h
  obtain ⟨c1, c2⟩ := cnt_len n
  obtain ⟨l1, l2⟩ := drop_len h (by intro z; have := congrArg List.length z; rw [List.length_append, mark_len, List.length_nil] at this; omega)
  rw [List.length_append, mark_len] at l1
  have e2 : os.drop (a + (cnt n).length) = rest := by rw [← List.drop_drop, h, ← mark_len, List.drop_left]
  unfold fr
  rw [e, cnt_val]
  show (if os.length < a + (cnt n).length + n + 2 then none else if wsum ((os.drop (a + (cnt n).length)).take n) % 65521 = os[a + (cnt n).length + n]?.getD 0 + 256 * os[a + (cnt n).length + n + 1]?.getD 0 then some ((os.drop (a + (cnt n).length)).take n, a + (cnt n).length + n + 2) else none) = _
  rw [e2, drop_at e2 n, show a + (cnt n).length + n + 1 = a + (cnt n).length + (n + 1) from by omega, drop_at e2 (n + 1)]
  by_cases hs : rest.length < n + 2
  · rw [if_pos hs, if_pos (by omega)]
  · rw [if_neg hs, if_neg (by omega)]
/-- a body that lies there with any two octets behind it -/
theorem fr_body {os : List Nat} {a : Nat} {b rest : List Nat} {x y : Nat} (hn : b.length ≤ 100000) (h : os.drop a = mark (cnt b.length) ++ (b ++ (x :: y :: rest))) :
    fr os a = if wsum b % 65521 = x + 256 * y then some (b, a + (cnt b.length).length + b.length + 2) else none := by
  rw [fr_gen hn h, if_neg (by rw [List.length_append]; show ¬ _ + (rest.length + 1 + 1) < _; omega), List.take_left]
  have e1 : (b ++ x :: y :: rest)[b.length]? = some x := by rw [List.getElem?_append_right (Nat.le_refl _), Nat.sub_self]; rfl
  have e2 : (b ++ x :: y :: rest)[b.length + 1]? = some y := by rw [List.getElem?_append_right (by omega), Nat.add_sub_cancel_left]; rfl
  rw [e1, e2]
  rfl
theorem fr_at {os : List Nat} {a : Nat} {b rest : List Nat} (hn : b.length ≤ 100000) (h : os.drop a = frm b ++ rest) : fr os a = some (b, a + (frm b).length) := by
  have h2 : os.drop a = mark (cnt b.length) ++ (b ++ ((wsum b % 65521 % 256) :: (wsum b % 65521 / 256) :: rest)) := by
    rw [h]
    unfold frm tail2
    rw [List.append_assoc, List.append_assoc]
    rfl
  rw [fr_body hn h2, tail2_back, if_pos rfl, frm_len]
  congr 2
  omega
theorem mark_take_big {gs : List Nat} {k x : Nat} (hk : k < gs.length) (hx : x ∈ (mark gs).take k) : 128 ≤ x := by
  have hg : gs ≠ [] := by rintro rfl; simp at hk
  obtain ⟨f, hf, e1, e2⟩ := mark_split hg
  rw [e2, List.take_append_of_le_length (by rw [List.length_map, List.length_dropLast]; omega)] at hx
  obtain ⟨y, _, rfl⟩ := List.mem_map.mp (List.mem_of_mem_take hx)
  omega
/-- a frame cut short -/
theorem fr_cut {os : List Nat} {a k : Nat} {b : List Nat} (hn : b.length ≤ 100000) (hk : k < (frm b).length) (h : os.drop a = (frm b).take k) : fr os a = none := by
  have ml := mark_len (gs := cnt b.length)
  by_cases hh : k < (cnt b.length).length
  · have e : os.drop a = (mark (cnt b.length)).take k := by
      rw [h]
      unfold frm
      rw [List.take_append_of_le_length (by omega)]
    have : rdN os a = none := rd_endless fun x hx => by
      rw [e] at hx
      exact mark_take_big hh hx
    unfold fr
    rw [this]
  · have e : os.drop a = mark (cnt b.length) ++ (b ++ tail2 (wsum b % 65521)).take (k - (cnt b.length).length) := by
      rw [h]
      unfold frm
      rw [List.take_append, ml, List.take_of_length_le (by omega)]
    rw [fr_gen hn e, if_pos]
    rw [frm_len] at hk
    rw [List.length_take]
    omega
def flat (bs : List (List Nat)) : List Nat := (bs.map frm).flatten
theorem flat_app (a b : List (List Nat)) : flat (a ++ b) = flat a ++ flat b := by unfold flat; rw [List.map_append, List.flatten_append]
theorem flat_cons (b : List Nat) (bs : List (List Nat)) : flat (b :: bs) = frm b ++ flat bs := rfl
theorem frs_flat {os rest : List Nat} : ∀ {bs : List (List Nat)} {a : Nat}, (∀ b ∈ bs, b.length ≤ 100000) → os.drop a = flat bs ++ rest → fr os (a + (flat bs).length) = none → Frs os a bs (a + (flat bs).length)
  | [], a, _, _, h => .stop h
  | b :: bs, a, hb, h, hs => by
    rw [flat_cons] at h hs ⊢
    rw [List.append_assoc] at h
    have h1 := fr_at (hb b List.mem_cons_self) h
    have h2 : os.drop (a + (frm b).length) = flat bs ++ rest := by rw [← List.drop_drop, h, List.drop_left]
    rw [List.length_append, ← Nat.add_assoc] at hs ⊢
    exact .step h1 (frs_flat (fun x hx => hb x (List.mem_cons_of_mem _ hx)) h2 hs)
theorem fr_end {os : List Nat} {a : Nat} (h : os.length ≤ a) : fr os a = none := by
  unfold fr
  rw [rd_out h]
/-- all of a row of frames -/
theorem frs_all {bs : List (List Nat)} (hb : ∀ b ∈ bs, b.length ≤ 100000) : Frs (flat bs) 0 bs (flat bs).length := by
  have := frs_flat (os := flat bs) (rest := []) (a := 0) hb (by rw [List.append_nil]; rfl) (by rw [Nat.zero_add]; exact fr_end (Nat.le_refl _))
  rwa [Nat.zero_add] at this
/-- frames ahead of something that is none -/
theorem frs_ahead {bs : List (List Nat)} {rest : List Nat} (hb : ∀ b ∈ bs, b.length ≤ 100000) (h : fr (flat bs ++ rest) (flat bs).length = none) : Frs (flat bs ++ rest) 0 bs (flat bs).length := by
  have := frs_flat (os := flat bs ++ rest) (rest := rest) (a := 0) hb rfl (by rw [Nat.zero_add]; exact h)
  rwa [Nat.zero_add] at this
theorem oct_mark {n : Nat} (h : n ≤ 100000) : Oct (mark (cnt n)) := by
  have c := cnt_can h
  obtain ⟨f, hf, e1, e2⟩ := mark_split c.ne
  intro x hx
  rw [e2] at hx
  rcases List.mem_append.mp hx with hx | hx
  · obtain ⟨y, hy, rfl⟩ := List.mem_map.mp hx
    have := c.dig y (List.dropLast_subset _ hy)
    omega
  · have := c.dig f (List.mem_of_getLast? hf)
    rw [List.mem_singleton.mp hx]
    omega
theorem oct_frm {b : List Nat} (h : Oct b) (hl : b.length ≤ 100000) : Oct (frm b) := by
  unfold frm
  refine (oct_mark hl).app (h.app fun x hx => ?_)
  have := wsum_mod b
  simp only [tail2, List.mem_cons, List.not_mem_nil, or_false] at hx
  omega
theorem oct_flat : ∀ {bs : List (List Nat)}, (∀ b ∈ bs, Oct b ∧ b.length ≤ 100000) → Oct (flat bs)
  | [], _ => fun x hx => by cases hx
  | b :: bs, h => by
    rw [flat_cons]
    exact (oct_frm (h b List.mem_cons_self).1 (h b List.mem_cons_self).2).app (oct_flat fun x hx => h x (List.mem_cons_of_mem _ hx))
end K86
set_option maxRecDepth 100000
set_option maxHeartbeats 4000000
namespace K86
open PySem PySem.Spec PyProof.Rows L2 Pre Pd M85
/-- bodies as they are drawn -/
structure GB (b : List Nat) : Prop where
  oct : Oct b
  len : b.length ≤ 4100
def lD (b : List Nat) : D := .lst (natsD b)
def prD (b : List Nat) : D := .tup [lD b, lD (frm b)]
section
variable {P : Program} {w : World} {K : PySem.W.Frag} {mg : Str → Option Value} {base : Heap} (T : Tx K mg) {Q : D → Prop} {R : Err → Prop}
theorem is_told_s {bs : List (List Nat)} {z : Nat} {z' : Int} (hb : ∀ b ∈ bs, b.length ≤ 100000) (hl : bs.length ≤ 100000) (hz : z' = ((z : Nat) : Int)) (q : Q (.bl true)) : F_law_is_told T [.tup [.tup (manyD bs), nD z], .lst (bs.map lD), .int z'] Q R := by
  subst hz
  unfold F_law_is_told Fr_law_is_told
  have l1 : (manyD bs).length = bs.length := List.length_map _
  have l2 : (bs.map lD).length = bs.length := List.length_map _
  refine isi_plain rfl (wF rfl (eqi (wF rfl (ixt 0 rfl (isi_plain rfl (wF rfl (ixt 0 rfl (eqi (wF ?_ (next_ok ?_)))))))))) 
  · show (!decide (((manyD bs).length : Int) = ((bs.map lD).length : Int))) = false
    rw [l1, l2]
    exact nT rfl
  refine for_inv (rangeD 0 bs.length) (fun Q' R' k => ⟨⟨by omega, by show ((bs.map lD).length : Int) < 2 ^ 62; omega⟩, by rw [l2]; exact k⟩) (fun i e => ∃ a : Sl, e = [.v (.tup [.tup (manyD bs), nD z]), .v (.lst (bs.map lD)), .v (nD z), a]) ⟨.no, rfl⟩ ?_ ?_
  · rintro i d e0 Q' hd ⟨a, rfl⟩ hq
    obtain ⟨hi, rfl⟩ := range_at hd
    obtain ⟨b, hbi⟩ : ∃ b, bs[i]? = some b := ⟨_, List.getElem?_eq_getElem hi⟩
    refine ⟨_, rfl, ixt 0 rfl (ixt i (d := bD b) (by unfold manyD; rw [List.getElem?_map, hbi]; rfl) (ixl i (d := lD b) (by rw [List.getElem?_map, hbi]; rfl) ⟨rfl, ?_⟩))⟩
    exact is_row_s T (hb b (List.mem_of_getElem? hbi)) (wF rfl (next_ok (hq.nx _ ⟨_, rfl⟩)))
  · rintro e ⟨a, rfl⟩
    refine ixt 1 rfl (isi_plain rfl (wT rfl (ixt 1 rfl (isi_plain rfl (wT rfl (ixt 1 rfl (eqi ?_)))))))
    show Q (.bl (decide (((z : Nat) : Int) = (z : Int))))
    rw [decide_eq_true rfl]
    exact q
theorem flat_s {bs : List (List Nat)} (hl : bs.length ≤ 6) (hb : ∀ b ∈ bs, GB b) (q : Q (lD (flat bs))) : F_law_flat T [.lst (bs.map prD)] Q R := by
  unfold F_law_flat Fr_law_flat
  have fl : ∀ cs : List (List Nat), (∀ b ∈ cs, GB b) → (flat cs).length ≤ cs.length * 4200 := by
    intro cs
    induction cs with
    | nil => intro _; exact Nat.le_refl _
    | cons c cs ih =>
      intro h
      have h1 := ih fun x hx => h x (List.mem_cons_of_mem _ hx)
      have h2 := (h c List.mem_cons_self).len
      obtain ⟨c1, c2⟩ := cnt_len c.length
      rw [flat_cons, List.length_append, frm_len, List.length_cons, Nat.succ_mul]
      omega
  refine ⟨small 0, ?_⟩
  refine for_inv (bs.map prD) (by exact fun Q' R' k => k) (fun i e => ∃ (a b : Sl), e = [.v (.lst (bs.map prD)), .l (natsD (flat (bs.take i))), a, b]) ⟨.no, .no, rfl⟩ ?_ ?_
  · rintro i d e0 Q' hd ⟨a, b', rfl⟩ hq
    obtain ⟨b, hbi, rfl⟩ := map_at hd
    have hm := List.mem_of_getElem? hbi
    have e1 : natsD (flat (bs.take i)) ++ natsD (frm b) = natsD (flat (bs.take (i + 1))) := by
      rw [natsD_app, List.take_add_one, hbi, flat_app]
      congr 2
      show frm b = flat [b]
      unfold flat
      simp
    have h1 := fl (bs.take i) fun x hx => hb x (List.mem_of_mem_take hx)
    have h2 := (hb b hm).len
    obtain ⟨c1, c2⟩ := cnt_len b.length
    have h3 : (bs.take i).length ≤ 6 := by rw [List.length_take]; omega
    have h4 := Nat.mul_le_mul_right 4200 h3
    refine ⟨_, rfl, small _ (by rw [nats_len, nats_len, frm_len]; omega), hq.nx _ ⟨.v (lD b), .v (lD (frm b)), ?_⟩⟩
    rw [← e1]
    rfl
  · rintro e ⟨a, b', rfl⟩
    rw [List.length_map, List.take_length]
    exact q
/-- how many whole frames lie ahead of a cut -/
def ahead (cut : Nat) : List (List Nat) → Nat → Nat
  | [], _ => 0
  | b :: bs, p => if cut < p + (frm b).length then 0 else ahead cut bs (p + (frm b).length) + 1
theorem ahead_nil (cut p : Nat) : ahead cut [] p = 0 := rfl
theorem ahead_cons (cut p : Nat) (b : List Nat) (bs : List (List Nat)) : ahead cut (b :: bs) p = if cut < p + (frm b).length then 0 else ahead cut bs (p + (frm b).length) + 1 := rfl
theorem ahead_s {bs : List (List Nat)} {cut : Nat} (q : Q (.tup [nD (ahead cut bs 0), nD (flat (bs.take (ahead cut bs 0))).length])) : F_law_ahead T [.lst (bs.map prD), nD cut] Q R := by
  unfold F_law_ahead Fr_law_ahead
  refine ⟨small 2, ?_⟩
  refine for_inv (bs.map prD) (by exact fun Q' R' k => k) (fun i e => ∃ (a b : Sl), e = [.v (.lst (bs.map prD)), .v (nD cut), .v (nD i), .v (nD (flat (bs.take i)).length), a, b] ∧ ahead cut bs 0 = i + ahead cut (bs.drop i) (flat (bs.take i)).length) ⟨.no, .no, rfl, by simp [flat]⟩ ?_ ?_
  · rintro i d e0 Q' hd ⟨a, b', rfl, hA⟩ hq
    obtain ⟨b, hbi, rfl⟩ := map_at hd
    have hi := (List.getElem?_eq_some_iff.mp hbi).1
    have ed : bs.drop i = b :: bs.drop (i + 1) := by rw [List.drop_eq_getElem_cons hi, (List.getElem?_eq_some_iff.mp hbi).2]
    have el : (flat (bs.take (i + 1))).length = (flat (bs.take i)).length + (frm b).length := by
      rw [List.take_add_one, hbi, flat_app, List.length_append]
      congr 1
      show (flat [b]).length = _
      unfold flat
      simp
    rw [ed, ahead_cons] at hA
    refine ⟨_, rfl, ?_⟩
    have hl : ((natsD (frm b)).length : Int) = (((frm b).length : Nat) : Int) := by rw [nats_len]
    refine wTF (fun h => ?_) (fun h => next_ok ?_)
    · have h : (cut : Int) < ((flat (bs.take i)).length : Int) + ((natsD (frm b)).length : Int) := of_decide_eq_true h
      rw [if_pos (by omega), Nat.add_zero] at hA
      rw [hA] at q
      exact ⟨small 2, hq.rt _ q⟩
    · have h : ¬ (cut : Int) < ((flat (bs.take i)).length : Int) + ((natsD (frm b)).length : Int) := of_decide_eq_false h
      rw [if_neg (by omega)] at hA
      refine hq.nx _ ⟨.v (lD b), .v (lD (frm b)), ?_, by rw [hA, el]; omega⟩
      rw [el]
      show [_, _, Sl.v (.int ((i : Int) + 1)), Sl.v (.int (((flat (bs.take i)).length : Int) + ((natsD (frm b)).length : Int))), _, _] = _
      rw [hl]
      rfl
  · rintro e ⟨a, b', rfl, hA⟩
    rw [List.length_map, List.drop_length] at hA
    rw [ahead_nil, Nat.add_zero] at hA
    rw [List.length_map]
    rw [hA] at q
    exact ⟨small 2, q⟩
end
end K86
set_option maxRecDepth 100000
set_option maxHeartbeats 4000000
namespace K86
open PySem PySem.Spec PyProof.Rows L2 Pre Pd M85
section
variable {P : Program} {w : World} {K : PySem.W.Frag} {mg : Str → Option Value} {base : Heap} (T : Tx K mg) {Q : D → Prop} {R : Err → Prop}
theorem rep_D (b : List Nat) (n : Nat) : (List.replicate ((n : Nat) : Int).toNat (natsD b)).flatten = natsD (rep b n) := by
  rw [Int.toNat_natCast]
  unfold natsD rep
  rw [List.map_flatten, List.map_replicate]
theorem body_tail5 {b : List Nat} {many : Nat} {x5 : Sl} {g : Bool} (h : Oct b) (b0 : many ≠ 0 → 1 ≤ b.length) (b9 : b.length ≤ 6) (hm : many ≤ 4000) (q : ∀ b : List Nat, GB b → Q (.tup [lD b, nD (wsum b % 65521)])) :
    (wSeq (wIfS (wOpB (φEqU false) (wVar 2) (wC (.int 0))) (wRet (wTup (wCons (wLV (wLst wNil)) (wCons (wC (.int 0)) wNil)))) wNext)
      (wSeq (wSetS 4 (wSv (wOp φFdv (wVar 2) (wBt φLen (wCons (wVar 3) wNil)))))
      (wRet (wTup (wCons (wOp φMul (wVar 3) (wVar 4)) (wCons (wCall 2 (F_law_block_sum T) (wCons (wVar 3) (wCons (wVar 4) wNil))) wNil)))))) [.v dBox, .v (.bl g), .v (nD many), .v (.lst (natsD b)), .no, x5] (fin Q R) := by
  by_cases h0 : many = 0
  · exact eqi (wT (decide_eq_true (by omega)) ⟨small 0, small 2, q [] ⟨(fun x hx => by cases hx), (by decide)⟩⟩)
  refine eqi (wF (decide_eq_false (by omega)) (next_ok ?_))
  have lb := nats_len b
  have bl := b0 h0
  have go : ∀ z : Int, z = ((many / b.length : Nat) : Int) → (wRet (wTup (wCons (wOp φMul (wVar 3) (wVar 4)) (wCons (wCall 2 (F_law_block_sum T) (wCons (wVar 3) (wCons (wVar 4) wNil))) wNil)))) [.v dBox, .v (.bl g), .v (nD many), .v (.lst (natsD b)), .v (.int z), x5] (fin Q R) := by
    rintro z rfl
    have hd : many / b.length * b.length ≤ many := Nat.div_mul_le_self _ _
    have hd2 : many / b.length ≤ many := Nat.div_le_self _ _
    generalize many / b.length = md at *
    refine ⟨⟨by omega, by omega, by rw [lb, Int.toNat_natCast, Nat.mul_comm, sizeLine_eq]; omega⟩, rfl, block_sum_s T h bl (by omega) (by omega) ⟨small 2, ?_⟩⟩
    show Q (.tup [.lst (List.replicate ((md : Nat) : Int).toNat (natsD b)).flatten, nD (wsum (rep b (md)) % 65521)])
    rw [rep_D]
    exact q _ ⟨fun x hx => h x (rep_mem hx), by rw [rep_len]; omega⟩
  have ed : ((many : Nat) : Int).fdiv ((natsD b).length : Int) = ((many / b.length : Nat) : Int) := by
    rw [lb, Int.fdiv_eq_ediv_of_nonneg _ (by omega)]
    exact (Int.natCast_ediv _ _).symm
  exact ⟨div_ok (b := 20) (by rw [lb]; omega) (by rw [lb]; omega), go _ ed⟩
theorem body_s {g : Bool} (q : ∀ b : List Nat, GB b → Q (.tup [lD b, nD (wsum b % 65521)])) : F_law_body T [dBox, .bl g] Q R := by
  unfold F_law_body Fr_law_body
  have go3 : ∀ many : Nat, many ≤ 4000 → (wSeq (wSetL 3 (wComp [5] (wRng1 (wCons (wOp φAdd (wC (.int 1)) (wCall 2 (F_law_take T) (wCons (wVar 0) (wCons (wC (.int 6)) wNil)))) wNil)) (sName 5) wYes (wCall 2 (F_law_pick T) (wCons (wVar 0) (wCons (wLV (wLst (wCons (wC (.int 0)) (wCons (wC (.int 1)) (wCons (wC (.int 255)) (wCons (wC (.int 128)) (wCons (wCall 2 (F_law_take T) (wCons (wVar 0) (wCons (wC (.int 256)) wNil))) wNil))))))) wNil)))))
      (wLet 3 (wSeq (wIfS (wOpB φLtU (wVar 2) (wBt φLen (wCons (wVar 3) wNil))) (wSetS 3 (wSv (wSl φSlU (wVar 3) wNoP (wPart (wVar 2))))) wNext)
      (wSeq (wIfS (wOpB (φEqU false) (wVar 2) (wC (.int 0))) (wRet (wTup (wCons (wLV (wLst wNil)) (wCons (wC (.int 0)) wNil)))) wNext)
      (wSeq (wSetS 4 (wSv (wOp φFdv (wVar 2) (wBt φLen (wCons (wVar 3) wNil)))))
      (wRet (wTup (wCons (wOp φMul (wVar 3) (wVar 4)) (wCons (wCall 2 (F_law_block_sum T) (wCons (wVar 3) (wCons (wVar 4) wNil))) wNil))))))))) [.v dBox, .v (.bl g), .v (nD many), .no, .no, .no] (fin Q R) := by
    intro many hm
    refine ⟨rfl, take_s T (by decide) (by decide) fun r hr => ⟨⟨by omega, by omega⟩, ?_⟩⟩
    refine lc_rel (fun i y => ∃ n : Nat, n ≤ 255 ∧ y = nD n) (small _ (by rw [range_len]; omega)) (fun i d Q' hd hq => ⟨_, rfl, rfl, take_s T (by decide) (by decide) fun r2 hr2 => ⟨small 5, rfl, ?_⟩⟩) fun ys hy1 hy2 => ?_
    · refine (show F_law_pick T [dBox, .lst (natsD [0, 1, 255, 128, r2])] _ _ from pick_nats T _ (by simp) (by simp) fun n hn => hq _ ⟨n, ?_, rfl⟩)
      simp only [List.mem_cons, List.not_mem_nil, or_false] at hn
      omega
    rw [range_len] at hy1
    obtain ⟨b, rfl, _, h255⟩ := choose_list nD (fun _ => ()) (fun n => n ≤ 255) (ys := ys) (ns := List.replicate ys.length ()) (by simp) fun i y hy => by
      obtain ⟨n, h1, rfl⟩ := hy2 i y hy
      exact ⟨n, by rw [List.getElem?_replicate, if_pos (List.getElem?_eq_some_iff.mp hy).1], h1, rfl⟩
    rw [List.length_map] at hy1
    have lb := nats_len b
    refine wTF (fun h => ?_) (fun h => next_ok ?_)
    · have h : (many : Int) < ((natsD b).length : Int) := of_decide_eq_true h
      rw [lb] at h
      have ec : Pd.cutD (natsD b) none (some (many : Int)) = natsD (b.take many) := by
        rw [cutD_n0]
        unfold natsD
        rw [← List.map_take]
      have go : ∀ ds : List D, ds = natsD (b.take many) → (wSeq (wIfS (wOpB (φEqU false) (wVar 2) (wC (.int 0))) (wRet (wTup (wCons (wLV (wLst wNil)) (wCons (wC (.int 0)) wNil)))) wNext)
      (wSeq (wSetS 4 (wSv (wOp φFdv (wVar 2) (wBt φLen (wCons (wVar 3) wNil)))))
      (wRet (wTup (wCons (wOp φMul (wVar 3) (wVar 4)) (wCons (wCall 2 (F_law_block_sum T) (wCons (wVar 3) (wCons (wVar 4) wNil))) wNil)))))) [.v dBox, .v (.bl g), .v (nD many), .v (.lst ds), .no, .no] (fin Q R) := by
        rintro ds rfl
        exact body_tail5 T (fun x hx => h255 x (List.mem_of_mem_take hx)) (fun h0 => by rw [List.length_take]; omega) (by rw [List.length_take]; omega) hm q
      exact go _ ec
    · have h : ¬ (many : Int) < ((natsD b).length : Int) := of_decide_eq_false h
      exact body_tail5 T h255 (fun h0 => by omega) (by omega) hm q
  have go2 : ∀ many : Nat, many ≤ 4000 → (wSeq (wIfS (wTru (wVar 1)) (wSetS 2 (wSv (wCall 2 (F_law_pick T) (wCons (wVar 0) (wCons (wLV (wLst (wCons (wC (.int 3999)) (wCons (wC (.int 4000)) (wCons (wOp φAdd (wC (.int 1000)) (wCall 2 (F_law_take T) (wCons (wVar 0) (wCons (wC (.int 3000)) wNil)))) wNil))))) wNil))))) wNext)
      (wSeq (wSetL 3 (wComp [5] (wRng1 (wCons (wOp φAdd (wC (.int 1)) (wCall 2 (F_law_take T) (wCons (wVar 0) (wCons (wC (.int 6)) wNil)))) wNil)) (sName 5) wYes (wCall 2 (F_law_pick T) (wCons (wVar 0) (wCons (wLV (wLst (wCons (wC (.int 0)) (wCons (wC (.int 1)) (wCons (wC (.int 255)) (wCons (wC (.int 128)) (wCons (wCall 2 (F_law_take T) (wCons (wVar 0) (wCons (wC (.int 256)) wNil))) wNil))))))) wNil)))))
      (wLet 3 (wSeq (wIfS (wOpB φLtU (wVar 2) (wBt φLen (wCons (wVar 3) wNil))) (wSetS 3 (wSv (wSl φSlU (wVar 3) wNoP (wPart (wVar 2))))) wNext)
      (wSeq (wIfS (wOpB (φEqU false) (wVar 2) (wC (.int 0))) (wRet (wTup (wCons (wLV (wLst wNil)) (wCons (wC (.int 0)) wNil)))) wNext)
      (wSeq (wSetS 4 (wSv (wOp φFdv (wVar 2) (wBt φLen (wCons (wVar 3) wNil)))))
      (wRet (wTup (wCons (wOp φMul (wVar 3) (wVar 4)) (wCons (wCall 2 (F_law_block_sum T) (wCons (wVar 3) (wCons (wVar 4) wNil))) wNil)))))))))) [.v dBox, .v (.bl g), .v (nD many), .no, .no, .no] (fin Q R) := by
    intro many hm
    refine wTF (fun h => ?_) (fun h => next_ok (go3 many hm))
    refine ⟨rfl, take_s T (by decide) (by decide) fun r hr => ⟨small 3, rfl, ?_⟩⟩
    refine (show F_law_pick T [dBox, .lst (natsD [3999, 4000, 1000 + r])] _ _ from pick_nats T _ (by simp) (by simp) fun n hn => ?_)
    simp only [List.mem_cons, List.not_mem_nil, or_false] at hn
    exact go3 n (by omega)
  have go1 : ∀ many : Nat, many ≤ 4000 → (wSeq (wIfS (wOpB (φEqU false) (wCall 2 (F_law_take T) (wCons (wVar 0) (wCons (wC (.int 3)) wNil))) (wC (.int 0))) (wSetS 2 (wSv (wCall 2 (F_law_pick T) (wCons (wVar 0) (wCons (wLV (wLst (wCons (wC (.int 126)) (wCons (wC (.int 127)) (wCons (wC (.int 128)) (wCons (wC (.int 129)) (wCons (wC (.int 255)) (wCons (wC (.int 256)) (wCons (wC (.int 300)) wNil))))))))) wNil))))) wNext)
      (wSeq (wIfS (wTru (wVar 1)) (wSetS 2 (wSv (wCall 2 (F_law_pick T) (wCons (wVar 0) (wCons (wLV (wLst (wCons (wC (.int 3999)) (wCons (wC (.int 4000)) (wCons (wOp φAdd (wC (.int 1000)) (wCall 2 (F_law_take T) (wCons (wVar 0) (wCons (wC (.int 3000)) wNil)))) wNil))))) wNil))))) wNext)
      (wSeq (wSetL 3 (wComp [5] (wRng1 (wCons (wOp φAdd (wC (.int 1)) (wCall 2 (F_law_take T) (wCons (wVar 0) (wCons (wC (.int 6)) wNil)))) wNil)) (sName 5) wYes (wCall 2 (F_law_pick T) (wCons (wVar 0) (wCons (wLV (wLst (wCons (wC (.int 0)) (wCons (wC (.int 1)) (wCons (wC (.int 255)) (wCons (wC (.int 128)) (wCons (wCall 2 (F_law_take T) (wCons (wVar 0) (wCons (wC (.int 256)) wNil))) wNil))))))) wNil)))))
      (wLet 3 (wSeq (wIfS (wOpB φLtU (wVar 2) (wBt φLen (wCons (wVar 3) wNil))) (wSetS 3 (wSv (wSl φSlU (wVar 3) wNoP (wPart (wVar 2))))) wNext)
      (wSeq (wIfS (wOpB (φEqU false) (wVar 2) (wC (.int 0))) (wRet (wTup (wCons (wLV (wLst wNil)) (wCons (wC (.int 0)) wNil)))) wNext)
      (wSeq (wSetS 4 (wSv (wOp φFdv (wVar 2) (wBt φLen (wCons (wVar 3) wNil)))))
      (wRet (wTup (wCons (wOp φMul (wVar 3) (wVar 4)) (wCons (wCall 2 (F_law_block_sum T) (wCons (wVar 3) (wCons (wVar 4) wNil))) wNil))))))))))) [.v dBox, .v (.bl g), .v (nD many), .no, .no, .no] (fin Q R) := by
    intro many hm
    refine ⟨rfl, take_s T (by decide) (by decide) fun r hr => eqi (wTF (fun h => ?_) (fun h => next_ok (go2 many hm)))⟩
    refine ⟨small 7, rfl, ?_⟩
    refine (show F_law_pick T [dBox, .lst (natsD [126, 127, 128, 129, 255, 256, 300])] _ _ from pick_nats T _ (by decide) (by decide) fun n hn => ?_)
    simp only [List.mem_cons, List.not_mem_nil, or_false] at hn
    exact go2 n (by omega)
  refine ⟨small 9, rfl, ?_⟩
  refine (show F_law_pick T [dBox, .lst (natsD [0, 1, 1, 2, 3, 5, 8, 20, 60])] _ _ from pick_nats T _ (by decide) (by decide) fun n hn => ?_)
  simp only [List.mem_cons, List.not_mem_nil, or_false] at hn
  exact go1 n (by omega)
theorem row_s {g : Bool} (q : ∀ bs : List (List Nat), 1 ≤ bs.length → bs.length ≤ 6 → (∀ b ∈ bs, GB b) → Q (.lst (bs.map prD))) : F_law_row T [dBox, .bl g] Q R := by
  unfold F_law_row Fr_law_row
  have go : ∀ g2 : Bool, (wSeq (wFor (wRng1 (wCons (wOp φAdd (wC (.int 1)) (wCall 2 (F_law_take T) (wCons (wVar 0) (wCons (wC (.int 6)) wNil)))) wNil)) (sName 4) (wSeq (wAsg (wCall 2 (F_law_body T) (wCons (wVar 0) (wCons (wAndV (wVar 2) (wOp φLtU (wVar 4) (wC (.int 1)))) wNil))) (sTup 2 (sCons (sName 5) (sCons (sName 6) sNil))))
      (wApp' 3 (wTup (wCons (wVar 5) (wCons (wLV (wCallN 2 (F_law_framed T) (wCons (wVar 5) (wCons (wVar 6) wNil)))) wNil))))))
      (wLet 3 (wRet (wVar 3)))) [.v dBox, .v (.bl g), .v (.bl g2), .l [], .no, .no, .no] (fin Q R) := by
    intro g2
    refine for_go (Dk := fun ds => ∃ n, 1 ≤ n ∧ n ≤ 6 ∧ ds = rangeD 0 n) (fun Q' R' k => ?_) fun ds hds => ?_
    · refine ⟨rfl, take_s T (by decide) (by decide) fun r hr => ⟨⟨by omega, by omega⟩, ?_⟩⟩
      exact k _ ⟨1 + r, by omega, by omega, by rw [show ((1 : Int) + (r : Int)).toNat = 1 + r from by omega]⟩
    obtain ⟨n, n1, n6, rfl⟩ := hds
    refine loop0 (fun i e => ∃ (bs : List (List Nat)) (a b c : Sl), e = [.v dBox, .v (.bl g), .v (.bl g2), .l (bs.map prD), a, b, c] ∧ bs.length = i ∧ ∀ b ∈ bs, GB b) ⟨[], .no, .no, .no, rfl, rfl, by simp⟩ ?_ ?_
    · rintro i d e0 Q' hd ⟨bs, a, b, c, rfl, hl, hg⟩ hq
      obtain ⟨hi, rfl⟩ := range_at hd
      refine ⟨_, rfl, ?_⟩
      have step : ∀ {g3 : Bool}, F_law_body T [dBox, .bl g3] (fun d => match sTup 2 (sCons (sName 5) (sCons (sName 6) sNil)) d [.v dBox, .v (.bl g), .v (.bl g2), .l (bs.map prD), .v (.int (i : Int)), b, c] with | some e => wApp' 3 (wTup (wCons (wVar 5) (wCons (wLV (wCallN 2 (F_law_framed T) (wCons (wVar 5) (wCons (wVar 6) wNil)))) wNil))) e Q' | none => False) (fun e => Q' (.er [.v dBox, .v (.bl g), .v (.bl g2), .l (bs.map prD), .v (.int (i : Int)), b, c] e)) := by
        intro g3
        refine body_s T fun bo hbo => ?_
        have hlen := hbo.len
        refine ⟨rfl, framed_s T (by omega) (by have := wsum_mod bo; omega) ⟨small 2, by rw [List.length_map, sizeLine_eq]; omega, hq.nx _ ⟨bs ++ [bo], .v (.int (i : Int)), .v (lD bo), .v (nD (wsum bo % 65521)), ?_, by rw [List.length_append, hl]; rfl, fun x hx => ?_⟩⟩⟩
        · rw [List.map_append]
          rfl
        · rcases List.mem_append.mp hx with h | h
          · exact hg x h
          · rw [List.mem_singleton.mp h]
            exact hbo
      have kern : ∀ {g3 : Bool} {PP : D → Prop} {RR : Err → Prop}, F_law_body T [dBox, .bl g3] PP RR → wCall 2 (F_law_body T) (wCons (wVar 0) (wCons (wC (.bl g3)) wNil)) [.v dBox, .v (.bl g), .v (.bl g2), .l (bs.map prD), .v (.int (i : Int)), b, c] PP RR := fun h => ⟨rfl, h⟩
      cases g2 with
      | true => exact ⟨rfl, step⟩
      | false => exact ⟨rfl, step⟩
    · rintro e ⟨bs, a, b, c, rfl, hl, hg⟩
      rw [range_len] at hl
      exact q bs (by omega) (by omega) hg
  cases g with
  | true => exact ⟨rfl, take_s T (by decide) (by decide) fun r hr => eqi ⟨small 0, go _⟩⟩
  | false => exact ⟨small 0, go _⟩
end
end K86
set_option maxRecDepth 100000
set_option maxHeartbeats 4000000
namespace K86
open PySem PySem.Spec PyProof.Rows L2 Pre Pd M85
theorem flat_len : ∀ {bs : List (List Nat)}, (∀ b ∈ bs, GB b) → (flat bs).length ≤ bs.length * 4200
  | [], _ => Nat.le_refl _
  | c :: cs, h => by
    have h1 := flat_len fun x hx => h x (List.mem_cons_of_mem _ hx)
    have h2 := (h c List.mem_cons_self).len
    obtain ⟨c1, c2⟩ := cnt_len c.length
    rw [flat_cons, List.length_append, frm_len, List.length_cons, Nat.succ_mul]
    omega
theorem flat_oct {bs : List (List Nat)} (h : ∀ b ∈ bs, GB b) : Oct (flat bs) := oct_flat fun b hb => ⟨(h b hb).oct, by have := (h b hb).len; omega⟩
theorem gb_len {bs : List (List Nat)} (h : ∀ b ∈ bs, GB b) : ∀ b ∈ bs, b.length ≤ 100000 := fun b hb => by have := (h b hb).len; omega
theorem ahead_ok {c : Nat} : ∀ (bs : List (List Nat)) (p : Nat), p ≤ c → p + (flat (bs.take (ahead c bs p))).length ≤ c ∧ ahead c bs p ≤ bs.length ∧ ∀ b, bs[ahead c bs p]? = some b → c < p + (flat (bs.take (ahead c bs p))).length + (frm b).length
  | [], p, h => ⟨by simp [flat, ahead_nil]; exact h, by rw [ahead_nil]; exact Nat.zero_le _, fun b hb => by cases hb⟩
  | b :: bs, p, h => by
    rw [ahead_cons]
    by_cases hc : c < p + (frm b).length
    · rw [if_pos hc]
      refine ⟨by simp [flat]; exact h, Nat.zero_le _, fun b' hb => ?_⟩
      have : b = b' := by simpa using hb
      subst this
      simp [flat]
      omega
    · rw [if_neg hc]
      obtain ⟨h1, h2, h3⟩ := ahead_ok (c := c) bs (p + (frm b).length) (by omega)
      rw [List.take_succ_cons, flat_cons, List.length_append]
      refine ⟨by omega, by rw [List.length_cons]; omega, fun b' hb => ?_⟩
      have := h3 b' (by simpa using hb)
      omega
theorem frs_take {bs : List (List Nat)} {c : Nat} (hb : ∀ b ∈ bs, b.length ≤ 100000) : Frs ((flat bs).take c) 0 (bs.take (ahead c bs 0)) (flat (bs.take (ahead c bs 0))).length := by
  obtain ⟨h1, h2, h3⟩ := ahead_ok (c := c) bs 0 (Nat.zero_le _)
  generalize ahead c bs 0 = m at *
  rw [Nat.zero_add] at h1
  have e : (flat bs).take c = flat (bs.take m) ++ (flat (bs.drop m)).take (c - (flat (bs.take m)).length) := by
    have := congrArg flat (List.take_append_drop m bs)
    rw [flat_app] at this
    rw [← this, List.take_append, List.take_of_length_le h1]
  rw [e]
  refine frs_ahead (fun b h => hb b (List.mem_of_mem_take h)) ?_
  by_cases hm : m < bs.length
  · have h4 := h3 bs[m] (List.getElem?_eq_getElem hm)
    have ed : bs.drop m = bs[m] :: bs.drop (m + 1) := List.drop_eq_getElem_cons hm
    refine fr_cut (b := bs[m]) (k := c - (flat (bs.take m)).length) (hb _ (List.getElem_mem hm)) (by omega) ?_
    rw [List.drop_left, ed, flat_cons, List.take_append_of_le_length (by omega)]
  · have ed : bs.drop m = [] := List.drop_eq_nil_of_le (by omega)
    rw [ed]
    refine fr_end ?_
    simp [flat]
section
variable {P : Program} {w : World} {K : PySem.W.Frag} {mg : Str → Option Value} {base : Heap} (T : Tx K mg) {Q : D → Prop} {R : Err → Prop}
theorem firsts_s {bs : List (List Nat)} {env : En} {vs : List Nat} {P' : D → Prop} {R' : Err → Prop} {fi : Fx (List D)} {v : Nat} (hl : bs.length ≤ 100) (hv : v < (wipeE env [v]).length) (hi : ∀ (Q' : List D → Prop) (R' : Err → Prop), Q' (bs.map prD) → fi env Q' R') (q : P' (.lst (bs.map lD))) :
    wLV (wComp [v] fi (sName v) wYes (wOp φIxU (wVar v) (wC (.int 0)))) env P' R' := by
  refine hi _ _ ?_
  refine lc_map (fun d => match d with | .tup [x, _] => x | y => y) (small _ (by rw [List.length_map]; omega)) (fun d hd Q' hq => ?_) ?_
  · obtain ⟨b, _, rfl⟩ := List.mem_map.mp hd
    refine ⟨_, rfl, var_ok (R := fun _ => False) (by rw [List.getElem?_set_self hv]) ?_⟩
    exact ixt 0 rfl hq
  · have e : (bs.map prD).map (fun d => match d with | .tup [x, _] => x | y => y) = bs.map lD := by
      rw [List.map_map]
      rfl
    rw [e]
    exact q
theorem frames_hold_s {bs : List (List Nat)} (h1 : 1 ≤ bs.length) (h6 : bs.length ≤ 6) (hg : ∀ b ∈ bs, GB b) (q : Q (.bl true)) : F_law_frames_hold T [.lst (bs.map prD)] Q R := by
  unfold F_law_frames_hold Fr_law_frames_hold
  have fl := flat_len hg
  have fl6 := Nat.mul_le_mul_right 4200 h6
  have one : ∀ {b : List Nat} {Q' : D → Prop} {R' : Err → Prop}, GB b → Q' (.bl true) → F_frame T [bD b] (fun d => F_law_is_row T [d, lD (frm b)] Q' R') R' := fun {b Q' R'} gb q' => by
    have hlen := gb.len
    obtain ⟨c1, c2⟩ := cnt_len b.length
    exact frame_s T (by omega) gb.oct.small (is_row_s T (by rw [frm_len]; omega) q')
  refine for_inv (bs.map prD) (by exact fun Q' R' k => k) (fun i e => ∃ a b : Sl, e = [.v (.lst (bs.map prD)), a, b, .no]) ⟨.no, .no, rfl⟩ ?_ ?_
  · rintro i d e0 Q' hd ⟨a, b', rfl⟩ hq
    obtain ⟨b, hbi, rfl⟩ := map_at hd
    have gb := hg b (List.mem_of_getElem? hbi)
    have hlen := gb.len
    obtain ⟨c1, c2⟩ := cnt_len b.length
    exact ⟨_, rfl, rfl, frame_s T (by omega) gb.oct.small ⟨rfl, is_row_s T (by rw [frm_len]; omega) (wF rfl (next_ok (hq.nx _ ⟨_, _, rfl⟩)))⟩⟩
  · rintro e ⟨a, b', rfl⟩
    refine ⟨rfl, flat_s T h6 hg ?_⟩
    have go3 : (wRet (wCall 3 (F_law_is_told T) (wCons (wCall 1 (F_frames T) (wCons (wVar 3) wNil)) (wCons (wLV (wComp [1, 2] (wWalk (wVar 0)) (sTup 2 (sCons (sName 1) (sCons (sName 2) sNil))) wYes (wVar 1))) (wCons (wBt φLen (wCons (wVar 3) wNil)) wNil))))) [.v (.lst (bs.map prD)), a, b', .v (bD (flat bs))] (fin Q R) := by
      refine ⟨rfl, frames_s T (by omega) (flat_oct hg).small (frs_all (gb_len hg)) ?_⟩
      refine lc_map (fun d => match d with | .tup [x, _] => x | y => y) (small _ (by rw [List.length_map]; omega)) (fun d hd Q' hq => ?_) ?_
      · obtain ⟨b, _, rfl⟩ := List.mem_map.mp hd
        exact ⟨_, rfl, hq⟩
      · have e : (bs.map prD).map (fun d => match d with | .tup [x, _] => x | y => y) = bs.map lD := by
          rw [List.map_map]
          rfl
        rw [e]
        exact ⟨rfl, is_told_s T (gb_len hg) (by omega) (by rw [nats_len]) q⟩
    obtain ⟨b0, hb0⟩ : ∃ b0, bs[0]? = some b0 := ⟨_, List.getElem?_eq_getElem (by omega)⟩
    have gb := hg b0 (List.mem_of_getElem? hb0)
    have hlen := gb.len
    obtain ⟨c1, c2⟩ := cnt_len b0.length
    have at0 : (bs.map prD)[0]? = some (prD b0) := by rw [List.getElem?_map, hb0]; rfl
    refine wTF (fun h => ?_) (fun h => wF rfl (next_ok go3))
    refine ixl 0 at0 (ixt 0 rfl ⟨rfl, rfl, frame_s T (by omega) gb.oct.small (ixl 0 at0 (ixt 1 rfl ⟨rfl, is_row_s T (by rw [frm_len]; omega) (wF rfl (next_ok go3))⟩))⟩)
theorem cuts_hold_s {bs : List (List Nat)} (h1 : 1 ≤ bs.length) (h6 : bs.length ≤ 6) (hg : ∀ b ∈ bs, GB b) (q : Q (.bl true)) : F_law_cuts_hold T [dBox, .lst (bs.map prD)] Q R := by
  unfold F_law_cuts_hold Fr_law_cuts_hold
  have fl := flat_len hg
  have fl6 := Nat.mul_le_mul_right 4200 h6
  refine ⟨rfl, flat_s T h6 hg ?_⟩
  have lf := nats_len (flat bs)
  have go7 : ∀ cs : List Nat, cs.length ≤ 100 → ∀ x4 x5 x6 x7 : Sl, (wLet 3 (wSeq (wFor (wWalk (wVar 3)) (sName 8) (wSeq (wAsg (wCall 2 (F_law_ahead T) (wCons (wVar 1) (wCons (wVar 8) wNil))) (sTup 2 (sCons (sName 9) (sCons (sName 10) sNil))))
      (wIfS (wNot (wTru (wCall 3 (F_law_is_told T) (wCons (wCall 1 (F_frames T) (wCons (wBt φTuple (wCons (wSl φSlU (wVar 2) wNoP (wPart (wVar 8))) wNil)) wNil)) (wCons (wLV (wComp [12] (wWalk (wSl φSlU (wVar 1) wNoP (wPart (wVar 9)))) (sName 12) wYes (wOp φIxU (wVar 12) (wC (.int 0))))) (wCons (wVar 10) wNil)))))) (wRet (wC (.bl false))) wNext)))
      (wRet (wC (.bl true))))) [.v dBox, .v (.lst (bs.map prD)), .v (lD (flat bs)), .v (.lst (natsD cs)), x4, x5, x6, x7, .no, .no, .no, .no, .no] (fin Q R) := by
    intro cs lc x4 x5 x6 x7
    refine for_inv (natsD cs) (by exact fun Q' R' k => k) (fun i e => ∃ a b c d : Sl, e = [.v dBox, .v (.lst (bs.map prD)), .v (lD (flat bs)), .v (.lst (natsD cs)), x4, x5, x6, x7, a, b, c, d, .no]) ⟨.no, .no, .no, .no, rfl⟩ ?_ ?_
    · rintro i d e0 Q' hd ⟨a, b, c, d', rfl⟩ hq
      obtain ⟨cut, hcut, rfl⟩ := nats_at hd
      refine ⟨_, rfl, rfl, ahead_s T ?_⟩
      refine ⟨rfl, ?_⟩
      have ec : Pd.cutD (natsD (flat bs)) none (some (cut : Int)) = natsD ((flat bs).take cut) := by
        rw [cutD_n0]
        unfold natsD
        rw [← List.map_take]
      show F_frames T [.tup (Pd.cutD (natsD (flat bs)) none (some (cut : Int)))] _ _
      rw [ec]
      refine frames_s T (by rw [List.length_take]; omega) (fun x hx => (flat_oct hg).small x (List.mem_of_mem_take hx)) (frs_take (gb_len hg)) ?_
      have ef : Pd.cutD (bs.map prD) none (some ((ahead cut bs 0 : Nat) : Int)) = (bs.take (ahead cut bs 0)).map prD := by rw [cutD_n0, List.map_take]
      show wLc _ _ _ _ (Pd.cutD (bs.map prD) none (some ((ahead cut bs 0 : Nat) : Int))) _ _ _ _
      rw [ef]
      refine lc_map (fun d => match d with | .tup [x, _] => x | y => y) (small _ (by rw [List.length_map, List.length_take]; omega)) (fun d hd Q' hq => ?_) ?_
      · obtain ⟨b, _, rfl⟩ := List.mem_map.mp hd
        exact ⟨_, rfl, ixt 0 rfl hq⟩
      · have e : ((bs.take (ahead cut bs 0)).map prD).map (fun d => match d with | .tup [x, _] => x | y => y) = (bs.take (ahead cut bs 0)).map lD := by
          rw [List.map_map]
          rfl
        rw [e]
        exact ⟨rfl, is_told_s T (fun b h => gb_len hg b (List.mem_of_mem_take h)) (by rw [List.length_take]; omega) rfl (wF rfl (next_ok (hq.nx _ ⟨_, _, _, _, rfl⟩)))⟩
    · rintro e ⟨a, b, c, d', rfl⟩
      exact q
  have go3 : ∀ cs : List Nat, cs.length ≤ 99 → (wSeq (wPar2 4 5 (wSl_ (wLst wNil)) (wSv (wC (.int 0))))
      (wSeq (wFor (wWalk (wVar 1)) (sTup 2 (sCons (sName 6) (sCons (sName 7) sNil))) (wSeq (wSetS 5 (wSv (wOp φAdd (wVar 5) (wBt φLen (wCons (wVar 7) wNil)))))
      (wExt 4 (wLV (wLst (wCons (wOp φSub (wVar 5) (wC (.int 1))) (wCons (wVar 5) wNil)))))))
      (wLet 4 (wSeq (wApp' 3 (wCall 2 (F_law_pick T) (wCons (wVar 0) (wCons (wVar 4) wNil))))
      (wLet 3 (wSeq (wFor (wWalk (wVar 3)) (sName 8) (wSeq (wAsg (wCall 2 (F_law_ahead T) (wCons (wVar 1) (wCons (wVar 8) wNil))) (sTup 2 (sCons (sName 9) (sCons (sName 10) sNil))))
      (wIfS (wNot (wTru (wCall 3 (F_law_is_told T) (wCons (wCall 1 (F_frames T) (wCons (wBt φTuple (wCons (wSl φSlU (wVar 2) wNoP (wPart (wVar 8))) wNil)) wNil)) (wCons (wLV (wComp [12] (wWalk (wSl φSlU (wVar 1) wNoP (wPart (wVar 9)))) (sName 12) wYes (wOp φIxU (wVar 12) (wC (.int 0))))) (wCons (wVar 10) wNil)))))) (wRet (wC (.bl false))) wNext)))
      (wRet (wC (.bl true))))))))) [.v dBox, .v (.lst (bs.map prD)), .v (lD (flat bs)), .l (natsD cs), .no, .no, .no, .no, .no, .no, .no, .no, .no] (fin Q R) := by
    intro cs lc
    refine ⟨small 0, ?_⟩
    refine for_inv (bs.map prD) (by exact fun Q' R' k => k) (fun i e => ∃ (bd : List Nat) (pl : Nat) (a b : Sl), e = [.v dBox, .v (.lst (bs.map prD)), .v (lD (flat bs)), .l (natsD cs), .l (natsD bd), .v (nD pl), a, b, .no, .no, .no, .no, .no] ∧ bd.length = 2 * i ∧ i ≤ 6) ⟨[], 0, .no, .no, rfl, rfl, Nat.zero_le _⟩ ?_ ?_
    · rintro i d e0 Q' hd ⟨bd, pl, a, b', rfl, hbd, hi6⟩ hq
      obtain ⟨b, hbi, rfl⟩ := map_at hd
      have hi := (List.getElem?_eq_some_iff.mp hbi).1
      have hlf : ((natsD (frm b)).length : Int) = (((frm b).length : Nat) : Int) := by rw [nats_len]
      obtain ⟨c1, c2⟩ := cnt_len b.length
      have hfl := frm_len b
      refine ⟨_, rfl, small 2, by rw [nats_len, sizeLine_eq]; show bd.length + 2 ≤ _; omega, hq.nx _ ⟨bd ++ [pl + (frm b).length - 1, pl + (frm b).length], pl + (frm b).length, .v (lD b), .v (lD (frm b)), ?_, by rw [List.length_append, hbd]; show 2 * i + 2 = _; omega, by omega⟩⟩
      rw [← natsD_app]
      show [_, _, _, _, Sl.l (natsD bd ++ [.int (((pl : Nat) : Int) + ((natsD (frm b)).length : Int) - 1), .int (((pl : Nat) : Int) + ((natsD (frm b)).length : Int))]), Sl.v (.int (((pl : Nat) : Int) + ((natsD (frm b)).length : Int))), _, _, _, _, _, _, _] = _
      rw [hlf, show ((pl : Nat) : Int) + (((frm b).length : Nat) : Int) - 1 = ((pl + (frm b).length - 1 : Nat) : Int) from by omega]
      rfl
    · rintro e ⟨bd, pl, a, b', rfl, hbd, hi6⟩
      rw [List.length_map] at hbd
      refine ⟨rfl, pick_nats T bd (by omega) (by omega) fun n hn => ⟨by rw [nats_len, sizeLine_eq]; omega, ?_⟩⟩
      have e1 : natsD cs ++ [nD n] = natsD (cs ++ [n]) := natsD_app cs [n]
      have := go7 (cs ++ [n]) (by rw [List.length_append]; show cs.length + 1 ≤ _; omega) (.v (.lst (natsD bd))) (.v (nD pl)) a b'
      rw [← e1] at this
      exact this
  refine ⟨⟨by decide, by decide⟩, ?_⟩
  refine lc_rel (fun i y => ∃ n : Nat, n < 100000 ∧ y = nD n) (small 4) (fun i d Q' hd hq => ⟨_, rfl, rfl, ?_⟩) fun ys hy1 hy2 => ?_
  · show F_law_take T [dBox, .int (((natsD (flat bs)).length : Int) + 1)] _ _
    rw [lf]
    exact take_s T (by omega) (by omega) fun r hr => hq _ ⟨r, by omega, rfl⟩
  have hy1 : ys.length = 4 := hy1
  obtain ⟨cs, rfl, _, _⟩ := choose_list nD (fun _ => ()) (fun n => n < 100000) (ys := ys) (ns := List.replicate ys.length ()) (by simp) fun i y hy => by
    obtain ⟨n, g1, rfl⟩ := hy2 i y hy
    exact ⟨n, by rw [List.getElem?_replicate, if_pos (List.getElem?_eq_some_iff.mp hy).1], g1, rfl⟩
  rw [List.length_map] at hy1
  refine wTF (fun h => ?_) (fun h => next_ok (go3 cs (by omega)))
  have h : ((natsD (flat bs)).length : Int) ≤ 40 := of_decide_eq_true h
  rw [lf] at h
  have er : rangeD 0 (((natsD (flat bs)).length : Int) + 1).toNat = natsD (List.range ((flat bs).length + 1)) := by
    rw [lf, show (((flat bs).length : Int) + 1).toNat = (flat bs).length + 1 from by omega]
    unfold rangeD natsD
    simp
  refine ⟨RgOk.of_le (by decide) (by rw [lf]; omega) (by decide) (by omega), ?_⟩
  have := go3 (List.range ((flat bs).length + 1)) (by rw [List.length_range]; omega)
  rw [← er] at this
  exact this
end
end K86
set_option maxRecDepth 100000
set_option maxHeartbeats 4000000
namespace K86
open PySem PySem.Spec PyProof.Rows L2 Pre Pd M85
theorem cop : ∀ d ∈ List.range 256, d ≠ 0 → Nat.gcd 65521 d = 1 := by decide +kernel
theorem far {A B : Nat} {u v : Int} (h : (B : Int) - (A : Int) = u * v) (u0 : u ≠ 0) (u9 : u.natAbs < 256) (v0 : v ≠ 0) (v9 : v.natAbs < 65521) : A % 65521 ≠ B % 65521 := by
  intro e
  have h1 : (u * v) % 65521 = 0 := by rw [← h]; omega
  have h2 : (65521 : Int) ∣ u * v := Int.dvd_of_emod_eq_zero h1
  have h3 : 65521 ∣ u.natAbs * v.natAbs := by
    rw [← Int.natAbs_mul]
    exact Int.natAbs_dvd_natAbs.mpr h2
  have h4 : Nat.Coprime 65521 u.natAbs := cop _ (List.mem_range.mpr u9) (by omega)
  have h5 : 65521 ∣ v.natAbs := h4.dvd_of_dvd_mul_left h3
  have := Nat.le_of_dvd (by omega) h5
  omega
theorem ws_set : ∀ {b : List Nat} {i x y : Nat} (k : Nat), b[i]? = some x → ws k (b.set i y) + x * (k + i + 1) = ws k b + y * (k + i + 1)
  | [], i, x, y, k, h => by cases h
  | c :: b, 0, x, y, k, h => by
    have : c = x := by simpa using h
    subst this
    show (y * (k + 1) + ws (k + 1) b) + c * (k + 1) = (c * (k + 1) + ws (k + 1) b) + y * (k + 1)
    omega
  | c :: b, i + 1, x, y, k, h => by
    have := ws_set (b := b) (i := i) (x := x) (y := y) (k + 1) (by simpa using h)
    show (c * (k + 1) + ws (k + 1) (b.set i y)) + x * (k + (i + 1) + 1) = (c * (k + 1) + ws (k + 1) b) + y * (k + (i + 1) + 1)
    rw [show k + (i + 1) + 1 = k + 1 + i + 1 from by omega]
    omega
theorem oct_set {b : List Nat} {i y : Nat} (h : Oct b) (hy : y ≤ 255) : Oct (b.set i y) := fun x hx => by
  rcases List.mem_or_eq_of_mem_set hx with h1 | h1
  · exact h x h1
  · omega
theorem wsum_set {b : List Nat} {i x y : Nat} (h : Oct b) (hl : b.length ≤ 65000) (hi : b[i]? = some x) (hy : y ≤ 255) (hn : y ≠ x) : wsum (b.set i y) % 65521 ≠ wsum b % 65521 := by
  have h1 := ws_set (y := y) 0 hi
  have hx := h x (List.mem_of_getElem? hi)
  have hil := (List.getElem?_eq_some_iff.mp hi).1
  rw [wsum_ws, wsum_ws]
  refine far (u := (x : Int) - (y : Int)) (v := (i : Int) + 1) ?_ (by omega) (by omega) (by omega) (by omega)
  have h2 : ((ws 0 (b.set i y) : Nat) : Int) + (x : Int) * ((i : Int) + 1) = ((ws 0 b : Nat) : Int) + (y : Int) * ((i : Int) + 1) := by
    have := congrArg (fun n : Nat => (n : Int)) h1
    simpa using this
  rw [Int.sub_mul]
  omega
theorem wsum_swap {b : List Nat} {i j x y : Nat} (h : Oct b) (hl : b.length ≤ 65000) (hi : b[i]? = some x) (hj : b[j]? = some y) (hn : x ≠ y) : wsum ((b.set i y).set j x) % 65521 ≠ wsum b % 65521 := by
  have hij : i ≠ j := by rintro rfl; rw [hi] at hj; exact hn (Option.some.inj hj)
  have h1 := ws_set (y := y) 0 hi
  have h2 := ws_set (b := b.set i y) (y := x) 0 (i := j) (x := y) (by rw [List.getElem?_set_ne hij]; exact hj)
  have hx := h x (List.mem_of_getElem? hi)
  have hy := h y (List.mem_of_getElem? hj)
  have hil := (List.getElem?_eq_some_iff.mp hi).1
  have hjl := (List.getElem?_eq_some_iff.mp hj).1
  rw [wsum_ws, wsum_ws]
  refine far (u := (x : Int) - (y : Int)) (v := (i : Int) - (j : Int)) ?_ (by omega) (by omega) (by omega) (by omega)
  have g1 : ((ws 0 (b.set i y) : Nat) : Int) + (x : Int) * ((i : Int) + 1) = ((ws 0 b : Nat) : Int) + (y : Int) * ((i : Int) + 1) := by
    have := congrArg (fun n : Nat => (n : Int)) h1
    simpa using this
  have g2 : ((ws 0 ((b.set i y).set j x) : Nat) : Int) + (y : Int) * ((j : Int) + 1) = ((ws 0 (b.set i y) : Nat) : Int) + (x : Int) * ((j : Int) + 1) := by
    have := congrArg (fun n : Nat => (n : Int)) h2
    simpa using this
  rw [Int.mul_add] at g1 g2
  rw [Int.mul_add] at g1 g2
  rw [Int.sub_mul, Int.mul_sub, Int.mul_sub]
  omega
/-- spoilt: no frame lies there, whatever lies behind -/
def Bad (s : List Nat) : Prop := Oct s ∧ s.length ≤ 60000 ∧ ∀ os a rest, os.drop a = s ++ rest → fr os a = none
theorem bad_body {b b' : List Nat} (hl : b.length ≤ 50000) (hb : Oct b') (e : b'.length = b.length) (hn : wsum b' % 65521 ≠ wsum b % 65521) : Bad (mark (cnt b.length) ++ (b' ++ tail2 (wsum b % 65521))) := by
  have wm := wsum_mod b
  obtain ⟨c1, c2⟩ := cnt_len b.length
  refine ⟨(oct_mark (by omega)).app (hb.app fun x hx => ?_), ?_, fun os a rest h => ?_⟩
  · simp only [tail2, List.mem_cons, List.not_mem_nil, or_false] at hx
    omega
  · rw [List.length_append, List.length_append, mark_len]
    show _ + (_ + 2) ≤ _
    omega
  · have h2 : os.drop a = mark (cnt b'.length) ++ (b' ++ ((wsum b % 65521 % 256) :: (wsum b % 65521 / 256) :: rest)) := by
      rw [h, e, List.append_assoc, List.append_assoc]
      rfl
    rw [fr_body (by omega) h2, tail2_back, if_neg hn]
theorem bad_tail {b : List Nat} {x y : Nat} (hl : b.length ≤ 50000) (hb : Oct b) (hx : x ≤ 255) (hy : y ≤ 255) (hn : x + 256 * y ≠ wsum b % 65521) : Bad (mark (cnt b.length) ++ (b ++ [x, y])) := by
  obtain ⟨c1, c2⟩ := cnt_len b.length
  refine ⟨(oct_mark (by omega)).app (hb.app fun z hz => ?_), ?_, fun os a rest h => ?_⟩
  · simp only [List.mem_cons, List.not_mem_nil, or_false] at hz
    omega
  · rw [List.length_append, List.length_append, mark_len]
    show _ + (_ + 2) ≤ _
    omega
  · have h2 : os.drop a = mark (cnt b.length) ++ (b ++ (x :: y :: rest)) := by
      rw [h, List.append_assoc, List.append_assoc]
      rfl
    rw [fr_body (by omega) h2, if_neg (fun e => hn e.symm)]
theorem frm_at {b : List Nat} {i x : Nat} (h : b[i]? = some x) : (frm b)[(cnt b.length).length + i]? = some x := by
  have hi := (List.getElem?_eq_some_iff.mp h).1
  unfold frm
  rw [List.getElem?_append_right (by rw [mark_len]; omega), mark_len, Nat.add_sub_cancel_left, List.getElem?_append_left hi]
  exact h
theorem frm_at0 (b : List Nat) : (frm b)[(cnt b.length).length + b.length]? = some (wsum b % 65521 % 256) := by
  unfold frm
  rw [List.getElem?_append_right (by rw [mark_len]; omega), mark_len, Nat.add_sub_cancel_left, List.getElem?_append_right (Nat.le_refl _), Nat.sub_self]
  rfl
theorem frm_at1 (b : List Nat) : (frm b)[(cnt b.length).length + b.length + 1]? = some (wsum b % 65521 / 256) := by
  unfold frm
  rw [Nat.add_assoc, List.getElem?_append_right (by rw [mark_len]; omega), mark_len, Nat.add_sub_cancel_left, List.getElem?_append_right (by omega), Nat.add_sub_cancel_left]
  rfl
theorem set_app {α : Type} {a b : List α} {i : Nat} {x : α} : (a ++ b).set (a.length + i) x = a ++ b.set i x := by
  rw [List.set_append_right _ _ (Nat.le_add_right _ _), Nat.add_sub_cancel_left]
theorem frm_set {b : List Nat} {i x : Nat} (h : i < b.length) {t : List Nat} : (mark (cnt b.length) ++ (b ++ t)).set ((cnt b.length).length + i) x = mark (cnt b.length) ++ (b.set i x ++ t) := by
  rw [← mark_len (gs := cnt b.length), set_app, List.set_append_left _ _ h]
/-- one octet changed for another -/
theorem bad_one {b : List Nat} {p x y : Nat} (hl : b.length ≤ 50000) (hb : Oct b) (hp : p < b.length + 2) (hx : (frm b)[(cnt b.length).length + p]? = some x) (hy : y ≤ 255) (hn : y ≠ x) : Bad ((frm b).set ((cnt b.length).length + p) y) := by
  have wm := wsum_mod b
  by_cases h1 : p < b.length
  · rw [frm_at (List.getElem?_eq_getElem h1)] at hx
    have hx' : b[p]? = some x := by rw [← hx]; exact List.getElem?_eq_getElem h1
    unfold frm
    rw [frm_set h1]
    exact bad_body hl (oct_set hb hy) (List.length_set) (wsum_set hb (by omega) hx' hy hn)
  · have e : (frm b).set ((cnt b.length).length + p) y = mark (cnt b.length) ++ (b ++ (tail2 (wsum b % 65521)).set (p - b.length) y) := by
      unfold frm
      rw [← mark_len (gs := cnt b.length), set_app]
      congr 1
      rw [List.set_append_right _ _ (by omega)]
    rw [e]
    by_cases h2 : p = b.length
    · subst h2
      rw [frm_at0] at hx
      have := Option.some.inj hx
      rw [Nat.sub_self]
      exact bad_tail hl hb hy (by omega) (by omega)
    · have h3 : p = b.length + 1 := by omega
      subst h3
      rw [← Nat.add_assoc, frm_at1] at hx
      have := Option.some.inj hx
      rw [Nat.add_sub_cancel_left]
      exact bad_tail hl hb (by omega) hy (by omega)
theorem bad_two {b : List Nat} {i j x y : Nat} (hl : b.length ≤ 50000) (hb : Oct b) (hi : b[i]? = some x) (hj : b[j]? = some y) (hn : x ≠ y) : Bad (((frm b).set ((cnt b.length).length + i) y).set ((cnt b.length).length + j) x) := by
  have il := (List.getElem?_eq_some_iff.mp hi).1
  have jl := (List.getElem?_eq_some_iff.mp hj).1
  have e : ((frm b).set ((cnt b.length).length + i) y).set ((cnt b.length).length + j) x = mark (cnt b.length) ++ ((b.set i y).set j x ++ tail2 (wsum b % 65521)) := by
    unfold frm
    rw [frm_set il, ← mark_len (gs := cnt b.length), set_app, List.set_append_left _ _ (by rw [List.length_set]; exact jl)]
  rw [e]
  exact bad_body hl (oct_set (oct_set hb (hb y (List.mem_of_getElem? hj))) (hb x (List.mem_of_getElem? hi))) (by rw [List.length_set, List.length_set]) (wsum_swap hb (by omega) hi hj hn)
/-- same octets at both places: nothing is changed -/
theorem set_same {s : List Nat} {i j x : Nat} (hi : s[i]? = some x) (hj : s[j]? = some x) : (s.set i x).set j x = s := by
  have h1 : s.set i x = s := by
    have := (List.getElem?_eq_some_iff.mp hi).2
    rw [← this, List.set_getElem_self]
  rw [h1]
  have := (List.getElem?_eq_some_iff.mp hj).2
  rw [← this, List.set_getElem_self]
theorem bad_swap {b : List Nat} (hl : b.length ≤ 50000) (hb : Oct b) (hn : wsum b % 65521 % 256 ≠ wsum b % 65521 / 256) : Bad (mark (cnt b.length) ++ (b ++ [wsum b % 65521 / 256, wsum b % 65521 % 256])) := by
  have wm := wsum_mod b
  exact bad_tail hl hb (by omega) (by omega) (by omega)
theorem bad_figure {b : List Nat} (hl : b.length ≤ 50000) (hb : Oct b) {ms : List Nat} (h1 : ∀ x ∈ ms, 128 ≤ x ∧ x ≤ 255) (h0 : ms ≠ []) (h4 : ms.length ≤ 4) : Bad (ms ++ 0 :: (b ++ tail2 (wsum b % 65521))) := by
  have wm := wsum_mod b
  refine ⟨fun x hx => ?_, ?_, fun os a rest h => ?_⟩
  · rcases List.mem_append.mp hx with h | h
    · exact (h1 x h).2
    · rcases List.mem_cons.mp h with h | h
      · omega
      · rcases List.mem_append.mp h with h | h
        · exact hb x h
        · simp only [tail2, List.mem_cons, List.not_mem_nil, or_false] at h
          omega
  · rw [List.length_append, List.length_cons, List.length_append]
    show _ + (_ + 2 + 1) ≤ _
    omega
  · have : rdN os a = none := rd_needless (ms := ms) (rest := b ++ tail2 (wsum b % 65521) ++ rest) (by rw [h, List.append_assoc]; rfl) (fun x hx => (h1 x hx).1) h0
    unfold fr
    rw [this]
end K86
set_option maxRecDepth 100000
set_option maxHeartbeats 4000000
namespace K86
open PySem PySem.Spec PyProof.Rows L2 Pre Pd M85
theorem nats_set (s : List Nat) (i x : Nat) : (natsD s).set i (nD x) = natsD (s.set i x) := (List.map_set).symm
theorem nats_get {s : List Nat} {i x : Nat} (h : s[i]? = some x) : (natsD s)[i]? = some (nD x) := by unfold natsD; rw [List.getElem?_map, h]; rfl
theorem frm_some {b : List Nat} {p : Nat} (hp : p < b.length + 2) : ∃ x, (frm b)[(cnt b.length).length + p]? = some x := ⟨_, List.getElem?_eq_getElem (by rw [frm_len]; omega)⟩
theorem frm_take (b : List Nat) : (frm b).take (cnt b.length).length = mark (cnt b.length) := by
  unfold frm
  rw [← mark_len (gs := cnt b.length), List.take_left]
theorem frm_drop (b : List Nat) : (frm b).drop (cnt b.length).length = b ++ tail2 (wsum b % 65521) := by
  unfold frm
  rw [← mark_len (gs := cnt b.length), List.drop_left]
theorem frm_but2 (b : List Nat) : (frm b).take ((cnt b.length).length + b.length) = mark (cnt b.length) ++ b := by
  unfold frm
  rw [← List.append_assoc, ← mark_len (gs := cnt b.length), ← List.length_append, List.take_left]
theorem up128 {n : Nat} (h : n ≤ 100000) : ∀ x ∈ (mark (cnt n)).map (fun o => if o < 128 then o + 128 else o), 128 ≤ x ∧ x ≤ 255 := by
  intro x hx
  obtain ⟨o, ho, rfl⟩ := List.mem_map.mp hx
  have := oct_mark h o ho
  show 128 ≤ (if o < 128 then o + 128 else o) ∧ (if o < 128 then o + 128 else o) ≤ 255
  split <;> omega
section
variable {P : Program} {w : World} {K : PySem.W.Frag} {mg : Str → Option Value} {base : Heap} (T : Tx K mg) {Q : D → Prop} {R : Err → Prop}
theorem sp6 {b : List Nat} {k : Nat} {x7 x8 : Sl} (g : GB b) (q : ∀ s, Bad s → s.length ≤ 5000 → Q (.lst (natsD s))) :
    (wSeq (wSetS 9 (wSv (wOp φAdd (wVar 4) (wCall 2 (F_law_pick T) (wCons (wVar 0) (wCons (wLV (wLst (wCons (wC (.int 0)) (wCons (wBt φLen (wCons (wVar 2) wNil)) (wCons (wOp φAdd (wBt φLen (wCons (wVar 2) wNil)) (wC (.int 1))) (wCons (wCall 2 (F_law_take T) (wCons (wVar 0) (wCons (wOp φAdd (wBt φLen (wCons (wVar 2) wNil)) (wC (.int 2))) wNil))) wNil)))))) wNil))))))
      (wSeq (wPut 6 (wOp φMod (wBt φInt (wCons (wOp φAdd (wOp φAdd (wOp φIxU (wVar 3) (wVar 9)) (wC (.int 1))) (wCall 2 (F_law_pick T) (wCons (wVar 0) (wCons (wLV (wLst (wCons (wC (.int 0)) (wCons (wC (.int 127)) (wCons (wC (.int 254)) (wCons (wCall 2 (F_law_take T) (wCons (wVar 0) (wCons (wC (.int 255)) wNil))) wNil)))))) wNil)))) wNil)) (wC (.int 256))) (wVar 9))
      (wLet 6 (wRet (wVar 6))))) [.v dBox, .v (prD b), .v (lD b), .v (lD (frm b)), .v (nD (cnt b.length).length), .v (nD k), .l (natsD (frm b)), x7, x8, .no, .no] (fin Q R) := by
  have gl := g.len
  obtain ⟨c1, c2⟩ := cnt_len b.length
  have lb := nats_len b
  refine ⟨rfl, ?_⟩
  show F_law_take T [dBox, .int (((natsD b).length : Int) + 2)] _ _
  rw [lb]
  refine take_s T (by omega) (by omega) fun r hr => ⟨small 4, rfl, ?_⟩
  have go : ∀ p : Nat, p < b.length + 2 → (wSeq (wPut 6 (wOp φMod (wBt φInt (wCons (wOp φAdd (wOp φAdd (wOp φIxU (wVar 3) (wVar 9)) (wC (.int 1))) (wCall 2 (F_law_pick T) (wCons (wVar 0) (wCons (wLV (wLst (wCons (wC (.int 0)) (wCons (wC (.int 127)) (wCons (wC (.int 254)) (wCons (wCall 2 (F_law_take T) (wCons (wVar 0) (wCons (wC (.int 255)) wNil))) wNil)))))) wNil)))) wNil)) (wC (.int 256))) (wVar 9))
      (wLet 6 (wRet (wVar 6)))) [.v dBox, .v (prD b), .v (lD b), .v (lD (frm b)), .v (nD (cnt b.length).length), .v (nD k), .l (natsD (frm b)), x7, x8, .v (nD ((cnt b.length).length + p)), .no] (fin Q R) := by
    intro p hp
    obtain ⟨x, hx⟩ := frm_some hp
    have x255 := oct_frm g.oct (by omega) x (List.mem_of_getElem? hx)
    have lf := frm_len b
    unfold wSeq
    refine put_ok (Dk := fun d => ∃ y : Nat, y ≤ 255 ∧ y ≠ x ∧ d = nD y) (j := (cnt b.length).length + p) (ds := natsD (frm b)) (fun Q' R' kk => ?_) rfl (by rw [nats_len]; omega) (fun Q' R' kk => kk) ?_
    · refine ixl ((cnt b.length).length + p) (nats_get hx) ⟨rfl, take_s T (by decide) (by decide) fun r2 hr2 => ⟨small 4, rfl, ?_⟩⟩
      refine (show F_law_pick T [dBox, .lst (natsD [0, 127, 254, r2])] _ _ from pick_nats T _ (by simp) (by simp) fun n hn => ?_)
      simp only [List.mem_cons, List.not_mem_nil, or_false] at hn
      refine ⟨by show (256 : Int) ≠ 0; decide, ?_⟩
      have e : (((x : Int) + 1 + (n : Int))).fmod 256 = (((x + 1 + n) % 256 : Nat) : Int) := by
        rw [Int.fmod_eq_emod_of_nonneg _ (by decide)]
        exact (Int.natCast_emod _ _).symm
      show Q' (.int (((x : Int) + 1 + (n : Int)).fmod 256))
      rw [e]
      exact kk _ ⟨_, by omega, by omega, rfl⟩
    · rintro d ⟨y, y1, y2, rfl⟩
      have h1 := bad_one (by omega) g.oct hp hx y1 y2
      have e1 := nats_set (frm b) ((cnt b.length).length + p) y
      have h2 := q _ h1 (by rw [List.length_set]; omega)
      rw [← e1] at h2
      exact h2
  refine (show F_law_pick T [dBox, .lst (natsD [0, b.length, b.length + 1, r])] _ _ from pick_nats T _ (by simp) (by simp) fun n hn => ?_)
  simp only [List.mem_cons, List.not_mem_nil, or_false] at hn
  exact go n (by omega)
theorem sp5 {b : List Nat} {k : Nat} {x7 x8 : Sl} (g : GB b) (q : ∀ s, Bad s → s.length ≤ 5000 → Q (.lst (natsD s))) :
    (wSeq (wIfS (wOpB (φEqU false) (wVar 5) (wC (.int 2))) (wRet (wOp φAdd (wOp φAdd (wLV (wComp [10] (wWalk (wSl φSlU (wVar 3) wNoP (wPart (wVar 4)))) (sName 10) wYes (wOp φAdd (wVar 10) (wOp φMul (wC (.int 128)) (wBt φInt (wCons (wOp φLtU (wVar 10) (wC (.int 128))) wNil)))))) (wLV (wLst (wCons (wC (.int 0)) wNil)))) (wSl φSlU (wVar 3) (wPart (wVar 4)) wNoP))) wNext)
      (wSeq (wSetS 9 (wSv (wOp φAdd (wVar 4) (wCall 2 (F_law_pick T) (wCons (wVar 0) (wCons (wLV (wLst (wCons (wC (.int 0)) (wCons (wBt φLen (wCons (wVar 2) wNil)) (wCons (wOp φAdd (wBt φLen (wCons (wVar 2) wNil)) (wC (.int 1))) (wCons (wCall 2 (F_law_take T) (wCons (wVar 0) (wCons (wOp φAdd (wBt φLen (wCons (wVar 2) wNil)) (wC (.int 2))) wNil))) wNil)))))) wNil))))))
      (wSeq (wPut 6 (wOp φMod (wBt φInt (wCons (wOp φAdd (wOp φAdd (wOp φIxU (wVar 3) (wVar 9)) (wC (.int 1))) (wCall 2 (F_law_pick T) (wCons (wVar 0) (wCons (wLV (wLst (wCons (wC (.int 0)) (wCons (wC (.int 127)) (wCons (wC (.int 254)) (wCons (wCall 2 (F_law_take T) (wCons (wVar 0) (wCons (wC (.int 255)) wNil))) wNil)))))) wNil)))) wNil)) (wC (.int 256))) (wVar 9))
      (wLet 6 (wRet (wVar 6)))))) [.v dBox, .v (prD b), .v (lD b), .v (lD (frm b)), .v (nD (cnt b.length).length), .v (nD k), .l (natsD (frm b)), x7, x8, .no, .no] (fin Q R) := by
  have gl := g.len
  obtain ⟨c1, c2⟩ := cnt_len b.length
  refine eqi (wTF (fun h => ?_) (fun h => next_ok (sp6 T g q)))
  show wLc _ _ _ _ (Pd.cutD (natsD (frm b)) none (some (((cnt b.length).length : Nat) : Int))) _ _ _ _
  have ec : Pd.cutD (natsD (frm b)) none (some (((cnt b.length).length : Nat) : Int)) = natsD (mark (cnt b.length)) := by
    rw [cutD_n0]
    unfold natsD
    rw [← List.map_take, frm_take]
  have ed : Pd.cutD (natsD (frm b)) (some (((cnt b.length).length : Nat) : Int)) none = natsD (b ++ tail2 (wsum b % 65521)) := by
    rw [cutD_0n]
    unfold natsD
    rw [← List.map_drop, frm_drop]
  rw [ec]
  refine lc_map (fun d => match d with | .int i => .int (if i < 128 then i + 128 else i) | y => y) (small _ (by rw [nats_len, mark_len]; omega)) (fun d hd Q' hq => ?_) ?_
  · obtain ⟨o, _, rfl⟩ := List.mem_map.mp hd
    refine ⟨_, rfl, ⟨?_, ?_⟩⟩
    · by_cases h : (o : Int) < 128
      · exact mulOk 20 20 (by decide) (by show (if decide ((o : Int) < 128) = true then (1 : Int) else 0).natAbs < 2 ^ 20; rw [decide_eq_true h]; decide)
      · exact mulOk 20 20 (by decide) (by show (if decide ((o : Int) < 128) = true then (1 : Int) else 0).natAbs < 2 ^ 20; rw [decide_eq_false h]; decide)
    · replace hq : Q' (.int (if (o : Int) < 128 then (o : Int) + 128 else (o : Int))) := hq
      by_cases h : (o : Int) < 128
      · rw [if_pos h] at hq
        show Q' (.int ((o : Int) + 128 * (if decide ((o : Int) < 128) = true then 1 else 0)))
        rw [decide_eq_true h]
        exact hq
      · rw [if_neg h] at hq
        show Q' (.int ((o : Int) + 128 * (if decide ((o : Int) < 128) = true then 1 else 0)))
        rw [decide_eq_false h]
        show Q' (.int ((o : Int) + 128 * 0))
        rw [Int.mul_zero, Int.add_zero]
        exact hq
  have em : (natsD (mark (cnt b.length))).map (fun d => match d with | .int i => .int (if i < 128 then i + 128 else i) | y => y) = natsD ((mark (cnt b.length)).map (fun o => if o < 128 then o + 128 else o)) := by
    unfold natsD
    rw [List.map_map, List.map_map]
    apply List.map_congr_left
    intro o ho
    show D.int (if (o : Int) < 128 then (o : Int) + 128 else (o : Int)) = .int (((if o < 128 then o + 128 else o : Nat)) : Int)
    by_cases h : o < 128
    · rw [if_pos h, if_pos (by omega)]
      rfl
    · rw [if_neg h, if_neg (by omega)]
  rw [em]
  have up := up128 (n := b.length) (by omega)
  have ml : ((mark (cnt b.length)).map (fun o => if o < 128 then o + 128 else o)).length = (cnt b.length).length := by rw [List.length_map, mark_len]
  generalize (mark (cnt b.length)).map (fun o => if o < 128 then o + 128 else o) = ms at *
  refine ⟨small 1, small _ (by rw [nats_len]; show ms.length + 1 ≤ _; omega), ?_⟩
  have h0 : ms ≠ [] := by rintro rfl; simp at ml; omega
  have hb := bad_figure (b := b) (by omega) g.oct up h0 (by omega)
  have e3 : natsD ms ++ [D.int 0] ++ natsD (b ++ tail2 (wsum b % 65521)) = natsD (ms ++ 0 :: (b ++ tail2 (wsum b % 65521))) := by
    rw [← natsD_app ms, List.append_assoc]
    rfl
  have l3 : (ms ++ 0 :: (b ++ tail2 (wsum b % 65521))).length ≤ 5000 := by
    rw [List.length_append, List.length_cons, List.length_append]
    show _ + (_ + 2 + 1) ≤ _
    omega
  have e4 : natsD ms ++ [D.int 0] ++ Pd.cutD (natsD (frm b)) (some (((cnt b.length).length : Nat) : Int)) none = natsD (ms ++ 0 :: (b ++ tail2 (wsum b % 65521))) := by rw [ed, e3]
  have l4 : (natsD ms ++ [D.int 0] ++ Pd.cutD (natsD (frm b)) (some (((cnt b.length).length : Nat) : Int)) none).length ≤ sizeLine := by rw [e4, nats_len, sizeLine_eq]; omega
  have q4 : Q (.lst (natsD ms ++ [D.int 0] ++ Pd.cutD (natsD (frm b)) (some (((cnt b.length).length : Nat) : Int)) none)) := by rw [e4]; exact q _ hb l3
  refine ⟨by rw [List.length_append] at l4; exact l4, ?_⟩
  exact q4
end
end K86
set_option maxRecDepth 100000
set_option maxHeartbeats 4000000
namespace K86
open PySem PySem.Spec PyProof.Rows L2 Pre Pd M85
section
variable {P : Program} {w : World} {K : PySem.W.Frag} {mg : Str → Option Value} {base : Heap} (T : Tx K mg) {Q : D → Prop} {R : Err → Prop}
theorem sp4 {b : List Nat} {k : Nat} {x7 x8 : Sl} (g : GB b) (q : ∀ s, Bad s → s.length ≤ 5000 → Q (.lst (natsD s))) :
    (wSeq (wIfS (wAnd (wOpB (φEqU false) (wVar 5) (wC (.int 1))) (wOpB (φEqU true) (wOp φIxU (wVar 3) (wOp φSub (wBt φLen (wCons (wVar 3) wNil)) (wC (.int 2)))) (wOp φIxU (wVar 3) (wOp φSub (wBt φLen (wCons (wVar 3) wNil)) (wC (.int 1)))))) (wRet (wOp φAdd (wSl φSlU (wVar 3) wNoP (wPart (wOp φSub (wBt φLen (wCons (wVar 3) wNil)) (wC (.int 2))))) (wLV (wLst (wCons (wOp φIxU (wVar 3) (wOp φSub (wBt φLen (wCons (wVar 3) wNil)) (wC (.int 1)))) (wCons (wOp φIxU (wVar 3) (wOp φSub (wBt φLen (wCons (wVar 3) wNil)) (wC (.int 2)))) wNil)))))) wNext)
      (wSeq (wIfS (wOpB (φEqU false) (wVar 5) (wC (.int 2))) (wRet (wOp φAdd (wOp φAdd (wLV (wComp [10] (wWalk (wSl φSlU (wVar 3) wNoP (wPart (wVar 4)))) (sName 10) wYes (wOp φAdd (wVar 10) (wOp φMul (wC (.int 128)) (wBt φInt (wCons (wOp φLtU (wVar 10) (wC (.int 128))) wNil)))))) (wLV (wLst (wCons (wC (.int 0)) wNil)))) (wSl φSlU (wVar 3) (wPart (wVar 4)) wNoP))) wNext)
      (wSeq (wSetS 9 (wSv (wOp φAdd (wVar 4) (wCall 2 (F_law_pick T) (wCons (wVar 0) (wCons (wLV (wLst (wCons (wC (.int 0)) (wCons (wBt φLen (wCons (wVar 2) wNil)) (wCons (wOp φAdd (wBt φLen (wCons (wVar 2) wNil)) (wC (.int 1))) (wCons (wCall 2 (F_law_take T) (wCons (wVar 0) (wCons (wOp φAdd (wBt φLen (wCons (wVar 2) wNil)) (wC (.int 2))) wNil))) wNil)))))) wNil))))))
      (wSeq (wPut 6 (wOp φMod (wBt φInt (wCons (wOp φAdd (wOp φAdd (wOp φIxU (wVar 3) (wVar 9)) (wC (.int 1))) (wCall 2 (F_law_pick T) (wCons (wVar 0) (wCons (wLV (wLst (wCons (wC (.int 0)) (wCons (wC (.int 127)) (wCons (wC (.int 254)) (wCons (wCall 2 (F_law_take T) (wCons (wVar 0) (wCons (wC (.int 255)) wNil))) wNil)))))) wNil)))) wNil)) (wC (.int 256))) (wVar 9))
      (wLet 6 (wRet (wVar 6))))))) [.v dBox, .v (prD b), .v (lD b), .v (lD (frm b)), .v (nD (cnt b.length).length), .v (nD k), .l (natsD (frm b)), x7, x8, .no, .no] (fin Q R) := by
  have gl := g.len
  obtain ⟨c1, c2⟩ := cnt_len b.length
  have lf := frm_len b
  have ln : ((natsD (frm b)).length : Int) = (((cnt b.length).length + b.length + 2 : Nat) : Int) := by rw [nats_len, lf]
  have i2 : ((natsD (frm b)).length : Int) - 2 = (((cnt b.length).length + b.length : Nat) : Int) := by omega
  have i1 : ((natsD (frm b)).length : Int) - 1 = (((cnt b.length).length + b.length + 1 : Nat) : Int) := by omega
  refine eqi (wTF (fun h => ?_) (fun h => wF rfl (next_ok (sp5 T g q))))
  refine ixl _ (nats_get (frm_at0 b)) (ixl _ (nats_get (frm_at1 b)) (eqi (wTF (fun h => ?_) (fun h => next_ok (sp5 T g q)))) i1) i2
  have h : (!decide (((wsum b % 65521 % 256 : Nat) : Int) = ((wsum b % 65521 / 256 : Nat) : Int))) = true := h
  have hn : wsum b % 65521 % 256 ≠ wsum b % 65521 / 256 := by
    intro e
    rw [e, decide_eq_true rfl] at h
    cases h
  have hb := bad_swap (b := b) (by omega) g.oct hn
  have ec : Pd.cutD (natsD (frm b)) none (some (((natsD (frm b)).length : Int) - 2)) = natsD (mark (cnt b.length) ++ b) := by
    rw [i2, cutD_n0]
    unfold natsD
    rw [← List.map_take, frm_but2]
  have e4 : Pd.cutD (natsD (frm b)) none (some (((natsD (frm b)).length : Int) - 2)) ++ [nD (wsum b % 65521 / 256), nD (wsum b % 65521 % 256)] = natsD (mark (cnt b.length) ++ (b ++ [wsum b % 65521 / 256, wsum b % 65521 % 256])) := by
    rw [ec, ← List.append_assoc, ← natsD_app (mark (cnt b.length) ++ b)]
    rfl
  have l3 : (mark (cnt b.length) ++ (b ++ [wsum b % 65521 / 256, wsum b % 65521 % 256])).length ≤ 5000 := by
    rw [List.length_append, List.length_append, mark_len]
    show _ + (_ + 2) ≤ _
    omega
  have l4 : (Pd.cutD (natsD (frm b)) none (some (((natsD (frm b)).length : Int) - 2)) ++ [nD (wsum b % 65521 / 256), nD (wsum b % 65521 % 256)]).length ≤ sizeLine := by rw [e4, nats_len, sizeLine_eq]; omega
  have q4 : Q (.lst (Pd.cutD (natsD (frm b)) none (some (((natsD (frm b)).length : Int) - 2)) ++ [nD (wsum b % 65521 / 256), nD (wsum b % 65521 % 256)])) := by rw [e4]; exact q _ hb l3
  refine ixl _ (nats_get (frm_at1 b)) (ixl _ (nats_get (frm_at0 b)) ⟨small 2, ?_⟩ i2) i1
  exact ⟨by rw [List.length_append] at l4; exact l4, q4⟩
theorem spoilt_s {b : List Nat} (g : GB b) (q : ∀ s, Bad s → s.length ≤ 5000 → Q (.lst (natsD s))) : F_law_spoilt T [dBox, prD b] Q R := by
  unfold F_law_spoilt Fr_law_spoilt
  have gl := g.len
  obtain ⟨c1, c2⟩ := cnt_len b.length
  have lf := frm_len b
  have lb := nats_len b
  have go3 : ∀ k : Nat, (wSeq (wIfS (wAnd (wOpB (φEqU false) (wVar 5) (wC (.int 0))) (wOpB φGtU (wBt φLen (wCons (wVar 2) wNil)) (wC (.int 1)))) (wSeq (wPar2 7 8 (wSv (wOp φAdd (wVar 4) (wCall 2 (F_law_take T) (wCons (wVar 0) (wCons (wBt φLen (wCons (wVar 2) wNil)) wNil))))) (wSv (wOp φAdd (wVar 4) (wCall 2 (F_law_take T) (wCons (wVar 0) (wCons (wBt φLen (wCons (wVar 2) wNil)) wNil))))))
      (wSeq (wPut 6 (wOp φIxU (wVar 3) (wVar 8)) (wVar 7))
      (wSeq (wPut 6 (wOp φIxU (wVar 3) (wVar 7)) (wVar 8))
      (wIfS (wOpB (φEqU true) (wOp φIxU (wVar 3) (wVar 7)) (wOp φIxU (wVar 3) (wVar 8))) (wLet 6 (wRet (wVar 6))) wNext)))) wNext)
      (wSeq (wIfS (wAnd (wOpB (φEqU false) (wVar 5) (wC (.int 1))) (wOpB (φEqU true) (wOp φIxU (wVar 3) (wOp φSub (wBt φLen (wCons (wVar 3) wNil)) (wC (.int 2)))) (wOp φIxU (wVar 3) (wOp φSub (wBt φLen (wCons (wVar 3) wNil)) (wC (.int 1)))))) (wRet (wOp φAdd (wSl φSlU (wVar 3) wNoP (wPart (wOp φSub (wBt φLen (wCons (wVar 3) wNil)) (wC (.int 2))))) (wLV (wLst (wCons (wOp φIxU (wVar 3) (wOp φSub (wBt φLen (wCons (wVar 3) wNil)) (wC (.int 1)))) (wCons (wOp φIxU (wVar 3) (wOp φSub (wBt φLen (wCons (wVar 3) wNil)) (wC (.int 2)))) wNil)))))) wNext)
      (wSeq (wIfS (wOpB (φEqU false) (wVar 5) (wC (.int 2))) (wRet (wOp φAdd (wOp φAdd (wLV (wComp [10] (wWalk (wSl φSlU (wVar 3) wNoP (wPart (wVar 4)))) (sName 10) wYes (wOp φAdd (wVar 10) (wOp φMul (wC (.int 128)) (wBt φInt (wCons (wOp φLtU (wVar 10) (wC (.int 128))) wNil)))))) (wLV (wLst (wCons (wC (.int 0)) wNil)))) (wSl φSlU (wVar 3) (wPart (wVar 4)) wNoP))) wNext)
      (wSeq (wSetS 9 (wSv (wOp φAdd (wVar 4) (wCall 2 (F_law_pick T) (wCons (wVar 0) (wCons (wLV (wLst (wCons (wC (.int 0)) (wCons (wBt φLen (wCons (wVar 2) wNil)) (wCons (wOp φAdd (wBt φLen (wCons (wVar 2) wNil)) (wC (.int 1))) (wCons (wCall 2 (F_law_take T) (wCons (wVar 0) (wCons (wOp φAdd (wBt φLen (wCons (wVar 2) wNil)) (wC (.int 2))) wNil))) wNil)))))) wNil))))))
      (wSeq (wPut 6 (wOp φMod (wBt φInt (wCons (wOp φAdd (wOp φAdd (wOp φIxU (wVar 3) (wVar 9)) (wC (.int 1))) (wCall 2 (F_law_pick T) (wCons (wVar 0) (wCons (wLV (wLst (wCons (wC (.int 0)) (wCons (wC (.int 127)) (wCons (wC (.int 254)) (wCons (wCall 2 (F_law_take T) (wCons (wVar 0) (wCons (wC (.int 255)) wNil))) wNil)))))) wNil)))) wNil)) (wC (.int 256))) (wVar 9))
      (wLet 6 (wRet (wVar 6)))))))) [.v dBox, .v (prD b), .v (lD b), .v (lD (frm b)), .v (nD (cnt b.length).length), .v (nD k), .l (natsD (frm b)), .no, .no, .no, .no] (fin Q R) := by
    intro k
    refine eqi (wTF (fun h => ?_) (fun h => wF rfl (next_ok (sp4 T g q))))
    refine wTF (fun h2 => ?_) (fun h2 => next_ok (sp4 T g q))
    have h2 : (1 : Int) < ((natsD b).length : Int) := of_decide_eq_true h2
    rw [lb] at h2
    refine ⟨rfl, ?_⟩
    refine (show F_law_take T [dBox, .int ((natsD b).length : Int)] _ _ from ?_)
    rw [lb]
    refine take_s T (by omega) (by omega) fun r1 hr1 => ⟨rfl, take_s T (by omega) (by omega) fun r2 hr2 => ?_⟩
    obtain ⟨x, hx⟩ : ∃ x, b[r1]? = some x := ⟨_, List.getElem?_eq_getElem (by omega)⟩
    obtain ⟨y, hy⟩ : ∃ y, b[r2]? = some y := ⟨_, List.getElem?_eq_getElem (by omega)⟩
    refine (show wSeq (wPut 6 (wOp φIxU (wVar 3) (wVar 8)) (wVar 7)) _ [.v dBox, .v (prD b), .v (lD b), .v (lD (frm b)), .v (nD (cnt b.length).length), .v (nD k), .l (natsD (frm b)), .v (nD ((cnt b.length).length + r1)), .v (nD ((cnt b.length).length + r2)), .no, .no] _ from ?_)
    unfold wSeq
    refine put_ok (Dk := fun d => d = nD y) (j := (cnt b.length).length + r1) (ds := natsD (frm b)) (fun Q' R' kk => ixl _ (nats_get (frm_at hy)) (kk _ rfl)) rfl (by rw [nats_len]; omega) (fun Q' R' kk => kk) ?_
    rintro d rfl
    refine put_ok (Dk := fun d => d = nD x) (j := (cnt b.length).length + r2) (ds := (natsD (frm b)).set ((cnt b.length).length + r1) (nD y)) (fun Q' R' kk => ixl _ (nats_get (frm_at hx)) (kk _ rfl)) rfl (by rw [List.length_set, nats_len]; omega) (fun Q' R' kk => kk) ?_
    rintro d rfl
    have e1 : ((natsD (frm b)).set ((cnt b.length).length + r1) (nD y)).set ((cnt b.length).length + r2) (nD x) = natsD (((frm b).set ((cnt b.length).length + r1) y).set ((cnt b.length).length + r2) x) := by rw [nats_set, nats_set]
    refine ixl _ (nats_get (frm_at hx)) (ixl _ (nats_get (frm_at hy)) (eqi ?_))
    by_cases hn : x = y
    · subst hn
      refine wF (nT rfl) (next_ok ?_)
      have e2 : ((frm b).set ((cnt b.length).length + r1) x).set ((cnt b.length).length + r2) x = frm b := set_same (frm_at hx) (frm_at hy)
      rw [e2] at e1
      have := sp4 T (k := k) (x7 := .v (nD ((cnt b.length).length + r1))) (x8 := .v (nD ((cnt b.length).length + r2))) (R := R) g q
      rw [← e1] at this
      exact this
    · refine wT (by show (!decide ((x : Int) = (y : Int))) = true; rw [decide_eq_false (by omega)]; rfl) ?_
      have h5 := q _ (bad_two (by omega) g.oct hx hy hn) (by rw [List.length_set, List.length_set]; omega)
      rw [← e1] at h5
      exact h5
  refine ⟨rfl, take_s T (by decide) (by decide) fun k hk => ?_⟩
  have eh : ((natsD (frm b)).length : Int) - ((natsD b).length : Int) - 2 = (((cnt b.length).length : Nat) : Int) := by rw [nats_len, nats_len, lf]; omega
  have go2 : ∀ z : Int, z = (((cnt b.length).length : Nat) : Int) → (wSeq (wSetS 6 (wSl_ (wBl φList (wCons (wVar 3) wNil))))
      (wSeq (wIfS (wAnd (wOpB (φEqU false) (wVar 5) (wC (.int 0))) (wOpB φGtU (wBt φLen (wCons (wVar 2) wNil)) (wC (.int 1)))) (wSeq (wPar2 7 8 (wSv (wOp φAdd (wVar 4) (wCall 2 (F_law_take T) (wCons (wVar 0) (wCons (wBt φLen (wCons (wVar 2) wNil)) wNil))))) (wSv (wOp φAdd (wVar 4) (wCall 2 (F_law_take T) (wCons (wVar 0) (wCons (wBt φLen (wCons (wVar 2) wNil)) wNil))))))
      (wSeq (wPut 6 (wOp φIxU (wVar 3) (wVar 8)) (wVar 7))
      (wSeq (wPut 6 (wOp φIxU (wVar 3) (wVar 7)) (wVar 8))
      (wIfS (wOpB (φEqU true) (wOp φIxU (wVar 3) (wVar 7)) (wOp φIxU (wVar 3) (wVar 8))) (wLet 6 (wRet (wVar 6))) wNext)))) wNext)
      (wSeq (wIfS (wAnd (wOpB (φEqU false) (wVar 5) (wC (.int 1))) (wOpB (φEqU true) (wOp φIxU (wVar 3) (wOp φSub (wBt φLen (wCons (wVar 3) wNil)) (wC (.int 2)))) (wOp φIxU (wVar 3) (wOp φSub (wBt φLen (wCons (wVar 3) wNil)) (wC (.int 1)))))) (wRet (wOp φAdd (wSl φSlU (wVar 3) wNoP (wPart (wOp φSub (wBt φLen (wCons (wVar 3) wNil)) (wC (.int 2))))) (wLV (wLst (wCons (wOp φIxU (wVar 3) (wOp φSub (wBt φLen (wCons (wVar 3) wNil)) (wC (.int 1)))) (wCons (wOp φIxU (wVar 3) (wOp φSub (wBt φLen (wCons (wVar 3) wNil)) (wC (.int 2)))) wNil)))))) wNext)
      (wSeq (wIfS (wOpB (φEqU false) (wVar 5) (wC (.int 2))) (wRet (wOp φAdd (wOp φAdd (wLV (wComp [10] (wWalk (wSl φSlU (wVar 3) wNoP (wPart (wVar 4)))) (sName 10) wYes (wOp φAdd (wVar 10) (wOp φMul (wC (.int 128)) (wBt φInt (wCons (wOp φLtU (wVar 10) (wC (.int 128))) wNil)))))) (wLV (wLst (wCons (wC (.int 0)) wNil)))) (wSl φSlU (wVar 3) (wPart (wVar 4)) wNoP))) wNext)
      (wSeq (wSetS 9 (wSv (wOp φAdd (wVar 4) (wCall 2 (F_law_pick T) (wCons (wVar 0) (wCons (wLV (wLst (wCons (wC (.int 0)) (wCons (wBt φLen (wCons (wVar 2) wNil)) (wCons (wOp φAdd (wBt φLen (wCons (wVar 2) wNil)) (wC (.int 1))) (wCons (wCall 2 (F_law_take T) (wCons (wVar 0) (wCons (wOp φAdd (wBt φLen (wCons (wVar 2) wNil)) (wC (.int 2))) wNil))) wNil)))))) wNil))))))
      (wSeq (wPut 6 (wOp φMod (wBt φInt (wCons (wOp φAdd (wOp φAdd (wOp φIxU (wVar 3) (wVar 9)) (wC (.int 1))) (wCall 2 (F_law_pick T) (wCons (wVar 0) (wCons (wLV (wLst (wCons (wC (.int 0)) (wCons (wC (.int 127)) (wCons (wC (.int 254)) (wCons (wCall 2 (F_law_take T) (wCons (wVar 0) (wCons (wC (.int 255)) wNil))) wNil)))))) wNil)))) wNil)) (wC (.int 256))) (wVar 9))
      (wLet 6 (wRet (wVar 6))))))))) [.v dBox, .v (prD b), .v (lD b), .v (lD (frm b)), .v (.int z), .v (nD k), .no, .no, .no, .no, .no] (fin Q R) := by
    rintro z rfl
    exact go3 k
  exact go2 _ eh
theorem bads {bs : List (List Nat)} (hb : ∀ b ∈ bs, b.length ≤ 100000) {s rest : List Nat} (h : Bad s) : Frs (flat bs ++ (s ++ rest)) 0 bs (flat bs).length :=
  frs_ahead hb (h.2.2 _ _ rest (by rw [List.drop_left]))
theorem spoils_hold_s {bs : List (List Nat)} (h1 : 1 ≤ bs.length) (h6 : bs.length ≤ 6) (hg : ∀ b ∈ bs, GB b) (q : Q (.bl true)) : F_law_spoils_hold T [dBox, .lst (bs.map prD)] Q R := by
  unfold F_law_spoils_hold Fr_law_spoils_hold
  have lm : (bs.map prD).length = bs.length := List.length_map _
  refine ⟨rfl, ?_⟩
  refine (show F_law_take T [dBox, .int ((bs.map prD).length : Int)] _ _ from ?_)
  rw [lm]
  refine take_s T (by omega) (by omega) fun m hm => ⟨rfl, ?_⟩
  have ef : Pd.cutD (bs.map prD) none (some (m : Int)) = (bs.take m).map prD := by rw [cutD_n0, List.map_take]
  have eb : Pd.cutD (bs.map prD) (some ((m : Int) + 1)) none = (bs.drop (m + 1)).map prD := by rw [show (m : Int) + 1 = ((m + 1 : Nat) : Int) from rfl, cutD_0n, List.map_drop]
  have ht : ∀ b ∈ bs.take m, GB b := fun b h => hg b (List.mem_of_mem_take h)
  have hd : ∀ b ∈ bs.drop (m + 1), GB b := fun b h => hg b (List.mem_of_mem_drop h)
  have l1 := flat_len ht
  have l2 := flat_len hd
  have l3 : (bs.take m).length ≤ 6 := by rw [List.length_take]; omega
  have l4 : (bs.drop (m + 1)).length ≤ 6 := by rw [List.length_drop]; omega
  have l5 := Nat.mul_le_mul_right 4200 l3
  have l6 := Nat.mul_le_mul_right 4200 l4
  refine (show F_law_flat T [.lst (Pd.cutD (bs.map prD) none (some (m : Int)))] _ _ from ?_)
  rw [ef]
  refine flat_s T l3 ht ?_
  obtain ⟨b, hb⟩ : ∃ b, bs[m]? = some b := ⟨_, List.getElem?_eq_getElem (by omega)⟩
  have go : ∀ os : List Nat, Oct os → os.length ≤ 90000 → Frs os 0 (bs.take m) (flat (bs.take m)).length → (wRet (wCall 3 (F_law_is_told T) (wCons (wCall 1 (F_frames T) (wCons (wVar 4) wNil)) (wCons (wLV (wComp [5] (wWalk (wSl φSlU (wVar 1) wNoP (wPart (wVar 2)))) (sName 5) wYes (wOp φIxU (wVar 5) (wC (.int 0))))) (wCons (wBt φLen (wCons (wVar 3) wNil)) wNil))))) [.v dBox, .v (.lst (bs.map prD)), .v (nD m), .v (lD (flat (bs.take m))), .v (bD os), .no] (fin Q R) := by
    intro os o1 o2 o3
    refine ⟨rfl, frames_s T o2 o1.small o3 ?_⟩
    refine (show wLc _ _ _ _ (Pd.cutD (bs.map prD) none (some (m : Int))) _ _ _ _ from ?_)
    rw [ef]
    refine lc_map (fun d => match d with | .tup [x, _] => x | y => y) (small _ (by rw [List.length_map]; omega)) (fun d hd Q' hq => ?_) ?_
    · obtain ⟨b, _, rfl⟩ := List.mem_map.mp hd
      exact ⟨_, rfl, ixt 0 rfl hq⟩
    · have e : ((bs.take m).map prD).map (fun d => match d with | .tup [x, _] => x | y => y) = (bs.take m).map lD := by
        rw [List.map_map]
        rfl
      rw [e]
      exact ⟨rfl, is_told_s T (gb_len ht) (by omega) (by rw [nats_len]) q⟩
  refine ixl m (d := prD b) (by rw [List.getElem?_map, hb]; rfl) ⟨rfl, spoilt_s T (hg b (List.mem_of_getElem? hb)) fun s hs ls => ⟨small _ (by rw [nats_len, nats_len]; omega), rfl, ?_⟩⟩
  refine (show F_law_flat T [.lst (Pd.cutD (bs.map prD) (some ((m : Int) + 1)) none)] _ _ from ?_)
  rw [eb]
  refine flat_s T l4 hd ⟨small _ (by rw [List.length_append, nats_len, nats_len, nats_len]; omega), ?_⟩
  have e9 : natsD (flat (bs.take m)) ++ natsD s ++ natsD (flat (bs.drop (m + 1))) = natsD (flat (bs.take m) ++ (s ++ flat (bs.drop (m + 1)))) := by rw [natsD_app, natsD_app, List.append_assoc]
  have g9 := go (flat (bs.take m) ++ (s ++ flat (bs.drop (m + 1)))) ((flat_oct ht).app (hs.1.app (flat_oct hd))) (by rw [List.length_append, List.length_append]; omega) (bads (gb_len ht) hs)
  unfold bD at g9
  rw [← e9] at g9
  exact g9
end
end K86
set_option maxRecDepth 100000
set_option maxHeartbeats 4000000
namespace K86
open PySem PySem.Spec PyProof.Rows L2 Pre Pd M85
theorem for_post {fi : Fx (List D)} {s : Tg} {body : Fs} {env : En} {P : Out → Prop} (Post : En → Prop) (ds : List D) (hi : ∀ (Q : List D → Prop) R, Q ds → fi env Q R) (Inv : Nat → En → Prop) (h0 : Inv 0 env)
    (step : ∀ i d e0 (Q : Out → Prop), ds[i]? = some d → Inv i e0 → LpQ P (Inv (i + 1)) Q → (∀ e, Post e → Q (.bk e)) → ∃ e, s d e0 = some e ∧ body e Q) (end_ : ∀ e, Inv ds.length e → Post e) (k : ∀ e, Post e → P (.nx e)) : wFor fi s body env P :=
  for_inv ds hi Inv h0 (fun i d e0 Q hd h hq => step i d e0 Q hd h hq fun e h => hq.bk e (k e h)) fun e h => k e (end_ e h)
theorem tw_spec : ∀ l : List Nat, (∀ i x, i < (l.takeWhile (fun x => decide (128 ≤ x))).length → l[i]? = some x → 128 ≤ x) ∧ (∀ x, l[(l.takeWhile (fun x => decide (128 ≤ x))).length]? = some x → x < 128) ∧ (l.takeWhile (fun x => decide (128 ≤ x))).length ≤ l.length
  | [] => ⟨fun i x h => (by cases h), fun x h => (by cases h), Nat.le_refl _⟩
  | c :: l => by
    obtain ⟨h1, h2, h3⟩ := tw_spec l
    by_cases hc : 128 ≤ c
    · rw [List.takeWhile_cons_of_pos (by simpa using hc)]
      refine ⟨fun i x hi hx => ?_, fun x hx => h2 x (by simpa using hx), by rw [List.length_cons, List.length_cons]; omega⟩
      cases i with
      | zero =>
        have : c = x := by simpa using hx
        omega
      | succ i => exact h1 i x (by rw [List.length_cons] at hi; omega) (by simpa using hx)
    · rw [List.takeWhile_cons_of_neg (by simpa using hc)]
      refine ⟨fun i x hi hx => (by cases hi), fun x hx => ?_, Nat.zero_le _⟩
      have : c = x := by simpa using hx
      omega
theorem run_in {os : List Nat} {a i x : Nat} (h : i < run os a) (hx : os[a + i]? = some x) : 128 ≤ x := (tw_spec (os.drop a)).1 i x h (by rw [List.getElem?_drop]; exact hx)
theorem run_out {os : List Nat} {a x : Nat} (hx : os[a + run os a]? = some x) : x < 128 := (tw_spec (os.drop a)).2.1 x (by rw [List.getElem?_drop]; exact hx)
theorem run_le {os : List Nat} {a : Nat} (h : a ≤ os.length) : a + run os a ≤ os.length := by
  have := (tw_spec (os.drop a)).2.2
  rw [List.length_drop] at this
  unfold run
  omega
theorem and_ok {ga gb : Fx Bool} {c1 c2 : Bool} {env : En} {P : Bool → Prop} {R : Err → Prop} (h1 : ∀ P' : Bool → Prop, P' c1 → ga env P' R) (h2 : c1 = true → ∀ P' : Bool → Prop, P' c2 → gb env P' R) (k : P (c1 && c2)) : wAnd ga gb env P R :=
  h1 _ (by
    cases c1 with
    | true => exact wT rfl (h2 rfl _ k)
    | false => exact wF rfl k)
theorem set_eq {i : Nat} {fa : Fx D} {env : En} {P : Out → Prop} (d : D) (hf : ∀ (Q' : D → Prop) (R' : Err → Prop), Q' d → fa env Q' R') (k : P (.nx (env.set i (.v d)))) : wSetS i (wSv fa) env P := hf _ _ k
theorem eq2 {x y u v : Nat} : eqD (.lst (natsD [x, y])) (.lst (natsD [u, v])) = (decide ((x : Int) = (u : Int)) && decide ((y : Int) = (v : Int))) := by
  rw [eqD_lst (nats_okA _) (nats_okA _)]
  simp [eqA, natsD, PyData.eqvAll, PyData.eqv, py, toPy]
  rfl
section
variable {P : Program} {w : World} {K : PySem.W.Frag} {mg : Str → Option Value} {base : Heap} (T : Tx K mg) {Q : D → Prop} {R : Err → Prop}
theorem read_s {os : List Nat} {cs : List (List Nat)} {z : Nat} (ho : Oct os) (hl : os.length ≤ 1000) (h : Frs os 0 cs z) (q : Q (.tup [.lst (cs.map lD), nD z])) : F_law_read T [lD os] Q R := by
  unfold F_law_read Fr_law_read
  have lo := nats_len os
  have lb := frs_len h
  refine ⟨small 0, ?_⟩
  refine for_inv (rangeD 0 os.length) (fun Q' R' kk => ⟨⟨by omega, by show ((natsD os).length : Int) < 2 ^ 62; rw [lo]; omega⟩, by rw [lo]; exact kk⟩) (fun i e => ∃ (done rest : List (List Nat)) (a : Nat) (x3 x4 x5 x6 x7 : Sl), e = [.v (lD os), .v (.lst (done.map lD)), .v (nD a), x3, x4, x5, x6, x7] ∧ Frs os a rest z ∧ done ++ rest = cs ∧ i ≤ a ∧ a ≤ os.length) ⟨[], cs, 0, .no, .no, .no, .no, .no, rfl, h, rfl, Nat.le_refl _, Nat.zero_le _⟩ ?_ ?_
  · rintro i d e0 Q' hd ⟨done, rest, a, x3, x4, x5, x6, x7, rfl, hr, hdn, hia, hal⟩ hq
    obtain ⟨hi, rfl⟩ := range_at hd
    have stop : fr os a = none → Q' (.rt (.tup [.lst (done.map lD), nD a])) := fun hn => by
      cases hr with
      | stop _ =>
        rw [List.append_nil] at hdn
        subst hdn
        exact hq.rt _ q
      | step h1 _ => rw [hn] at h1; cases h1
    have rl := run_le hal
    refine ⟨_, rfl, ?_⟩
    refine for_post (fun e => ∃ x5, e = [.v (lD os), .v (.lst (done.map lD)), .v (nD a), .v (.int (i : Int)), .v (nD (a + run os a)), x5, x6, x7]) (rangeD 0 os.length) (fun Q' R' kk => ⟨⟨by omega, by show ((natsD os).length : Int) < 2 ^ 62; rw [lo]; omega⟩, by rw [lo]; exact kk⟩) (fun j e => ∃ x5, e = [.v (lD os), .v (.lst (done.map lD)), .v (nD a), .v (.int (i : Int)), .v (nD (a + j)), x5, x6, x7] ∧ j ≤ run os a) ⟨x5, rfl, Nat.zero_le _⟩ ?_ ?_ ?_
    · rintro j d e1 Q2 hd ⟨y5, rfl, hj⟩ hq2 hbk
      obtain ⟨hj2, rfl⟩ := range_at hd
      refine ⟨_, rfl, ?_⟩
      refine wTF (fun hge => wT rfl ?_) (fun hge => ?_)
      · have hge : ((natsD os).length : Int) ≤ ((a + j : Nat) : Int) := of_decide_eq_true hge
        rw [lo] at hge
        have e : a + j = a + run os a := by omega
        exact hbk _ ⟨.v (.int (j : Int)), by rw [← e] <;> rfl⟩
      · have hge : ¬ ((natsD os).length : Int) ≤ ((a + j : Nat) : Int) := of_decide_eq_false hge
        rw [lo] at hge
        obtain ⟨x, hx⟩ : ∃ x, os[a + j]? = some x := ⟨_, List.getElem?_eq_getElem (by omega)⟩
        refine ixl (a + j) (nats_get hx) (wTF (fun hlt => ?_) (fun hlt => next_ok ?_))
        · have hlt : (x : Int) < 128 := of_decide_eq_true hlt
          have e : j = run os a := by
            rcases Nat.lt_or_ge j (run os a) with h | h
            · have := run_in h hx
              omega
            · omega
          exact hbk _ ⟨.v (.int (j : Int)), by rw [← e] <;> rfl⟩
        · have hlt : ¬ (x : Int) < 128 := of_decide_eq_false hlt
          have hj3 : j < run os a := by
            rcases Nat.lt_or_ge j (run os a) with h | h
            · exact h
            · have e : j = run os a := by omega
              subst e
              have := run_out hx
              omega
          exact hq2.nx _ ⟨.v (.int (j : Int)), rfl, hj3⟩
    · rintro e ⟨y5, rfl, hj⟩
      rw [range_len] at hj ⊢
      have e : a + os.length = a + run os a := by omega
      exact ⟨y5, by rw [← e] <;> rfl⟩
    · rintro e ⟨y5, rfl⟩
      have rn : rdN os a = if os.length ≤ a then none else if a + run os a = os.length ∨ (os[a + run os a]?.getD 0 = 0 ∧ a < a + run os a) then none else some (val (((os.take (a + run os a + 1)).drop a).map (· % 128)), a + run os a + 1) := rfl
      refine wTF (fun hge => wT rfl ⟨small 2, stop ?_⟩) (fun hge => ?_)
      · have hge : ((natsD os).length : Int) ≤ ((a + run os a : Nat) : Int) := of_decide_eq_true hge
        rw [lo] at hge
        unfold fr
        rw [rn]
        by_cases h1 : os.length ≤ a
        · rw [if_pos h1]
        · rw [if_neg h1, if_pos (.inl (by omega))]
      have hge : ¬ ((natsD os).length : Int) ≤ ((a + run os a : Nat) : Int) := of_decide_eq_false hge
      rw [lo] at hge
      obtain ⟨x, hx⟩ : ∃ x, os[a + run os a]? = some x := ⟨_, List.getElem?_eq_getElem (by omega)⟩
      rw [if_neg (by omega), hx] at rn
      replace rn : rdN os a = if a + run os a = os.length ∨ (x = 0 ∧ a < a + run os a) then none else some (val (((os.take (a + run os a + 1)).drop a).map (· % 128)), a + run os a + 1) := rn
      refine and_ok (c1 := decide (((a : Nat) : Int) < ((a + run os a : Nat) : Int))) (c2 := decide ((x : Int) = 0)) (fun P' k => k) (fun h P' k => ixl _ (nats_get hx) (eqi k)) ?_
      refine wTF (fun hz => ⟨small 2, stop ?_⟩) (fun hz => next_ok ?_)
      · rw [Bool.and_eq_true, decide_eq_true_iff, decide_eq_true_iff] at hz
        rw [if_pos (.inr ⟨by omega, by omega⟩)] at rn
        unfold fr
        rw [rn]
      have hno : ¬ (a + run os a = os.length ∨ (x = 0 ∧ a < a + run os a)) := by
        intro h
        rcases h with h | ⟨h, h'⟩
        · omega
        · rw [decide_eq_true (show (x : Int) = 0 by omega), decide_eq_true (show ((a : Nat) : Int) < ((a + run os a : Nat) : Int) by omega)] at hz
          cases hz
      rw [if_neg hno] at rn
      have fl : (((os.take (a + run os a + 1)).drop a).map (· % 128)).length = run os a + 1 := by rw [List.length_map, List.length_drop, List.length_take]; omega
      have fg : Dig (((os.take (a + run os a + 1)).drop a).map (· % 128)) := dig_mod _
      have fa : ∀ (j o : Nat), j ≤ run os a → os[a + j]? = some o → (((os.take (a + run os a + 1)).drop a).map (· % 128))[j]? = some (o % 128) := fun j o hj ho => by
        rw [List.getElem?_map, List.getElem?_drop, List.getElem?_take_of_lt (by omega), ho]
        rfl
      generalize ((os.take (a + run os a + 1)).drop a).map (· % 128) = fs at *
      generalize run os a = rr at *
      refine for_inv (rangeD 0 (rr + 1)) (fun Q2 R2 kk => ⟨⟨by omega, by show (((a + rr : Nat) : Int) - (a : Int) + 1) < 2 ^ 62; omega⟩, by rw [show (((a + rr : Nat) : Int) - (a : Int) + 1).toNat = rr + 1 from by omega]; exact kk⟩) (fun j e => ∃ y5, e = [.v (lD os), .v (.lst (done.map lD)), .v (nD a), .v (.int (i : Int)), .v (nD (a + rr)), y5, .v (nD (val (fs.drop (rr + 1 - j)))), x7]) ⟨y5, by rw [List.drop_eq_nil_of_le (by omega)]; rfl⟩ ?_ ?_
      · rintro j d e1 Q2 hd ⟨z5, rfl⟩ hq2
        obtain ⟨hj, rfl⟩ := range_at hd
        obtain ⟨o, ho2⟩ : ∃ o, os[a + (rr - j)]? = some o := ⟨_, List.getElem?_eq_getElem (by omega)⟩
        have v1 := val_le (fg.drop (rr + 1 - j))
        have v2 : val (fs.drop (rr + 1 - j)) < 2 ^ (7 * (fs.drop (rr + 1 - j)).length + 1) := by rw [Nat.pow_succ]; omega
        have ev : val (fs.drop (rr + 1 - (j + 1))) = val (fs.drop (rr + 1 - j)) * 128 + o % 128 := by
          have h1 := fa (rr - j) o (by omega) ho2
          have h2 := (List.getElem?_eq_some_iff.mp h1).1
          rw [show rr + 1 - (j + 1) = rr - j from by omega, show rr + 1 - j = rr - j + 1 from by omega, List.drop_eq_getElem_cons h2, (List.getElem?_eq_some_iff.mp h1).2]
          show o % 128 + 128 * val (fs.drop (rr - j + 1)) = _
          omega
        refine ⟨_, rfl, mul128 v2 (by rw [List.length_drop]; omega) (by omega), ixl (a + (rr - j)) (nats_get ho2) ⟨by show (128 : Int) ≠ 0; decide, hq2.nx _ ⟨.v (.int (j : Int)), ?_⟩⟩⟩
        have e2 : ((val (fs.drop (rr + 1 - j)) : Nat) : Int) * 128 + ((o : Nat) : Int).fmod 128 = ((val (fs.drop (rr + 1 - (j + 1))) : Nat) : Int) := by
          rw [ev, Int.fmod_eq_emod_of_nonneg _ (by decide)]
          push_cast
          rfl
        show [Sl.v (lD os), .v (.lst (done.map lD)), .v (nD a), .v (.int (i : Int)), .v (nD (a + rr)), .v (.int (j : Int)), .v (.int (((val (fs.drop (rr + 1 - j)) : Nat) : Int) * 128 + ((o : Nat) : Int).fmod 128)), x7] = _
        rw [e2]
      · rintro e ⟨z5, rfl⟩
        rw [range_len, Nat.sub_self, List.drop_zero]
        have frv : fr os a = if os.length < a + rr + 1 + val fs + 2 then none else if wsum ((os.drop (a + rr + 1)).take (val fs)) % 65521 = os[a + rr + 1 + val fs]?.getD 0 + 256 * os[a + rr + 1 + val fs + 1]?.getD 0 then some ((os.drop (a + rr + 1)).take (val fs), a + rr + 1 + val fs + 2) else none := by
          unfold fr
          rw [rn]
        generalize val fs = m at *
        refine wTF (fun hgt => ⟨small 2, stop ?_⟩) (fun hgt => next_ok ?_)
        · have hgt : ((natsD os).length : Int) - ((a + rr : Nat) : Int) - 3 < ((m : Nat) : Int) := of_decide_eq_true hgt
          rw [lo] at hgt
          rw [frv, if_pos (by omega)]
        have hgt : ¬ ((natsD os).length : Int) - ((a + rr : Nat) : Int) - 3 < ((m : Nat) : Int) := of_decide_eq_false hgt
        rw [lo] at hgt
        rw [if_neg (by omega)] at frv
        have e1 : Pd.cutD (natsD os) (some (((a + rr : Nat) : Int) + 1)) (some (((a + rr : Nat) : Int) + 1 + (m : Int))) = natsD ((os.drop (a + rr + 1)).take m) := by
          rw [show ((a + rr : Nat) : Int) + 1 = ((a + rr + 1 : Nat) : Int) from rfl, show ((a + rr + 1 : Nat) : Int) + (m : Int) = ((a + rr + 1 + m : Nat) : Int) from rfl, cutD_nn (by omega)]
          unfold natsD
          rw [List.drop_take, ← List.map_drop, ← List.map_take, show a + rr + 1 + m - (a + rr + 1) = m from by omega]
        have e2 : Pd.cutD (natsD os) (some (((a + rr : Nat) : Int) + 1 + (m : Int))) (some (((a + rr : Nat) : Int) + 3 + (m : Int))) = natsD [os[a + rr + 1 + m]?.getD 0, os[a + rr + 1 + m + 1]?.getD 0] := by
          rw [show ((a + rr : Nat) : Int) + 1 + (m : Int) = ((a + rr + 1 + m : Nat) : Int) from by omega, show ((a + rr : Nat) : Int) + 3 + (m : Int) = ((a + rr + 1 + m + 2 : Nat) : Int) from by omega, cutD_nn (by omega)]
          have g1 := List.drop_eq_getElem_cons (show a + rr + 1 + m < os.length by omega)
          have g2 := List.drop_eq_getElem_cons (show a + rr + 1 + m + 1 < os.length by omega)
          rw [List.getElem?_eq_getElem (show a + rr + 1 + m < os.length by omega), List.getElem?_eq_getElem (show a + rr + 1 + m + 1 < os.length by omega)]
          unfold natsD
          rw [List.drop_take, ← List.map_drop, ← List.map_take, show a + rr + 1 + m + 2 - (a + rr + 1 + m) = 2 from by omega, g1, g2]
          rfl
        have ox : os[a + rr + 1 + m]?.getD 0 ≤ 255 := by
          rw [List.getElem?_eq_getElem (show a + rr + 1 + m < os.length by omega)]
          exact ho _ (List.getElem_mem _)
        have ob : Oct ((os.drop (a + rr + 1)).take m) := fun x hx => ho x (List.mem_of_mem_drop (List.mem_of_mem_take hx))
        have lbo : ((os.drop (a + rr + 1)).take m).length ≤ 1000 := by rw [List.length_take, List.length_drop]; omega
        have wm := wsum_mod ((os.drop (a + rr + 1)).take m)
        generalize (os.drop (a + rr + 1)).take m = bo at *
        generalize os[a + rr + 1 + m]?.getD 0 = u1 at *
        generalize os[a + rr + 1 + m + 1]?.getD 0 = u2 at *
        refine (show wSeq (wSetS 7 (wSv _)) _ [.v (lD os), .v (.lst (done.map lD)), .v (nD a), .v (.int (i : Int)), .v (nD (a + rr)), z5, .v (nD m), x7] Q' from ?_)
        unfold wSeq
        refine set_eq (lD bo) (fun Q2 R2 kk => ?_) ?_
        · show Q2 (.lst (Pd.cutD (natsD os) (some (((a + rr : Nat) : Int) + 1)) (some (((a + rr : Nat) : Int) + 1 + (m : Int)))))
          rw [e1]
          exact kk
        have t1 : ((wsum bo % 65521 : Nat) : Int).fmod 256 = ((wsum bo % 65521 % 256 : Nat) : Int) := by rw [Int.fmod_eq_emod_of_nonneg _ (by decide)]; exact (Int.natCast_emod _ _).symm
        have t2 : ((wsum bo % 65521 : Nat) : Int).fdiv 256 = ((wsum bo % 65521 / 256 : Nat) : Int) := by rw [Int.fdiv_eq_ediv_of_nonneg _ (by decide)]; exact (Int.natCast_ediv _ _).symm
        have cmp : ∀ P2 : D → Prop, P2 (.bl (!eqD (.lst (natsD [u1, u2])) (.lst (natsD [wsum bo % 65521 % 256, wsum bo % 65521 / 256])))) → φEqU true (.lst (Pd.cutD (natsD os) (some (((a + rr : Nat) : Int) + 1 + (m : Int))) (some (((a + rr : Nat) : Int) + 3 + (m : Int))))) (.lst [.int (((wsum bo % 65521 : Nat) : Int).fmod 256), .int (((wsum bo % 65521 : Nat) : Int).fdiv 256)]) P2 := fun P2 h => by
          rw [e2, t1, t2]
          exact eq_ok (natsD_ok _) (natsD_ok [_, _]) (natsD_dep _) (natsD_dep [_, _]) h
        refine ⟨rfl, law_sum_s T ob (by omega) ⟨by show (256 : Int) ≠ 0; decide, rfl, law_sum_s T ob (by omega) ⟨div_ok (b := 20) (by decide) (by decide), small 2, cmp _ ?_⟩⟩⟩
        rw [eq2]
        by_cases hs : wsum bo % 65521 = u1 + 256 * u2
        · rw [if_pos hs] at frv
          refine wF (by rw [decide_eq_true (by omega), decide_eq_true (by omega)]; rfl) (next_ok ?_)
          cases hr with
          | stop h0 => rw [frv] at h0; cases h0
          | step h0 r0 =>
            rename_i ez b1 bs1
            rw [frv] at h0
            have h0 := Option.some.inj h0
            injection h0 with h01 h02
            subst h01
            subst h02
            have ld : done.length ≤ 1000 := by
              have := congrArg List.length hdn
              rw [List.length_append] at this
              omega
            refine ⟨small 1, small _ (by rw [List.length_map]; show done.length + 1 ≤ _; omega), hq.nx _ ⟨done ++ [bo], bs1, a + rr + 1 + m + 2, .v (.int (i : Int)), .v (nD (a + rr)), z5, .v (nD m), .v (lD bo), ?_, r0, by rw [List.append_assoc]; exact hdn, by omega, by omega⟩⟩
            have e5 : done.map lD ++ [lD bo] = (done ++ [bo]).map lD := by rw [List.map_append]; rfl
            have e6 : ((a + rr : Nat) : Int) + 3 + (m : Int) = ((a + rr + 1 + m + 2 : Nat) : Int) := by omega
            show [Sl.v (lD os), .v (.lst (done.map lD ++ [lD bo])), .v (.int (((a + rr : Nat) : Int) + 3 + (m : Int))), .v (.int (i : Int)), .v (nD (a + rr)), z5, .v (nD m), .v (lD bo)] = _
            rw [e5, e6]
        · rw [if_neg hs] at frv
          have hb : (decide ((u1 : Int) = ((wsum bo % 65521 % 256 : Nat) : Int)) && decide ((u2 : Int) = ((wsum bo % 65521 / 256 : Nat) : Int))) = false := by
            rw [Bool.and_eq_false_iff, decide_eq_false_iff_not, decide_eq_false_iff_not]
            omega
          exact wT (by rw [hb]; rfl) ⟨small 2, stop frv⟩
  · rintro e ⟨done, rest, a, x3, x4, x5, x6, x7, rfl, hr, hdn, hia, hal⟩
    rw [range_len] at hia
    cases hr with
    | stop _ =>
      rw [List.append_nil] at hdn
      subst hdn
      exact ⟨small 2, q⟩
    | step h1 _ =>
      have := fr_end (os := os) (a := a) (by omega)
      rw [this] at h1
      cases h1
end
end K86
set_option maxRecDepth 100000
set_option maxHeartbeats 4000000
namespace K86
open PySem PySem.Spec PyProof.Rows L2 Pre Pd M85
theorem fr_size {os : List Nat} {a e : Nat} {b : List Nat} (h : fr os a = some (b, e)) : b.length ≤ os.length := by
  unfold fr at h
  split at h
  · cases h
  · split at h
    · cases h
    · split at h
      · have := Option.some.inj h
        injection this with h3 h4
        rw [← h3, List.length_take, List.length_drop]
        omega
      · cases h
theorem frs_size {os : List Nat} : ∀ {a z : Nat} {bs : List (List Nat)}, Frs os a bs z → ∀ b ∈ bs, b.length ≤ os.length
  | _, _, _, .stop h, b, hb => by cases hb
  | _, _, _, .step h r, b, hb => by
    rcases List.mem_cons.mp hb with h1 | h1
    · rw [h1]
      exact fr_size h
    · exact frs_size r b h1
theorem oct_take {os : List Nat} (h : Oct os) (n : Nat) : Oct (os.take n) := fun x hx => h x (List.mem_of_mem_take hx)
theorem oct_drop {os : List Nat} (h : Oct os) (n : Nat) : Oct (os.drop n) := fun x hx => h x (List.mem_of_mem_drop hx)
theorem oct1 {n : Nat} (h : n ≤ 255) : Oct [n] := fun x hx => by rw [List.mem_singleton.mp hx]; exact h
theorem take_D (os : List Nat) (n : Nat) : (natsD os).take n = natsD (os.take n) := (List.map_take).symm
theorem nats_flat (os : List Nat) : (natsD os).all D.flat = true := List.all_eq_true.mpr fun d hd => by
  obtain ⟨n, _, rfl⟩ := List.mem_map.mp hd
  rfl
theorem drop_D (os : List Nat) (n : Nat) : (natsD os).drop n = natsD (os.drop n) := (List.map_drop).symm
section
variable {P : Program} {w : World} {K : PySem.W.Frag} {mg : Str → Option Value} {base : Heap} (T : Tx K mg) {Q : D → Prop} {R : Err → Prop}
theorem any_hold_s {bs : List (List Nat)} (h1 : 1 ≤ bs.length) (h6 : bs.length ≤ 6) (hg : ∀ b ∈ bs, GB b) (q : Q (.bl true)) : F_law_any_hold T [dBox, .lst (bs.map prD)] Q R := by
  unfold F_law_any_hold Fr_law_any_hold
  refine ⟨rfl, flat_s T h6 hg ?_⟩
  have go1 : ∀ os : List Nat, Oct os → os.length ≤ 300 → (wSeq (wFor (wRng1 (wCons (wOp φAdd (wC (.int 1)) (wCall 2 (F_law_take T) (wCons (wVar 0) (wCons (wC (.int 3)) wNil)))) wNil)) (sName 3) (wSeq (wSetS 4 (wSv (wCall 2 (F_law_take T) (wCons (wVar 0) (wCons (wC (.int 4)) wNil)))))
      (wSeq (wSetS 5 (wSv (wCall 2 (F_law_take T) (wCons (wVar 0) (wCons (wOp φAdd (wLend 2 (wBt φLen (wCons (wVar 2) wNil))) (wC (.int 1))) wNil)))))
      (wSeq (wIfS (wLendQ 2 (wAnd (wOpB (φEqU false) (wVar 4) (wC (.int 0))) (wOpB φLtU (wVar 5) (wBt φLen (wCons (wVar 2) wNil))))) (wPut 2 (wCall 2 (F_law_take T) (wCons (wVar 0) (wCons (wC (.int 256)) wNil))) (wVar 5)) wNext)
      (wSeq (wIfS (wOpB (φEqU false) (wVar 4) (wC (.int 1))) (wSetS 2 (wSl_ (wLendL 2 (wOpL φCatL (wOp φAdd (wSl φSlU (wVar 2) wNoP (wPart (wVar 5))) (wLV (wLst (wCons (wCall 2 (F_law_pick T) (wCons (wVar 0) (wCons (wLV (wLst (wCons (wC (.int 0)) (wCons (wC (.int 1)) (wCons (wC (.int 127)) (wCons (wC (.int 128)) (wCons (wC (.int 255)) wNil))))))) wNil))) wNil)))) (wSl φSlU (wVar 2) (wPart (wVar 5)) wNoP))))) wNext)
      (wSeq (wIfS (wOpB (φEqU false) (wVar 4) (wC (.int 2))) (wExt 2 (wOp φMul (wLV (wLst (wCons (wC (.int 0)) wNil))) (wCall 2 (F_law_take T) (wCons (wVar 0) (wCons (wC (.int 8)) wNil))))) wNext)
      (wIfS (wOpB (φEqU false) (wVar 4) (wC (.int 3))) (wSetS 2 (wSl_ (wLendL 2 (wOpL φCatL (wSl φSlU (wVar 2) wNoP (wPart (wVar 5))) (wSl φSlU (wVar 2) (wPart (wOp φAdd (wVar 5) (wC (.int 1)))) wNoP))))) wNext)))))))
      (wLet 2 (wSeq (wAsg (wCall 1 (F_law_read T) (wCons (wVar 2) wNil)) (sTup 2 (sCons (sName 6) (sCons (sName 7) sNil))))
      (wRet (wCall 3 (F_law_is_told T) (wCons (wCallK 1 1 [0] (F_frames T) (wCons (wBt φTuple (wCons (wVar 2) wNil)) wNil)) (wCons (wVar 6) (wCons (wVar 7) wNil)))))))) [.v dBox, .v (.lst (bs.map prD)), .l (natsD os), .no, .no, .no, .no, .no] (fin Q R) := by
    intro os o1 o2
    refine for_go (Dk := fun ds => ∃ n, 1 ≤ n ∧ n ≤ 3 ∧ ds = rangeD 0 n) (fun Q' R' k => ?_) fun ds hds => ?_
    · refine ⟨rfl, take_s T (by decide) (by decide) fun r hr => ⟨⟨by omega, by omega⟩, ?_⟩⟩
      exact k _ ⟨1 + r, by omega, by omega, by rw [show ((1 : Int) + (r : Int)).toNat = 1 + r from by omega]⟩
    obtain ⟨n, n1, n3, rfl⟩ := hds
    refine loop0 (fun i e => ∃ (os : List Nat) (x3 x4 x5 : Sl), e = [.v dBox, .v (.lst (bs.map prD)), .l (natsD os), x3, x4, x5, .no, .no] ∧ Oct os ∧ os.length ≤ 300 + 10 * i) ⟨os, .no, .no, .no, rfl, o1, by omega⟩ ?_ ?_
    · rintro i d e0 Q' hd ⟨os, x3, x4, x5, rfl, o1, o2⟩ hq
      obtain ⟨hi, rfl⟩ := range_at hd
      have lo := nats_len os
      have nx : ∀ (os' : List Nat) (x4 x5 : Sl), Oct os' → os'.length ≤ os.length + 10 → Q' (.nx [.v dBox, .v (.lst (bs.map prD)), .l (natsD os'), .v (.int (i : Int)), x4, x5, .no, .no]) := fun os' x4 x5 p1 p2 => hq.nx _ ⟨os', _, x4, x5, rfl, p1, by omega⟩
      refine ⟨_, rfl, rfl, take_s T (by decide) (by decide) fun k hk => ⟨rfl, rfl, ?_⟩⟩
      refine (show F_law_take T [dBox, .int (((natsD os).length : Int) + 1)] _ _ from ?_)
      rw [lo]
      refine take_s T (by omega) (by omega) fun p hp => ?_
      have hk4 : k = 0 ∨ k = 1 ∨ k = 2 ∨ k = 3 := by omega
      have hp : p ≤ os.length := by omega
      have c1 : Pd.cutD (natsD os) none (some (p : Int)) = natsD (os.take p) := by rw [cutD_n0, take_D]
      have c2 : Pd.cutD (natsD os) (some (p : Int)) none = natsD (os.drop p) := by rw [cutD_0n, drop_D]
      have l1 : (Pd.cutD (natsD os) none (some (p : Int))).length ≤ os.length := by rw [c1, nats_len, List.length_take]; omega
      have l2 : (Pd.cutD (natsD os) (some (p : Int)) none).length ≤ os.length := by rw [c2, nats_len, List.length_drop]; omega
      rcases hk4 with rfl | rfl | rfl | rfl
      · refine eqi (wT rfl (wTF (fun h => ?_) (fun h => next_ok (eqi (wF rfl (next_ok (eqi (wF rfl (next_ok (eqi (wF rfl (next_ok (nx os _ _ o1 (by omega)))))))))))))) 
        have h : (p : Int) < ((natsD os).length : Int) := of_decide_eq_true h
        rw [lo] at h
        refine (show wPut 2 _ _ [.v dBox, .v (.lst (bs.map prD)), .l (natsD os), .v (.int (i : Int)), .v (nD 0), .v (nD p), .no, .no] _ from ?_)
        refine put_ok (Dk := fun d => ∃ y : Nat, y ≤ 255 ∧ d = nD y) (j := p) (ds := natsD os) (fun Q' R' kk => ⟨rfl, take_s T (by decide) (by decide) fun r hr => kk _ ⟨r, by omega, rfl⟩⟩) rfl (by rw [lo]; omega) (fun Q' R' kk => kk) ?_
        rintro d ⟨y, hy, rfl⟩
        have e := nats_set os p y
        refine eqi (wF rfl (next_ok (eqi (wF rfl (next_ok (eqi (wF rfl (next_ok ?_))))))))
        have := nx (os.set p y) (.v (nD 0)) (.v (nD p)) (oct_set o1 hy) (by rw [List.length_set]; omega)
        rw [← e] at this
        exact this
      · refine eqi (wF rfl (wF rfl (next_ok (eqi (wT rfl ⟨small 5, rfl, ?_⟩)))))
        refine (show F_law_pick T [dBox, .lst (natsD [0, 1, 127, 128, 255])] _ _ from pick_nats T _ (by simp) (by simp) fun y hy => ?_)
        simp only [List.mem_cons, List.not_mem_nil, or_false] at hy
        have e : Pd.cutD (natsD os) none (some (p : Int)) ++ [nD y] ++ Pd.cutD (natsD os) (some (p : Int)) none = natsD (os.take p ++ [y] ++ os.drop p) := by rw [c1, c2, ← natsD_app, ← natsD_app]; rfl
        refine ⟨small 1, small _ (by show _ + 1 ≤ _; omega), small _ (by rw [List.length_append]; show _ + 1 + _ ≤ _; omega), by rw [e]; exact nats_flat _, ?_⟩
        refine eqi (wF rfl (next_ok (eqi (wF rfl (next_ok ?_)))))
        have := nx (os.take p ++ [y] ++ os.drop p) (.v (nD 1)) (.v (nD p)) (((oct_take o1 p).app (oct1 (by omega))).app (oct_drop o1 p)) (by rw [List.length_append, List.length_append, List.length_take, List.length_drop]; show _ + 1 + _ ≤ _; omega)
        rw [← e] at this
        exact this
      · refine eqi (wF rfl (wF rfl (next_ok (eqi (wF rfl (next_ok (eqi (wT rfl ⟨small 1, rfl, take_s T (by decide) (by decide) fun r hr => ?_⟩))))))))
        have e : natsD os ++ (List.replicate ((r : Nat) : Int).toNat [D.int 0]).flatten = natsD (os ++ rep [0] r) := by
          rw [show [D.int 0] = natsD [0] from rfl, rep_D, natsD_app]
        have lr : (rep [0] r).length = r := by rw [rep_len]; show r * 1 = r; omega
        have lr2 : (List.replicate ((r : Nat) : Int).toNat [D.int 0]).flatten.length = r := by rw [show [D.int 0] = natsD [0] from rfl, rep_D, nats_len, lr]
        refine ⟨⟨by omega, by omega, by show 1 * ((r : Nat) : Int).toNat ≤ sizeLine; rw [sizeLine_eq]; omega⟩, small _ (by rw [lr2]; omega), ?_⟩
        refine eqi (wF rfl (next_ok ?_))
        have := nx (os ++ rep [0] r) (.v (nD 2)) (.v (nD p)) (o1.app fun x hx => by rw [List.mem_singleton.mp (rep_mem hx)]; omega) (by rw [List.length_append, lr]; omega)
        rw [← e] at this
        exact this
      · refine eqi (wF rfl (wF rfl (next_ok (eqi (wF rfl (next_ok (eqi (wF rfl (next_ok (eqi (wT rfl ?_))))))))))) 
        have c3 : Pd.cutD (natsD os) (some ((p : Int) + 1)) none = natsD (os.drop (p + 1)) := by rw [show (p : Int) + 1 = ((p + 1 : Nat) : Int) from rfl, cutD_0n, drop_D]
        have e : Pd.cutD (natsD os) none (some (p : Int)) ++ Pd.cutD (natsD os) (some ((p : Int) + 1)) none = natsD (os.take p ++ os.drop (p + 1)) := by rw [c1, c3, ← natsD_app]
        have l3 : (Pd.cutD (natsD os) (some ((p : Int) + 1)) none).length ≤ os.length := by rw [c3, nats_len, List.length_drop]; omega
        refine ⟨small _ (by omega), by rw [e]; exact nats_flat _, ?_⟩
        have := nx (os.take p ++ os.drop (p + 1)) (.v (nD 3)) (.v (nD p)) ((oct_take o1 p).app (oct_drop o1 (p + 1))) (by rw [List.length_append, List.length_take, List.length_drop]; omega)
        rw [← e] at this
        exact this
    · rintro e ⟨os, x3, x4, x5, rfl, o1, o2⟩
      rw [range_len] at o2
      obtain ⟨cs, z, hf⟩ := frs_ex os os.length 0 (by omega)
      have hs := frs_size hf
      have hl := frs_len hf
      exact ⟨rfl, read_s T o1 (by omega) hf ⟨rfl, rfl, frames_s T (by omega) o1.small hf ⟨rfl, is_told_s T (fun b hb => by have := hs b hb; omega) (by omega) rfl q⟩⟩⟩
  have e : Pd.cutD (natsD (flat bs)) none (some 300) = natsD ((flat bs).take 300) := by
    rw [show (300 : Int) = ((300 : Nat) : Int) from rfl, cutD_n0, take_D]
  have := go1 ((flat bs).take 300) (oct_take (flat_oct hg) _) (by rw [List.length_take]; omega)
  rw [← e] at this
  exact this
end
end K86
set_option maxRecDepth 100000
set_option maxHeartbeats 4000000
namespace K86
open PySem PySem.Spec PyProof.Rows L2 Pre Pd M85
theorem flat_rep' (b : List Nat) (n : Nat) : flat (List.replicate n b) = rep (frm b) n := by unfold flat rep; rw [List.map_replicate]
theorem frs_rep {b : List Nat} {n k : Nat} (hb : b.length ≤ 100000) (hk : k < (frm b).length) : Frs (rep (frm b) n ++ (frm b).take k) 0 (List.replicate n b) (n * (frm b).length) := by
  have := frs_ahead (bs := List.replicate n b) (rest := (frm b).take k) (fun x hx => by rw [(List.mem_replicate.mp hx).2]; exact hb) (fr_cut hb hk (by rw [List.drop_left]))
  rw [flat_rep', rep_len] at this
  exact this
theorem frs_one {b : List Nat} {k : Nat} (hb : b.length ≤ 100000) (hk : k < (frm b).length) : Frs (frm b ++ (frm b).take k) 0 [b] (frm b).length := by
  have := frs_rep (n := 1) hb hk
  have e : rep (frm b) 1 = frm b := by unfold rep; simp
  rw [e, Nat.one_mul] at this
  exact this
theorem frs_bad {s : List Nat} (h : Bad s) : Frs s 0 [] 0 := .stop (h.2.2 s 0 [] (by rw [List.append_nil]; rfl))
theorem set_rel {i : Nat} {fa : Fx D} {env : En} {P : Out → Prop} (Dk : D → Prop) (hf : ∀ (Q' : D → Prop) (R' : Err → Prop), (∀ d, Dk d → Q' d) → fa env Q' R') (k : ∀ d, Dk d → P (.nx (env.set i (.v d)))) : wSetS i (wSv fa) env P := hf _ _ k
theorem oct_rep {b : List Nat} {n : Nat} (h : Oct b) : Oct (rep b n) := fun x hx => h x (rep_mem hx)
section
variable {P : Program} {w : World} {K : PySem.W.Frag} {mg : Str → Option Value} {base : Heap} (T : Tx K mg) {Q : D → Prop} {R : Err → Prop}
theorem great4 {b : List Nat} (hb : Oct b) (b1 : 1 ≤ b.length) (b9 : b.length ≤ 9) {x2 : Sl} (q : Q (.bl true)) :
    (wSeq (wSetS 5 (wSv (wOp φFdv (wOp φAdd (wC (.int 16380)) (wCall 2 (F_law_take T) (wCons (wVar 0) (wCons (wC (.int 3000)) wNil)))) (wBt φLen (wCons (wVar 3) wNil)))))
      (wSeq (wSetS 4 (wSl_ (wCallN 2 (F_law_framed T) (wCons (wOp φMul (wVar 3) (wVar 5)) (wCons (wCall 2 (F_law_block_sum T) (wCons (wVar 3) (wCons (wVar 5) wNil))) wNil)))))
      (wSeq (wIfS (wLendQ 4 (wNot (wTru (wCall 3 (F_law_is_told T) (wCons (wCall 1 (F_frames T) (wCons (wBt φTuple (wCons (wOp φAdd (wVar 4) (wSl φSlU (wVar 4) wNoP (wPart (wC (.int 100))))) wNil)) wNil)) (wCons (wLV (wLst (wCons (wOp φMul (wVar 3) (wVar 5)) wNil))) (wCons (wBt φLen (wCons (wVar 4) wNil)) wNil))))))) (wRet (wC (.bl false))) wNext)
      (wSeq (wIfS (wNot (wTru (wCall 2 (F_law_is_row T) (wCons (wTup (wCons (wCall 1 (F_sum_of_octets T) (wCons (wBt φTuple (wCons (wOp φMul (wVar 3) (wVar 5)) wNil)) wNil)) wNil)) (wCons (wLV (wLst (wCons (wCall 2 (F_law_block_sum T) (wCons (wVar 3) (wCons (wVar 5) wNil))) wNil))) wNil))))) (wRet (wC (.bl false))) wNext)
      (wSeq (wSetS 7 (wSv (wOp φSub (wOp φSub (wLend 4 (wBt φLen (wCons (wVar 4) wNil))) (wC (.int 3))) (wCall 2 (F_law_take T) (wCons (wVar 0) (wCons (wC (.int 16000)) wNil))))))
      (wSeq (wPut 4 (wOp φMod (wBt φInt (wCons (wOp φAdd (wOp φAdd (wLend 4 (wOp φIxU (wVar 4) (wVar 7))) (wC (.int 1))) (wCall 2 (F_law_take T) (wCons (wVar 0) (wCons (wC (.int 255)) wNil)))) wNil)) (wC (.int 256))) (wVar 7))
      (wLet 4 (wRet (wCall 3 (F_law_is_told T) (wCons (wCall 1 (F_frames T) (wCons (wBt φTuple (wCons (wVar 4) wNil)) wNil)) (wCons (wLV (wLst wNil)) (wCons (wC (.int 0)) wNil)))))))))))) [.v dBox, .v (nD 1), x2, .v (lD b), .no, .no, .no, .no] (fin Q R) := by
  have lb := nats_len b
  refine ⟨rfl, take_s T (by decide) (by decide) fun r hr => ?_⟩
  have d1 : (16380 + r) / b.length * b.length ≤ 16380 + r := Nat.div_mul_le_self _ _
  have d2 : 16380 + r < ((16380 + r) / b.length + 1) * b.length := by rw [Nat.mul_comm]; exact Nat.lt_mul_div_succ _ b1
  have d3 : (16380 + r) / b.length ≤ 16380 + r := Nat.div_le_self _ _
  have ed : (16380 + ((r : Nat) : Int)).fdiv ((natsD b).length : Int) = (((16380 + r) / b.length : Nat) : Int) := by
    rw [lb, Int.fdiv_eq_ediv_of_nonneg _ (by omega)]
    exact (Int.natCast_ediv _ _).symm
  rw [Nat.succ_mul] at d2
  have go5 : ∀ z : Int, z = (((16380 + r) / b.length : Nat) : Int) → (wSeq (wSetS 4 (wSl_ (wCallN 2 (F_law_framed T) (wCons (wOp φMul (wVar 3) (wVar 5)) (wCons (wCall 2 (F_law_block_sum T) (wCons (wVar 3) (wCons (wVar 5) wNil))) wNil)))))
      (wSeq (wIfS (wLendQ 4 (wNot (wTru (wCall 3 (F_law_is_told T) (wCons (wCall 1 (F_frames T) (wCons (wBt φTuple (wCons (wOp φAdd (wVar 4) (wSl φSlU (wVar 4) wNoP (wPart (wC (.int 100))))) wNil)) wNil)) (wCons (wLV (wLst (wCons (wOp φMul (wVar 3) (wVar 5)) wNil))) (wCons (wBt φLen (wCons (wVar 4) wNil)) wNil))))))) (wRet (wC (.bl false))) wNext)
      (wSeq (wIfS (wNot (wTru (wCall 2 (F_law_is_row T) (wCons (wTup (wCons (wCall 1 (F_sum_of_octets T) (wCons (wBt φTuple (wCons (wOp φMul (wVar 3) (wVar 5)) wNil)) wNil)) wNil)) (wCons (wLV (wLst (wCons (wCall 2 (F_law_block_sum T) (wCons (wVar 3) (wCons (wVar 5) wNil))) wNil))) wNil))))) (wRet (wC (.bl false))) wNext)
      (wSeq (wSetS 7 (wSv (wOp φSub (wOp φSub (wLend 4 (wBt φLen (wCons (wVar 4) wNil))) (wC (.int 3))) (wCall 2 (F_law_take T) (wCons (wVar 0) (wCons (wC (.int 16000)) wNil))))))
      (wSeq (wPut 4 (wOp φMod (wBt φInt (wCons (wOp φAdd (wOp φAdd (wLend 4 (wOp φIxU (wVar 4) (wVar 7))) (wC (.int 1))) (wCall 2 (F_law_take T) (wCons (wVar 0) (wCons (wC (.int 255)) wNil)))) wNil)) (wC (.int 256))) (wVar 7))
      (wLet 4 (wRet (wCall 3 (F_law_is_told T) (wCons (wCall 1 (F_frames T) (wCons (wBt φTuple (wCons (wVar 4) wNil)) wNil)) (wCons (wLV (wLst wNil)) (wCons (wC (.int 0)) wNil))))))))))) [.v dBox, .v (nD 1), x2, .v (lD b), .no, .v (.int z), .no, .no] (fin Q R) := by
    rintro z rfl
    generalize (16380 + r) / b.length = n at *
    have rlen : (rep b n).length = n * b.length := rep_len b n
    have ro : Oct (rep b n) := oct_rep hb
    have lf := frm_len (rep b n)
    obtain ⟨c1, c2⟩ := cnt_len (rep b n).length
    have wm := wsum_mod (rep b n)
    have fo := oct_frm ro (by omega)
    have sz : b.length * ((n : Nat) : Int).toNat ≤ sizeLine := by rw [Int.toNat_natCast, Nat.mul_comm, sizeLine_eq]; omega
    have e1 : (List.replicate ((n : Nat) : Int).toNat (natsD b)).flatten = natsD (rep b n) := rep_D b n
    have mulL : ∀ P2 : D → Prop, P2 (lD (rep b n)) → φMul (lD b) (nD n) P2 := fun P2 h => ⟨⟨by omega, by omega, by rw [lb]; exact sz⟩, by rw [e1]; exact h⟩
    refine ⟨⟨by omega, by omega, by rw [lb]; exact sz⟩, ?_⟩
    rw [e1]
    refine ⟨rfl, block_sum_s T hb b1 (by omega) (by omega) ⟨rfl, framed_s T (by omega) (by omega) ?_⟩⟩
    generalize hB : rep b n = B at *
    have go6 : (wSeq (wIfS (wLendQ 4 (wNot (wTru (wCall 3 (F_law_is_told T) (wCons (wCall 1 (F_frames T) (wCons (wBt φTuple (wCons (wOp φAdd (wVar 4) (wSl φSlU (wVar 4) wNoP (wPart (wC (.int 100))))) wNil)) wNil)) (wCons (wLV (wLst (wCons (wOp φMul (wVar 3) (wVar 5)) wNil))) (wCons (wBt φLen (wCons (wVar 4) wNil)) wNil))))))) (wRet (wC (.bl false))) wNext)
      (wSeq (wIfS (wNot (wTru (wCall 2 (F_law_is_row T) (wCons (wTup (wCons (wCall 1 (F_sum_of_octets T) (wCons (wBt φTuple (wCons (wOp φMul (wVar 3) (wVar 5)) wNil)) wNil)) wNil)) (wCons (wLV (wLst (wCons (wCall 2 (F_law_block_sum T) (wCons (wVar 3) (wCons (wVar 5) wNil))) wNil))) wNil))))) (wRet (wC (.bl false))) wNext)
      (wSeq (wSetS 7 (wSv (wOp φSub (wOp φSub (wLend 4 (wBt φLen (wCons (wVar 4) wNil))) (wC (.int 3))) (wCall 2 (F_law_take T) (wCons (wVar 0) (wCons (wC (.int 16000)) wNil))))))
      (wSeq (wPut 4 (wOp φMod (wBt φInt (wCons (wOp φAdd (wOp φAdd (wLend 4 (wOp φIxU (wVar 4) (wVar 7))) (wC (.int 1))) (wCall 2 (F_law_take T) (wCons (wVar 0) (wCons (wC (.int 255)) wNil)))) wNil)) (wC (.int 256))) (wVar 7))
      (wLet 4 (wRet (wCall 3 (F_law_is_told T) (wCons (wCall 1 (F_frames T) (wCons (wBt φTuple (wCons (wVar 4) wNil)) wNil)) (wCons (wLV (wLst wNil)) (wCons (wC (.int 0)) wNil)))))))))) [.v dBox, .v (nD 1), x2, .v (lD b), .l (natsD (frm B)), .v (nD n), .no, .no] (fin Q R) := by
      have sumR : ∀ {Q' : D → Prop} {R' : Err → Prop}, Q' (.bl true) → F_law_is_row T [.tup (natsD [wsum B % 65521]), .lst (natsD [wsum B % 65521])] Q' R' := fun h => is_row_s T (by show 1 ≤ 100000; decide) h
      have e100 : Pd.cutD (natsD (frm B)) none (some 100) = natsD ((frm B).take 100) := by rw [show (100 : Int) = ((100 : Nat) : Int) from rfl, cutD_n0, take_D]
      have l100 : (Pd.cutD (natsD (frm B)) none (some 100)).length ≤ 100 := by rw [e100, nats_len, List.length_take]; omega
      have lF := nats_len (frm B)
      have e2 : natsD (frm B) ++ Pd.cutD (natsD (frm B)) none (some 100) = natsD (frm B ++ (frm B).take 100) := by rw [e100, natsD_app]
      have told : ∀ {Q2 : D → Prop} {R2 : Err → Prop}, Q2 (.bl true) → F_law_is_told T [.tup [.tup (manyD [B]), nD (frm B).length], .lst [lD B], .int ((natsD (frm B)).length : Int)] Q2 R2 := fun {Q2 R2} h => is_told_s T (bs := [B]) (fun b hb => by rw [List.mem_singleton.mp hb]; omega) (by show 1 ≤ 100000; decide) (by rw [lF]) h
      have frms : ∀ {Q' : D → Prop} {R' : Err → Prop}, Q' (.tup [.tup (manyD [B]), nD (frm B).length]) → F_frames T [.tup (natsD (frm B) ++ Pd.cutD (natsD (frm B)) none (some 100))] Q' R' := fun {Q' R'} h => by
        rw [e2]
        exact frames_s T (by rw [List.length_append, List.length_take]; omega) ((fo.app (oct_take fo 100)).small) (frs_one (by omega) (by omega)) h
      refine ⟨small _ (by rw [lF]; omega), rfl, frms ?_⟩
      refine ⟨⟨by omega, by omega, by rw [lb]; exact sz⟩, ?_⟩
      rw [e1]
      refine ⟨small 1, rfl, told (wF rfl (next_ok ?_))⟩
      refine ⟨⟨by omega, by omega, by rw [lb]; exact sz⟩, ?_⟩
      rw [e1]
      refine ⟨rfl, sum_of_octets_s T (by omega) ro.small ⟨small 1, rfl, block_sum_s T hb b1 (by omega) (by omega) ?_⟩⟩
      rw [hB]
      refine ⟨small 1, rfl, sumR (wF rfl (next_ok ?_))⟩
      refine ⟨rfl, rfl, take_s T (by decide) (by decide) fun r2 hr2 => ?_⟩
      have ep : ((natsD (frm B)).length : Int) - 3 - (r2 : Int) = (((cnt B.length).length + (B.length - 1 - r2) : Nat) : Int) := by rw [lF, lf]; omega
      have go9 : ∀ z : Int, z = (((cnt B.length).length + (B.length - 1 - r2) : Nat) : Int) → (wSeq (wPut 4 (wOp φMod (wBt φInt (wCons (wOp φAdd (wOp φAdd (wLend 4 (wOp φIxU (wVar 4) (wVar 7))) (wC (.int 1))) (wCall 2 (F_law_take T) (wCons (wVar 0) (wCons (wC (.int 255)) wNil)))) wNil)) (wC (.int 256))) (wVar 7))
      (wLet 4 (wRet (wCall 3 (F_law_is_told T) (wCons (wCall 1 (F_frames T) (wCons (wBt φTuple (wCons (wVar 4) wNil)) wNil)) (wCons (wLV (wLst wNil)) (wCons (wC (.int 0)) wNil))))))) [.v dBox, .v (nD 1), x2, .v (lD b), .l (natsD (frm B)), .v (nD n), .no, .v (.int z)] (fin Q R) := by
        rintro z rfl
        obtain ⟨x, hx⟩ := frm_some (b := B) (p := B.length - 1 - r2) (by omega)
        have x255 := fo x (List.mem_of_getElem? hx)
        unfold wSeq
        refine put_ok (Dk := fun d => ∃ y : Nat, y ≤ 255 ∧ y ≠ x ∧ d = nD y) (j := (cnt B.length).length + (B.length - 1 - r2)) (ds := natsD (frm B)) (fun Q' R' kk => ?_) rfl (by rw [lF]; omega) (fun Q' R' kk => kk) ?_
        · refine ixl ((cnt B.length).length + (B.length - 1 - r2)) (nats_get hx) ⟨rfl, rfl, take_s T (by decide) (by decide) fun r3 hr3 => ⟨by show (256 : Int) ≠ 0; decide, ?_⟩⟩
          have e : (((x : Int) + 1 + (r3 : Int))).fmod 256 = (((x + 1 + r3) % 256 : Nat) : Int) := by
            rw [Int.fmod_eq_emod_of_nonneg _ (by decide)]
            exact (Int.natCast_emod _ _).symm
          show Q' (.int (((x : Int) + 1 + (r3 : Int)).fmod 256))
          rw [e]
          exact kk _ ⟨_, by omega, by omega, rfl⟩
        · rintro d ⟨y, y1, y2, rfl⟩
          have h1 := bad_one (b := B) (by omega) ro (by omega) hx y1 y2
          have e1 := nats_set (frm B) ((cnt B.length).length + (B.length - 1 - r2)) y
          have frB : ∀ {Q' : D → Prop} {R' : Err → Prop}, Q' (.tup [.tup (manyD []), nD 0]) → F_frames T [.tup ((natsD (frm B)).set ((cnt B.length).length + (B.length - 1 - r2)) (nD y))] Q' R' := fun {Q' R'} h => by
            rw [e1]
            exact frames_s T (by rw [List.length_set]; omega) h1.1.small (frs_bad h1) h
          have tB : ∀ {Q' : D → Prop} {R' : Err → Prop}, Q' (.bl true) → F_law_is_told T [.tup [.tup (manyD []), nD 0], .lst [], .int 0] Q' R' := fun {Q' R'} h => is_told_s T (bs := []) (fun b hb => by cases hb) (by decide) rfl h
          exact ⟨rfl, frB ⟨small 0, rfl, tB q⟩⟩
      exact go9 _ ep
    exact go6
  exact ⟨div_ok (b := 20) (by rw [lb]; omega) (by rw [lb]; omega), go5 _ ed⟩
theorem great0 {b : List Nat} (hb : Oct b) (b1 : 1 ≤ b.length) (b9 : b.length ≤ 9) {x2 : Sl} (q : Q (.bl true)) :
    (wSeq (wIfS (wOpB (φEqU false) (wVar 1) (wC (.int 0))) (wSeq (wSetS 4 (wSl_ (wCallN 2 (F_law_framed T) (wCons (wVar 3) (wCons (wCall 1 (F_law_sum T) (wCons (wVar 3) wNil)) wNil)))))
      (wSeq (wSetS 5 (wSv (wOp φSub (wOp φSub (wOp φFdv (wC (.int 60000)) (wLend 4 (wBt φLen (wCons (wVar 4) wNil)))) (wC (.int 1))) (wCall 2 (F_law_take T) (wCons (wVar 0) (wCons (wC (.int 3)) wNil))))))
      (wLet 4 (wSeq (wSetS 6 (wSv (wCall 1 (F_frames T) (wCons (wBt φTuple (wCons (wOp φAdd (wOp φMul (wVar 4) (wVar 5)) (wSl φSlU (wVar 4) wNoP (wPart (wOp φSub (wBt φLen (wCons (wVar 4) wNil)) (wC (.int 1)))))) wNil)) wNil))))
      (wSeq (wIfS (wOr (wNot (wTru (wIsi .tuple T.objs (wVar 6)))) (wOr (wOpB (φEqU true) (wBt φLen (wCons (wVar 6) wNil)) (wC (.int 2))) (wOr (wNot (wTru (wIsi .tuple T.objs (wOp φIxU (wVar 6) (wC (.int 0)))))) (wOpB (φEqU true) (wBt φLen (wCons (wOp φIxU (wVar 6) (wC (.int 0))) wNil)) (wVar 5))))) (wRet (wC (.bl false))) wNext)
      (wSeq (wFor (wWalk (wLV (wLst (wCons (wC (.int 0)) (wCons (wC (.int 1)) (wCons (wOp φSub (wVar 5) (wC (.int 1))) (wCons (wOp φFdv (wVar 5) (wC (.int 2))) (wCons (wCall 2 (F_law_take T) (wCons (wVar 0) (wCons (wVar 5) wNil))) wNil)))))))) (sName 2) (wIfS (wNot (wTru (wCall 2 (F_law_is_row T) (wCons (wOp φIxU (wOp φIxU (wVar 6) (wC (.int 0))) (wVar 2)) (wCons (wVar 3) wNil))))) (wRet (wC (.bl false))) wNext))
      (wRet (wCall 2 (F_law_is_row T) (wCons (wTup (wCons (wOp φIxU (wVar 6) (wC (.int 1))) wNil)) (wCons (wLV (wLst (wCons (wOp φMul (wVar 5) (wBt φLen (wCons (wVar 4) wNil))) wNil))) wNil)))))))))) wNext)
      (wSeq (wSetS 5 (wSv (wOp φFdv (wOp φAdd (wC (.int 16380)) (wCall 2 (F_law_take T) (wCons (wVar 0) (wCons (wC (.int 3000)) wNil)))) (wBt φLen (wCons (wVar 3) wNil)))))
      (wSeq (wSetS 4 (wSl_ (wCallN 2 (F_law_framed T) (wCons (wOp φMul (wVar 3) (wVar 5)) (wCons (wCall 2 (F_law_block_sum T) (wCons (wVar 3) (wCons (wVar 5) wNil))) wNil)))))
      (wSeq (wIfS (wLendQ 4 (wNot (wTru (wCall 3 (F_law_is_told T) (wCons (wCall 1 (F_frames T) (wCons (wBt φTuple (wCons (wOp φAdd (wVar 4) (wSl φSlU (wVar 4) wNoP (wPart (wC (.int 100))))) wNil)) wNil)) (wCons (wLV (wLst (wCons (wOp φMul (wVar 3) (wVar 5)) wNil))) (wCons (wBt φLen (wCons (wVar 4) wNil)) wNil))))))) (wRet (wC (.bl false))) wNext)
      (wSeq (wIfS (wNot (wTru (wCall 2 (F_law_is_row T) (wCons (wTup (wCons (wCall 1 (F_sum_of_octets T) (wCons (wBt φTuple (wCons (wOp φMul (wVar 3) (wVar 5)) wNil)) wNil)) wNil)) (wCons (wLV (wLst (wCons (wCall 2 (F_law_block_sum T) (wCons (wVar 3) (wCons (wVar 5) wNil))) wNil))) wNil))))) (wRet (wC (.bl false))) wNext)
      (wSeq (wSetS 7 (wSv (wOp φSub (wOp φSub (wLend 4 (wBt φLen (wCons (wVar 4) wNil))) (wC (.int 3))) (wCall 2 (F_law_take T) (wCons (wVar 0) (wCons (wC (.int 16000)) wNil))))))
      (wSeq (wPut 4 (wOp φMod (wBt φInt (wCons (wOp φAdd (wOp φAdd (wLend 4 (wOp φIxU (wVar 4) (wVar 7))) (wC (.int 1))) (wCall 2 (F_law_take T) (wCons (wVar 0) (wCons (wC (.int 255)) wNil)))) wNil)) (wC (.int 256))) (wVar 7))
      (wLet 4 (wRet (wCall 3 (F_law_is_told T) (wCons (wCall 1 (F_frames T) (wCons (wBt φTuple (wCons (wVar 4) wNil)) wNil)) (wCons (wLV (wLst wNil)) (wCons (wC (.int 0)) wNil))))))))))))) [.v dBox, .v (nD 0), x2, .v (lD b), .no, .no, .no, .no] (fin Q R) := by
  have lb := nats_len b
  have lf := frm_len b
  obtain ⟨c1, c2⟩ := cnt_len b.length
  have c3 : (cnt b.length).length = 1 := by unfold cnt; rw [if_pos (by omega)]; rfl
  have wm := wsum_mod b
  have fo := oct_frm hb (by omega)
  have lF := nats_len (frm b)
  refine eqi (wT rfl ⟨rfl, law_sum_s T hb (by omega) ⟨rfl, framed_s T (by omega) (by omega) ?_⟩⟩)
  have hF : mark (cnt b.length) ++ (b ++ tail2 (wsum b % 65521)) = frm b := rfl
  rw [hF]
  generalize hG : frm b = G at *
  refine (show wSeq (wSetS 5 (wSv _)) _ [.v dBox, .v (nD 0), x2, .v (lD b), .l (natsD G), .no, .no, .no] _ from ?_)
  unfold wSeq
  have ed : ((60000 : Int)).fdiv ((natsD G).length : Int) = ((60000 / G.length : Nat) : Int) := by
    rw [lF, Int.fdiv_eq_ediv_of_nonneg _ (by omega)]
    exact (Int.natCast_ediv _ _).symm
  have d1 : 60000 / G.length * G.length ≤ 60000 := Nat.div_mul_le_self _ _
  have d2 : 60000 < (60000 / G.length + 1) * G.length := by rw [Nat.mul_comm]; exact Nat.lt_mul_div_succ _ (by omega)
  have d3 : 4000 ≤ 60000 / G.length := (Nat.le_div_iff_mul_le (by omega)).mpr (by omega)
  have d4 : 60000 / G.length ≤ 60000 := Nat.div_le_self _ _
  generalize 60000 / G.length = n at *
  refine set_rel (fun d => ∃ m : Nat, m ≤ n ∧ n ≤ m + 3 ∧ d = nD m) (fun Q' R' kk => ?_) ?_
  · refine ⟨rfl, div_ok (b := 20) (by rw [lF]; omega) (by rw [lF]; omega), rfl, take_s T (by decide) (by decide) fun r hr => ?_⟩
    have e : (60000 : Int).fdiv ((natsD G).length : Int) - 1 - (r : Int) = ((n - 1 - r : Nat) : Int) := by rw [ed]; omega
    show Q' (.int ((60000 : Int).fdiv ((natsD G).length : Int) - 1 - (r : Int)))
    rw [e]
    exact kk _ ⟨n - 1 - r, by omega, by omega, rfl⟩
  rintro d ⟨m, m1, m2, rfl⟩
  have m3 := Nat.mul_le_mul_right G.length m1
  have sz : (natsD G).length * ((m : Nat) : Int).toNat ≤ sizeLine := by rw [lF, Int.toNat_natCast, Nat.mul_comm, sizeLine_eq]; omega
  have e1 : (List.replicate ((m : Nat) : Int).toNat (natsD G)).flatten = natsD (rep G m) := rep_D G m
  have rl := rep_len G m
  have ec : Pd.cutD (natsD G) none (some (((natsD G).length : Int) - 1)) = natsD (G.take (G.length - 1)) := by
    rw [lF, show ((G.length : Nat) : Int) - 1 = ((G.length - 1 : Nat) : Int) from by omega, cutD_n0, take_D]
  have lc : (Pd.cutD (natsD G) none (some (((natsD G).length : Int) - 1))).length ≤ G.length := by rw [ec, nats_len, List.length_take]; omega
  have e2 : natsD (rep G m) ++ Pd.cutD (natsD G) none (some (((natsD G).length : Int) - 1)) = natsD (rep G m ++ G.take (G.length - 1)) := by rw [ec, natsD_app]
  have fk := frs_rep (b := b) (n := m) (k := G.length - 1) (by omega) (by rw [hG]; omega)
  rw [hG] at fk
  have frms : ∀ {Q' : D → Prop} {R' : Err → Prop}, Q' (.tup [.tup (manyD (List.replicate m b)), nD (m * G.length)]) → F_frames T [.tup (natsD (rep G m) ++ Pd.cutD (natsD G) none (some (((natsD G).length : Int) - 1)))] Q' R' := fun {Q' R'} h => by
    rw [e2]
    exact frames_s T (by rw [List.length_append, rl, List.length_take]; omega) (((oct_rep fo).app (oct_take fo _)).small) fk h
  refine ⟨⟨by omega, by omega, sz⟩, ?_⟩
  rw [e1]
  have lMB : (manyD (List.replicate m b)).length = m := by unfold manyD; rw [List.length_map, List.length_replicate]
  have aMB : ∀ j, j < m → (manyD (List.replicate m b))[j]? = some (bD b) := fun j hj => by
    unfold manyD
    rw [List.getElem?_map, List.getElem?_replicate, if_pos hj]
    rfl
  refine ⟨small _ (by rw [nats_len, rl]; omega), rfl, frms ?_⟩
  generalize manyD (List.replicate m b) = MB at *
  refine isi_plain rfl (wF rfl (eqi (wF rfl (ixt 0 rfl (isi_plain rfl (wF rfl (ixt 0 rfl (eqi (wF ?_ (next_ok ?_)))))))))) 
  · show (!decide ((MB.length : Int) = (m : Int))) = false
    rw [lMB]
    exact nT rfl
  refine for_go (Dk := fun ds => ∀ d ∈ ds, ∃ j : Nat, j < m ∧ d = nD j) (fun Q' R' kk => ?_) fun ds hds => ?_
  · have ed2 : ((m : Nat) : Int).fdiv 2 = ((m / 2 : Nat) : Int) := by rw [Int.fdiv_eq_ediv_of_nonneg _ (by decide)]; exact (Int.natCast_ediv _ _).symm
    refine ⟨div_ok (b := 20) (by decide) (by decide), rfl, take_s T (by omega) (by omega) fun r hr => ⟨small 5, ?_⟩⟩
    have em : ((m : Nat) : Int) - 1 = ((m - 1 : Nat) : Int) := by omega
    have := kk (natsD [0, 1, m - 1, m / 2, r]) (fun d hd => by
      obtain ⟨j, hj, rfl⟩ := List.mem_map.mp hd
      simp only [List.mem_cons, List.not_mem_nil, or_false] at hj
      exact ⟨j, by omega, rfl⟩)
    have el : natsD [0, 1, m - 1, m / 2, r] = [D.int 0, .int 1, .int (((m : Nat) : Int) - 1), .int (((m : Nat) : Int).fdiv 2), .int (r : Int)] := by rw [em, ed2]; rfl
    rw [el] at this
    exact this
  refine loop0 (fun i e => ∃ x : Sl, e = [.v dBox, .v (nD 0), x, .v (lD b), .v (lD G), .v (nD m), .v (.tup [.tup MB, nD (m * G.length)]), .no]) ⟨x2, rfl⟩ ?_ ?_
  · rintro i d e0 Q' hd ⟨x, rfl⟩ hq
    obtain ⟨j, hj, rfl⟩ := hds d (List.mem_of_getElem? hd)
    exact ⟨_, rfl, ixt 0 rfl (ixt j (aMB j hj) ⟨rfl, is_row_s T (by omega) (wF rfl (next_ok (hq.nx _ ⟨_, rfl⟩)))⟩)⟩
  · rintro e ⟨x, rfl⟩
    have ew : ((m : Nat) : Int) * ((natsD G).length : Int) = ((m * G.length : Nat) : Int) := by rw [lF]; push_cast; rfl
    have rowR : ∀ {Q' : D → Prop} {R' : Err → Prop}, Q' (.bl true) → F_law_is_row T [.tup [nD (m * G.length)], .lst [.int (((m : Nat) : Int) * ((natsD G).length : Int))]] Q' R' := fun {Q' R'} h => by
      rw [ew]
      exact is_row_s T (xs := [m * G.length]) (by show 1 ≤ 100000; decide) h
    exact ixt 1 rfl ⟨small 1, mulOk 20 20 (by show m < 2 ^ 20; omega) (by show (natsD G).length < 2 ^ 20; rw [lF]; omega), small 1, rfl, rowR q⟩
theorem great_holds_s (q : Q (.bl true)) : F_law_great_holds T [dBox] Q R := by
  unfold F_law_great_holds Fr_law_great_holds
  refine ⟨rfl, take_s T (by decide) (by decide) fun k hk => wTF (fun h => q) (fun h => next_ok ?_)⟩
  have h : ¬ (1 : Int) < (k : Int) := of_decide_eq_false h
  refine ⟨rfl, take_s T (by decide) (by decide) fun r hr => ⟨⟨by omega, by omega⟩, ?_⟩⟩
  refine lc_rel (fun i y => ∃ n : Nat, n ≤ 255 ∧ y = nD n) (small _ (by rw [range_len]; omega)) (fun i d Q' hd hq => ⟨_, rfl, rfl, take_s T (by decide) (by decide) fun r2 hr2 => hq _ ⟨r2, by omega, rfl⟩⟩) fun ys hy1 hy2 => ?_
  rw [range_len] at hy1
  obtain ⟨b, rfl, _, h255⟩ := choose_list nD (fun _ => ()) (fun n => n ≤ 255) (ys := ys) (ns := List.replicate ys.length ()) (by simp) fun i y hy => by
    obtain ⟨n, h1, rfl⟩ := hy2 i y hy
    exact ⟨n, by rw [List.getElem?_replicate, if_pos (List.getElem?_eq_some_iff.mp hy).1], h1, rfl⟩
  rw [List.length_map] at hy1
  have b1 : 1 ≤ b.length := by omega
  have b9 : b.length ≤ 9 := by omega
  have hk2 : k = 0 ∨ k = 1 := by omega
  rcases hk2 with rfl | rfl
  · exact great0 T h255 b1 b9 q
  · exact eqi (wF rfl (next_ok (great4 T h255 b1 b9 q)))
end
end K86
set_option maxRecDepth 100000
set_option maxHeartbeats 4000000
namespace K86
open PySem PySem.Spec PyProof.Rows L2 Pre Pd M85
section
variable {P : Program} {w : World} {K : PySem.W.Frag} {mg : Str → Option Value} {base : Heap} (T : Tx K mg) {Q : D → Prop} {R : Err → Prop}
theorem law_s {ns : List Int} (hl : ns.length ≤ 63) : F_law T [.frz (ns.map D.int)] (fun d => d = .bl true) (fun _ => False) := by
  unfold F_law Fr_law
  refine for_inv (rangeD 0 3) (fun Q' R' k => ⟨⟨by decide, by decide⟩, k⟩) (fun i e => ∃ (a b c : Sl), e = [.v (.frz (ns.map D.int)), a, b, c]) ⟨.no, .no, .no, rfl⟩ ?_ ?_
  · rintro i d e0 Q' hd ⟨a, b, c, rfl⟩ hq
    obtain ⟨hi, rfl⟩ := range_at hd
    refine ⟨_, rfl, rfl, box_s T hl (by omega) (eqi ⟨rfl, row_s T fun bs h1 h6 hg => ?_⟩)⟩
    refine ⟨rfl, frames_hold_s T h1 h6 hg (wF rfl ⟨rfl, cuts_hold_s T h1 h6 hg (wF rfl ⟨rfl, spoils_hold_s T h1 h6 hg (wF rfl (next_ok ?_))⟩)⟩)⟩
    refine ⟨rfl, any_hold_s T h1 h6 hg (wF rfl (eqi (wTF (fun h => ⟨rfl, great_holds_s T (wF rfl (next_ok ?_))⟩) (fun h => wF rfl (next_ok ?_)))))⟩
    · exact hq.nx _ ⟨_, _, _, rfl⟩
    · exact hq.nx _ ⟨_, _, _, rfl⟩
  · rintro e ⟨a, b, c, rfl⟩
    exact rfl
end
end K86
set_option maxRecDepth 100000
set_option maxHeartbeats 4000000
namespace K86
open PySem PySem.Spec PyProof.Rows L2 Pre Pd
section
variable {P : Program} {w : World} {K : PySem.W.Frag} {mg : Str → Option Value} {base : Heap}
theorem law_ok (T : Tx K mg) : FnOk P w K mg base (L2.CX P w) 6 T.law T.law_fd ["script"] (spLaw K) := law_of (ok_law T) (fun ns hl => law_s T hl)
end
theorem all_mk {l : PySem.W.OpenLaw} {w : World} {K : PySem.W.Frag} {h : Heap} {mg : Str → Option Value} {fa : Addr} {f0 f1 f2 f3 f4 f5 f6 f7 f8 f9 f10 f11 f12 f13 f14 f15 f16 f17 f18 f19 f20 f21 f22 f23 f24 f25 f26 f27 : Addr} (X : K.In h) (G : h.Ns mainGlobals mg) (hfa : mg "law" = some (.ref fa))
    {od0 od1 od2 od3 od4 od5 od6 od7 od8 od9 od10 od11 od12 od13 od14 od15 od16 od17 od18 od19 od20 od21 od22 od23 od24 od25 od26 od27 an0 an1 an2 an3 an4 an5 an6 an7 an8 an9 an10 an11 an12 an13 an14 an15 an16 an17 an18 an19 an20 an21 an22 an23 an24 an25 an26 an27 : Option Addr} {sl0 sl1 sl2 sl3 sl4 sl5 sl6 sl7 sl8 sl9 sl10 sl11 sl12 sl13 sl14 sl15 sl16 sl17 sl18 sl19 sl20 sl21 sl22 sl23 sl24 sl25 sl26 sl27 : Array (Option Value)} {oc0 oc1 oc2 oc3 oc4 oc5 oc6 oc7 oc8 oc9 oc10 oc11 oc12 oc13 oc14 oc15 oc16 oc17 oc18 oc19 oc20 oc21 oc22 oc23 oc24 oc25 oc26 oc27 kV0 kV1 kV2 kV3 kV4 kV5 kV6 kV7 kV8 kV9 kV10 kV11 kV12 kV13 kV14 kV15 kV16 kV17 kV18 kV19 kV20 kV21 kV22 kV23 kV24 kV25 kV26 kV27 dc0 dc1 dc2 dc3 dc4 dc5 dc6 dc7 dc8 dc9 dc10 dc11 dc12 dc13 dc14 dc15 dc16 dc17 dc18 dc19 dc20 dc21 dc22 dc23 dc24 dc25 dc26 dc27 pm0 pm1 pm2 pm3 pm4 pm5 pm6 pm7 pm8 pm9 pm10 pm11 pm12 pm13 pm14 pm15 pm16 pm17 pm18 pm19 pm20 pm21 pm22 pm23 pm24 pm25 pm26 pm27 cd0 cd1 cd2 cd3 cd4 cd5 cd6 cd7 cd8 cd9 cd10 cd11 cd12 cd13 cd14 cd15 cd16 cd17 cd18 cd19 cd20 cd21 cd22 cd23 cd24 cd25 cd26 cd27 ct0 ct1 ct2 ct3 ct4 ct5 ct6 ct7 ct8 ct9 ct10 ct11 ct12 ct13 ct14 ct15 ct16 ct17 ct18 ct19 ct20 ct21 ct22 ct23 ct24 ct25 ct26 ct27 : Value}
    (a0 : PySem.W.nsIn K mainGlobals "number_octets" = some (some (.ref f0))) (l0 : K.lookup f0 = some ⟨oc0, od0, .func (PySem.W.fnOf "number_octets" "number_octets" (defArgs s_number_octets) (defBody s_number_octets) (defScope s_number_octets) .none kV0 dc0 pm0 an0 cd0 ct0), sl0⟩) (c0 : PySem.W.codeIn K cd0 "number_octets" = true) (k0 : PySem.W.keepIn K (.ref f0) = true)
    (a1 : PySem.W.nsIn K mainGlobals "number_of_figures" = some (some (.ref f1))) (l1 : K.lookup f1 = some ⟨oc1, od1, .func (PySem.W.fnOf "number_of_figures" "number_of_figures" (defArgs s_number_of_figures) (defBody s_number_of_figures) (defScope s_number_of_figures) .none kV1 dc1 pm1 an1 cd1 ct1), sl1⟩) (c1 : PySem.W.codeIn K cd1 "number_of_figures" = true) (k1 : PySem.W.keepIn K (.ref f1) = true)
    (a2 : PySem.W.nsIn K mainGlobals "read_number" = some (some (.ref f2))) (l2 : K.lookup f2 = some ⟨oc2, od2, .func (PySem.W.fnOf "read_number" "read_number" (defArgs s_read_number) (defBody s_read_number) (defScope s_read_number) .none kV2 dc2 pm2 an2 cd2 ct2), sl2⟩) (c2 : PySem.W.codeIn K cd2 "read_number" = true) (k2 : PySem.W.keepIn K (.ref f2) = true)
    (a3 : PySem.W.nsIn K mainGlobals "sum_of_octets" = some (some (.ref f3))) (l3 : K.lookup f3 = some ⟨oc3, od3, .func (PySem.W.fnOf "sum_of_octets" "sum_of_octets" (defArgs s_sum_of_octets) (defBody s_sum_of_octets) (defScope s_sum_of_octets) .none kV3 dc3 pm3 an3 cd3 ct3), sl3⟩) (c3 : PySem.W.codeIn K cd3 "sum_of_octets" = true) (k3 : PySem.W.keepIn K (.ref f3) = true)
    (a4 : PySem.W.nsIn K mainGlobals "frame" = some (some (.ref f4))) (l4 : K.lookup f4 = some ⟨oc4, od4, .func (PySem.W.fnOf "frame" "frame" (defArgs s_frame) (defBody s_frame) (defScope s_frame) .none kV4 dc4 pm4 an4 cd4 ct4), sl4⟩) (c4 : PySem.W.codeIn K cd4 "frame" = true) (k4 : PySem.W.keepIn K (.ref f4) = true)
    (a5 : PySem.W.nsIn K mainGlobals "frame_at" = some (some (.ref f5))) (l5 : K.lookup f5 = some ⟨oc5, od5, .func (PySem.W.fnOf "frame_at" "frame_at" (defArgs s_frame_at) (defBody s_frame_at) (defScope s_frame_at) .none kV5 dc5 pm5 an5 cd5 ct5), sl5⟩) (c5 : PySem.W.codeIn K cd5 "frame_at" = true) (k5 : PySem.W.keepIn K (.ref f5) = true)
    (a6 : PySem.W.nsIn K mainGlobals "frames" = some (some (.ref f6))) (l6 : K.lookup f6 = some ⟨oc6, od6, .func (PySem.W.fnOf "frames" "frames" (defArgs s_frames) (defBody s_frames) (defScope s_frames) .none kV6 dc6 pm6 an6 cd6 ct6), sl6⟩) (c6 : PySem.W.codeIn K cd6 "frames" = true) (k6 : PySem.W.keepIn K (.ref f6) = true)
    (a7 : PySem.W.nsIn K mainGlobals "_law_box" = some (some (.ref f7))) (l7 : K.lookup f7 = some ⟨oc7, od7, .func (PySem.W.fnOf "_law_box" "_law_box" (defArgs s_law_box) (defBody s_law_box) (defScope s_law_box) .none kV7 dc7 pm7 an7 cd7 ct7), sl7⟩) (c7 : PySem.W.codeIn K cd7 "_law_box" = true) (k7 : PySem.W.keepIn K (.ref f7) = true)
    (a8 : PySem.W.nsIn K mainGlobals "_law_take" = some (some (.ref f8))) (l8 : K.lookup f8 = some ⟨oc8, od8, .func (PySem.W.fnOf "_law_take" "_law_take" (defArgs s_law_take) (defBody s_law_take) (defScope s_law_take) .none kV8 dc8 pm8 an8 cd8 ct8), sl8⟩) (c8 : PySem.W.codeIn K cd8 "_law_take" = true) (k8 : PySem.W.keepIn K (.ref f8) = true)
    (a9 : PySem.W.nsIn K mainGlobals "_law_pick" = some (some (.ref f9))) (l9 : K.lookup f9 = some ⟨oc9, od9, .func (PySem.W.fnOf "_law_pick" "_law_pick" (defArgs s_law_pick) (defBody s_law_pick) (defScope s_law_pick) .none kV9 dc9 pm9 an9 cd9 ct9), sl9⟩) (c9 : PySem.W.codeIn K cd9 "_law_pick" = true) (k9 : PySem.W.keepIn K (.ref f9) = true)
    (a10 : PySem.W.nsIn K mainGlobals "_law_is_row" = some (some (.ref f10))) (l10 : K.lookup f10 = some ⟨oc10, od10, .func (PySem.W.fnOf "_law_is_row" "_law_is_row" (defArgs s_law_is_row) (defBody s_law_is_row) (defScope s_law_is_row) .none kV10 dc10 pm10 an10 cd10 ct10), sl10⟩) (c10 : PySem.W.codeIn K cd10 "_law_is_row" = true) (k10 : PySem.W.keepIn K (.ref f10) = true)
    (a11 : PySem.W.nsIn K mainGlobals "_law_is_told" = some (some (.ref f11))) (l11 : K.lookup f11 = some ⟨oc11, od11, .func (PySem.W.fnOf "_law_is_told" "_law_is_told" (defArgs s_law_is_told) (defBody s_law_is_told) (defScope s_law_is_told) .none kV11 dc11 pm11 an11 cd11 ct11), sl11⟩) (c11 : PySem.W.codeIn K cd11 "_law_is_told" = true) (k11 : PySem.W.keepIn K (.ref f11) = true)
    (a12 : PySem.W.nsIn K mainGlobals "_law_counted" = some (some (.ref f12))) (l12 : K.lookup f12 = some ⟨oc12, od12, .func (PySem.W.fnOf "_law_counted" "_law_counted" (defArgs s_law_counted) (defBody s_law_counted) (defScope s_law_counted) .none kV12 dc12 pm12 an12 cd12 ct12), sl12⟩) (c12 : PySem.W.codeIn K cd12 "_law_counted" = true) (k12 : PySem.W.keepIn K (.ref f12) = true)
    (a13 : PySem.W.nsIn K mainGlobals "_law_sum" = some (some (.ref f13))) (l13 : K.lookup f13 = some ⟨oc13, od13, .func (PySem.W.fnOf "_law_sum" "_law_sum" (defArgs s_law_sum) (defBody s_law_sum) (defScope s_law_sum) .none kV13 dc13 pm13 an13 cd13 ct13), sl13⟩) (c13 : PySem.W.codeIn K cd13 "_law_sum" = true) (k13 : PySem.W.keepIn K (.ref f13) = true)
    (a14 : PySem.W.nsIn K mainGlobals "_law_block_sum" = some (some (.ref f14))) (l14 : K.lookup f14 = some ⟨oc14, od14, .func (PySem.W.fnOf "_law_block_sum" "_law_block_sum" (defArgs s_law_block_sum) (defBody s_law_block_sum) (defScope s_law_block_sum) .none kV14 dc14 pm14 an14 cd14 ct14), sl14⟩) (c14 : PySem.W.codeIn K cd14 "_law_block_sum" = true) (k14 : PySem.W.keepIn K (.ref f14) = true)
    (a15 : PySem.W.nsIn K mainGlobals "_law_framed" = some (some (.ref f15))) (l15 : K.lookup f15 = some ⟨oc15, od15, .func (PySem.W.fnOf "_law_framed" "_law_framed" (defArgs s_law_framed) (defBody s_law_framed) (defScope s_law_framed) .none kV15 dc15 pm15 an15 cd15 ct15), sl15⟩) (c15 : PySem.W.codeIn K cd15 "_law_framed" = true) (k15 : PySem.W.keepIn K (.ref f15) = true)
    (a16 : PySem.W.nsIn K mainGlobals "_law_body" = some (some (.ref f16))) (l16 : K.lookup f16 = some ⟨oc16, od16, .func (PySem.W.fnOf "_law_body" "_law_body" (defArgs s_law_body) (defBody s_law_body) (defScope s_law_body) .none kV16 dc16 pm16 an16 cd16 ct16), sl16⟩) (c16 : PySem.W.codeIn K cd16 "_law_body" = true) (k16 : PySem.W.keepIn K (.ref f16) = true)
    (a17 : PySem.W.nsIn K mainGlobals "_law_row" = some (some (.ref f17))) (l17 : K.lookup f17 = some ⟨oc17, od17, .func (PySem.W.fnOf "_law_row" "_law_row" (defArgs s_law_row) (defBody s_law_row) (defScope s_law_row) .none kV17 dc17 pm17 an17 cd17 ct17), sl17⟩) (c17 : PySem.W.codeIn K cd17 "_law_row" = true) (k17 : PySem.W.keepIn K (.ref f17) = true)
    (a18 : PySem.W.nsIn K mainGlobals "_law_flat" = some (some (.ref f18))) (l18 : K.lookup f18 = some ⟨oc18, od18, .func (PySem.W.fnOf "_law_flat" "_law_flat" (defArgs s_law_flat) (defBody s_law_flat) (defScope s_law_flat) .none kV18 dc18 pm18 an18 cd18 ct18), sl18⟩) (c18 : PySem.W.codeIn K cd18 "_law_flat" = true) (k18 : PySem.W.keepIn K (.ref f18) = true)
    (a19 : PySem.W.nsIn K mainGlobals "_law_ahead" = some (some (.ref f19))) (l19 : K.lookup f19 = some ⟨oc19, od19, .func (PySem.W.fnOf "_law_ahead" "_law_ahead" (defArgs s_law_ahead) (defBody s_law_ahead) (defScope s_law_ahead) .none kV19 dc19 pm19 an19 cd19 ct19), sl19⟩) (c19 : PySem.W.codeIn K cd19 "_law_ahead" = true) (k19 : PySem.W.keepIn K (.ref f19) = true)
    (a20 : PySem.W.nsIn K mainGlobals "_law_read" = some (some (.ref f20))) (l20 : K.lookup f20 = some ⟨oc20, od20, .func (PySem.W.fnOf "_law_read" "_law_read" (defArgs s_law_read) (defBody s_law_read) (defScope s_law_read) .none kV20 dc20 pm20 an20 cd20 ct20), sl20⟩) (c20 : PySem.W.codeIn K cd20 "_law_read" = true) (k20 : PySem.W.keepIn K (.ref f20) = true)
    (a21 : PySem.W.nsIn K mainGlobals "_law_frames_hold" = some (some (.ref f21))) (l21 : K.lookup f21 = some ⟨oc21, od21, .func (PySem.W.fnOf "_law_frames_hold" "_law_frames_hold" (defArgs s_law_frames_hold) (defBody s_law_frames_hold) (defScope s_law_frames_hold) .none kV21 dc21 pm21 an21 cd21 ct21), sl21⟩) (c21 : PySem.W.codeIn K cd21 "_law_frames_hold" = true) (k21 : PySem.W.keepIn K (.ref f21) = true)
    (a22 : PySem.W.nsIn K mainGlobals "_law_cuts_hold" = some (some (.ref f22))) (l22 : K.lookup f22 = some ⟨oc22, od22, .func (PySem.W.fnOf "_law_cuts_hold" "_law_cuts_hold" (defArgs s_law_cuts_hold) (defBody s_law_cuts_hold) (defScope s_law_cuts_hold) .none kV22 dc22 pm22 an22 cd22 ct22), sl22⟩) (c22 : PySem.W.codeIn K cd22 "_law_cuts_hold" = true) (k22 : PySem.W.keepIn K (.ref f22) = true)
    (a23 : PySem.W.nsIn K mainGlobals "_law_spoilt" = some (some (.ref f23))) (l23 : K.lookup f23 = some ⟨oc23, od23, .func (PySem.W.fnOf "_law_spoilt" "_law_spoilt" (defArgs s_law_spoilt) (defBody s_law_spoilt) (defScope s_law_spoilt) .none kV23 dc23 pm23 an23 cd23 ct23), sl23⟩) (c23 : PySem.W.codeIn K cd23 "_law_spoilt" = true) (k23 : PySem.W.keepIn K (.ref f23) = true)
    (a24 : PySem.W.nsIn K mainGlobals "_law_spoils_hold" = some (some (.ref f24))) (l24 : K.lookup f24 = some ⟨oc24, od24, .func (PySem.W.fnOf "_law_spoils_hold" "_law_spoils_hold" (defArgs s_law_spoils_hold) (defBody s_law_spoils_hold) (defScope s_law_spoils_hold) .none kV24 dc24 pm24 an24 cd24 ct24), sl24⟩) (c24 : PySem.W.codeIn K cd24 "_law_spoils_hold" = true) (k24 : PySem.W.keepIn K (.ref f24) = true)
    (a25 : PySem.W.nsIn K mainGlobals "_law_any_hold" = some (some (.ref f25))) (l25 : K.lookup f25 = some ⟨oc25, od25, .func (PySem.W.fnOf "_law_any_hold" "_law_any_hold" (defArgs s_law_any_hold) (defBody s_law_any_hold) (defScope s_law_any_hold) .none kV25 dc25 pm25 an25 cd25 ct25), sl25⟩) (c25 : PySem.W.codeIn K cd25 "_law_any_hold" = true) (k25 : PySem.W.keepIn K (.ref f25) = true)
    (a26 : PySem.W.nsIn K mainGlobals "_law_great_holds" = some (some (.ref f26))) (l26 : K.lookup f26 = some ⟨oc26, od26, .func (PySem.W.fnOf "_law_great_holds" "_law_great_holds" (defArgs s_law_great_holds) (defBody s_law_great_holds) (defScope s_law_great_holds) .none kV26 dc26 pm26 an26 cd26 ct26), sl26⟩) (c26 : PySem.W.codeIn K cd26 "_law_great_holds" = true) (k26 : PySem.W.keepIn K (.ref f26) = true)
    (a27 : PySem.W.nsIn K mainGlobals "law" = some (some (.ref f27))) (l27 : K.lookup f27 = some ⟨oc27, od27, .func (PySem.W.fnOf "law" "law" (defArgs s_law) (defBody s_law) (defScope s_law) .none kV27 dc27 pm27 an27 cd27 ct27), sl27⟩) (c27 : PySem.W.codeIn K cd27 "law" = true) (k27 : PySem.W.keepIn K (.ref f27) = true)
    (z_abs : PySem.W.nsIn K mainGlobals "abs" = some none)
    (z_bool : PySem.W.nsIn K mainGlobals "bool" = some none)
    (z_enumerate : PySem.W.nsIn K mainGlobals "enumerate" = some none)
    (z_int : PySem.W.nsIn K mainGlobals "int" = some none)
    (z_isinstance : PySem.W.nsIn K mainGlobals "isinstance" = some none)
    (z_len : PySem.W.nsIn K mainGlobals "len" = some none)
    (z_list : PySem.W.nsIn K mainGlobals "list" = some none)
    (z_max : PySem.W.nsIn K mainGlobals "max" = some none)
    (z_min : PySem.W.nsIn K mainGlobals "min" = some none)
    (z_range : PySem.W.nsIn K mainGlobals "range" = some none)
    (z_reversed : PySem.W.nsIn K mainGlobals "reversed" = some none)
    (z_sum : PySem.W.nsIn K mainGlobals "sum" = some none)
    (z_tuple : PySem.W.nsIn K mainGlobals "tuple" = some none)
    {t_MANY_BITS : Tok} (g_MANY_BITS : PySem.W.nsIn K mainGlobals "MANY_BITS" = some (some (.int 448 t_MANY_BITS)))
    {t_MANY_FIGURES : Tok} (g_MANY_FIGURES : PySem.W.nsIn K mainGlobals "MANY_FIGURES" = some (some (.int 64 t_MANY_FIGURES)))
    {t_SUM_BASE : Tok} (g_SUM_BASE : PySem.W.nsIn K mainGlobals "SUM_BASE" = some (some (.int 65521 t_SUM_BASE))) :
    ∃ fd : FuncData, (∀ (s : Shared) (v : Value), BindsTo s fd ⟨[v], []⟩ [("script", v)]) ∧ ∀ base : Heap, K.In base → base.Ns mainGlobals mg → FnOk l.prog w K mg base (L2.CX l.prog w) 6 fa fd ["script"] (spLaw K) := by
  have e := hfa.symm.trans (PySem.W.mg_of X G a27)
  cases e
  have F0 := fun_mk (st := s_number_octets) l0 c0 k0
  have b0 := F0.binds (ps := ["number"]) fun _ _ _ _ _ _ us hl => match us, hl with | [_], _ => rfl
  have F1 := fun_mk (st := s_number_of_figures) l1 c1 k1
  have b1 := F1.binds (ps := ["figures"]) fun _ _ _ _ _ _ us hl => match us, hl with | [_], _ => rfl
  have F2 := fun_mk (st := s_read_number) l2 c2 k2
  have b2 := F2.binds (ps := ["octets", "at"]) fun _ _ _ _ _ _ us hl => match us, hl with | [_, _], _ => rfl
  have F3 := fun_mk (st := s_sum_of_octets) l3 c3 k3
  have b3 := F3.binds (ps := ["octets"]) fun _ _ _ _ _ _ us hl => match us, hl with | [_], _ => rfl
  have F4 := fun_mk (st := s_frame) l4 c4 k4
  have b4 := F4.binds (ps := ["body"]) fun _ _ _ _ _ _ us hl => match us, hl with | [_], _ => rfl
  have F5 := fun_mk (st := s_frame_at) l5 c5 k5
  have b5 := F5.binds (ps := ["octets", "at"]) fun _ _ _ _ _ _ us hl => match us, hl with | [_, _], _ => rfl
  have F6 := fun_mk (st := s_frames) l6 c6 k6
  have b6 := F6.binds (ps := ["octets"]) fun _ _ _ _ _ _ us hl => match us, hl with | [_], _ => rfl
  have F7 := fun_mk (st := s_law_box) l7 c7 k7
  have b7 := F7.binds (ps := ["script", "k"]) fun _ _ _ _ _ _ us hl => match us, hl with | [_, _], _ => rfl
  have F8 := fun_mk (st := s_law_take) l8 c8 k8
  have b8 := F8.binds (ps := ["box", "many"]) fun _ _ _ _ _ _ us hl => match us, hl with | [_, _], _ => rfl
  have F9 := fun_mk (st := s_law_pick) l9 c9 k9
  have b9 := F9.binds (ps := ["box", "some"]) fun _ _ _ _ _ _ us hl => match us, hl with | [_, _], _ => rfl
  have F10 := fun_mk (st := s_law_is_row) l10 c10 k10
  have b10 := F10.binds (ps := ["told", "due"]) fun _ _ _ _ _ _ us hl => match us, hl with | [_, _], _ => rfl
  have F11 := fun_mk (st := s_law_is_told) l11 c11 k11
  have b11 := F11.binds (ps := ["told", "bodies", "behind"]) fun _ _ _ _ _ _ us hl => match us, hl with | [_, _, _], _ => rfl
  have F12 := fun_mk (st := s_law_counted) l12 c12 k12
  have b12 := F12.binds (ps := ["many"]) fun _ _ _ _ _ _ us hl => match us, hl with | [_], _ => rfl
  have F13 := fun_mk (st := s_law_sum) l13 c13 k13
  have b13 := F13.binds (ps := ["body"]) fun _ _ _ _ _ _ us hl => match us, hl with | [_], _ => rfl
  have F14 := fun_mk (st := s_law_block_sum) l14 c14 k14
  have b14 := F14.binds (ps := ["block", "many"]) fun _ _ _ _ _ _ us hl => match us, hl with | [_, _], _ => rfl
  have F15 := fun_mk (st := s_law_framed) l15 c15 k15
  have b15 := F15.binds (ps := ["body", "total"]) fun _ _ _ _ _ _ us hl => match us, hl with | [_, _], _ => rfl
  have F16 := fun_mk (st := s_law_body) l16 c16 k16
  have b16 := F16.binds (ps := ["box", "great"]) fun _ _ _ _ _ _ us hl => match us, hl with | [_, _], _ => rfl
  have F17 := fun_mk (st := s_law_row) l17 c17 k17
  have b17 := F17.binds (ps := ["box", "may_be_great"]) fun _ _ _ _ _ _ us hl => match us, hl with | [_, _], _ => rfl
  have F18 := fun_mk (st := s_law_flat) l18 c18 k18
  have b18 := F18.binds (ps := ["found"]) fun _ _ _ _ _ _ us hl => match us, hl with | [_], _ => rfl
  have F19 := fun_mk (st := s_law_ahead) l19 c19 k19
  have b19 := F19.binds (ps := ["found", "cut"]) fun _ _ _ _ _ _ us hl => match us, hl with | [_, _], _ => rfl
  have F20 := fun_mk (st := s_law_read) l20 c20 k20
  have b20 := F20.binds (ps := ["row"]) fun _ _ _ _ _ _ us hl => match us, hl with | [_], _ => rfl
  have F21 := fun_mk (st := s_law_frames_hold) l21 c21 k21
  have b21 := F21.binds (ps := ["found"]) fun _ _ _ _ _ _ us hl => match us, hl with | [_], _ => rfl
  have F22 := fun_mk (st := s_law_cuts_hold) l22 c22 k22
  have b22 := F22.binds (ps := ["box", "found"]) fun _ _ _ _ _ _ us hl => match us, hl with | [_, _], _ => rfl
  have F23 := fun_mk (st := s_law_spoilt) l23 c23 k23
  have b23 := F23.binds (ps := ["box", "pair"]) fun _ _ _ _ _ _ us hl => match us, hl with | [_, _], _ => rfl
  have F24 := fun_mk (st := s_law_spoils_hold) l24 c24 k24
  have b24 := F24.binds (ps := ["box", "found"]) fun _ _ _ _ _ _ us hl => match us, hl with | [_, _], _ => rfl
  have F25 := fun_mk (st := s_law_any_hold) l25 c25 k25
  have b25 := F25.binds (ps := ["box", "found"]) fun _ _ _ _ _ _ us hl => match us, hl with | [_, _], _ => rfl
  have F26 := fun_mk (st := s_law_great_holds) l26 c26 k26
  have b26 := F26.binds (ps := ["box"]) fun _ _ _ _ _ _ us hl => match us, hl with | [_], _ => rfl
  have F27 := fun_mk (st := s_law) l27 c27 k27
  have b27 := F27.binds (ps := ["script"]) fun _ _ _ _ _ _ us hl => match us, hl with | [_], _ => rfl
  let T : Tx K mg :=
    { number_octets := f0
      number_octets_fd := _
      number_octets_F := F0
      number_octets_m := PySem.W.mg_of X G a0
      number_octets_b := b0
      number_of_figures := f1
      number_of_figures_fd := _
      number_of_figures_F := F1
      number_of_figures_m := PySem.W.mg_of X G a1
      number_of_figures_b := b1
      read_number := f2
      read_number_fd := _
      read_number_F := F2
      read_number_m := PySem.W.mg_of X G a2
      read_number_b := b2
      sum_of_octets := f3
      sum_of_octets_fd := _
      sum_of_octets_F := F3
      sum_of_octets_m := PySem.W.mg_of X G a3
      sum_of_octets_b := b3
      frame := f4
      frame_fd := _
      frame_F := F4
      frame_m := PySem.W.mg_of X G a4
      frame_b := b4
      frame_at := f5
      frame_at_fd := _
      frame_at_F := F5
      frame_at_m := PySem.W.mg_of X G a5
      frame_at_b := b5
      frames := f6
      frames_fd := _
      frames_F := F6
      frames_m := PySem.W.mg_of X G a6
      frames_b := b6
      law_box := f7
      law_box_fd := _
      law_box_F := F7
      law_box_m := PySem.W.mg_of X G a7
      law_box_b := b7
      law_take := f8
      law_take_fd := _
      law_take_F := F8
      law_take_m := PySem.W.mg_of X G a8
      law_take_b := b8
      law_pick := f9
      law_pick_fd := _
      law_pick_F := F9
      law_pick_m := PySem.W.mg_of X G a9
      law_pick_b := b9
      law_is_row := f10
      law_is_row_fd := _
      law_is_row_F := F10
      law_is_row_m := PySem.W.mg_of X G a10
      law_is_row_b := b10
      law_is_told := f11
      law_is_told_fd := _
      law_is_told_F := F11
      law_is_told_m := PySem.W.mg_of X G a11
      law_is_told_b := b11
      law_counted := f12
      law_counted_fd := _
      law_counted_F := F12
      law_counted_m := PySem.W.mg_of X G a12
      law_counted_b := b12
      law_sum := f13
      law_sum_fd := _
      law_sum_F := F13
      law_sum_m := PySem.W.mg_of X G a13
      law_sum_b := b13
      law_block_sum := f14
      law_block_sum_fd := _
      law_block_sum_F := F14
      law_block_sum_m := PySem.W.mg_of X G a14
      law_block_sum_b := b14
      law_framed := f15
      law_framed_fd := _
      law_framed_F := F15
      law_framed_m := PySem.W.mg_of X G a15
      law_framed_b := b15
      law_body := f16
      law_body_fd := _
      law_body_F := F16
      law_body_m := PySem.W.mg_of X G a16
      law_body_b := b16
      law_row := f17
      law_row_fd := _
      law_row_F := F17
      law_row_m := PySem.W.mg_of X G a17
      law_row_b := b17
      law_flat := f18
      law_flat_fd := _
      law_flat_F := F18
      law_flat_m := PySem.W.mg_of X G a18
      law_flat_b := b18
      law_ahead := f19
      law_ahead_fd := _
      law_ahead_F := F19
      law_ahead_m := PySem.W.mg_of X G a19
      law_ahead_b := b19
      law_read := f20
      law_read_fd := _
      law_read_F := F20
      law_read_m := PySem.W.mg_of X G a20
      law_read_b := b20
      law_frames_hold := f21
      law_frames_hold_fd := _
      law_frames_hold_F := F21
      law_frames_hold_m := PySem.W.mg_of X G a21
      law_frames_hold_b := b21
      law_cuts_hold := f22
      law_cuts_hold_fd := _
      law_cuts_hold_F := F22
      law_cuts_hold_m := PySem.W.mg_of X G a22
      law_cuts_hold_b := b22
      law_spoilt := f23
      law_spoilt_fd := _
      law_spoilt_F := F23
      law_spoilt_m := PySem.W.mg_of X G a23
      law_spoilt_b := b23
      law_spoils_hold := f24
      law_spoils_hold_fd := _
      law_spoils_hold_F := F24
      law_spoils_hold_m := PySem.W.mg_of X G a24
      law_spoils_hold_b := b24
      law_any_hold := f25
      law_any_hold_fd := _
      law_any_hold_F := F25
      law_any_hold_m := PySem.W.mg_of X G a25
      law_any_hold_b := b25
      law_great_holds := f26
      law_great_holds_fd := _
      law_great_holds_F := F26
      law_great_holds_m := PySem.W.mg_of X G a26
      law_great_holds_b := b26
      law := fa
      law_fd := _
      law_F := F27
      law_m := PySem.W.mg_of X G a27
      law_b := b27
      z_abs := PySem.W.mg_none_of X G z_abs
      z_bool := PySem.W.mg_none_of X G z_bool
      z_enumerate := PySem.W.mg_none_of X G z_enumerate
      z_int := PySem.W.mg_none_of X G z_int
      z_isinstance := PySem.W.mg_none_of X G z_isinstance
      z_len := PySem.W.mg_none_of X G z_len
      z_list := PySem.W.mg_none_of X G z_list
      z_max := PySem.W.mg_none_of X G z_max
      z_min := PySem.W.mg_none_of X G z_min
      z_range := PySem.W.mg_none_of X G z_range
      z_reversed := PySem.W.mg_none_of X G z_reversed
      z_sum := PySem.W.mg_none_of X G z_sum
      z_tuple := PySem.W.mg_none_of X G z_tuple
      MANY_BITS_t := t_MANY_BITS
      MANY_BITS_m := PySem.W.mg_of X G g_MANY_BITS
      MANY_FIGURES_t := t_MANY_FIGURES
      MANY_FIGURES_m := PySem.W.mg_of X G g_MANY_FIGURES
      SUM_BASE_t := t_SUM_BASE
      SUM_BASE_m := PySem.W.mg_of X G g_SUM_BASE }
  exact ⟨PySem.W.fnOf "law" "law" (defArgs s_law) (defBody s_law) (defScope s_law) .none kV27 dc27 pm27 an27 cd27 ct27, fun s v => .of_eq rfl, fun base _ _ => law_ok T⟩
end K86
open PySem PySem.W PyProof.Rows
set_option maxRecDepth 100000 in
set_option maxHeartbeats 0 in
theorem PySem.Challenge.cw_caseshome_k86_whole_rows_of_frames_cut_a_holds : PySem.Challenge.rw_caseshome_k86_whole_rows_of_frames_cut_a.Holds := by
  w_on; o_law; k_head; (case hw => w_witness2)
  k_fill
  refine L2.walk_of (l := PySem.Challenge.rw_caseshome_k86_whole_rows_of_frames_cut_a) (n := 63) (k := 6) (x := "script") (CX := fun w => L2.CX PySem.Challenge.rw_caseshome_k86_whole_rows_of_frames_cut_a.prog w) (sp := fun w => Pd.spLaw _) rfl (by decide) rfl ⟨rfl, by decide, by decide⟩ (fun w h Y => PySem.W.kIn_of Y) ?F (fun _ _ a ns hl _ hS => ⟨a, ns, rfl, hS, hl, fun _ => rfl⟩) (fun _ _ _ _ _ h => Pd.cxNo h)
  case F =>
    intro w mg fa h KX G hmg
    refine' K86.all_mk KX G hmg ?a0 ?l0 ?c0 ?k0 ?a1 ?l1 ?c1 ?k1 ?a2 ?l2 ?c2 ?k2 ?a3 ?l3 ?c3 ?k3 ?a4 ?l4 ?c4 ?k4 ?a5 ?l5 ?c5 ?k5 ?a6 ?l6 ?c6 ?k6 ?a7 ?l7 ?c7 ?k7 ?a8 ?l8 ?c8 ?k8 ?a9 ?l9 ?c9 ?k9 ?a10 ?l10 ?c10 ?k10 ?a11 ?l11 ?c11 ?k11 ?a12 ?l12 ?c12 ?k12 ?a13 ?l13 ?c13 ?k13 ?a14 ?l14 ?c14 ?k14 ?a15 ?l15 ?c15 ?k15 ?a16 ?l16 ?c16 ?k16 ?a17 ?l17 ?c17 ?k17 ?a18 ?l18 ?c18 ?k18 ?a19 ?l19 ?c19 ?k19 ?a20 ?l20 ?c20 ?k20 ?a21 ?l21 ?c21 ?k21 ?a22 ?l22 ?c22 ?k22 ?a23 ?l23 ?c23 ?k23 ?a24 ?l24 ?c24 ?k24 ?a25 ?l25 ?c25 ?k25 ?a26 ?l26 ?c26 ?k26 ?a27 ?l27 ?c27 ?k27 ?z_abs ?z_bool ?z_enumerate ?z_int ?z_isinstance ?z_len ?z_list ?z_max ?z_min ?z_range ?z_reversed ?z_sum ?z_tuple ?g_MANY_BITS ?g_MANY_FIGURES ?g_SUM_BASE
    (case a0 => k_is)
    (case l0 => k_is)
    (case c0 => k_is)
    (case k0 => k_is)
    (case a1 => k_is)
    (case l1 => k_is)
    (case c1 => k_is)
    (case k1 => k_is)
    (case a2 => k_is)
    (case l2 => k_is)
    (case c2 => k_is)
    (case k2 => k_is)
    (case a3 => k_is)
    (case l3 => k_is)
    (case c3 => k_is)
    (case k3 => k_is)
    (case a4 => k_is)
    (case l4 => k_is)
    (case c4 => k_is)
    (case k4 => k_is)
    (case a5 => k_is)
    (case l5 => k_is)
    (case c5 => k_is)
    (case k5 => k_is)
    (case a6 => k_is)
    (case l6 => k_is)
    (case c6 => k_is)
    (case k6 => k_is)
    (case a7 => k_is)
    (case l7 => k_is)
    (case c7 => k_is)
    (case k7 => k_is)
    (case a8 => k_is)
    (case l8 => k_is)
    (case c8 => k_is)
    (case k8 => k_is)
    (case a9 => k_is)
    (case l9 => k_is)
    (case c9 => k_is)
    (case k9 => k_is)
    (case a10 => k_is)
    (case l10 => k_is)
    (case c10 => k_is)
    (case k10 => k_is)
    (case a11 => k_is)
    (case l11 => k_is)
    (case c11 => k_is)
    (case k11 => k_is)
    (case a12 => k_is)
    (case l12 => k_is)
    (case c12 => k_is)
    (case k12 => k_is)
    (case a13 => k_is)
    (case l13 => k_is)
    (case c13 => k_is)
    (case k13 => k_is)
    (case a14 => k_is)
    (case l14 => k_is)
    (case c14 => k_is)
    (case k14 => k_is)
    (case a15 => k_is)
    (case l15 => k_is)
    (case c15 => k_is)
    (case k15 => k_is)
    (case a16 => k_is)
    (case l16 => k_is)
    (case c16 => k_is)
    (case k16 => k_is)
    (case a17 => k_is)
    (case l17 => k_is)
    (case c17 => k_is)
    (case k17 => k_is)
    (case a18 => k_is)
    (case l18 => k_is)
    (case c18 => k_is)
    (case k18 => k_is)
    (case a19 => k_is)
    (case l19 => k_is)
    (case c19 => k_is)
    (case k19 => k_is)
    (case a20 => k_is)
    (case l20 => k_is)
    (case c20 => k_is)
    (case k20 => k_is)
    (case a21 => k_is)
    (case l21 => k_is)
    (case c21 => k_is)
    (case k21 => k_is)
    (case a22 => k_is)
    (case l22 => k_is)
    (case c22 => k_is)
    (case k22 => k_is)
    (case a23 => k_is)
    (case l23 => k_is)
    (case c23 => k_is)
    (case k23 => k_is)
    (case a24 => k_is)
    (case l24 => k_is)
    (case c24 => k_is)
    (case k24 => k_is)
    (case a25 => k_is)
    (case l25 => k_is)
    (case c25 => k_is)
    (case k25 => k_is)
    (case a26 => k_is)
    (case l26 => k_is)
    (case c26 => k_is)
    (case k26 => k_is)
    (case a27 => k_is)
    (case l27 => k_is)
    (case c27 => k_is)
    (case k27 => k_is)
    (case z_abs => k_is)
    (case z_bool => k_is)
    (case z_enumerate => k_is)
    (case z_int => k_is)
    (case z_isinstance => k_is)
    (case z_len => k_is)
    (case z_list => k_is)
    (case z_max => k_is)
    (case z_min => k_is)
    (case z_range => k_is)
    (case z_reversed => k_is)
    (case z_sum => k_is)
    (case z_tuple => k_is)
    (case g_MANY_BITS => k_is)
    (case g_MANY_FIGURES => k_is)
    (case g_SUM_BASE => k_is)
