import PyProof.Rows.All
import Wide.All
import OpenK.AllK
import Wide.FinOn
import HandS.ForMost
import HandS.Property
import HandS.FStr
import PyProof.ReprReads
import PyProof.InstNe
import PyProof.ReprRoads
import KE.KFmtOwn
import HandS.IsInst
import HandS.Small
import HandS.Ends
import KE.KxField
import HandS.Iter
import HandS.Style
import PyProof.Rows.StrRev
import PyProof.Rows.StrTemp
import HandS.Wide
import HandS.WideBits
import HandS.Defaults
import HandS.MakeKw
import HandS.SetFor
import HandS.Strs
import HandS.Conv
import HandS.SortKw
import HandS.SortInts
import KE.KDictList
import HandS.TupAny
import KE.DatumOrd
import HandS.Text
import PyProof.ReprLen
import PyProof.Rows.StrJoinMade
import KE.KCallOwn
import HandS.Flow
import HandS.Gcd
import HandS.Set
import PySem.Challenge.RW_overlapturns_k51_texts_and_equality_of_c
import HandS.Codes
set_option Elab.async false
set_option linter.all false
set_option maxRecDepth 100000
set_option maxHeartbeats 8000000
namespace G
open PySem PySem.Spec PyProof.Rows L2

/-- a def's promise where no repr is under way -/
structure FG (P : Program) (w : World) (K : PySem.W.Frag) (mg : Str → Option Value) (base : Heap) (CX : CXT) (k : Nat) (f : Addr) (fd : FuncData) (ps : List Str) (sp : Sp) : Prop where
  ln : ∀ vs H Q E, sp vs H Q E → vs.length = ps.length
  go : ∀ (A : Around), A.guards = some [] → ∀ (outer : List Env) (s : Shared) (H : Hp) (args : Args) (us : List Value) (vs : List V) (Q : VK) (E : XK),
    Room k A → Env0 P w K mg base A outer s H → BindsTo s fd args (ps.zip us) → Vals vs us → sp vs H Q E →
      codeAny (model P w) A (.call (.ref f) args) (CR CX outer P w H s Q E) s

section
variable {P : Program} {w : World} {K : PySem.W.Frag} {mg : Str → Option Value} {base : Heap} {CX : CXT} {j k : Nat} {f : Addr} {fd : FuncData} {ps : List Str} {sp sp' : Sp}
theorem FG.of (F : FnOk P w K mg base CX k f fd ps sp) : FG P w K mg base CX k f fd ps sp :=
  ⟨F.len, fun A _ outer s H args us vs Q E => F.run A outer s H args us vs Q E⟩
theorem FG.up (F : FG P w K mg base CX j f fd ps sp) (h : j ≤ k) : FG P w K mg base CX k f fd ps sp :=
  ⟨F.ln, fun A g outer s H args us vs Q E r => F.go A g outer s H args us vs Q E (r.mono h)⟩
theorem FG.weak (F : FG P w K mg base CX k f fd ps sp) (h : ∀ vs H Q E, sp' vs H Q E → sp vs H Q E) : FG P w K mg base CX k f fd ps sp' :=
  ⟨fun vs H Q E q => F.ln vs H Q E (h _ _ _ _ q), fun A g outer s H args us vs Q E r e b v q => F.go A g outer s H args us vs Q E r e b v (h _ _ _ _ q)⟩

/-- FnOk at one surrounding: all that a call asks, with A fixed ahead -/
theorem fg_of {name qual : Str} {params : Arguments} {body : List Stmt} {scope : Scope} {dV kV doc pm cdv ct oc : Value} {an od : Option Addr} {osl : Array (Option Value)} {N : List Str}
    (lk : K.lookup f = some ⟨oc, od, .func (PySem.W.fnOf name qual params body scope dV kV doc pm an cdv ct), osl⟩) (hcd : PySem.W.codeIn K cdv qual = true) (S : FnScope N ps scope)
    (len : ∀ vs H Q E, sp vs H Q E → vs.length = ps.length)
    (hbody : ∀ (A : Around) (outer : List Env) (s : Shared) (H : Hp) (vs : List V) (Q : VK) (E : XK),
      (A.deeper (envOfC qual scope s.heap.objs.size f cdv)).guards = some [] → Room k (A.deeper (envOfC qual scope s.heap.objs.size f cdv)) → sp vs H Q E →
      ∃ t, PSs (cxOf CX P w K mg base N qual scope f cdv A outer s H E) body t ∧ t { nx := fun _ H' => Q .non H', rt := Q } (start N vs) H) :
    FG P w K mg base CX (k + 1) f (PySem.W.fnOf name qual params body scope dV kV doc pm an cdv ct) ps sp := by
  refine ⟨len, fun A g outer s H args us vs Q E hr e0 hb r hsp => ?_⟩
  have gd : (A.deeper (envOfC qual scope s.heap.objs.size f cdv)).guards = some [] := g
  obtain ⟨t, ht, hq⟩ := hbody A outer s H vs Q E gd (hr.deeper _) hsp
  have hl := len _ _ _ _ hsp
  have keep : K.In s.heap := e0.mod.kin.keeps fun b o e => (e0.bs b o e).1
  have kd : ∀ y ∈ ps.zip us, scope.names.lookup y.1 = some .local ∨
      (scope.names.lookup y.1 = some .cell ∧ ((cellsFrom (s.heap.objs.size + 1) scope.names []).lookup y.1).isSome = true) := by
    rintro ⟨n, v⟩ hy
    exact (S.par n (List.of_mem_zip hy).1).imp (fun q => q) fun q => ⟨q, PySem.W.cellsFrom_some _ _ _ (.inl q)⟩
  refine codeAny_call_function hr.depth (keep _ _ lk) rfl S.co S.gen rfl (PySem.W.codeRec_of keep hcd)
    (hb _ _ _ _ (wpAny_newFunctionEnv_cells S.kind kd fun env he s1 x => ?_))
  cases he
  refine ⟨(e0.mod.nolimit.keeps fun b o e => (e0.bs b o e).1).keeps x.toInCall.keep, codeAny_func ?_⟩
  have I := inv_start (CX := CX) (E := E) S hr.hd e0 hl r x
  refine wpAny_mono (ht.run [] s1 (start N vs) H _ I hq) (fun fl s' hs => ?_) fun _ _ z => z
  cases fl with
  | ret u =>
    obtain ⟨v, _, H', J, rv, q⟩ := hs
    exact ⟨v, H', J.os, J.bare, J.base, J.hok, rv, q⟩
  | next =>
    obtain ⟨_, H', J, q⟩ := hs
    exact ⟨V.non, H', J.os, J.bare, J.base, J.hok, rfl, q⟩
  | brk =>
    obtain ⟨_, _, _, z⟩ := hs
    exact z.elim
  | cont =>
    obtain ⟨_, _, _, z⟩ := hs
    exact z.elim

/-- a def of the text that nothing raised leaves -/
theorem fun_okG {x qual : Str} {st : Stmt} {N : List Str} (F : Fun K x qual st f fd) (S : FnScope N ps (defScope st)) (len : ∀ vs H Q E, sp vs H Q E → vs.length = ps.length)
    (hbody : ∀ (cdv : Value) (A : Around) (outer : List Env) (s : Shared) (H : Hp) (vs : List V) (Q : VK) (E : XK),
      (A.deeper (envOfC qual (defScope st) s.heap.objs.size f cdv)).guards = some [] → Room k (A.deeper (envOfC qual (defScope st) s.heap.objs.size f cdv)) → sp vs H Q E →
      ∃ t, PSs (cxOf CX0 P w K mg base N qual (defScope st) f cdv A outer s H E).nox (defBody st) t ∧ t { nx := fun _ H' => Q .non H', rt := Q } (start N vs) H) :
    FG P w K mg base CX0 (k + 1) f fd ps sp := by
  obtain ⟨_, _, _, _, _, _, cdv, _, _, rfl, lk, hcd⟩ := F.ex
  refine fg_of lk hcd S len fun A outer s H vs Q E g hr h => ?_
  obtain ⟨t, d, q⟩ := hbody cdv A outer s H vs Q E g hr h
  exact ⟨t, d.nox, q⟩
end

/-- how a call's values come to the parameters: positional us, then the names ks with ws; g is their order -/
structure KB (K : PySem.W.Frag) (fd : FuncData) (ps : List Str) (n : Nat) (ks : List Str) (g : {α : Type} → List α → List α → List α) : Prop where
  ar : ∀ (s : Shared) (us ws : List Value), us.length = n → ws.length = ks.length → BindsTo s fd ⟨us, ks.zip ws⟩ (ps.zip (g us ws))
  re : ∀ {vs zs : List V} {us ws : List Value}, Vals vs us → Vals zs ws → Vals (g vs zs) (g us ws)

/-- a def of the module under its name -/
structure Cal (P : Program) (w : World) (K : PySem.W.Frag) (mg : Str → Option Value) (base : Heap) (x : Str) (k : Nat) (ps : List Str) (sp : Sp) : Prop where
  ex : ∃ f fd, FG P w K mg base CX0 k f fd ps sp ∧ mg x = some (.ref f) ∧ PySem.W.keepIn K (.ref f) = true ∧ Binds K fd ps []
section
variable {X : Cx} {pins : List (Addr × Obj)} {σ : L2.St} {H : Hp} {s : Shared} {Q : VK} {CX : CXT} {k : Nat} {f C : Addr} {fd : FuncData} {ps : List Str} {sp : Sp} {E : XK}
/-- what a callee's end is for the caller -/
theorem back_of (hx : Passes CX X E) (I : Inv X pins σ H s) {r : Result} {s' : Shared} (hq : CR CX X.stack X.prog X.w H s Q E r s') : wants (EP X pins σ Q) X.xe r s' := by
  cases r with
  | error e => exact hx pins σ H s e s' I hq
  | ok fl =>
    cases fl <;> first | exact I.after hq | exact False.elim hq
theorem run_g (F : FG X.prog X.w X.K X.mg X.base CX k f fd ps sp) (gd : X.A.guards = some []) (hr : Room k X.A) (hx : Passes CX X E) (I : Inv X pins σ H s) {args : Args} {us : List Value} {vs : List V}
    (hb : BindsTo s fd args (ps.zip us)) (r : Vals vs us) (h : sp vs H Q E) : codeAny (model X.prog X.w) X.A (.call (.ref f) args) (wants (EP X pins σ Q) X.xe) s :=
  codeAny_mono (F.go X.A gd X.stack s H args us vs Q E hr I.env0 hb r h) fun _ _ hq => back_of hx I hq
end

section
variable {X : Cx} {CX : CXT} {k : Nat} {f C : Addr} {fd : FuncData} {ps ks : List Str} {sp : Sp} {E : XK} {x m : Str} {p pos apos : Pos} {e o : Expr} {es : List Expr} {kws : List Keyword} {ta : TE} {t tk : TA} {n : Nat} {g : {α : Type} → List α → List α → List α}

theorem binds_to {K : PySem.W.Frag} {s : Shared} {us : List Value} (hb : Binds K fd ps []) (kx : K.In s.heap) (hl : us.length = ps.length) : BindsTo s fd ⟨us, []⟩ (ps.zip us) := by
  have q := hb s us kx (by rw [List.append_nil]; exact hl)
  rwa [List.append_nil] at q

/-- f(e, ..) -/
theorem pe_cg (c : Cal X.prog X.w X.K X.mg X.base x k ps sp) (gd : X.A.guards = some []) (hr : Room k X.A) (hg : Gl X x) (ha : PA X (e :: es) t) (hdb : (x == ("__debug__" : Str)) = false := by decide)
    (he : starEach (e :: es) X.env = (false, eval e X.env) :: starEach es X.env := by rfl) (hpl : (backTo pos (starEach es X.env)).any (·.1) = false := by rfl) : PE X (.Call (.Name x p) (e :: es) [] pos) (tCall sp [] E0 t) := by
  obtain ⟨f, fd, F, hm, hk, hb⟩ := c.ex
  refine ⟨fun pins s σ H Q I h => wpAny_Call_Name_kw (ld_glob I hg hm ?_ hdb)⟩
  refine PySem.W.callWith_K (h₀ := X.base) I.mod.kin hk (thn (ha.run pos pins s σ H _ I h) ?_) he hpl
  rintro us s1 ⟨vs, H1, I1, r, q⟩
  have q' : sp vs H1 Q E0 := by
    have q0 := q
    rwa [List.append_nil] at q0
  have ln : us.length = ps.length := r.length.symm.trans (F.ln _ _ _ _ q')
  exact ⟨I1.kIn, PySem.wpAny_call (run_g F gd hr pass0 I1 (us := us) (binds_to hb I1.kIn ln) r q')⟩

/-- the method of that name stands at f -/
structure MethG (P : Program) (w : World) (K : PySem.W.Frag) (mg : Str → Option Value) (base : Heap) (C : Addr) (m : Str) (k : Nat) (ps : List Str) (sp : Sp) : Prop where
  ex : ∃ f fd, FG P w K mg base CX0 k f fd ps sp ∧ Meth K C m f ∧ Binds K fd ps []
/-- .. with keywords -/
structure MethK (P : Program) (w : World) (K : PySem.W.Frag) (mg : Str → Option Value) (base : Heap) (C : Addr) (m : Str) (k : Nat) (ps : List Str) (n : Nat) (ks : List Str) (g : {α : Type} → List α → List α → List α) (sp : Sp) : Prop where
  ex : ∃ f fd, FG P w K mg base CX0 k f fd ps sp ∧ Meth K C m f ∧ KB K fd ps n ks g

/-- o.m(e, ..), o an instance of the class at C -/
theorem pe_mg {pl : Sem Bool} (c : Cls X.K C) (M : MethG X.prog X.w X.K X.mg X.base C m k ps sp) (gd : X.A.guards = some []) (hr : Room k X.A) (he : PE X o ta) (ha : PA X (e :: es) t)
    (hst : starEach (e :: es) X.env = (false, eval e X.env) :: starEach es X.env := by rfl) (hpl : (backTo pos (starEach es X.env)).any (·.1) = false := by rfl)
    (ht : eval (.Call (.Attribute o m apos) (e :: es) [] pos) X.env = (eval o X.env >>= fun ov => standAt apos.atName >>= fun _ =>
      holding [ov] (getMethod ov m pl) >>= fun z => callWith pos z.1 z.2 (backTo pos (starEach (e :: es) X.env)) (backToKw pos (keywordEach [] X.env))) := by rfl) :
    PE X (.Call (.Attribute o m apos) (e :: es) [] pos) (tMeth C m sp [] E0 ta t) := by
  obtain ⟨f, fd, F, hm, hb⟩ := M.ex
  refine ⟨fun pins s σ H Q I h => PySem.W.methodCall_KW (pl := pl) (thn (he.run pins s σ H _ I h) ?_) ht⟩
  rintro u s1 ⟨y, H1, I1, rx, a, dx, fs, rfl, ea, l, q⟩
  cases rx
  refine getmeth_ok I1 ea c hm l (PySem.W.callWith_K (first := [.ref a]) (h₀ := X.base) I1.mod.kin hm.kp (thn (ha.run pos pins s1 σ H1 _ I1 q) ?_) hst hpl)
  rintro us s2 ⟨vs, H2, I2, r, q2⟩
  have q' : sp (.ref a :: vs) H2 Q E0 := by
    have q0 := q2
    rwa [List.append_nil] at q0
  have r' : Vals (V.ref a :: vs) (Value.ref a :: us) := .cons rfl r
  have ln : (Value.ref a :: us).length = ps.length := r'.length.symm.trans (F.ln _ _ _ _ q')
  exact ⟨I2.kIn, PySem.wpAny_call (run_g F gd hr pass0 I2 (us := .ref a :: us) (binds_to hb I2.kIn ln) r' q')⟩

/-- o.m(k = v, ..): the object, then the keywords' values; g puts them in the parameters' order -/
def tMethK (C : Addr) (m : Str) (nk : Nat) (g : List V → List V → List V) (sp : Sp) (ta : TE) (tk : TA) : TE := fun σ H Q => ta σ H fun x H1 => ∃ a dx fs, x = .ref a ∧ H1 a = some (.ins C dx fs) ∧ fs.lookup m = none ∧
  tk σ H1 fun zs H2 => zs.length = nk ∧ sp (g [x] zs) H2 Q E0
theorem pe_mgK {pl : Sem Bool} (c : Cls X.K C) (M : MethK X.prog X.w X.K X.mg X.base C m k ps 1 ks g sp) (gd : X.A.guards = some []) (hr : Room k X.A) (he : PE X o ta) (hkw : PK X kws tk)
    (hall : (backToKw pos (keywordEach kws X.env)).all (·.1.isSome) = true := by rfl) (hks : (backToKw pos (keywordEach kws X.env)).filterMap (·.1) = ks := by rfl)
    (hpl : ((backTo pos (starEach [] X.env)).any (·.1) || (backToKw pos (keywordEach kws X.env)).any (·.1.isNone)) = false := by rfl)
    (ht : eval (.Call (.Attribute o m apos) [] kws pos) X.env = (eval o X.env >>= fun ov => standAt apos.atName >>= fun _ =>
      holding [ov] (getMethod ov m pl) >>= fun z => callWith pos z.1 z.2 (backTo pos (starEach [] X.env)) (backToKw pos (keywordEach kws X.env))) := by rfl) :
    PE X (.Call (.Attribute o m apos) [] kws pos) (tMethK C m ks.length g sp ta tk) := by
  obtain ⟨f, fd, F, hm, hb⟩ := M.ex
  refine ⟨fun pins s σ H Q I h => PySem.W.methodCall_KW (pl := pl) (thn (he.run pins s σ H _ I h) ?_) ht⟩
  rintro u s1 ⟨y, H1, I1, rx, a, dx, fs, rfl, ea, l, q⟩
  cases rx
  refine getmeth_ok I1 ea c hm l (PySem.W.callWith_KW0 (first := [.ref a]) I1.mod.kin hm.kp hall (thn (hkw.run pos pins s1 σ H1 _ I1 q) ?_) hpl)
  rintro ws s2 ⟨zs, H2, I2, rz, lz, q2⟩
  rw [hks]
  have r0 : Vals [V.ref a] [Value.ref a] := .cons rfl .nil
  exact ⟨I2.kIn, PySem.wpAny_call (run_g F gd hr pass0 I2 (hb.ar s2 [.ref a] ws rfl (by rw [← rz.length, lz])) (hb.re r0 rz) q2)⟩

/-- what makes an instance: C's __init__ stands at f -/
structure MkG (P : Program) (w : World) (K : PySem.W.Frag) (mg : Str → Option Value) (base : Heap) (CX : CXT) (x : Str) (C : Addr) (k : Nat) (ps : List Str) (sp : Sp) : Prop where
  ex : ∃ f fd, FG P w K mg base CX k f fd ps sp ∧ Mk K C f ∧ mg x = some (.ref C) ∧ Binds K fd ps []
structure MkK (P : Program) (w : World) (K : PySem.W.Frag) (mg : Str → Option Value) (base : Heap) (CX : CXT) (x : Str) (C : Addr) (k : Nat) (ps : List Str) (ks : List Str) (g : {α : Type} → List α → List α → List α) (sp : Sp) : Prop where
  ex : ∃ f fd, FG P w K mg base CX k f fd ps sp ∧ Mk K C f ∧ mg x = some (.ref C) ∧ KB K fd ps 1 ks g
theorem guards_make {A : Around} {C : Addr} {us : List Value} {kw : List (Str × Value)} (h : A.guards = some []) : (A.under (.builtin "type.__call__" ⟨.ref C :: us, kw⟩)).guards = some [] := by
  have e0 : guardIds.contains "type.__call__" = false := by decide +kernel
  have e : (Code.builtin "type.__call__" ⟨.ref C :: us, kw⟩).guards = [] := by
    unfold Code.guards
    rw [show (Code.builtin "type.__call__" ⟨.ref C :: us, kw⟩).isGuard = false from e0]
    rfl
  have z : (A.under (.builtin "type.__call__" ⟨.ref C :: us, kw⟩)).guards = pushGuards (Code.builtin "type.__call__" ⟨.ref C :: us, kw⟩).guards A.guards := by
    first | rfl | simp [Around.under]
  rw [z, e]
  exact h
/-- the instance made, its __init__ run -/
theorem run_mk {pins : List (Addr × Obj)} {σ : L2.St} {H : Hp} {s : Shared} {Q : VK} (M : Mk X.K C f) (F : FG X.prog X.w X.K X.mg X.base CX k f fd ps sp) (gd : X.A.guards = some []) (hr : Room (k + 1) X.A) (hx : Passes CX X E) (I : Inv X pins σ H s)
    {us : List Value} {kw : List (Str × Value)} {all : Value → List Value} {vs : V → List V}
    (hb : ∀ (s' : Shared) (x : Addr), X.K.In s'.heap → (all (.ref x)).length = ps.length → BindsTo s' fd ⟨.ref x :: us, kw⟩ (ps.zip (all (.ref x)))) (r : ∀ x : Addr, Vals (vs (.ref x)) (all (.ref x)))
    (h : ∀ x dx, H x = none → H dx = none → dx ≠ x → sp (vs (.ref x)) (upd (upd H dx (.own x)) x (.ins C dx [])) (fun v H2 => v = .non ∧ Q (.ref x) H2) E) :
    wpAny (model X.prog X.w) X.A (call (.ref C) us kw) (EP X pins σ Q) X.xe s := by
  have fr : ∀ a, s.heap.objs.size ≤ a → H a = none := fun a ha => I.hok.fresh ha
  have q := h (s.heap.objs.size + 1) s.heap.objs.size (fr _ (Nat.le_succ _)) (fr _ (Nat.le_refl _)) (Nat.ne_of_lt (Nat.lt_succ_self _))
  have J := Inv.made (C := C) I
  have ln : (all (.ref (s.heap.objs.size + 1))).length = ps.length := by
    rw [← (r _).length]
    exact F.ln _ _ _ _ q
  have run := F.go _ (guards_make (C := C) (us := us) (kw := kw) gd) X.stack _ _ _ _ _ _ E (hr.make C us kw) (J.env0.make C us kw) (hb _ _ J.kIn ln) (r _) q
  refine PySem.wpAny_call (make_map (f := f) I.kIn M.makes M.init (beq_iff_eq.mp M.fn) (codeAny_mono run fun z s' hz => ?_))
  cases z with
  | error e => exact hx pins σ _ _ e s' J hz
  | ok fl =>
    cases fl with
    | ret u =>
      obtain ⟨v, H', J', rv, rfl, qv⟩ := J.after hz
      exact ⟨rv, .ref (s.heap.objs.size + 1), H', J', rfl, qv⟩
    | next => exact hz.elim
    | brk => exact hz.elim
    | cont => exact hz.elim
/-- C(e, ..) -/
theorem pe_kg (M : MkG X.prog X.w X.K X.mg X.base CX x C k ps sp) (gd : X.A.guards = some []) (hr : Room (k + 1) X.A) (hx : Passes CX X E) (hg : Gl X x) (ha : PA X (e :: es) t) (hdb : (x == ("__debug__" : Str)) = false := by decide)
    (he : starEach (e :: es) X.env = (false, eval e X.env) :: starEach es X.env := by rfl) (hpl : (backTo pos (starEach es X.env)).any (·.1) = false := by rfl) : PE X (.Call (.Name x p) (e :: es) [] pos) (tMake C sp [] E t) := by
  obtain ⟨f, fd, F, mk, hm, hb⟩ := M.ex
  refine ⟨fun pins s σ H Q I h => wpAny_Call_Name_kw (ld_glob I hg hm ?_ hdb)⟩
  refine PySem.W.callWith_K (h₀ := X.base) I.mod.kin mk.kp (thn (ha.run pos pins s σ H _ I h) ?_) he hpl
  rintro us s1 ⟨vs, H1, I1, r, q⟩
  refine ⟨I1.kIn, run_mk mk F gd hr hx I1 (all := fun y => y :: us) (vs := fun y => y :: vs) (fun s' y kx ln => binds_to hb kx ln) (fun y => .cons rfl r) fun y dy h1 h2 h3 => ?_⟩
  have q0 := q y dy h1 h2 h3
  rwa [List.append_nil] at q0
/-- C(k = v, ..) -/
def tMakeKw (C : Addr) (nk : Nat) (g : List V → List V → List V) (sp : Sp) (E : XK) (tk : TA) : TE := fun σ H Q => tk σ H fun zs H1 => zs.length = nk ∧ ∀ x dx, H1 x = none → H1 dx = none → dx ≠ x →
  sp (g [.ref x] zs) (upd (upd H1 dx (.own x)) x (.ins C dx [])) (fun v H2 => v = .non ∧ Q (.ref x) H2) E
theorem pe_kgK (M : MkK X.prog X.w X.K X.mg X.base CX x C k ps ks g sp) (gd : X.A.guards = some []) (hr : Room (k + 1) X.A) (hx : Passes CX X E) (hg : Gl X x) (hkw : PK X kws tk)
    (hdb : (x == ("__debug__" : Str)) = false := by decide)
    (hall : (backToKw pos (keywordEach kws X.env)).all (·.1.isSome) = true := by rfl) (hks : (backToKw pos (keywordEach kws X.env)).filterMap (·.1) = ks := by rfl)
    (hpl : ((backTo pos (starEach [] X.env)).any (·.1) || (backToKw pos (keywordEach kws X.env)).any (·.1.isNone)) = false := by rfl) :
    PE X (.Call (.Name x p) [] kws pos) (tMakeKw C ks.length g sp E tk) := by
  obtain ⟨f, fd, F, mk, hm, hb⟩ := M.ex
  refine ⟨fun pins s σ H Q I h => wpAny_Call_Name_kw (ld_glob I hg hm ?_ hdb)⟩
  refine PySem.W.callWith_KW0 (h₀ := X.base) I.mod.kin mk.kp hall (thn (hkw.run pos pins s σ H _ I h) ?_) hpl
  rintro ws s1 ⟨zs, H1, I1, rz, lz, q⟩
  rw [hks]
  refine ⟨I1.kIn, run_mk mk F gd hr hx I1 (us := []) (all := fun y => g [y] ws) (vs := fun y => g [y] zs) (fun s' y kx ln => hb.ar s' [.ref y] ws rfl (by rw [← rz.length, lz])) (fun y => ?_) q⟩
  have r0 : Vals [V.ref y] [Value.ref y] := .cons rfl .nil
  exact hb.re r0 rz

/-- a property of the class at C whose getter is a def of the text -/
structure PropG (P : Program) (w : World) (K : PySem.W.Frag) (mg : Str → Option Value) (base : Heap) (C : Addr) (m : Str) (k : Nat) (sp : Sp) : Prop where
  ex : ∃ p f fd, FnOk P w K mg base CX0 k f fd ["self"] sp ∧ PropOf K C m p f ∧ Binds K fd ["self"] []
theorem pe_pg (c : Cls X.K C) (M : PropG X.prog X.w X.K X.mg X.base C m k sp) (hr : Room (k + 1) X.A) (he : PE X e ta) (hab : attributeBase e m X.env (eval e X.env) = eval e X.env := by rfl) : PE X (.Attribute e m pos) (tProp C sp [] E0 ta) := by
  obtain ⟨p, f, fd, F, hp, hb⟩ := M.ex
  exact pe_prop he c hp F hr hb .nil pass0 hab
end

/-! ### repr of data -/
section
variable {X : Cx}
/-- repr(x), x of None, bools, ints, texts, lists, tuples -/
def rReprD (K : PySem.W.Frag) : List V → Hp → VK → Prop := fun xs H Q => ∃ x d, xs = [x] ∧ Dp K H x d ∧ d.showable = true ∧ d.hasDict = false ∧ d.depth ≤ 40 ∧ d.shown.length ≤ sizeLine ∧ Q (.str d.shown) H
theorem call_reprD {k : Nat} (gd : X.A.guards = some []) (hr : Room k X.A) : CallR X (.builtin "repr") (rReprD X.K) := by
  intro pins s σ H xs us Q I r h
  obtain ⟨x, d, rfl, hd, sh, nd, dp, sz, q⟩ := h
  obtain ⟨u, rfl, ru⟩ := vals1 r
  obtain ⟨as, rd⟩ := Dp.reads I d x u hd ru
  have un := hr.units
  have fin : ∀ h' tk t, (∀ b o, s.heap.get? b = some o → h'.get? b = some o) → EP X pins σ Q (.str d.shown t) { s with heap := h', toks := tk } :=
    fun h' tk t kp => ⟨.str d.shown, H, I.kept kp, ⟨t, rfl⟩, q⟩
  cases hd with
  | non =>
    cases ru
    exact PySem.P.repr_of_none (fin s.heap _ _ fun _ _ e => e)
  | bl b =>
    cases ru
    exact PySem.P.repr_of_bool (fin s.heap _ _ fun _ _ e => e)
  | int i =>
    obtain ⟨t, rfl⟩ := ru
    exact PySem.P.repr_of_int (by simpa [PyData.showable] using sh) (fin s.heap _ _ fun _ _ e => e)
  | str z =>
    obtain ⟨t, rfl⟩ := ru
    exact PySem.P.repr_of_str (fin s.heap _ _ fun _ _ e => e) (by simpa only [PyData.shown] using sz)
  | lst h1 h2 =>
    cases ru
    exact repr_of_reads' rd sh (fun z => by rw [nd] at z; cases z) gd (by omega) (fun _ _ e => e) (fun h' u tk kp => fin h' tk u kp) sz
  | tup h1 h2 =>
    cases ru
    exact repr_of_reads' rd sh (fun z => by rw [nd] at z; cases z) gd (by omega) (fun _ _ e => e) (fun h' u tk kp => fin h' tk u kp) sz
end
end G
namespace G
open PySem PySem.Spec PyProof.Rows L2
section
variable {prog : Program} {w : World} {A : Around} {E : Value → Shared → Prop} {s : Shared} {K : PySem.W.Frag} {x C : Addr} {ox : Obj} {od : Option Obj}
/-- a built-in special method, found on the instance's class -/
theorem bound_slot {M : Model} {name : Str} {id : String} {args : List Value} {Q : Option Value → Shared → Prop} (X : K.In s.heap) (I : PySem.W.InstAt s.heap x ox C od) (hs : PySem.W.findIn K (.ref C) name = some (some (.builtin id)))
    (hb : ∀ self, bindSpecial (.builtin id) self = pure (.builtin id, [self])) (h : wpAny M A (call (.builtin id) (.ref x :: args)) (fun v => Q (some v)) E s) : wpAny M A (callSpecialIfBound? (.ref x) name args) Q E s := by
  have fin : wpAny M A (call (.builtin id) ([.ref x] ++ args) >>= fun v => pure (some v)) Q E s := wpAny_bind (wpAny_mono h (fun v s' z => wpAny_pure z) fun _ _ z => z)
  have lk : PySem.W.Looks M s.heap (bindSpecial (.builtin id) (.ref x)) (.builtin id, [.ref x]) := PySem.W.Looks.of_pure (hb _)
  simp only [callSpecialIfBound?, bindSpecialIfBound?]
  refine wpAny_holding (wpAny_bind (wpAny_bind (wpAny_bind (I.type.here ((PySem.W.looks_findIn X hs).here (wpAny_bind (wpAny_askSetting (wpAny_ite ?_))))))))
  split
  · exact wpAny_bind (lk.here (wpAny_pure (by exact fin)))
  · exact wpAny_tryCatch (wpAny_bind (lk.here (wpAny_pure (by exact fin))))
/-- object.__ne__ where the class has an own __eq__ -/
theorem obj_ne {f : Addr} {b : Value} {Q : Value → Shared → Prop} (hu : A.in1.units < cLine) (X : K.In s.heap) (I : PySem.W.InstAt s.heap x ox C od) (hm : PySem.W.mroIn K C (.type "object") = some true)
    (he : PySem.W.findIn K (.ref C) "__eq__" = some (some (.ref f))) (hf : PySem.W.isFn K (.ref f) = true)
    (h : wpAny (model prog w) A.in1 (call (.ref f) [.ref x, b]) (fun v s' => ∃ k, v = .bool k ∧ Q (.bool (!k)) s') E s) : wpAny (model prog w) A (call (.builtin "object.__ne__") [.ref x, b]) Q E s := by
  refine PySem.wpAny_call (codeAny_call_builtin (by decide +kernel) PySem.F.cmpEntry_ne (PySem.W.check_slot (i := "object.__ne__") (owner := "object") (n := "__ne__") (by decide +kernel) (by decide +kernel) (I.type.andThen (PySem.W.looks_mroIn X hm)) (PySem.F.cmpArgs_ne _ _) ?_))
  unfold Builtin.«object.__ne__»
  refine wpAny_bind (m := slotArgs "__ne__" 1 _) (wpAny_pure ?_)
  refine wpAny_bind (m := cRoomFor _ _) (wpAny_cRoomFor hu ?_)
  refine wpAny_bind (m := callSpecialIfBound? (.ref x) (Str.ofString "__eq__") [b]) (PySem.W.ifBound_K X I he hf (wpAny_mono h (fun v s' hv => ?_) fun _ _ z => z))
  obtain ⟨k, rfl, hq⟩ := hv
  refine wpAny_bind (m := truthy (.bool k)) (wpAny_truthy_bool ?_)
  exact wpAny_pure hq
/-- x != b, tried on an instance with an own __eq__ -/
theorem try_ne {f : Addr} {b : Value} {Q : Option Value → Shared → Prop} (hu : A.in1.units < cLine) (X : K.In s.heap) (I : PySem.W.InstAt s.heap x ox C od) (hm : PySem.W.mroIn K C (.type "object") = some true)
    (hn : PySem.W.findIn K (.ref C) "__ne__" = some (some (.builtin "object.__ne__"))) (he : PySem.W.findIn K (.ref C) "__eq__" = some (some (.ref f))) (hf : PySem.W.isFn K (.ref f) = true)
    (h : wpAny (model prog w) A.in1 (call (.ref f) [.ref x, b]) (fun v s' => ∃ k, v = .bool k ∧ Q (some (.bool (!k))) s') E s) : wpAny (model prog w) A (tryCompare (.ref x) "__ne__" b) Q E s := by
  unfold tryCompare
  refine wpAny_bind (bound_slot X I hn (fun self => rfl) (obj_ne hu X I hm he hf (wpAny_mono h (fun v s' hv => ?_) fun _ _ z => z)))
  obtain ⟨k, rfl, hq⟩ := hv
  exact ⟨k, rfl, wpAny_pure hq⟩
/-- x != b, x such an instance, b of another type that does not come first -/
theorem rc_ne_left {f : Addr} {b tb : Value} {Q : Value → Shared → Prop} (hu : A.in1.units < cLine) (X : K.In s.heap) (I : PySem.W.InstAt s.heap x ox C od) (hb : PySem.W.Looks (model prog w) s.heap (typeOf b) tb) (ht : PySem.W.notFirst K C tb = true)
    (hm : PySem.W.mroIn K C (.type "object") = some true) (hn : PySem.W.findIn K (.ref C) "__ne__" = some (some (.builtin "object.__ne__"))) (he : PySem.W.findIn K (.ref C) "__eq__" = some (some (.ref f))) (hf : PySem.W.isFn K (.ref f) = true)
    (h : wpAny (model prog w) A.in1 (call (.ref f) [.ref x, b]) (fun v s' => ∃ k, v = .bool k ∧ Q (.bool (!k)) s') E s) : wpAny (model prog w) A (richCompare .NotEq (.ref x) b) Q E s := by
  have u0 : A.units < cLine := Nat.lt_of_succ_lt (show A.units + 1 < cLine from hu)
  have one : wpAny (model prog w) A (tryCompare (.ref x) "__ne__" b) (fun r s' => ∃ v, r = some v ∧ Q v s') E s := try_ne hu X I hm hn he hf (wpAny_mono h (fun v s' hv => by
    obtain ⟨k, rfl, hq⟩ := hv
    exact ⟨k, rfl, _, rfl, hq⟩) fun _ _ z => z)
  unfold richCompare
  simp only [oneThing_ref]
  refine wpAny_holding (wpAny_bind (wpAny_cRoomFor u0 (wpAny_bind (I.type.here (wpAny_bind (hb.here ?_))))))
  split
  · rename_i q
    have e : PySem.W.subIn K tb (.ref C) = some false := (Bool.or_eq_true_iff.mp ht).elim (fun e => absurd q (by rw [beq_iff_eq.mp e]; simp)) fun e => beq_iff_eq.mp e
    refine wpAny_bind ((PySem.W.looks_subIn X e).here ?_)
    simp only [Bool.false_eq_true, if_false]
    refine wpAny_bind (wpAny_mono one (fun r s' z => ?_) fun _ _ z => z)
    obtain ⟨v, rfl, hq⟩ := z
    exact wpAny_pure hq
  · refine wpAny_bind (wpAny_pure ?_)
    simp only [Bool.false_eq_true, if_false]
    refine wpAny_bind (wpAny_mono one (fun r s' z => ?_) fun _ _ z => z)
    obtain ⟨v, rfl, hq⟩ := z
    exact wpAny_pure hq
end

section
variable {X : Cx} {k : Nat} {C : Addr} {ps : List Str} {sp : Sp}
/-- what an own == at the class C wants to be asked -/
structure EqG (P : Program) (w : World) (K : PySem.W.Frag) (mg : Str → Option Value) (base : Heap) (C : Addr) (k : Nat) (sp : Sp) : Prop where
  ex : ∃ f fd, FG P w K mg base CX0 k f fd ["self", "other"] sp ∧ PySem.W.findIn K (.ref C) "__eq__" = some (some (.ref f)) ∧ PySem.W.isFn K (.ref f) = true ∧ Binds K fd ["self", "other"] []
/-- .. and what stands for != -/
structure NeC (K : PySem.W.Frag) (C : Addr) : Prop where
  ne : PySem.W.findIn K (.ref C) "__ne__" = some (some (.builtin "object.__ne__"))
  mro : PySem.W.mroIn K C (.type "object") = some true
def rEqOwn (K : PySem.W.Frag) (C : Addr) (sp : Sp) : R2 := fun x y H Q => ∃ a dx fs tb, x = .ref a ∧ H a = some (.ins C dx fs) ∧ TyX K H y tb ∧ PySem.W.notFirst K C tb = true ∧ sp [x, y] H Q E0
def rNeOwn (K : PySem.W.Frag) (C : Addr) (sp : Sp) : R2 := fun x y H Q => ∃ a dx fs tb, x = .ref a ∧ H a = some (.ins C dx fs) ∧ TyX K H y tb ∧ PySem.W.notFirst K C tb = true ∧ sp [x, y] H (fun v H' => ∃ k, v = .bl k ∧ Q (.bl (!k)) H') E0
theorem noNI {v : V} {u : Value} (r : RelV v u) {Q : Value → Shared → Prop} {s : Shared} (q : Q u s) : PySem.W.CmpBack Q u s := by
  cases v with
  | non => cases r; exact q
  | bl b => cases r; exact q
  | int i => obtain ⟨t, rfl⟩ := r; exact q
  | str i => obtain ⟨t, rfl⟩ := r; exact q
  | byt i => obtain ⟨t, rfl⟩ := r; exact q
  | flt i => obtain ⟨t, rfl⟩ := r; exact q
  | ref a => cases r; exact q
  | ty n => cases r; exact q
theorem op_eqOwn (M : EqG X.prog X.w X.K X.mg X.base C k sp) (gd : X.A.guards = some []) (hr : Room k X.A) : OpR X (compareOp .Eq) (rEqOwn X.K C sp) := by
  intro pins s σ H x y v u Q I rx ry h
  obtain ⟨f, fd, F, he, hf, hb⟩ := M.ex
  obtain ⟨a, dx, fs, tb, rfl, ha, ty, nf, q⟩ := h
  cases rx
  obtain ⟨mA, J, _⟩ := ins_get I.hok ha
  obtain ⟨od, J, _⟩ := J.look
  obtain ⟨P, kit, hP, _⟩ := kit_of I ry ty
  obtain ⟨m, fr⟩ := I.fr
  refine PySem.W.cmp_K (op := .Eq) hr.units0 fr I.mod.kin J (kit.ty _ _ I.kIn hP) nf he hf (PySem.wpAny_call (codeAny_mono (run_g F gd hr pass0 I (us := [.ref a, u]) (vs := [.ref a, y]) (binds_to hb I.kIn rfl) (.cons rfl (.cons ry .nil)) q) fun r s' hq => ?_))
  cases r with
  | error e => exact hq
  | ok fl =>
    cases fl with
    | ret z =>
      obtain ⟨v', H', I', rv, q'⟩ := hq
      exact noNI (Q := EP X pins σ Q) rv ⟨v', H', I', rv, q'⟩
    | next => exact hq
    | brk => exact hq
    | cont => exact hq
theorem in1_guards {A : Around} (h : A.guards = some []) : A.in1.guards = some [] := h
/-- a callee one step below -/
theorem run_in1 {pins : List (Addr × Obj)} {σ : L2.St} {H : Hp} {s : Shared} {Q : VK} {f : Addr} {fd : FuncData} (F : FG X.prog X.w X.K X.mg X.base CX0 k f fd ps sp) (gd : X.A.guards = some []) (hr : Room (k + 1) X.A) (I : Inv X pins σ H s) {args : Args} {us : List Value} {vs : List V}
    (hb : BindsTo s fd args (ps.zip us)) (r : Vals vs us) (h : sp vs H Q E0) : codeAny (model X.prog X.w) X.A.in1 (.call (.ref f) args) (wants (EP X pins σ Q) X.xe) s :=
  codeAny_mono (F.go X.A.in1 gd X.stack s H args us vs Q E0 hr.in1 I.env0.in1 hb r h) fun _ _ hq => back_of pass0 I hq
theorem op_neOwn (M : EqG X.prog X.w X.K X.mg X.base C k sp) (N : NeC X.K C) (gd : X.A.guards = some []) (hr : Room (k + 1) X.A) : OpR X (compareOp .NotEq) (rNeOwn X.K C sp) := by
  intro pins s σ H x y v u Q I rx ry h
  obtain ⟨f, fd, F, he, hf, hb⟩ := M.ex
  obtain ⟨a, dx, fs, tb, rfl, ha, ty, nf, q⟩ := h
  cases rx
  obtain ⟨mA, J, _⟩ := ins_get I.hok ha
  obtain ⟨od, J, _⟩ := J.look
  obtain ⟨P, kit, hP, _⟩ := kit_of I ry ty
  refine rc_ne_left (hr.in1.units0) I.kIn J (kit.ty _ _ I.kIn hP) nf N.mro N.ne he hf (PySem.wpAny_call (codeAny_mono (run_in1 F gd hr I (us := [.ref a, u]) (vs := [.ref a, y]) (binds_to hb I.kIn rfl) (.cons rfl (.cons ry .nil)) q) fun r s' hq => ?_))
  cases r with
  | error e => exact hq
  | ok fl =>
    cases fl with
    | ret z =>
      obtain ⟨v', H', I', rv, k, rfl, q'⟩ := hq
      cases rv
      exact ⟨k, rfl, .bl (!k), H', I', rfl, q'⟩
    | next => exact hq
    | brk => exact hq
    | cont => exact hq
/-- repr(o), o with an own __repr__ that hands back a text -/
structure ReG (P : Program) (w : World) (K : PySem.W.Frag) (mg : Str → Option Value) (base : Heap) (C : Addr) (k : Nat) (sp : Sp) : Prop where
  ex : ∃ f fd, FG P w K mg base CX0 k f fd ["self"] sp ∧ PySem.W.findIn K (.ref C) "__repr__" = some (some (.ref f)) ∧ PySem.W.isFn K (.ref f) = true ∧ Binds K fd ["self"] []
def rReprOwn (C : Addr) (sp : Sp) : List V → Hp → VK → Prop := fun xs H Q => ∃ a dx fs, xs = [.ref a] ∧ H a = some (.ins C dx fs) ∧ sp xs H (fun v H' => ∃ z, v = .str z ∧ Q v H') E0
theorem call_reprOwn (M : ReG X.prog X.w X.K X.mg X.base C k sp) (gd : X.A.guards = some []) (hr : Room (k + 1) X.A) : CallR X (.builtin "repr") (rReprOwn C sp) := by
  intro pins s σ H xs us Q I r h
  obtain ⟨f, fd, F, he, hf, hb⟩ := M.ex
  obtain ⟨a, dx, fs, rfl, ha, q⟩ := h
  obtain rfl := Vals.ref1 r
  obtain ⟨mA, J, _⟩ := ins_get I.hok ha
  obtain ⟨od, J, _⟩ := J.look
  obtain ⟨m, fr⟩ := I.fr
  refine PySem.W.repr_K (hr.in1.units0) fr I.mod.kin J he hf (PySem.wpAny_call (codeAny_mono (run_in1 F gd hr I (us := [.ref a]) (vs := [.ref a]) (binds_to hb I.kIn rfl) (.cons rfl .nil) q) fun r s' hq => ?_))
  cases r with
  | error e => exact hq
  | ok fl =>
    cases fl with
    | ret z =>
      obtain ⟨v', H', I', rv, y, rfl, q'⟩ := hq
      obtain ⟨t, rfl⟩ := rv
      exact ⟨.str y, H', I', ⟨t, rfl⟩, q'⟩
    | next => exact hq
    | brk => exact hq
    | cont => exact hq
end
end G
namespace G
open PySem PySem.Spec PyProof.Rows L2
section
open PySem.Sem (wp)
/-- bool(o), o an instance without __bool__ and __len__ -/
theorem meets_bool_inst {K : PySem.W.Frag} {x C : Addr} {ox : Obj} {od : Option Obj} (h1 : PySem.W.findIn K (.ref C) "__bool__" = some none) (h2 : PySem.W.findIn K (.ref C) "__len__" = some none) :
    Meets (Builtin.«bool.__new__» ⟨[.type "bool", .ref x], []⟩) (fun _ R s => (K.In s.heap ∧ PySem.W.InstAt s.heap x ox C od) ∧ ∀ tk, R (.ok (.ret (.bool true))) { s with toks := tk }) :=
  Meets.of_wp fun prog w A R s hs => by
    obtain ⟨hp, g, d, tk, os⟩ := s
    obtain ⟨⟨hK, hI⟩, hq⟩ := hs
    have hK : K.In hp := hK
    have hI : PySem.W.InstAt hp x ox C od := hI
    have tr : ∀ (tk : Nat) (A' : Around) (E' : Value → Shared → Prop) (Q' : Bool → Shared → Prop), Q' true ⟨hp, g, d, tk, os⟩ → wpAny (model prog w) A' (truthy (.ref x)) Q' E' ⟨hp, g, d, tk, os⟩ := by
      intro tk A' E' Q' q
      unfold truthy
      refine wpAny_bind (m := callSpecial? (.ref x) (Str.ofString "__bool__")) (wpAny_bind (wpAny_bind (hI.type.at ((PySem.W.looks_findIn hK h1).at (wpAny_pure ?_)))))
      refine wpAny_bind (wpAny_bind (hI.type.at ((PySem.W.looks_findIn hK h2).at ?_)))
      exact wpAny_pure q
    have f1 := F.conv_sub_bool
    repeat (any_goals (first | assumption | (with_reducible refine tr _ _ _ _ ?_) | wp_step))
    all_goals first | exact ⟨_, rfl, hq _⟩ | exact hq _ | skip
end
section
variable {X : Cx} {x : Str} {p pos : Pos} {C : Addr}
theorem call_boolI (h1 : PySem.W.findIn X.K (.ref C) "__bool__" = some none) (h2 : PySem.W.findIn X.K (.ref C) "__len__" = some none) :
    CallR X (.type "bool") (fun xs H Q => ∃ a dx fs, xs = [.ref a] ∧ H a = some (.ins C dx fs) ∧ Q (.bl true) H) := by
  intro pins s σ H xs us Q I r h
  obtain ⟨a, dx, fs, rfl, ha, q⟩ := h
  obtain rfl := Vals.ref1 r
  obtain ⟨mA, J, _⟩ := ins_get I.hok ha
  obtain ⟨od, J, _⟩ := J.look
  exact call_bool_1 (meets_bool_inst (ox := _) (od := some od) h1 h2) ⟨⟨I.kIn, J⟩, fun tk => ⟨rfl, .bl true, H, I.tok tk, rfl, q⟩⟩
/-- C() where C has no __init__ of its own -/
structure Mk0 (K : PySem.W.Frag) (mg : Str → Option Value) (x : Str) (C : Addr) : Prop where
  nm : mg x = some (.ref C)
  makes : PySem.W.makesIn K C = true
  init : PySem.W.findIn K (.ref C) "__init__" = some (some (.builtin "object.__init__"))
  top : PySem.W.mroIn K C (.type "object") = some true
  kp : PySem.W.keepIn K (.ref C) = true
def tMk0 (C : Addr) : TE := fun _ H Q => ∀ x dx, H x = none → H dx = none → dx ≠ x → Q (.ref x) (upd (upd H dx (.own x)) x (.ins C dx []))
theorem pe_mk0 (M : Mk0 X.K X.mg x C) (hg : Gl X x) (hdb : (x == ("__debug__" : Str)) = false := by decide) : PE X (.Call (.Name x p) [] [] pos) (tMk0 C) := by
  refine ⟨fun pins s σ H Q I h => wpAny_Call_Name_kw (ld_glob I hg M.nm ?_ hdb)⟩
  refine PySem.W.callWith_K0 I.kIn M.kp ?_
  have q := h (s.heap.objs.size + 1) s.heap.objs.size (I.hok.fresh (Nat.le_succ _)) (I.hok.fresh (Nat.le_refl _)) (Nat.ne_of_lt (Nat.lt_succ_self _))
  have J := Inv.made (C := C) I
  refine PySem.wpAny_call (make_map0 I.kIn M.makes M.init (fun self => PySem.W.Looks.of_pure (PySem.W.oi_bind self)) ?_)
  have kx : X.K.In ((s.heap.push PySem.W.emptyDict).push (PySem.W.instObj C s.heap.objs.size)) := J.kIn
  have hx : ((s.heap.push PySem.W.emptyDict).push (PySem.W.instObj C s.heap.objs.size)).get? (s.heap.objs.size + 1) = some (PySem.W.instObj C s.heap.objs.size) := by
    rw [← Heap.size_push s.heap PySem.W.emptyDict]
    exact Heap.get?_push_size _ rfl
  have t1 : PySem.W.Looks (model X.prog X.w) ((s.heap.push PySem.W.emptyDict).push (PySem.W.instObj C s.heap.objs.size)) (typeOf (.ref (s.heap.objs.size + 1))) (.ref C) := (PySem.W.Looks.ld hx).andThen .now
  refine codeAny_call_builtin PySem.W.oi_plain PySem.W.entry_oi (PySem.W.check_slot (owner := "object") (n := "__init__") PySem.W.oi_kind PySem.W.oi_split (t1.andThen (PySem.W.looks_mroIn kx M.top)) (PySem.W.oi_args _) ?_)
  rw [PySem.W.oi_run]
  exact wpAny_pure ⟨rfl, .ref (s.heap.objs.size + 1), _, J, rfl, q⟩
end
end G
namespace G
open PySem PySem.Spec PyProof.Rows L2
section
variable {X : Cx} {pos : Pos} {k : Nat} {a b : Expr} {ta tb : TE}
theorem pe_eqD (hr : Room k X.A) (ha : PE X a ta) (hb : PE X b tb) : PE X (.Compare a [.Eq] [b] pos) (tOp (rEqD X.K) ta tb) := pe_cmpR (op_eqD hr.units) ha hb (nomark _)
theorem pt_eqD (hr : Room k X.A) (ha : PE X a ta) (hb : PE X b tb) : PT X (.Compare a [.Eq] [b] pos) (tTest (tOp (rEqD X.K) ta tb)) := pt_cmpR (op_eqD hr.units) ha hb (nomark _)
theorem pe_neD (hr : Room k X.A) (ha : PE X a ta) (hb : PE X b tb) : PE X (.Compare a [.NotEq] [b] pos) (tOp (rNeD X.K) ta tb) := pe_cmpR (op_neD hr.units) ha hb (nomark _)
theorem pt_neD (hr : Room k X.A) (ha : PE X a ta) (hb : PE X b tb) : PT X (.Compare a [.NotEq] [b] pos) (tTest (tOp (rNeD X.K) ta tb)) := pt_cmpR (op_neD hr.units) ha hb (nomark _)
theorem pe_eqS (ha : PE X a ta) (hb : PE X b tb) : PE X (.Compare a [.Eq] [b] pos) (tOp rEq ta tb) := pe_cmpR op_eq ha hb (nomark _)
theorem pt_eqS (ha : PE X a ta) (hb : PE X b tb) : PT X (.Compare a [.Eq] [b] pos) (tTest (tOp rEq ta tb)) := pt_cmpR op_eq ha hb (nomark _)
theorem pe_neS (ha : PE X a ta) (hb : PE X b tb) : PE X (.Compare a [.NotEq] [b] pos) (tOp rNe ta tb) := pe_cmpR op_ne ha hb (nomark _)
theorem pt_neS (ha : PE X a ta) (hb : PE X b tb) : PT X (.Compare a [.NotEq] [b] pos) (tTest (tOp rNe ta tb)) := pt_cmpR op_ne ha hb (nomark _)
theorem pe_ixL (K : PySem.W.Frag) (ha : PE X a ta) (hb : PE X b tb) (hs : PlainIx b := by exact fun _ _ => rfl) (hK : X.K = K := by rfl) : PE X (.Subscript a b pos) (tOp (rIxL K) ta tb) := by
  subst hK
  exact pe_ix ix_list ha hb hs
theorem pe_ixT (K : PySem.W.Frag) (ha : PE X a ta) (hb : PE X b tb) (hs : PlainIx b := by exact fun _ _ => rfl) (hK : X.K = K := by rfl) : PE X (.Subscript a b pos) (tOp (rIxT K) ta tb) := by
  subst hK
  exact pe_ix ix_tup ha hb hs
/-- == and != of own instances; K is said, for a comprehension's reading may not hang on its frame -/
theorem pe_eqOwn {K : PySem.W.Frag} {C : Addr} {j : Nat} {sp : Sp} (M : EqG X.prog X.w K X.mg X.base C j sp) (gd : X.A.guards = some []) (hr : Room k X.A) (ha : PE X a ta) (hb : PE X b tb) (hj : j ≤ k := by decide) (hK : X.K = K := by rfl) :
    PE X (.Compare a [.Eq] [b] pos) (tOp (rEqOwn K C sp) ta tb) := by
  subst hK
  exact pe_cmpR (op_eqOwn M gd (hr.mono hj)) ha hb (nomark _)
theorem pt_eqOwn {K : PySem.W.Frag} {C : Addr} {j : Nat} {sp : Sp} (M : EqG X.prog X.w K X.mg X.base C j sp) (gd : X.A.guards = some []) (hr : Room k X.A) (ha : PE X a ta) (hb : PE X b tb) (hj : j ≤ k := by decide) (hK : X.K = K := by rfl) :
    PT X (.Compare a [.Eq] [b] pos) (tTest (tOp (rEqOwn K C sp) ta tb)) := by
  subst hK
  exact pt_cmpR (op_eqOwn M gd (hr.mono hj)) ha hb (nomark _)
theorem pe_neOwn {K : PySem.W.Frag} {C : Addr} {j : Nat} {sp : Sp} (M : EqG X.prog X.w K X.mg X.base C j sp) (N : NeC K C) (gd : X.A.guards = some []) (hr : Room k X.A) (ha : PE X a ta) (hb : PE X b tb) (hj : j + 1 ≤ k := by decide) (hK : X.K = K := by rfl) :
    PE X (.Compare a [.NotEq] [b] pos) (tOp (rNeOwn K C sp) ta tb) := by
  subst hK
  exact pe_cmpR (op_neOwn M N gd (hr.mono hj)) ha hb (nomark _)
theorem pt_neOwn {K : PySem.W.Frag} {C : Addr} {j : Nat} {sp : Sp} (M : EqG X.prog X.w K X.mg X.base C j sp) (N : NeC K C) (gd : X.A.guards = some []) (hr : Room k X.A) (ha : PE X a ta) (hb : PE X b tb) (hj : j + 1 ≤ k := by decide) (hK : X.K = K := by rfl) :
    PT X (.Compare a [.NotEq] [b] pos) (tTest (tOp (rNeOwn K C sp) ta tb)) := by
  subst hK
  exact pt_cmpR (op_neOwn M N gd (hr.mono hj)) ha hb (nomark _)
end
end G
namespace G
open PySem PySem.Spec PyProof.Rows L2
section
variable {P : Program} {w : World} {K : PySem.W.Frag} {mg mb : Str → Option Value} {k : Nat} {fa a : Addr} {fd : FuncData} {x : Str} {sp : Sp} {s1 : Shared} {vs : List Value} {ns : List Int} {H : Hp}
/-- what the caller of the law stands on, over a heap H that tracks the script or nothing -/
structure Stand (K : PySem.W.Frag) (mg mb : Str → Option Value) (s1 : Shared) (a : Addr) (vs : List Value) : Prop where
  kin : K.In s1.heap
  glo : s1.heap.Ns mainGlobals mg
  blt : s1.heap.Ns builtinsNs mb
  all : ∀ x : Str, x ≠ "__name__" → mb x = bootBuiltins x
  lim : s1.heap.NoLimit
  gen : s1.gens = #[]
  obj : s1.heap.get? a = some { cls := .type "list", data := .seq vs.toArray }
theorem Stand.env (S : Stand K mg mb s1 a vs) (h1 : ∀ b u, H b = some u → b = a) (h2 : ∀ u, H a = some u → K.lookup a = none) (h3 : HOk P w H s1.heap) :
    (K.In (hidT s1.heap H) ∧ (hidT s1.heap H).Ns mainGlobals mg) ∧ Env0 P w K mg (hidT s1.heap H) callerA [] s1 H := by
  have free : ∀ b, (b = a → ∀ u, H a = some u → False) → H b = none := fun b n => by
    cases q : H b with
    | none => rfl
    | some u =>
      obtain rfl := h1 b u q
      exact (n rfl u q).elim
  have ki : K.In (hidT s1.heap H) := fun b o e => hidT_get (S.kin b o e) (free b fun z u q => by
    rw [z, h2 u q] at e
    cases e)
  have maps : ∀ {b : Addr} {m : Str → Option Value}, s1.heap.Ns b m → (hidT s1.heap H).Ns b m := fun {b m} n => by
    obtain ⟨o, es, ep, e, d, r⟩ := n
    refine ⟨o, es, ep, hidT_get e (free b fun z u q => ?_), d, r⟩
    rw [z, S.obj] at e
    obtain rfl := Option.some.inj e
    cases (show Data.seq vs.toArray _ = Data.dict es ep from d)
  have md : Mod K mg (hidT s1.heap H) := ⟨ki, maps S.glo, ⟨mb, maps S.blt, S.all⟩, by
    obtain ⟨mc, q1, q2⟩ := S.lim
    exact ⟨mc, maps q1, q2⟩⟩
  exact ⟨⟨ki, maps S.glo⟩, rfl, md, fun b o e => of_hidT e, Nat.le_of_eq (hidT_size _ _), trivial, (fun b hb => by cases hb), h3, .of_eq S.gen⟩
/-- the end -/
theorem law_end {r : Result} {s2 : Shared} (hO : Only H) (hok : HOk P w H s1.heap) (h : CR CX0 [] P w H s1 (fun v _ => v = .bl true) E0 r s2) :
    r = .ok (.ret (.bool true)) ∧ OldK s1.heap s2.heap ∧ s2.os = s1.os ∧ AllBare s2.gens := by
  match r, h with
  | .ok (.ret u), h =>
    obtain ⟨v, H2, os, bare, un, hok2, rv, (q : v = .bl true)⟩ := h
    subst q
    obtain rfl : u = Value.bool true := rv
    refine ⟨rfl, OldK.of_keep ?_, os, bare⟩
    intro b o e
    rcases hO b with z | ⟨ob, xs, z⟩
    · exact un.keep b o e z (fun z => by cases z) (by simp)
    · have e1 := (hok b _ z).1
      have e2 := (hok2 b _ (un.frzs b ob _ z)).1
      rw [e] at e1
      obtain rfl := Option.some.inj e1
      exact e2
/-- law(script), from its def's promise where no repr is under way -/
theorem law_go (S : Stand K mg mb s1 a vs) (hi : IntsAre vs ns) (hl : ns.length ≤ sizeLine) (hr : Room k callerA)
    (F : ∀ base : Heap, K.In base → base.Ns mainGlobals mg → FG P w K mg base CX0 k fa fd [x] sp) (hb : ∀ (s : Shared) (u : Value), BindsTo s fd ⟨[u], []⟩ [(x, u)])
    (hs : ∀ H : Hp, Only H → SqL K H a (ns.map V.int) → sp [.ref a] H (fun v _ => v = .bl true) E0) :
    codeAny (model P w) callerA (.call (.ref fa) ⟨[.ref a], []⟩) (fun r s2 => r = .ok (.ret (.bool true)) ∧ OldK s1.heap s2.heap ∧ s2.os = s1.os ∧ AllBare s2.gens) s1 := by
  have rv := vals_ints hi
  have ln := hi.length
  have run : ∀ H : Hp, Only H → SqL K H a (ns.map V.int) → HOk P w H s1.heap → (∀ b u, H b = some u → b = a) → (∀ u, H a = some u → K.lookup a = none) →
      codeAny (model P w) callerA (.call (.ref fa) ⟨[.ref a], []⟩) (fun r s2 => r = .ok (.ret (.bool true)) ∧ OldK s1.heap s2.heap ∧ s2.os = s1.os ∧ AllBare s2.gens) s1 := by
    intro H o q hok h1 h2
    obtain ⟨⟨g1, g2⟩, e0⟩ := S.env (P := P) (w := w) h1 h2 hok
    exact codeAny_mono ((F _ g1 g2).go callerA rfl [] s1 H ⟨[.ref a], []⟩ [.ref a] [.ref a] _ _ hr e0 (hb s1 (.ref a)) (.cons rfl .nil) (hs H o q)) fun r s2 h => law_end o hok h
  cases hk : K.lookup a with
  | some o =>
    have e := S.kin a o hk
    rw [S.obj] at e
    obtain rfl := Option.some.inj e
    refine run (fun _ => none) (fun _ => .inl rfl) (.inr ⟨_, vs.toArray, _, hk, rfl, rfl, rfl, ?_, ?_⟩) ?_ ?_ ?_
    · rw [List.size_toArray, ln]
      exact hl
    · simpa using rv
    · intro b u z
      cases (show (none : Option HO) = some u from z)
    · intro b u z
      cases (show (none : Option HO) = some u from z)
    · intro u z
      cases (show (none : Option HO) = some u from z)
  | none =>
    let T : HO := .frz { cls := .type "list", data := .seq vs.toArray } (.lst (ns.map V.int))
    have at_ : ∀ {b : Addr} {u : HO}, (if b = a then some T else none) = some u → b = a ∧ u = T := fun {b u} z => by
      by_cases q : b = a
      · rw [if_pos q] at z
        exact ⟨q, (Option.some.inj z).symm⟩
      · rw [if_neg q] at z
        cases z
    refine run (fun b => if b = a then some T else none) ?_ (.inl (.inr ⟨_, if_pos rfl⟩)) ?_ (fun b u z => (at_ z).1) fun _ _ => hk
    · intro b
      by_cases q : b = a
      · exact .inr ⟨_, _, if_pos q⟩
      · exact .inl (if_neg q)
    · intro b u z
      obtain ⟨rfl, rfl⟩ := at_ z
      exact ⟨S.obj, by rw [List.length_map]; exact hl, vs, _, rv, S.obj⟩
end
/-- the goal that k_head leaves -/
theorem walk_g {l : PySem.W.OpenLaw} {n k : Nat} {q : Program} {loose : List Str} {XP : (Str → Option Value) → Heap → Prop} {YP : World → Heap → Prop} {d : DefRec} {K : Params → PySem.W.Frag} {sp : PySem.W.Frag → Sp} {x : Str}
    (hn : l.most = some n) (hn2 : n ≤ sizeLine) (hdf : d.params.defaults = []) (hr : Room k callerA) (hY : ∀ (w : World) (h : Heap), YP w h → (K w.params).In h)
    (F : ∀ (w : World) (mg : Str → Option Value) (fa : Addr) (h : Heap), (K w.params).In h → h.Ns mainGlobals mg → mg d.name = some (.ref fa) → ∃ fd : FuncData, (∀ (s : Shared) (u : Value), BindsTo s fd ⟨[u], []⟩ [(x, u)]) ∧
      ∀ base : Heap, (K w.params).In base → base.Ns mainGlobals mg → FG l.prog w (K w.params) mg base CX0 k fa fd [x] (sp (K w.params)))
    (hsp : ∀ (K : PySem.W.Frag) (H : Hp) (a : Addr) (ns : List Int), ns.length ≤ n → SqL K H a (ns.map V.int) → sp K [.ref a] H (fun v _ => v = .bl true) E0) :
    PySem.W.WalkO q loose XP YP l.row.toRowW d [] (fun f vs => PySem.call f vs) := by
  refine Att.attach_call hn hdf ?_
  intro w s0 s1 mg mb fa o pm cd doc a vs ns Gr Y _ _ _ hmg hobj hi hlen hg
  have kx := hY w _ Y
  obtain ⟨fd, hb, hF⟩ := F w mg fa _ kx Gr.T.g hmg
  exact law_go ⟨kx, Gr.T.g, Gr.T.b, Gr.T.builtins, Gr.T.nolimit, hg, hobj⟩ hi (Nat.le_trans hlen hn2) hr hF hb fun H _ q => hsp _ H a ns hlen q
/-! ### isinstance facts, from what the written part answers -/
theorem kit_self {K : PySem.W.Frag} {t : Value} (h : (t == t) = true) : PySem.W.kitOne K t t = some true := by
  unfold PySem.W.kitOne
  rw [if_pos h]
theorem kit_ref {K : PySem.W.Frag} {t : Value} {C : Addr} {b : Bool} (h1 : PySem.W.isClsIn K C = true) (h2 : PySem.W.typeIn K (.ref C) = some (.type "type")) (ne : (t == Value.ref C) = false) (h : PySem.W.subIn K t (.ref C) = some b) :
    PySem.W.kitOne K t (.ref C) = some b := by
  have e : PySem.W.kitOne K t (.ref C) = if ((PySem.W.clsIn K C).isSome && PySem.W.typeIn K (.ref C) == some (.type "type")) = true then PySem.W.subIn K t (.ref C) else none := by
    unfold PySem.W.kitOne
    rw [ne]
    rfl
  have h1' : (PySem.W.clsIn K C).isSome = true := h1
  rw [e, h1', h2, h, if_pos (by decide)]
theorem ref_ne {C D : Addr} (h : D ≠ C) : (Value.ref D == Value.ref C) = false := by
  cases e : (Value.ref D == Value.ref C) with
  | false => rfl
  | true => exact absurd (Value.ref.inj (beq_iff_eq.mp e)) h
end G
namespace L2
open PySem PySem.Spec PyProof.Rows PySem.W PySem.Builtin
/-- the binary digits, as a text -/
def dgZ (n : Nat) : List Nat := (Nat.toDigits 2 n).map fun (c : Char) => c.toNat
def binZ (n : Nat) : Str := ⟨(dgZ n).toArray⟩
def dsE (n : Nat) : List Nat := if (dgZ n).isEmpty then [] else List.replicate ((0 : Int).toNat - (dgZ n).length) 48 ++ dgZ n
def binE (n : Nat) : Str := ⟨(List.replicate ((-1 : Int) - (((([] : List Nat).length : Nat) : Int) + ((([] : List Nat).length : Nat) : Int) + ((([] : List Nat).length : Nat) : Int)) - (((dsE n).length : Nat) : Int)).toNat 32 ++ [] ++ [] ++ List.replicate 0 32 ++ dsE n ++ [] ++ List.replicate 0 32).toArray⟩
theorem binE_eq (n : Nat) : binE n = binZ n := by
  unfold binE binZ
  have e : ((-1 : Int) - (((([] : List Nat).length : Nat) : Int) + ((([] : List Nat).length : Nat) : Int) + ((([] : List Nat).length : Nat) : Int)) - (((dsE n).length : Nat) : Int)).toNat = 0 := by
    simp only [List.length_nil]
    omega
  have d : dsE n = dgZ n := by
    unfold dsE
    by_cases h : dgZ n = []
    · simp [h]
    · simp [h]
  rw [e, d]
  simp
theorem binZ_meets (n : Nat) (t : Tok) (hl : (binZ n).length ≤ sizeLine) : ∀ u, Meets (Builtin.«int.__format__» ⟨[.int (n : Int) t, .str ⟨#[98]⟩ u], []⟩) (fun _ R s => ∀ t' k, R (.ok (.ret (.str (binZ n) t'))) { s with toks := k }) := by
  intro _
  apply KPc.meets_of
  intro _ _ _ _ _ _ _
  unfold Builtin.«int.__format__»
  refine wpAny_bind (wpAny_of_eq (a := (Value.int (n : Int) t, Value.str ⟨#[98]⟩ _)) rfl ?_)
  refine wpAny_bind (wpAny_of_eq (a := (n : Int)) rfl ?_)
  refine wpAny_ite (KPc.ite_no Bool.false_ne_true ?_)
  refine wpAny_bind (wpAny_typeNameOf (T := "str") (typeIs_str _ _ _) (by decide) fun _ => ?_)
  refine wpAny_bind (wpAny_of_eq (a := some (⟨#[98]⟩ : Str)) rfl ?_)
  refine wpAny_ite (KPc.ite_no (by decide +kernel) ?_)
  refine wpAny_ite (KPc.ite_no (by decide +kernel) ?_)
  refine wpAny_bind (wpAny_typeNameOfCut_int ?_)
  rw [show Float.parseFormatSpec ({ cps := #[98] } : Str).cps.toList "int" 62 = .ok { align := 62, type := some 98 } from rfl]
  refine wpAny_ite (KPc.ite_yes (by decide +kernel) ?_)
  show wpAny _ _ (retStr (binE n)) _ _ _
  refine KXf.ret_text (binE_eq n) (by rw [binE_eq]; exact hl) ?_
  assumption
end L2
namespace L2
open PySem PySem.Spec PyProof.Rows
/-! ### enumerate(text) -/
theorem draws_str {prog : Program} {w : World} {A : Around} (hh : A.handled = none) (it : Addr) (x : Str) (t : Tok) :
    Draws prog w A it [it] x.cps.size (fun i v => ∃ c u, x.cps[i]? = some c ∧ v = .str ⟨#[c]⟩ u) (fun i h => h.IsStrIter it (strIterType x) x t i) := by
  cases ha : x.cps.all (· < 128)
  · have e : strIterType x = "str_iterator" := by simp [strIterType, ha]
    rw [e]
    exact Draws.strWide hh it x t
  · have e : strIterType x = "str_ascii_iterator" := by simp [strIterType, ha]
    rw [e]
    exact Draws.strAscii hh it x t
/-- the signs of a text, each in a new pair -/
def Ites (z : Str) : It :=
  ⟨fun i _ => i < z.length, fun i H v H' => ∃ T c, v = .ref T ∧ H T = none ∧ H' = upd H T (.tup [.int (i : Nat), .str ⟨#[c]⟩]) ∧ z.cps[i]? = some c, fun i _ => z.length ≤ i⟩
theorem turn_enumS {P : Program} {w : World} {K : PySem.W.Frag} {elts : List Expr} {kk : Nat} {tpos : Pos} (z : Str) (t : Tok) (e it : Addr) :
    Turn P w K (.Tuple elts kk tpos) (Ites z) [e, it] e (fun i h => (∃ old, IsEnum h e it ((i : Nat) : Int) old) ∧ h.IsStrIter it (strIterType z) z t i ∧ e ≠ it ∧ i ≤ z.cps.size) where
  mem := by simp
  obj := fun i h st b hb => by
    obtain ⟨⟨old, he⟩, ⟨o, ho, hc, hd⟩, _⟩ := st
    have e' : b = e ∨ b = it := by simpa using hb
    rcases e' with z | z
    · rw [z]; exact ⟨_, he, fun v q => nomatch q⟩
    · rw [z]; exact ⟨o, ho, fun v q => by rw [hd] at q; cases q⟩
  keep := fun i h h' st k => let ⟨⟨old, he⟩, hi, hne⟩ := st; ⟨⟨old, k e (by simp) _ he⟩, (let ⟨o, ho, r⟩ := hi; ⟨o, k it (by simp) o ho, r⟩), hne⟩
  item := by
    intro X hP hw hK hc i pins s σ H E I hf st hg
    subst hP hw hK
    obtain ⟨⟨old, he⟩, hit, hne, hle⟩ := st
    have hg : i < z.cps.size := hg
    have hel : e < s.heap.objs.size := Heap.lt_size he
    have hil : it < s.heap.objs.size := by obtain ⟨_, q, _⟩ := hit; exact Heap.lt_size q
    refine wpAny_pyNext_enum_itemD (draws_str (A := X.A.in1) (I.ok.hd hc) it z t) he hit hg hne (by simpa using hne) fun u h' tk hu ho hit' hT hsz hk => ?_
    obtain ⟨c, u', hc', rfl⟩ := hu
    refine ⟨_, rfl, wpAny_letOwnedTupleGo_enum (s := { s with heap := h', toks := tk + 1 }) ho fun h'' he' sb => ?_⟩
    have hT2 : h''.get? s.heap.objs.size = some { cls := .type "tuple", data := .seq #[.int i tk, .str ⟨#[c]⟩ u'] } := (sb.2 _ (Nat.ne_of_gt hel)).trans hT
    have new : ObjOk X.prog X.w (upd H s.heap.objs.size (.tup [.int (i : Nat), .str ⟨#[c]⟩])) h'' s.heap.objs.size (.tup [.int (i : Nat), .str ⟨#[c]⟩]) :=
      ⟨by show 2 ≤ sizeLine; decide, [.int i tk, .str ⟨#[c]⟩ u'], .cons ⟨_, rfl⟩ (.cons ⟨_, rfl⟩ .nil), ⟨_, hT2, rfl, _, rfl⟩⟩
    have I1 : Inv X pins σ (upd H s.heap.objs.size (.tup [.int (i : Nat), .str ⟨#[c]⟩])) { s with heap := h'', toks := tk + 1 } :=
      I.turnedNew (ch := [e, it]) (fun b ob hb q => (sb.2 b (fun z => hb (by simp [z]))).trans (hk b ob (fun z => hb (by simp [z])) (fun z => hb (by simp [z])) q)) hf (Nat.le_refl _) new
    refine ⟨.ref s.heap.objs.size, _, I1, rfl, ⟨_, c, rfl, I.hok.fresh (Nat.le_refl _), rfl, hc'⟩, ⟨⟨.str ⟨#[c]⟩ u', ?_⟩, (let ⟨o, ho, r⟩ := hit'; ⟨o, (sb.2 it (Ne.symm hne)).trans ho, r⟩), hne, hg⟩, fun b hb => ?_⟩
    · have e1 : ((i + 1 : Nat) : Int) = (i : Int) + 1 := by omega
      rw [e1]; exact he'
    · have hb' : b < s.heap.objs.size := by
        have e' : b = e ∨ b = it := by simpa using hb
        rcases e' with z | z
        · rw [z]; exact hel
        · rw [z]; exact hil
      rw [upd_ne (Nat.ne_of_lt hb')]
      exact (hf b hb).1
  done := by
    intro X hP hw hK hc i pins s σ H E I hf st hg
    subst hP hw hK
    obtain ⟨⟨old, he⟩, hit, hne, hle⟩ := st
    have hg : z.cps.size ≤ i := hg
    obtain ⟨f0, f1, f2, f3, f4, f5⟩ := hf it (by simp)
    have hz : i = z.cps.size := Nat.le_antisymm hle hg
    subst hz
    refine wpAny_pyNext_enum_endD (draws_str (A := X.A.in1) (I.ok.hd hc) it z t) he hit fun h' eb => ⟨rfl, I.turned (t' := s.toks) (fun b o hb q => eb b o hb q) f0 f1 f3 f4 f5⟩
  self := fun A i s Q E st h => let ⟨⟨_, he⟩, _⟩ := st; wpAny_pyIter_enum he h
def iEnumS (ta : TA) : TI := fun σ H R => ta σ H fun vs H1 => ∃ z, vs = [.str z] ∧ R (Ites z) H1
theorem pi_enumS {X : Cx} {e : Expr} {ta : TA} {p pos tpos : Pos} {elts : List Expr} {kk : Nat} (hg : Gl X "enumerate") (hm : X.mg "enumerate" = none) (ha : PA X [e] ta) (hs : starEach [e] X.env = [(false, eval e X.env)] := by rfl) :
    PI X (.Tuple elts kk tpos) (.Call (.Name "enumerate" p) [e] [] pos) (iEnumS ta) := by
  refine ⟨fun pins s σ H R I h => ?_⟩
  refine Call_ (ld_blt I hg hm boot_enumerate (PyProof.Rows.callWith_type1 (thn (ha.run pos pins s σ H _ I h) fun us s1 ⟨vs, H1, I1, r1, q1⟩ => ?_) hs rfl))
  obtain ⟨z, ex, q⟩ := q1
  subst ex
  cases r1 with
  | cons r rr =>
    cases rr
    obtain ⟨t, rfl⟩ := r
    refine call_enumerate_str fun h' he hit hsz hk => wpAny_pyIter_enum he ?_
    have I2 : Inv X pins σ H1 { s1 with heap := h' } := I1.kept (t' := s1.toks) hk
    refine ⟨s1.heap.objs.size + 1, [s1.heap.objs.size + 1, s1.heap.objs.size], _, _, H1, rfl, I2, turn_enumS z t (s1.heap.objs.size + 1) s1.heap.objs.size, ⟨⟨.none, he⟩, hit, Nat.succ_ne_self _, Nat.zero_le _⟩, fun b hb => ?_, q⟩
    have e' : b = s1.heap.objs.size + 1 ∨ b = s1.heap.objs.size := by simpa using hb
    have hle : s1.heap.objs.size ≤ b := by
      rcases e' with z | z
      · rw [z]; exact Nat.le_add_right _ _
      · rw [z]; exact Nat.le_refl _
    exact I1.fpOk hle (I1.hok.fresh hle)
end L2
namespace L2
open PySem PySem.Spec PyProof.Rows
/-! ### text[::-1] -/
def revZ (z : Str) : Str := ⟨z.cps.toList.reverse.toArray⟩
theorem revZ_by (z : Str) (u : Tok) : Txt.sliceBy z none none (-1, u) = revZ z := by
  have h := step_rev_list z u
  generalize Txt.sliceBy z none none (-1, u) = y at h
  obtain ⟨⟨l⟩⟩ := y
  have hl : l = (List.range z.length).map fun k => z.cps.getD (z.length - 1 - k) 0 := h
  unfold revZ
  congr 2
  rw [hl]
  apply List.ext_getElem
  · simp [Str.length]
  · intro i h1 h2
    simp only [List.length_map, List.length_range] at h1
    have : z.length = z.cps.size := rfl
    simp [Str.length, Array.getD]
    rw [dif_pos (by omega)]
def tRevS (te : TE) : TE := fun σ H Q => te σ H fun x H1 => ∃ z, x = .str z ∧ z.length ≤ sizeLine ∧ Q (.str (revZ z)) H1
theorem pe_revS {X : Cx} {e : Expr} {te : TE} {k : Nat} {p1 p2 p3 pos : Pos} (he : PE X e te) : PE X (.Subscript e (.Slice none none (some (.UnaryOp .USub (.Constant (.int 1) k p1) p2)) p3) pos) (tRevS te) := by
  refine ⟨fun pins s σ H Q I h => ?_⟩
  refine Subscript_ (thn (he.run pins s σ H _ I h) fun v s1 ⟨x, H1, I1, r1, q1⟩ => ?_)
  obtain ⟨z, ex, hz, q⟩ := q1
  subst ex
  obtain ⟨t, rfl⟩ := r1
  have hst : PO X (some (.UnaryOp .USub (.Constant (.int 1) k p1) p2)) (tPart (tUn (rU fun i => .int (-i)) (tC (.int 1)))) := po_some (pe_un un_neg pe_int)
  refine wpAny_Slice (thn (po_none.run pins s1 σ H1 (fun o H2 => o = none ∧ H2 = H1) I1 ⟨rfl, rfl⟩) fun vl s2 ⟨l, H2, I2, pl, el, e2⟩ => ?_)
  subst el e2
  refine thn (po_none.run pins s2 σ H2 (fun o H3 => o = none ∧ H3 = H2) I2 ⟨rfl, rfl⟩) fun vu s3 ⟨u, H3, I3, pu, eu, e3⟩ => ?_
  subst eu e3
  refine thn (hst.run pins s3 σ H3 (fun o H4 => o = some (-1) ∧ H4 = H3) I3 ⟨1, rfl, -1, rfl, rfl, rfl⟩) fun vs s4 ⟨o, H4, I4, ps, eo, e4⟩ => ?_
  subst eo e4
  have I5 : Inv X pins σ H4 { s4 with heap := s4.heap.push { cls := .type "slice", data := .fields #[vl, vu, vs] } } := I4.kept (t' := s4.toks) fun b ob q => Heap.get?_push_of_some _ q
  obtain ⟨l, rfl, e1⟩ := IsPart.raw pl
  obtain ⟨u, rfl, e2⟩ := IsPart.raw pu
  obtain ⟨st, rfl, e3⟩ := IsPart.raw ps
  obtain rfl : l = none := by cases l <;> simp at e1 ⊢
  obtain rfl : u = none := by cases u <;> simp at e2 ⊢
  cases st with
  | none => simp at e3
  | some st =>
    obtain ⟨j, tk⟩ := st
    obtain rfl : j = -1 := by simpa using e3
    show wpAny (model X.prog X.w) X.A (subscriptTail e (.Slice none none (some (.UnaryOp .USub (.Constant (.int 1) k p1) p2)) p3) (.str z t) (.ref s4.heap.objs.size)) (EP X pins σ Q) X.xe _
    refine tail_any (ops := [.str z t, .ref s4.heap.objs.size]) (typeIs_str _ _ _) F.slot_str_getitem.lookup ?_ (by with_unfolding_all rfl)
    refine wpAny_getItem_str_slice (l := none) (u := none) (st := some (-1, tk)) ⟨_, Heap.get?_push_size _ rfl, rfl, rfl⟩ rfl ?_
    refine post_val_or_str ⟨Nat.le_trans (Txt.sliceBy_le z _ _ (-1, tk) (show (-1 : Int) ≠ 0 by decide)) hz, fun t' c => ?_⟩
    show EP X pins σ Q (.str (Txt.sliceBy z none none (-1, tk)) t') _
    rw [revZ_by]
    exact ⟨.str _, H4, I5.tok _, ⟨_, rfl⟩, q⟩
end L2
namespace L2
open PySem PySem.Spec PyProof.Rows
/-! ### f"{x:b}" -/
def tFmtB (te : TE) : TE := fun σ H Q => te σ H fun x H1 => ∃ n : Nat, x = .int n ∧ (binZ n).length ≤ sizeLine ∧ Q (.str (binZ n)) H1
theorem str_b : (Str.ofString "b") = ⟨#[98]⟩ := by decide +kernel
theorem pe_fmtB {X : Cx} {e sp : Expr} {te : TE} {pos : Pos} (he : PE X e te) (hs : PE X sp (tC (.str (Str.ofString "b")))) : PE X (.FormattedValue e (-1) (some sp) pos) (tFmtB te) := by
  refine ⟨fun pins s σ H Q I h => ?_⟩
  refine wpAny_FormattedValue_spec (thn (he.run pins s σ H _ I h) fun v s1 hv => ?_)
  obtain ⟨x, H1, I1, r1, n, rfl, hl, q⟩ := hv
  obtain ⟨t, rfl⟩ := r1
  refine thn (hs.run pins s1 σ H1 (fun y H2 => y = .str (Str.ofString "b") ∧ H2 = H1) I1 ⟨rfl, rfl⟩) fun r s2 ⟨y, H2, I2, r2, ey, e2⟩ => ?_
  subst ey e2
  obtain ⟨t2, rfl⟩ := r2
  refine ⟨_, t2, rfl, ?_⟩
  exact PySem.W.KXf.field_int (spec' := ⟨#[98]⟩) str_b (by decide) (by decide) (binZ_meets n t hl) fun t' k => ⟨.str _, H2, I2.tok _, ⟨_, rfl⟩, q⟩
end L2
namespace DC
open PySem PySem.Spec PyProof.Rows L2 G
/-! ### data, and how a heap holds it -/
/-- data that nobody changes any more -/
inductive D where
  | non | bl (b : Bool) | int (i : Int) | str (z : Str)
  | lst (xs : List D) | tup (xs : List D)
  | dk (kvs : List (Key × D)) | dt (kvs : List (List Key × D))
  | ins (C : Addr) (fs : List (Str × D))
  /-- the script -/
  | scr (ns : List Int)
mutual
inductive Rp (K : PySem.W.Frag) (F : Hp) : V → D → Prop
  | non : Rp K F .non .non
  | bl (b : Bool) : Rp K F (.bl b) (.bl b)
  | int (i : Int) : Rp K F (.int i) (.int i)
  | str (z : Str) : Rp K F (.str z) (.str z)
  | lst {a : Addr} {vs : List V} {ds : List D} : F a = some (.lst vs) → RpA K F vs ds → Rp K F (.ref a) (.lst ds)
  | scr {a : Addr} {ns : List Int} : SqL K F a (ns.map V.int) → Rp K F (.ref a) (.scr ns)
  | tup {a : Addr} {vs : List V} {ds : List D} : SqT K F a vs → RpA K F vs ds → Rp K F (.ref a) (.tup ds)
  | dk {a : Addr} {kvs : List (Key × V)} {es : List (Key × D)} : F a = some (.dK kvs) → RpK K F kvs es → Rp K F (.ref a) (.dk es)
  | dt {a : Addr} {kvs : List (List Key × V)} {es : List (List Key × D)} : F a = some (.dT kvs) → RpT K F kvs es → Rp K F (.ref a) (.dt es)
  | ins {a C dx : Addr} {fs : List (Str × V)} {es : List (Str × D)} : F a = some (.ins C dx fs) → RpF K F fs es → Rp K F (.ref a) (.ins C es)
inductive RpA (K : PySem.W.Frag) (F : Hp) : List V → List D → Prop
  | nil : RpA K F [] []
  | cons {v : V} {vs : List V} {d : D} {ds : List D} : Rp K F v d → RpA K F vs ds → RpA K F (v :: vs) (d :: ds)
inductive RpK (K : PySem.W.Frag) (F : Hp) : List (Key × V) → List (Key × D) → Prop
  | nil : RpK K F [] []
  | cons {k : Key} {v : V} {vs : List (Key × V)} {d : D} {ds : List (Key × D)} : Rp K F v d → RpK K F vs ds → RpK K F ((k, v) :: vs) ((k, d) :: ds)
inductive RpT (K : PySem.W.Frag) (F : Hp) : List (List Key × V) → List (List Key × D) → Prop
  | nil : RpT K F [] []
  | cons {k : List Key} {v : V} {vs : List (List Key × V)} {d : D} {ds : List (List Key × D)} : Rp K F v d → RpT K F vs ds → RpT K F ((k, v) :: vs) ((k, d) :: ds)
inductive RpF (K : PySem.W.Frag) (F : Hp) : List (Str × V) → List (Str × D) → Prop
  | nil : RpF K F [] []
  | cons {k : Str} {v : V} {vs : List (Str × V)} {d : D} {ds : List (Str × D)} : Rp K F v d → RpF K F vs ds → RpF K F ((k, v) :: vs) ((k, d) :: ds)
end
theorem Same.tupq {K : PySem.W.Frag} {H H' : Hp} {a : Addr} {xs : List V} (e : Same H H') (h : SqT K H a xs) : SqT K H' a xs := by
  rcases h with (h | ⟨o, h⟩) | h
  · exact .inl (.inl (e _ _ h))
  · exact .inl (.inr ⟨o, e _ _ h⟩)
  · exact .inr h
section
variable {K : PySem.W.Frag} {F F' : Hp}
mutual
theorem Rp.mono (s : Same F F') : ∀ (d : D) (v : V), Rp K F v d → Rp K F' v d
  | .non, _, h => by cases h; exact .non
  | .bl _, _, h => by cases h; exact .bl _
  | .int _, _, h => by cases h; exact .int _
  | .str _, _, h => by cases h; exact .str _
  | .lst ds, _, h => by cases h with | lst a b => exact .lst (s _ _ a) (RpA.mono s ds _ b)
  | .scr ns, _, h => by cases h with | scr a => exact .scr (s.seq a)
  | .tup ds, _, h => by cases h with | tup a b => exact .tup (Same.tupq s a) (RpA.mono s ds _ b)
  | .dk ds, _, h => by cases h with | dk a b => exact .dk (s _ _ a) (RpK.mono s ds _ b)
  | .dt ds, _, h => by cases h with | dt a b => exact .dt (s _ _ a) (RpT.mono s ds _ b)
  | .ins C ds, _, h => by cases h with | ins a b => exact .ins (s _ _ a) (RpF.mono s ds _ b)
theorem RpA.mono (s : Same F F') : ∀ (ds : List D) (vs : List V), RpA K F vs ds → RpA K F' vs ds
  | [], _, h => by cases h; exact .nil
  | d :: ds, _, h => by cases h with | cons a b => exact .cons (Rp.mono s d _ a) (RpA.mono s ds _ b)
theorem RpK.mono (s : Same F F') : ∀ (ds : List (Key × D)) (vs : List (Key × V)), RpK K F vs ds → RpK K F' vs ds
  | [], _, h => by cases h; exact .nil
  | (k, d) :: ds, _, h => by cases h with | cons a b => exact .cons (Rp.mono s d _ a) (RpK.mono s ds _ b)
theorem RpT.mono (s : Same F F') : ∀ (ds : List (List Key × D)) (vs : List (List Key × V)), RpT K F vs ds → RpT K F' vs ds
  | [], _, h => by cases h; exact .nil
  | (k, d) :: ds, _, h => by cases h with | cons a b => exact .cons (Rp.mono s d _ a) (RpT.mono s ds _ b)
theorem RpF.mono (s : Same F F') : ∀ (ds : List (Str × D)) (vs : List (Str × V)), RpF K F vs ds → RpF K F' vs ds
  | [], _, h => by cases h; exact .nil
  | (k, d) :: ds, _, h => by cases h with | cons a b => exact .cons (Rp.mono s d _ a) (RpF.mono s ds _ b)
end
theorem RpA.length : ∀ {vs : List V} {ds : List D}, RpA K F vs ds → vs.length = ds.length
  | _, _, .nil => rfl
  | _, _, .cons _ t => by simp [RpA.length t]
theorem RpA.get : ∀ {vs : List V} {ds : List D} {i : Nat} {v : V}, RpA K F vs ds → vs[i]? = some v → ∃ d, ds[i]? = some d ∧ Rp K F v d
  | _, _, _, _, .nil, e => by simp at e
  | _, _, 0, _, .cons r _, e => by simp at e; subst e; exact ⟨_, rfl, r⟩
  | _, _, i + 1, _, .cons _ t, e => by
    obtain ⟨d, h1, h2⟩ := RpA.get (i := i) t (by simpa using e)
    exact ⟨d, by simpa using h1, h2⟩
theorem RpA.getD : ∀ {vs : List V} {ds : List D} {i : Nat} {d : D}, RpA K F vs ds → ds[i]? = some d → ∃ v, vs[i]? = some v ∧ Rp K F v d
  | _, _, _, _, .nil, e => by simp at e
  | _, _, 0, _, .cons r _, e => by simp at e; subst e; exact ⟨_, rfl, r⟩
  | _, _, i + 1, _, .cons _ t, e => by
    obtain ⟨v, h1, h2⟩ := RpA.getD (i := i) t (by simpa using e)
    exact ⟨v, by simpa using h1, h2⟩
theorem RpA.append : ∀ {vs ws : List V} {ds es : List D}, RpA K F vs ds → RpA K F ws es → RpA K F (vs ++ ws) (ds ++ es)
  | _, _, _, _, .nil, s => s
  | _, _, _, _, .cons r t, s => .cons r (RpA.append t s)
theorem RpA.take : ∀ {vs : List V} {ds : List D} (n : Nat), RpA K F vs ds → RpA K F (vs.take n) (ds.take n)
  | _, _, 0, _ => by simpa using .nil
  | _, _, _ + 1, .nil => by simpa using .nil
  | _, _, n + 1, .cons r t => by simpa using .cons r (RpA.take n t)
theorem RpA.drop : ∀ {vs : List V} {ds : List D} (n : Nat), RpA K F vs ds → RpA K F (vs.drop n) (ds.drop n)
  | _, _, 0, r => r
  | _, _, _ + 1, .nil => .nil
  | _, _, n + 1, .cons _ t => RpA.drop n t
theorem RpA.set : ∀ {vs : List V} {ds : List D} {v : V} {d : D} (i : Nat), Rp K F v d → RpA K F vs ds → RpA K F (vs.set i v) (ds.set i d)
  | _, _, _, _, _, _, .nil => .nil
  | _, _, _, _, 0, r, .cons _ t => .cons r t
  | _, _, _, _, i + 1, r, .cons q t => .cons q (RpA.set i r t)
theorem RpA.rev : ∀ {vs : List V} {ds : List D}, RpA K F vs ds → RpA K F vs.reverse ds.reverse
  | _, _, .nil => .nil
  | _, _, .cons r t => by simpa using (RpA.rev t).append (.cons r .nil)
end
/-! ### things of one's own: changed in place, known by one name -/
inductive O where
  | lst (xs : List D) | dk (kvs : List (Key × D)) | dt (kvs : List (List Key × D))
  | ins (C : Addr) (fs : List (Str × Sum D O))
mutual
inductive OwnAt (K : PySem.W.Frag) (F H : Hp) : Addr → O → List Addr → Prop
  | lst {p : Addr} {vs : List V} {xs : List D} : H p = some (.lst vs) → RpA K F vs xs → OwnAt K F H p (.lst xs) [p]
  | dk {p : Addr} {vs : List (Key × V)} {xs : List (Key × D)} : H p = some (.dK vs) → RpK K F vs xs → OwnAt K F H p (.dk xs) [p]
  | dt {p : Addr} {vs : List (List Key × V)} {xs : List (List Key × D)} : H p = some (.dT vs) → RpT K F vs xs → OwnAt K F H p (.dt xs) [p]
  | ins {p C dx : Addr} {fs : List (Str × V)} {es : List (Str × Sum D O)} {l : List Addr} : H p = some (.ins C dx fs) → H dx = some (.own p) → OwnF K F H fs es l → (∀ a ∈ l, a ≠ p ∧ a ≠ dx) → OwnAt K F H p (.ins C es) (p :: dx :: l)
inductive OwnF (K : PySem.W.Frag) (F H : Hp) : List (Str × V) → List (Str × Sum D O) → List Addr → Prop
  | nil : OwnF K F H [] [] []
  | dat {k : Str} {v : V} {d : D} {fs : List (Str × V)} {es : List (Str × Sum D O)} {l : List Addr} : Rp K F v d → OwnF K F H fs es l → OwnF K F H ((k, v) :: fs) ((k, .inl d) :: es) l
  | own {k : Str} {p : Addr} {o : O} {fs : List (Str × V)} {es : List (Str × Sum D O)} {l m : List Addr} : OwnAt K F H p o m → OwnF K F H fs es l → (∀ a ∈ m, a ∉ l) → OwnF K F H ((k, .ref p) :: fs) ((k, .inr o) :: es) (m ++ l)
end
section
variable {K : PySem.W.Frag} {F F' H H' : Hp}
mutual
theorem OwnAt.mono (s : Same F F') : ∀ {p : Addr} {o : O} {l : List Addr}, OwnAt K F H p o l → (∀ a ∈ l, ∀ u, H a = some u → H' a = some u) → OwnAt K F' H' p o l
  | _, _, _, .lst a b, h => .lst (h _ (by simp) _ a) (RpA.mono s _ _ b)
  | _, _, _, .dk a b, h => .dk (h _ (by simp) _ a) (RpK.mono s _ _ b)
  | _, _, _, .dt a b, h => .dt (h _ (by simp) _ a) (RpT.mono s _ _ b)
  | _, _, _, .ins a b c n, h => .ins (h _ (by simp) _ a) (h _ (by simp) _ b) (OwnF.mono s c fun x hx => h x (by simp [hx])) n
theorem OwnF.mono (s : Same F F') : ∀ {fs : List (Str × V)} {es : List (Str × Sum D O)} {l : List Addr}, OwnF K F H fs es l → (∀ a ∈ l, ∀ u, H a = some u → H' a = some u) → OwnF K F' H' fs es l
  | _, _, _, .nil, _ => .nil
  | _, _, _, .dat r t, h => .dat (Rp.mono s _ _ r) (OwnF.mono s t h)
  | _, _, _, .own o t n, h => .own (OwnAt.mono s o fun x hx => h x (by simp [hx])) (OwnF.mono s t fun x hx => h x (by simp [hx])) n
end
mutual
theorem OwnAt.has : ∀ {p : Addr} {o : O} {l : List Addr}, OwnAt K F H p o l → ∀ a ∈ l, H a ≠ none
  | _, _, _, .lst a b, x, hx => by simp at hx; subst hx; rw [a]; simp
  | _, _, _, .dk a b, x, hx => by simp at hx; subst hx; rw [a]; simp
  | _, _, _, .dt a b, x, hx => by simp at hx; subst hx; rw [a]; simp
  | _, _, _, .ins a b c n, x, hx => by
    simp at hx
    rcases hx with rfl | rfl | hx
    · rw [a]; simp
    · rw [b]; simp
    · exact OwnF.has c x hx
theorem OwnF.has : ∀ {fs : List (Str × V)} {es : List (Str × Sum D O)} {l : List Addr}, OwnF K F H fs es l → ∀ a ∈ l, H a ≠ none
  | _, _, _, .nil, x, hx => by simp at hx
  | _, _, _, .dat r t, x, hx => OwnF.has t x hx
  | _, _, _, .own o t n, x, hx => (List.mem_append.mp hx).elim (fun h => OwnAt.has o x h) fun h => OwnF.has t x h
end
theorem OwnAt.self {p : Addr} {o : O} {l : List Addr} (h : OwnAt K F H p o l) : p ∈ l := by cases h <;> simp
end
/-- a place of a def: unset, data, a thing of one's own (b: it is the caller's) -/
inductive Sl where
  | un | dat (d : D) | own (b : Bool) (o : O)
/-- where one stands: the frozen heap, the addresses of one's own things by slot, the places, the slots, the heap -/
structure S where
  F : Hp
  fp : Nat → List Addr
  ρ : List Sl
  σ : L2.St
  H : Hp
def Ow (s : S) (a : Addr) : Prop := ∃ (i : Nat) (b : Bool) (o : O), s.ρ[i]? = some (Sl.own b o) ∧ a ∈ s.fp i
def Lo (s : S) (a : Addr) : Prop := ∃ (i : Nat) (o : O), s.ρ[i]? = some (Sl.own false o) ∧ a ∈ s.fp i
structure Ok (K : PySem.W.Frag) (s : S) : Prop where
  len : s.σ.length = s.ρ.length
  sub : Same s.F s.H
  un : ∀ (i : Nat), s.ρ[i]? = some Sl.un → s.σ[i]? = some none
  dat : ∀ (i : Nat) (d : D), s.ρ[i]? = some (Sl.dat d) → ∃ v, s.σ[i]? = some (some v) ∧ Rp K s.F v d
  own : ∀ (i : Nat) (b : Bool) (o : O), s.ρ[i]? = some (Sl.own b o) → ∃ p, s.σ[i]? = some (some (V.ref p)) ∧ OwnAt K s.F s.H p o (s.fp i) ∧ ∀ a ∈ s.fp i, s.F a = none
  sep : ∀ (i j : Nat) (b b' : Bool) (o o' : O), i ≠ j → s.ρ[i]? = some (Sl.own b o) → s.ρ[j]? = some (Sl.own b' o') → ∀ a ∈ s.fp i, a ∉ s.fp j
/-- from one stand to a later one -/
structure Tr (s s' : S) : Prop where
  ff : Same s.F s'.F
  st : ∀ a u, s.H a = some u → ¬ Ow s a → s'.H a = some u
  hs : ∀ a, s.H a ≠ none → s'.H a ≠ none
  nw : ∀ a, Ow s' a → s.H a = none ∨ Ow s a
  lo : ∀ a, Lo s' a → s.H a = none ∨ Lo s a
  fn : ∀ a u, s'.F a = some u → s.F a = some u ∨ s.H a = none ∨ Lo s a
  pr : ∀ (i : Nat) (o : O), s.ρ[i]? = some (Sl.own true o) → s'.σ[i]? = s.σ[i]? ∧ (∃ o', s'.ρ[i]? = some (Sl.own true o')) ∧ ∀ a ∈ s'.fp i, a ∈ s.fp i ∨ s.H a = none
  pb : ∀ (i : Nat) (o : O), s'.ρ[i]? = some (Sl.own true o) → ∃ o', s.ρ[i]? = some (Sl.own true o')
theorem none_of_hs {H H' : Hp} (h : ∀ a, H a ≠ none → H' a ≠ none) {a : Addr} (e : H' a = none) : H a = none := by
  cases q : H a with
  | none => rfl
  | some u => exact absurd e (h a (by rw [q]; simp))
theorem Tr.trans {s s1 s2 : S} (a : Tr s s1) (b : Tr s1 s2) : Tr s s2 where
  ff := a.ff.trans b.ff
  st x u e n := b.st x u (a.st x u e n) fun z => (a.nw x z).elim (fun y => by rw [e] at y; cases y) n
  hs x e := b.hs x (a.hs x e)
  nw x z := (b.nw x z).elim (fun y => .inl (none_of_hs a.hs y)) (a.nw x)
  lo x z := (b.lo x z).elim (fun y => .inl (none_of_hs a.hs y)) (a.lo x)
  fn x u e := by
    rcases b.fn x u e with z | z | z
    · exact a.fn x u z
    · exact .inr (.inl (none_of_hs a.hs z))
    · exact .inr (a.lo x z)
  pr i o e := by
    obtain ⟨h1, ⟨o1, h2⟩, h3⟩ := a.pr i o e
    obtain ⟨g1, g2, g3⟩ := b.pr i o1 h2
    exact ⟨g1.trans h1, g2, fun x hx => (g3 x hx).elim (h3 x) fun y => .inr (none_of_hs a.hs y)⟩
  pb i o e := by
    obtain ⟨o1, h⟩ := b.pb i o e
    exact a.pb i o1 h
theorem Tr.refl (s : S) : Tr s s := ⟨Same.refl _, fun _ _ h _ => h, fun _ h => h, fun _ h => .inr h, fun _ h => .inr h, fun _ _ h => .inl h, fun _ o h => ⟨rfl, ⟨o, h⟩, fun _ h => .inl h⟩, fun _ o h => ⟨o, h⟩⟩
/-- the heap has grown, its frozen part too, by new things alone -/
structure Grow (F H F' H' : Hp) : Prop where
  hh : Same H H'
  ff : Same F F'
  fh : Same F' H'
  nw : ∀ b u, F' b = some u → F b = some u ∨ H b = none
theorem Grow.refl {F H : Hp} (s : Same F H) : Grow F H F H := ⟨Same.refl _, Same.refl _, s, fun _ _ h => .inl h⟩
theorem Grow.trans {F H F1 H1 F2 H2 : Hp} (a : Grow F H F1 H1) (b : Grow F1 H1 F2 H2) : Grow F H F2 H2 :=
  ⟨a.hh.trans b.hh, a.ff.trans b.ff, b.fh, fun x u e => (b.nw x u e).elim (fun h => a.nw x u h) fun h => .inr (a.hh.free h)⟩
theorem Same.news {H : Hp} {p : Addr} {o : HO} (hp : H p = none) : Same H (upd H p o) := fun b u e => by rw [upd_ne (ne_of_none e hp)]; exact e
/-- one new frozen thing -/
theorem Grow.one {F H : Hp} {p : Addr} {o : HO} (s : Same F H) (hp : H p = none) : Grow F H (upd F p o) (upd H p o) := by
  have fpn : F p = none := s.free hp
  refine ⟨Same.news hp, Same.news fpn, fun b u e => ?_, fun b u e => ?_⟩
  · by_cases h : b = p
    · subst h; rw [upd_same] at e ⊢; exact e
    · rw [upd_ne h] at e ⊢; exact s _ _ e
  · by_cases h : b = p
    · subst h; exact .inr hp
    · rw [upd_ne h] at e; exact .inl e
/-- one new thing, not frozen -/
theorem Grow.tmp {F H : Hp} {p : Addr} {o : HO} (s : Same F H) (hp : H p = none) : Grow F H F (upd H p o) := ⟨Same.news hp, Same.refl _, s.trans (Same.news hp), fun b u e => .inl e⟩
theorem set_get {α : Type} {l : List α} {i j : Nat} {x y : α} (h : (l.set i x)[j]? = some y) : (i = j ∧ y = x ∧ i < l.length) ∨ (i ≠ j ∧ l[j]? = some y) := by
  by_cases q : i = j
  · subst q
    have l1 : i < (l.set i x).length := (List.getElem?_eq_some_iff.mp h).1
    have l2 : i < l.length := by simpa using l1
    rw [List.getElem?_set_self l2] at h
    exact .inl ⟨rfl, (Option.some.inj h).symm, l2⟩
  · rw [List.getElem?_set_ne q] at h
    exact .inr ⟨q, h⟩
section
variable {K : PySem.W.Frag} {s : S} {F' H' : Hp}
theorem Ok.has (R : Ok K s) {a : Addr} (h : Ow s a) : s.H a ≠ none := by
  obtain ⟨i, b, o, e, m⟩ := h
  obtain ⟨p, _, h2, _⟩ := R.own i b o e
  exact h2.has a m
theorem Lo.ow {a : Addr} (h : Lo s a) : Ow s a := by
  obtain ⟨i, o, e, m⟩ := h
  exact ⟨i, false, o, e, m⟩
abbrev S.at (s : S) (F' H' : Hp) : S := { s with F := F', H := H' }
theorem Ok.grow (R : Ok K s) (g : Grow s.F s.H F' H') : Ok K (s.at F' H') ∧ Tr s (s.at F' H') := by
  refine ⟨⟨R.len, g.fh, R.un, fun i d e => ?_, fun i b o e => ?_, R.sep⟩, g.ff, fun a u e _ => g.hh _ _ e, fun a e => ?_, fun a h => .inr h, fun a h => .inr h, fun a u e => (g.nw a u e).imp id .inl, fun i o h => ⟨rfl, ⟨o, h⟩, fun _ h => .inl h⟩, fun i o h => ⟨o, h⟩⟩
  · obtain ⟨v, h1, h2⟩ := R.dat i d e
    exact ⟨v, h1, h2.mono g.ff⟩
  · obtain ⟨p, h1, h2, h3⟩ := R.own i b o e
    refine ⟨p, h1, h2.mono g.ff fun a _ u q => g.hh _ _ q, fun a ha => ?_⟩
    show F' a = none
    cases q : F' a with
    | none => rfl
    | some u =>
      rcases g.nw a u q with z | z
      · rw [h3 a ha] at z; cases z
      · exact absurd z (h2.has a ha)
  · show H' a ≠ none
    cases q : s.H a with
    | none => exact absurd q e
    | some u => rw [g.hh _ _ q]; simp
/-- a slot that may be given something else -/
def free (ρ : List Sl) (i : Nat) : Bool := match ρ[i]? with
  | some (Sl.own true _) => false
  | some _ => true
  | none => false
theorem free_lt {ρ : List Sl} {i : Nat} (h : free ρ i = true) : i < ρ.length := by
  unfold free at h
  cases q : ρ[i]? with
  | none => rw [q] at h; cases h
  | some x => exact (List.getElem?_eq_some_iff.mp q).1
theorem free_np {ρ : List Sl} {i : Nat} {o : O} (h : free ρ i = true) : ρ[i]? ≠ some (Sl.own true o) := fun q => by
  unfold free at h
  rw [q] at h
  cases h
/-- a slot is given something -/
theorem Ok.put {i : Nat} {z : Option V} {x : Sl} (R : Ok K s) (hf : free s.ρ i = true) (hs : (x = Sl.un ∧ z = none) ∨ ∃ v d, x = Sl.dat d ∧ z = some v ∧ Rp K s.F v d) :
    Ok K { s with ρ := s.ρ.set i x, σ := s.σ.set i z } ∧ Tr s { s with ρ := s.ρ.set i x, σ := s.σ.set i z } := by
  have li := free_lt hf
  have ls : i < s.σ.length := by rw [R.len]; exact li
  have ow : ∀ j b o, (s.ρ.set i x)[j]? = some (Sl.own b o) → s.ρ[j]? = some (Sl.own b o) ∧ i ≠ j := fun j b o e => by
    rcases set_get e with ⟨_, q, _⟩ | ⟨n, q⟩
    · rcases hs with ⟨rfl, _⟩ | ⟨v, d, rfl, _⟩ <;> cases q
    · exact ⟨q, n⟩
  refine ⟨⟨by simpa using R.len, R.sub, fun j e => ?_, fun j d' e => ?_, fun j b o e => ?_, fun j k b b' o o' n e e' => R.sep j k b b' o o' n (ow _ _ _ e).1 (ow _ _ _ e').1⟩,
    Same.refl _, fun a u e _ => e, fun a e => e, fun a ⟨j, b, o, e, m⟩ => .inr ⟨j, b, o, (ow _ _ _ e).1, m⟩, fun a ⟨j, o, e, m⟩ => .inr ⟨j, o, (ow _ _ _ e).1, m⟩, fun a u e => .inl e, fun j o e => ?_, fun j o e => ⟨o, (ow _ _ _ e).1⟩⟩
  · rcases set_get e with ⟨rfl, q, _⟩ | ⟨n, q⟩
    · rcases hs with ⟨_, rfl⟩ | ⟨v, d, rfl, _⟩
      · exact List.getElem?_set_self ls
      · cases q
    · exact (List.getElem?_set_ne n).trans (R.un j q)
  · rcases set_get e with ⟨rfl, q, _⟩ | ⟨n, q⟩
    · rcases hs with ⟨rfl, _⟩ | ⟨v, d, rfl, rfl, r⟩
      · cases q
      · cases q
        exact ⟨v, List.getElem?_set_self ls, r⟩
    · obtain ⟨v, z1, z2⟩ := R.dat j d' q
      exact ⟨v, (List.getElem?_set_ne n).trans z1, z2⟩
  · obtain ⟨q, n⟩ := ow _ _ _ e
    obtain ⟨p, z1, z2⟩ := R.own j b o q
    exact ⟨p, (List.getElem?_set_ne n).trans z1, z2⟩
  · have n : i ≠ j := fun z => by subst z; exact free_np hf e
    exact ⟨List.getElem?_set_ne n, ⟨o, (List.getElem?_set_ne n).trans e⟩, fun _ h => .inl h⟩
abbrev S.own (s : S) (i : Nat) (p : Addr) (o : O) (l : List Addr) : S := { s with fp := fun j => if j = i then l else s.fp j, ρ := s.ρ.set i (Sl.own false o), σ := s.σ.set i (some (V.ref p)) }
/-- a slot is given a new thing of one's own -/
theorem Ok.mine {i : Nat} {p : Addr} {o : O} {l : List Addr} {s0 : S} (R : Ok K s) (T : Tr s0 s) (hf : free s.ρ i = true) (ho : OwnAt K s.F s.H p o l) (hn : ∀ a ∈ l, s.F a = none ∧ s0.H a = none ∧ ¬ Ow s a) :
    Ok K (s.own i p o l) ∧ Tr s0 (s.own i p o l) := by
  have li := free_lt hf
  have ls : i < s.σ.length := by rw [R.len]; exact li
  have cs : ∀ {j : Nat} {b : Bool} {o' : O}, (s.ρ.set i (Sl.own false o))[j]? = some (Sl.own b o') → (i = j ∧ b = false ∧ o' = o) ∨ (i ≠ j ∧ s.ρ[j]? = some (Sl.own b o')) := fun {j b o'} e => by
    rcases set_get e with ⟨rfl, q, _⟩ | ⟨n, q⟩
    · cases q; exact .inl ⟨rfl, rfl, rfl⟩
    · exact .inr ⟨n, q⟩
  have fe : ∀ {j : Nat}, i ≠ j → (s.own i p o l).fp j = s.fp j := fun {j} n => if_neg fun z => n z.symm
  have fs : (s.own i p o l).fp i = l := if_pos rfl
  refine ⟨⟨by simpa using R.len, R.sub, fun j e => ?_, fun j d' e => ?_, fun j b o' e => ?_, fun j k b b' o1 o2 n e e' => ?_⟩,
    T.ff, T.st, T.hs, fun a ⟨j, b, o1, e, m⟩ => ?_, fun a ⟨j, o1, e, m⟩ => ?_, T.fn, fun j o1 e => ?_, fun j o1 e => ?_⟩
  · rcases set_get e with ⟨rfl, q, _⟩ | ⟨n, q⟩
    · cases q
    · exact (List.getElem?_set_ne n).trans (R.un j q)
  · rcases set_get e with ⟨rfl, q, _⟩ | ⟨n, q⟩
    · cases q
    · obtain ⟨v, z1, z2⟩ := R.dat j d' q
      exact ⟨v, (List.getElem?_set_ne n).trans z1, z2⟩
  · rcases cs e with ⟨rfl, rfl, rfl⟩ | ⟨n, q⟩
    · rw [fs]
      exact ⟨p, List.getElem?_set_self ls, ho, fun a ha => (hn a ha).1⟩
    · rw [fe n]
      obtain ⟨p', z1, z2⟩ := R.own j b o' q
      exact ⟨p', (List.getElem?_set_ne n).trans z1, z2⟩
  · rcases cs e with ⟨rfl, rfl, rfl⟩ | ⟨m, q⟩
    · rcases cs e' with ⟨rfl, _, _⟩ | ⟨m', q'⟩
      · exact absurd rfl n
      · rw [fs, fe m']
        exact fun a ha z => (hn a ha).2.2 ⟨k, b', o2, q', z⟩
    · rcases cs e' with ⟨rfl, rfl, rfl⟩ | ⟨m', q'⟩
      · rw [fs, fe m]
        exact fun a ha z => (hn a z).2.2 ⟨j, b, o1, q, ha⟩
      · rw [fe m, fe m']
        exact R.sep j k b b' o1 o2 n q q'
  · rcases cs e with ⟨rfl, rfl, rfl⟩ | ⟨n, q⟩
    · rw [fs] at m; exact .inl (hn a m).2.1
    · rw [fe n] at m; exact T.nw a ⟨j, b, o1, q, m⟩
  · rcases cs e with ⟨rfl, _, rfl⟩ | ⟨n, q⟩
    · rw [fs] at m; exact .inl (hn a m).2.1
    · rw [fe n] at m; exact T.lo a ⟨j, o1, q, m⟩
  · obtain ⟨h1, ⟨o2, h2⟩, h3⟩ := T.pr j o1 e
    have n : i ≠ j := fun z => by subst z; exact free_np hf h2
    refine ⟨(List.getElem?_set_ne n).trans h1, ⟨o2, (List.getElem?_set_ne n).trans h2⟩, ?_⟩
    rw [fe n]
    exact h3
  · rcases cs e with ⟨_, z, _⟩ | ⟨n, q⟩
    · cases z
    · exact T.pb j o1 q
abbrev S.chg (s : S) (i : Nat) (b : Bool) (o : O) (l : List Addr) (H' : Hp) : S := { s with fp := fun j => if j = i then l else s.fp j, ρ := s.ρ.set i (Sl.own b o), H := H' }
/-- a thing of one's own is changed in place -/
theorem Ok.chg {i : Nat} {p : Addr} {b : Bool} {o o' : O} {l : List Addr} {H' : Hp} (R : Ok K s) (e : s.ρ[i]? = some (Sl.own b o)) (hp : s.σ[i]? = some (some (V.ref p))) (ho : OwnAt K s.F H' p o' l)
    (hl : ∀ a ∈ l, a ∈ s.fp i ∨ s.H a = none) (hk : ∀ a u, a ∉ s.fp i → s.H a = some u → H' a = some u) (hs : ∀ a, s.H a ≠ none → H' a ≠ none) :
    Ok K (s.chg i b o' l H') ∧ Tr s (s.chg i b o' l H') := by
  have li : i < s.ρ.length := (List.getElem?_eq_some_iff.mp e).1
  obtain ⟨p0, e0, o0, n0⟩ := R.own i b o e
  have fz : ∀ a u, s.F a = some u → a ∉ s.fp i := fun a u q z => by rw [n0 a z] at q; cases q
  have cs : ∀ {j : Nat} {b1 : Bool} {o1 : O}, (s.ρ.set i (Sl.own b o'))[j]? = some (Sl.own b1 o1) → (i = j ∧ b1 = b ∧ o1 = o') ∨ (i ≠ j ∧ s.ρ[j]? = some (Sl.own b1 o1)) := fun {j b1 o1} e => by
    rcases set_get e with ⟨rfl, q, _⟩ | ⟨n, q⟩
    · cases q; exact .inl ⟨rfl, rfl, rfl⟩
    · exact .inr ⟨n, q⟩
  have fe : ∀ {j : Nat}, i ≠ j → (s.chg i b o' l H').fp j = s.fp j := fun {j} n => if_neg fun z => n z.symm
  have fs : (s.chg i b o' l H').fp i = l := if_pos rfl
  have key : ∀ j b1 o1, s.ρ[j]? = some (Sl.own b1 o1) → i ≠ j → ∀ a ∈ l, a ∉ s.fp j := fun j b1 o1 q n a ha z => by
    rcases hl a ha with y | y
    · exact R.sep i j b b1 o o1 n e q a y z
    · exact R.has ⟨j, b1, o1, q, z⟩ y
  refine ⟨⟨by simpa using R.len, fun a u q => hk a u (fz a u q) (R.sub _ _ q), fun j e1 => ?_, fun j d' e1 => ?_, fun j b1 o1 e1 => ?_, fun j k b1 b2 o1 o2 n e1 e2 => ?_⟩,
    Same.refl _, fun a u q n => hk a u (fun z => n ⟨i, b, o, e, z⟩) q, hs, fun a ⟨j, b1, o1, e1, m⟩ => ?_, fun a ⟨j, o1, e1, m⟩ => ?_, fun a u q => .inl q, fun j o1 e1 => ?_, fun j o1 e1 => ?_⟩
  · rcases set_get e1 with ⟨rfl, q, _⟩ | ⟨n, q⟩
    · cases q
    · exact R.un j q
  · rcases set_get e1 with ⟨rfl, q, _⟩ | ⟨n, q⟩
    · cases q
    · exact R.dat j d' q
  · rcases cs e1 with ⟨rfl, rfl, rfl⟩ | ⟨n, q⟩
    · rw [fs]
      refine ⟨p, hp, ho, fun a ha => ?_⟩
      rcases hl a ha with z | z
      · exact n0 a z
      · exact R.sub.free z
    · rw [fe n]
      obtain ⟨p2, h1, h2, h3⟩ := R.own j b1 o1 q
      exact ⟨p2, h1, h2.mono (Same.refl _) fun a ha u qu => hk a u (R.sep j i b1 b o1 o (fun z => n z.symm) q e a ha) qu, h3⟩
  · rcases cs e1 with ⟨rfl, rfl, rfl⟩ | ⟨m, q⟩
    · rcases cs e2 with ⟨rfl, _, _⟩ | ⟨m', q'⟩
      · exact absurd rfl n
      · rw [fs, fe m']
        exact key _ _ _ q' m'
    · rcases cs e2 with ⟨rfl, rfl, rfl⟩ | ⟨m', q'⟩
      · rw [fs, fe m]
        exact fun a ha h => key _ _ _ q m a h ha
      · rw [fe m, fe m']
        exact R.sep j k b1 b2 o1 o2 n q q'
  · rcases cs e1 with ⟨rfl, rfl, rfl⟩ | ⟨n, q⟩
    · rw [fs] at m
      exact (hl a m).elim (fun z => .inr ⟨i, b1, o, e, z⟩) .inl
    · rw [fe n] at m; exact .inr ⟨j, b1, o1, q, m⟩
  · rcases cs e1 with ⟨rfl, z, rfl⟩ | ⟨n, q⟩
    · rw [fs] at m
      exact (hl a m).elim (fun y => .inr ⟨i, o, by rw [e, z], y⟩) .inl
    · rw [fe n] at m; exact .inr ⟨j, o1, q, m⟩
  · by_cases n : i = j
    · subst n
      have z : b = true := by
        rw [e] at e1
        cases e1
        rfl
      refine ⟨rfl, ⟨o', by rw [← z]; exact List.getElem?_set_self li⟩, ?_⟩
      rw [fs]
      exact hl
    · refine ⟨rfl, ⟨o1, (List.getElem?_set_ne n).trans e1⟩, ?_⟩
      rw [fe n]
      exact fun _ h => .inl h
  · rcases cs e1 with ⟨rfl, z, rfl⟩ | ⟨n, q⟩
    · exact ⟨o, by rw [e, ← z]⟩
    · exact ⟨o1, q⟩
end
end DC
namespace DC
open PySem PySem.Spec PyProof.Rows L2 G
/-! ### freezing -/
mutual
def O.toD : O → D
  | .lst xs => .lst xs
  | .dk kvs => .dk kvs
  | .dt kvs => .dt kvs
  | .ins C fs => .ins C (O.toDs fs)
def O.toDs : List (Str × Sum D O) → List (Str × D)
  | [] => []
  | (k, .inl d) :: r => (k, d) :: O.toDs r
  | (k, .inr o) :: r => (k, O.toD o) :: O.toDs r
end
section
variable {K : PySem.W.Frag} {F F' H H' : Hp}
mutual
theorem OwnAt.froz (s : Same F F') : ∀ {p : Addr} {o : O} {l : List Addr}, OwnAt K F H p o l → (∀ a ∈ l, F' a = H a) → Rp K F' (.ref p) o.toD
  | _, _, _, .lst a b, h => .lst ((h _ (by simp)).trans a) (RpA.mono s _ _ b)
  | _, _, _, .dk a b, h => .dk ((h _ (by simp)).trans a) (RpK.mono s _ _ b)
  | _, _, _, .dt a b, h => .dt ((h _ (by simp)).trans a) (RpT.mono s _ _ b)
  | _, _, _, .ins a b c n, h => .ins ((h _ (by simp)).trans a) (OwnF.froz s c fun x hx => h x (by simp [hx]))
theorem OwnF.froz (s : Same F F') : ∀ {fs : List (Str × V)} {es : List (Str × Sum D O)} {l : List Addr}, OwnF K F H fs es l → (∀ a ∈ l, F' a = H a) → RpF K F' fs (O.toDs es)
  | _, _, _, .nil, _ => .nil
  | _, _, _, .dat r t, h => .cons (Rp.mono s _ _ r) (OwnF.froz s t h)
  | _, _, _, .own o t n, h => .cons (OwnAt.froz s o fun x hx => h x (by simp [hx])) (OwnF.froz s t fun x hx => h x (by simp [hx]))
end
/-- the frozen heap with the things at l, too -/
def frz (F H : Hp) (l : List Addr) : Hp := fun a => if a ∈ l then H a else F a
theorem frz_in {l : List Addr} {a : Addr} (h : a ∈ l) : frz F H l a = H a := if_pos h
theorem frz_out {l : List Addr} {a : Addr} (h : a ∉ l) : frz F H l a = F a := if_neg h
theorem frz_same {l : List Addr} (n : ∀ a ∈ l, F a = none) : Same F (frz F H l) := fun a u e => by
  rw [frz_out (fun z => by rw [n a z] at e; cases e)]
  exact e
theorem frz_sub {l : List Addr} (s : Same F H) : Same (frz F H l) H := fun a u e => by
  by_cases h : a ∈ l
  · rwa [frz_in h] at e
  · rw [frz_out h] at e; exact s _ _ e
abbrev S.ice (s : S) (i : Nat) (o : O) : S := { s with F := frz s.F s.H (s.fp i), ρ := s.ρ.set i (Sl.dat o.toD) }
/-- a slot's own thing becomes data -/
theorem Ok.freeze {s : S} {i : Nat} {o : O} (R : Ok K s) (e : s.ρ[i]? = some (Sl.own false o)) :
    ∃ p, s.σ[i]? = some (some (V.ref p)) ∧ Rp K (s.ice i o).F (.ref p) o.toD ∧ Ok K (s.ice i o) ∧ Tr s (s.ice i o) := by
  obtain ⟨p, h1, h2, h3⟩ := R.own i false o e
  have sm : Same s.F (s.ice i o).F := frz_same h3
  have rp : Rp K (s.ice i o).F (.ref p) o.toD := h2.froz sm fun a ha => frz_in ha
  have ow : ∀ j b o', (s.ice i o).ρ[j]? = some (Sl.own b o') → s.ρ[j]? = some (Sl.own b o') ∧ i ≠ j := fun j b o' e => by
    rcases set_get e with ⟨_, q, _⟩ | ⟨n, q⟩
    · cases q
    · exact ⟨q, n⟩
  refine ⟨p, h1, rp, ⟨by simpa using R.len, frz_sub R.sub, fun j q => ?_, fun j d q => ?_, fun j b o' q => ?_, fun j k b b' o1 o2 n q q' => R.sep j k b b' o1 o2 n (ow _ _ _ q).1 (ow _ _ _ q').1⟩,
    sm, fun a u e _ => e, fun a e => e, fun a ⟨j, b, o, e, m⟩ => .inr ⟨j, b, o, (ow _ _ _ e).1, m⟩, fun a ⟨j, o, e, m⟩ => .inr ⟨j, o, (ow _ _ _ e).1, m⟩, fun a u q => ?_, fun j o1 q => ?_, fun j o1 q => ⟨o1, (ow _ _ _ q).1⟩⟩
  · rcases set_get q with ⟨rfl, q, _⟩ | ⟨n, q⟩
    · cases q
    · exact R.un j q
  · rcases set_get q with ⟨rfl, q, _⟩ | ⟨n, q⟩
    · cases q
      exact ⟨_, h1, rp⟩
    · obtain ⟨v, z1, z2⟩ := R.dat j d q
      exact ⟨v, z1, z2.mono sm⟩
  · obtain ⟨q, n⟩ := ow _ _ _ q
    obtain ⟨p2, z1, z2, z3⟩ := R.own j b o' q
    refine ⟨p2, z1, z2.mono sm fun _ _ _ h => h, fun a ha => ?_⟩
    refine (frz_out (fun z => R.sep i j false b o o' n e q a z ha)).trans (z3 a ha)
  · by_cases h : a ∈ s.fp i
    · exact .inr (.inr ⟨i, o, e, h⟩)
    · exact .inl ((frz_out h).symm.trans q)
  · have n : i ≠ j := fun w => by subst w; rw [e] at q; cases q
    exact ⟨rfl, ⟨o1, (List.getElem?_set_ne n).trans q⟩, fun _ h => .inl h⟩
end
end DC
namespace DC
open PySem PySem.Spec PyProof.Rows L2 G
/-! ### what a piece of a program does, as a function of its places -/
structure Exn where
  C : Addr
  fs : List (Str × D)
inductive Out (α : Type) where
  | ok (a : α) (ρ : List Sl) | ex (x : Exn) (ρ : List Sl) | bad
abbrev M (α : Type) := List Sl → Out α
def Out.bind {α β : Type} (o : Out α) (f : α → M β) : Out β := match o with
  | .ok a ρ => f a ρ
  | .ex x ρ => .ex x ρ
  | .bad => .bad
/-- a value or nothing good -/
def lift {α : Type} (o : Option α) (ρ : List Sl) : Out α := match o with
  | some a => .ok a ρ
  | none => .bad
/-- data, or the name of one's own thing -/
inductive Rf where
  | d (x : D) | sl (i : Nat)
def vw (ρ : List Sl) : Rf → Option D
  | .d x => some x
  | .sl i => match ρ[i]? with
    | some (.own _ o) => some o.toD
    | some (.dat d) => some d
    | _ => none
def vws (ρ : List Sl) : List Rf → Option (List D)
  | [] => some []
  | r :: rs => match vw ρ r, vws ρ rs with
    | some d, some ds => some (d :: ds)
    | _, _ => none
def ExR (K : PySem.W.Frag) (F : Hp) (x : Exn) (cls : Value) (d : Option Addr) (H : Hp) : Prop :=
  cls = .ref x.C ∧ ((x.fs = [] ∧ d = none) ∨ ∃ dd fs, d = some dd ∧ H dd = some (.xd fs) ∧ RpF K F fs x.fs)
abbrev S.to (s : S) (F' : Hp) (fp' : Nat → List Addr) (ρ' : List Sl) (H' : Hp) : S := ⟨F', fp', ρ', s.σ, H'⟩
def Post {α β : Type} (E : XK) (K : PySem.W.Frag) (R : S → S → β → α → Prop) (s : S) (o : Out α) (Q : β → Hp → Prop) : Prop := match o with
  | .ok a ρ' => ∀ (b : β) F' fp' H', Ok K (s.to F' fp' ρ' H') → Tr s (s.to F' fp' ρ' H') → R s (s.to F' fp' ρ' H') b a → Q b H'
  | .ex x ρ' => ∀ cls d F' fp' H', Ok K (s.to F' fp' ρ' H') → Tr s (s.to F' fp' ρ' H') → ExR K F' x cls d H' → E cls d H'
  | .bad => False
def Shift {α β : Type} (R : S → S → β → α → Prop) : Prop := ∀ s s' s'' b a, Tr s s' → s'.σ = s.σ → R s' s'' b a → R s s'' b a
section
variable {E : XK} {K : PySem.W.Frag} {α β γ δ : Type} {R : S → S → β → α → Prop} {R2 : S → S → δ → γ → Prop} {s s' : S}
theorem Post.shift {o : Out γ} {Q : δ → Hp → Prop} (h : Post E K R2 s o Q) (sh : Shift R2) (T : Tr s s') (e : s'.σ = s.σ) : Post E K R2 s' o Q := by
  have sto : ∀ F' fp' ρ' H', s.to F' fp' ρ' H' = s'.to F' fp' ρ' H' := fun _ _ _ _ => by simp [S.to, e]
  cases o with
  | ok a ρ' =>
    intro b F' fp' H' ok t r
    have z := h b F' fp' H'
    rw [sto] at z
    exact z ok (T.trans t) (sh _ _ _ _ _ T e r)
  | ex x ρ' =>
    intro cls d F' fp' H' ok t r
    have z := h cls d F' fp' H'
    rw [sto] at z
    exact z ok (T.trans t) r
  | bad => exact h
/-- one after another -/
theorem Post.bind {o : Out α} {f : α → M γ} {Q : δ → Hp → Prop} {Q1 : β → Hp → Prop} (h : Post E K R2 s (o.bind f) Q) (sh : Shift R2)
    (mid : ∀ a ρ' b F' fp' H', Ok K (s.to F' fp' ρ' H') → Tr s (s.to F' fp' ρ' H') → R s (s.to F' fp' ρ' H') b a → Post E K R2 (s.to F' fp' ρ' H') (f a ρ') Q → Q1 b H') : Post E K R s o Q1 := by
  cases o with
  | ok a ρ' => exact fun b F' fp' H' ok t r => mid a ρ' b F' fp' H' ok t r (h.shift sh t rfl)
  | ex x ρ' => exact h
  | bad => exact h
end
/-! the relations of results -/
def RfR (K : PySem.W.Frag) (F : Hp) (σ : L2.St) (v : V) : Rf → Prop
  | .d x => Rp K F v x
  | .sl i => σ[i]? = some (some v)
def RV (K : PySem.W.Frag) : S → S → V → Rf → Prop := fun _ s v r => RfR K s.F s.σ v r
def RD (K : PySem.W.Frag) : S → S → V → D → Prop := fun _ s v d => Rp K s.F v d
def RB : S → S → Bool → Bool → Prop := fun _ _ b c => b = c
inductive RfRs (K : PySem.W.Frag) (F : Hp) (σ : L2.St) : List V → List Rf → Prop
  | nil : RfRs K F σ [] []
  | cons {v : V} {vs : List V} {r : Rf} {rs : List Rf} : RfR K F σ v r → RfRs K F σ vs rs → RfRs K F σ (v :: vs) (r :: rs)
def RL (K : PySem.W.Frag) : S → S → List V → List Rf → Prop := fun _ s vs rs => RfRs K s.F s.σ vs rs
def RO (K : PySem.W.Frag) : S → S → V → O → Prop := fun s s' v o => ∃ p l, v = .ref p ∧ OwnAt K s'.F s'.H p o l ∧ ∀ a ∈ l, s'.F a = none ∧ s.H a = none ∧ ¬ Ow s' a
theorem shV {K : PySem.W.Frag} : Shift (RV K) := fun _ _ _ _ _ _ _ h => h
theorem shD {K : PySem.W.Frag} : Shift (RD K) := fun _ _ _ _ _ _ _ h => h
theorem shB : Shift RB := fun _ _ _ _ _ _ _ h => h
theorem shL {K : PySem.W.Frag} : Shift (RL K) := fun _ _ _ _ _ _ _ h => h
theorem shO {K : PySem.W.Frag} : Shift (RO K) := fun _ _ _ _ _ T _ ⟨p, l, e, h, n⟩ => ⟨p, l, e, h, fun a ha => ⟨(n a ha).1, none_of_hs T.hs (n a ha).2.1, (n a ha).2.2⟩⟩
section
variable {K : PySem.W.Frag} {F F' : Hp} {σ : L2.St} {v : V} {r : Rf}
theorem RfR.mono (s : Same F F') (h : RfR K F σ v r) : RfR K F' σ v r := by
  cases r with
  | d x => exact Rp.mono s _ _ h
  | sl i => exact h
end
/-- the data that a value is at a heap -/
def Vw (K : PySem.W.Frag) (F H : Hp) (v : V) (d : D) : Prop := Rp K F v d ∨ ∃ p o l, v = .ref p ∧ d = o.toD ∧ OwnAt K F H p o l
theorem Ok.vw {K : PySem.W.Frag} {s : S} {v : V} {r : Rf} {d : D} (R : Ok K s) (h : RfR K s.F s.σ v r) (e : vw s.ρ r = some d) : Vw K s.F s.H v d := by
  cases r with
  | d x => cases e; exact .inl h
  | sl i =>
    have h' : s.σ[i]? = some (some v) := h
    simp only [DC.vw] at e
    split at e
    · rename_i b o q
      cases e
      obtain ⟨p, h1, h2, _⟩ := R.own i b o q
      rw [h1] at h'
      cases h'
      exact .inr ⟨p, o, _, rfl, rfl, h2⟩
    · rename_i x q
      cases e
      obtain ⟨w, h1, h2⟩ := R.dat i _ q
      rw [h1] at h'
      cases h'
      exact .inl h2
    · cases e
section
variable {K : PySem.W.Frag} {F H : Hp} {v : V}
theorem O.toD_ref (o : O) : (∃ xs, o = .lst xs ∧ o.toD = .lst xs) ∨ (∃ kvs, o = .dk kvs ∧ o.toD = .dk kvs) ∨ (∃ kvs, o = .dt kvs ∧ o.toD = .dt kvs) ∨ ∃ C fs, o = .ins C fs ∧ o.toD = .ins C (O.toDs fs) := by
  cases o with
  | lst xs => exact .inl ⟨xs, rfl, by simp [O.toD]⟩
  | dk xs => exact .inr (.inl ⟨xs, rfl, by simp [O.toD]⟩)
  | dt xs => exact .inr (.inr (.inl ⟨xs, rfl, by simp [O.toD]⟩))
  | ins C fs => exact .inr (.inr (.inr ⟨C, fs, rfl, by simp [O.toD]⟩))
theorem Vw.flat {d : D} (h : Vw K F H v d) (n1 : ∀ xs, d ≠ .lst xs) (n2 : ∀ xs, d ≠ .dk xs) (n3 : ∀ xs, d ≠ .dt xs) (n4 : ∀ C fs, d ≠ .ins C fs) : Rp K F v d := by
  rcases h with h | ⟨p, o, l, rfl, rfl, h⟩
  · exact h
  · rcases o.toD_ref with ⟨xs, _, e⟩ | ⟨xs, _, e⟩ | ⟨xs, _, e⟩ | ⟨C, fs, _, e⟩
    · exact absurd e (n1 xs)
    · exact absurd e (n2 xs)
    · exact absurd e (n3 xs)
    · exact absurd e (n4 C _)
theorem Vw.int {i : Int} (h : Vw K F H v (.int i)) : v = .int i := by
  cases h.flat (fun _ z => by cases z) (fun _ z => by cases z) (fun _ z => by cases z) (fun _ _ z => by cases z); rfl
theorem Vw.bl {b : Bool} (h : Vw K F H v (.bl b)) : v = .bl b := by
  cases h.flat (fun _ z => by cases z) (fun _ z => by cases z) (fun _ z => by cases z) (fun _ _ z => by cases z); rfl
theorem Vw.str {z : Str} (h : Vw K F H v (.str z)) : v = .str z := by
  cases h.flat (fun _ z => by cases z) (fun _ z => by cases z) (fun _ z => by cases z) (fun _ _ z => by cases z); rfl
theorem Vw.non (h : Vw K F H v .non) : v = .non := by
  cases h.flat (fun _ z => by cases z) (fun _ z => by cases z) (fun _ z => by cases z) (fun _ _ z => by cases z); rfl
theorem Vw.tup {ds : List D} (s : Same F H) (h : Vw K F H v (.tup ds)) : ∃ a vs, v = .ref a ∧ SqT K H a vs ∧ RpA K F vs ds := by
  cases h.flat (fun _ z => by cases z) (fun _ z => by cases z) (fun _ z => by cases z) (fun _ _ z => by cases z) with
  | tup a b => exact ⟨_, _, rfl, Same.tupq s a, b⟩
theorem Vw.lst {ds : List D} (s : Same F H) (h : Vw K F H v (.lst ds)) : ∃ a vs, v = .ref a ∧ H a = some (.lst vs) ∧ RpA K F vs ds := by
  rcases h with h | ⟨p, o, l, rfl, e, h⟩
  · cases h with
    | lst a b => exact ⟨_, _, rfl, s _ _ a, b⟩
  · rcases o.toD_ref with ⟨xs, rfl, e1⟩ | ⟨xs, rfl, e1⟩ | ⟨xs, rfl, e1⟩ | ⟨C, fs, rfl, e1⟩
    · rw [e1] at e
      cases e
      cases h with
      | lst a b => exact ⟨_, _, rfl, a, b⟩
    · rw [e1] at e; cases e
    · rw [e1] at e; cases e
    · rw [e1] at e; cases e
end
theorem Vw.scr {K : PySem.W.Frag} {F H : Hp} {v : V} {ns : List Int} (s : Same F H) (h : Vw K F H v (.scr ns)) : ∃ a, v = .ref a ∧ SqL K H a (ns.map V.int) := by
  cases h.flat (fun _ z => by cases z) (fun _ z => by cases z) (fun _ z => by cases z) (fun _ _ z => by cases z) with
  | scr a => exact ⟨_, rfl, s.seq a⟩
/-! ### judgements -/
def AE (E : XK) (K : PySem.W.Frag) (t : TE) (ev : M Rf) : Prop := ∀ s Q, Ok K s → Post E K (RV K) s (ev s.ρ) Q → t s.σ s.H Q
def AD (E : XK) (K : PySem.W.Frag) (t : TE) (ev : M D) : Prop := ∀ s Q, Ok K s → Post E K (RD K) s (ev s.ρ) Q → t s.σ s.H Q
def AO (E : XK) (K : PySem.W.Frag) (t : TE) (ev : M O) : Prop := ∀ s Q, Ok K s → Post E K (RO K) s (ev s.ρ) Q → t s.σ s.H Q
def AT (E : XK) (K : PySem.W.Frag) (t : TT) (ev : M Bool) : Prop := ∀ s Q, Ok K s → Post E K RB s (ev s.ρ) Q → t s.σ s.H Q
def AL (E : XK) (K : PySem.W.Frag) (t : TA) (ev : M (List Rf)) : Prop := ∀ s Q, Ok K s → Post E K (RL K) s (ev s.ρ) Q → t s.σ s.H Q
section
variable {E : XK} {K : PySem.W.Frag} {t ta tb tc : TE} {ea eb : M Rf}
def evVar (i : Nat) : M Rf := fun ρ => match ρ[i]? with
  | some (.dat d) => .ok (.d d) ρ
  | some (.own _ _) => .ok (.sl i) ρ
  | _ => .bad
def evC (d : D) : M Rf := fun ρ => .ok (.d d) ρ
theorem ae_var (i : Nat) : AE E K (tVar i) (evVar i) := by
  intro s Q R h
  unfold evVar at h
  split at h
  · rename_i d q
    obtain ⟨v, h1, h2⟩ := R.dat i d q
    exact ⟨v, h1, h v s.F s.fp s.H R (Tr.refl _) h2⟩
  · rename_i b o q
    obtain ⟨p, h1, _⟩ := R.own i b o q
    exact ⟨_, h1, h _ s.F s.fp s.H R (Tr.refl _) h1⟩
  · exact h.elim
theorem ae_c {v : V} {d : D} (h : ∀ F, Rp K F v d) : AE E K (tC v) (evC d) := fun s Q R q => q v s.F s.fp s.H R (Tr.refl _) (h _)
/-- as data: what is one's own is frozen -/
def asD (ev : M Rf) : M D := fun ρ => (ev ρ).bind fun r ρ1 => match r with
  | .d x => .ok x ρ1
  | .sl i => match ρ1[i]? with
    | some (.own false o) => .ok o.toD (ρ1.set i (.dat o.toD))
    | some (.dat d) => .ok d ρ1
    | _ => .bad
theorem AE.data (h : AE E K t ea) : AD E K t (asD ea) := by
  intro s Q R q
  refine h s Q R (Post.bind q shD fun r ρ1 v F' fp' H' ok T rv q1 => ?_)
  cases r with
  | d x => exact q1 v F' fp' H' ok (Tr.refl _) rv
  | sl i =>
    dsimp only at q1
    have rv' : s.σ[i]? = some (some v) := rv
    split at q1
    · rename_i o e
      obtain ⟨p, h1, h2, h3, h4⟩ := ok.freeze e
      have h1' : s.σ[i]? = some (some (V.ref p)) := h1
      rw [rv'] at h1'
      cases h1'
      exact q1 _ _ _ _ h3 h4 h2
    · rename_i d e
      obtain ⟨w, h1, h2⟩ := ok.dat i d e
      have h1' : s.σ[i]? = some (some w) := h1
      rw [rv'] at h1'
      cases h1'
      exact q1 v F' fp' H' ok (Tr.refl _) h2
    · exact q1.elim
/-- data, as something -/
def ofD (ev : M D) : M Rf := fun ρ => (ev ρ).bind fun d ρ1 => .ok (.d d) ρ1
theorem AD.rf {ev : M D} (h : AD E K t ev) : AE E K t (ofD ev) := by
  intro s Q R q
  exact h s Q R (Post.bind q shV fun d ρ1 v F' fp' H' ok T rv q1 => q1 v F' fp' H' ok (Tr.refl _) rv)
/-- a new thing of one's own, as data -/
def iceO (ev : M O) : M D := fun ρ => (ev ρ).bind fun o ρ1 => .ok o.toD ρ1
theorem Ok.iceNew {s s' : S} {l : List Addr} (R : Ok K s') (T : Tr s s') (hn : ∀ a ∈ l, s'.F a = none ∧ s.H a = none ∧ ¬ Ow s' a) : Ok K (s'.at (frz s'.F s'.H l) s'.H) ∧ Tr s (s'.at (frz s'.F s'.H l) s'.H) := by
  have sm : Same s'.F (frz s'.F s'.H l) := frz_same fun a ha => (hn a ha).1
  refine ⟨⟨R.len, frz_sub R.sub, R.un, fun i d e => ?_, fun i b o e => ?_, R.sep⟩, T.ff.trans sm, T.st, T.hs, T.nw, T.lo, fun a u e => ?_, T.pr, T.pb⟩
  · obtain ⟨v, h1, h2⟩ := R.dat i d e
    exact ⟨v, h1, h2.mono sm⟩
  · obtain ⟨p, h1, h2, h3⟩ := R.own i b o e
    exact ⟨p, h1, h2.mono sm fun _ _ _ q => q, fun a ha => (frz_out fun z => (hn a z).2.2 ⟨i, b, o, e, ha⟩).trans (h3 a ha)⟩
  · by_cases h : a ∈ l
    · exact .inr (.inl (hn a h).2.1)
    · exact T.fn a u ((frz_out h).symm.trans e)
theorem AO.data {ev : M O} (h : AO E K t ev) : AD E K t (iceO ev) := by
  intro s Q R q
  refine h s Q R ?_
  unfold iceO at q
  cases e : ev s.ρ with
  | ok o ρ1 =>
    rw [e] at q
    intro v F' fp' H' ok T rv
    obtain ⟨p, l, rfl, ho, hn⟩ := rv
    have sm : Same F' (frz F' H' l) := frz_same fun a ha => (hn a ha).1
    obtain ⟨ok', T'⟩ := ok.iceNew T hn
    exact q _ _ _ _ ok' T' (ho.froz sm fun a ha => frz_in ha)
  | ex x ρ1 => rw [e] at q; exact q
  | bad => rw [e] at q; exact q
end
/-! ### arguments, operators, tests -/
section
variable {E : XK} {K : PySem.W.Frag} {t ta tb tc : TE} {ea eb ec : M Rf} {r : R2}
def evNil : M (List Rf) := fun ρ => .ok [] ρ
def evCons (ea : M Rf) (er : M (List Rf)) : M (List Rf) := fun ρ => (ea ρ).bind fun a ρ1 => (er ρ1).bind fun as ρ2 => .ok (a :: as) ρ2
theorem al_nil : AL E K tNil evNil := fun s Q R q => q [] s.F s.fp s.H R (Tr.refl _) .nil
theorem al_cons {tr : TA} {er : M (List Rf)} (ha : AE E K ta ea) (hr : AL E K tr er) : AL E K (tCons ta tr) (evCons ea er) := by
  intro s Q R q
  refine ha s _ R (Post.bind q shL fun a ρ1 v F1 fp1 H1 ok1 T1 rv1 q1 => ?_)
  refine hr (s.to F1 fp1 ρ1 H1) _ ok1 (Post.bind q1 shL fun as ρ2 vs F2 fp2 H2 ok2 T2 rv2 q2 => ?_)
  exact q2 _ F2 fp2 H2 ok2 (Tr.refl _) (.cons (RfR.mono T2.ff rv1) rv2)
/-- what an operator's rule does with data -/
def OpA (K : PySem.W.Frag) (r : R2) (f : D → D → Option D) : Prop := ∀ F H x y a b c Q, Same F H → Vw K F H x a → Vw K F H y b → f a b = some c → (∀ v F' H', Grow F H F' H' → Rp K F' v c → Q v H') → r x y H Q
def evOp (f : D → D → Option D) (ea eb : M Rf) : M Rf := fun ρ => (ea ρ).bind fun r1 ρ1 => (eb ρ1).bind fun r2 ρ2 => match vw ρ2 r1, vw ρ2 r2 with
  | some a, some b => lift ((f a b).map Rf.d) ρ2
  | _, _ => .bad
theorem ae_op {f : D → D → Option D} (ok : OpA K r f) (ha : AE E K ta ea) (hb : AE E K tb eb) : AE E K (tOp r ta tb) (evOp f ea eb) := by
  intro s Q R q
  refine ha s _ R (Post.bind q shV fun r1 ρ1 x F1 fp1 H1 ok1 T1 rv1 q1 => ?_)
  refine hb (s.to F1 fp1 ρ1 H1) _ ok1 (Post.bind q1 shV fun r2 ρ2 y F2 fp2 H2 ok2 T2 rv2 q2 => ?_)
  split at q2
  · rename_i a b ea eb
    cases e : f a b with
    | none => rw [e] at q2; exact q2.elim
    | some c =>
      rw [e] at q2
      refine ok F2 H2 x y a b c Q ok2.sub (ok2.vw (RfR.mono T2.ff rv1) ea) (ok2.vw rv2 eb) e fun v F' H' g rp => ?_
      obtain ⟨ok3, T3⟩ := ok2.grow g
      exact q2 v F' fp2 H' ok3 T3 rp
  · exact q2.elim
/-- of one value -/
def UnA (K : PySem.W.Frag) (r : V → Hp → VK → Prop) (f : D → Option D) : Prop := ∀ F H x a c Q, Same F H → Vw K F H x a → f a = some c → (∀ v F' H', Grow F H F' H' → Rp K F' v c → Q v H') → r x H Q
def evUn (f : D → Option D) (ea : M Rf) : M Rf := fun ρ => (ea ρ).bind fun r1 ρ1 => match vw ρ1 r1 with
  | some a => lift ((f a).map Rf.d) ρ1
  | _ => .bad
theorem ae_un {ru : V → Hp → VK → Prop} {f : D → Option D} (ok : UnA K ru f) (ha : AE E K ta ea) : AE E K (tUn ru ta) (evUn f ea) := by
  intro s Q R q
  refine ha s _ R (Post.bind q shV fun r1 ρ1 x F1 fp1 H1 ok1 T1 rv1 q1 => ?_)
  split at q1
  · rename_i a ea
    cases e : f a with
    | none => rw [e] at q1; exact q1.elim
    | some c =>
      rw [e] at q1
      refine ok F1 H1 x a c Q ok1.sub (ok1.vw rv1 ea) e fun v F' H' g rp => ?_
      obtain ⟨ok3, T3⟩ := ok1.grow g
      exact q1 v F' fp1 H' ok3 T3 rp
  · exact q1.elim
/-- views of several -/
inductive Vws (K : PySem.W.Frag) (F H : Hp) : List V → List D → Prop
  | nil : Vws K F H [] []
  | cons {v : V} {vs : List V} {d : D} {ds : List D} : Vw K F H v d → Vws K F H vs ds → Vws K F H (v :: vs) (d :: ds)
theorem Ok.vws {s : S} (R : Ok K s) : ∀ {vs : List V} {rs : List Rf} {ds : List D}, RfRs K s.F s.σ vs rs → vws s.ρ rs = some ds → Vws K s.F s.H vs ds
  | _, _, _, .nil, e => by cases e; exact .nil
  | _, _, _, .cons h t, e => by
    simp only [DC.vws] at e
    split at e
    · rename_i d ds e1 e2
      cases e
      exact .cons (R.vw h e1) (R.vws t e2)
    · cases e
/-- a call of a built-in -/
def CaA (K : PySem.W.Frag) (r : List V → Hp → VK → Prop) (f : List D → Option D) : Prop := ∀ F H xs as c Q, Same F H → Vws K F H xs as → f as = some c → (∀ v F' H', Grow F H F' H' → Rp K F' v c → Q v H') → r xs H Q
def evCB (f : List D → Option D) (el : M (List Rf)) : M Rf := fun ρ => (el ρ).bind fun rs ρ1 => match vws ρ1 rs with
  | some as => lift ((f as).map Rf.d) ρ1
  | none => .bad
theorem ae_cb {rr : List V → Hp → VK → Prop} {f : List D → Option D} {tl : TA} {el : M (List Rf)} (ok : CaA K rr f) (ha : AL E K tl el) : AE E K (tCB rr tl) (evCB f el) := by
  intro s Q R q
  refine ha s _ R (Post.bind q shV fun rs ρ1 xs F1 fp1 H1 ok1 T1 rv1 q1 => ?_)
  split at q1
  · rename_i as ea
    cases e : f as with
    | none => rw [e] at q1; exact q1.elim
    | some c =>
      rw [e] at q1
      refine ok F1 H1 xs as c Q ok1.sub (ok1.vws rv1 ea) e fun v F' H' g rp => ?_
      obtain ⟨ok3, T3⟩ := ok1.grow g
      exact q1 v F' fp1 H' ok3 T3 rp
  · exact q1.elim
/-- a method of a built-in value that changes nothing -/
def MtA (K : PySem.W.Frag) (T : String) (r : V → List V → Hp → VK → Prop) (f : D → List D → Option D) : Prop :=
  ∀ F H x xs a as c Q, Same F H → Vw K F H x a → Vws K F H xs as → f a as = some c → (∀ v F' H', Grow F H F' H' → Rp K F' v c → Q v H') → r x xs H Q
def tyD (T : String) (d : D) : Bool := match d with
  | .str _ => T == "str"
  | .lst _ => T == "list"
  | .tup _ => T == "tuple"
  | .dk _ => T == "dict"
  | .dt _ => T == "dict"
  | _ => false
def evBM (T : String) (f : D → List D → Option D) (ea : M Rf) (el : M (List Rf)) : M Rf := fun ρ => (ea ρ).bind fun r1 ρ1 => match vw ρ1 r1 with
  | some a0 => if tyD T a0 = true then (el ρ1).bind fun rs ρ2 => match vw ρ2 r1, vws ρ2 rs with
    | some a, some as => lift ((f a as).map Rf.d) ρ2
    | _, _ => .bad
    else .bad
  | none => .bad
end
end DC
namespace DC
noncomputable section
open PySem PySem.Spec PyProof.Rows L2 G
/-! ### scalars -/
def D.sc : D → Option V
  | .non => some .non
  | .bl b => some (.bl b)
  | .int i => some (.int i)
  | .str z => some (.str z)
  | _ => none
theorem D.sc_rp {K : PySem.W.Frag} {F : Hp} {d : D} {x : V} (h : d.sc = some x) : Rp K F x d := by
  cases d <;> simp [D.sc] at h <;> subst h
  · exact .non
  · exact .bl _
  · exact .int _
  · exact .str _
theorem Vw.sc {K : PySem.W.Frag} {F H : Hp} {v x : V} {d : D} (h : Vw K F H v d) (e : d.sc = some x) : v = x := by
  cases d <;> simp [D.sc] at e <;> subst e
  · exact h.non
  · exact h.bl
  · exact h.int
  · exact h.str
section
variable {K : PySem.W.Frag}
/-- two ints -/
def op2I (C : Int → Int → Prop) [∀ i j, Decidable (C i j)] (g : Int → Int → D) : D → D → Option D
  | .int i, .int j => if C i j then some (g i j) else none
  | _, _ => none
theorem oa_rI {C : Int → Int → Prop} [∀ i j, Decidable (C i j)] {g : Int → Int → V} {gd : Int → Int → D} (hg : ∀ F i j, Rp K F (g i j) (gd i j)) : OpA K (rI C g) (op2I C gd) := by
  intro F H x y a b c Q s ha hb e q
  cases a <;> cases b <;> simp [op2I] at e
  rename_i i j
  obtain ⟨hc, rfl⟩ := e
  exact ⟨i, j, ha.int, hb.int, hc, q _ F H (Grow.refl s) (hg _ _ _)⟩
def op2I0 (g : Int → Int → D) : D → D → Option D
  | .int i, .int j => some (g i j)
  | _, _ => none
theorem oa_rI0 {g : Int → Int → V} {gd : Int → Int → D} (hg : ∀ F i j, Rp K F (g i j) (gd i j)) : OpA K (rI0 g) (op2I0 gd) := by
  intro F H x y a b c Q s ha hb e q
  cases a <;> cases b <;> simp [op2I0] at e
  rename_i i j
  subst e
  exact ⟨i, j, ha.int, hb.int, q _ F H (Grow.refl s) (hg _ _ _)⟩
noncomputable instance {i j : Int} : Decidable (CMul i j) := Classical.propDecidable _
noncomputable instance {i j : Int} : Decidable (CPow i j) := Classical.propDecidable _
noncomputable instance {i j : Int} : Decidable (CDiv i j) := Classical.propDecidable _
abbrev fAdd : D → D → Option D := op2I0 fun i j => .int (i + j)
abbrev fSub : D → D → Option D := op2I0 fun i j => .int (i - j)
abbrev fMul : D → D → Option D := op2I CMul fun i j => .int (i * j)
abbrev fDiv : D → D → Option D := op2I CDiv fun i j => .int (i / j)
abbrev fMod : D → D → Option D := op2I (fun _ j => 0 < j) fun i j => .int (i % j)
abbrev fPow : D → D → Option D := op2I CPow fun i j => .int (i ^ j.toNat)
abbrev fAnd : D → D → Option D := op2I0 fun i j => .int (Builtin.bitAnd i j)
abbrev fOr : D → D → Option D := op2I0 fun i j => .int (Builtin.bitOr i j)
abbrev fXor : D → D → Option D := op2I0 fun i j => .int (Builtin.bitXor i j)
abbrev fShr : D → D → Option D := op2I (fun _ j => 0 ≤ j) fun i j => .int (i / 2 ^ j.toNat)
abbrev fLt : D → D → Option D := op2I0 fun i j => .bl (decide (i < j))
abbrev fLe : D → D → Option D := op2I0 fun i j => .bl (decide (i ≤ j))
abbrev fGt : D → D → Option D := op2I0 fun i j => .bl (decide (j < i))
abbrev fGe : D → D → Option D := op2I0 fun i j => .bl (decide (j ≤ i))
theorem oa_add : OpA K (rI0 fun i j => .int (i + j)) fAdd := oa_rI0 fun _ _ _ => .int _
theorem oa_sub : OpA K (rI0 fun i j => .int (i - j)) fSub := oa_rI0 fun _ _ _ => .int _
theorem oa_mul : OpA K (rI CMul fun i j => .int (i * j)) fMul := oa_rI fun _ _ _ => .int _
theorem oa_div : OpA K (rI CDiv fun i j => .int (i / j)) fDiv := oa_rI fun _ _ _ => .int _
theorem oa_mod : OpA K (rI (fun _ j => 0 < j) fun i j => .int (i % j)) fMod := oa_rI fun _ _ _ => .int _
theorem oa_pow : OpA K (rI CPow fun i j => .int (i ^ j.toNat)) fPow := oa_rI fun _ _ _ => .int _
theorem oa_and : OpA K (rI0 fun i j => .int (Builtin.bitAnd i j)) fAnd := oa_rI0 fun _ _ _ => .int _
theorem oa_or : OpA K (rI0 fun i j => .int (Builtin.bitOr i j)) fOr := oa_rI0 fun _ _ _ => .int _
theorem oa_xor : OpA K (rI0 fun i j => .int (Builtin.bitXor i j)) fXor := oa_rI0 fun _ _ _ => .int _
theorem oa_shr : OpA K (rI (fun _ j => 0 ≤ j) fun i j => .int (i / 2 ^ j.toNat)) fShr := oa_rI fun _ _ _ => .int _
theorem oa_lt : OpA K (rI0 fun i j => .bl (decide (i < j))) fLt := oa_rI0 fun _ _ _ => .bl _
theorem oa_le : OpA K (rI0 fun i j => .bl (decide (i ≤ j))) fLe := oa_rI0 fun _ _ _ => .bl _
theorem oa_gt : OpA K (rI0 fun i j => .bl (decide (j < i))) fGt := oa_rI0 fun _ _ _ => .bl _
theorem oa_ge : OpA K (rI0 fun i j => .bl (decide (j ≤ i))) fGe := oa_rI0 fun _ _ _ => .bl _
/-- == of scalars -/
def fEqS (neg : Bool) : D → D → Option D := fun a b => match a.sc, b.sc with
  | some x, some y => if scal x y = true then some (.bl (if neg then !decide (x = y) else decide (x = y))) else none
  | _, _ => none
theorem oa_eqS : OpA K rEq (fEqS false) := by
  intro F H x y a b c Q s ha hb e q
  simp only [fEqS] at e
  split at e
  · rename_i u v e1 e2
    split at e
    · rename_i h
      cases e
      rw [ha.sc e1, hb.sc e2]
      exact ⟨h, q _ F H (Grow.refl s) (.bl _)⟩
    · cases e
  · cases e
theorem oa_neS : OpA K rNe (fEqS true) := by
  intro F H x y a b c Q s ha hb e q
  simp only [fEqS] at e
  split at e
  · rename_i u v e1 e2
    split at e
    · rename_i h
      cases e
      rw [ha.sc e1, hb.sc e2]
      exact ⟨h, q _ F H (Grow.refl s) (.bl _)⟩
    · cases e
  · cases e
/-- is None, is not None -/
def fIsN (neg : Bool) : D → D → Option D
  | a, .non => some (.bl (match a with
    | .non => !neg
    | _ => neg))
  | _, _ => none
theorem Rp.non_iff {F : Hp} {v : V} {d : D} (h : Rp K F v d) : v = .non ↔ d = .non := by
  cases h <;> simp
theorem Vw.non_iff {F H : Hp} {v : V} {d : D} (h : Vw K F H v d) : v = .non ↔ d = .non := by
  rcases h with h | ⟨p, o, l, rfl, rfl, h⟩
  · exact h.non_iff
  · rcases o.toD_ref with ⟨_, _, e⟩ | ⟨_, _, e⟩ | ⟨_, _, e⟩ | ⟨_, _, _, e⟩ <;> simp [e]
theorem oa_isN : OpA K (fun x y H Q => y = .non ∧ Q (.bl (decide (x = .non))) H) (fIsN false) := by
  intro F H x y a b c Q s ha hb e q
  cases b <;> simp [fIsN] at e
  subst e
  refine ⟨hb.non, q _ F H (Grow.refl s) ?_⟩
  have z := ha.non_iff
  cases a <;> simp at z ⊢
  · rw [decide_eq_true z]; exact .bl _
  all_goals (rw [decide_eq_false z]; exact .bl _)
theorem oa_notN : OpA K (fun x y H Q => y = .non ∧ Q (.bl (!decide (x = .non))) H) (fIsN true) := by
  intro F H x y a b c Q s ha hb e q
  cases b <;> simp [fIsN] at e
  subst e
  refine ⟨hb.non, q _ F H (Grow.refl s) ?_⟩
  have z := ha.non_iff
  cases a <;> simp at z ⊢
  · rw [decide_eq_true z]; exact .bl _
  all_goals (rw [decide_eq_false z]; exact .bl _)
/-- strings -/
def op2S (C : Str → Str → Prop) [∀ i j, Decidable (C i j)] (g : Str → Str → D) : D → D → Option D
  | .str i, .str j => if C i j then some (g i j) else none
  | _, _ => none
abbrev fCatS : D → D → Option D := op2S (fun i j => i.length + j.length ≤ sizeLine) fun i j => .str (i ++ j)
theorem oa_catS : OpA K (fun x y H Q => ∃ i j, x = .str i ∧ y = .str j ∧ i.length + j.length ≤ sizeLine ∧ Q (.str (i ++ j)) H) fCatS := by
  intro F H x y a b c Q s ha hb e q
  cases a <;> cases b <;> simp [op2S] at e
  rename_i i j
  obtain ⟨hc, rfl⟩ := e
  exact ⟨i, j, ha.str, hb.str, hc, q _ F H (Grow.refl s) (.str _)⟩
abbrev fLtS : D → D → Option D := op2S (fun _ _ => True) fun i j => .bl (decide (i.cps.toList < j.cps.toList))
abbrev fLeS : D → D → Option D := op2S (fun _ _ => True) fun i j => .bl (!decide (j.cps.toList < i.cps.toList))
abbrev fInS (neg : Bool) : D → D → Option D := op2S (fun _ _ => True) fun i j => .bl (if neg then !(!(Builtin.Str.occurrences j i 0 j.length 1).isEmpty) else !(Builtin.Str.occurrences j i 0 j.length 1).isEmpty)
theorem oa_ltS : OpA K (fun x y H Q => ∃ i j, x = .str i ∧ y = .str j ∧ Q (.bl (decide (i.cps.toList < j.cps.toList))) H) fLtS := by
  intro F H x y a b c Q s ha hb e q
  cases a <;> cases b <;> cases e
  exact ⟨_, _, ha.str, hb.str, q _ F H (Grow.refl s) (.bl _)⟩
theorem oa_leS : OpA K (fun x y H Q => ∃ i j, x = .str i ∧ y = .str j ∧ Q (.bl (!decide (j.cps.toList < i.cps.toList))) H) fLeS := by
  intro F H x y a b c Q s ha hb e q
  cases a <;> cases b <;> cases e
  exact ⟨_, _, ha.str, hb.str, q _ F H (Grow.refl s) (.bl _)⟩
theorem oa_inS : OpA K (fun x y H Q => ∃ i j, x = .str i ∧ y = .str j ∧ Q (.bl (!(Builtin.Str.occurrences j i 0 j.length 1).isEmpty)) H) (fInS false) := by
  intro F H x y a b c Q s ha hb e q
  cases a <;> cases b <;> simp [op2S] at e
  subst e
  exact ⟨_, _, ha.str, hb.str, q _ F H (Grow.refl s) (by simpa using .bl _)⟩
theorem oa_notInS : OpA K (fun x y H Q => ∃ i j, x = .str i ∧ y = .str j ∧ Q (.bl (!(!(Builtin.Str.occurrences j i 0 j.length 1).isEmpty))) H) (fInS true) := by
  intro F H x y a b c Q s ha hb e q
  cases a <;> cases b <;> simp [op2S] at e
  subst e
  exact ⟨_, _, ha.str, hb.str, q _ F H (Grow.refl s) (by simpa using .bl _)⟩
/-! sequences -/
def scs : List D → Option (List V)
  | [] => some []
  | d :: r => match d.sc, scs r with
    | some x, some xs => some (x :: xs)
    | _, _ => none
theorem scs_rp {F : Hp} : ∀ {ds : List D} {xs vs : List V}, scs ds = some xs → RpA K F vs ds → vs = xs
  | [], _, _, e, .nil => by cases e; rfl
  | d :: r, _, _, e, .cons h t => by
    simp only [scs] at e
    split at e
    · rename_i x xs e1 e2
      cases e
      rw [scs_rp e2 t, (show Vw K F F _ d from .inl h).sc e1]
    · cases e
theorem sc_flat {d : D} {x : V} (e : d.sc = some x) : flatV x = true := by
  cases d <;> simp [D.sc] at e <;> subst e <;> rfl
theorem scs_flat : ∀ {ds : List D} {xs : List V}, scs ds = some xs → xs.all flatV = true
  | [], _, e => by cases e; rfl
  | d :: r, _, e => by
    simp only [scs] at e
    split at e
    · rename_i x xs e1 e2
      cases e
      simp [sc_flat e1, scs_flat e2]
    · cases e
def fIn (neg : Bool) : D → D → Option D := fun a b => match a.sc, (match b with
    | .lst ds => scs ds
    | .tup ds => scs ds
    | _ => none) with
  | some x, some xs => some (.bl (if neg then !inV x xs else inV x xs))
  | _, _ => none
theorem oa_in (neg : Bool) : OpA K (rIn K neg) (fIn neg) := by
  intro F H x y a b c Q s ha hb e q
  simp only [fIn] at e
  split at e
  · rename_i u us e1 e2
    cases e
    cases b with
    | lst ds =>
      obtain ⟨p, vs, rfl, h1, h2⟩ := hb.lst s
      have z := scs_rp e2 h2
      subst z
      rw [ha.sc e1]
      exact ⟨p, _, rfl, .inl (.of h1), sc_flat e1, scs_flat e2, q _ F H (Grow.refl s) (.bl _)⟩
    | tup ds =>
      obtain ⟨p, vs, rfl, h1, h2⟩ := hb.tup s
      have z := scs_rp e2 h2
      subst z
      rw [ha.sc e1]
      exact ⟨p, _, rfl, .inr h1, sc_flat e1, scs_flat e2, q _ F H (Grow.refl s) (.bl _)⟩
    | _ => simp at e2
  · cases e
/-- an item -/
def fIxL : D → D → Option D
  | .lst ds, .int i => atI ds i
  | .scr ns, .int i => (atI ns i).map D.int
  | _, _ => none
def fIxT : D → D → Option D
  | .tup ds, .int i => atI ds i
  | _, _ => none
theorem atI_rp {F : Hp} {vs : List V} {ds : List D} {i : Int} {d : D} (h : RpA K F vs ds) (e : atI ds i = some d) : ∃ v, atI vs i = some v ∧ Rp K F v d := by
  unfold atI at e ⊢
  rw [h.length]
  cases q : ixN ds.length i with
  | none => rw [q] at e; cases e
  | some j =>
    rw [q] at e
    exact h.getD e
theorem oa_ixL : OpA K (rIxL K) fIxL := by
  intro F H x y a b c Q s ha hb e q
  cases a <;> cases b <;> simp [fIxL] at e
  · obtain ⟨p, vs, rfl, h1, h2⟩ := ha.lst s
    obtain ⟨v, e1, e2⟩ := atI_rp h2 e
    exact ⟨p, vs, _, v, rfl, hb.int, .of h1, e1, q _ F H (Grow.refl s) e2⟩
  · obtain ⟨p, rfl, h1⟩ := ha.scr s
    obtain ⟨n, e1, rfl⟩ := e
    refine ⟨p, _, _, .int n, rfl, hb.int, h1, ?_, q _ F H (Grow.refl s) (.int _)⟩
    unfold atI at e1 ⊢
    rw [List.length_map]
    cases z : ixN _ _ with
    | none => rw [z] at e1; cases e1
    | some j => rw [z] at e1; simp only [Option.bind_some, List.getElem?_map] at e1 ⊢; rw [e1]; rfl
theorem oa_ixT : OpA K (rIxT K) fIxT := by
  intro F H x y a b c Q s ha hb e q
  cases a <;> cases b <;> simp [fIxT] at e
  obtain ⟨p, vs, rfl, h1, h2⟩ := ha.tup s
  obtain ⟨v, e1, e2⟩ := atI_rp h2 e
  exact ⟨p, vs, _, v, rfl, hb.int, h1, e1, q _ F H (Grow.refl s) e2⟩
def fIxS : D → D → Option D
  | .str z, .int i => if z.length ≤ sizeLine then (atI z.cps.toList i).map fun c => .str ⟨#[c]⟩ else none
  | _, _ => none
theorem oa_ixS : OpA K rIxS fIxS := by
  intro F H x y a b c Q s ha hb e q
  cases a <;> cases b <;> simp [fIxS] at e
  obtain ⟨hl, w, e1, rfl⟩ := e
  exact ⟨_, _, w, ha.str, hb.int, hl, e1, q _ F H (Grow.refl s) (.str _)⟩
end
/-! ### tests -/
section
variable {E : XK} {K : PySem.W.Frag} {t ta tb tc : TE} {ea eb ec : M Rf} {r r' : R2} {tt tu : TT} {et eu : M Bool}
def asB (ev : M Rf) : M Bool := fun ρ => (ev ρ).bind fun r ρ1 => match vw ρ1 r with
  | some (.bl b) => .ok b ρ1
  | _ => .bad
theorem at_test (h : AE E K t ea) : AT E K (tTest t) (asB ea) := by
  intro s Q R q
  refine h s _ R (Post.bind q shB fun r ρ1 v F' fp' H' ok T rv q1 => ?_)
  split at q1
  · rename_i b e
    exact ⟨b, (ok.vw rv e).bl, q1 b F' fp' H' ok (Tr.refl _) rfl⟩
  · exact q1.elim
theorem at_B (h : AE E K t ea) : AT E K (tB t) (asB ea) := at_test h
def truD : D → Option Bool
  | .non => some false
  | .bl b => some b
  | .int i => some (i != 0)
  | .str z => if z.length ≤ sizeLine then some ((z.length : Int) != 0) else none
  | .lst xs => some (!xs.isEmpty)
  | .tup xs => some (!xs.isEmpty)
  | .dk xs => some (!xs.isEmpty)
  | .scr ns => some (!ns.isEmpty)
  | _ => none
theorem RpA.isEmpty {F : Hp} {vs : List V} {ds : List D} (h : RpA K F vs ds) : vs.isEmpty = ds.isEmpty := by
  cases h <;> rfl
theorem RpK.isEmpty {F : Hp} {vs : List (Key × V)} {ds : List (Key × D)} (h : RpK K F vs ds) : vs.isEmpty = ds.isEmpty := by
  cases h <;> rfl
theorem tru_of {F H : Hp} {v : V} {d : D} {b : Bool} (s : Same F H) (h : Vw K F H v d) (e : truD d = some b) : TruV K v H b := by
  cases d with
  | non => cases e; rw [h.non]; rfl
  | bl c => cases e; rw [h.bl]; rfl
  | int i => cases e; rw [h.int]; rfl
  | str z =>
    simp only [truD] at e
    split at e
    · rename_i l
      cases e
      rw [h.str]
      exact ⟨l, rfl⟩
    · cases e
  | lst xs =>
    cases e
    obtain ⟨p, vs, rfl, h1, h2⟩ := h.lst s
    exact .inl ⟨vs, .of h1, by rw [h2.isEmpty]⟩
  | tup xs =>
    cases e
    obtain ⟨p, vs, rfl, h1, h2⟩ := h.tup s
    exact .inr (.inl ⟨vs, h1, by rw [h2.isEmpty]⟩)
  | dk xs =>
    cases e
    rcases h with h | ⟨p, o, l, rfl, e, h⟩
    · cases h with
      | dk a b => exact .inr (.inr ⟨_, s _ _ a, by rw [b.isEmpty]⟩)
    · rcases o.toD_ref with ⟨_, rfl, e1⟩ | ⟨_, rfl, e1⟩ | ⟨_, rfl, e1⟩ | ⟨_, _, rfl, e1⟩ <;> rw [e1] at e <;> cases e
      cases h with
      | dk a b => exact .inr (.inr ⟨_, a, by rw [b.isEmpty]⟩)
  | dt xs => cases e
  | ins C fs => cases e
  | scr ns =>
    cases e
    obtain ⟨p, rfl, h1⟩ := h.scr s
    exact .inl ⟨_, h1, by cases ns <;> rfl⟩
def asT (ev : M Rf) : M Bool := fun ρ => (ev ρ).bind fun r ρ1 => match (vw ρ1 r).bind truD with
  | some b => .ok b ρ1
  | none => .bad
theorem at_truth (h : AE E K t ea) : AT E K (fun σ H Q => t σ H fun x H' => ∃ k, TruV K x H' k ∧ Q k H') (asT ea) := by
  intro s Q R q
  refine h s _ R (Post.bind q shB fun r ρ1 v F' fp' H' ok T rv q1 => ?_)
  split at q1
  · rename_i b e
    cases z : vw ρ1 r with
    | none => rw [z] at e; cases e
    | some d =>
      rw [z] at e
      exact ⟨b, tru_of ok.sub (ok.vw rv z) e, q1 b F' fp' H' ok (Tr.refl _) rfl⟩
  · exact q1.elim
def mAnd (a b : M Bool) : M Bool := fun ρ => (a ρ).bind fun c ρ1 => if c = true then b ρ1 else .ok false ρ1
def mOr (a b : M Bool) : M Bool := fun ρ => (a ρ).bind fun c ρ1 => if c = true then .ok true ρ1 else b ρ1
def mNot (a : M Bool) : M Bool := fun ρ => (a ρ).bind fun c ρ1 => .ok (!c) ρ1
theorem at_and (h1 : AT E K tt et) (h2 : AT E K tu eu) : AT E K (tAnd tt tu) (mAnd et eu) := by
  intro s Q R q
  refine h1 s _ R (Post.bind q shB fun c ρ1 c' F' fp' H' ok T rv q1 => ?_)
  cases rv
  cases c with
  | true => exact h2 (s.to F' fp' ρ1 H') Q ok q1
  | false => exact q1 false F' fp' H' ok (Tr.refl _) rfl
theorem at_or (h1 : AT E K tt et) (h2 : AT E K tu eu) : AT E K (tOr tt tu) (mOr et eu) := by
  intro s Q R q
  refine h1 s _ R (Post.bind q shB fun c ρ1 c' F' fp' H' ok T rv q1 => ?_)
  cases rv
  cases c with
  | true => exact q1 true F' fp' H' ok (Tr.refl _) rfl
  | false => exact h2 (s.to F' fp' ρ1 H') Q ok q1
theorem at_not (h1 : AT E K tt et) : AT E K (tNot tt) (mNot et) := by
  intro s Q R q
  refine h1 s _ R (Post.bind q shB fun c ρ1 c' F' fp' H' ok T rv q1 => ?_)
  cases rv
  exact q1 (!c) F' fp' H' ok (Tr.refl _) rfl
/-- as values (bools) -/
def vAnd (a b : M Rf) : M Rf := fun ρ => (asB a ρ).bind fun c ρ1 => if c = true then b ρ1 else .ok (.d (.bl false)) ρ1
def vOr (a b : M Rf) : M Rf := fun ρ => (asB a ρ).bind fun c ρ1 => if c = true then .ok (.d (.bl true)) ρ1 else b ρ1
def vNot (a : M Rf) : M Rf := fun ρ => (asB a ρ).bind fun c ρ1 => .ok (.d (.bl (!c))) ρ1
theorem ae_and (h1 : AE E K ta ea) (h2 : AE E K tb eb) : AE E K (tAndV ta tb) (vAnd ea eb) := by
  intro s Q R q
  refine at_test h1 s (fun c H1 => if c = true then tb s.σ H1 Q else Q (.bl false) H1) R (Post.bind q shV fun c ρ1 c' F' fp' H' ok T rv q1 => ?_)
  cases rv
  cases c with
  | true => exact h2 (s.to F' fp' ρ1 H') Q ok q1
  | false => exact q1 _ F' fp' H' ok (Tr.refl _) (.bl _)
theorem ae_or (h1 : AE E K ta ea) (h2 : AE E K tb eb) : AE E K (tOrV ta tb) (vOr ea eb) := by
  intro s Q R q
  refine at_test h1 s (fun c H1 => if c = true then Q (.bl true) H1 else tb s.σ H1 Q) R (Post.bind q shV fun c ρ1 c' F' fp' H' ok T rv q1 => ?_)
  cases rv
  cases c with
  | true => exact q1 _ F' fp' H' ok (Tr.refl _) (.bl _)
  | false => exact h2 (s.to F' fp' ρ1 H') Q ok q1
theorem ae_not (h1 : AE E K ta ea) : AE E K (tNotV ta) (vNot ea) := by
  intro s Q R q
  refine at_test h1 s (fun c H1 => Q (.bl (!c)) H1) R (Post.bind q shV fun c ρ1 c' F' fp' H' ok T rv q1 => ?_)
  cases rv
  exact q1 _ F' fp' H' ok (Tr.refl _) (.bl _)
def mIf {α : Type} (c : M Bool) (a b : M α) : M α := fun ρ => (c ρ).bind fun d ρ1 => if d = true then a ρ1 else b ρ1
theorem ae_if (h : AT E K tt et) (h1 : AE E K ta ea) (h2 : AE E K tb eb) : AE E K (tIf tt ta tb) (mIf et ea eb) := by
  intro s Q R q
  refine h s _ R (Post.bind q shV fun c ρ1 c' F' fp' H' ok T rv q1 => ?_)
  cases rv
  cases c with
  | true => exact h1 (s.to F' fp' ρ1 H') Q ok q1
  | false => exact h2 (s.to F' fp' ρ1 H') Q ok q1
/-- a chain -/
def evChain (f f' : D → D → Option D) (ea eb ec : M Rf) : M Rf := fun ρ => (ea ρ).bind fun r1 ρ1 => (eb ρ1).bind fun r2 ρ2 => match vw ρ2 r1, vw ρ2 r2 with
  | some a, some b => match f a b with
    | some (.bl true) => (ec ρ2).bind fun r3 ρ3 => match vw ρ3 r2, vw ρ3 r3 with
      | some b', some c => lift ((f' b' c).map Rf.d) ρ3
      | _, _ => .bad
    | some (.bl false) => .ok (.d (.bl false)) ρ2
    | _ => .bad
  | _, _ => .bad
theorem ae_chain {f f' : D → D → Option D} (o1 : OpA K r f) (o2 : OpA K r' f') (ha : AE E K ta ea) (hb : AE E K tb eb) (hc : AE E K tc ec) : AE E K (tChain r r' ta tb tc) (evChain f f' ea eb ec) := by
  intro s Q R q
  refine ha s _ R (Post.bind q shV fun r1 ρ1 x F1 fp1 H1 ok1 T1 rv1 q1 => ?_)
  refine hb (s.to F1 fp1 ρ1 H1) _ ok1 (Post.bind q1 shV fun r2 ρ2 y F2 fp2 H2 ok2 T2 rv2 q2 => ?_)
  split at q2
  · rename_i a b e1 e2
    have rv1' := RfR.mono T2.ff rv1
    split at q2
    · rename_i e
      refine o1 F2 H2 x y a b _ _ ok2.sub (ok2.vw rv1' e1) (ok2.vw rv2 e2) e fun v F3 H3 g rp => ?_
      obtain ⟨ok3, T3⟩ := ok2.grow g
      cases rp
      refine ⟨true, rfl, ?_⟩
      rw [if_pos rfl]
      have q3 := Post.shift q2 shV T3 rfl
      refine hc (s.to F3 fp2 ρ2 H3) _ ok3 (Post.bind q3 shV fun r3 ρ3 z F4 fp4 H4 ok4 T4 rv4 q4 => ?_)
      split at q4
      · rename_i b' c e3 e4
        cases e5 : f' b' c with
        | none => rw [e5] at q4; exact q4.elim
        | some d =>
          rw [e5] at q4
          refine o2 F4 H4 y z b' c d Q ok4.sub (ok4.vw (RfR.mono (g.ff.trans T4.ff) rv2) e3) (ok4.vw rv4 e4) e5 fun v F5 H5 g5 rp5 => ?_
          obtain ⟨ok5, T5⟩ := ok4.grow g5
          exact q4 v F5 fp4 H5 ok5 T5 rp5
      · exact q4.elim
    · rename_i e
      refine o1 F2 H2 x y a b _ _ ok2.sub (ok2.vw rv1' e1) (ok2.vw rv2 e2) e fun v F3 H3 g rp => ?_
      obtain ⟨ok3, T3⟩ := ok2.grow g
      cases rp
      refine ⟨false, rfl, ?_⟩
      rw [if_neg (by decide)]
      exact q2 _ F3 fp2 H3 ok3 T3 (.bl _)
    · exact q2.elim
  · exact q2.elim
end
end
end DC
namespace DC
noncomputable section
open PySem PySem.Spec PyProof.Rows L2 G
/-! ### statements -/
inductive Ret where
  | d (x : D) | o (x : O)
inductive Rs where
  | nx (ρ : List Sl) | rt (r : Ret) (ρ : List Sl) | bk (ρ : List Sl) | ct (ρ : List Sl) | ex (x : Exn) (ρ : List Sl) | bad
abbrev W := List Sl → Rs
def RetR (K : PySem.W.Frag) (s s' : S) (v : V) : Ret → Prop
  | .d x => Rp K s'.F v x
  | .o x => RO K s s' v x
/-- as RO, or a thing of one's own given up -/
def RO2 (K : PySem.W.Frag) : S → S → V → O → Prop := fun s s' v o => ∃ p l, v = .ref p ∧ OwnAt K s'.F s'.H p o l ∧ ∀ a ∈ l, s'.F a = none ∧ (s.H a = none ∨ Lo s a) ∧ ¬ Ow s' a
def RetR2 (K : PySem.W.Frag) (s s' : S) (v : V) : Ret → Prop
  | .d x => Rp K s'.F v x
  | .o x => RO2 K s s' v x
def PostS (E : XK) (K : PySem.W.Frag) (s : S) (o : Rs) (D : Ends) : Prop := match o with
  | .nx ρ' => ∀ σ' F' fp' H', Ok K ⟨F', fp', ρ', σ', H'⟩ → Tr s ⟨F', fp', ρ', σ', H'⟩ → D.nx σ' H'
  | .bk ρ' => ∀ σ' F' fp' H', Ok K ⟨F', fp', ρ', σ', H'⟩ → Tr s ⟨F', fp', ρ', σ', H'⟩ → D.bk σ' H'
  | .ct ρ' => ∀ σ' F' fp' H', Ok K ⟨F', fp', ρ', σ', H'⟩ → Tr s ⟨F', fp', ρ', σ', H'⟩ → D.ct σ' H'
  | .rt r ρ' => ∀ v σ' F' fp' H', Ok K ⟨F', fp', ρ', σ', H'⟩ → Tr s ⟨F', fp', ρ', σ', H'⟩ → RetR2 K s ⟨F', fp', ρ', σ', H'⟩ v r → D.rt v H'
  | .ex x ρ' => ∀ cls d σ' F' fp' H', Ok K ⟨F', fp', ρ', σ', H'⟩ → Tr s ⟨F', fp', ρ', σ', H'⟩ → ExR K F' x cls d H' → E cls d H'
  | .bad => False
def Rs.bind (o : Rs) (f : W) : Rs := match o with
  | .nx ρ => f ρ
  | o => o
section
variable {E : XK} {K : PySem.W.Frag} {s s' : S}
theorem PostS.shift {o : Rs} {D : Ends} (h : PostS E K s o D) (T : Tr s s') : PostS E K s' o D := by
  cases o with
  | nx ρ' => exact fun σ' F' fp' H' ok t => h σ' F' fp' H' ok (T.trans t)
  | bk ρ' => exact fun σ' F' fp' H' ok t => h σ' F' fp' H' ok (T.trans t)
  | ct ρ' => exact fun σ' F' fp' H' ok t => h σ' F' fp' H' ok (T.trans t)
  | ex x ρ' => exact fun cls d σ' F' fp' H' ok t => h cls d σ' F' fp' H' ok (T.trans t)
  | bad => exact h
  | rt r ρ' =>
    intro v σ' F' fp' H' ok t r'
    refine h v σ' F' fp' H' ok (T.trans t) ?_
    cases r with
    | d x => exact r'
    | o x =>
      obtain ⟨p, l, e, ho, hn⟩ := r'
      exact ⟨p, l, e, ho, fun a ha => ⟨(hn a ha).1, (hn a ha).2.1.elim (fun z => .inl (none_of_hs T.hs z)) (fun z => T.lo a z), (hn a ha).2.2⟩⟩
/-- what one wishes may be more -/
theorem PostS.mono {o : Rs} {D D' : Ends} (h : PostS E K s o D) (h1 : ∀ σ H, D.nx σ H → D'.nx σ H) (h2 : ∀ v H, D.rt v H → D'.rt v H) (h3 : ∀ σ H, D.bk σ H → D'.bk σ H) (h4 : ∀ σ H, D.ct σ H → D'.ct σ H) : PostS E K s o D' := by
  cases o with
  | nx ρ' => exact fun σ' F' fp' H' ok t => h1 _ _ (h σ' F' fp' H' ok t)
  | bk ρ' => exact fun σ' F' fp' H' ok t => h3 _ _ (h σ' F' fp' H' ok t)
  | ct ρ' => exact fun σ' F' fp' H' ok t => h4 _ _ (h σ' F' fp' H' ok t)
  | ex x ρ' => exact h
  | bad => exact h
  | rt r ρ' => exact fun v σ' F' fp' H' ok t r' => h2 _ _ (h v σ' F' fp' H' ok t r')
end
def AS (E : XK) (K : PySem.W.Frag) (t : TS) (ex : W) : Prop := ∀ s D, Ok K s → PostS E K s (ex s.ρ) D → t D s.σ s.H
/-- an expression, then -/
def thenS {α : Type} (o : Out α) (f : α → W) : Rs := match o with
  | .ok a ρ => f a ρ
  | .ex x ρ => .ex x ρ
  | .bad => .bad
section
variable {E : XK} {K : PySem.W.Frag} {α β : Type} {t u tb : TS} {te ta : TE} {tt : TT} {ex ey eb : W} {ea : M Rf} {et : M Bool} {R : S → S → β → α → Prop}
theorem PostS.thenS {s : S} {o : Out α} {f : α → W} {D : Ends} {Q1 : β → Hp → Prop} (h : PostS E K s (DC.thenS o f) D)
    (mid : ∀ a ρ' b F' fp' H', Ok K (s.to F' fp' ρ' H') → Tr s (s.to F' fp' ρ' H') → R s (s.to F' fp' ρ' H') b a → PostS E K (s.to F' fp' ρ' H') (f a ρ') D → Q1 b H') : Post E K R s o Q1 := by
  cases o with
  | ok a ρ' => exact fun b F' fp' H' ok t r => mid a ρ' b F' fp' H' ok t r (PostS.shift h t)
  | ex x ρ' => exact fun cls d F' fp' H' ok t r => h cls d s.σ F' fp' H' ok t r
  | bad => exact h
def xNext : W := fun ρ => .nx ρ
theorem as_next : AS E K tNext xNext := fun s D R q => q s.σ s.F s.fp s.H R (Tr.refl _)
def xSeq (a b : W) : W := fun ρ => (a ρ).bind b
theorem as_seq (h1 : AS E K t ex) (h2 : AS E K u ey) : AS E K (tSeq t u) (xSeq ex ey) := by
  intro s D R q
  refine h1 s _ R ?_
  unfold xSeq at q
  cases e : ex s.ρ with
  | nx ρ' =>
    rw [e] at q
    exact fun σ' F' fp' H' ok T => h2 ⟨F', fp', ρ', σ', H'⟩ D ok (PostS.shift q T)
  | bk ρ' => rw [e] at q; exact q
  | ct ρ' => rw [e] at q; exact q
  | rt r ρ' => rw [e] at q; exact q
  | ex x ρ' => rw [e] at q; exact q
  | bad => rw [e] at q; exact q
def xBreak : W := fun ρ => .bk ρ
def xCont : W := fun ρ => .ct ρ
theorem as_break : AS E K tBreak xBreak := fun s D R q => q s.σ s.F s.fp s.H R (Tr.refl _)
theorem as_cont : AS E K tCont xCont := fun s D R q => q s.σ s.F s.fp s.H R (Tr.refl _)
def xNever : W := fun _ => .bad
theorem as_never : AS E K tNever xNever := fun s D R q => q.elim
def xDrop (ev : M Rf) : W := fun ρ => thenS (ev ρ) fun _ ρ1 => .nx ρ1
theorem as_drop (h : AE E K te ea) : AS E K (tDrop te) (xDrop ea) := by
  intro s D R q
  exact h s _ R (PostS.thenS q fun r ρ1 v F' fp' H' ok T rv q1 => q1 s.σ F' fp' H' ok (Tr.refl _))
def xRet (ev : M D) : W := fun ρ => thenS (ev ρ) fun d ρ1 => .rt (.d d) ρ1
theorem as_ret {ev : M D} (h : AD E K te ev) : AS E K (tRet te) (xRet ev) := by
  intro s D R q
  exact h s _ R (PostS.thenS q fun d ρ1 v F' fp' H' ok T rv q1 => q1 v s.σ F' fp' H' ok (Tr.refl _) rv)
def xRetN : W := fun ρ => .rt (.d .non) ρ
theorem as_retN : AS E K tRetN xRetN := fun s D R q => q .non s.σ s.F s.fp s.H R (Tr.refl _) .non
/-- a new thing of one's own is handed back -/
def xRetO (ev : M O) : W := fun ρ => thenS (ev ρ) fun o ρ1 => .rt (.o o) ρ1
theorem as_retO {ev : M O} (h : AO E K te ev) : AS E K (tRet te) (xRetO ev) := by
  intro s D R q
  refine h s _ R ?_
  unfold xRetO at q
  cases e : ev s.ρ with
  | ok o ρ' =>
    rw [e] at q
    exact fun v F' fp' H' ok T ⟨p, l, z1, z2, z3⟩ => q v s.σ F' fp' H' ok T ⟨p, l, z1, z2, fun a ha => ⟨(z3 a ha).1, .inl (z3 a ha).2.1, (z3 a ha).2.2⟩⟩
  | ex x ρ' => rw [e] at q; exact fun cls d F' fp' H' ok T r => q cls d s.σ F' fp' H' ok T r
  | bad => rw [e] at q; exact q
/-- one's own thing in a slot is handed back -/
def xRetSl (i : Nat) : W := fun ρ => match ρ[i]? with
  | some (.own false o) => .rt (.o o) (ρ.set i .un)
  | _ => .bad
def xIf (c : M Bool) (a b : W) : W := fun ρ => thenS (c ρ) fun d ρ1 => if d = true then a ρ1 else b ρ1
theorem as_if (hc : AT E K tt et) (h1 : AS E K t ex) (h2 : AS E K u ey) : AS E K (tIfS tt t u) (xIf et ex ey) := by
  intro s D R q
  refine hc s _ R (PostS.thenS q fun c ρ1 c' F' fp' H' ok T rv q1 => ?_)
  cases rv
  cases c with
  | true => exact h1 (s.to F' fp' ρ1 H') D ok q1
  | false => exact h2 (s.to F' fp' ρ1 H') D ok q1
/-- x = data -/
def setD (i : Nat) (d : D) : W := fun ρ => if free ρ i = true then .nx (ρ.set i (.dat d)) else .bad
def xSet (i : Nat) (ev : M D) : W := fun ρ => thenS (ev ρ) (setD i)
theorem as_set {i : Nat} {ev : M D} (h : AD E K te ev) : AS E K (tAsg te (gName i)) (xSet i ev) := by
  intro s D R q
  refine h s _ R (PostS.thenS q fun d ρ1 v F' fp' H' ok T rv q1 => ?_)
  unfold setD at q1
  split at q1
  · rename_i hf
    obtain ⟨ok', T'⟩ := Ok.put (i := i) (x := .dat d) (z := some v) ok hf (.inr ⟨v, d, rfl, rfl, rv⟩)
    exact q1 _ _ _ _ ok' T'
  · exact q1.elim
/-- x = a new thing of one's own -/
def xSetO (i : Nat) (ev : M O) : W := fun ρ => thenS (ev ρ) fun o ρ1 => if free ρ1 i = true then .nx (ρ1.set i (.own false o)) else .bad
theorem as_setO {i : Nat} {ev : M O} (h : AO E K te ev) : AS E K (tAsg te (gName i)) (xSetO i ev) := by
  intro s D R q
  refine h s _ R ?_
  unfold xSetO at q
  cases e : ev s.ρ with
  | ok o ρ' =>
    rw [e] at q
    intro v F' fp' H' ok T rv
    obtain ⟨p, l, rfl, ho, hn⟩ := rv
    simp only [DC.thenS] at q
    split at q
    · rename_i hf
      obtain ⟨ok', T'⟩ := Ok.mine (i := i) ok T hf ho hn
      exact q _ _ _ _ ok' T'
    · exact q.elim
  | ex x ρ' => rw [e] at q; exact fun cls d F' fp' H' ok T r => q cls d s.σ F' fp' H' ok T r
  | bad => rw [e] at q; exact q
/-! targets -/
def PostU (E : XK) (K : PySem.W.Frag) (s : S) (o : Out Unit) (Q : L2.St → Hp → Prop) : Prop := match o with
  | .ok _ ρ' => ∀ σ' F' fp' H', Ok K ⟨F', fp', ρ', σ', H'⟩ → Tr s ⟨F', fp', ρ', σ', H'⟩ → Q σ' H'
  | .ex x ρ' => ∀ cls d σ' F' fp' H', Ok K ⟨F', fp', ρ', σ', H'⟩ → Tr s ⟨F', fp', ρ', σ', H'⟩ → ExR K F' x cls d H' → E cls d H'
  | .bad => False
theorem PostU.shift {s s' : S} {o : Out Unit} {Q : L2.St → Hp → Prop} (h : PostU E K s o Q) (T : Tr s s') : PostU E K s' o Q := by
  cases o with
  | ok a ρ' => exact fun σ' F' fp' H' ok t => h σ' F' fp' H' ok (T.trans t)
  | ex x ρ' => exact fun cls d σ' F' fp' H' ok t => h cls d σ' F' fp' H' ok (T.trans t)
  | bad => exact h
def AG (E : XK) (K : PySem.W.Frag) (g : TG) (eg : D → M Unit) : Prop := ∀ s v d Q, Ok K s → Rp K s.F v d → PostU E K s (eg d s.ρ) Q → g v s.σ s.H Q
def AGs (E : XK) (K : PySem.W.Frag) (g : TGs) (eg : List D → M Unit) : Prop := ∀ s vs ds Q, Ok K s → RpA K s.F vs ds → PostU E K s (eg ds s.ρ) Q → g vs s.σ s.H Q
def gSet (i : Nat) : D → M Unit := fun d ρ => if free ρ i = true then .ok () (ρ.set i (.dat d)) else .bad
theorem ag_name (i : Nat) : AG E K (gName i) (gSet i) := by
  intro s v d Q R r q
  unfold gSet at q
  split at q
  · rename_i hf
    obtain ⟨ok', T'⟩ := Ok.put (i := i) (x := .dat d) (z := some v) R hf (.inr ⟨v, d, rfl, rfl, r⟩)
    exact q _ _ _ _ ok' T'
  · exact q.elim
def gsNil : List D → M Unit := fun ds ρ => match ds with
  | [] => .ok () ρ
  | _ => .bad
def gsCons (g : D → M Unit) (gs : List D → M Unit) : List D → M Unit := fun ds ρ => match ds with
  | d :: r => (g d ρ).bind fun _ ρ1 => gs r ρ1
  | [] => .bad
theorem ags_nil : AGs E K gNil gsNil := by
  intro s vs ds Q R r q
  cases r with
  | nil => exact ⟨rfl, q _ _ _ _ R (Tr.refl _)⟩
  | cons a b => exact q.elim
theorem ags_cons {g : TG} {gs : TGs} {eg : D → M Unit} {egs : List D → M Unit} (h1 : AG E K g eg) (h2 : AGs E K gs egs) : AGs E K (gCons g gs) (gsCons eg egs) := by
  intro s vs ds Q R r q
  cases r with
  | nil => exact q.elim
  | cons a b =>
    rename_i v vs d ds
    refine ⟨v, vs, rfl, h1 s v d _ R a ?_⟩
    simp only [gsCons] at q
    cases e : eg d s.ρ with
    | ok u ρ' =>
      rw [e] at q
      exact fun σ' F' fp' H' ok T => h2 ⟨F', fp', ρ', σ', H'⟩ vs ds Q ok (RpA.mono T.ff _ _ b) (PostU.shift q T)
    | ex x ρ' => rw [e] at q; exact q
    | bad => rw [e] at q; exact q
def gTupD (n : Nat) (gs : List D → M Unit) : D → M Unit := fun d ρ => match d with
  | .tup ds => if ds.length = n then gs ds ρ else .bad
  | _ => .bad
theorem ag_tup {n : Nat} {gs : TGs} {egs : List D → M Unit} (h : AGs E K gs egs) : AG E K (gTup K n gs) (gTupD n egs) := by
  intro s v d Q R r q
  cases d with
  | tup ds =>
    simp only [gTupD] at q
    split at q
    · rename_i hl
      cases r with
      | tup a b => exact ⟨_, _, rfl, Same.tupq R.sub a, b.length.trans hl, h s _ ds Q R b q⟩
    · exact q.elim
  | _ => exact q.elim
def xAsg (ev : M D) (eg : D → M Unit) : W := fun ρ => thenS (ev ρ) fun d ρ1 => thenS (eg d ρ1) fun _ ρ2 => .nx ρ2
theorem as_asg {ev : M D} {g : TG} {eg : D → M Unit} (h : AD E K te ev) (hg : AG E K g eg) : AS E K (tAsg te g) (xAsg ev eg) := by
  intro s D R q
  refine h s _ R (PostS.thenS q fun d ρ1 v F' fp' H' ok T rv q1 => ?_)
  refine hg (s.to F' fp' ρ1 H') v d D.nx ok rv ?_
  cases e : eg d ρ1 with
  | ok u ρ' => rw [e] at q1; exact q1
  | ex x ρ' => rw [e] at q1; exact q1
  | bad => rw [e] at q1; exact q1
/-- a, b = x, y -/
def xPar (i j : Nat) (ea eb : M D) : W := fun ρ => thenS (ea ρ) fun d ρ1 => thenS (eb ρ1) fun e ρ2 => match setD i d ρ2 with
  | .nx ρ3 => setD j e ρ3
  | _ => .bad
theorem as_par {i j : Nat} {tx ty : TE} {ex ey : M D} (h1 : AD E K tx ex) (h2 : AD E K ty ey) : AS E K (tPar i j (tCons tx (tCons ty tNil))) (xPar i j ex ey) := by
  intro s D R q
  refine h1 s _ R (PostS.thenS q fun d ρ1 v F1 fp1 H1 ok1 T1 rv1 q1 => ?_)
  refine h2 (s.to F1 fp1 ρ1 H1) _ ok1 (PostS.thenS q1 fun e ρ2 w F2 fp2 H2 ok2 T2 rv2 q2 => ?_)
  refine ⟨v, w, rfl, ?_⟩
  simp only [setD] at q2
  by_cases hf : free ρ2 i = true
  · rw [if_pos hf] at q2
    obtain ⟨ok3, T3⟩ := Ok.put (i := i) (x := .dat d) (z := some v) ok2 hf (.inr ⟨v, d, rfl, rfl, Rp.mono T2.ff _ _ rv1⟩)
    dsimp only at q2
    split at q2
    · rename_i hg
      obtain ⟨ok4, T4⟩ := Ok.put (i := j) (x := .dat e) (z := some w) ok3 hg (.inr ⟨w, e, rfl, rfl, rv2⟩)
      exact q2 _ _ _ _ ok4 (T3.trans T4)
    · exact q2.elim
  · rw [if_neg hf] at q2; exact q2.elim
end
end
end DC
namespace DC
noncomputable section
open PySem PySem.Spec PyProof.Rows L2 G
section
variable {E : XK} {K : PySem.W.Frag} {tb : TS} {te ta : TE} {tt : TT} {eb : W} {ea : M Rf} {et : M Bool}
/-! ### while -/
def afterBody (r : Rs) (next : W) : Rs := match r with
  | .nx ρ => next ρ
  | .ct ρ => next ρ
  | .bk ρ => .nx ρ
  | r => r
def whileN (c : M Bool) (b : W) : Nat → W
  | 0 => fun _ => .bad
  | n + 1 => fun ρ => thenS (c ρ) fun d ρ1 => if d = true then afterBody (b ρ1) (whileN c b n) else .nx ρ1
theorem PostS.body {s : S} {r : Rs} {next : W} {D : Ends} {N : L2.St → Hp → Prop} (h : PostS E K s (afterBody r next) D)
    (hN : ∀ ρ' σ' F' fp' H', Ok K ⟨F', fp', ρ', σ', H'⟩ → Tr s ⟨F', fp', ρ', σ', H'⟩ → PostS E K ⟨F', fp', ρ', σ', H'⟩ (next ρ') D → N σ' H') : PostS E K s r { D with nx := N, ct := N, bk := D.nx } := by
  cases r with
  | nx ρ' => exact fun σ' F' fp' H' ok T => hN ρ' σ' F' fp' H' ok T (PostS.shift h T)
  | ct ρ' => exact fun σ' F' fp' H' ok T => hN ρ' σ' F' fp' H' ok T (PostS.shift h T)
  | bk ρ' => exact h
  | rt r ρ' => exact h
  | ex x ρ' => exact h
  | bad => exact h
theorem as_while {n : Nat} (hc : AT E K tt et) (hb : AS E K tb eb) : AS E K (tWhile tt tb) (whileN et eb n) := by
  intro s D R q
  refine ⟨fun m σ H => ∃ s' : S, s'.σ = σ ∧ s'.H = H ∧ Ok K s' ∧ PostS E K s' (whileN et eb m s'.ρ) D, ⟨n, s, rfl, rfl, R, q⟩, ?_⟩
  rintro m σ H ⟨s', rfl, rfl, ok, q⟩
  cases m with
  | zero => exact q.elim
  | succ m =>
    refine hc s' _ ok (PostS.thenS q fun c ρ1 c' F' fp' H' ok1 T rv q1 => ?_)
    cases rv
    cases c with
    | true =>
      rw [if_pos rfl] at q1 ⊢
      refine ⟨fun σ' H' => ∃ s' : S, s'.σ = σ' ∧ s'.H = H' ∧ Ok K s' ∧ PostS E K s' (whileN et eb m s'.ρ) D, fun σ' H' h => ⟨m, Nat.lt_succ_self _, h⟩, ?_⟩
      exact hb (s'.to F' fp' ρ1 H') _ ok1 (PostS.body q1 fun ρ' σ' F' fp' H' ok T q => ⟨⟨F', fp', ρ', σ', H'⟩, rfl, rfl, ok, q⟩)
    | false =>
      rw [if_neg (by decide)] at q1 ⊢
      exact q1 _ _ _ _ ok1 (Tr.refl _)
/-! ### what is walked -/
structure IterOk (K : PySem.W.Frag) (J : It) (xs : List D) (F : Hp) : Prop where
  stop : ∀ F' H, Same F F' → Same F' H → J.stop xs.length H
  go : ∀ i F' H, i < xs.length → Same F F' → Same F' H → J.go i H
  yld : ∀ i d F' H x H', xs[i]? = some d → Same F F' → Same F' H → J.yld i H x H' → ∃ F'', Grow F' H F'' H' ∧ Rp K F'' x d
theorem IterOk.mono {J : It} {xs : List D} {F F' : Hp} (h : IterOk K J xs F) (s : Same F F') : IterOk K J xs F' :=
  ⟨fun F2 H a b => h.stop F2 H (s.trans a) b, fun i F2 H l a b => h.go i F2 H l (s.trans a) b, fun i d F2 H x H' e a b y => h.yld i d F2 H x H' e (s.trans a) b y⟩
def RI (K : PySem.W.Frag) : S → S → It → List D → Prop := fun _ s J xs => IterOk K J xs s.F
theorem shI : Shift (RI K) := fun _ _ _ _ _ _ _ h => h
def AI (E : XK) (K : PySem.W.Frag) (wi : TI) (ev : M (List D)) : Prop := ∀ s R, Ok K s → Post E K (RI K) s (ev s.ρ) R → wi s.σ s.H R
theorem iter_list {a : Addr} {vs : List V} {ds : List D} {F : Hp} (h1 : SqL K F a vs) (h2 : RpA K F vs ds) : IterOk K (Itl K a) ds F where
  stop F' H s t := ⟨vs, t.seq (s.seq h1), by rw [h2.length]; exact Nat.le_refl _⟩
  go i F' H l s t := by
    rw [← h2.length] at l
    exact ⟨vs, vs[i], t.seq (s.seq h1), List.getElem?_eq_getElem l⟩
  yld i d F' H x H' e s t y := by
    obtain ⟨rfl, y⟩ := y
    obtain ⟨v, e1, r⟩ := h2.getD e
    have z := y vs (t.seq (s.seq h1))
    rw [e1] at z
    cases z
    exact ⟨F', Grow.refl t, Rp.mono s _ _ r⟩
theorem rpa_ints {F : Hp} : ∀ ns : List Int, RpA K F (ns.map V.int) (ns.map D.int)
  | [] => .nil
  | n :: ns => .cons (.int n) (rpa_ints ns)
theorem iter_tup {a : Addr} {vs : List V} {ds : List D} {F : Hp} (h1 : SqT K F a vs) (h2 : RpA K F vs ds) : IterOk K (Itt K a) ds F where
  stop F' H s t := ⟨vs, Same.tupq t (Same.tupq s h1), by rw [h2.length]; exact Nat.le_refl _⟩
  go i F' H l s t := by
    rw [← h2.length] at l
    exact ⟨vs, vs[i], Same.tupq t (Same.tupq s h1), List.getElem?_eq_getElem l⟩
  yld i d F' H x H' e s t y := by
    obtain ⟨rfl, y⟩ := y
    obtain ⟨v, e1, r⟩ := h2.getD e
    have z := y vs (Same.tupq t (Same.tupq s h1))
    rw [e1] at z
    cases z
    exact ⟨F', Grow.refl t, Rp.mono s _ _ r⟩
def rngD (lo : Int) (n : Nat) : List D := (List.range n).map fun (k : Nat) => D.int (lo + (k : Int))
theorem iter_rng {lo : Int} {n : Nat} {F : Hp} : IterOk K (Itr lo n) (rngD lo n) F where
  stop F' H s t := by show n ≤ _; simp [rngD]
  go i F' H l s t := by show i < n; simpa [rngD] using l
  yld i d F' H x H' e s t y := by
    obtain ⟨rfl, rfl⟩ := y
    simp only [rngD, List.getElem?_map, Option.map_eq_some_iff] at e
    obtain ⟨k, hk, rfl⟩ := e
    obtain ⟨_, z⟩ := List.getElem?_eq_some_iff.mp hk
    rw [List.getElem_range] at z
    rw [← z]
    exact ⟨F', Grow.refl t, .int _⟩
def seqL (ev : M D) : M (List D) := fun ρ => (ev ρ).bind fun d ρ1 => match d with
  | .lst ds => .ok ds ρ1
  | .scr ns => .ok (ns.map D.int) ρ1
  | _ => .bad
def seqT (ev : M D) : M (List D) := fun ρ => (ev ρ).bind fun d ρ1 => match d with
  | .tup ds => .ok ds ρ1
  | _ => .bad
theorem ai_list {ev : M D} (h : AD E K te ev) : AI E K (iList K te) (seqL ev) := by
  intro s R ok q
  refine h s _ ok (Post.bind q shI fun d ρ1 v F' fp' H' ok1 T rv q1 => ?_)
  cases d with
  | lst ds =>
    cases rv with
    | lst a b => exact ⟨_, rfl, ⟨_, .of (ok1.sub _ _ a)⟩, q1 _ F' fp' H' ok1 (Tr.refl _) (iter_list (.of a) b)⟩
  | scr ns =>
    cases rv with
    | scr a => exact ⟨_, rfl, ⟨_, ok1.sub.seq a⟩, q1 _ F' fp' H' ok1 (Tr.refl _) (iter_list a (rpa_ints ns))⟩
  | _ => exact q1.elim
theorem ai_tup {ev : M D} (h : AD E K te ev) : AI E K (iTup K te) (seqT ev) := by
  intro s R ok q
  refine h s _ ok (Post.bind q shI fun d ρ1 v F' fp' H' ok1 T rv q1 => ?_)
  cases d with
  | tup ds =>
    cases rv with
    | tup a b => exact ⟨_, rfl, ⟨_, Same.tupq ok1.sub a⟩, q1 _ F' fp' H' ok1 (Tr.refl _) (iter_tup a b)⟩
  | _ => exact q1.elim
/-- bounds of a range -/
def RgC (j : Int) : Prop := -(2 ^ 62) ≤ j ∧ j < 2 ^ 62
noncomputable instance {j : Int} : Decidable (RgC j) := Classical.propDecidable _
def rng1 (el : M (List Rf)) : M (List D) := fun ρ => (el ρ).bind fun rs ρ1 => match vws ρ1 rs with
  | some [.int j] => if RgC j then .ok (rngD 0 j.toNat) ρ1 else .bad
  | _ => .bad
def rng2 (el : M (List Rf)) : M (List D) := fun ρ => (el ρ).bind fun rs ρ1 => match vws ρ1 rs with
  | some [.int i, .int j] => if RgC i ∧ RgC j then .ok (rngD i (j - i).toNat) ρ1 else .bad
  | _ => .bad
theorem Vws.one {F H : Hp} {vs : List V} {d : D} (h : Vws K F H vs [d]) : ∃ v, vs = [v] ∧ Vw K F H v d := by
  cases h with
  | cons a b => cases b; exact ⟨_, rfl, a⟩
theorem Vws.two {F H : Hp} {vs : List V} {d e : D} (h : Vws K F H vs [d, e]) : ∃ v w, vs = [v, w] ∧ Vw K F H v d ∧ Vw K F H w e := by
  cases h with
  | cons a b =>
    obtain ⟨w, rfl, c⟩ := b.one
    exact ⟨_, w, rfl, a, c⟩
theorem Vws.three {F H : Hp} {vs : List V} {d e f : D} (h : Vws K F H vs [d, e, f]) : ∃ v w u, vs = [v, w, u] ∧ Vw K F H v d ∧ Vw K F H w e ∧ Vw K F H u f := by
  cases h with
  | cons a b =>
    obtain ⟨w, u, rfl, c, d⟩ := b.two
    exact ⟨_, w, u, rfl, a, c, d⟩
theorem ai_rng1 {tl : TA} {el : M (List Rf)} (h : AL E K tl el) : AI E K (iRng1 tl) (rng1 el) := by
  intro s R ok q
  refine h s _ ok (Post.bind q shI fun rs ρ1 vs F' fp' H' ok1 T rv q1 => ?_)
  split at q1
  · rename_i j e
    obtain ⟨v, rfl, w⟩ := (ok1.vws rv e).one
    cases w.int
    split at q1
    · rename_i hb
      exact ⟨j, rfl, hb.1, hb.2, q1 _ F' fp' H' ok1 (Tr.refl _) iter_rng⟩
    · exact q1.elim
  · exact q1.elim
theorem ai_rng2 {tl : TA} {el : M (List Rf)} (h : AL E K tl el) : AI E K (iRng2 tl) (rng2 el) := by
  intro s R ok q
  refine h s _ ok (Post.bind q shI fun rs ρ1 vs F' fp' H' ok1 T rv q1 => ?_)
  split at q1
  · rename_i i j e
    obtain ⟨v, w, rfl, h1, h2⟩ := (ok1.vws rv e).two
    cases h1.int
    cases h2.int
    split at q1
    · rename_i hb
      exact ⟨i, j, rfl, ⟨hb.1.1, hb.1.2, hb.2.1, hb.2.2⟩, q1 _ F' fp' H' ok1 (Tr.refl _) iter_rng⟩
    · exact q1.elim
  · exact q1.elim
/-! ### for -/
def forL (eg : D → M Unit) (b : W) : List D → W
  | [] => fun ρ => .nx ρ
  | d :: r => fun ρ => thenS (eg d ρ) fun _ ρ1 => afterBody (b ρ1) (forL eg b r)
def xFor (ev : M (List D)) (eg : D → M Unit) (b : W) : W := fun ρ => thenS (ev ρ) fun xs ρ1 => forL eg b xs ρ1
theorem as_for {wi : TI} {g : TG} {ev : M (List D)} {eg : D → M Unit} (hi : AI E K wi ev) (hg : AG E K g eg) (hb : AS E K tb eb) : AS E K (tFor wi g tb) (xFor ev eg eb) := by
  intro s D R q
  refine hi s _ R (PostS.thenS q fun xs ρ1 J F1 fp1 H1 ok1 T1 io q1 => ?_)
  have io : IterOk K J xs F1 := io
  refine ⟨fun i m σ H => m = xs.length - i ∧ i ≤ xs.length ∧ ∃ s' : S, s'.σ = σ ∧ s'.H = H ∧ Ok K s' ∧ Same F1 s'.F ∧ PostS E K s' (forL eg eb (xs.drop i) s'.ρ) D,
    ⟨xs.length, by simp, Nat.zero_le _, s.to F1 fp1 ρ1 H1, rfl, rfl, ok1, Same.refl _, by simpa using q1⟩, ?_⟩
  rintro i m σ H ⟨rfl, hi, s', rfl, rfl, ok, sm, q⟩
  by_cases hlt : i < xs.length
  · refine .inr ⟨io.go i s'.F s'.H hlt sm ok.sub, fun σ' H' => i + 1 ≤ xs.length ∧ ∃ s' : S, s'.σ = σ' ∧ s'.H = H' ∧ Ok K s' ∧ Same F1 s'.F ∧ PostS E K s' (forL eg eb (xs.drop (i + 1)) s'.ρ) D, fun σ' H' h => ⟨xs.length - (i + 1), by omega, rfl, h.1, h.2⟩, fun x H' y => ?_⟩
    have ex : xs.drop i = xs[i] :: xs.drop (i + 1) := List.drop_eq_getElem_cons hlt
    rw [ex] at q
    obtain ⟨F2, gr, rp⟩ := io.yld i xs[i] s'.F s'.H x H' (List.getElem?_eq_getElem hlt) sm ok.sub y
    obtain ⟨ok2, T2⟩ := ok.grow gr
    have q2 := PostS.shift q T2
    refine hg (s'.at F2 H') x xs[i] _ ok2 rp ?_
    simp only [forL] at q2
    cases e : eg xs[i] s'.ρ with
    | ok u ρ' =>
      rw [e] at q2
      intro σ3 F3 fp3 H3 ok3 T3
      refine hb ⟨F3, fp3, ρ', σ3, H3⟩ _ ok3 (PostS.body (PostS.shift q2 T3) fun ρ4 σ4 F4 fp4 H4 ok4 T4 q4 => ⟨hlt, ⟨F4, fp4, ρ4, σ4, H4⟩, rfl, rfl, ok4, sm.trans (gr.ff.trans (T3.ff.trans T4.ff)), q4⟩)
    | ex x ρ' => rw [e] at q2; exact q2
    | bad => rw [e] at q2; exact q2.elim
  · have e : i = xs.length := by omega
    subst e
    rw [List.drop_length] at q
    exact .inl ⟨io.stop s'.F s'.H sm ok.sub, q s'.σ s'.F s'.fp s'.H ok (Tr.refl _)⟩
/-! ### comprehensions -/
def isPlain : Option Sl → Bool
  | some .un => true
  | some (.dat _) => true
  | _ => false
def unset (ρ : List Sl) : List Nat → List Sl
  | [] => ρ
  | v :: vs => (unset ρ vs).set v .un
def reset (ρ0 ρ : List Sl) : List Nat → List Sl
  | [] => ρ
  | v :: vs => (reset ρ0 ρ vs).set v (ρ0.getD v .un)
theorem wipe_get {σ : L2.St} : ∀ {vs : List Nat} {i : Nat}, i < σ.length → (wipe σ vs)[i]? = if i ∈ vs then some none else σ[i]?
  | [], i, h => by simp [wipe]
  | v :: vs, i, h => by
    unfold wipe
    by_cases e : v = i
    · subst e
      rw [List.getElem?_set_self (by rw [wipe_length]; exact h)]
      simp
    · rw [List.getElem?_set_ne e, wipe_get h]
      have e' : ¬ i = v := fun z => e z.symm
      simp [e']
theorem unset_len {ρ : List Sl} : ∀ vs, (unset ρ vs).length = ρ.length
  | [] => rfl
  | v :: vs => by unfold unset; rw [List.length_set, unset_len vs]
theorem reset_len {ρ0 ρ : List Sl} : ∀ vs, (reset ρ0 ρ vs).length = ρ.length
  | [] => rfl
  | v :: vs => by unfold reset; rw [List.length_set, reset_len vs]
theorem unset_get {ρ : List Sl} : ∀ {vs : List Nat} {i : Nat}, i < ρ.length → (unset ρ vs)[i]? = if i ∈ vs then some Sl.un else ρ[i]?
  | [], i, h => by simp [unset]
  | v :: vs, i, h => by
    unfold unset
    by_cases e : v = i
    · subst e
      rw [List.getElem?_set_self (by rw [unset_len]; exact h)]
      simp
    · rw [List.getElem?_set_ne e, unset_get h]
      have e' : ¬ i = v := fun z => e z.symm
      simp [e']
theorem reset_get {ρ0 ρ : List Sl} : ∀ {vs : List Nat} {i : Nat}, i < ρ.length → (reset ρ0 ρ vs)[i]? = if i ∈ vs then some (ρ0.getD i .un) else ρ[i]?
  | [], i, h => by simp [reset]
  | v :: vs, i, h => by
    unfold reset
    by_cases e : v = i
    · subst e
      rw [List.getElem?_set_self (by rw [reset_len]; exact h)]
      simp
    · rw [List.getElem?_set_ne e, reset_get h]
      have e' : ¬ i = v := fun z => e z.symm
      simp [e']
/-- the slots of a comprehension's own names are plain -/
def plainAt (ρ : List Sl) (vs : List Nat) : Bool := vs.all fun v => isPlain ρ[v]?
theorem plain_lt {ρ : List Sl} {vs : List Nat} (h : plainAt ρ vs = true) : ∀ v ∈ vs, v < ρ.length ∧ ∀ b o, ρ[v]? ≠ some (Sl.own b o) := fun v hv => by
  have z := List.all_eq_true.mp h v hv
  cases q : ρ[v]? with
  | none => rw [q] at z; cases z
  | some x => exact ⟨(List.getElem?_eq_some_iff.mp q).1, fun b o e => by rw [q] at z; cases e; cases z⟩
theorem Ok.wiped {s : S} {vs : List Nat} (R : Ok K s) (hp : plainAt s.ρ vs = true) : Ok K { s with ρ := unset s.ρ vs, σ := wipe s.σ vs } ∧ Tr s { s with ρ := unset s.ρ vs, σ := wipe s.σ vs } := by
  have lt := plain_lt hp
  have gr : ∀ {i x}, (unset s.ρ vs)[i]? = some x → i < s.ρ.length := fun {i x} e => by
    have := (List.getElem?_eq_some_iff.mp e).1
    rwa [unset_len] at this
  have ow : ∀ {i b o}, (unset s.ρ vs)[i]? = some (Sl.own b o) → s.ρ[i]? = some (Sl.own b o) ∧ i ∉ vs := fun {i b o} e => by
    rw [unset_get (gr e)] at e
    split at e
    · cases e
    · rename_i n; exact ⟨e, n⟩
  have sg : ∀ {i}, i < s.ρ.length → i ∉ vs → (wipe s.σ vs)[i]? = s.σ[i]? := fun {i} l n => by
    rw [wipe_get (by rw [R.len]; exact l), if_neg n]
  refine ⟨⟨by rw [wipe_length, unset_len]; exact R.len, R.sub, fun i e => ?_, fun i d e => ?_, fun i b o e => ?_, fun i j b b' o o' n e e' => R.sep i j b b' o o' n (ow e).1 (ow e').1⟩,
    Same.refl _, fun a u e _ => e, fun a e => e, fun a ⟨j, b, o, e, m⟩ => .inr ⟨j, b, o, (ow e).1, m⟩, fun a ⟨j, o, e, m⟩ => .inr ⟨j, o, (ow e).1, m⟩, fun a u e => .inl e, fun i o e => ?_, fun i o e => ⟨o, (ow e).1⟩⟩
  · have l := gr e
    rw [unset_get l] at e
    show (wipe s.σ vs)[i]? = some none
    rw [wipe_get (by rw [R.len]; exact l)]
    split
    · rfl
    · rename_i n
      rw [if_neg n] at e
      exact R.un i e
  · have l := gr e
    rw [unset_get l] at e
    split at e
    · cases e
    · rename_i n
      obtain ⟨v, h1, h2⟩ := R.dat i d e
      exact ⟨v, (sg l n).trans h1, h2⟩
  · obtain ⟨q, n⟩ := ow e
    obtain ⟨p, h1, h2⟩ := R.own i b o q
    exact ⟨p, (sg (gr e) n).trans h1, h2⟩
  · have n : i ∉ vs := fun z => (lt i z).2 _ _ e
    have l : i < s.ρ.length := (List.getElem?_eq_some_iff.mp e).1
    exact ⟨sg l n, ⟨o, by rw [show (unset s.ρ vs)[i]? = _ from unset_get l, if_neg n]; exact e⟩, fun _ h => .inl h⟩
/-- back from a comprehension: the slots as they were -/
theorem Ok.back {s s' : S} {vs : List Nat} (R : Ok K s) (hp : plainAt s.ρ vs = true) (R' : Ok K s') (T : Tr { s with ρ := unset s.ρ vs, σ := wipe s.σ vs } s') (e : s'.σ = wipe s.σ vs) (ff : Same s.F s'.F) (hp' : plainAt s'.ρ vs = true) :
    Ok K { s' with ρ := reset s.ρ s'.ρ vs, σ := s.σ } ∧ Tr s { s' with ρ := reset s.ρ s'.ρ vs, σ := s.σ } ∧ ∀ a, Ow { s' with ρ := reset s.ρ s'.ρ vs, σ := s.σ } a → Ow s' a := by
  have lt := plain_lt hp
  have lt' := plain_lt hp'
  obtain ⟨Rw, Tw⟩ := R.wiped hp
  have T1 := Tw.trans T
  have ln : s'.ρ.length = s.ρ.length := by rw [← R'.len, e, wipe_length, R.len]
  have gr : ∀ {i x}, (reset s.ρ s'.ρ vs)[i]? = some x → i < s'.ρ.length := fun {i x} q => by
    have := (List.getElem?_eq_some_iff.mp q).1
    rwa [reset_len] at this
  have inn : ∀ {i x}, i ∈ vs → (reset s.ρ s'.ρ vs)[i]? = some x → s.ρ[i]? = some x := fun {i x} m q => by
    rw [reset_get (gr q), if_pos m] at q
    rw [List.getElem?_eq_getElem (lt i m).1]
    have z : s.ρ.getD i .un = s.ρ[i]'(lt i m).1 := by simp [List.getD, List.getElem?_eq_getElem (lt i m).1]
    rw [← z]; exact q
  have out : ∀ {i x}, i ∉ vs → (reset s.ρ s'.ρ vs)[i]? = some x → s'.ρ[i]? = some x := fun {i x} m q => by
    rw [reset_get (gr q), if_neg m] at q
    exact q
  have ow : ∀ {i b o}, (reset s.ρ s'.ρ vs)[i]? = some (Sl.own b o) → s'.ρ[i]? = some (Sl.own b o) ∧ i ∉ vs := fun {i b o} q => by
    by_cases m : i ∈ vs
    · exact absurd (inn m q) ((lt i m).2 b o)
    · exact ⟨out m q, m⟩
  have sg : ∀ {i}, i < s'.ρ.length → i ∉ vs → s'.σ[i]? = s.σ[i]? := fun {i} l n => by
    rw [e, wipe_get (by rw [R.len, ← ln]; exact l), if_neg n]
  refine ⟨⟨by rw [reset_len, ln]; exact R.len, R'.sub, fun i q => ?_, fun i d q => ?_, fun i b o q => ?_, fun i j b b' o o' n q q' => R'.sep i j b b' o o' n (ow q).1 (ow q').1⟩, ⟨
    T1.ff, T1.st, T1.hs, fun a ⟨j, b, o, q, m⟩ => T1.nw a ⟨j, b, o, (ow q).1, m⟩, fun a ⟨j, o, q, m⟩ => T1.lo a ⟨j, o, (ow q).1, m⟩, T1.fn, fun i o q => ?_, fun i o q => T1.pb i o (ow q).1⟩, fun a ⟨i, b, o, q, m⟩ => ⟨i, b, o, (ow q).1, m⟩⟩
  · by_cases m : i ∈ vs
    · exact R.un i (inn m q)
    · exact (sg (gr q) m).symm.trans (R'.un i (out m q))
  · by_cases m : i ∈ vs
    · obtain ⟨v, h1, h2⟩ := R.dat i d (inn m q)
      exact ⟨v, h1, h2.mono ff⟩
    · obtain ⟨v, h1, h2⟩ := R'.dat i d (out m q)
      exact ⟨v, (sg (gr q) m).symm.trans h1, h2⟩
  · obtain ⟨q1, m⟩ := ow q
    obtain ⟨p, h1, h2⟩ := R'.own i b o q1
    exact ⟨p, (sg (gr q) m).symm.trans h1, h2⟩
  · obtain ⟨h1, ⟨o', h2⟩, h3⟩ := T1.pr i o q
    have n : i ∉ vs := fun z => (lt i z).2 _ _ q
    refine ⟨rfl, ⟨o', ?_⟩, h3⟩
    have l : i < s'.ρ.length := (List.getElem?_eq_some_iff.mp h2).1
    show (reset s.ρ s'.ρ vs)[i]? = _
    rw [reset_get l, if_neg n]
    exact h2
/-- what no exception leaves -/
def Out.bind0 {α β : Type} (o : Out α) (f : α → M β) : Out β := match o with
  | .ok a ρ => f a ρ
  | _ => .bad
def compL (eg : D → M Unit) (et : M Bool) (ee : M D) (vs : List Nat) : List D → List D → M (List D)
  | [], acc => fun ρ => if plainAt ρ vs = true then .ok acc ρ else .bad
  | d :: r, acc => fun ρ => (eg d ρ).bind0 fun _ ρ1 => (et ρ1).bind0 fun c ρ2 =>
    if c = true then (ee ρ2).bind0 fun x ρ3 => if plainAt ρ3 vs = true ∧ acc.length < sizeLine then compL eg et ee vs r (acc ++ [x]) (unset ρ3 vs) else .bad
    else if plainAt ρ2 vs = true then compL eg et ee vs r acc (unset ρ2 vs) else .bad
def evComp (vs : List Nat) (ev : M (List D)) (eg : D → M Unit) (et : M Bool) (ee : M D) : M O := fun ρ => (ev ρ).bind fun xs ρ1 =>
  if plainAt ρ1 vs = true then (compL eg et ee vs xs [] (unset ρ1 vs)).bind0 fun acc ρ2 => .ok (.lst acc) (reset ρ1 ρ2 vs) else .bad
def mTrue : M Bool := fun ρ => .ok true ρ
theorem at_yes : AT E K tYes mTrue := fun s Q R q => q true s.F s.fp s.H R (Tr.refl _) rfl
/-- the target stores in these slots alone -/
def GW (g : TG) (vs : List Nat) : Prop := ∀ v σ H (Q Q' : L2.St → Hp → Prop) w, wipe σ vs = w → (∀ σ' H', wipe σ' vs = w → Q σ' H' → Q' σ' H') → g v σ H Q → g v σ H Q'
def GWs (g : TGs) (vs : List Nat) : Prop := ∀ v σ H (Q Q' : L2.St → Hp → Prop) w, wipe σ vs = w → (∀ σ' H', wipe σ' vs = w → Q σ' H' → Q' σ' H') → g v σ H Q → g v σ H Q'
theorem wipe_set {σ : L2.St} {vs : List Nat} {i : Nat} {x : Option V} (h : i ∈ vs) : wipe (σ.set i x) vs = wipe σ vs := by
  apply List.ext_getElem?
  intro j
  by_cases l : j < σ.length
  · rw [wipe_get (by simpa using l), wipe_get l]
    by_cases m : j ∈ vs
    · rw [if_pos m, if_pos m]
    · rw [if_neg m, if_neg m, List.getElem?_set_ne (fun z : i = j => m (by rw [← z]; exact h))]
  · rw [List.getElem?_eq_none (by rw [wipe_length]; simpa using l), List.getElem?_eq_none (by rw [wipe_length]; simpa using l)]
theorem wipe_wipe {σ : L2.St} {vs : List Nat} : wipe (wipe σ vs) vs = wipe σ vs := by
  apply List.ext_getElem?
  intro j
  by_cases l : j < σ.length
  · rw [wipe_get (by rw [wipe_length]; exact l), wipe_get l]
    by_cases m : j ∈ vs
    · rw [if_pos m, if_pos m]
    · rw [if_neg m, if_neg m]
  · rw [List.getElem?_eq_none (by rw [wipe_length, wipe_length]; simpa using l), List.getElem?_eq_none (by rw [wipe_length]; simpa using l)]
theorem gw_name {i : Nat} {vs : List Nat} (h : i ∈ vs) : GW (gName i) vs := fun v σ H Q Q' w e k q => k _ _ (by rw [wipe_set h]; exact e) q
theorem gw_nil {vs : List Nat} : GWs gNil vs := fun v σ H Q Q' w e k q => ⟨q.1, k _ _ e q.2⟩
theorem gw_cons {t : TG} {u : TGs} {vs : List Nat} (h1 : GW t vs) (h2 : GWs u vs) : GWs (gCons t u) vs := fun v σ H Q Q' w e k ⟨a, r, e1, q⟩ => ⟨a, r, e1, h1 _ _ _ _ _ w e (fun σ' H' e' q' => h2 _ _ _ _ _ w e' k q') q⟩
theorem gw_tup {n : Nat} {t : TGs} {vs : List Nat} (h : GWs t vs) : GW (gTup K n t) vs := fun v σ H Q Q' w e k ⟨a, xs, e1, e2, e3, q⟩ => ⟨a, xs, e1, e2, e3, h _ _ _ _ _ w e k q⟩
theorem Ok.tmp {s : S} {a : Addr} {o : HO} (R : Ok K s) (n : ¬ Ow s a) (f : s.F a = none) : Ok K { s with H := upd s.H a o } := by
  refine ⟨R.len, fun b u e => ?_, R.un, R.dat, fun i b o' e => ?_, R.sep⟩
  · show upd s.H a o b = some u
    rw [upd_ne (fun z => by rw [z, f] at e; cases e)]
    exact R.sub _ _ e
  · obtain ⟨p, h1, h2, h3⟩ := R.own i b o' e
    refine ⟨p, h1, h2.mono (Same.refl _) fun x hx u q => ?_, h3⟩
    show upd s.H a o x = some u
    rw [upd_ne (fun z : x = a => n ⟨i, b, o', e, by rw [← z]; exact hx⟩)]
    exact q
theorem Tr.tmp {s0 s : S} {a : Addr} {o : HO} (T : Tr s0 s) (h : s0.H a = none) : Tr s0 { s with H := upd s.H a o } where
  ff := T.ff
  st b u e n := by
    show upd s.H a o b = some u
    rw [upd_ne (ne_of_none e h)]
    exact T.st b u e n
  hs b e := by
    show upd s.H a o b ≠ none
    rw [upd_ne (fun z : b = a => e (by rw [z]; exact h))]
    exact T.hs b e
  nw := T.nw
  lo := T.lo
  fn := T.fn
  pr := T.pr
  pb := T.pb
/-- a thing that is neither frozen nor one's own stays so -/
theorem Tr.stay {s s' : S} {a : Addr} {o : HO} (T : Tr s s') (h : s.H a = some o) (f : s.F a = none) (n : ¬ Ow s a) : s'.H a = some o ∧ s'.F a = none ∧ ¬ Ow s' a := by
  refine ⟨T.st a o h n, ?_, fun z => ?_⟩
  · cases q : s'.F a with
    | none => rfl
    | some u =>
      rcases T.fn a u q with y | y | y
      · rw [f] at y; cases y
      · rw [h] at y; cases y
      · exact absurd (Lo.ow y) n
  · rcases T.nw a z with y | y
    · rw [h] at y; cases y
    · exact n y
theorem ao_comp {wi : TI} {g : TG} {vs : List Nat} {ev : M (List D)} {eg : D → M Unit} {ee : M D} (hi : AI E K wi ev) (hg : AG E0 K g eg) (gw : GW g vs) (ht : AT E0 K tt et) (he : AD E0 K te ee) :
    AO E K (tLc wi g tt te vs) (evComp vs ev eg et ee) := by
  intro s Q R q
  refine hi s _ R (Post.bind q shO fun xs ρ1 J F1 fp1 H1 ok1 T1 io q1 => ?_)
  intro Da hD
  have io : IterOk K J xs F1 := io
  split at q1
  rotate_left
  · exact q1.elim
  rename_i hp
  obtain ⟨okw, Tw⟩ := ok1.wiped hp
  obtain ⟨ok3, T3⟩ := okw.grow (Grow.tmp (o := .lst []) okw.sub hD)
  refine ⟨fun i m H => m = xs.length - i ∧ i ≤ xs.length ∧ ∃ (s' : S) (accV : List V) (accD : List D), s'.σ = wipe s.σ vs ∧ s'.H = H ∧ Ok K s' ∧ Tr { s.to F1 fp1 ρ1 H1 with ρ := unset ρ1 vs, σ := wipe s.σ vs } s' ∧
      Same F1 s'.F ∧ H Da = some (.lst accV) ∧ RpA K s'.F accV accD ∧ s'.F Da = none ∧ ¬ Ow s' Da ∧
      Post E K (RO K) (s.to F1 fp1 ρ1 H1) ((compL eg et ee vs (xs.drop i) accD s'.ρ).bind0 fun acc ρ2 => .ok (.lst acc) (reset ρ1 ρ2 vs)) Q,
    ⟨xs.length, by simp, Nat.zero_le _, _, [], [], rfl, rfl, ok3, T3, Same.refl _, upd_same, .nil, ok1.sub.free hD, fun z => absurd hD (okw.has (by obtain ⟨i, b, o, e, m⟩ := z; exact ⟨i, b, o, e, m⟩)), by simpa using q1⟩, ?_⟩
  rintro i m H ⟨rfl, hi, ⟨Fs, fps, ρs, σs, Hs⟩, accV, accD, rfl, rfl, ok, T, sm, hDa, ra, fD, nD, q⟩
  by_cases hlt : i < xs.length
  · refine .inr ⟨io.go i Fs Hs hlt sm ok.sub, fun H' => i + 1 ≤ xs.length ∧ ∃ (s' : S) (accV : List V) (accD : List D), s'.σ = wipe s.σ vs ∧ s'.H = H' ∧ Ok K s' ∧ Tr { s.to F1 fp1 ρ1 H1 with ρ := unset ρ1 vs, σ := wipe s.σ vs } s' ∧
      Same F1 s'.F ∧ H' Da = some (.lst accV) ∧ RpA K s'.F accV accD ∧ s'.F Da = none ∧ ¬ Ow s' Da ∧
      Post E K (RO K) (s.to F1 fp1 ρ1 H1) ((compL eg et ee vs (xs.drop (i + 1)) accD s'.ρ).bind0 fun acc ρ2 => .ok (.lst acc) (reset ρ1 ρ2 vs)) Q,
      fun H' h => ⟨xs.length - (i + 1), by omega, rfl, h.1, h.2⟩, fun x H' y => ?_⟩
    have ex : xs.drop i = xs[i] :: xs.drop (i + 1) := List.drop_eq_getElem_cons hlt
    rw [ex] at q
    obtain ⟨F2, gr, rp⟩ := io.yld i xs[i] Fs Hs x H' (List.getElem?_eq_getElem hlt) sm ok.sub y
    obtain ⟨ok2, T2⟩ := ok.grow gr
    simp only [compL] at q
    refine gw x (wipe s.σ vs) H' (fun σ2 H2 => wipe σ2 vs = wipe s.σ vs → tt σ2 H2 _) _ (wipe s.σ vs) wipe_wipe (fun σ2 H2 e2 k => ⟨e2, k e2⟩) ?_
    refine hg ⟨F2, fps, ρs, wipe s.σ vs, H'⟩ x xs[i] _ ok2 rp ?_
    show PostU E0 K _ (eg xs[i] ρs) _
    cases e1 : eg xs[i] ρs with
    | ex x ρa => rw [e1] at q; exact q.elim
    | bad => rw [e1] at q; exact q.elim
    | ok u ρa =>
      rw [e1] at q
      simp only [Out.bind0] at q
      intro σa Fa fpa Ha oka Ta wa
      refine ht ⟨Fa, fpa, ρa, σa, Ha⟩ _ oka ?_
      show Post E0 K RB _ (et ρa) _
      cases e2 : et ρa with
      | ex x ρb => rw [e2] at q; exact q.elim
      | bad => rw [e2] at q; exact q.elim
      | ok c ρb =>
        rw [e2] at q
        intro c' Fb fpb Hb okb Tb rb
        cases rb
        dsimp only at q
        cases c with
        | false =>
          rw [if_neg (by decide)] at q ⊢
          by_cases hpb : plainAt ρb vs = true
          · rw [if_pos hpb] at q
            obtain ⟨okd, Td⟩ := okb.wiped hpb
            have Tz := (T2.trans (Ta.trans Tb)).trans Td
            obtain ⟨z1, z2, z3⟩ := Tz.stay hDa fD nD
            exact ⟨hlt, _, accV, accD, wa, rfl, okd, T.trans Tz, sm.trans Tz.ff, z1, RpA.mono Tz.ff _ _ ra, z2, z3, q⟩
          · rw [if_neg hpb] at q; exact q.elim
        | true =>
          rw [if_pos rfl] at q ⊢
          refine he (S.to ⟨Fa, fpa, ρa, σa, Ha⟩ Fb fpb ρb Hb) _ okb ?_
          show Post E0 K (RD K) _ (ee ρb) _
          cases e3 : ee ρb with
          | ex x ρc => rw [e3] at q; exact q.elim
          | bad => rw [e3] at q; exact q.elim
          | ok d ρc =>
            rw [e3] at q
            intro v Fc fpc Hc okc Tc rc
            dsimp only at q
            by_cases hpc : plainAt ρc vs = true ∧ accD.length < sizeLine
            · rw [if_pos hpc] at q
              have Tz := (T2.trans (Ta.trans Tb)).trans Tc
              obtain ⟨z1, z2, z3⟩ := Tz.stay hDa fD nD
              have okd := okc.tmp (o := .lst (accV ++ [v])) z3 z2
              have Td := (T.trans Tz).tmp (o := .lst (accV ++ [v])) hD
              obtain ⟨oke, Te⟩ := okd.wiped hpc.1
              refine ⟨accV, z1, by rw [ra.length]; exact hpc.2, hlt, _, accV ++ [v], accD ++ [d], wa, rfl, oke, Td.trans Te, sm.trans Tz.ff, upd_same, (RpA.mono Tz.ff _ _ ra).append (.cons rc .nil), z2, fun z => ?_, q⟩
              obtain ⟨i', b', o', e', m'⟩ := z
              rcases Te.nw Da ⟨i', b', o', e', m'⟩ with y | y
              · have y' : upd Hc Da (.lst (accV ++ [v])) Da = none := y
                rw [upd_same] at y'
                cases y'
              · exact z3 y
            · rw [if_neg hpc] at q; exact q.elim
  · have e : i = xs.length := by omega
    subst e
    rw [List.drop_length] at q
    refine .inl ⟨io.stop Fs Hs sm ok.sub, ?_⟩
    simp only [compL] at q
    by_cases hp' : plainAt ρs vs = true
    · rw [if_pos hp'] at q
      obtain ⟨okb, Tb, ob⟩ := ok1.back hp ok T rfl sm hp'
      exact q _ _ _ _ okb Tb ⟨Da, [Da], rfl, .lst hDa ra, fun a ha => by
        have z : a = Da := by simpa using ha
        subst z
        exact ⟨fD, hD, fun w => nD (ob _ w)⟩⟩
    · rw [if_neg hp'] at q; exact q.elim
end
end
end DC
namespace DC
noncomputable section
open PySem PySem.Spec PyProof.Rows L2 G
/-! ### defs -/
/-- what a def is promised to do: g, of the slots of its parameters -/
def spD (K : PySem.W.Frag) (n : Nat) (g : M Ret) : Sp := fun vs H Q E => ∃ s0 : S, Ok K s0 ∧ s0.σ = vs.map some ∧ s0.H = H ∧ s0.ρ.length = n ∧ (∀ (i : Nat) (b : Bool) (o : O), s0.ρ[i]? = some (Sl.own b o) → b = true) ∧ Post E K (RetR K) s0 (g s0.ρ) Q
theorem spD_len {K : PySem.W.Frag} {n : Nat} {g : M Ret} {vs : List V} {H : Hp} {Q : VK} {E : XK} (h : spD K n g vs H Q E) : vs.length = n := by
  obtain ⟨s0, ok, e1, e2, e3, _⟩ := h
  have := ok.len
  rw [e1, List.length_map, e3] at this
  exact this
/-- the parameters' slots behind the body -/
def clos : List Sl → List Sl → List Sl
  | a :: as, x :: xs => (match a, x with
    | .own b _, .own _ o' => .own b o'
    | a, _ => a) :: clos as xs
  | as, _ => as
theorem clos_len : ∀ (as xs : List Sl), (clos as xs).length = as.length
  | [], _ => by simp [clos]
  | a :: as, [] => by simp [clos]
  | a :: as, x :: xs => by simp [clos, clos_len as xs]
theorem clos_get : ∀ {as xs : List Sl} {i : Nat} {y : Sl}, (clos as xs)[i]? = some y → as[i]? = some y ∨ ∃ b b' o o', as[i]? = some (Sl.own b o) ∧ xs[i]? = some (Sl.own b' o') ∧ y = Sl.own b o'
  | [], xs, i, y, e => by simp [clos] at e
  | a :: as, [], i, y, e => by
    simp only [clos] at e
    exact .inl e
  | a :: as, x :: xs, 0, y, e => by
    simp only [clos, List.getElem?_cons_zero, Option.some.injEq] at e
    subst e
    cases a with
    | own b o =>
      cases x with
      | own b' o' => exact .inr ⟨b, b', o, o', rfl, rfl, rfl⟩
      | _ => exact .inl rfl
    | _ => exact .inl rfl
  | a :: as, x :: xs, i + 1, y, e => by
    simp only [clos, List.getElem?_cons_succ] at e ⊢
    exact clos_get e
theorem clos_own : ∀ {as xs : List Sl} {i : Nat} {b b' : Bool} {o o' : O}, as[i]? = some (Sl.own b o) → xs[i]? = some (Sl.own b' o') → (clos as xs)[i]? = some (Sl.own b o')
  | [], xs, i, _, _, _, _, e, _ => by simp at e
  | a :: as, [], i, _, _, _, _, _, e => by simp at e
  | a :: as, x :: xs, 0, _, _, _, _, e, e' => by
    simp only [List.getElem?_cons_zero, Option.some.injEq] at e e'
    subst e
    subst e'
    simp [clos]
  | a :: as, x :: xs, i + 1, _, _, _, _, e, e' => by
    simp only [clos, List.getElem?_cons_succ] at e e' ⊢
    exact clos_own e e'
/-- a def that nothing raised leaves: m places more than parameters -/
def fnD (m : Nat) (body : W) : M Ret := fun as => match body (as ++ List.replicate m .un) with
  | .nx ρ => .ok (.d .non) (clos as ρ)
  | .rt r ρ => .ok r (clos as ρ)
  | _ => .bad
section
variable {K : PySem.W.Frag}
theorem app_get {α : Type} {l : List α} {m : Nat} {x y : α} {i : Nat} (h : (l ++ List.replicate m x)[i]? = some y) : l[i]? = some y ∨ (y = x ∧ l.length ≤ i ∧ i < l.length + m) := by
  by_cases c : i < l.length
  · rw [List.getElem?_append_left c] at h
    exact .inl h
  · rw [List.getElem?_append_right (by omega), List.getElem?_replicate] at h
    split at h
    · cases h
      exact .inr ⟨rfl, by omega, by omega⟩
    · cases h
theorem app_l {α : Type} {l r : List α} {y : α} {i : Nat} (h : l[i]? = some y) : (l ++ r)[i]? = some y := by
  rw [List.getElem?_append_left (List.getElem?_eq_some_iff.mp h).1]
  exact h
/-- the entry: the other names are unset -/
theorem Ok.entry {s0 : S} {m : Nat} (R : Ok K s0) : Ok K { s0 with ρ := s0.ρ ++ List.replicate m .un, σ := s0.σ ++ List.replicate m none } := by
  have ow : ∀ {i b o}, (s0.ρ ++ List.replicate m Sl.un)[i]? = some (Sl.own b o) → s0.ρ[i]? = some (Sl.own b o) := fun {i b o} e => by
    rcases app_get e with h | ⟨h, _⟩
    · exact h
    · cases h
  refine ⟨by simp [R.len], R.sub, fun i e => ?_, fun i d e => ?_, fun i b o e => ?_, fun i j b b' o o' n e e' => R.sep i j b b' o o' n (ow e) (ow e')⟩
  · rcases app_get e with h | ⟨_, h1, h2⟩
    · exact app_l (R.un i h)
    · show (s0.σ ++ List.replicate m none)[i]? = some none
      rw [List.getElem?_append_right (by rw [R.len]; exact h1), List.getElem?_replicate, if_pos (by rw [R.len]; omega)]
  · rcases app_get e with h | ⟨h, _⟩
    · obtain ⟨v, h1, h2⟩ := R.dat i d h
      exact ⟨v, app_l h1, h2⟩
    · cases h
  · obtain ⟨p, h1, h2⟩ := R.own i b o (ow e)
    exact ⟨p, app_l h1, h2⟩
theorem entry_ow {s0 : S} {m : Nat} {a : Addr} : Ow { s0 with ρ := s0.ρ ++ List.replicate m .un, σ := s0.σ ++ List.replicate m none } a ↔ Ow s0 a := by
  constructor
  · rintro ⟨i, b, o, e, h⟩
    rcases app_get e with z | ⟨z, _⟩
    · exact ⟨i, b, o, z, h⟩
    · cases z
  · rintro ⟨i, b, o, e, h⟩
    exact ⟨i, b, o, app_l e, h⟩
/-- the exit -/
theorem Ok.exit {s0 s1 : S} {m : Nat} (R : Ok K s0) (hp : ∀ (i : Nat) (b : Bool) (o : O), s0.ρ[i]? = some (Sl.own b o) → b = true) (R1 : Ok K s1) (T : Tr { s0 with ρ := s0.ρ ++ List.replicate m .un, σ := s0.σ ++ List.replicate m none } s1) :
    Ok K (s0.to s1.F s1.fp (clos s0.ρ s1.ρ) s1.H) ∧ Tr s0 (s0.to s1.F s1.fp (clos s0.ρ s1.ρ) s1.H) ∧ ∀ a, Ow (s0.to s1.F s1.fp (clos s0.ρ s1.ρ) s1.H) a → Ow s1 a := by
  have ow : ∀ {i b o}, (clos s0.ρ s1.ρ)[i]? = some (Sl.own b o) → b = true ∧ (∃ o0, s0.ρ[i]? = some (Sl.own true o0)) ∧ s1.ρ[i]? = some (Sl.own true o) ∧ s1.σ[i]? = s0.σ[i]? := fun {i b o} e => by
    have key : ∀ {b0 o0}, s0.ρ[i]? = some (Sl.own b0 o0) → b0 = true ∧ (∃ o1, s1.ρ[i]? = some (Sl.own true o1)) ∧ s1.σ[i]? = s0.σ[i]? := fun {b0 o0} h => by
      have hb := hp _ _ _ h
      subst hb
      obtain ⟨h1, ⟨o1, h2⟩, _⟩ := T.pr i o0 (app_l h)
      refine ⟨rfl, ⟨o1, h2⟩, h1.trans ?_⟩
      show (s0.σ ++ List.replicate m none)[i]? = s0.σ[i]?
      rw [List.getElem?_append_left (by rw [R.len]; exact (List.getElem?_eq_some_iff.mp h).1)]
    rcases clos_get e with h | ⟨b0, b1, o0, o1, h1, h2, h3⟩
    · obtain ⟨rfl, ⟨o1, h2⟩, h3⟩ := key h
      have z := clos_own h h2
      rw [e] at z
      cases z
      exact ⟨rfl, ⟨_, h⟩, h2, h3⟩
    · cases h3
      obtain ⟨rfl, ⟨o2, h4⟩, h5⟩ := key h1
      rw [h2] at h4
      cases h4
      exact ⟨rfl, ⟨_, h1⟩, h2, h5⟩
  have oo : ∀ a, Ow (s0.to s1.F s1.fp (clos s0.ρ s1.ρ) s1.H) a → Ow s1 a := fun a ⟨i, b, o, e, h⟩ => ⟨i, true, o, (ow e).2.2.1, h⟩
  refine ⟨⟨by rw [clos_len]; exact R.len, R1.sub, fun i e => ?_, fun i d e => ?_, fun i b o e => ?_, fun i j b b' o o' n e e' => R1.sep i j true true o o' n (ow e).2.2.1 (ow e').2.2.1⟩,
    ⟨T.ff, fun a u e n => T.st a u e fun z => n (entry_ow.mp z), T.hs, fun a z => (T.nw a (oo a z)).imp id entry_ow.mp, fun a ⟨i, o, e, h⟩ => ?_, fun a u e => ?_, fun i o e => ?_, fun i o e => ?_⟩, oo⟩
  · rcases clos_get e with h | ⟨_, _, _, _, _, _, h⟩
    · exact R.un i h
    · cases h
  · rcases clos_get e with h | ⟨_, _, _, _, _, _, h⟩
    · obtain ⟨v, h1, h2⟩ := R.dat i d h
      exact ⟨v, h1, h2.mono T.ff⟩
    · cases h
  · obtain ⟨rfl, _, h2, h3⟩ := ow e
    obtain ⟨p, z1, z2⟩ := R1.own i true o h2
    exact ⟨p, h3.symm.trans z1, z2⟩
  · have z := (ow e).1
    cases z
  · rcases T.fn a u e with z | z | ⟨i, o, z, h⟩
    · exact .inl z
    · exact .inr (.inl z)
    · rcases app_get z with y | ⟨y, _⟩
      · have := hp _ _ _ y
        cases this
      · cases y
  · obtain ⟨h1, ⟨o1, h2⟩, h3⟩ := T.pr i o (app_l e)
    exact ⟨rfl, ⟨o1, clos_own e h2⟩, h3⟩
  · exact (ow e).2.1
/-- a def's promise by its body -/
theorem fgD {P : Program} {w : World} {mg : Str → Option Value} {base : Heap} {k n m : Nat} {f : Addr} {fd : FuncData} {ps N : List Str} {x qual : Str} {st : Stmt} {ex : W} (F : Fun K x qual st f fd) (Sc : FnScope N ps (defScope st)) (hn : ps.length = n) (hm : N.length - n = m)
    (hbody : ∀ (cdv : Value) (A : Around) (outer : List Env) (s : Shared) (H : Hp) (E : XK), (A.deeper (envOfC qual (defScope st) s.heap.objs.size f cdv)).guards = some [] → Room k (A.deeper (envOfC qual (defScope st) s.heap.objs.size f cdv)) →
      ∃ t, PSs (cxOf CX0 P w K mg base N qual (defScope st) f cdv A outer s H E).nox (defBody st) t ∧ AS E0 K t ex) :
    FG P w K mg base CX0 (k + 1) f fd ps (spD K n (fnD m ex)) := by
  refine fun_okG F Sc (fun vs H Q E h => (spD_len h).trans hn.symm) (fun cdv A outer s H vs Q E gd hr h => ?_)
  obtain ⟨t, d, a⟩ := hbody cdv A outer s H E gd hr
  refine ⟨t, d, ?_⟩
  have hl := spD_len h
  obtain ⟨s0, ok, e1, rfl, e3, hp, q⟩ := h
  have es : L2.start N vs = s0.σ ++ List.replicate m none := by
    unfold L2.start
    rw [e1, hl, hm]
  rw [es]
  refine a { s0 with ρ := s0.ρ ++ List.replicate m .un, σ := s0.σ ++ List.replicate m none } _ ok.entry ?_
  have q' : Post E K (RetR K) s0 (fnD m ex s0.ρ) Q := q
  unfold fnD at q'
  show PostS E0 K _ (ex (s0.ρ ++ List.replicate m .un)) _
  cases ee : ex (s0.ρ ++ List.replicate m .un) with
  | nx ρ' =>
    rw [ee] at q'
    intro σ' F' fp' H' ok1 T
    obtain ⟨o1, T1, _⟩ := ok.exit hp ok1 T
    exact q' _ _ _ _ o1 T1 .non
  | rt r ρ' =>
    rw [ee] at q'
    intro v σ' F' fp' H' ok1 T rr
    obtain ⟨o1, T1, oo⟩ := ok.exit hp ok1 T
    refine q' v _ _ _ o1 T1 ?_
    cases r with
    | d x => exact rr
    | o x =>
      obtain ⟨p, l, z1, z2, z3⟩ := rr
      refine ⟨p, l, z1, z2, fun a ha => ⟨(z3 a ha).1, (z3 a ha).2.1.elim id fun w => ?_, fun w => (z3 a ha).2.2 (oo a w)⟩⟩
      obtain ⟨i, o, e, _⟩ := w
      rcases app_get e with y | ⟨y, _⟩
      · have := hp _ _ _ y
        cases this
      · cases y
  | bk ρ' => rw [ee] at q'; exact q'.elim
  | ct ρ' => rw [ee] at q'; exact q'.elim
  | ex x ρ' => rw [ee] at q'; exact q'.elim
  | bad => rw [ee] at q'; exact q'.elim
end
/-! ### calls -/
def argSl (ρ : List Sl) : Rf → Option Sl
  | .d x => some (.dat x)
  | .sl i => match ρ[i]? with
    | some (.own _ o) => some (.own true o)
    | some (.dat d) => some (.dat d)
    | _ => none
def argSls (ρ : List Sl) : List Rf → Option (List Sl)
  | [] => some []
  | r :: rs => match argSl ρ r, argSls ρ rs with
    | some a, some as => some (a :: as)
    | _, _ => none
def isSl (i : Nat) : Rf → Bool
  | .sl k => k == i
  | _ => false
def posOf (rs : List Rf) (i : Nat) : Option Nat := rs.findIdx? (isSl i)
def isOwn : Option Sl → Bool
  | some (.own _ _) => true
  | _ => false
/-- no thing of one's own is handed over twice -/
def apart (ρ : List Sl) (rs : List Rf) : Bool := (List.range rs.length).all fun j => match rs[j]? with
  | some (.sl i) => (posOf rs i == some j) || !isOwn ρ[i]?
  | _ => true
def backS (rs : List Rf) (os : List Sl) (i : Nat) (x : Sl) : Sl := match x, (posOf rs i).bind (os[·]?) with
  | .own b _, some (.own _ o') => .own b o'
  | x, _ => x
def backW (ρ : List Sl) (rs : List Rf) (os : List Sl) : List Sl := ρ.mapIdx (backS rs os)
/-- f(..), which nothing raised leaves -/
def callW (g : M Ret) (rs : List Rf) : M Ret := fun ρ => match argSls ρ rs with
  | some as => if apart ρ rs = true then (match g as with
    | .ok r os => .ok r (backW ρ rs os)
    | _ => .bad) else .bad
  | none => .bad
def evCall (g : M Ret) (el : M (List Rf)) : M Ret := fun ρ => (el ρ).bind fun rs ρ1 => callW g rs ρ1
def AC (E : XK) (K : PySem.W.Frag) (t : TE) (ev : M Ret) : Prop := ∀ s Q, Ok K s → Post E K (RetR K) s (ev s.ρ) Q → t s.σ s.H Q
section
variable {E : XK} {K : PySem.W.Frag} {t : TE} {tl : TA} {el : M (List Rf)} {g : M Ret}
theorem shR : Shift (RetR K) := fun s s' s'' b a T e h => by
  cases a with
  | d x => exact h
  | o x => exact shO s s' s'' b x T e h
theorem argSls_get : ∀ {ρ : List Sl} {rs : List Rf} {as : List Sl} {j : Nat} {a : Sl}, argSls ρ rs = some as → as[j]? = some a → ∃ r, rs[j]? = some r ∧ argSl ρ r = some a
  | ρ, [], as, j, a, e, h => by cases e; simp at h
  | ρ, r :: rs, as, j, a, e, h => by
    simp only [argSls] at e
    split at e
    · rename_i a0 as0 e1 e2
      cases e
      cases j with
      | zero => simp at h; subst h; exact ⟨r, rfl, e1⟩
      | succ j =>
        obtain ⟨r', h1, h2⟩ := argSls_get (j := j) e2 (by simpa using h)
        exact ⟨r', by simpa using h1, h2⟩
    · cases e
theorem argSls_len : ∀ {ρ : List Sl} {rs : List Rf} {as : List Sl}, argSls ρ rs = some as → as.length = rs.length
  | ρ, [], as, e => by cases e; rfl
  | ρ, r :: rs, as, e => by
    simp only [argSls] at e
    split at e
    · rename_i a0 as0 e1 e2
      cases e
      simp [argSls_len e2]
    · cases e
theorem argSl_own {ρ : List Sl} {r : Rf} {b : Bool} {o : O} (h : argSl ρ r = some (Sl.own b o)) : b = true ∧ ∃ i b0, r = .sl i ∧ ρ[i]? = some (Sl.own b0 o) := by
  cases r with
  | d x => cases h
  | sl i =>
    simp only [argSl] at h
    split at h
    · rename_i b0 o0 e
      cases h
      exact ⟨rfl, i, b0, rfl, e⟩
    · cases h
    · cases h
theorem RfRs.get {F : Hp} {σ : L2.St} : ∀ {vs : List V} {rs : List Rf} {j : Nat} {r : Rf}, RfRs K F σ vs rs → rs[j]? = some r → ∃ v, vs[j]? = some v ∧ RfR K F σ v r
  | _, _, _, _, .nil, e => by simp at e
  | _, _, 0, _, .cons h _, e => by simp at e; subst e; exact ⟨_, rfl, h⟩
  | _, _, j + 1, _, .cons _ t, e => by
    obtain ⟨v, h1, h2⟩ := RfRs.get (j := j) t (by simpa using e)
    exact ⟨v, by simpa using h1, h2⟩
theorem RfRs.len {F : Hp} {σ : L2.St} : ∀ {vs : List V} {rs : List Rf}, RfRs K F σ vs rs → vs.length = rs.length
  | _, _, .nil => rfl
  | _, _, .cons _ t => by simp [RfRs.len t]
theorem apart_pos {ρ : List Sl} {rs : List Rf} {i j : Nat} (h : apart ρ rs = true) (e : rs[j]? = some (.sl i)) (o : isOwn ρ[i]? = true) : posOf rs i = some j := by
  have l : j < rs.length := (List.getElem?_eq_some_iff.mp e).1
  have z := List.all_eq_true.mp h j (List.mem_range.mpr l)
  rw [e] at z
  simp only [o, Bool.not_true, Bool.or_false, beq_iff_eq] at z
  exact z
theorem posOf_get {rs : List Rf} {i j : Nat} (h : posOf rs i = some j) : rs[j]? = some (.sl i) := by
  obtain ⟨h1, h2, _⟩ := List.findIdx?_eq_some_iff_getElem.mp h
  rw [List.getElem?_eq_getElem h1]
  cases q : rs[j] with
  | d x => rw [q] at h2; cases h2
  | sl k =>
    rw [q] at h2
    have : k = i := by simpa [isSl] using h2
    rw [this]
/-- where the callee begins -/
def inS (s : S) (rs : List Rf) (as : List Sl) (vs : List V) : S := ⟨s.F, fun j => match rs[j]? with
  | some (.sl i) => s.fp i
  | _ => [], as, vs.map some, s.H⟩
theorem inS_fp {s : S} {rs : List Rf} {as : List Sl} {vs : List V} {i j : Nat} (h : rs[j]? = some (.sl i)) : (inS s rs as vs).fp j = s.fp i := by
  show (match rs[j]? with
    | some (.sl i) => s.fp i
    | _ => []) = s.fp i
  rw [h]
theorem Ok.enter {s : S} {rs : List Rf} {as : List Sl} {vs : List V} (R : Ok K s) (rr : RfRs K s.F s.σ vs rs) (ha : argSls s.ρ rs = some as) (hp : apart s.ρ rs = true) :
    Ok K (inS s rs as vs) ∧ (∀ (i : Nat) (b : Bool) (o : O), as[i]? = some (Sl.own b o) → b = true) ∧ ∀ a, Ow (inS s rs as vs) a → Ow s a := by
  have ow : ∀ {j b o}, as[j]? = some (Sl.own b o) → b = true ∧ ∃ i b0, rs[j]? = some (.sl i) ∧ s.ρ[i]? = some (Sl.own b0 o) ∧ posOf rs i = some j := fun {j b o} e => by
    obtain ⟨r, h1, h2⟩ := argSls_get ha e
    obtain ⟨rfl, i, b0, rfl, h3⟩ := argSl_own h2
    exact ⟨rfl, i, b0, h1, h3, apart_pos hp h1 (by rw [h3]; rfl)⟩
  refine ⟨⟨by simp [inS, argSls_len ha, rr.len], R.sub, fun j e => ?_, fun j d e => ?_, fun j b o e => ?_, fun j k b b' o o' n e e' => ?_⟩, fun j b o e => (ow e).1, fun a ⟨j, b, o, e, m⟩ => ?_⟩
  · obtain ⟨r, h1, h2⟩ := argSls_get ha e
    cases r with
    | d x => cases h2
    | sl i =>
      simp only [argSl] at h2
      split at h2 <;> cases h2
  · obtain ⟨r, h1, h2⟩ := argSls_get ha e
    obtain ⟨v, h3, h4⟩ := rr.get h1
    refine ⟨v, by show (vs.map some)[j]? = _; rw [List.getElem?_map, h3]; rfl, ?_⟩
    cases r with
    | d x => cases h2; exact h4
    | sl i =>
      have h4' : s.σ[i]? = some (some v) := h4
      simp only [argSl] at h2
      split at h2
      · cases h2
      · rename_i d0 e0
        cases h2
        obtain ⟨w, z1, z2⟩ := R.dat i _ e0
        rw [h4'] at z1
        cases z1
        exact z2
      · cases h2
  · obtain ⟨rfl, i, b0, h1, h2, _⟩ := ow e
    obtain ⟨p, z1, z2, z3⟩ := R.own i b0 o h2
    obtain ⟨v, h3, h4⟩ := rr.get h1
    have h4' : s.σ[i]? = some (some v) := h4
    rw [z1] at h4'
    cases h4'
    rw [inS_fp h1]
    exact ⟨p, by show (vs.map some)[j]? = _; rw [List.getElem?_map, h3]; rfl, z2, z3⟩
  · obtain ⟨_, i, b0, h1, h2, h3⟩ := ow e
    obtain ⟨_, i', b1, g1, g2, g3⟩ := ow e'
    rw [inS_fp h1, inS_fp g1]
    refine R.sep i i' b0 b1 o o' (fun z => ?_) h2 g2
    subst z
    rw [h3] at g3
    cases g3
    exact n rfl
  · obtain ⟨_, i, b0, h1, h2, _⟩ := ow e
    rw [inS_fp h1] at m
    exact ⟨i, b0, o, h2, m⟩
theorem backW_get {ρ : List Sl} {rs : List Rf} {os : List Sl} {i : Nat} : (backW ρ rs os)[i]? = ρ[i]?.map (backS rs os i) := by
  unfold backW
  rw [List.getElem?_mapIdx]
/-- .. and where the caller goes on -/
def outS (s : S) (rs : List Rf) (s1 : S) : S := ⟨s1.F, fun i => match posOf rs i, s.ρ[i]? with
  | some j, some (.own _ _) => s1.fp j
  | _, _ => s.fp i, backW s.ρ rs s1.ρ, s.σ, s1.H⟩
theorem Ok.leave {s s1 : S} {rs : List Rf} {as : List Sl} {vs : List V} (R : Ok K s) (rr : RfRs K s.F s.σ vs rs) (ha : argSls s.ρ rs = some as) (hp : apart s.ρ rs = true) (R1 : Ok K s1) (T : Tr (inS s rs as vs) s1) (e1 : s1.σ = vs.map some) :
    Ok K (outS s rs s1) ∧ Tr s (outS s rs s1) ∧ ∀ a, Ow (outS s rs s1) a → Ow s1 a ∨ (Ow s a ∧ ¬ Ow (inS s rs as vs) a) := by
  obtain ⟨R0, h0, o0⟩ := R.enter rr ha hp
  -- own slots: passed at j, or not passed
  have ow : ∀ {i b o}, (backW s.ρ rs s1.ρ)[i]? = some (Sl.own b o) → (∃ j o1, posOf rs i = some j ∧ s.ρ[i]? = some (Sl.own b o1) ∧ as[j]? = some (Sl.own true o1) ∧ s1.ρ[j]? = some (Sl.own true o) ∧ (outS s rs s1).fp i = s1.fp j ∧ s1.σ[j]? = s.σ[i]? ∧ ∀ a ∈ s1.fp j, a ∈ s.fp i ∨ s.H a = none) ∨
      (posOf rs i = none ∧ s.ρ[i]? = some (Sl.own b o) ∧ (outS s rs s1).fp i = s.fp i) := fun {i b o} e => by
    rw [backW_get] at e
    cases q : s.ρ[i]? with
    | none => rw [q] at e; cases e
    | some x =>
      rw [q] at e
      have e : backS rs s1.ρ i x = Sl.own b o := Option.some.inj e
      cases x with
      | un => simp only [backS] at e; cases e
      | dat d => simp only [backS] at e; cases e
      | own b0 o1 =>
        cases hj : posOf rs i with
        | none =>
          right
          simp only [backS, hj, Option.bind_none] at e
          cases e
          refine ⟨rfl, rfl, ?_⟩
          show (match posOf rs i, s.ρ[i]? with
            | some j, some (.own _ _) => s1.fp j
            | _, _ => s.fp i) = s.fp i
          rw [hj]
        | some j =>
          left
          have hr := posOf_get hj
          have l : j < as.length := by rw [argSls_len ha]; exact (List.getElem?_eq_some_iff.mp hr).1
          obtain ⟨r, g1, g2⟩ := argSls_get ha (List.getElem?_eq_getElem l)
          rw [hr] at g1
          cases g1
          simp only [argSl, q] at g2
          have g3 : as[j]? = some (Sl.own true o1) := by rw [List.getElem?_eq_getElem l]; exact g2.symm
          obtain ⟨t1, ⟨o2, t2⟩, t3⟩ := T.pr j o1 g3
          simp only [backS, hj, Option.bind_some, t2] at e
          cases e
          refine ⟨j, o1, rfl, rfl, g3, t2, ?_, ?_, ?_⟩
          · show (match posOf rs i, s.ρ[i]? with
              | some j, some (.own _ _) => s1.fp j
              | _, _ => s.fp i) = s1.fp j
            rw [hj, q]
          · rw [t1]
            obtain ⟨v, h3, h4⟩ := rr.get hr
            have h4' : s.σ[i]? = some (some v) := h4
            show (vs.map some)[j]? = _
            rw [List.getElem?_map, h3, h4']
            rfl
          · intro a ha
            rcases t3 a ha with z | z
            · rw [inS_fp hr] at z; exact .inl z
            · exact .inr z
  -- what is not passed is not the callee's
  have out : ∀ {i b o}, posOf rs i = none → s.ρ[i]? = some (Sl.own b o) → ∀ a ∈ s.fp i, ¬ Ow (inS s rs as vs) a := fun {i b o} hn e a ha' z => by
    obtain ⟨j, b1, o1, e1, m⟩ := z
    obtain ⟨r, h1, h2⟩ := argSls_get ha e1
    obtain ⟨_, i', b0, rfl, h3⟩ := argSl_own h2
    rw [inS_fp h1] at m
    by_cases q : i = i'
    · subst q
      have := apart_pos hp h1 (by rw [h3]; rfl)
      rw [hn] at this
      cases this
    · exact R.sep i i' b b0 o o1 q e h3 a ha' m
  have lo0 : ∀ a, ¬ Lo (inS s rs as vs) a := fun a ⟨j, o, e, _⟩ => by
    have := h0 j false o e
    cases this
  refine ⟨⟨?_, R1.sub, fun i e => ?_, fun i d e => ?_, fun i b o e => ?_, fun i k b b' o o' n e e' => ?_⟩,
    ⟨T.ff, fun a u e n => T.st a u e fun z => n (o0 a z), T.hs, fun a ⟨i, b, o, e, m⟩ => ?_, fun a ⟨i, o, e, m⟩ => ?_, fun a u e => ?_, fun i o e => ?_, fun i o e => ?_⟩, fun a ⟨i, b, o, e, m⟩ => ?_⟩
  · show s.σ.length = (backW s.ρ rs s1.ρ).length
    unfold backW
    rw [List.length_mapIdx]
    exact R.len
  · have e : (backW s.ρ rs s1.ρ)[i]? = some Sl.un := e
    rw [backW_get] at e
    cases q : s.ρ[i]? with
    | none => rw [q] at e; cases e
    | some x =>
      rw [q] at e
      have e : backS rs s1.ρ i x = Sl.un := Option.some.inj e
      cases x with
      | un => exact R.un i q
      | dat d => simp only [backS] at e; cases e
      | own b0 o1 =>
        simp only [backS] at e
        split at e <;> cases e
  · have e : (backW s.ρ rs s1.ρ)[i]? = some (Sl.dat d) := e
    rw [backW_get] at e
    cases q : s.ρ[i]? with
    | none => rw [q] at e; cases e
    | some x =>
      rw [q] at e
      have e : backS rs s1.ρ i x = Sl.dat d := Option.some.inj e
      cases x with
      | un => simp only [backS] at e; cases e
      | dat d' =>
        simp only [backS] at e
        cases e
        obtain ⟨v, z1, z2⟩ := R.dat i _ q
        exact ⟨v, z1, Rp.mono T.ff _ _ z2⟩
      | own b0 o1 =>
        simp only [backS] at e
        split at e <;> cases e
  · rcases ow e with ⟨j, o1, h1, h2, h3, h4, h5, h6, h7⟩ | ⟨h1, h2, h3⟩
    · rw [h5]
      obtain ⟨p, z1, z2, z3⟩ := R1.own j true o h4
      exact ⟨p, h6.symm.trans z1, z2, z3⟩
    · rw [h3]
      obtain ⟨p, z1, z2, z3⟩ := R.own i b o h2
      have nn := out h1 h2
      refine ⟨p, z1, z2.mono T.ff fun a ha' u q => T.st a u q (nn a ha'), fun a ha' => ?_⟩
      show s1.F a = none
      cases q : s1.F a with
      | none => rfl
      | some u =>
        rcases T.fn a u q with y | y | y
        · rw [show (inS s rs as vs).F a = s.F a from rfl, z3 a ha'] at y; cases y
        · exact absurd y (z2.has a ha')
        · exact absurd y (lo0 a)
  · rcases ow e with ⟨j, o1, h1, h2, h3, h4, h5, h6, h7⟩ | ⟨h1, h2, h3⟩
    · rcases ow e' with ⟨j', o1', g1, g2, g3, g4, g5, g6, g7⟩ | ⟨g1, g2, g3⟩
      · rw [h5, g5]
        refine R1.sep j j' true true o o' (fun z => ?_) h4 g4
        subst z
        have a1 := posOf_get h1
        have a2 := posOf_get g1
        rw [a1] at a2
        cases a2
        exact n rfl
      · rw [h5, g3]
        intro a ha' hb
        rcases h7 a ha' with z | z
        · exact R.sep i k b b' o1 o' n h2 g2 a z hb
        · exact R.has ⟨k, b', o', g2, hb⟩ z
    · rcases ow e' with ⟨j', o1', g1, g2, g3, g4, g5, g6, g7⟩ | ⟨g1, g2, g3⟩
      · rw [h3, g5]
        intro a ha' hb
        rcases g7 a hb with z | z
        · exact R.sep i k b b' o o1' n h2 g2 a ha' z
        · exact R.has ⟨i, b, o, h2, ha'⟩ z
      · rw [h3, g3]
        exact R.sep i k b b' o o' n h2 g2
  · rcases ow e with ⟨j, o1, h1, h2, h3, h4, h5, h6, h7⟩ | ⟨h1, h2, h3⟩
    · rw [h5] at m
      exact (h7 a m).elim (fun z => .inr ⟨i, b, o1, h2, z⟩) .inl
    · rw [h3] at m
      exact .inr ⟨i, b, o, h2, m⟩
  · rcases ow e with ⟨j, o1, h1, h2, h3, h4, h5, h6, h7⟩ | ⟨h1, h2, h3⟩
    · rw [h5] at m
      exact (h7 a m).elim (fun z => .inr ⟨i, o1, h2, z⟩) .inl
    · rw [h3] at m
      exact .inr ⟨i, o, h2, m⟩
  · rcases T.fn a u e with z | z | z
    · exact .inl z
    · exact .inr (.inl z)
    · exact absurd z (lo0 a)
  · have bw : (backW s.ρ rs s1.ρ)[i]? = some (backS rs s1.ρ i (Sl.own true o)) := by rw [backW_get, e]; rfl
    have ex : ∃ o', backS rs s1.ρ i (Sl.own true o) = Sl.own true o' := by
      simp only [backS]
      split
      · rename_i h _
        cases h
        exact ⟨_, rfl⟩
      · exact ⟨_, rfl⟩
    obtain ⟨o', ho'⟩ := ex
    rw [ho'] at bw
    refine ⟨rfl, ⟨o', bw⟩, fun a m => ?_⟩
    rcases ow bw with ⟨j, o1, h1, h2, h3, h4, h5, h6, h7⟩ | ⟨h1, h2, h3⟩
    · rw [h5] at m; exact h7 a m
    · rw [h3] at m; exact .inl m
  · rcases ow e with ⟨j, o1, h1, h2, _⟩ | ⟨_, h2, _⟩
    · exact ⟨o1, h2⟩
    · exact ⟨o, h2⟩
  · rcases ow e with ⟨j, o1, h1, h2, h3, h4, h5, h6, h7⟩ | ⟨h1, h2, h3⟩
    · rw [h5] at m
      exact .inl ⟨j, true, o, h4, m⟩
    · rw [h3] at m
      exact .inr ⟨⟨i, b, o, h2, m⟩, out h1 h2 a m⟩
/-- a call keeps what its def is promised to do -/
theorem call_post {s : S} {rs : List Rf} {vs : List V} {n : Nat} {Q : VK} {E1 : XK} (ok : Ok K s) (rr : RfRs K s.F s.σ vs rs) (hn : rs.length = n) (h : Post E K (RetR K) s (callW g rs s.ρ) Q) : spD K n g vs s.H Q E1 := by
  unfold callW at h
  cases ha : argSls s.ρ rs with
  | none => rw [ha] at h; exact h.elim
  | some as =>
    rw [ha] at h
    dsimp only at h
    by_cases hp : apart s.ρ rs = true
    rotate_left
    · rw [if_neg hp] at h; exact h.elim
    rw [if_pos hp] at h
    obtain ⟨R0, h0, o0⟩ := ok.enter rr ha hp
    refine ⟨inS s rs as vs, R0, rfl, rfl, (argSls_len ha).trans hn, h0, ?_⟩
    show Post E1 K (RetR K) _ (g as) Q
    cases eg : g as with
    | ex x os => rw [eg] at h; exact h.elim
    | bad => rw [eg] at h; exact h.elim
    | ok r os =>
      rw [eg] at h
      intro v F' fp' H' ok1 T rv
      obtain ⟨ok2, T2, oo⟩ := ok.leave rr ha hp ok1 T rfl
      refine h v _ _ _ ok2 T2 ?_
      cases r with
      | d x => exact rv
      | o x =>
        obtain ⟨p, l, z1, z2, z3⟩ := rv
        refine ⟨p, l, z1, z2, fun a ha' => ⟨(z3 a ha').1, (z3 a ha').2.1, fun w => ?_⟩⟩
        rcases oo a w with y | ⟨y, _⟩
        · exact (z3 a ha').2.2 y
        · exact ok.has y (z3 a ha').2.1
theorem ac_call {n : Nat} (ha : AL E K tl el) (hn : ∀ s rs ρ', el s = .ok rs ρ' → rs.length = n) : AC E K (tCall (spD K n g) [] E0 tl) (evCall g el) := by
  intro s Q R q
  refine ha s _ R ?_
  unfold evCall at q
  cases e : el s.ρ with
  | ex x ρ' => rw [e] at q; exact q
  | bad => rw [e] at q; exact q
  | ok rs ρ' =>
    rw [e] at q
    intro vs F' fp' H' ok T rr
    show spD K n g (vs ++ []) H' Q E0
    rw [List.append_nil]
    exact call_post (s := s.to F' fp' ρ' H') ok rr (hn _ _ _ e) (Post.shift q shR T rfl)
/-- its result as data; as a new thing of one's own -/
def retD (ev : M Ret) : M D := fun ρ => (ev ρ).bind fun r ρ1 => match r with
  | .d x => .ok x ρ1
  | .o o => .ok o.toD ρ1
def retO (ev : M Ret) : M O := fun ρ => (ev ρ).bind fun r ρ1 => match r with
  | .o o => .ok o ρ1
  | .d _ => .bad
theorem AC.data {ev : M Ret} (h : AC E K t ev) : AD E K t (retD ev) := by
  intro s Q R q
  refine h s Q R ?_
  unfold retD at q
  cases e : ev s.ρ with
  | ex x ρ1 => rw [e] at q; exact q
  | bad => rw [e] at q; exact q
  | ok r ρ1 =>
    rw [e] at q
    intro v F' fp' H' ok T rv
    cases r with
    | d x => exact q v F' fp' H' ok T rv
    | o o =>
      obtain ⟨p, l, rfl, ho, hn⟩ := rv
      have sm : Same F' (frz F' H' l) := frz_same fun a ha => (hn a ha).1
      obtain ⟨ok', T'⟩ := ok.iceNew T hn
      exact q _ _ _ _ ok' T' (ho.froz sm fun a ha => frz_in ha)
theorem AC.own {ev : M Ret} (h : AC E K t ev) : AO E K t (retO ev) := by
  intro s Q R q
  refine h s Q R ?_
  unfold retO at q
  cases e : ev s.ρ with
  | ex x ρ1 => rw [e] at q; exact q
  | bad => rw [e] at q; exact q
  | ok r ρ1 =>
    rw [e] at q
    intro v F' fp' H' ok T rv
    cases r with
    | d x => exact q.elim
    | o o => exact q v F' fp' H' ok T rv
end
end
end DC
namespace DC
noncomputable section
open PySem PySem.Spec PyProof.Rows L2 G
section
variable {E : XK} {K : PySem.W.Frag} {t ta tb te ti : TE} {tl : TA} {ea eb ei : M Rf} {el : M (List Rf)}
/-! ### arguments as data, displays -/
def evConsD (ea : M D) (er : M (List D)) : M (List D) := fun ρ => (ea ρ).bind fun a ρ1 => (er ρ1).bind fun as ρ2 => .ok (a :: as) ρ2
def evNilD : M (List D) := fun ρ => .ok [] ρ
def RA (K : PySem.W.Frag) : S → S → List V → List D → Prop := fun _ s vs ds => RpA K s.F vs ds
theorem shA : Shift (RA K) := fun _ _ _ _ _ _ _ h => h
def ALD (E : XK) (K : PySem.W.Frag) (t : TA) (ev : M (List D)) : Prop := ∀ s Q, Ok K s → Post E K (RA K) s (ev s.ρ) Q → t s.σ s.H Q
theorem ald_nil : ALD E K tNil evNilD := fun s Q R q => q [] s.F s.fp s.H R (Tr.refl _) .nil
theorem ald_cons {tr : TA} {da : M D} {er : M (List D)} (ha : AD E K ta da) (hr : ALD E K tr er) : ALD E K (tCons ta tr) (evConsD da er) := by
  intro s Q R q
  refine ha s _ R (Post.bind q shA fun a ρ1 v F1 fp1 H1 ok1 T1 rv1 q1 => ?_)
  refine hr (s.to F1 fp1 ρ1 H1) _ ok1 (Post.bind q1 shA fun as ρ2 vs F2 fp2 H2 ok2 T2 rv2 q2 => ?_)
  exact q2 _ F2 fp2 H2 ok2 (Tr.refl _) (.cons (Rp.mono T2.ff _ _ rv1) rv2)
def evTup (er : M (List D)) : M Rf := fun ρ => (er ρ).bind fun ds ρ1 => if ds.length ≤ sizeLine then .ok (.d (.tup ds)) ρ1 else .bad
theorem ae_tup {tr : TA} {er : M (List D)} (h : ALD E K tr er) : AE E K (tTup tr) (evTup er) := by
  intro s Q R q
  refine h s _ R (Post.bind q shV fun ds ρ1 vs F1 fp1 H1 ok1 T1 rv1 q1 => ?_)
  split at q1
  · rename_i hl
    refine ⟨by rw [RpA.length rv1]; exact hl, fun p hp => ?_⟩
    obtain ⟨ok2, T2⟩ := ok1.grow (Grow.one (o := .tup vs) ok1.sub hp)
    exact q1 _ _ _ _ ok2 T2 (.tup (.of upd_same) (RpA.mono T2.ff _ _ rv1))
  · exact q1.elim
def evLst (er : M (List D)) : M O := fun ρ => (er ρ).bind fun ds ρ1 => if ds.length ≤ sizeLine then .ok (.lst ds) ρ1 else .bad
theorem new_own {s s1 : S} {p : Addr} {o : HO} (ok1 : Ok K s1) (T1 : Tr s s1) (hp : s1.H p = none) :
    Ok K (s1.at s1.F (upd s1.H p o)) ∧ Tr s (s1.at s1.F (upd s1.H p o)) ∧ ∀ a ∈ [p], (s1.at s1.F (upd s1.H p o)).F a = none ∧ s.H a = none ∧ ¬ Ow (s1.at s1.F (upd s1.H p o)) a := by
  obtain ⟨ok2, T2⟩ := ok1.grow (Grow.tmp (o := o) ok1.sub hp)
  refine ⟨ok2, T1.trans T2, fun a ha => ?_⟩
  have z : a = p := by simpa using ha
  subst z
  exact ⟨ok1.sub.free hp, none_of_hs T1.hs hp, fun w => absurd hp (ok1.has w)⟩
theorem ao_lst {tr : TA} {er : M (List D)} (h : ALD E K tr er) : AO E K (tLst tr) (evLst er) := by
  intro s Q R q
  refine h s _ R ?_
  unfold evLst at q
  cases e : er s.ρ with
  | ex x ρ1 => rw [e] at q; exact q
  | bad => rw [e] at q; exact q
  | ok ds ρ1 =>
    rw [e] at q
    intro vs F1 fp1 H1 ok1 T1 rv1
    simp only [Out.bind] at q
    split at q
    · rename_i hl
      refine ⟨by rw [RpA.length rv1]; exact hl, fun p hp => ?_⟩
      obtain ⟨ok2, T2, n⟩ := new_own (s := s) (o := .lst vs) ok1 T1 hp
      exact q _ _ _ _ ok2 T2 ⟨p, [p], rfl, .lst upd_same rv1, n⟩
    · exact q.elim
def evDct : M O := fun ρ => .ok (.dk []) ρ
theorem ao_dnew : AO E K tDNewK evDct := by
  intro s Q R q p hp
  obtain ⟨ok2, T2, n⟩ := new_own (s := s) (o := .dK []) R (Tr.refl _) hp
  exact q _ _ _ _ ok2 T2 ⟨p, [p], rfl, .dk upd_same .nil, n⟩
def evDctT : M O := fun ρ => .ok (.dt []) ρ
theorem ao_dnewT : AO E K tDNewT evDctT := by
  intro s Q R q p hp
  obtain ⟨ok2, T2, n⟩ := new_own (s := s) (o := .dT []) R (Tr.refl _) hp
  exact q _ _ _ _ ok2 T2 ⟨p, [p], rfl, .dt upd_same .nil, n⟩
/-! ### a rule that makes a new list, as one's own -/
/-- of values, a new list: r x .. Q, by what it holds -/
def NwA {ι : Type} (K : PySem.W.Frag) (r : ι → Hp → VK → Prop) (V : Hp → Hp → ι → Prop) (xs : List D) : Prop := ∀ F H i Q, Same F H → V F H i → (∀ p vs, H p = none → RpA K F vs xs → Q (.ref p) (upd H p (.lst vs))) → r i H Q
/-- list + list -/
def catL : D → D → Option (List D)
  | .lst a, .lst b => if a.length + b.length ≤ sizeLine then some (a ++ b) else none
  | _, _ => none
/-- the list itself, not a frozen one of the caller's -/
def evOpO (f : D → D → Option (List D)) (ea eb : M Rf) : M O := fun ρ => (ea ρ).bind fun r1 ρ1 => (eb ρ1).bind fun r2 ρ2 => match vw ρ2 r1, vw ρ2 r2 with
  | some a, some b => lift ((f a b).map O.lst) ρ2
  | _, _ => .bad
def OpN (K : PySem.W.Frag) (r : R2) (f : D → D → Option (List D)) : Prop := ∀ F H x y a b c Q, Same F H → Vw K F H x a → Vw K F H y b → f a b = some c → (∀ p vs, H p = none → RpA K F vs c → Q (.ref p) (upd H p (.lst vs))) → r x y H Q
theorem ao_op {r : R2} {f : D → D → Option (List D)} (ok : OpN K r f) (ha : AE E K ta ea) (hb : AE E K tb eb) : AO E K (tOp r ta tb) (evOpO f ea eb) := by
  intro s Q R q
  refine ha s _ R ?_
  unfold evOpO at q
  cases e1 : ea s.ρ with
  | ex x ρ1 => rw [e1] at q; exact q
  | bad => rw [e1] at q; exact q
  | ok r1 ρ1 =>
    rw [e1] at q
    intro x F1 fp1 H1 ok1 T1 rv1
    simp only [Out.bind] at q
    refine hb (s.to F1 fp1 ρ1 H1) _ ok1 ?_
    show Post E K (RV K) _ (eb ρ1) _
    cases e2 : eb ρ1 with
    | ex x ρ2 => rw [e2] at q; exact Post.shift (R2 := RV K) (o := Out.ex x ρ2) q shV T1 rfl
    | bad => rw [e2] at q; exact q
    | ok r2 ρ2 =>
      rw [e2] at q
      intro y F2 fp2 H2 ok2 T2 rv2
      dsimp only at q
      split at q
      · rename_i a b ea eb
        cases e : f a b with
        | none => rw [e] at q; exact q.elim
        | some c =>
          rw [e] at q
          refine ok F2 H2 x y a b c Q ok2.sub (ok2.vw (RfR.mono T2.ff rv1) ea) (ok2.vw rv2 eb) e fun p vs hp rp => ?_
          obtain ⟨ok3, T3, n⟩ := new_own (s := s) (o := .lst vs) ok2 (T1.trans T2) hp
          exact q _ _ _ _ ok3 T3 ⟨p, [p], rfl, .lst upd_same rp, n⟩
      · exact q.elim
end
end
end DC
namespace DC
noncomputable section
open PySem PySem.Spec PyProof.Rows L2 G
/-! ### built-ins that make nothing new -/
section
variable {K : PySem.W.Frag}
def scrV (ns : List Int) : List D := ns.map D.int
/-- the items of a list, a tuple, the script -/
def items : D → Option (List D)
  | .lst ds => some ds
  | .tup ds => some ds
  | .scr ns => some (ns.map D.int)
  | _ => none
theorem items_of {F H : Hp} {v : V} {d : D} {ds : List D} (s : Same F H) (h : Vw K F H v d) (e : items d = some ds) : ∃ p vs, v = .ref p ∧ (SqL K H p vs ∨ SqT K H p vs) ∧ RpA K F vs ds := by
  cases d <;> simp [items] at e <;> subst e
  · obtain ⟨p, vs, rfl, h1, h2⟩ := h.lst s
    exact ⟨p, vs, rfl, .inl (.of h1), h2⟩
  · obtain ⟨p, vs, rfl, h1, h2⟩ := h.tup s
    exact ⟨p, vs, rfl, .inr h1, h2⟩
  · obtain ⟨p, rfl, h1⟩ := h.scr s
    exact ⟨p, _, rfl, .inl h1, rpa_ints _⟩
def fLen : List D → Option D
  | [d] => (items d).map fun ds => .int (ds.length : Int)
  | _ => none
theorem ca_len : CaA K (fun xs H Q => ∃ p ys, xs = [.ref p] ∧ (SqL K H p ys ∨ SqT K H p ys) ∧ Q (.int ys.length) H) fLen := by
  intro F H xs as c Q s h e q
  match as, e with
  | [d], e =>
    obtain ⟨v, rfl, w⟩ := h.one
    simp only [fLen, Option.map_eq_some_iff] at e
    obtain ⟨ds, e1, rfl⟩ := e
    obtain ⟨p, vs, rfl, h1, h2⟩ := items_of s w e1
    refine ⟨p, vs, rfl, h1, ?_⟩
    rw [h2.length]
    exact q _ F H (Grow.refl s) (.int _)
def fLenS : List D → Option D
  | [.str z] => if z.length ≤ sizeLine then some (.int (z.length : Int)) else none
  | _ => none
theorem ca_lenS : CaA K (fun xs H Q => ∃ z, xs = [.str z] ∧ z.length ≤ sizeLine ∧ Q (.int z.length) H) fLenS := by
  intro F H xs as c Q s h e q
  match as, e with
  | [.str z], e =>
    obtain ⟨v, rfl, w⟩ := h.one
    simp only [fLenS] at e
    split at e <;> cases e
    rename_i hz
    rw [w.str]
    exact ⟨z, rfl, hz, q _ F H (Grow.refl s) (.int _)⟩
def fInt : List D → Option D
  | [.int i] => some (.int i)
  | [.bl b] => some (.int (if b then 1 else 0))
  | _ => none
theorem ca_int : CaA K (fun xs H Q => (∃ i, xs = [.int i] ∧ Q (.int i) H) ∨ ∃ k, xs = [.bl k] ∧ Q (.int (if k then 1 else 0)) H) fInt := by
  intro F H xs as c Q s h e q
  match as, e with
  | [.int i], e =>
    obtain ⟨v, rfl, w⟩ := h.one
    cases e
    rw [w.int]
    exact .inl ⟨i, rfl, q _ F H (Grow.refl s) (.int _)⟩
  | [.bl b], e =>
    obtain ⟨v, rfl, w⟩ := h.one
    cases e
    rw [w.bl]
    exact .inr ⟨b, rfl, q _ F H (Grow.refl s) (.int _)⟩
def fAbs : List D → Option D
  | [.int i] => some (.int (if i < 0 then -i else i))
  | _ => none
theorem ca_abs : CaA K (fun xs H Q => ∃ i, xs = [.int i] ∧ Q (.int (if i < 0 then -i else i)) H) fAbs := by
  intro F H xs as c Q s h e q
  match as, e with
  | [.int i], e =>
    obtain ⟨v, rfl, w⟩ := h.one
    cases e
    rw [w.int]
    exact ⟨i, rfl, q _ F H (Grow.refl s) (.int _)⟩
def fMax2 : List D → Option D
  | [.int i, .int j] => some (.int (if j > i then j else i))
  | _ => none
def fMin2 : List D → Option D
  | [.int i, .int j] => some (.int (if j < i then j else i))
  | _ => none
theorem ca_max2 : CaA K (fun xs H Q => ∃ i j, xs = [.int i, .int j] ∧ Q (.int (if j > i then j else i)) H) fMax2 := by
  intro F H xs as c Q s h e q
  match as, e with
  | [.int i, .int j], e =>
    obtain ⟨v, w, rfl, h1, h2⟩ := h.two
    cases e
    rw [h1.int, h2.int]
    exact ⟨i, j, rfl, q _ F H (Grow.refl s) (.int _)⟩
theorem ca_min2 : CaA K (fun xs H Q => ∃ i j, xs = [.int i, .int j] ∧ Q (.int (if j < i then j else i)) H) fMin2 := by
  intro F H xs as c Q s h e q
  match as, e with
  | [.int i, .int j], e =>
    obtain ⟨v, w, rfl, h1, h2⟩ := h.two
    cases e
    rw [h1.int, h2.int]
    exact ⟨i, j, rfl, q _ F H (Grow.refl s) (.int _)⟩
def fStrI : List D → Option D
  | [.int i] => if i.natAbs.log2 < 1920 then some (.str (toString i)) else none
  | _ => none
theorem ca_strI : CaA K (fun xs H Q => ∃ i, xs = [.int i] ∧ i.natAbs.log2 < 1920 ∧ Q (.str (toString i)) H) fStrI := by
  intro F H xs as c Q s h e q
  match as, e with
  | [.int i], e =>
    obtain ⟨v, rfl, w⟩ := h.one
    simp only [fStrI] at e
    split at e <;> cases e
    rename_i hz
    rw [w.int]
    exact ⟨i, rfl, hz, q _ F H (Grow.refl s) (.str _)⟩
/-! lists of ints, of bools, of texts -/
def intsD : List D → Option (List Int)
  | [] => some []
  | .int i :: r => (intsD r).map (i :: ·)
  | _ => none
def blsD : List D → Option (List Bool)
  | [] => some []
  | .bl i :: r => (blsD r).map (i :: ·)
  | _ => none
def strsD : List D → Option (List Str)
  | [] => some []
  | .str i :: r => (strsD r).map (i :: ·)
  | _ => none
theorem ints_of {F : Hp} : ∀ {ds : List D} {vs : List V} {ns : List Int}, RpA K F vs ds → intsD ds = some ns → vs = ns.map V.int
  | [], _, _, .nil, e => by cases e; rfl
  | d :: r, _, ns, .cons h t, e => by
    cases d <;> simp only [intsD, Option.map_eq_some_iff] at e <;> try cases e
    rename_i h2
    obtain ⟨e1, rfl⟩ := h2
    cases h
    rw [ints_of t e1]
    rfl
theorem bls_of {F : Hp} : ∀ {ds : List D} {vs : List V} {ns : List Bool}, RpA K F vs ds → blsD ds = some ns → vs = ns.map V.bl
  | [], _, _, .nil, e => by cases e; rfl
  | d :: r, _, ns, .cons h t, e => by
    cases d <;> simp only [blsD, Option.map_eq_some_iff] at e <;> try cases e
    rename_i h2
    obtain ⟨e1, rfl⟩ := h2
    cases h
    rw [bls_of t e1]
    rfl
theorem strs_of {F : Hp} : ∀ {ds : List D} {vs : List V} {ns : List Str}, RpA K F vs ds → strsD ds = some ns → vs = ns.map V.str
  | [], _, _, .nil, e => by cases e; rfl
  | d :: r, _, ns, .cons h t, e => by
    cases d <;> simp only [strsD, Option.map_eq_some_iff] at e <;> try cases e
    rename_i h2
    obtain ⟨e1, rfl⟩ := h2
    cases h
    rw [strs_of t e1]
    rfl
def lstOf : D → Option (List D)
  | .lst ds => some ds
  | _ => none
theorem lstOf_of {F H : Hp} {v : V} {d : D} {ds : List D} (s : Same F H) (h : Vw K F H v d) (e : lstOf d = some ds) : ∃ p vs, v = .ref p ∧ H p = some (.lst vs) ∧ RpA K F vs ds := by
  cases d <;> simp [lstOf] at e
  subst e
  exact h.lst s
def fSum : List D → Option D
  | [d] => ((lstOf d).bind intsD).map fun ns => .int ns.sum
  | _ => none
theorem ca_sum : CaA K (rSum K) fSum := by
  intro F H xs as c Q s h e q
  match as, e with
  | [d], e =>
    obtain ⟨v, rfl, w⟩ := h.one
    simp only [fSum, Option.map_eq_some_iff, Option.bind_eq_some_iff] at e
    obtain ⟨ns, ⟨ds, e1, e2⟩, rfl⟩ := e
    obtain ⟨p, vs, rfl, h1, h2⟩ := lstOf_of s w e1
    rw [ints_of h2 e2] at h1
    exact ⟨p, ns, rfl, .of h1, q _ F H (Grow.refl s) (.int _)⟩
def fAll : List D → Option D
  | [d] => ((lstOf d).bind blsD).map fun ns => .bl (ns.all id)
  | _ => none
def fAny : List D → Option D
  | [d] => ((lstOf d).bind blsD).map fun ns => .bl (ns.any id)
  | _ => none
theorem ca_all : CaA K (rAll K) fAll := by
  intro F H xs as c Q s h e q
  match as, e with
  | [d], e =>
    obtain ⟨v, rfl, w⟩ := h.one
    simp only [fAll, Option.map_eq_some_iff, Option.bind_eq_some_iff] at e
    obtain ⟨ns, ⟨ds, e1, e2⟩, rfl⟩ := e
    obtain ⟨p, vs, rfl, h1, h2⟩ := lstOf_of s w e1
    rw [bls_of h2 e2] at h1
    exact ⟨p, ns, rfl, .of h1, q _ F H (Grow.refl s) (.bl _)⟩
theorem ca_any : CaA K (rAny K) fAny := by
  intro F H xs as c Q s h e q
  match as, e with
  | [d], e =>
    obtain ⟨v, rfl, w⟩ := h.one
    simp only [fAny, Option.map_eq_some_iff, Option.bind_eq_some_iff] at e
    obtain ⟨ns, ⟨ds, e1, e2⟩, rfl⟩ := e
    obtain ⟨p, vs, rfl, h1, h2⟩ := lstOf_of s w e1
    rw [bls_of h2 e2] at h1
    exact ⟨p, ns, rfl, .of h1, q _ F H (Grow.refl s) (.bl _)⟩
/-- divmod: a new pair -/
def fDivmod : List D → Option D
  | [.int i, .int j] => if CDiv i j then some (.tup [.int (i / j), .int (i % j)]) else none
  | _ => none
theorem ca_divmod : CaA K (fun xs H Q => ∃ i j, xs = [.int i, .int j] ∧ CDiv i j ∧ ∀ p, H p = none → Q (.ref p) (upd H p (.tup [.int (i / j), .int (i % j)]))) fDivmod := by
  intro F H xs as c Q s h e q
  match as, e with
  | [.int i, .int j], e =>
    obtain ⟨v, w, rfl, h1, h2⟩ := h.two
    simp only [fDivmod] at e
    split at e <;> cases e
    rename_i hc
    rw [h1.int, h2.int]
    exact ⟨i, j, rfl, hc, fun p hp => q _ _ _ (Grow.one s hp) (.tup (.of upd_same) (.cons (.int _) (.cons (.int _) .nil)))⟩
def fTupOf : List D → Option D
  | [.lst ds] => some (.tup ds)
  | [.scr ns] => some (.tup (ns.map D.int))
  | [.tup ds] => some (.tup ds)
  | _ => none
theorem ca_tupOf : CaA K (fun xs H Q => ∃ p ys, xs = [.ref p] ∧ ((SqL K H p ys ∧ ∀ l, H l = none → Q (.ref l) (upd H l (.tup ys))) ∨ (SqT K H p ys ∧ Q (.ref p) H))) fTupOf := by
  intro F H xs as c Q s h e q
  match as, e with
  | [.lst ds], e =>
    obtain ⟨v, rfl, w⟩ := h.one
    cases e
    obtain ⟨p, vs, rfl, h1, h2⟩ := w.lst s
    exact ⟨p, vs, rfl, .inl ⟨.of h1, fun l hl => q _ _ _ (Grow.one s hl) (.tup (.of upd_same) (h2.mono (Grow.one s hl).ff))⟩⟩
  | [.scr ns], e =>
    obtain ⟨v, rfl, w⟩ := h.one
    cases e
    obtain ⟨p, rfl, h1⟩ := w.scr s
    exact ⟨p, _, rfl, .inl ⟨h1, fun l hl => q _ _ _ (Grow.one s hl) (.tup (.of upd_same) (rpa_ints _))⟩⟩
  | [.tup ds], e =>
    obtain ⟨v, rfl, w⟩ := h.one
    cases e
    have w' := w.flat (fun _ z => by cases z) (fun _ z => by cases z) (fun _ z => by cases z) (fun _ _ z => by cases z)
    cases w' with
    | tup a b => exact ⟨_, _, rfl, .inr ⟨Same.tupq s a, q _ F H (Grow.refl s) (.tup a b)⟩⟩
def fOrd : List D → Option D
  | [.str z] => if z.length = 1 then some (.int (z.cps.getD 0 0 : Nat)) else none
  | _ => none
theorem ca_ord : CaA K (fun xs H Q => ∃ x, xs = [.str x] ∧ x.length = 1 ∧ Q (.int (x.cps.getD 0 0 : Nat)) H) fOrd := by
  intro F H xs as c Q s h e q
  match as, e with
  | [.str z], e =>
    obtain ⟨v, rfl, w⟩ := h.one
    simp only [fOrd] at e
    split at e <;> cases e
    rename_i hz
    rw [w.str]
    exact ⟨z, rfl, hz, q _ F H (Grow.refl s) (.int _)⟩
/-- list(x): a new list of one's own -/
def fListOf (d : D) : Option (List D) := items d
/-! ### + of tuples, lists -/
theorem on_cat : OpN K rCat catL := by
  intro F H x y a b c Q s ha hb e q
  cases a <;> cases b <;> simp [catL] at e
  obtain ⟨hl, rfl⟩ := e
  obtain ⟨p, vs, rfl, h1, h2⟩ := ha.lst s
  obtain ⟨p', ws, rfl, g1, g2⟩ := hb.lst s
  exact ⟨p, p', vs, ws, rfl, rfl, h1, g1, by rw [h2.length, g2.length]; exact hl, fun p2 hp => q p2 _ hp (h2.append g2)⟩
def fCatT : D → D → Option D
  | .tup (x :: a), .tup b => if (x :: a).length + b.length ≤ sizeLine then some (.tup ((x :: a) ++ b)) else none
  | _, _ => none
theorem oa_catT : OpA K (rCatT K) fCatT := by
  intro F H x y a b c Q s ha hb e q
  match a, b, e with
  | .tup (x0 :: a), .tup b, e =>
    simp only [fCatT] at e
    split at e <;> cases e
    rename_i hl
    have ha' := ha.flat (fun _ z => by cases z) (fun _ z => by cases z) (fun _ z => by cases z) (fun _ _ z => by cases z)
    obtain ⟨p', ws, rfl, g1, g2⟩ := hb.tup s
    cases ha' with
    | tup h1 h2 =>
      rename_i p vs
      refine ⟨p, p', vs, ws, rfl, rfl, Same.tupq s h1, g1, fun z => ?_, by rw [h2.length, g2.length]; exact hl, fun z => ?_, fun _ p2 hp => ?_⟩
      · subst z; cases h2
      · subst z
        cases g2
        rw [List.append_nil] at q
        exact q _ F H (Grow.refl s) (.tup h1 h2)
      · exact q _ _ _ (Grow.one s hp) (.tup (.of upd_same) ((h2.append g2).mono (Grow.one s hp).ff))
end
/-! ### slices -/
section
variable {E : XK} {K : PySem.W.Frag} {te : TE} {ea : M Rf} {tl th : TO}
def PP : S → S → Option Int → Option Int → Prop := fun _ _ a b => a = b
theorem shP : Shift PP := fun _ _ _ _ _ _ _ h => h
def AP (E : XK) (K : PySem.W.Frag) (t : TO) (ev : M (Option Int)) : Prop := ∀ s Q, Ok K s → Post E K PP s (ev s.ρ) Q → t s.σ s.H Q
def mNoPart : M (Option Int) := fun ρ => .ok none ρ
def mPart (ev : M Rf) : M (Option Int) := fun ρ => (ev ρ).bind fun r ρ1 => match vw ρ1 r with
  | some (.int i) => .ok (some i) ρ1
  | _ => .bad
theorem ap_no : AP E K tNoPart mNoPart := fun s Q R q => q none s.F s.fp s.H R (Tr.refl _) rfl
theorem ap_part (h : AE E K te ea) : AP E K (tPart te) (mPart ea) := by
  intro s Q R q
  refine h s _ R (Post.bind q shP fun r ρ1 v F1 fp1 H1 ok1 T1 rv1 q1 => ?_)
  split at q1
  · rename_i i e
    exact ⟨i, (ok1.vw rv1 e).int, q1 _ F1 fp1 H1 ok1 (Tr.refl _) rfl⟩
  · exact q1.elim
/-- the part of a tuple (not the whole), of a text -/
def cutD (ds : List D) (lo hi : Option Int) : List D := (ds.drop (HT.sIx ds.length 0 lo)).take (HT.sIx ds.length ds.length hi - HT.sIx ds.length 0 lo)
def fSlT (d : D) (lo hi : Option Int) : Option D := match d with
  | .tup ds => if HT.sIx ds.length 0 lo = 0 ∧ HT.sIx ds.length ds.length hi = ds.length then none else some (.tup (cutD ds lo hi))
  | _ => none
def fSlS (d : D) (lo hi : Option Int) : Option D := match d with
  | .str z => if z.length ≤ sizeLine then some (.str (cutS z lo hi)) else none
  | _ => none
def fSlL (d : D) (lo hi : Option Int) : Option (List D) := match d with
  | .lst ds => some (cutD ds lo hi)
  | .scr ns => some (cutD (ns.map D.int) lo hi)
  | _ => none
theorem cut_rp {F : Hp} {vs : List V} {ds : List D} {lo hi : Option Int} (h : RpA K F vs ds) : RpA K F (cutV vs lo hi) (cutD ds lo hi) := by
  unfold cutV cutD
  rw [h.length]
  exact (h.drop _).take _
def SlA (K : PySem.W.Frag) (r : V → Option Int → Option Int → Hp → VK → Prop) (f : D → Option Int → Option Int → Option D) : Prop := ∀ F H x a lo hi c Q, Same F H → Vw K F H x a → f a lo hi = some c → (∀ v F' H', Grow F H F' H' → Rp K F' v c → Q v H') → r x lo hi H Q
theorem sa_tup : SlA K (rSlT K) fSlT := by
  intro F H x a lo hi c Q s h e q
  cases a <;> simp [fSlT] at e
  obtain ⟨hn, rfl⟩ := e
  obtain ⟨p, vs, rfl, h1, h2⟩ := h.tup s
  refine ⟨p, vs, rfl, h1, ?_, fun p2 hp => q _ _ _ (Grow.one s hp) (.tup (.of upd_same) ((cut_rp h2).mono (Grow.one s hp).ff))⟩
  rw [h2.length]
  exact fun z => hn z.1 z.2
theorem sa_str : SlA K rSlS fSlS := by
  intro F H x a lo hi c Q s h e q
  cases a <;> simp [fSlS] at e
  obtain ⟨hn, rfl⟩ := e
  exact ⟨_, h.str, hn, q _ F H (Grow.refl s) (.str _)⟩
def evSl (f : D → Option Int → Option Int → Option D) (ea : M Rf) (el eh : M (Option Int)) : M Rf := fun ρ => (ea ρ).bind fun r ρ1 => (el ρ1).bind fun l ρ2 => (eh ρ2).bind fun u ρ3 => match vw ρ3 r with
  | some a => lift ((f a l u).map Rf.d) ρ3
  | none => .bad
theorem ae_sl {r : V → Option Int → Option Int → Hp → VK → Prop} {f : D → Option Int → Option Int → Option D} {el eh : M (Option Int)} (ok : SlA K r f) (ha : AE E K te ea) (hl : AP E K tl el) (hh : AP E K th eh) : AE E K (tSl r te tl th) (evSl f ea el eh) := by
  intro s Q R q
  refine ha s _ R (Post.bind q shV fun r1 ρ1 x F1 fp1 H1 ok1 T1 rv1 q1 => ?_)
  refine hl (s.to F1 fp1 ρ1 H1) _ ok1 (Post.bind q1 shV fun l ρ2 l' F2 fp2 H2 ok2 T2 rv2 q2 => ?_)
  cases rv2
  refine hh (s.to F2 fp2 ρ2 H2) _ ok2 (Post.bind q2 shV fun u ρ3 u' F3 fp3 H3 ok3 T3 rv3 q3 => ?_)
  cases rv3
  split at q3
  · rename_i a ea
    cases e : f a l u with
    | none => rw [e] at q3; exact q3.elim
    | some c =>
      rw [e] at q3
      refine ok F3 H3 x a l u c Q ok3.sub (ok3.vw (RfR.mono (T2.ff.trans T3.ff) rv1) ea) e fun v F' H' g rp => ?_
      obtain ⟨ok4, T4⟩ := ok3.grow g
      exact q3 v F' fp3 H' ok4 T4 rp
  · exact q3.elim
/-! of a list: a new list -/
def SlN (K : PySem.W.Frag) (r : V → Option Int → Option Int → Hp → VK → Prop) (f : D → Option Int → Option Int → Option (List D)) : Prop := ∀ F H x a lo hi c Q, Same F H → Vw K F H x a → f a lo hi = some c → (∀ p vs, H p = none → RpA K F vs c → Q (.ref p) (upd H p (.lst vs))) → r x lo hi H Q
theorem sn_list : SlN K (rSlL K) fSlL := by
  intro F H x a lo hi c Q s h e q
  cases a <;> simp [fSlL] at e <;> subst e
  · obtain ⟨p, vs, rfl, h1, h2⟩ := h.lst s
    exact ⟨p, vs, rfl, .of h1, fun p2 hp => q p2 _ hp (cut_rp h2)⟩
  · obtain ⟨p, rfl, h1⟩ := h.scr s
    exact ⟨p, _, rfl, h1, fun p2 hp => q p2 _ hp (cut_rp (rpa_ints _))⟩
def evSlO (f : D → Option Int → Option Int → Option (List D)) (ea : M Rf) (el eh : M (Option Int)) : M O := fun ρ => (ea ρ).bind0 fun r ρ1 => (el ρ1).bind0 fun l ρ2 => (eh ρ2).bind0 fun u ρ3 => match vw ρ3 r with
  | some a => lift ((f a l u).map O.lst) ρ3
  | none => .bad
theorem ao_sl {r : V → Option Int → Option Int → Hp → VK → Prop} {f : D → Option Int → Option Int → Option (List D)} {el eh : M (Option Int)} (ok : SlN K r f) (ha : AE E0 K te ea) (hl : AP E0 K tl el) (hh : AP E0 K th eh) : AO E K (tSl r te tl th) (evSlO f ea el eh) := by
  intro s Q R q
  refine ha s _ R ?_
  unfold evSlO at q
  cases e1 : ea s.ρ with
  | ex x ρ1 => rw [e1] at q; exact q.elim
  | bad => rw [e1] at q; exact q.elim
  | ok r1 ρ1 =>
    rw [e1] at q
    intro x F1 fp1 H1 ok1 T1 rv1
    simp only [Out.bind0] at q
    refine hl (s.to F1 fp1 ρ1 H1) _ ok1 ?_
    show Post E0 K PP _ (el ρ1) _
    cases e2 : el ρ1 with
    | ex x ρ2 => rw [e2] at q; exact q.elim
    | bad => rw [e2] at q; exact q.elim
    | ok l ρ2 =>
      rw [e2] at q
      intro l' F2 fp2 H2 ok2 T2 rv2
      cases rv2
      dsimp only at q
      refine hh (s.to F2 fp2 ρ2 H2) _ ok2 ?_
      show Post E0 K PP _ (eh ρ2) _
      cases e3 : eh ρ2 with
      | ex x ρ3 => rw [e3] at q; exact q.elim
      | bad => rw [e3] at q; exact q.elim
      | ok u ρ3 =>
        rw [e3] at q
        intro u' F3 fp3 H3 ok3 T3 rv3
        cases rv3
        dsimp only at q
        split at q
        · rename_i a ea
          cases e : f a l u with
          | none => rw [e] at q; exact q.elim
          | some c =>
            rw [e] at q
            refine ok F3 H3 x a l u c Q ok3.sub (ok3.vw (RfR.mono (T2.ff.trans T3.ff) rv1) ea) e fun p vs hp rp => ?_
            obtain ⟨ok4, T4, n⟩ := new_own (s := s) (o := .lst vs) ok3 ((T1.trans T2).trans T3) hp
            exact q _ _ _ _ ok4 T4 ⟨p, [p], rfl, .lst upd_same rp, n⟩
        · exact q.elim
end
end
end DC
namespace DC
noncomputable section
open PySem PySem.Spec PyProof.Rows L2 G
/-! ### changes in place -/
section
variable {K : PySem.W.Frag} {F H : Hp} {p : Addr} {l : List Addr}
theorem OwnAt.lst_inv {xs : List D} (h : OwnAt K F H p (.lst xs) l) : l = [p] ∧ ∃ vs, H p = some (.lst vs) ∧ RpA K F vs xs := by cases h with | lst a b => exact ⟨rfl, _, a, b⟩
theorem OwnAt.dk_inv {xs : List (Key × D)} (h : OwnAt K F H p (.dk xs) l) : l = [p] ∧ ∃ vs, H p = some (.dK vs) ∧ RpK K F vs xs := by cases h with | dk a b => exact ⟨rfl, _, a, b⟩
theorem OwnAt.dt_inv {xs : List (List Key × D)} (h : OwnAt K F H p (.dt xs) l) : l = [p] ∧ ∃ vs, H p = some (.dT vs) ∧ RpT K F vs xs := by cases h with | dt a b => exact ⟨rfl, _, a, b⟩
theorem OwnAt.ins_inv {C : Addr} {es : List (Str × Sum D O)} (h : OwnAt K F H p (.ins C es) l) : ∃ dx fs m, l = p :: dx :: m ∧ H p = some (.ins C dx fs) ∧ H dx = some (.own p) ∧ OwnF K F H fs es m ∧ ∀ a ∈ m, a ≠ p ∧ a ≠ dx := by cases h with | ins a b c n => exact ⟨_, _, _, rfl, a, b, c, n⟩
end
section
variable {E : XK} {K : PySem.W.Frag} {te ti ta : TE} {ea ei : M Rf} {ed : M D}
/-- a list of one's own, changed at its place -/
theorem Ok.lst {s : S} {i : Nat} {p : Addr} {b : Bool} {xs ys : List D} {ws : List V} (R : Ok K s) (e : s.ρ[i]? = some (Sl.own b (.lst xs))) (hp : s.σ[i]? = some (some (V.ref p))) (h : RpA K s.F ws ys) :
    Ok K (s.chg i b (.lst ys) [p] (upd s.H p (.lst ws))) ∧ Tr s (s.chg i b (.lst ys) [p] (upd s.H p (.lst ws))) := by
  obtain ⟨p', h1, h2, h3⟩ := R.own i b _ e
  rw [h1] at hp
  cases hp
  refine R.chg e h1 (.lst upd_same h) (fun a ha => ?_) (fun a u n q => ?_) (fun a q => ?_)
  · have z : a = p := by simpa using ha
    subst z
    exact .inl h2.self
  · rw [upd_ne (fun z : a = p => n (by rw [z]; exact h2.self))]
    exact q
  · by_cases z : a = p
    · rw [z, upd_same]; simp
    · rw [upd_ne z]; exact q
theorem Ok.at_lst {s : S} {i : Nat} {b : Bool} {xs : List D} (R : Ok K s) (e : s.ρ[i]? = some (Sl.own b (.lst xs))) : ∃ p vs, s.σ[i]? = some (some (V.ref p)) ∧ s.H p = some (.lst vs) ∧ RpA K s.F vs xs := by
  obtain ⟨p, h1, h2, _⟩ := R.own i b _ e
  obtain ⟨_, vs, a, b⟩ := h2.lst_inv
  exact ⟨p, vs, h1, a, b⟩
def ownL (ρ : List Sl) (i : Nat) : Option (Bool × List D) := match ρ[i]? with
  | some (.own b (.lst xs)) => some (b, xs)
  | _ => none
theorem ownL_of {ρ : List Sl} {i : Nat} {b : Bool} {xs : List D} (h : ownL ρ i = some (b, xs)) : ρ[i]? = some (Sl.own b (.lst xs)) := by
  unfold ownL at h
  split at h
  · rename_i b' xs' e
    cases h
    exact e
  · cases h
/-- x.append(e), x one's own -/
def evAppend (i : Nat) (ed : M D) : M Rf := fun ρ => match ownL ρ i with
  | some _ => (ed ρ).bind fun d ρ1 => match ownL ρ1 i with
    | some (b, xs) => if xs.length < sizeLine then .ok (.d .non) (ρ1.set i (.own b (.lst (xs ++ [d])))) else .bad
    | none => .bad
  | none => .bad
theorem ae_append {i : Nat} (h : AD E K te ed) : AE E K (tBM K "list" rAppend (tVar i) (tCons te tNil)) (evAppend i ed) := by
  intro s Q R q
  unfold evAppend at q
  split at q
  · rename_i z e0
    obtain ⟨p, vs, h1, h2, h3⟩ := R.at_lst (ownL_of e0)
    refine ⟨_, h1, .inl ⟨rfl, vs, .of h2⟩, ?_⟩
    refine h s _ R (Post.bind q shV fun d ρ1 v F1 fp1 H1 ok1 T1 rv1 q1 => ?_)
    split at q1
    · rename_i b xs e1
      obtain ⟨p', ws, g1, g2, g3⟩ := ok1.at_lst (ownL_of e1)
      have g1' : s.σ[i]? = some (some (V.ref p')) := g1
      rw [h1] at g1'
      cases g1'
      split at q1
      · rename_i hl
        obtain ⟨ok2, T2⟩ := ok1.lst (ownL_of e1) g1 (g3.append (.cons rv1 .nil))
        exact ⟨p, ws, v, rfl, rfl, g2, by rw [g3.length]; exact hl, q1 _ _ _ _ ok2 T2 .non⟩
      · exact q1.elim
    · exact q1.elim
  · exact q.elim
/-- x.extend(e), x one's own, e a list -/
def evExtend (i : Nat) (ea : M Rf) : M Rf := fun ρ => match ownL ρ i with
  | some _ => (ea ρ).bind fun r ρ1 => match ownL ρ1 i, (vw ρ1 r).bind lstOf with
    | some (b, xs), some ys => if xs.length + ys.length ≤ sizeLine then .ok (.d .non) (ρ1.set i (.own b (.lst (xs ++ ys)))) else .bad
    | _, _ => .bad
  | none => .bad
theorem ae_extend {i : Nat} (h : AE E K te ea) : AE E K (tBM K "list" rExtend (tVar i) (tCons te tNil)) (evExtend i ea) := by
  intro s Q R q
  unfold evExtend at q
  split at q
  · rename_i z e0
    obtain ⟨p, vs, h1, h2, h3⟩ := R.at_lst (ownL_of e0)
    refine ⟨_, h1, .inl ⟨rfl, vs, .of h2⟩, ?_⟩
    refine h s _ R (Post.bind q shV fun r ρ1 v F1 fp1 H1 ok1 T1 rv1 q1 => ?_)
    split at q1
    · rename_i b xs ys e1 e2
      obtain ⟨p', ws, g1, g2, g3⟩ := ok1.at_lst (ownL_of e1)
      have g1' : s.σ[i]? = some (some (V.ref p')) := g1
      rw [h1] at g1'
      cases g1'
      cases ev : vw ρ1 r with
      | none => rw [ev] at e2; cases e2
      | some d =>
        rw [ev] at e2
        obtain ⟨p2, zs, rfl, z1, z2⟩ := lstOf_of ok1.sub (ok1.vw rv1 ev) e2
        split at q1
        · rename_i hl
          obtain ⟨ok2, T2⟩ := ok1.lst (ownL_of e1) g1 (g3.append z2)
          exact ⟨p, p2, ws, zs, rfl, rfl, g2, z1, by rw [g3.length, z2.length]; exact hl, q1 _ _ _ _ ok2 T2 .non⟩
        · exact q1.elim
    · exact q1.elim
  · exact q.elim
/-- x[e] = .., x a list of one's own -/
def gIx (i : Nat) (ei : M Rf) : D → M Unit := fun d ρ => match ownL ρ i with
  | some _ => (ei ρ).bind fun r ρ1 => match ownL ρ1 i, vw ρ1 r with
    | some (b, xs), some (.int k) => (match ixN xs.length k with
      | some j => .ok () (ρ1.set i (.own b (.lst (xs.set j d))))
      | none => .bad)
    | _, _ => .bad
  | none => .bad
theorem ag_ix {i : Nat} (h : AE E K ti ei) : AG E K (gSub (tVar i) ti rSetL) (gIx i ei) := by
  intro s v d Q R r q
  unfold gIx at q
  split at q
  · rename_i z e0
    obtain ⟨p, vs, h1, h2, h3⟩ := R.at_lst (ownL_of e0)
    refine ⟨_, h1, ?_⟩
    refine h s _ R ?_
    cases e : ei s.ρ with
    | ex x ρ1 => rw [e] at q; exact fun cls dd F' fp' H' ok T z => q cls dd s.σ F' fp' H' ok T z
    | bad => rw [e] at q; exact q.elim
    | ok r1 ρ1 =>
      rw [e] at q
      intro y F1 fp1 H1 ok1 T1 rv1
      simp only [Out.bind] at q
      split at q
      · rename_i b xs k e1 e2
        obtain ⟨p', ws, g1, g2, g3⟩ := ok1.at_lst (ownL_of e1)
        have g1' : s.σ[i]? = some (some (V.ref p')) := g1
        rw [h1] at g1'
        cases g1'
        split at q
        · rename_i j e3
          have w := (ok1.vw rv1 e2).int
          obtain ⟨ok2, T2⟩ := ok1.lst (ownL_of e1) g1 (g3.set j (Rp.mono T1.ff _ _ r))
          exact ⟨p, ws, k, j, rfl, w, g2, by rw [g3.length]; exact e3, q _ _ _ _ ok2 (T1.trans T2)⟩
        · exact q.elim
      · exact q.elim
  · exact q.elim
/-! ### instances: fields read -/
def fldD (f : Str) : D → Option D
  | .ins _ fs => fs.lookup f
  | _ => none
theorem RpF.look {F : Hp} {f : Str} : ∀ {fs : List (Str × V)} {es : List (Str × D)} {d : D}, RpF K F fs es → es.lookup f = some d → ∃ v, fs.lookup f = some v ∧ Rp K F v d
  | _, _, _, .nil, e => by simp at e
  | (k, v) :: fs, (_, d0) :: es, d, .cons h t, e => by
    simp only [List.lookup] at e ⊢
    split at e
    · cases e
      exact ⟨v, rfl, h⟩
    · exact RpF.look t e
theorem RpF.look_none {F : Hp} {f : Str} : ∀ {fs : List (Str × V)} {es : List (Str × D)}, RpF K F fs es → es.lookup f = none → fs.lookup f = none
  | _, _, .nil, e => rfl
  | (k, v) :: fs, (_, d0) :: es, .cons h t, e => by
    simp only [List.lookup] at e ⊢
    split at e
    · cases e
    · exact RpF.look_none t e
/-- o.f, o data -/
def evFld (C : Addr) (f : Str) (ea : M Rf) : M Rf := fun ρ => (ea ρ).bind fun r ρ1 => match r with
  | .d (.ins C' fs) => if C' = C then lift ((fs.lookup f).map Rf.d) ρ1 else .bad
  | .sl i => match ρ1[i]? with
    | some (.own _ (.ins C' fs)) => if C' = C then (match fs.lookup f with
      | some (.inl d) => .ok (.d d) ρ1
      | _ => .bad) else .bad
    | some (.dat (.ins C' fs)) => if C' = C then lift ((fs.lookup f).map Rf.d) ρ1 else .bad
    | _ => .bad
  | _ => .bad
theorem OwnF.look {F H : Hp} {f : Str} : ∀ {fs : List (Str × V)} {es : List (Str × Sum D O)} {l : List Addr} {d : D}, OwnF K F H fs es l → es.lookup f = some (.inl d) → ∃ v, fs.lookup f = some v ∧ Rp K F v d
  | _, _, _, _, .nil, e => by simp at e
  | _, _, _, _, .dat h t, e => by
    simp only [List.lookup] at e ⊢
    split at e
    · cases e
      exact ⟨_, rfl, h⟩
    · exact OwnF.look t e
  | _, _, _, _, .own o t n, e => by
    simp only [List.lookup] at e ⊢
    split at e
    · cases e
    · exact OwnF.look t e
theorem OwnF.look_none {F H : Hp} {f : Str} : ∀ {fs : List (Str × V)} {es : List (Str × Sum D O)} {l : List Addr}, OwnF K F H fs es l → es.lookup f = none → fs.lookup f = none
  | _, _, _, .nil, e => rfl
  | _, _, _, .dat h t, e => by
    simp only [List.lookup] at e ⊢
    split at e
    · cases e
    · exact OwnF.look_none t e
  | _, _, _, .own o t n, e => by
    simp only [List.lookup] at e ⊢
    split at e
    · cases e
    · exact OwnF.look_none t e
theorem ae_fld {C : Addr} {f : Str} (hc : Cls K C) (hn : NoAttr K C f) (h : AE E K te ea) : AE E K (tFld K te f) (evFld C f ea) := by
  intro s Q R q
  refine h s _ R (Post.bind q shV fun r ρ1 v F1 fp1 H1 ok1 T1 rv1 q1 => ?_)
  split at q1
  · rename_i C' fs
    split at q1
    · rename_i hC
      subst hC
      cases e : fs.lookup f with
      | none => rw [e] at q1; exact q1.elim
      | some d =>
        rw [e] at q1
        have rv : Rp K F1 v (.ins C' fs) := rv1
        cases rv with
        | ins a b =>
          obtain ⟨w, z1, z2⟩ := RpF.look b e
          exact ⟨_, _, _, _, w, rfl, ok1.sub _ _ a, hc, hn, z1, q1 _ F1 fp1 H1 ok1 (Tr.refl _) z2⟩
    · exact q1.elim
  · rename_i i
    have rv' : s.σ[i]? = some (some v) := rv1
    split at q1
    · rename_i b C' fs e
      obtain ⟨p, h1, h2, _⟩ := ok1.own i b _ e
      have h1' : s.σ[i]? = some (some (V.ref p)) := h1
      rw [rv'] at h1'
      cases h1'
      split at q1
      · rename_i hC
        subst hC
        split at q1
        · rename_i d e1
          obtain ⟨dx, fs', m, _, a, b, c, _⟩ := h2.ins_inv
          obtain ⟨w, z1, z2⟩ := OwnF.look c e1
          exact ⟨_, _, _, _, w, rfl, a, hc, hn, z1, q1 _ F1 fp1 H1 ok1 (Tr.refl _) z2⟩
        · exact q1.elim
      · exact q1.elim
    · rename_i C' fs e
      obtain ⟨w0, h1, h2⟩ := ok1.dat i _ e
      have h1' : s.σ[i]? = some (some w0) := h1
      rw [rv'] at h1'
      cases h1'
      split at q1
      · rename_i hC
        subst hC
        cases e : fs.lookup f with
        | none => rw [e] at q1; exact q1.elim
        | some d =>
          rw [e] at q1
          cases h2 with
          | ins a b =>
            obtain ⟨w, z1, z2⟩ := RpF.look b e
            exact ⟨_, _, _, _, w, rfl, ok1.sub _ _ a, hc, hn, z1, q1 _ F1 fp1 H1 ok1 (Tr.refl _) z2⟩
      · exact q1.elim
    · exact q1.elim
  · exact q1.elim
end
end
end DC
namespace DC
noncomputable section
open PySem PySem.Spec PyProof.Rows L2 G
/-! ### a new thing on its way to a call: a slot of its own behind the others -/
section
variable {K : PySem.W.Frag}
abbrev S.plus (s : S) (p : Addr) (o : O) (l : List Addr) : S := ⟨s.F, fun j => if j = s.ρ.length then l else s.fp j, s.ρ ++ [.own true o], s.σ ++ [some (V.ref p)], s.H⟩
abbrev S.minus (s2 s : S) : S := ⟨s2.F, s2.fp, s2.ρ.take s.ρ.length, s.σ, s2.H⟩
theorem snoc_get {α : Type} {l : List α} {x y : α} {i : Nat} (h : (l ++ [x])[i]? = some y) : (i < l.length ∧ l[i]? = some y) ∨ (i = l.length ∧ y = x) := by
  by_cases c : i < l.length
  · rw [List.getElem?_append_left c] at h
    exact .inl ⟨c, h⟩
  · rw [List.getElem?_append_right (by omega)] at h
    have z : i - l.length = 0 := by
      by_cases w : i - l.length = 0
      · exact w
      · rw [List.getElem?_eq_none (by simp; omega)] at h; cases h
    rw [z] at h
    exact .inr ⟨by omega, by simpa using h.symm⟩
theorem Ok.plus {s : S} {p : Addr} {o : O} {l : List Addr} (R : Ok K s) (ho : OwnAt K s.F s.H p o l) (hn : ∀ a ∈ l, s.F a = none ∧ ¬ Ow s a) : Ok K (s.plus p o l) := by
  have fe : ∀ {j : Nat}, j < s.ρ.length → (s.plus p o l).fp j = s.fp j := fun {j} h => if_neg (by omega)
  have fs : (s.plus p o l).fp s.ρ.length = l := if_pos rfl
  refine ⟨by simp [R.len], R.sub, fun i e => ?_, fun i d e => ?_, fun i b o' e => ?_, fun i j b b' o1 o2 n e e' => ?_⟩
  · rcases snoc_get e with ⟨c, h⟩ | ⟨_, h⟩
    · exact app_l (R.un i h)
    · cases h
  · rcases snoc_get e with ⟨c, h⟩ | ⟨_, h⟩
    · obtain ⟨v, h1, h2⟩ := R.dat i d h
      exact ⟨v, app_l h1, h2⟩
    · cases h
  · rcases snoc_get e with ⟨c, h⟩ | ⟨rfl, h⟩
    · obtain ⟨q, h1, h2, h3⟩ := R.own i b o' h
      rw [fe c]
      exact ⟨q, app_l h1, h2, h3⟩
    · cases h
      rw [fs]
      refine ⟨p, ?_, ho, fun a ha => (hn a ha).1⟩
      show (s.σ ++ [some (V.ref p)])[s.ρ.length]? = _
      rw [← R.len, List.getElem?_append_right (Nat.le_refl _)]
      simp
  · rcases snoc_get e with ⟨c, h⟩ | ⟨rfl, h⟩
    · rcases snoc_get e' with ⟨c', h'⟩ | ⟨rfl, h'⟩
      · rw [fe c, fe c']
        exact R.sep i j b b' o1 o2 n h h'
      · rw [fe c, fs]
        exact fun a ha z => (hn a z).2 ⟨i, b, o1, h, ha⟩
    · rcases snoc_get e' with ⟨c', h'⟩ | ⟨rfl, h'⟩
      · rw [fs, fe c']
        exact fun a ha z => (hn a ha).2 ⟨j, b', o2, h', z⟩
      · exact absurd rfl n
theorem Ok.minus {s0 s s2 : S} {p : Addr} {o : O} {l : List Addr} (R : Ok K s) (T0 : Tr s0 s) (ho : OwnAt K s.F s.H p o l) (hn : ∀ a ∈ l, s.F a = none ∧ s0.H a = none ∧ ¬ Ow s a) (R2 : Ok K s2) (T : Tr (s.plus p o l) s2) (e2 : s2.σ = s.σ ++ [some (V.ref p)]) :
    Ok K (s2.minus s) ∧ Tr s0 (s2.minus s) ∧ ∃ o', s2.ρ[s.ρ.length]? = some (Sl.own true o') ∧ OwnAt K s2.F s2.H p o' (s2.fp s.ρ.length) ∧ ∀ a ∈ s2.fp s.ρ.length, s2.F a = none ∧ s0.H a = none ∧ ¬ Ow (s2.minus s) a := by
  have Rp := R.plus ho fun a ha => ⟨(hn a ha).1, (hn a ha).2.2⟩
  have ln : s2.ρ.length = s.ρ.length + 1 := by rw [← R2.len, e2]; simp [R.len]
  have tk : ∀ {i x}, (s2.ρ.take s.ρ.length)[i]? = some x → i < s.ρ.length ∧ s2.ρ[i]? = some x := fun {i x} h => by
    have c : i < s.ρ.length := by
      have := (List.getElem?_eq_some_iff.mp h).1
      rw [List.length_take] at this
      omega
    rw [List.getElem?_take_of_lt c] at h
    exact ⟨c, h⟩
  have kt : ∀ {i x}, i < s.ρ.length → s2.ρ[i]? = some x → (s2.ρ.take s.ρ.length)[i]? = some x := fun {i x} c h => by
    rw [List.getElem?_take_of_lt c]; exact h
  have sg : ∀ {i}, i < s.ρ.length → s2.σ[i]? = s.σ[i]? := fun {i} c => by
    rw [e2, List.getElem?_append_left (by rw [R.len]; exact c)]
  have fe : ∀ {j : Nat}, j < s.ρ.length → (s.plus p o l).fp j = s.fp j := fun {j} h => if_neg (by omega)
  have fs : (s.plus p o l).fp s.ρ.length = l := if_pos rfl
  have ow : ∀ a, Ow (s.plus p o l) a → Ow s a ∨ a ∈ l := fun a ⟨i, b, o', e, m⟩ => by
    rcases snoc_get e with ⟨c, h⟩ | ⟨rfl, h⟩
    · rw [fe c] at m; exact .inl ⟨i, b, o', h, m⟩
    · rw [fs] at m; exact .inr m
  have lo : ∀ a, Lo (s.plus p o l) a → Lo s a := fun a ⟨i, o', e, m⟩ => by
    rcases snoc_get e with ⟨c, h⟩ | ⟨rfl, h⟩
    · rw [fe c] at m; exact ⟨i, o', h, m⟩
    · cases h
  have hs : ∀ a, s.H a = none → s0.H a = none := fun a h => none_of_hs T0.hs h
  have top : (s.plus p o l).ρ[s.ρ.length]? = some (Sl.own true o) := by simp
  obtain ⟨g1, ⟨o', g2⟩, g3⟩ := T.pr _ _ top
  obtain ⟨p', k1, k2, k3⟩ := R2.own _ _ _ g2
  have k1' : p' = p := by
    rw [e2, ← R.len, List.getElem?_append_right (Nat.le_refl _)] at k1
    simp at k1
    exact k1.symm
  subst k1'
  refine ⟨⟨?_, R2.sub, fun i e => ?_, fun i d e => ?_, fun i b o1 e => ?_, fun i j b b' o1 o2 n e e' => R2.sep i j b b' o1 o2 n (tk e).2 (tk e').2⟩,
    ⟨T0.ff.trans T.ff, fun a u e n => ?_, fun a e => T.hs a (T0.hs a e), fun a ⟨i, b, o1, e, m⟩ => ?_, fun a ⟨i, o1, e, m⟩ => ?_, fun a u e => ?_, fun i o1 e => ?_, fun i o1 e => ?_⟩, o', g2, k2, fun a ha => ⟨k3 a ha, ?_, fun ⟨i, b, o1, e, m⟩ => ?_⟩⟩
  · show s.σ.length = (s2.ρ.take s.ρ.length).length
    rw [List.length_take, ln, R.len]
    omega
  · obtain ⟨c, h⟩ := tk e
    exact (sg c).symm.trans (R2.un i h)
  · obtain ⟨c, h⟩ := tk e
    obtain ⟨v, z1, z2⟩ := R2.dat i d h
    exact ⟨v, (sg c).symm.trans z1, z2⟩
  · obtain ⟨c, h⟩ := tk e
    obtain ⟨q, z1, z2⟩ := R2.own i b o1 h
    exact ⟨q, (sg c).symm.trans z1, z2⟩
  · have e1 := T0.st a u e n
    refine T.st a u e1 fun z => ?_
    rcases ow a z with y | y
    · rcases T0.nw a y with w | w
      · rw [e] at w; cases w
      · exact n w
    · rw [(hn a y).2.1] at e; cases e
  · rcases T.nw a ⟨i, b, o1, (tk e).2, m⟩ with z | z
    · exact .inl (hs a z)
    · rcases ow a z with y | y
      · exact T0.nw a y
      · exact .inl (hn a y).2.1
  · rcases T.lo a ⟨i, o1, (tk e).2, m⟩ with z | z
    · exact .inl (hs a z)
    · exact T0.lo a (lo a z)
  · rcases T.fn a u e with z | z | z
    · exact T0.fn a u z
    · exact .inr (.inl (hs a z))
    · exact .inr (T0.lo a (lo a z))
  · obtain ⟨h1, ⟨o2, h2⟩, h3⟩ := T0.pr i o1 e
    have c : i < s.ρ.length := (List.getElem?_eq_some_iff.mp h2).1
    obtain ⟨q1, ⟨o3, q2⟩, q3⟩ := T.pr i o2 (app_l h2)
    refine ⟨h1, ⟨o3, kt c q2⟩, fun a ha => ?_⟩
    rcases q3 a ha with z | z
    · rw [fe c] at z; exact h3 a z
    · exact .inr (hs a z)
  · obtain ⟨c, h⟩ := tk e
    obtain ⟨o2, q⟩ := T.pb i o1 h
    rcases snoc_get q with ⟨_, y⟩ | ⟨y, _⟩
    · exact T0.pb i o2 y
    · omega
  · rcases g3 a ha with z | z
    · rw [fs] at z; exact (hn a z).2.1
    · exact hs a z
  · obtain ⟨c, h⟩ := tk e
    exact R2.sep _ i true b o' o1 (by omega) g2 h a ha m
end
end
end DC
namespace DC
noncomputable section
open PySem PySem.Spec PyProof.Rows L2 G
/-! ### a property whose getter promises where no repr is under way -/
section
variable {X : Cx} {CX : CXT} {k : Nat} {C p g a dx : Addr} {fs : List (Str × V)} {f : Str} {fd : FuncData} {ps : List Str} {sp : Sp} {dvs : List V} {ds : List Value} {E : XK} {e : Expr} {pos : Pos} {ta : TE}
theorem getprop_okG {pins : List (Addr × Obj)} {σ : L2.St} {H : Hp} {s : Shared} {Q : VK} {b : Bool} {E' : Value → Shared → Prop} (I : Inv X pins σ H s) (ea : H a = some (.ins C dx fs)) (c : Cls X.K C) (hp : PropOf X.K C f p g)
    (F : FG X.prog X.w X.K X.mg X.base CX0 k g fd ["self"] sp) (gd : X.A.guards = some []) (hr : Room (k + 1) X.A) (hb : Binds X.K fd ["self"] []) (h : sp [.ref a] H Q E0) :
    wpAny (model X.prog X.w) X.A (getAttr (.ref a) f b) (EP X pins σ Q) E' s := by
  obtain ⟨mA, O, _, _, _, _⟩ := ins_get I.hok ea
  obtain ⟨od, J, _⟩ := O.look
  obtain ⟨rest, hrec⟩ := hp.rec_
  have I1 := I.tok (s.toks + 1)
  have hc : (PySem.W.clsIn X.K C).isSome = true := by
    obtain ⟨cd, hc, _⟩ := PySem.W.any_some c.hd
    rw [hc]
    rfl
  have gd1 : X.A.in1.guards = some [] := gd
  have hb1 := hb { s with toks := s.toks + 1 } [.ref a] I1.kIn rfl
  refine PySem.W.get_bind I.kIn J (PySem.W.plainGet_of (c.get f)).1 (PySem.W.findObj_data hc hp.at_ hp.get hp.tak) (PySem.W.plainGet_of (c.get f)).2 (wpAny_call (PySem.W.prop_get (s := { s with toks := s.toks + 1 }) I.kIn hrec ?_))
  refine codeAny_mono (F.go X.A.in1 gd1 X.stack { s with toks := s.toks + 1 } H ⟨[.ref a], []⟩ [.ref a] [.ref a] Q E0 hr.in1 I1.env0.in1 hb1 (.cons rfl .nil) h) fun r s' hq => ?_
  cases r with
  | error er => exact False.elim hq
  | ok fl =>
    cases fl with
    | ret u =>
      obtain ⟨v, H', I3, rv, q3⟩ := I1.after hq
      show wpAny _ _ (handedOut u) _ _ _
      rw [PySem.W.handedOut_of (handed_of rv)]
      exact wpAny_pure ⟨v, H', I3, rv, q3⟩
    | next => exact False.elim hq
    | brk => exact False.elim hq
    | cont => exact False.elim hq
/-- a property of the class at C -/
structure PropD (P : Program) (w : World) (K : PySem.W.Frag) (mg : Str → Option Value) (base : Heap) (C : Addr) (m : Str) (k : Nat) (sp : Sp) : Prop where
  ex : ∃ p f fd, FG P w K mg base CX0 k f fd ["self"] sp ∧ PropOf K C m p f ∧ Binds K fd ["self"] []
theorem pe_pd (c : Cls X.K C) (M : PropD X.prog X.w X.K X.mg X.base C f k sp) (gd : X.A.guards = some []) (hr : Room (k + 1) X.A) (he : PE X e ta) (hab : attributeBase e f X.env (eval e X.env) = eval e X.env := by rfl) : PE X (.Attribute e f pos) (tProp C sp [] E0 ta) := by
  obtain ⟨p, f, fd, F, hp, hb⟩ := M.ex
  refine ⟨fun pins s σ H Q I h => ?_⟩
  refine attr_of hab (thn (he.run pins s σ H _ I h) fun u s1 ⟨x, H1, I1, rx, a, dx, fs, ex, ea, q⟩ => ?_)
  subst ex
  obtain rfl : u = Value.ref a := rx
  exact getprop_okG I1 ea c hp F gd hr hb q
end
section
variable {E : XK} {K : PySem.W.Frag} {te : TE} {tl : TA} {ea : M Rf} {el : M (List Rf)} {g : M Ret} {C : Addr}
/-! ### C(..) -/
def evMake (C : Addr) (g : M Ret) (el : M (List Rf)) : M O := fun ρ => (el ρ).bind fun rs ρ1 => match callW g (.sl ρ1.length :: rs) (ρ1 ++ [.own true (.ins C [])]) with
  | .ok (.d .non) ρ2 => (match ρ2[ρ1.length]? with
    | some (.own _ o) => .ok o (ρ2.take ρ1.length)
    | _ => .bad)
  | _ => .bad
theorem RfRs.more {F : Hp} {σ : L2.St} {x : Option V} : ∀ {vs : List V} {rs : List Rf}, RfRs K F σ vs rs → RfRs K F (σ ++ [x]) vs rs
  | _, _, .nil => .nil
  | _, _, .cons h t => .cons (by
    rename_i v vs r rs
    cases r with
    | d d => exact h
    | sl i => exact app_l (show σ[i]? = some (some v) from h)) (RfRs.more t)
theorem ao_make {n : Nat} (ha : AL E K tl el) (hn : ∀ s rs ρ', el s = .ok rs ρ' → rs.length = n) : AO E K (tMake C (spD K (n + 1) g) [] E0 tl) (evMake C g el) := by
  intro s Q R q
  refine ha s _ R ?_
  unfold evMake at q
  cases e : el s.ρ with
  | ex x ρ1 => rw [e] at q; exact q
  | bad => rw [e] at q; exact q
  | ok rs ρ1 =>
    rw [e] at q
    intro vs F1 fp1 H1 ok1 T1 rr x dx hx hdx ne
    show spD K (n + 1) g (.ref x :: (vs ++ [])) _ _ E0
    rw [List.append_nil]
    obtain ⟨ok2, T2⟩ := ok1.grow (Grow.tmp (o := .own x) ok1.sub hdx)
    have hx2 : upd H1 dx (.own x) x = none := by rw [upd_ne ne.symm]; exact hx
    obtain ⟨ok3, T3⟩ := ok2.grow (Grow.tmp (o := .ins C dx []) ok2.sub hx2)
    have T13 := T1.trans (T2.trans T3)
    have oa : OwnAt K F1 (upd (upd H1 dx (.own x)) x (.ins C dx [])) x (.ins C []) [x, dx] := .ins upd_same (by rw [upd_ne ne, upd_same]) .nil (fun a ha => by simp at ha)
    have hnew : ∀ a ∈ [x, dx], F1 a = none ∧ s.H a = none ∧ ¬ Ow (s.to F1 fp1 ρ1 (upd (upd H1 dx (.own x)) x (.ins C dx []))) a := fun a ha => by
      have hz : H1 a = none := by
        simp at ha
        rcases ha with rfl | rfl
        · exact hx
        · exact hdx
      exact ⟨ok1.sub.free hz, none_of_hs T1.hs hz, fun w => ok1.has (s := s.to F1 fp1 ρ1 H1) (by obtain ⟨i, b, o, e, m⟩ := w; exact ⟨i, b, o, e, m⟩) hz⟩
    have okp := ok3.plus oa fun a ha => ⟨(hnew a ha).1, (hnew a ha).2.2⟩
    have rr3 : RfRs K F1 (s.σ ++ [some (V.ref x)]) (.ref x :: vs) (.sl ρ1.length :: rs) := by
      refine .cons ?_ rr.more
      show (s.σ ++ [some (V.ref x)])[ρ1.length]? = _
      have hl : s.σ.length = ρ1.length := ok1.len
      rw [← hl, List.getElem?_append_right (Nat.le_refl _)]
      simp
    refine call_post (E := E0) (s := (s.to F1 fp1 ρ1 (upd (upd H1 dx (.own x)) x (.ins C dx []))).plus x (.ins C []) [x, dx]) okp rr3 (by simp [hn _ _ _ e]) ?_
    simp only [Out.bind] at q
    show Post E0 K (RetR K) _ (callW g (.sl ρ1.length :: rs) (ρ1 ++ [.own true (.ins C [])])) _
    cases ec : callW g (.sl ρ1.length :: rs) (ρ1 ++ [.own true (.ins C [])]) with
    | ex x ρ2 => rw [ec] at q; exact q.elim
    | bad => rw [ec] at q; exact q.elim
    | ok r ρ2 =>
      rw [ec] at q
      intro v F4 fp4 H4 ok4 T4 rv
      cases r with
      | o o => exact q.elim
      | d d =>
        cases d with
        | non =>
          dsimp only at q
          have rv : Rp K F4 v .non := rv
          cases rv
          refine ⟨rfl, ?_⟩
          obtain ⟨okm, Tm, o', h1, h2, h3⟩ := Ok.minus (s0 := s) ok3 T13 oa hnew ok4 T4 rfl
          have h1 : ρ2[ρ1.length]? = some (Sl.own true o') := h1
          rw [h1] at q
          exact q _ _ _ _ okm Tm ⟨x, _, rfl, h2, h3⟩
        | _ => exact q.elim
/-! ### a new thing handed to a def of one parameter -/
def evCallNew (g : M Ret) (eo : M O) : M Ret := fun ρ => (eo ρ).bind0 fun o ρ1 => match callW g [.sl ρ1.length] (ρ1 ++ [.own true o]) with
  | .ok (.d x) ρ2 => .ok (.d x) (ρ2.take ρ1.length)
  | _ => .bad
theorem ac_callNew {eo : M O} (h : AO E0 K te eo) : AC E K (tCall (spD K 1 g) [] E0 (tCons te tNil)) (evCallNew g eo) := by
  intro s Q R q
  refine h s _ R ?_
  unfold evCallNew at q
  cases e : eo s.ρ with
  | ex x ρ1 => rw [e] at q; exact q.elim
  | bad => rw [e] at q; exact q.elim
  | ok o ρ1 =>
    rw [e] at q
    intro v F1 fp1 H1 ok1 T1 rv
    obtain ⟨p, l, rfl, ho, hn⟩ := rv
    show spD K 1 g ([.ref p] ++ []) H1 Q E0
    have okp := ok1.plus ho fun a ha => ⟨(hn a ha).1, (hn a ha).2.2⟩
    have rr3 : RfRs K F1 (s.σ ++ [some (V.ref p)]) [.ref p] [.sl ρ1.length] := by
      refine .cons ?_ .nil
      show (s.σ ++ [some (V.ref p)])[ρ1.length]? = _
      have hl : s.σ.length = ρ1.length := ok1.len
      rw [← hl, List.getElem?_append_right (Nat.le_refl _)]
      simp
    refine call_post (E := E0) (s := (s.to F1 fp1 ρ1 H1).plus p o l) okp rr3 rfl ?_
    simp only [Out.bind0] at q
    show Post E0 K (RetR K) _ (callW g [.sl ρ1.length] (ρ1 ++ [.own true o])) _
    cases ec : callW g [.sl ρ1.length] (ρ1 ++ [.own true o]) with
    | ex x ρ2 => rw [ec] at q; exact q.elim
    | bad => rw [ec] at q; exact q.elim
    | ok r ρ2 =>
      rw [ec] at q
      intro v F4 fp4 H4 ok4 T4 rv
      cases r with
      | o o => exact q.elim
      | d d =>
        obtain ⟨okm, Tm, o', h1, h2, h3⟩ := Ok.minus (s0 := s) ok1 T1 ho hn ok4 T4 rfl
        exact q v _ _ _ okm Tm rv
/-! ### methods, properties -/
/-- the thing is an instance of the class at C and has no field of that name -/
def isIns (C : Addr) (m : Str) (ρ : List Sl) (r : Rf) : Bool := match vw ρ r with
  | some (.ins C' fs) => decide (C' = C) && (fs.lookup m).isNone
  | _ => false
theorem toDs_look {f : Str} : ∀ {es : List (Str × Sum D O)}, (O.toDs es).lookup f = none → es.lookup f = none
  | [], _ => rfl
  | (k, .inl d) :: r, h => by
    simp only [O.toDs, List.lookup] at h ⊢
    split at h
    · cases h
    · exact toDs_look h
  | (k, .inr o) :: r, h => by
    simp only [O.toDs, List.lookup] at h ⊢
    split at h
    · cases h
    · exact toDs_look h
theorem Vw.ins {F H : Hp} {v : V} {C : Addr} {es : List (Str × D)} {m : Str} (s : Same F H) (h : Vw K F H v (.ins C es)) (hm : es.lookup m = none) : ∃ a dx fs, v = .ref a ∧ H a = some (.ins C dx fs) ∧ fs.lookup m = none := by
  rcases h with h | ⟨p, o, l, rfl, e, h⟩
  · cases h with
    | ins a b => exact ⟨_, _, _, rfl, s _ _ a, b.look_none hm⟩
  · cases o with
    | ins C' es' =>
      simp only [O.toD, D.ins.injEq] at e
      obtain ⟨rfl, rfl⟩ := e
      obtain ⟨dx, fs, m', _, a, _, c, _⟩ := h.ins_inv
      exact ⟨_, _, _, rfl, a, c.look_none (toDs_look hm)⟩
    | _ => simp [O.toD] at e
theorem isIns_of {s : S} {v : V} {r : Rf} {m : Str} (R : Ok K s) (rv : RfR K s.F s.σ v r) (h : isIns C m s.ρ r = true) : ∃ a dx fs, v = .ref a ∧ s.H a = some (.ins C dx fs) ∧ fs.lookup m = none := by
  unfold isIns at h
  split at h
  · rename_i C' fs e
    simp only [Bool.and_eq_true, decide_eq_true_eq, Option.isNone_iff_eq_none] at h
    obtain ⟨rfl, hm⟩ := h
    exact (R.vw rv e).ins R.sub hm
  · cases h
def evMeth (C : Addr) (m : Str) (g : M Ret) (ea : M Rf) (el : M (List Rf)) : M Ret := fun ρ => (ea ρ).bind fun r ρ1 => if isIns C m ρ1 r = true then (el ρ1).bind fun rs ρ2 => callW g (r :: rs) ρ2 else .bad
theorem ac_meth {m : Str} {n : Nat} (h : AE E K te ea) (ha : AL E K tl el) (hn : ∀ s rs ρ', el s = .ok rs ρ' → rs.length = n) : AC E K (tMeth C m (spD K (n + 1) g) [] E0 te tl) (evMeth C m g ea el) := by
  intro s Q R q
  refine h s _ R (Post.bind q shR fun r ρ1 v F1 fp1 H1 ok1 T1 rv1 q1 => ?_)
  by_cases hi : isIns C m ρ1 r = true
  · rw [if_pos hi] at q1
    obtain ⟨a, dx, fs, rfl, h1, h2⟩ := isIns_of ok1 rv1 hi
    refine ⟨a, dx, fs, rfl, h1, h2, ?_⟩
    refine ha (s.to F1 fp1 ρ1 H1) _ ok1 ?_
    show Post E K (RL K) _ (el ρ1) _
    cases e : el ρ1 with
    | ex x ρ2 => rw [e] at q1; exact q1
    | bad => rw [e] at q1; exact q1
    | ok rs ρ2 =>
      rw [e] at q1
      intro vs F2 fp2 H2 ok2 T2 rr
      show spD K (n + 1) g (V.ref a :: vs ++ []) H2 Q E0
      rw [List.append_nil]
      exact call_post (s := s.to F2 fp2 ρ2 H2) ok2 (.cons (RfR.mono T2.ff rv1) rr) (by simp [hn _ _ _ e]) (Post.shift q1 shR T2 rfl)
  · rw [if_neg hi] at q1; exact q1.elim
def evProp (C : Addr) (m : Str) (g : M Ret) (ea : M Rf) : M Ret := fun ρ => (ea ρ).bind fun r ρ1 => if isIns C m ρ1 r = true then callW g [r] ρ1 else .bad
theorem ac_prop {m : Str} (h : AE E K te ea) : AC E K (tProp C (spD K 1 g) [] E0 te) (evProp C m g ea) := by
  intro s Q R q
  refine h s _ R (Post.bind q shR fun r ρ1 v F1 fp1 H1 ok1 T1 rv1 q1 => ?_)
  by_cases hi : isIns C m ρ1 r = true
  · rw [if_pos hi] at q1
    obtain ⟨a, dx, fs, rfl, h1, h2⟩ := isIns_of ok1 rv1 hi
    exact ⟨a, dx, fs, rfl, h1, call_post (s := s.to F1 fp1 ρ1 H1) ok1 (.cons rv1 .nil) rfl q1⟩
  · rw [if_neg hi] at q1; exact q1.elim
/-! ### fields stored -/
def putE (f : Str) (x : Sum D O) : List (Str × Sum D O) → List (Str × Sum D O)
  | [] => [(f, x)]
  | (g, y) :: r => if g = f then (g, x) :: r else (g, y) :: putE f x r
theorem OwnF.len {F H : Hp} : ∀ {fs : List (Str × V)} {es : List (Str × Sum D O)} {l : List Addr}, OwnF K F H fs es l → fs.length = es.length
  | _, _, _, .nil => rfl
  | _, _, _, .dat h t => by simp [OwnF.len t]
  | _, _, _, .own o t n => by simp [OwnF.len t]
theorem OwnF.put {F H : Hp} {f : Str} {v : V} {d : D} (h : Rp K F v d) : ∀ {fs : List (Str × V)} {es : List (Str × Sum D O)} {l : List Addr}, OwnF K F H fs es l → ∃ l', OwnF K F H (putF f v fs) (putE f (.inl d) es) l' ∧ ∀ a ∈ l', a ∈ l
  | _, _, _, .nil => ⟨[], .dat h .nil, fun a ha => ha⟩
  | _, _, l, .dat (k := k) r t => by
    simp only [putF, putE]
    by_cases e : k = f
    · rw [if_pos e, if_pos e]
      exact ⟨l, .dat h t, fun a ha => ha⟩
    · rw [if_neg e, if_neg e]
      obtain ⟨l', h1, h2⟩ := OwnF.put h t
      exact ⟨l', .dat r h1, h2⟩
  | _, _, _, .own (k := k) (l := l) (m := m) o t n => by
    simp only [putF, putE]
    by_cases e : k = f
    · rw [if_pos e, if_pos e]
      exact ⟨l, .dat h t, fun a ha => by simp [ha]⟩
    · rw [if_neg e, if_neg e]
      obtain ⟨l', h1, h2⟩ := OwnF.put h t
      exact ⟨m ++ l', .own o h1 (fun a ha hb => n a ha (h2 a hb)), fun a ha => by
        rcases List.mem_append.mp ha with z | z
        · simp [z]
        · simp [h2 a z]⟩
/-- self.f = data -/
def xFld (C : Addr) (i : Nat) (f : Str) (ed : M D) : W := fun ρ => thenS (ed ρ) fun d ρ1 => match ρ1[i]? with
  | some (.own b (.ins C' es)) => if C' = C ∧ es.length < 1000 then .nx (ρ1.set i (.own b (.ins C' (putE f (.inl d) es)))) else .bad
  | _ => .bad
theorem as_fld {i : Nat} {f : Str} {ed : M D} (hc : Cls K C) (hn : NoAttr K C f) (h : AD E K te ed) : AS E K (sFld K (tVar i) te f) (xFld C i f ed) := by
  intro s D R q
  refine h s _ R (PostS.thenS q fun d ρ1 v F1 fp1 H1 ok1 T1 rv1 q1 => ?_)
  split at q1
  · rename_i b C' es e
    split at q1
    · rename_i hC
      obtain ⟨rfl, hl⟩ := hC
      obtain ⟨p, h1, h2, h3⟩ := ok1.own i b _ e
      obtain ⟨dx, fs, m, el, a, bb, c, nn⟩ := h2.ins_inv
      obtain ⟨l', c', sub⟩ := c.put (f := f) rv1
      have ne : dx ≠ p := ne_of bb a (by intro z; cases z)
      refine ⟨_, h1, p, _, dx, fs, rfl, a, hc, hn, by rw [c.len]; exact hl, ?_⟩
      have keep : ∀ a ∈ l', ∀ u, H1 a = some u → upd H1 p (.ins C' dx (putF f v fs)) a = some u := fun a ha u hu => by
        rw [upd_ne (nn a (sub a ha)).1]; exact hu
      have oa : OwnAt K F1 (upd H1 p (.ins C' dx (putF f v fs))) p (.ins C' (putE f (.inl d) es)) (p :: dx :: l') :=
        .ins upd_same (by rw [upd_ne ne]; exact bb) (c'.mono (Same.refl _) keep) fun a ha => nn a (sub a ha)
      have el : fp1 i = p :: dx :: m := el
      obtain ⟨ok2, T2⟩ := Ok.chg ok1 e h1 oa (fun a ha => .inl (by
        show a ∈ fp1 i
        rw [el]
        simp only [List.mem_cons] at ha ⊢
        rcases ha with z | z | z
        · exact .inl z
        · exact .inr (.inl z)
        · exact .inr (.inr (sub a z)))) (fun a u n hu => by
          rw [upd_ne (fun z : a = p => n (by show a ∈ fp1 i; rw [el, z]; simp))]; exact hu) (fun a hu => by
          by_cases z : a = p
          · rw [z, upd_same]; simp
          · rw [upd_ne z]; exact hu)
      exact q1 _ _ _ _ ok2 T2
    · exact q1.elim
  · exact q1.elim
end
end
end DC
namespace DC
noncomputable section
open PySem PySem.Spec PyProof.Rows L2 G
section
variable {E : XK} {K : PySem.W.Frag} {te ta to : TE} {tl : TA} {ea eo : M Rf} {el : M (List Rf)}
theorem len_nil : ∀ s rs ρ', evNil s = .ok rs ρ' → rs.length = 0 := fun s rs ρ' e => by cases e; rfl
theorem len_cons {n : Nat} (h : ∀ s rs ρ', el s = .ok rs ρ' → rs.length = n) : ∀ s rs ρ', evCons ea el s = .ok rs ρ' → rs.length = n + 1 := fun s rs ρ' e => by
  simp only [evCons] at e
  cases e1 : ea s with
  | ex x ρ1 => rw [e1] at e; cases e
  | bad => rw [e1] at e; cases e
  | ok a ρ1 =>
    rw [e1] at e
    simp only [Out.bind] at e
    cases e2 : el ρ1 with
    | ex x ρ2 => rw [e2] at e; cases e
    | bad => rw [e2] at e; cases e
    | ok as ρ2 =>
      rw [e2] at e
      cases e
      simp [h _ _ _ e2]
def fNeg : D → Option D
  | .int i => some (.int (-i))
  | _ => none
theorem ua_neg : UnA K (rU fun i => .int (-i)) fNeg := by
  intro F H x a c Q s h e q
  cases a <;> cases e
  exact ⟨_, h.int, q _ F H (Grow.refl s) (.int _)⟩
noncomputable instance {i j : Int} : Decidable (CShl i j) := Classical.propDecidable _
abbrev fShl : D → D → Option D := op2I CShl fun i j => .int (i * 2 ^ j.toNat)
theorem oa_shl : OpA K (rI CShl fun i j => .int (i * 2 ^ j.toNat)) fShl := oa_rI fun _ _ _ => .int _
noncomputable instance {i j : Int} : Decidable (CMulW i j) := Classical.propDecidable _
noncomputable instance {i j : Int} : Decidable (CDivW i j) := Classical.propDecidable _
abbrev fMulW : D → D → Option D := op2I CMulW fun i j => .int (i * j)
theorem oa_mulW : OpA K (rI CMulW fun i j => .int (i * j)) fMulW := oa_rI fun _ _ _ => .int _
abbrev fDivW : D → D → Option D := op2I CDivW fun i j => .int (i / j)
theorem oa_divW : OpA K (rI CDivW fun i j => .int (i / j)) fDivW := oa_rI fun _ _ _ => .int _
def fBool : List D → Option D
  | [.int i] => some (.bl (i != 0))
  | [.bl b] => some (.bl b)
  | _ => none
theorem ca_bool : CaA K (fun xs H Q => (∃ i, xs = [.int i] ∧ Q (.bl (i != 0)) H) ∨ ∃ k, xs = [.bl k] ∧ Q (.bl k) H) fBool := by
  intro F H xs as c Q s h e q
  match as, e with
  | [.int i], e =>
    obtain ⟨v, rfl, w⟩ := h.one
    cases e
    rw [w.int]
    exact .inl ⟨i, rfl, q _ F H (Grow.refl s) (.bl _)⟩
  | [.bl b], e =>
    obtain ⟨v, rfl, w⟩ := h.one
    cases e
    rw [w.bl]
    exact .inr ⟨b, rfl, q _ F H (Grow.refl s) (.bl _)⟩
/-! ### as plain data -/
mutual
def D.toP : D → Option PyData
  | .non => some .none
  | .bl b => some (.bool b)
  | .int i => some (.int i)
  | .str z => some (.str z)
  | .lst xs => (D.toPs xs).map PyData.list
  | .tup xs => (D.toPs xs).map PyData.tuple
  | _ => none
def D.toPs : List D → Option (List PyData)
  | [] => some []
  | d :: r => match D.toP d, D.toPs r with
    | some x, some xs => some (x :: xs)
    | _, _ => none
end
mutual
theorem Rp.dp {F H : Hp} (s : Same F H) : ∀ {d : D} {v : V} {p : PyData}, Rp K F v d → d.toP = some p → Dp K H v p
  | .non, _, _, h, e => by cases h; simp [D.toP] at e; subst e; exact .non
  | .bl b, _, _, h, e => by cases h; simp [D.toP] at e; subst e; exact .bl _
  | .int i, _, _, h, e => by cases h; simp [D.toP] at e; subst e; exact .int _
  | .str z, _, _, h, e => by cases h; simp [D.toP] at e; subst e; exact .str _
  | .lst xs, _, _, h, e => by
    simp only [D.toP, Option.map_eq_some_iff] at e
    obtain ⟨ps, e1, rfl⟩ := e
    cases h with
    | lst a b => exact .lst (.of (s _ _ a)) (RpA.dp s b e1)
  | .tup xs, _, _, h, e => by
    simp only [D.toP, Option.map_eq_some_iff] at e
    obtain ⟨ps, e1, rfl⟩ := e
    cases h with
    | tup a b => exact .tup (Same.tupq s a) (RpA.dp s b e1)
  | .dk _, _, _, _, e => by simp [D.toP] at e
  | .dt _, _, _, _, e => by simp [D.toP] at e
  | .ins _ _, _, _, _, e => by simp [D.toP] at e
  | .scr _, _, _, _, e => by simp [D.toP] at e
theorem RpA.dp {F H : Hp} (s : Same F H) : ∀ {ds : List D} {vs : List V} {ps : List PyData}, RpA K F vs ds → D.toPs ds = some ps → DpAll K H vs ps
  | [], _, _, h, e => by cases h; simp [D.toPs] at e; subst e; exact .nil
  | d :: ds, _, _, h, e => by
    simp only [D.toPs] at e
    split at e
    · rename_i x xs e1 e2
      cases e
      cases h with
      | cons a b => exact .cons (Rp.dp s a e1) (RpA.dp s b e2)
    · cases e
end
theorem Vw.dp {F H : Hp} {v : V} {d : D} {p : PyData} (s : Same F H) (h : Vw K F H v d) (e : d.toP = some p) : Dp K H v p := by
  cases d with
  | lst xs =>
    simp only [D.toP, Option.map_eq_some_iff] at e
    obtain ⟨ps, e1, rfl⟩ := e
    obtain ⟨a, vs, rfl, h1, h2⟩ := h.lst s
    exact .lst (.of h1) (RpA.dp s h2 e1)
  | dk _ => simp [D.toP] at e
  | dt _ => simp [D.toP] at e
  | ins _ _ => simp [D.toP] at e
  | _ => exact Rp.dp s (h.flat (fun _ z => by cases z) (fun _ z => by cases z) (fun _ z => by cases z) (fun _ _ z => by cases z)) e
def fEqD (neg : Bool) : D → D → Option D := fun a b => match a.toP, b.toP with
  | some d, some e => if SeqAt.shaped d = true ∧ SeqAt.shaped e = true then some (.bl (if neg then !PyData.eqv d e else PyData.eqv d e)) else none
  | _, _ => none
theorem oa_eqD : OpA K (rEqD K) (fEqD false) := by
  intro F H x y a b c Q s ha hb e q
  simp only [fEqD] at e
  split at e
  · rename_i d f e1 e2
    split at e <;> cases e
    rename_i hh
    exact ⟨d, f, ha.dp s e1, hb.dp s e2, hh.1, hh.2, q _ F H (Grow.refl s) (.bl _)⟩
  · cases e
theorem oa_neD : OpA K (rNeD K) (fEqD true) := by
  intro F H x y a b c Q s ha hb e q
  simp only [fEqD] at e
  split at e
  · rename_i d f e1 e2
    split at e <;> cases e
    rename_i hh
    exact ⟨d, f, ha.dp s e1, hb.dp s e2, hh.1, hh.2, q _ F H (Grow.refl s) (.bl _)⟩
  · cases e
def fRepr : List D → Option D
  | [d] => match d.toP with
    | some p => if p.showable = true ∧ p.hasDict = false ∧ p.depth ≤ 40 ∧ p.shown.length ≤ sizeLine then some (.str p.shown) else none
    | none => none
  | _ => none
theorem ca_repr : CaA K (rReprD K) fRepr := by
  intro F H xs as c Q s h e q
  match as, e with
  | [d], e =>
    obtain ⟨v, rfl, w⟩ := h.one
    simp only [fRepr] at e
    split at e
    · rename_i p e1
      split at e <;> cases e
      rename_i hh
      exact ⟨v, p, rfl, w.dp s e1, hh.1, hh.2.1, hh.2.2.1, hh.2.2.2, q _ F H (Grow.refl s) (.str _)⟩
    · cases e
/-! ### new lists by calls -/
def CaN (K : PySem.W.Frag) (r : List V → Hp → VK → Prop) (f : List D → Option (List D)) : Prop := ∀ F H xs as c Q, Same F H → Vws K F H xs as → f as = some c → (∀ p vs, H p = none → RpA K F vs c → Q (.ref p) (upd H p (.lst vs))) → r xs H Q
def evCBO (f : List D → Option (List D)) (el : M (List Rf)) : M O := fun ρ => (el ρ).bind0 fun rs ρ1 => match vws ρ1 rs with
  | some as => lift ((f as).map O.lst) ρ1
  | none => .bad
theorem ao_cb {rr : List V → Hp → VK → Prop} {f : List D → Option (List D)} (ok : CaN K rr f) (ha : AL E0 K tl el) : AO E K (tCB rr tl) (evCBO f el) := by
  intro s Q R q
  refine ha s _ R ?_
  unfold evCBO at q
  cases e : el s.ρ with
  | ex x ρ1 => rw [e] at q; exact q.elim
  | bad => rw [e] at q; exact q.elim
  | ok rs ρ1 =>
    rw [e] at q
    intro vs F1 fp1 H1 ok1 T1 rr
    simp only [Out.bind0] at q
    split at q
    · rename_i as ea
      cases e2 : f as with
      | none => rw [e2] at q; exact q.elim
      | some c =>
        rw [e2] at q
        refine ok F1 H1 vs as c Q ok1.sub (ok1.vws rr ea) e2 fun p ws hp rp => ?_
        obtain ⟨ok3, T3, n⟩ := new_own (s := s) (o := .lst ws) ok1 T1 hp
        exact q _ _ _ _ ok3 T3 ⟨p, [p], rfl, .lst upd_same rp, n⟩
    · exact q.elim
def fListN : List D → Option (List D)
  | [d] => items d
  | _ => none
theorem cn_list : CaN K (fun xs H Q => ∃ p ys, xs = [.ref p] ∧ (SqL K H p ys ∨ SqT K H p ys) ∧ ∀ l, H l = none → Q (.ref l) (upd H l (.lst ys))) fListN := by
  intro F H xs as c Q s h e q
  match as, e with
  | [d], e =>
    obtain ⟨v, rfl, w⟩ := h.one
    obtain ⟨p, vs, rfl, h1, h2⟩ := items_of s w e
    exact ⟨p, vs, rfl, h1, fun l hl => q l _ hl h2⟩
/-! ### methods of texts -/
def MA1 (K : PySem.W.Frag) (r : V → List V → Hp → VK → Prop) (f : D → D → Option D) : Prop := ∀ F H x y a b c Q, Same F H → Vw K F H x a → Vw K F H y b → f a b = some c → (∀ v F' H', Grow F H F' H' → Rp K F' v c → Q v H') → r x [y] H Q
def evM1 (f : D → D → Option D) (eo ea : M Rf) : M Rf := fun ρ => (eo ρ).bind fun r1 ρ1 => match r1 with
  | .d (.str z) => (ea ρ1).bind fun r2 ρ2 => match vw ρ2 r2 with
    | some b => lift ((f (.str z) b).map Rf.d) ρ2
    | none => .bad
  | _ => .bad
theorem ae_m1 {r : V → List V → Hp → VK → Prop} {f : D → D → Option D} (ok : MA1 K r f) (ho : AE E K to eo) (ha : AE E K ta ea) : AE E K (tM1 r to ta) (evM1 f eo ea) := by
  intro s Q R q
  refine ho s _ R (Post.bind q shV fun r1 ρ1 x F1 fp1 H1 ok1 T1 rv1 q1 => ?_)
  split at q1
  · rename_i z
    have rv : Rp K F1 x (.str z) := rv1
    cases rv
    refine ⟨⟨z, rfl⟩, ?_⟩
    refine ha (s.to F1 fp1 ρ1 H1) _ ok1 (Post.bind q1 shV fun r2 ρ2 y F2 fp2 H2 ok2 T2 rv2 q2 => ?_)
    split at q2
    · rename_i b eb
      cases e : f (.str z) b with
      | none => rw [e] at q2; exact q2.elim
      | some c =>
        rw [e] at q2
        refine ok F2 H2 _ y (.str z) b c Q ok2.sub (.inl (.str z)) (ok2.vw rv2 eb) e fun v F' H' g rp => ?_
        obtain ⟨ok3, T3⟩ := ok2.grow g
        exact q2 v F' fp2 H' ok3 T3 rp
    · exact q2.elim
  · exact q1.elim
def fJoin : D → D → Option D := fun a b => match a, (items b).bind strsD with
  | .str z, some ys => if (ys.map (·.length)).sum + ys.length * z.length ≤ 16777216 then some (.str (Txt.join z ys)) else none
  | _, _ => none
theorem ma_join : MA1 K (fun x xs H Q => ∃ a p, ∃ ys : List Str, x = .str a ∧ xs = [.ref p] ∧ (SqL K H p (ys.map V.str) ∨ SqT K H p (ys.map V.str)) ∧ (ys.map (·.length)).sum + ys.length * a.length ≤ 16777216 ∧ Q (.str (Txt.join a ys)) H) fJoin := by
  intro F H x y a b c Q s ha hb e q
  simp only [fJoin] at e
  split at e
  · rename_i z ys e1
    simp only [Option.bind_eq_some_iff] at e1
    obtain ⟨ds, e2, e3⟩ := e1
    split at e <;> cases e
    rename_i hl
    obtain ⟨p, vs, rfl, h1, h2⟩ := items_of s hb e2
    rw [strs_of h2 e3] at h1
    exact ⟨z, p, ys, ha.str, rfl, h1, hl, q _ F H (Grow.refl s) (.str _)⟩
  · cases e
def fPartition : D → D → Option D
  | .str a, .str b => if (b.length == 0) = false ∧ a.length ≤ sizeLine then some (.tup [.str (Txt.partition a b).1, .str (Txt.partition a b).2.1, .str (Txt.partition a b).2.2]) else none
  | _, _ => none
theorem ma_partition : MA1 K (fun x xs H Q => ∃ a b, x = .str a ∧ xs = [.str b] ∧ (b.length == 0) = false ∧ a.length ≤ sizeLine ∧
    ∀ p, H p = none → Q (.ref p) (upd H p (.tup [.str (Txt.partition a b).1, .str (Txt.partition a b).2.1, .str (Txt.partition a b).2.2]))) fPartition := by
  intro F H x y a b c Q s ha hb e q
  match a, b, e with
  | .str a, .str b, e =>
    simp only [fPartition] at e
    split at e <;> cases e
    rename_i hh
    rw [ha.str, hb.str]
    exact ⟨a, b, rfl, rfl, hh.1, hh.2, fun p hp => q _ _ _ (Grow.one s hp) (.tup (.of upd_same) (.cons (.str _) (.cons (.str _) (.cons (.str _) .nil))))⟩
def MN1 (K : PySem.W.Frag) (r : V → List V → Hp → VK → Prop) (f : D → D → Option (List D)) : Prop := ∀ F H x y a b c Q, Same F H → Vw K F H x a → Vw K F H y b → f a b = some c → (∀ p vs, H p = none → RpA K F vs c → Q (.ref p) (upd H p (.lst vs))) → r x [y] H Q
def evM1O (f : D → D → Option (List D)) (eo ea : M Rf) : M O := fun ρ => (eo ρ).bind0 fun r1 ρ1 => match r1 with
  | .d (.str z) => (ea ρ1).bind0 fun r2 ρ2 => match vw ρ2 r2 with
    | some b => lift ((f (.str z) b).map O.lst) ρ2
    | none => .bad
  | _ => .bad
theorem ao_m1 {r : V → List V → Hp → VK → Prop} {f : D → D → Option (List D)} (ok : MN1 K r f) (ho : AE E0 K to eo) (ha : AE E0 K ta ea) : AO E K (tM1 r to ta) (evM1O f eo ea) := by
  intro s Q R q
  refine ho s _ R ?_
  unfold evM1O at q
  cases e1 : eo s.ρ with
  | ex x ρ1 => rw [e1] at q; exact q.elim
  | bad => rw [e1] at q; exact q.elim
  | ok r1 ρ1 =>
    rw [e1] at q
    intro x F1 fp1 H1 ok1 T1 rv1
    simp only [Out.bind0] at q
    split at q
    · rename_i z
      have rv : Rp K F1 x (.str z) := rv1
      cases rv
      refine ⟨⟨z, rfl⟩, ?_⟩
      refine ha (s.to F1 fp1 ρ1 H1) _ ok1 ?_
      show Post E0 K (RV K) _ (ea ρ1) _
      cases e2 : ea ρ1 with
      | ex x ρ2 => rw [e2] at q; exact q.elim
      | bad => rw [e2] at q; exact q.elim
      | ok r2 ρ2 =>
        rw [e2] at q
        intro y F2 fp2 H2 ok2 T2 rv2
        dsimp only at q
        split at q
        · rename_i b eb
          cases e : f (.str z) b with
          | none => rw [e] at q; exact q.elim
          | some c =>
            rw [e] at q
            refine ok F2 H2 _ y (.str z) b c Q ok2.sub (.inl (.str z)) (ok2.vw rv2 eb) e fun p ws hp rp => ?_
            obtain ⟨ok3, T3, n⟩ := new_own (s := s) (o := .lst ws) ok2 (T1.trans T2) hp
            exact q _ _ _ _ ok3 T3 ⟨p, [p], rfl, .lst upd_same rp, n⟩
        · exact q.elim
    · exact q.elim
theorem rpa_strs {F : Hp} : ∀ ys : List Str, RpA K F (ys.map V.str) (ys.map D.str)
  | [] => .nil
  | y :: ys => .cons (.str y) (rpa_strs ys)
def fSplit : D → D → Option (List D)
  | .str a, .str b => if (b.length == 0) = false ∧ a.length + 2 ≤ sizeLine then some ((Txt.split a b).map D.str) else none
  | _, _ => none
theorem mn_split : MN1 K (fun x xs H Q => ∃ a b, x = .str a ∧ xs = [.str b] ∧ (b.length == 0) = false ∧ a.length + 2 ≤ sizeLine ∧ rNewStrs (Txt.split a b) H Q) fSplit := by
  intro F H x y a b c Q s ha hb e q
  match a, b, e with
  | .str a, .str b, e =>
    simp only [fSplit] at e
    split at e <;> cases e
    rename_i hh
    rw [ha.str, hb.str]
    exact ⟨a, b, rfl, rfl, hh.1, hh.2, fun p hp => q p _ hp (rpa_strs _)⟩
/-! ### a thing of one's own handed back -/
theorem as_retSl (i : Nat) : AS E K (tRet (tVar i)) (xRetSl i) := by
  intro s D R q
  unfold xRetSl at q
  split at q
  · rename_i o e
    obtain ⟨p, h1, h2, h3⟩ := R.own i false o e
    have hf : free s.ρ i = true := by unfold free; rw [e]
    obtain ⟨ok', T'⟩ := Ok.put (i := i) (x := .un) (z := none) R hf (.inl ⟨rfl, rfl⟩)
    refine ⟨_, h1, q _ _ _ _ _ ok' T' ⟨p, s.fp i, rfl, h2, fun a ha => ⟨h3 a ha, .inr ⟨i, o, e, ha⟩, fun ⟨j, b, o', e', m⟩ => ?_⟩⟩⟩
    rcases set_get e' with ⟨_, z, _⟩ | ⟨n, z⟩
    · cases z
    · exact R.sep i j false b o o' n e z a ha m
  · exact q.elim
end
theorem pe_gi {X : Cx} {x : Str} {i : Int} {pos : Pos} (hg : Gl X x) (h : ∃ t, X.mg x = some (.int i t)) (hd : (x == ("__debug__" : Str)) = false := by decide) : PE X (.Name x pos) (tC (.int i)) := by
  obtain ⟨t, h⟩ := h
  exact pe_glob hg h ⟨t, rfl⟩ hd
theorem pe_gs {X : Cx} {x : Str} {i : Str} {pos : Pos} (hg : Gl X x) (h : ∃ t, X.mg x = some (.str i t)) (hd : (x == ("__debug__" : Str)) = false := by decide) : PE X (.Name x pos) (tC (.str i)) := by
  obtain ⟨t, h⟩ := h
  exact pe_glob hg h ⟨t, rfl⟩ hd
end
end DC
namespace DC
noncomputable section
open PySem PySem.Spec PyProof.Rows L2 G
/-! ### operators of one's own: x in o, o | p, o & p, o - p -/
/-- a special method of the class at C -/
structure OpM (P : Program) (w : World) (K : PySem.W.Frag) (mg : Str → Option Value) (base : Heap) (C : Addr) (m : Str) (k : Nat) (ps : List Str) (sp : Sp) : Prop where
  ex : ∃ f fd, FG P w K mg base CX0 k f fd ps sp ∧ PySem.W.findIn K (.ref C) m = some (some (.ref f)) ∧ PySem.W.isFn K (.ref f) = true ∧ Binds K fd ps []
def rInOwn (C : Addr) (sp : Sp) : R2 := fun x y H Q => ∃ a dx fs, y = .ref a ∧ H a = some (.ins C dx fs) ∧ sp [.ref a, x] H (fun v H' => ∃ k, v = .bl k ∧ Q (.bl k) H') E0
def rBinOwn (C : Addr) (sp : Sp) : R2 := fun x y H Q => ∃ a b dx fs dx' fs', x = .ref a ∧ y = .ref b ∧ H a = some (.ins C dx fs) ∧ H b = some (.ins C dx' fs') ∧ sp [.ref a, .ref b] H Q E0
section
variable {X : Cx} {k : Nat} {C : Addr} {ps : List Str} {sp : Sp}
theorem op_inOwn (M : OpM X.prog X.w X.K X.mg X.base C "__contains__" k ps sp) (gd : X.A.guards = some []) (hr : Room k X.A) (h2 : ps.length = 2) : OpR X (compareOp .In) (rInOwn C sp) := by
  intro pins s σ H x y v u Q I rx ry h
  obtain ⟨f, fd, F, he, hf, hb⟩ := M.ex
  obtain ⟨a, dx, fs, rfl, ha, q⟩ := h
  cases ry
  obtain ⟨mA, J, _⟩ := ins_get I.hok ha
  obtain ⟨od, J, _⟩ := J.look
  obtain ⟨m, fr⟩ := I.fr
  refine PySem.W.in_K fr I.mod.kin J he hf (PySem.wpAny_call (codeAny_mono (run_g F gd hr pass0 I (us := [.ref a, v]) (vs := [.ref a, x]) (binds_to hb I.kIn h2.symm) (.cons rfl (.cons rx .nil)) q) fun r s' hq => ?_))
  cases r with
  | error e => exact hq
  | ok fl =>
    cases fl with
    | ret z =>
      obtain ⟨v', H', I', rv, kk, rfl, q'⟩ := hq
      cases rv
      exact wpAny_truthy_bool ⟨.bl kk, H', I', rfl, q'⟩
    | next => exact hq
    | brk => exact hq
    | cont => exact hq
theorem op_binOwn {op : Operator} {m : Str} (M : OpM X.prog X.w X.K X.mg X.base C m k ps sp) (hm : PySem.dunder op.info.2 = m) (hc : PySem.W.selfFirst X.K C = true) (gd : X.A.guards = some []) (hr : Room k X.A) (h2 : ps.length = 2) : OpR X (binaryOp op) (rBinOwn C sp) := by
  intro pins s σ H x y v u Q I rx ry h
  obtain ⟨f, fd, F, he, hf, hb⟩ := M.ex
  obtain ⟨a, b, dx, fs, dx', fs', rfl, rfl, ha, hb', q⟩ := h
  cases rx
  cases ry
  obtain ⟨mA, J, _⟩ := ins_get I.hok ha
  obtain ⟨od, J, _⟩ := J.look
  obtain ⟨mB, J2, _⟩ := ins_get I.hok hb'
  obtain ⟨od2, J2, _⟩ := J2.look
  obtain ⟨mm, fr⟩ := I.fr
  subst hm
  refine PySem.W.binop_K fr I.mod.kin J J2.type hc he hf (PySem.wpAny_call (codeAny_mono (run_g F gd hr pass0 I (us := [.ref a, .ref b]) (vs := [.ref a, .ref b]) (binds_to hb I.kIn h2.symm) (.cons rfl (.cons rfl .nil)) q) fun r s' hq => ?_))
  cases r with
  | error e => exact hq
  | ok fl =>
    cases fl with
    | ret z =>
      obtain ⟨v', H', I', rv, q'⟩ := hq
      exact noNI (Q := EP X pins σ Q) rv ⟨v', H', I', rv, q'⟩
    | next => exact hq
    | brk => exact hq
    | cont => exact hq
end
section
variable {E : XK} {K : PySem.W.Frag} {ta tb : TE} {ea eb : M Rf} {g : M Ret} {C : Addr}
/-- an instance of the class at C -/
def isC (C : Addr) (ρ : List Sl) (r : Rf) : Bool := match vw ρ r with
  | some (.ins C' _) => decide (C' = C)
  | _ => false
theorem Vw.insC {F H : Hp} {v : V} {C : Addr} {es : List (Str × D)} (s : Same F H) (h : Vw K F H v (.ins C es)) : ∃ a dx fs, v = .ref a ∧ H a = some (.ins C dx fs) := by
  rcases h with h | ⟨p, o, l, rfl, e, h⟩
  · cases h with
    | ins a b => exact ⟨_, _, _, rfl, s _ _ a⟩
  · cases o with
    | ins C' es' =>
      simp only [O.toD, D.ins.injEq] at e
      obtain ⟨rfl, rfl⟩ := e
      obtain ⟨dx, fs, m', _, a, _⟩ := h.ins_inv
      exact ⟨_, _, _, rfl, a⟩
    | _ => simp [O.toD] at e
theorem isC_of {s : S} {v : V} {r : Rf} (R : Ok K s) (rv : RfR K s.F s.σ v r) (h : isC C s.ρ r = true) : ∃ a dx fs, v = .ref a ∧ s.H a = some (.ins C dx fs) := by
  unfold isC at h
  split at h
  · rename_i C' fs e
    simp only [decide_eq_true_eq] at h
    subst h
    exact (R.vw rv e).insC R.sub
  · cases h
def evInOwn (C : Addr) (g : M Ret) (ea eb : M Rf) : M Rf := fun ρ => (ea ρ).bind fun r1 ρ1 => (eb ρ1).bind fun r2 ρ2 => if isC C ρ2 r2 = true then (match callW g [r2, r1] ρ2 with
  | .ok (.d (.bl k)) ρ3 => .ok (.d (.bl k)) ρ3
  | _ => .bad) else .bad
theorem ae_inOwn (ha : AE E K ta ea) (hb : AE E K tb eb) : AE E K (tOp (rInOwn C (spD K 2 g)) ta tb) (evInOwn C g ea eb) := by
  intro s Q R q
  refine ha s _ R (Post.bind q shV fun r1 ρ1 x F1 fp1 H1 ok1 T1 rv1 q1 => ?_)
  refine hb (s.to F1 fp1 ρ1 H1) _ ok1 (Post.bind q1 shV fun r2 ρ2 y F2 fp2 H2 ok2 T2 rv2 q2 => ?_)
  by_cases hi : isC C ρ2 r2 = true
  · rw [if_pos hi] at q2
    obtain ⟨a, dx, fs, rfl, h1⟩ := isC_of ok2 rv2 hi
    refine ⟨a, dx, fs, rfl, h1, call_post (E := E0) (s := s.to F2 fp2 ρ2 H2) ok2 (.cons rv2 (.cons (RfR.mono T2.ff rv1) .nil)) rfl ?_⟩
    show Post E0 K (RetR K) _ (callW g [r2, r1] ρ2) _
    cases e : callW g [r2, r1] ρ2 with
    | ex x ρ3 => rw [e] at q2; exact q2.elim
    | bad => rw [e] at q2; exact q2.elim
    | ok r ρ3 =>
      rw [e] at q2
      intro v F3 fp3 H3 ok3 T3 rv3
      match r, q2, rv3 with
      | .d (.bl kk), q2, rv3 =>
        have rv3 : Rp K F3 v (.bl kk) := rv3
        cases rv3
        exact ⟨kk, rfl, q2 _ F3 fp3 H3 ok3 T3 (.bl _)⟩
  · rw [if_neg hi] at q2; exact q2.elim
def evBinOwn (C : Addr) (g : M Ret) (ea eb : M Rf) : M Ret := fun ρ => (ea ρ).bind fun r1 ρ1 => (eb ρ1).bind fun r2 ρ2 => if isC C ρ2 r1 = true ∧ isC C ρ2 r2 = true then callW g [r1, r2] ρ2 else .bad
theorem ac_binOwn (ha : AE E K ta ea) (hb : AE E K tb eb) : AC E K (tOp (rBinOwn C (spD K 2 g)) ta tb) (evBinOwn C g ea eb) := by
  intro s Q R q
  refine ha s _ R (Post.bind q shR fun r1 ρ1 x F1 fp1 H1 ok1 T1 rv1 q1 => ?_)
  refine hb (s.to F1 fp1 ρ1 H1) _ ok1 (Post.bind q1 shR fun r2 ρ2 y F2 fp2 H2 ok2 T2 rv2 q2 => ?_)
  by_cases hi : isC C ρ2 r1 = true ∧ isC C ρ2 r2 = true
  · rw [if_pos hi] at q2
    have rv1' := RfR.mono T2.ff rv1
    obtain ⟨a, dx, fs, rfl, h1⟩ := isC_of ok2 rv1' hi.1
    obtain ⟨b, dx', fs', rfl, h2⟩ := isC_of ok2 rv2 hi.2
    exact ⟨a, b, dx, fs, dx', fs', rfl, rfl, h1, h2, call_post (s := s.to F2 fp2 ρ2 H2) ok2 (.cons rv1' (.cons rv2 .nil)) rfl q2⟩
  · rw [if_neg hi] at q2; exact q2.elim
end
/-! ### C(..) with keywords and defaults -/
structure MkD (P : Program) (w : World) (K : PySem.W.Frag) (mg : Str → Option Value) (base : Heap) (x : Str) (C : Addr) (k : Nat) (ps : List Str) (n : Nat) (ks : List Str) (gV : List V → List V → List V) (sp : Sp) : Prop where
  ex : ∃ f fd g, FG P w K mg base CX0 k f fd ps sp ∧ Mk K C f ∧ mg x = some (.ref C) ∧ KBn K fd ps (n + 1) ks g fun vs zs => match vs with
    | v :: r => v :: gV r zs
    | [] => []
def tMakeD (C : Addr) (n m : Nat) (sp : Sp) (gV : List V → List V → List V) (t tk : TA) : TE := fun σ H Q => t σ H fun vs H1 => tk σ H1 fun zs H2 => vs.length = n ∧ zs.length = m ∧
  ∀ x dx, H2 x = none → H2 dx = none → dx ≠ x → sp (.ref x :: gV vs zs) (upd (upd H2 dx (.own x)) x (.ins C dx [])) (fun v H3 => v = .non ∧ Q (.ref x) H3) E0
section
variable {X : Cx} {k n : Nat} {C : Addr} {ps ks : List Str} {sp : Sp} {x : Str} {p pos : Pos} {e : Expr} {es : List Expr} {kws : List Keyword} {t tk : TA} {gV : List V → List V → List V}
theorem kbn_to {K : PySem.W.Frag} {fd : FuncData} {g : List Value → List Value → List Value} {gW : List V → List V → List V} {m : Nat} (hb : KBn K fd ps m ks g gW) {s : Shared} {us ws : List Value} (kx : K.In s.heap) (h1 : us.length = m) (h2 : ws.length = ks.length) : BindsTo s fd ⟨us, ks.zip ws⟩ (ps.zip (g us ws)) := hb.to s us ws kx h1 h2
theorem run_mkD {pins : List (Addr × Obj)} {σ : L2.St} {H : Hp} {s : Shared} {Q : VK} {us ws : List Value} {vs zs : List V} {f : Addr} {fd : FuncData} {g : List Value → List Value → List Value} (Mk' : Mk X.K C f) (F : FG X.prog X.w X.K X.mg X.base CX0 k f fd ps sp) (gd : X.A.guards = some []) (hr : Room (k + 1) X.A)
    (hb : KBn X.K fd ps (n + 1) ks g fun vs zs => match vs with
      | v :: r => v :: gV r zs
      | [] => []) (I : Inv X pins σ H s) (r : Vals vs us) (rz : Vals zs ws) (l1 : vs.length = n) (l2 : zs.length = ks.length)
    (h : ∀ x dx, H x = none → H dx = none → dx ≠ x → sp (.ref x :: gV vs zs) (upd (upd H dx (.own x)) x (.ins C dx [])) (fun v H2 => v = .non ∧ Q (.ref x) H2) E0) :
    wpAny (model X.prog X.w) X.A (call (.ref C) us (ks.zip ws)) (EP X pins σ Q) X.xe s :=
  run_mk Mk' F gd hr pass0 I (all := fun y => g (y :: us) ws) (vs := fun y => y :: gV vs zs)
    (fun s' y kx _ => hb.to s' (.ref y :: us) ws kx (by rw [List.length_cons, ← r.length, l1]) (by rw [← rz.length, l2]))
    (fun y => hb.rel (vs := .ref y :: vs) (us := .ref y :: us) (.cons rfl r) rz) h
/-- C(e, ..), defaults behind -/
theorem pe_kd (M : MkD X.prog X.w X.K X.mg X.base x C k ps n [] gV sp) (gd : X.A.guards = some []) (hr : Room (k + 1) X.A) (hg : Gl X x) (ha : PA X (e :: es) t) (hdb : (x == ("__debug__" : Str)) = false := by decide)
    (he : starEach (e :: es) X.env = (false, eval e X.env) :: starEach es X.env := by rfl) (hpl : (backTo pos (starEach es X.env)).any (·.1) = false := by rfl) : PE X (.Call (.Name x p) (e :: es) [] pos) (tMakeD C n 0 sp gV t tNil) := by
  obtain ⟨f, fd, g, F, mk, hm, hb⟩ := M.ex
  refine ⟨fun pins s σ H Q I h => wpAny_Call_Name_kw (ld_glob I hg hm ?_ hdb)⟩
  refine PySem.W.callWith_K (h₀ := X.base) I.mod.kin mk.kp (thn (ha.run pos pins s σ H _ I h) ?_) he hpl
  rintro us s1 ⟨vs, H1, I1, r, l1, l2, q⟩
  exact ⟨I1.kIn, run_mkD (us := us) (ws := []) mk F gd hr hb I1 r .nil l1 rfl q⟩
/-- C() -/
theorem pe_kd0 (M : MkD X.prog X.w X.K X.mg X.base x C k ps 0 [] gV sp) (gd : X.A.guards = some []) (hr : Room (k + 1) X.A) (hg : Gl X x) (hdb : (x == ("__debug__" : Str)) = false := by decide) : PE X (.Call (.Name x p) [] [] pos) (tMakeD C 0 0 sp gV tNil tNil) := by
  obtain ⟨f, fd, g, F, mk, hm, hb⟩ := M.ex
  refine ⟨fun pins s σ H Q I h => wpAny_Call_Name_kw (ld_glob I hg hm ?_ hdb)⟩
  refine PySem.W.callWith_K0 (first := []) I.kIn mk.kp ?_
  obtain ⟨_, _, q⟩ := h
  exact run_mkD (us := []) (ws := []) mk F gd hr hb I .nil .nil rfl rfl q
/-- C(k = v, ..) -/
theorem pe_kdK0 (M : MkD X.prog X.w X.K X.mg X.base x C k ps 0 ks gV sp) (gd : X.A.guards = some []) (hr : Room (k + 1) X.A) (hg : Gl X x) (hkw : PK X kws tk) (hdb : (x == ("__debug__" : Str)) = false := by decide)
    (hall : (backToKw pos (keywordEach kws X.env)).all (·.1.isSome) = true := by rfl) (hks : (backToKw pos (keywordEach kws X.env)).filterMap (·.1) = ks := by rfl)
    (hpl : ((backTo pos (starEach [] X.env)).any (·.1) || (backToKw pos (keywordEach kws X.env)).any (·.1.isNone)) = false := by rfl) : PE X (.Call (.Name x p) [] kws pos) (tMakeD C 0 ks.length sp gV tNil tk) := by
  obtain ⟨f, fd, g, F, mk, hm, hb⟩ := M.ex
  refine ⟨fun pins s σ H Q I h => wpAny_Call_Name_kw (ld_glob I hg hm ?_ hdb)⟩
  refine PySem.W.callWith_KW0 (h₀ := X.base) I.mod.kin mk.kp hall (thn (hkw.run pos pins s σ H _ I h) ?_) hpl
  rintro ws s1 ⟨zs, H1, I1, rz, l1, l2, q⟩
  rw [hks]
  exact ⟨I1.kIn, run_mkD (us := []) (ws := ws) mk F gd hr hb I1 .nil rz rfl l2 q⟩
/-- C(e, .., k = v, ..) -/
theorem pe_kdK (M : MkD X.prog X.w X.K X.mg X.base x C k ps n ks gV sp) (gd : X.A.guards = some []) (hr : Room (k + 1) X.A) (hg : Gl X x) (ha : PA X (e :: es) t) (hkw : PK X kws tk) (hdb : (x == ("__debug__" : Str)) = false := by decide)
    (hall : (backToKw pos (keywordEach kws X.env)).all (·.1.isSome) = true := by rfl) (hks : (backToKw pos (keywordEach kws X.env)).filterMap (·.1) = ks := by rfl)
    (he : starEach (e :: es) X.env = (false, eval e X.env) :: starEach es X.env := by rfl)
    (hpl : ((backTo pos (starEach (e :: es) X.env)).any (·.1) || (backToKw pos (keywordEach kws X.env)).any (·.1.isNone)) = false := by rfl) : PE X (.Call (.Name x p) (e :: es) kws pos) (tMakeD C n ks.length sp gV t tk) := by
  obtain ⟨f, fd, g, F, mk, hm, hb⟩ := M.ex
  refine ⟨fun pins s σ H Q I h => wpAny_Call_Name_kw (ld_glob I hg hm ?_ hdb)⟩
  refine PySem.W.callWith_KW (h₀ := X.base) I.mod.kin mk.kp hall (thn (ha.run pos pins s σ H _ I h) fun us s1 ⟨vs, H1, I1, r, q⟩ => ?_) hpl he
  refine thn (hkw.run pos pins s1 σ H1 _ I1 q) fun ws s2 ⟨zs, H2, I2, rz, l1, l2, q2⟩ => ⟨I2.kIn, ?_⟩
  rw [hks]
  exact run_mkD mk F gd hr hb I2 r rz l1 l2 q2
end
section
variable {E : XK} {K : PySem.W.Frag} {tl tk : TA} {el ek : M (List Rf)} {g : M Ret} {C : Addr}
/-- the order of the arguments, with the defaults: by values, by what they are -/
def GOk (K : PySem.W.Frag) (n m : Nat) (gV : List V → List V → List V) (gR : List Rf → List Rf → List Rf) (k : Nat) : Prop := ∀ F σ vs zs rs rz, RfRs K F σ vs rs → RfRs K F σ zs rz → rs.length = n → rz.length = m → RfRs K F σ (gV vs zs) (gR rs rz) ∧ (gR rs rz).length = k
def evMakeD (C : Addr) (g : M Ret) (gR : List Rf → List Rf → List Rf) (el ek : M (List Rf)) : M O := fun ρ => (el ρ).bind0 fun rs ρ0 => (ek ρ0).bind0 fun rz ρ1 => match callW g (.sl ρ1.length :: gR rs rz) (ρ1 ++ [.own true (.ins C [])]) with
  | .ok (.d .non) ρ2 => (match ρ2[ρ1.length]? with
    | some (.own _ o) => .ok o (ρ2.take ρ1.length)
    | _ => .bad)
  | _ => .bad
theorem ao_makeD {n m k : Nat} {gV : List V → List V → List V} {gR : List Rf → List Rf → List Rf} (hG : GOk K n m gV gR k) (ha : AL E0 K tl el) (hn : ∀ s rs ρ', el s = .ok rs ρ' → rs.length = n) (hk : AL E0 K tk ek) (hm : ∀ s rs ρ', ek s = .ok rs ρ' → rs.length = m) :
    AO E K (tMakeD C n m (spD K (k + 1) g) gV tl tk) (evMakeD C g gR el ek) := by
  intro s Q R q
  refine ha s _ R ?_
  unfold evMakeD at q
  cases e0 : el s.ρ with
  | ex x ρ1 => rw [e0] at q; exact q.elim
  | bad => rw [e0] at q; exact q.elim
  | ok rs ρ0 =>
    rw [e0] at q
    intro vs F0 fp0 H0 ok0 T0 rr0
    simp only [Out.bind0] at q
    refine hk (s.to F0 fp0 ρ0 H0) _ ok0 ?_
    show Post E0 K (RL K) _ (ek ρ0) _
    cases e : ek ρ0 with
    | ex x ρ1 => rw [e] at q; exact q.elim
    | bad => rw [e] at q; exact q.elim
    | ok rz ρ1 =>
      rw [e] at q
      intro zs F1 fp1 H1 ok1 T01 rz1
      have T1 : Tr s (s.to F1 fp1 ρ1 H1) := T0.trans T01
      have rr0' : RfRs K F1 s.σ vs rs := by
        have go : ∀ {vs : List V} {rs : List Rf}, RfRs K F0 s.σ vs rs → RfRs K F1 s.σ vs rs := fun {vs rs} h => by
          induction h with
          | nil => exact .nil
          | cons a b ih => exact .cons (RfR.mono T01.ff a) ih
        exact go rr0
      obtain ⟨rr, hl⟩ := hG F1 s.σ vs zs rs rz rr0' rz1 (hn _ _ _ e0) (hm _ _ _ e)
      refine ⟨(RfRs.len rr0).trans (hn _ _ _ e0), (RfRs.len rz1).trans (hm _ _ _ e), fun x dx hx hdx ne => ?_⟩
      obtain ⟨ok2, T2⟩ := ok1.grow (Grow.tmp (o := .own x) ok1.sub hdx)
      have hx2 : upd H1 dx (.own x) x = none := by rw [upd_ne ne.symm]; exact hx
      obtain ⟨ok3, T3⟩ := ok2.grow (Grow.tmp (o := .ins C dx []) ok2.sub hx2)
      have T13 := T1.trans (T2.trans T3)
      have oa : OwnAt K F1 (upd (upd H1 dx (.own x)) x (.ins C dx [])) x (.ins C []) [x, dx] := .ins upd_same (by rw [upd_ne ne, upd_same]) .nil (fun a ha => by simp at ha)
      have hnew : ∀ a ∈ [x, dx], F1 a = none ∧ s.H a = none ∧ ¬ Ow (s.to F1 fp1 ρ1 (upd (upd H1 dx (.own x)) x (.ins C dx []))) a := fun a ha => by
        have hz : H1 a = none := by
          simp at ha
          rcases ha with rfl | rfl
          · exact hx
          · exact hdx
        exact ⟨ok1.sub.free hz, none_of_hs T1.hs hz, fun w => ok1.has (s := s.to F1 fp1 ρ1 H1) (by obtain ⟨i, b, o, e, m⟩ := w; exact ⟨i, b, o, e, m⟩) hz⟩
      have okp := ok3.plus oa fun a ha => ⟨(hnew a ha).1, (hnew a ha).2.2⟩
      have rr3 : RfRs K F1 (s.σ ++ [some (V.ref x)]) (.ref x :: gV vs zs) (.sl ρ1.length :: gR rs rz) := by
        refine .cons ?_ rr.more
        show (s.σ ++ [some (V.ref x)])[ρ1.length]? = _
        have hl : s.σ.length = ρ1.length := ok1.len
        rw [← hl, List.getElem?_append_right (Nat.le_refl _)]
        simp
      refine call_post (E := E0) (s := (s.to F1 fp1 ρ1 (upd (upd H1 dx (.own x)) x (.ins C dx []))).plus x (.ins C []) [x, dx]) okp rr3 (by simp [hl]) ?_
      dsimp only at q
      show Post E0 K (RetR K) _ (callW g (.sl ρ1.length :: gR rs rz) (ρ1 ++ [.own true (.ins C [])])) _
      cases ec : callW g (.sl ρ1.length :: gR rs rz) (ρ1 ++ [.own true (.ins C [])]) with
      | ex x ρ2 => rw [ec] at q; exact q.elim
      | bad => rw [ec] at q; exact q.elim
      | ok r ρ2 =>
        rw [ec] at q
        intro v F4 fp4 H4 ok4 T4 rv
        match r, q, rv with
        | .d .non, q, rv =>
          dsimp only at q
          have rv : Rp K F4 v .non := rv
          cases rv
          refine ⟨rfl, ?_⟩
          obtain ⟨okm, Tm, o', h1, h2, h3⟩ := Ok.minus (s0 := s) ok3 T13 oa hnew ok4 T4 rfl
          have h1 : ρ2[ρ1.length]? = some (Sl.own true o') := h1
          rw [h1] at q
          exact q _ _ _ _ okm Tm ⟨x, _, rfl, h2, h3⟩
end
end
end DC
namespace DC
noncomputable section
open PySem PySem.Spec PyProof.Rows L2 G
/-! ### isinstance of a built-in type -/
/-- the built-in type of data that is no instance -/
def tyN : D → Option String
  | .non => some "NoneType"
  | .bl _ => some "bool"
  | .int _ => some "int"
  | .str _ => some "str"
  | .lst _ => some "list"
  | .tup _ => some "tuple"
  | .dk _ => some "dict"
  | .dt _ => some "dict"
  | .ins _ _ => none
  | .scr _ => none
section
variable {K : PySem.W.Frag}
theorem tyN_of {F H : Hp} {v : V} {d : D} {n : String} (s : Same F H) (h : Vw K F H v d) (e : tyN d = some n) : TyX K H v (.type n) := by
  cases d <;> simp [tyN] at e <;> subst e
  · rw [h.non]; exact .base .non
  · rw [h.bl]; exact .base (.bl _)
  · rw [h.int]; exact .base (.int _)
  · rw [h.str]; exact .base (.str _)
  · obtain ⟨p, vs, rfl, h1, _⟩ := h.lst s
    exact .base (.lst h1)
  · obtain ⟨p, vs, rfl, h1, _⟩ := h.tup s
    rcases h1 with (h1 | ⟨o, h1⟩) | ⟨o, its, n, h1, h2, _⟩
    · exact .base (.tup h1)
    · exact .fTuple h1
    · exact .kTuple h1 h2
  · rcases h with h | ⟨p, o, l, rfl, e, h⟩
    · cases h with
      | dk a b => exact .base (.dK (s _ _ a))
    · cases o <;> simp [O.toD] at e
      obtain ⟨_, vs, a, _⟩ := h.dk_inv
      exact .base (.dK a)
  · rcases h with h | ⟨p, o, l, rfl, e, h⟩
    · cases h with
      | dt a b => exact .base (.dT (s _ _ a))
    · cases o <;> simp [O.toD] at e
      obtain ⟨_, vs, a, _⟩ := h.dt_inv
      exact .base (.dT a)
/-- isinstance(x, n) -/
def fIsi (n : String) (ans : String → Option Bool) : D → Option D := fun d => ((tyN d).bind ans).map D.bl
def tIsi (K : PySem.W.Frag) (n : String) (te : TE) : TE := tCB (rIsi K) (tCons te (tCons (tC (.ty n)) tNil))
def evIsi (ans : String → Option Bool) (ea : M Rf) : M Rf := fun ρ => (ea ρ).bind fun r ρ1 => match (vw ρ1 r).bind tyN with
  | some t => lift ((ans t).map fun b => Rf.d (.bl b)) ρ1
  | none => .bad
theorem ae_isi {E : XK} {te : TE} {ea : M Rf} {n : String} {ans : String → Option Bool} (ha : ∀ t b, ans t = some b → kitB t n = some b) (h : AE E K te ea) : AE E K (tIsi K n te) (evIsi ans ea) := by
  intro s Q R q
  refine h s _ R (Post.bind q shV fun r ρ1 v F1 fp1 H1 ok1 T1 rv1 q1 => ?_)
  split at q1
  · rename_i t e
    cases ev : vw ρ1 r with
    | none => rw [ev] at e; cases e
    | some d =>
      rw [ev] at e
      cases eb : ans t with
      | none => rw [eb] at q1; exact q1.elim
      | some b =>
        rw [eb] at q1
        exact ⟨v, .ty n, .type t, .type n, b, rfl, .ty n, tyN_of ok1.sub (ok1.vw rv1 ev) e, kit_ty (ha _ _ eb), q1 _ F1 fp1 H1 ok1 (Tr.refl _) (.bl _)⟩
  · exact q1.elim
def ansInt : String → Option Bool
  | "int" => some true
  | "bool" => some true
  | "NoneType" => some false
  | "str" => some false
  | "list" => some false
  | "tuple" => some false
  | "dict" => some false
  | _ => none
def ansOf (n : String) : String → Option Bool := fun t => if t ∈ ["int", "bool", "NoneType", "str", "list", "tuple", "dict"] then some (t == n) else none
theorem ans_int : ∀ t b, ansInt t = some b → kitB t "int" = some b := fun t b h => by
  unfold ansInt at h
  split at h <;> cases h <;> decide +kernel
theorem ans_of {n : String} (hn : (["int", "bool", "NoneType", "str", "list", "tuple", "dict"].all fun t => kitB t n == some (t == n)) = true) : ∀ t b, ansOf n t = some b → kitB t n = some b := fun t b h => by
  unfold ansOf at h
  split at h
  · rename_i m
    cases h
    exact beq_iff_eq.mp (List.all_eq_true.mp hn t m)
  · cases h
theorem ans_bool : ∀ t b, ansOf "bool" t = some b → kitB t "bool" = some b := ans_of (by decide +kernel)
theorem ans_tuple : ∀ t b, ansOf "tuple" t = some b → kitB t "tuple" = some b := ans_of (by decide +kernel)
theorem ans_str : ∀ t b, ansOf "str" t = some b → kitB t "str" = some b := ans_of (by decide +kernel)
theorem ans_list : ∀ t b, ansOf "list" t = some b → kitB t "list" = some b := ans_of (by decide +kernel)
/-! ### sorted -/
/-- the rising list of ints -/
def insI (x : Int) : List Int → List Int
  | [] => [x]
  | y :: r => if x ≤ y then x :: y :: r else y :: insI x r
def sortI (ns : List Int) : List Int := ns.foldr insI []
theorem insI_perm (x : Int) : ∀ l, (insI x l).Perm (x :: l)
  | [] => .refl _
  | y :: r => by
    unfold insI
    split
    · exact .refl _
    · exact ((insI_perm x r).cons y).trans (.swap x y r)
theorem insI_sorted (x : Int) : ∀ l : List Int, l.Pairwise (· ≤ ·) → (insI x l).Pairwise (· ≤ ·)
  | [], _ => by simp [insI]
  | y :: r, h => by
    unfold insI
    have h' := List.pairwise_cons.mp h
    split
    · rename_i c
      refine List.pairwise_cons.mpr ⟨fun z hz => ?_, h⟩
      rcases List.mem_cons.mp hz with rfl | hz
      · exact c
      · exact Int.le_trans c (h'.1 z hz)
    · rename_i c
      refine List.pairwise_cons.mpr ⟨fun z hz => ?_, insI_sorted x r h'.2⟩
      rcases List.mem_cons.mp ((insI_perm x r).mem_iff.mp hz) with rfl | hz
      · omega
      · exact h'.1 z hz
theorem sortI_perm : ∀ ns, (sortI ns).Perm ns
  | [] => .refl _
  | x :: r => (insI_perm x _).trans ((sortI_perm r).cons x)
theorem sortI_sorted : ∀ ns, (sortI ns).Pairwise (· ≤ ·)
  | [] => .nil
  | x :: r => insI_sorted x _ (sortI_sorted r)
theorem sorted_eq : ∀ {a b : List Int}, a.Perm b → a.Pairwise (· ≤ ·) → b.Pairwise (· ≤ ·) → a = b
  | [], b, p, _, _ => by rw [List.Perm.nil_eq p]
  | x :: a, [], p, _, _ => by cases p.length_eq
  | x :: a, y :: b, p, h1, h2 => by
    have h1' := List.pairwise_cons.mp h1
    have h2' := List.pairwise_cons.mp h2
    have e : x = y := by
      have m1 : x ∈ y :: b := p.mem_iff.mp List.mem_cons_self
      have m2 : y ∈ x :: a := p.mem_iff.mpr List.mem_cons_self
      rcases List.mem_cons.mp m1 with rfl | m1
      · rfl
      · rcases List.mem_cons.mp m2 with rfl | m2
        · rfl
        · exact Int.le_antisymm (h1'.1 y m2) (h2'.1 x m1)
    subst e
    rw [sorted_eq (List.Perm.cons_inv p) h1'.2 h2'.2]
theorem rpa_intsR {F : Hp} (ns : List Int) : RpA K F (ns.map V.int) (ns.map D.int) := rpa_ints ns
def fSortN : List D → Option (List D)
  | [d] => ((items d).bind intsD).bind fun ns => if ns.length < 64 then some ((sortI ns).map D.int) else none
  | _ => none
theorem cn_sorted : CaN K (rSorted K) (fun as => match as with
  | [.lst ds] => fSortN [.lst ds]
  | _ => none) := by
  intro F H xs as c Q s h e q
  match as, e with
  | [.lst ds], e =>
    obtain ⟨v, rfl, w⟩ := h.one
    simp only [fSortN, items, Option.bind_some, Option.bind_eq_some_iff] at e
    obtain ⟨ns, e1, e2⟩ := e
    split at e2 <;> cases e2
    rename_i hl
    obtain ⟨p, vs, rfl, h1, h2⟩ := w.lst s
    rw [ints_of h2 e1] at h1
    refine ⟨p, ns, rfl, .of h1, hl, fun ns' p2 hp hs hn => ?_⟩
    have z := sorted_eq (hp.trans (sortI_perm ns).symm) hs (sortI_sorted ns)
    subst z
    exact q p2 _ hn (rpa_ints _)
/-- sorted(set(t)), t a tuple of ints -/
def rSetT (K : PySem.W.Frag) (w : World) : List V → Hp → VK → Prop := fun xs H Q => ∃ (p : Addr) (ns : List Int), xs = [.ref p] ∧ SqT K H p (ns.map V.int) ∧ ns.length ≤ 1000 ∧
  ∀ (q : Addr) (c : Nat), c ≤ ns.length → H q = none → Q (.ref q) (upd H q (SetO w q (fun k => decide (k ∈ ns)) c))
theorem cr_setT {X : Cx} (hc : X.calm = true) : CallR X (.type "set") (rSetT X.K X.w) := by
  intro pins s σ H xs us Q I r h
  obtain ⟨p, ns, rfl, hs, hl, q⟩ := h
  obtain ⟨its, rv, pt, hz⟩ := I.tuple hs
  rw [Vals.ref1 r]
  have hi : IntsAre its.toArray.toList ns := ints_of_vals rv
  refine call_set_tupI ns (I.ok.hd hc) (show s.heap.IsTuple p its.toArray from pt) hi (by unfold scanBound; omega) fun h' tk c R hcn k => ?_
  have hn : H s.heap.objs.size = none := I.hok.fresh (Nat.le_refl _)
  exact ⟨.ref _, _, I.laid (t' := tk) k (Nat.le_refl _) (setO_new R), rfl, q _ c hcn hn⟩
end
end
end DC
namespace L2
open PySem PySem.Spec PyProof.Rows
theorem KV.vals {κ : Type} : ∀ {kvs : List (κ × V)} {vs : List (κ × Value)}, KV kvs vs → Vals (kvs.map (·.2)) (vs.map (·.2))
  | _, _, .nil => .nil
  | _, _, .cons h t => .cons h.2 (KV.vals t)
section
variable {X : Cx} {o : Expr} {td : TE} {p pos apos cpos : Pos}
/-- list(o.values()) -/
def tLstVals (td : TE) : TE := fun σ H Q => td σ H fun x H1 => ∃ d kvs, x = .ref d ∧ Rd H1 d (.dK kvs) ∧ ∀ q, H1 q = none → Q (.ref q) (upd H1 q (.lst (kvs.map (·.2))))
theorem pe_lstVals (hc : X.calm = true) (hg : Gl X "list") (hm : X.mg "list" = none) (ho : PE X o td)
    (na : starEach [.Call (.Attribute o "values" apos) [] [] cpos] X.env = (false, eval (.Call (.Attribute o "values" apos) [] [] cpos) X.env) :: starEach [] X.env := by rfl)
    (hbase : attributeBase o "values" X.env (eval o X.env) = eval o X.env := by rfl) (hline : (apos.endLine == cpos.line) = true := by rfl) :
    PE X (.Call (.Name "list" p) [.Call (.Attribute o "values" apos) [] [] cpos] [] pos) (tLstVals td) := by
  refine ⟨fun pins s σ H Q I h => ?_⟩
  refine Call_ (ld_blt I hg hm boot_list (PyProof.Rows.callWith_type1 (args_cons ?_ na) na))
  refine wpAny_Call_method (T := "dict") (id := "dict.values") hbase rfl hline F.plainAttrs_dict F.slot_dict_values F.type_dict_values (thn (ho.run pins s σ H _ I h) fun u s1 ⟨x, H1, I1, rx, d, kvs, ex, hd, q⟩ => ?_)
  subst ex
  obtain rfl : u = Value.ref d := rx
  obtain ⟨z0, hs0, vs0, kv0, hdo0⟩ := dk_rd I1.hok hd
  refine ⟨hdo0.typeIs, hdo0.mapOf.noDict, ?_⟩
  have I2 : Inv X pins σ H1 { s1 with heap := s1.heap.push { cls := .type "dict_values", data := .fields #[.ref d] } } := I1.kept (t' := s1.toks) fun b ob q => Heap.get?_push_of_some _ q
  obtain ⟨z, hs, vs, kv, hdo⟩ := dk_rd I2.hok hd
  obtain ⟨ep, hat⟩ := hdo.dictAt
  have hl : kvs.length = vs.length := Paired.length kv
  show wpAny _ _ (callWith cpos (.builtin "dict.values") [.ref d] [] []) _ X.xe s1
  refine method_meetsIn F.slot_dict_values F.entry_dict_values rfl (PySem.evalArgs_none ⟨rfl, hdo0.typeIs, F.args_dict_values_1 _, _, meets_dict_values (mixKind X.prog X.w) d hs, ⟨vs0, hdo0⟩, ?_⟩)
  refine args_nil ?_
  refine PySem.W.kdl_call (PySem.W.kdl_values (knd := mixKind X.prog X.w) (kvs := vs) (ep := ep) (r := s1.heap.objs.size)) (I2.ok.hd hc) ⟨⟨_, Heap.get?_push_size _ rfl, rfl, rfl⟩, hat⟩ (by rw [← hl]; exact z) fun h' tk acc' c' hkeep hS hacc => ?_
  refine ⟨.ref _, upd H1 _ (.lst (kvs.map (·.2))), I2.laid hkeep (Nat.le_refl _) (show ObjOk X.prog X.w _ _ _ (.lst (kvs.map (·.2))) from ⟨?_, acc'.toList, c', ?_, ?_⟩), rfl, q _ (I2.hok.fresh (Nat.le_refl _))⟩
  · rw [List.length_map]; exact z
  · have el : acc'.toList.length = vs.length := by rw [Array.length_toList]; exact hacc.1
    have e1 : acc'.toList = vs.map (·.2) := PySem.W.kdl_vals_eq acc'.toList el fun j v hj => hacc.2 j v (by rw [← Array.getElem?_toList]; exact hj)
    rw [e1]
    exact KV.vals kv
  · rw [Array.toArray_toList]; exact hS
end
end L2

namespace DC
noncomputable section
open PySem PySem.Spec PyProof.Rows L2 G
/-! ### dicts -/
def keyD : D → Option Key
  | .int i => some (.inl i)
  | .str z => some (.inr z)
  | _ => none
def valD (kvs : List (Key × D)) (k : Key) : Option D := (kvs.find? fun kv => decide (kv.1 = k)).map (·.2)
def putD (kvs : List (Key × D)) (k : Key) (v : D) : List (Key × D) :=
  if (kvs.any fun kv => decide (kv.1 = k)) = true then kvs.map (fun kv => if kv.1 = k then (kv.1, v) else kv) else kvs ++ [(k, v)]
section
variable {K : PySem.W.Frag} {F H : Hp}
theorem Vw.dk {v : V} {es : List (Key × D)} (s : Same F H) (h : Vw K F H v (.dk es)) : ∃ a vs, v = .ref a ∧ H a = some (.dK vs) ∧ RpK K F vs es := by
  rcases h with h | ⟨p, o, l, rfl, e, h⟩
  · cases h with
    | dk a b => exact ⟨_, _, rfl, s _ _ a, b⟩
  · cases o <;> simp [O.toD] at e
    subst e
    obtain ⟨_, vs, a, b⟩ := h.dk_inv
    exact ⟨_, _, rfl, a, b⟩
theorem keyD_of {v : V} {d : D} {k : Key} (h : Vw K F H v d) (e : keyD d = some k) : v = kV k := by
  cases d <;> simp [keyD] at e <;> subst e
  · exact h.int
  · exact h.str
theorem RpK.val (k : Key) : ∀ {vs : List (Key × V)} {ds : List (Key × D)}, RpK K F vs ds → (valV vs k = none ∧ valD ds k = none) ∨ ∃ v d, valV vs k = some v ∧ valD ds k = some d ∧ Rp K F v d
  | _, _, .nil => .inl ⟨rfl, rfl⟩
  | _, _, .cons (k := k') (v := v) (d := d) h t => by
    by_cases e : k' = k
    · exact .inr ⟨v, d, by simp [valV, List.find?_cons, e], by simp [valD, List.find?_cons, e], h⟩
    · rcases RpK.val k t with ⟨h1, h2⟩ | ⟨v1, d1, h1, h2, h3⟩
      · exact .inl ⟨by simpa [valV, List.find?_cons, e] using h1, by simpa [valD, List.find?_cons, e] using h2⟩
      · exact .inr ⟨v1, d1, by simpa [valV, List.find?_cons, e] using h1, by simpa [valD, List.find?_cons, e] using h2, h3⟩
theorem RpK.any (k : Key) : ∀ {vs : List (Key × V)} {ds : List (Key × D)}, RpK K F vs ds → (vs.any fun kv => decide (kv.1 = k)) = ds.any fun kv => decide (kv.1 = k)
  | _, _, .nil => rfl
  | _, _, .cons h t => by simp [RpK.any k t]
theorem RpK.length : ∀ {vs : List (Key × V)} {ds : List (Key × D)}, RpK K F vs ds → vs.length = ds.length
  | _, _, .nil => rfl
  | _, _, .cons h t => by simp [RpK.length t]
theorem RpK.map {k : Key} {v : V} {d : D} (r : Rp K F v d) : ∀ {vs : List (Key × V)} {ds : List (Key × D)}, RpK K F vs ds → RpK K F (vs.map fun kv => if kv.1 = k then (kv.1, v) else kv) (ds.map fun kv => if kv.1 = k then (kv.1, d) else kv)
  | _, _, .nil => .nil
  | _, _, .cons (k := k') h t => by
    simp only [List.map_cons]
    split
    · exact .cons r (RpK.map r t)
    · exact .cons h (RpK.map r t)
theorem RpK.app : ∀ {vs ws : List (Key × V)} {ds es : List (Key × D)}, RpK K F vs ds → RpK K F ws es → RpK K F (vs ++ ws) (ds ++ es)
  | _, _, _, _, .nil, h => h
  | _, _, _, _, .cons h t, g => .cons h (RpK.app t g)
theorem RpK.put (k : Key) {v : V} {d : D} (r : Rp K F v d) {vs : List (Key × V)} {ds : List (Key × D)} (h : RpK K F vs ds) : RpK K F (putK vs k v) (putD ds k d) := by
  unfold putK putD
  rw [h.any k]
  split
  · exact h.map r
  · exact h.app (.cons r .nil)
theorem RpK.vals : ∀ {vs : List (Key × V)} {ds : List (Key × D)}, RpK K F vs ds → RpA K F (vs.map (·.2)) (ds.map (·.2))
  | _, _, .nil => .nil
  | _, _, .cons h t => .cons h (RpK.vals t)
theorem RpK.keys : ∀ {vs : List (Key × V)} {ds : List (Key × D)}, RpK K F vs ds → vs.map (·.1) = ds.map (·.1)
  | _, _, .nil => rfl
  | _, _, .cons h t => by simp [RpK.keys t]
end
section
variable {E : XK} {K : PySem.W.Frag} {te ti tx : TE} {ea ei : M Rf} {ed : M D}
/-- d[k] -/
def evIxD (ea ei : M Rf) : M Rf := fun ρ => (ea ρ).bind fun r ρ1 => (ei ρ1).bind fun rk ρ2 => match vw ρ2 r, (vw ρ2 rk).bind keyD with
  | some (.dk kvs), some k => lift ((valD kvs k).map Rf.d) ρ2
  | _, _ => .bad
theorem ae_ixD (h1 : AE E K te ea) (h2 : AE E K ti ei) : AE E K (tDGet te ti) (evIxD ea ei) := by
  intro s Q R q
  refine h1 s _ R (Post.bind q shV fun r ρ1 v F1 fp1 H1 ok1 T1 rv1 q1 => ?_)
  refine h2 (s.to F1 fp1 ρ1 H1) _ ok1 (Post.bind q1 shV fun rk ρ2 y F2 fp2 H2 ok2 T2 rv2 q2 => ?_)
  split at q2
  · rename_i kvs k e1 e2
    cases ek : vw ρ2 rk with
    | none => rw [ek] at e2; cases e2
    | some dk =>
      rw [ek] at e2
      obtain ⟨a, vs, rfl, g1, g2⟩ := (ok2.vw (RfR.mono T2.ff rv1) e1).dk ok2.sub
      have hy := keyD_of (ok2.vw rv2 ek) e2
      subst hy
      rcases g2.val k with ⟨z1, z2⟩ | ⟨w, d, z1, z2, z3⟩
      · rw [z2] at q2; exact q2.elim
      · rw [z2] at q2
        exact ⟨a, w, rfl, .inl ⟨vs, k, .inl g1, rfl, z1.symm⟩, q2 _ F2 fp2 H2 ok2 (Tr.refl _) z3⟩
  · exact q2.elim
/-- k in d, d a dict -/
def evInD (n : Bool) (ei ea : M Rf) : M Rf := fun ρ => (ei ρ).bind fun rk ρ1 => (ea ρ1).bind fun r ρ2 => match vw ρ2 r, (vw ρ2 rk).bind keyD with
  | some (.dk kvs), some k => .ok (.d (.bl ((valD kvs k).isSome != n))) ρ2
  | _, _ => .bad
theorem ae_inD (h1 : AE E K te ea) (h2 : AE E K ti ei) : AE E K (tDIn ti te) (evInD false ei ea) := by
  intro s Q R q
  refine h2 s _ R (Post.bind q shV fun rk ρ1 y F1 fp1 H1 ok1 T1 rv1 q1 => ?_)
  refine h1 (s.to F1 fp1 ρ1 H1) _ ok1 (Post.bind q1 shV fun r ρ2 v F2 fp2 H2 ok2 T2 rv2 q2 => ?_)
  split at q2
  · rename_i kvs k e1 e2
    cases ek : vw ρ2 rk with
    | none => rw [ek] at e2; cases e2
    | some dk =>
      rw [ek] at e2
      obtain ⟨a, vs, rfl, g1, g2⟩ := (ok2.vw rv2 e1).dk ok2.sub
      have hy := keyD_of (ok2.vw (RfR.mono T2.ff rv1) ek) e2
      subst hy
      refine ⟨a, _, rfl, .inl ⟨vs, k, .inl g1, rfl, rfl⟩, ?_⟩
      rcases g2.val k with ⟨z1, z2⟩ | ⟨w, d, z1, z2, z3⟩
      · rw [z2] at q2; rw [z1]; exact q2 _ F2 fp2 H2 ok2 (Tr.refl _) (.bl _)
      · rw [z2] at q2; rw [z1]; exact q2 _ F2 fp2 H2 ok2 (Tr.refl _) (.bl _)
  · exact q2.elim
theorem ae_notInD (h1 : AE E K te ea) (h2 : AE E K ti ei) : AE E K (tDNotIn ti te) (evInD true ei ea) := by
  intro s Q R q
  refine h2 s _ R (Post.bind q shV fun rk ρ1 y F1 fp1 H1 ok1 T1 rv1 q1 => ?_)
  refine h1 (s.to F1 fp1 ρ1 H1) _ ok1 (Post.bind q1 shV fun r ρ2 v F2 fp2 H2 ok2 T2 rv2 q2 => ?_)
  split at q2
  · rename_i kvs k e1 e2
    cases ek : vw ρ2 rk with
    | none => rw [ek] at e2; cases e2
    | some dk =>
      rw [ek] at e2
      obtain ⟨a, vs, rfl, g1, g2⟩ := (ok2.vw rv2 e1).dk ok2.sub
      have hy := keyD_of (ok2.vw (RfR.mono T2.ff rv1) ek) e2
      subst hy
      refine ⟨a, _, rfl, .inl ⟨vs, k, .inl g1, rfl, rfl⟩, ?_⟩
      rcases g2.val k with ⟨z1, z2⟩ | ⟨w, d, z1, z2, z3⟩
      · rw [z2] at q2; rw [z1]; exact q2 _ F2 fp2 H2 ok2 (Tr.refl _) (.bl _)
      · rw [z2] at q2; rw [z1]; exact q2 _ F2 fp2 H2 ok2 (Tr.refl _) (.bl _)
  · exact q2.elim
/-- d.get(k), d.get(k, x) -/
def evGet1 (ea ei : M Rf) : M Rf := fun ρ => (ea ρ).bind fun r ρ1 => match vw ρ1 r with
  | some (.dk _) => (ei ρ1).bind fun rk ρ2 => match vw ρ2 r, (vw ρ2 rk).bind keyD with
    | some (.dk kvs), some k => .ok (.d ((valD kvs k).getD .non)) ρ2
    | _, _ => .bad
  | _ => .bad
theorem ae_get1 (h1 : AE E K te ea) (h2 : AE E K ti ei) : AE E K (tDGet1 te ti) (evGet1 ea ei) := by
  intro s Q R q
  refine h1 s _ R (Post.bind q shV fun r ρ1 v F1 fp1 H1 ok1 T1 rv1 q1 => ?_)
  split at q1
  · rename_i kvs0 e0
    obtain ⟨a, vs0, rfl, g0, _⟩ := (ok1.vw rv1 e0).dk ok1.sub
    refine ⟨a, rfl, .inl ⟨vs0, .inl g0⟩, ?_⟩
    refine h2 (s.to F1 fp1 ρ1 H1) _ ok1 (Post.bind q1 shV fun rk ρ2 y F2 fp2 H2 ok2 T2 rv2 q2 => ?_)
    split at q2
    · rename_i kvs k e1 e2
      cases ek : vw ρ2 rk with
      | none => rw [ek] at e2; cases e2
      | some dk =>
        rw [ek] at e2
        obtain ⟨a', vs, ea', g1, g2⟩ := (ok2.vw (RfR.mono T2.ff rv1) e1).dk ok2.sub
        cases ea'
        have hy := keyD_of (ok2.vw rv2 ek) e2
        subst hy
        refine ⟨_, .inl ⟨vs, k, .inl g1, rfl, rfl⟩, ?_⟩
        rcases g2.val k with ⟨z1, z2⟩ | ⟨w, d, z1, z2, z3⟩
        · rw [z2] at q2; rw [z1]; exact q2 _ F2 fp2 H2 ok2 (Tr.refl _) .non
        · rw [z2] at q2; rw [z1]; exact q2 _ F2 fp2 H2 ok2 (Tr.refl _) z3
    · exact q2.elim
  · exact q1.elim
def evGet2 (ea ei : M Rf) (ed : M D) : M Rf := fun ρ => (ea ρ).bind fun r ρ1 => match vw ρ1 r with
  | some (.dk _) => (ei ρ1).bind fun rk ρ2 => (ed ρ2).bind fun d ρ3 => match vw ρ3 r, (vw ρ3 rk).bind keyD with
    | some (.dk kvs), some k => .ok (.d ((valD kvs k).getD d)) ρ3
    | _, _ => .bad
  | _ => .bad
theorem ae_get2 (h1 : AE E K te ea) (h2 : AE E K ti ei) (h3 : AD E K tx ed) : AE E K (tDGet2 te ti tx) (evGet2 ea ei ed) := by
  intro s Q R q
  refine h1 s _ R (Post.bind q shV fun r ρ1 v F1 fp1 H1 ok1 T1 rv1 q1 => ?_)
  split at q1
  · rename_i kvs0 e0
    obtain ⟨a, vs0, rfl, g0, _⟩ := (ok1.vw rv1 e0).dk ok1.sub
    refine ⟨a, rfl, .inl ⟨vs0, .inl g0⟩, ?_⟩
    refine h2 (s.to F1 fp1 ρ1 H1) _ ok1 (Post.bind q1 shV fun rk ρ2 y F2 fp2 H2 ok2 T2 rv2 q2 => ?_)
    refine h3 (s.to F2 fp2 ρ2 H2) _ ok2 (Post.bind q2 shV fun d0 ρ3 y0 F3 fp3 H3 ok3 T3 rv3 q3 => ?_)
    split at q3
    · rename_i kvs k e1 e2
      cases ek : vw ρ3 rk with
      | none => rw [ek] at e2; cases e2
      | some dk =>
        rw [ek] at e2
        obtain ⟨a', vs, ea', g1, g2⟩ := (ok3.vw (RfR.mono (T2.ff.trans T3.ff) rv1) e1).dk ok3.sub
        cases ea'
        have hy := keyD_of (ok3.vw (RfR.mono T3.ff rv2) ek) e2
        subst hy
        refine ⟨_, .inl ⟨vs, k, .inl g1, rfl, rfl⟩, ?_⟩
        rcases g2.val k with ⟨z1, z2⟩ | ⟨w, d, z1, z2, z3⟩
        · rw [z2] at q3; rw [z1]; exact q3 _ F3 fp3 H3 ok3 (Tr.refl _) rv3
        · rw [z2] at q3; rw [z1]; exact q3 _ F3 fp3 H3 ok3 (Tr.refl _) z3
    · exact q3.elim
  · exact q1.elim
def ownK (ρ : List Sl) (i : Nat) : Option (Bool × List (Key × D)) := match ρ[i]? with
  | some (.own b (.dk xs)) => some (b, xs)
  | _ => none
theorem ownK_of {ρ : List Sl} {i : Nat} {b : Bool} {xs : List (Key × D)} (h : ownK ρ i = some (b, xs)) : ρ[i]? = some (Sl.own b (.dk xs)) := by
  unfold ownK at h
  split at h
  · rename_i b' xs' e
    cases h
    exact e
  · cases h
theorem Ok.at_dk {s : S} {i : Nat} {b : Bool} {xs : List (Key × D)} (R : Ok K s) (e : s.ρ[i]? = some (Sl.own b (.dk xs))) : ∃ p vs, s.σ[i]? = some (some (V.ref p)) ∧ s.H p = some (.dK vs) ∧ RpK K s.F vs xs := by
  obtain ⟨p, h1, h2, _⟩ := R.own i b _ e
  obtain ⟨_, vs, a, b⟩ := h2.dk_inv
  exact ⟨p, vs, h1, a, b⟩
theorem Ok.dkc {s : S} {i : Nat} {p : Addr} {b : Bool} {xs ys : List (Key × D)} {ws : List (Key × V)} (R : Ok K s) (e : s.ρ[i]? = some (Sl.own b (.dk xs))) (hp : s.σ[i]? = some (some (V.ref p))) (h : RpK K s.F ws ys) :
    Ok K (s.chg i b (.dk ys) [p] (upd s.H p (.dK ws))) ∧ Tr s (s.chg i b (.dk ys) [p] (upd s.H p (.dK ws))) := by
  obtain ⟨p', h1, h2, h3⟩ := R.own i b _ e
  rw [h1] at hp
  cases hp
  refine R.chg e h1 (.dk upd_same h) (fun a ha => ?_) (fun a u n q => ?_) (fun a q => ?_)
  · have z : a = p := by simpa using ha
    subst z
    exact .inl h2.self
  · rw [upd_ne (fun z : a = p => n (by rw [z]; exact h2.self))]
    exact q
  · by_cases z : a = p
    · rw [z, upd_same]; simp
    · rw [upd_ne z]; exact q
/-- x[k] = v, x a dict of one's own -/
def xPutD (i : Nat) (ei : M Rf) (ed : M D) : W := fun ρ => thenS (ed ρ) fun d ρ1 => match ownK ρ1 i with
  | some _ => thenS (ei ρ1) fun rk ρ2 => match ownK ρ2 i, (vw ρ2 rk).bind keyD with
    | some (b, kvs), some k => if kvs.length < sizeLine then .nx (ρ2.set i (.own b (.dk (putD kvs k d)))) else .bad
    | _, _ => .bad
  | none => .bad
theorem as_putD {i : Nat} (h1 : AD E K tx ed) (h2 : AE E K ti ei) : AS E K (sDPut (tVar i) ti tx) (xPutD i ei ed) := by
  intro s D R q
  refine h1 s _ R (PostS.thenS q fun d ρ1 v F1 fp1 H1 ok1 T1 rv1 q1 => ?_)
  split at q1
  · rename_i z e0
    obtain ⟨p, vs, g1, g2, g3⟩ := ok1.at_dk (ownK_of e0)
    refine ⟨_, g1, ?_⟩
    refine h2 (s.to F1 fp1 ρ1 H1) _ ok1 (PostS.thenS q1 fun rk ρ2 y F2 fp2 H2 ok2 T2 rv2 q2 => ?_)
    split at q2
    · rename_i b kvs k e1 e2
      obtain ⟨p', ws, k1, k2, k3⟩ := ok2.at_dk (ownK_of e1)
      have k1' : s.σ[i]? = some (some (V.ref p')) := k1
      have g1' : s.σ[i]? = some (some (V.ref p)) := g1
      rw [g1'] at k1'
      cases k1'
      cases ek : vw ρ2 rk with
      | none => rw [ek] at e2; cases e2
      | some dk =>
        rw [ek] at e2
        have hy := keyD_of (ok2.vw rv2 ek) e2
        subst hy
        split at q2
        · rename_i hl
          obtain ⟨ok3, T3⟩ := ok2.dkc (ownK_of e1) k1 (k3.put k (Rp.mono T2.ff _ _ rv1))
          exact ⟨p, _, rfl, .inl ⟨ws, k, k2, rfl, by rw [k3.length]; exact hl, rfl⟩, q2 _ _ _ _ ok3 T3⟩
        · exact q2.elim
    · exact q2.elim
  · exact q1.elim
/-- list(d.values()) -/
def evVals (ea : M Rf) : M O := fun ρ => (ea ρ).bind fun r ρ1 => match vw ρ1 r with
  | some (.dk kvs) => .ok (.lst (kvs.map (·.2))) ρ1
  | _ => .bad
theorem ao_vals (h : AE E K te ea) : AO E K (tLstVals te) (evVals ea) := by
  intro s Q R q
  refine h s _ R ?_
  unfold evVals at q
  cases e1 : ea s.ρ with
  | ex x ρ1 => rw [e1] at q; exact q
  | bad => rw [e1] at q; exact q
  | ok r1 ρ1 =>
    rw [e1] at q
    intro x F1 fp1 H1 ok1 T1 rv1
    simp only [Out.bind] at q
    split at q
    · rename_i kvs e
      obtain ⟨a, vs, rfl, g1, g2⟩ := (ok1.vw rv1 e).dk ok1.sub
      refine ⟨a, vs, rfl, .inl g1, fun p hp => ?_⟩
      obtain ⟨ok3, T3, n⟩ := new_own (s := s) (o := .lst (vs.map (·.2))) ok1 T1 hp
      exact q _ _ _ _ ok3 T3 ⟨p, [p], rfl, .lst upd_same g2.vals, n⟩
    · exact q.elim
end
end
end DC
namespace L2
open PySem PySem.Spec PyProof.Rows
section
variable {X : Cx}
/-- max(t, default=d), t a tuple of ints -/
def rMaxDef (K : PySem.W.Frag) : List V → List V → Hp → VK → Prop := fun vs zs H Q => ∃ (a : Addr) (ns : List Int) (d : V), vs = [V.ref a] ∧ zs = [d] ∧ SqT K H a (ns.map V.int) ∧ (ns = [] → Q d H) ∧ (∀ m, m ∈ ns → (∀ x ∈ ns, x ≤ m) → Q (.int m) H)
theorem maxOf_mem : ∀ (ys : List Int) (y : Int), PySem.W.maxOf y ys ∈ y :: ys ∧ ∀ x ∈ y :: ys, x ≤ PySem.W.maxOf y ys
  | [], y => by simp [PySem.W.maxOf]
  | z :: ys, y => by
    have e : PySem.W.maxOf y (z :: ys) = PySem.W.maxOf (if y < z then z else y) ys := by
      unfold PySem.W.maxOf
      rw [List.foldl_cons]
      congr 1
      show (if decide (y < z) = true then z else y) = _
      by_cases c : y < z <;> simp [c]
    rw [e]
    have ih := maxOf_mem ys (if y < z then z else y)
    refine ⟨?_, fun x hx => ?_⟩
    · rcases List.mem_cons.mp ih.1 with h | h
      · rw [h]; split <;> simp
      · simp [h]
    · have h0 := ih.2 _ List.mem_cons_self
      rcases List.mem_cons.mp hx with rfl | hx
      · refine Int.le_trans ?_ h0
        split <;> omega
      · rcases List.mem_cons.mp hx with rfl | hx
        · refine Int.le_trans ?_ h0
          split <;> omega
        · exact ih.2 x (List.mem_cons_of_mem _ hx)
theorem cr_maxDef (hc : X.calm = true) (hu : X.A.units + 1 < cLine) : CallRK X (.builtin "max") [Str.ofString "default"] (rMaxDef X.K) := by
  intro pins s σ H vs zs us ws Q I r rz h
  obtain ⟨a, ns, d, rfl, rfl, hs, q0, q1⟩ := h
  obtain ⟨its, rv, ht, hz⟩ := I.tuple hs
  rw [Vals.ref1 r]
  obtain ⟨w1, rfl, e1⟩ := vals1 rz
  have hi := ints_of_vals rv
  refine PySem.W.max_tuple_datum_default (α := Int) (vs := its.toArray) (xs := ns) (I.ok.hd hc) (show s.heap.IsTuple a its.toArray from ht) (PySem.W.HoldAll.of_ints hi) hu (fun e h' tk k => ?_) fun y ys i v h' tk e hv hh k => ?_
  · exact ⟨d, H, I.kept k, e1, q0 e⟩
  · obtain ⟨z1, z2⟩ := maxOf_mem ys y
    have hv' : RelV (.int (PySem.W.maxOf y ys)) v := by
      obtain ⟨bs, r⟩ := hh
      have r' : Reads h' v (.int (PySem.W.maxOf y ys)) bs := r
      cases r'
      exact ⟨_, rfl⟩
    exact ⟨_, H, I.kept k, hv', q1 _ (by rw [e]; exact z1) (by rw [e]; exact z2)⟩
end
end L2

namespace DC
noncomputable section
open PySem PySem.Spec PyProof.Rows L2 G
section
variable {E : XK} {K : PySem.W.Frag} {te td : TE} {ea : M Rf} {ed : M D}
/-! ### + and parts of tuples, any of them -/
def fCatA : D → D → Option D
  | .tup a, .tup b => if a.length + b.length ≤ sizeLine then some (.tup (a ++ b)) else none
  | _, _ => none
theorem oa_catA : OpA K (rCatA K) fCatA := by
  intro F H x y a b c Q s ha hb e q
  match a, b, e with
  | .tup a, .tup b, e =>
    simp only [fCatA] at e
    split at e <;> cases e
    rename_i hl
    have ha' := ha.flat (fun _ z => by cases z) (fun _ z => by cases z) (fun _ z => by cases z) (fun _ _ z => by cases z)
    have hb' := hb.flat (fun _ z => by cases z) (fun _ z => by cases z) (fun _ z => by cases z) (fun _ _ z => by cases z)
    cases ha' with
    | tup h1 h2 =>
      rename_i p vs
      cases hb' with
      | tup g1 g2 =>
        rename_i p' ws
        refine ⟨p, p', vs, ws, rfl, rfl, Same.tupq s h1, Same.tupq s g1, by rw [h2.length, g2.length]; exact hl, fun z => ?_, fun _ z => ?_, fun _ _ p2 hp => ?_⟩
        · subst z
          cases h2
          exact q _ F H (Grow.refl s) (.tup g1 g2)
        · subst z
          cases g2
          rw [List.append_nil] at q
          exact q _ F H (Grow.refl s) (.tup h1 h2)
        · exact q _ _ _ (Grow.one s hp) (.tup (.of upd_same) ((h2.append g2).mono (Grow.one s hp).ff))
theorem cutD_all {ds : List D} {lo hi : Option Int} (h : HT.sIx ds.length 0 lo = 0 ∧ HT.sIx ds.length ds.length hi = ds.length) : cutD ds lo hi = ds := by
  unfold cutD
  rw [h.1, h.2]
  simp
def fSlA (d : D) (lo hi : Option Int) : Option D := match d with
  | .tup ds => some (.tup (cutD ds lo hi))
  | _ => none
theorem sa_tupA : SlA K (rSlA K) fSlA := by
  intro F H x a lo hi c Q s h e q
  cases a <;> simp [fSlA] at e
  subst e
  have h' := h.flat (fun _ z => by cases z) (fun _ z => by cases z) (fun _ z => by cases z) (fun _ _ z => by cases z)
  cases h' with
  | tup h1 h2 =>
    rename_i p vs
    refine ⟨p, vs, rfl, Same.tupq s h1, fun z => ?_, fun _ p2 hp => q _ _ _ (Grow.one s hp) (.tup (.of upd_same) ((cut_rp h2).mono (Grow.one s hp).ff))⟩
    rw [h2.length] at z
    rw [cutD_all z] at q
    exact q _ F H (Grow.refl s) (.tup h1 h2)
/-! ### sorted, of ints -/
def fSortI : List D → Option (List D)
  | [d] => ((lstOf d).bind intsD).map fun ns => (sortI ns).map D.int
  | _ => none
theorem cn_sortedI : CaN K (rSortedI K) fSortI := by
  intro F H xs as c Q s h e q
  match as, e with
  | [d], e =>
    obtain ⟨v, rfl, w⟩ := h.one
    simp only [fSortI, Option.map_eq_some_iff, Option.bind_eq_some_iff] at e
    obtain ⟨ns, ⟨ds, e0, e1⟩, rfl⟩ := e
    obtain ⟨p, vs, rfl, h1, h2⟩ := lstOf_of s w e0
    rw [ints_of h2 e1] at h1
    refine ⟨p, ns, rfl, .of h1, fun ns' p2 hp hs hn => ?_⟩
    have z := sorted_eq (hp.trans (sortI_perm ns).symm) hs (sortI_sorted ns)
    subst z
    exact q p2 _ hn (rpa_ints _)
/-- each once -/
def onceI : List Int → List Int
  | [] => []
  | x :: r => if x ∈ r then onceI r else x :: onceI r
theorem once_mem (k : Int) : ∀ l, k ∈ onceI l ↔ k ∈ l
  | [] => Iff.rfl
  | x :: r => by
    unfold onceI
    split
    · rename_i h
      rw [once_mem k r]
      refine ⟨fun z => List.mem_cons_of_mem _ z, fun z => ?_⟩
      rcases List.mem_cons.mp z with rfl | z
      · exact h
      · exact z
    · rw [List.mem_cons, List.mem_cons, once_mem k r]
theorem once_nodup : ∀ l, (onceI l).Nodup
  | [] => List.nodup_nil
  | x :: r => by
    unfold onceI
    split
    · exact once_nodup r
    · rename_i h
      exact List.nodup_cons.mpr ⟨fun z => h ((once_mem x r).mp z), once_nodup r⟩
def evSortSet (ea : M Rf) : M O := fun ρ => (ea ρ).bind fun r ρ1 => match (vw ρ1 r).bind fun d => match d with
    | .tup ds => intsD ds
    | _ => none with
  | some ns => if ns.length < 64 then .ok (.lst ((sortI (onceI ns)).map D.int)) ρ1 else .bad
  | none => .bad
theorem ao_sortSet {w : World} (h : AE E K te ea) : AO E K (tCB (rSortedSet w) (tCons (tCB (rSetT K w) (tCons te tNil)) tNil)) (evSortSet ea) := by
  intro s Q R q
  refine h s _ R ?_
  unfold evSortSet at q
  cases e1 : ea s.ρ with
  | ex x ρ1 => rw [e1] at q; exact q
  | bad => rw [e1] at q; exact q
  | ok r1 ρ1 =>
    rw [e1] at q
    intro x F1 fp1 H1 ok1 T1 rv1
    simp only [Out.bind] at q
    split at q
    · rename_i ns e
      split at q
      · rename_i hl
        simp only [Option.bind_eq_some_iff] at e
        obtain ⟨d, e2, e3⟩ := e
        split at e3
        · rename_i ds
          obtain ⟨p, vs, rfl, h1, h2⟩ := (ok1.vw rv1 e2).tup ok1.sub
          rw [ints_of h2 e3] at h1
          refine ⟨p, ns, rfl, h1, by omega, fun a c hc ha => ?_⟩
          refine ⟨a, _, c, rfl, upd_same, by omega, fun ms p2 hs hm hlen hp2 => ?_⟩
          have z : ms = sortI (onceI ns) := by
            refine sorted_eq (List.Perm.trans ((List.perm_ext_iff_of_nodup (hs.imp fun h => Int.ne_of_lt h) (once_nodup ns)).mpr fun k => ?_) (sortI_perm _).symm) (hs.imp fun h => Int.le_of_lt h) (sortI_sorted _)
            rw [hm k, once_mem k]
            simp
          subst z
          obtain ⟨ok2, T2⟩ := ok1.grow (Grow.tmp (o := SetO w a (fun k => decide (k ∈ ns)) c) ok1.sub ha)
          obtain ⟨ok3, T3, n⟩ := new_own (s := s) (p := p2) (o := .lst ((sortI (onceI ns)).map V.int)) ok2 (T1.trans T2) hp2
          exact q _ _ _ _ ok3 T3 ⟨p2, [p2], rfl, .lst upd_same (rpa_ints _), n⟩
        · cases e3
      · exact q.elim
    · exact q.elim
/-! ### max(t, default=d) -/
def maxL : Int → List Int → Int
  | m, [] => m
  | m, x :: r => maxL (if x > m then x else m) r
theorem maxL_mem : ∀ (ys : List Int) (y : Int), maxL y ys ∈ y :: ys ∧ ∀ x ∈ y :: ys, x ≤ maxL y ys
  | [], y => by simp [maxL]
  | z :: ys, y => by
    unfold maxL
    have ih := maxL_mem ys (if z > y then z else y)
    refine ⟨?_, fun x hx => ?_⟩
    · rcases List.mem_cons.mp ih.1 with h | h
      · rw [h]; split <;> simp
      · simp [h]
    · have h0 := ih.2 _ List.mem_cons_self
      rcases List.mem_cons.mp hx with rfl | hx
      · refine Int.le_trans ?_ h0
        split <;> omega
      · rcases List.mem_cons.mp hx with rfl | hx
        · refine Int.le_trans ?_ h0
          split <;> omega
        · exact ih.2 x (List.mem_cons_of_mem _ hx)
def fMaxDef : D → D → Option D
  | .tup ds, d => (intsD ds).map fun ns => match ns with
    | [] => d
    | y :: ys => .int (maxL y ys)
  | _, _ => none
def evMaxDef (ea : M Rf) (ed : M D) : M Rf := fun ρ => (ea ρ).bind fun r ρ1 => (ed ρ1).bind fun d ρ2 => match vw ρ2 r with
  | some t => lift ((fMaxDef t d).map Rf.d) ρ2
  | none => .bad
theorem ae_maxDef (h1 : AE E K te ea) (h2 : AD E K td ed) : AE E K (tCKw (rMaxDef K) (tCons te tNil) (tCons td tNil)) (evMaxDef ea ed) := by
  intro s Q R q
  refine h1 s _ R (Post.bind q shV fun r ρ1 v F1 fp1 H1 ok1 T1 rv1 q1 => ?_)
  refine h2 (s.to F1 fp1 ρ1 H1) _ ok1 (Post.bind q1 shV fun d ρ2 y F2 fp2 H2 ok2 T2 rv2 q2 => ?_)
  split at q2
  · rename_i t e
    cases e1 : fMaxDef t d with
    | none => rw [e1] at q2; exact q2.elim
    | some c =>
      rw [e1] at q2
      cases t <;> simp [fMaxDef] at e1
      obtain ⟨ns, e2, e3⟩ := e1
      obtain ⟨p, vs, rfl, g1, g2⟩ := (ok2.vw (RfR.mono T2.ff rv1) e).tup ok2.sub
      rw [ints_of g2 e2] at g1
      refine ⟨p, ns, y, rfl, rfl, g1, fun z => ?_, fun m hm hx => ?_⟩
      · subst z
        simp at e3
        subst e3
        exact q2 _ F2 fp2 H2 ok2 (Tr.refl _) rv2
      · cases ns with
        | nil => cases hm
        | cons a r =>
          simp at e3
          subst e3
          obtain ⟨z1, z2⟩ := maxL_mem r a
          have z : m = maxL a r := Int.le_antisymm (z2 m hm) (hx _ z1)
          subst z
          exact q2 _ F2 fp2 H2 ok2 (Tr.refl _) (.int _)
  · exact q2.elim
/-! ### bit_length -/
def evBits (ea : M Rf) : M Rf := fun ρ => (ea ρ).bind fun r ρ1 => match vw ρ1 r with
  | some (.int i) => .ok (.d (.int (Builtin.Int.intBits i : Nat))) ρ1
  | _ => .bad
theorem ae_bits (h : AE E K te ea) : AE E K (tBits te) (evBits ea) := by
  intro s Q R q
  refine h s _ R (Post.bind q shV fun r ρ1 v F1 fp1 H1 ok1 T1 rv1 q1 => ?_)
  split at q1
  · rename_i i e
    exact ⟨i, (ok1.vw rv1 e).int, q1 _ F1 fp1 H1 ok1 (Tr.refl _) (.int _)⟩
  · exact q1.elim
end
end
end DC
namespace DC
noncomputable section
open PySem PySem.Spec PyProof.Rows L2 G
theorem u1 {k : Nat} {A : Around} (h : Room k A) : A.units + 1 < cLine := Nat.lt_of_le_of_lt (by omega) h.units
section
variable {K : PySem.W.Frag} {F : Hp} {σ : L2.St}
theorem rfs0 {vs : List V} {rs : List Rf} (h : RfRs K F σ vs rs) (e : rs.length = 0) : vs = [] ∧ rs = [] := by
  cases h with
  | nil => exact ⟨rfl, rfl⟩
  | cons a b => simp at e
theorem rfs1 {vs : List V} {rs : List Rf} (h : RfRs K F σ vs rs) (e : rs.length = 1) : ∃ v r, vs = [v] ∧ rs = [r] ∧ RfR K F σ v r := by
  cases h with
  | nil => simp at e
  | cons a b =>
    obtain ⟨rfl, rfl⟩ := rfs0 b (by simpa using e)
    exact ⟨_, _, rfl, rfl, a⟩
theorem rfs2 {vs : List V} {rs : List Rf} (h : RfRs K F σ vs rs) (e : rs.length = 2) : ∃ v0 v1 r0 r1, vs = [v0, v1] ∧ rs = [r0, r1] ∧ RfR K F σ v0 r0 ∧ RfR K F σ v1 r1 := by
  cases h with
  | nil => simp at e
  | cons a b =>
    obtain ⟨v, r, rfl, rfl, c⟩ := rfs1 b (by simpa using e)
    exact ⟨_, _, _, _, rfl, rfl, a, c⟩
theorem rfs3 {vs : List V} {rs : List Rf} (h : RfRs K F σ vs rs) (e : rs.length = 3) : ∃ v0 v1 v2 r0 r1 r2, vs = [v0, v1, v2] ∧ rs = [r0, r1, r2] ∧ RfR K F σ v0 r0 ∧ RfR K F σ v1 r1 ∧ RfR K F σ v2 r2 := by
  cases h with
  | nil => simp at e
  | cons a b =>
    obtain ⟨_, _, _, _, rfl, rfl, c, d⟩ := rfs2 b (by simpa using e)
    exact ⟨_, _, _, _, _, _, rfl, rfl, a, c, d⟩
theorem rfs4 {vs : List V} {rs : List Rf} (h : RfRs K F σ vs rs) (e : rs.length = 4) : ∃ v0 v1 v2 v3 r0 r1 r2 r3, vs = [v0, v1, v2, v3] ∧ rs = [r0, r1, r2, r3] ∧ RfR K F σ v0 r0 ∧ RfR K F σ v1 r1 ∧ RfR K F σ v2 r2 ∧ RfR K F σ v3 r3 := by
  cases h with
  | nil => simp at e
  | cons a b =>
    obtain ⟨_, _, _, _, _, _, rfl, rfl, c, d, f⟩ := rfs3 b (by simpa using e)
    exact ⟨_, _, _, _, _, _, _, _, rfl, rfl, a, c, d, f⟩
end
section
variable {E : XK} {K : PySem.W.Frag} {te td : TE} {ea : M Rf} {ed : M D}
/-- x += e, x data -/
def xAug (i : Nat) (f : D → D → Option D) (ea : M Rf) : W := fun ρ => match ρ[i]? with
  | some (.dat d) => thenS (ea ρ) fun r ρ1 => match vw ρ1 r with
    | some b => (match f d b with
      | some c => setD i c ρ1
      | none => .bad)
    | none => .bad
  | _ => .bad
theorem as_aug {i : Nat} {r : R2} {f : D → D → Option D} (ok : OpA K r f) (h : AE E K te ea) : AS E K (tAug i te r) (xAug i f ea) := by
  intro s D R q
  unfold xAug at q
  split at q
  · rename_i d e
    obtain ⟨x, h1, h2⟩ := R.dat i d e
    refine ⟨x, h1, h s _ R (PostS.thenS q fun r1 ρ1 y F1 fp1 H1 ok1 T1 rv1 q1 => ?_)⟩
    split at q1
    · rename_i b eb
      split at q1
      · rename_i c ec
        refine ok F1 H1 x y d b c _ ok1.sub (.inl (Rp.mono T1.ff _ _ h2)) (ok1.vw rv1 eb) ec fun v F' H' g rp => ?_
        obtain ⟨ok2, T2⟩ := ok1.grow g
        unfold setD at q1
        split at q1
        · rename_i hf
          obtain ⟨ok3, T3⟩ := Ok.put (i := i) (x := .dat c) (z := some v) ok2 hf (.inr ⟨v, c, rfl, rfl, rp⟩)
          exact q1 _ _ _ _ ok3 (T2.trans T3)
        · exact q1.elim
      · exact q1.elim
    · exact q1.elim
  · exact q.elim
/-- list(range(n)) -/
def evListRg (ea : M Rf) : M O := fun ρ => (ea ρ).bind fun r ρ1 => match vw ρ1 r with
  | some (.int n) => if RgC n ∧ n ≤ 16777216 then .ok (.lst (rngD 0 n.toNat)) ρ1 else .bad
  | _ => .bad
theorem rp_rg {F : Hp} (n : Int) : RpA K F (rgV 0 n) (rngD 0 n.toNat) := by
  have e1 : rgV 0 n = ((List.range n.toNat).map fun k : Nat => (0 + (k : Int))).map V.int := by
    unfold rgV
    rw [List.map_map, Int.sub_zero]
    rfl
  have e2 : rngD 0 n.toNat = ((List.range n.toNat).map fun k : Nat => (0 + (k : Int))).map D.int := by
    unfold rngD
    rw [List.map_map]
    rfl
  rw [e1, e2]
  exact rpa_ints _
theorem ao_listRg (h : AE E K te ea) : AO E K (tLstRg (tRg1 te)) (evListRg ea) := by
  intro s Q R q
  refine h s _ R ?_
  unfold evListRg at q
  cases e1 : ea s.ρ with
  | ex x ρ1 => rw [e1] at q; exact q
  | bad => rw [e1] at q; exact q
  | ok r1 ρ1 =>
    rw [e1] at q
    intro x F1 fp1 H1 ok1 T1 rv1
    simp only [Out.bind] at q
    split at q
    · rename_i n e
      split at q
      · rename_i hb
        refine ⟨n, (ok1.vw rv1 e).int, ⟨by decide, by decide, hb.1.1, by omega, by omega⟩, fun p hp => ?_⟩
        obtain ⟨ok3, T3, nn⟩ := new_own (s := s) (o := .lst (rgV 0 n)) ok1 T1 hp
        exact q _ _ _ _ ok3 T3 ⟨p, [p], rfl, .lst upd_same (rp_rg n), nn⟩
      · exact q.elim
    · exact q.elim
/-- [x, ..] * n -/
def repL : D → D → Option (List D)
  | .lst a, .int k => if RgC k ∧ a.length * k.toNat ≤ sizeLine then some (List.replicate k.toNat a).flatten else none
  | _, _ => none
theorem rp_rep {F : Hp} {vs : List V} {ds : List D} (h : RpA K F vs ds) : ∀ n, RpA K F (List.replicate n vs).flatten (List.replicate n ds).flatten
  | 0 => .nil
  | n + 1 => by
    rw [List.replicate_succ, List.replicate_succ, List.flatten_cons, List.flatten_cons]
    exact h.append (rp_rep h n)
theorem on_rep : OpN K rRep repL := by
  intro F H x y a b c Q s ha hb e q
  cases a <;> cases b <;> simp [repL] at e
  obtain ⟨⟨⟨h1, h2⟩, h3⟩, rfl⟩ := e
  obtain ⟨p, vs, rfl, g1, g2⟩ := ha.lst s
  exact ⟨p, _, vs, rfl, hb.int, g1, by omega, by omega, by rw [g2.length]; exact h3, fun p2 hp => q p2 _ hp (rp_rep g2 _)⟩
end
end
end DC
namespace DC
noncomputable section
open PySem PySem.Spec PyProof.Rows L2 G
/-! ### a def with defaults -/
theorem entryD {K : PySem.W.Frag} {m : Nat} {ex : W} {t : TS} {s0 : S} {Q : VK} {E : XK} (ok : Ok K s0) (hp : ∀ (i : Nat) (b : Bool) (o : O), s0.ρ[i]? = some (Sl.own b o) → b = true) (q : Post E K (RetR K) s0 (fnD m ex s0.ρ) Q) (a : AS E0 K t ex) :
    t { nx := fun _ H' => Q .non H', rt := Q } (s0.σ ++ List.replicate m none) s0.H := by
  refine a { s0 with ρ := s0.ρ ++ List.replicate m .un, σ := s0.σ ++ List.replicate m none } _ ok.entry ?_
  have q' : Post E K (RetR K) s0 (fnD m ex s0.ρ) Q := q
  unfold fnD at q'
  show PostS E0 K _ (ex (s0.ρ ++ List.replicate m .un)) _
  cases ee : ex (s0.ρ ++ List.replicate m .un) with
  | nx ρ' =>
    rw [ee] at q'
    intro σ' F' fp' H' ok1 T
    obtain ⟨o1, T1, _⟩ := ok.exit hp ok1 T
    exact q' _ _ _ _ o1 T1 .non
  | rt r ρ' =>
    rw [ee] at q'
    intro v σ' F' fp' H' ok1 T rr
    obtain ⟨o1, T1, oo⟩ := ok.exit hp ok1 T
    refine q' v _ _ _ o1 T1 ?_
    cases r with
    | d x => exact rr
    | o x =>
      obtain ⟨p, l, z1, z2, z3⟩ := rr
      refine ⟨p, l, z1, z2, fun a ha => ⟨(z3 a ha).1, (z3 a ha).2.1.elim id fun w => ?_, fun w => (z3 a ha).2.2 (oo a w)⟩⟩
      obtain ⟨i, o, e, _⟩ := w
      rcases app_get e with y | ⟨y, _⟩
      · have := hp _ _ _ y
        cases this
      · cases y
  | bk ρ' => rw [ee] at q'; exact q'.elim
  | ct ρ' => rw [ee] at q'; exact q'.elim
  | ex x ρ' => rw [ee] at q'; exact q'.elim
  | bad => rw [ee] at q'; exact q'.elim
/-- its promise by its body -/
theorem fgDD {P : Program} {w : World} {K : PySem.W.Frag} {mg : Str → Option Value} {base : Heap} {k n m : Nat} {f : Addr} {dvs : List V} {kws : List (Str × V)} {fd : FuncData} {ps N : List Str} {x qual : Str} {st : Stmt} {ex : W} (F : FunD K x qual (defArgs st) (defBody st) (defScope st) dvs kws f fd) (Sc : FnScope N ps (defScope st)) (hn : ps.length = n) (hm : N.length - n = m)
    (hbody : ∀ (cdv : Value) (A : Around) (outer : List Env) (s : Shared) (H : Hp) (E : XK), (A.deeper (envOfC qual (defScope st) s.heap.objs.size f cdv)).guards = some [] → Room k (A.deeper (envOfC qual (defScope st) s.heap.objs.size f cdv)) →
      ∃ t, PSs (cxOf CX0 P w K mg base N qual (defScope st) f cdv A outer s H E).nox (defBody st) t ∧ AS E0 K t ex) :
    FG P w K mg base CX0 (k + 1) f fd ps (spD K n (fnD m ex)) := by
  obtain ⟨oc, od, dV, kV, doc, pm, an, cdv, ct, osl, rfl, lk, hcd, _, _⟩ := F.ex
  refine fg_of lk hcd Sc (fun vs H Q E h => (spD_len h).trans hn.symm) fun A outer s H vs Q E g hr h => ?_
  obtain ⟨t, d, a⟩ := hbody cdv A outer s H E g hr
  refine ⟨t, d.nox, ?_⟩
  have hl := spD_len h
  obtain ⟨s0, ok, e1, rfl, e3, hp, q⟩ := h
  have es : L2.start N vs = s0.σ ++ List.replicate m none := by
    unfold L2.start
    rw [e1, hl, hm]
  rw [es]
  exact entryD ok hp q a
/-! ### the order of a call's arguments: from the values written, the defaults, the keywords -/
def pickL {α : Type} (vs ds zs : List α) : List (Nat × Nat) → Option (List α)
  | [] => some []
  | (k, i) :: r => match (if k = 0 then vs else if k = 1 then ds else zs)[i]?, pickL vs ds zs r with
    | some x, some xs => some (x :: xs)
    | _, _ => none
def pickD {α : Type} (sel : List (Nat × Nat)) (vs ds zs : List α) : List α := (pickL vs ds zs sel).getD []
theorem vals_at {vs : List V} {us : List Value} (h : Vals vs us) : ∀ i : Nat, (vs[i]? = none ∧ us[i]? = none) ∨ ∃ v u, vs[i]? = some v ∧ us[i]? = some u ∧ RelV v u := by
  induction h with
  | nil => exact fun i => .inl ⟨by simp, by simp⟩
  | cons a b ih =>
    intro i
    cases i with
    | zero => exact .inr ⟨_, _, by simp, by simp, a⟩
    | succ i => simpa using ih i
theorem pick_vals {vs ds zs : List V} {us its ws : List Value} (h1 : Vals vs us) (h2 : Vals ds its) (h3 : Vals zs ws) : ∀ sel, (pickL vs ds zs sel = none ∧ pickL us its ws sel = none) ∨ ∃ xs ys, pickL vs ds zs sel = some xs ∧ pickL us its ws sel = some ys ∧ Vals xs ys
  | [] => .inr ⟨[], [], rfl, rfl, .nil⟩
  | (k, i) :: r => by
    have hs : ((if k = 0 then vs else if k = 1 then ds else zs)[i]? = none ∧ (if k = 0 then us else if k = 1 then its else ws)[i]? = none) ∨ ∃ v u, (if k = 0 then vs else if k = 1 then ds else zs)[i]? = some v ∧ (if k = 0 then us else if k = 1 then its else ws)[i]? = some u ∧ RelV v u := by
      by_cases e0 : k = 0
      · simp only [e0, if_true]; exact vals_at h1 i
      · by_cases e1 : k = 1
        · simp only [e0, e1, if_true, if_false]; exact vals_at h2 i
        · simp only [e0, e1, if_false]; exact vals_at h3 i
    rcases hs with ⟨a, b⟩ | ⟨v, u, a, b, c⟩
    · exact .inl ⟨by simp only [pickL, a], by simp only [pickL, b]⟩
    · rcases pick_vals h1 h2 h3 r with ⟨d, e⟩ | ⟨xs, ys, d, e, f⟩
      · exact .inl ⟨by simp only [pickL, a, d], by simp only [pickL, b, e]⟩
      · exact .inr ⟨v :: xs, u :: ys, by simp only [pickL, a, d], by simp only [pickL, b, e], .cons c f⟩
theorem pickD_vals {sel : List (Nat × Nat)} {vs ds zs : List V} {us its ws : List Value} (h1 : Vals vs us) (h2 : Vals ds its) (h3 : Vals zs ws) : Vals (pickD sel vs ds zs) (pickD sel us its ws) := by
  unfold pickD
  rcases pick_vals h1 h2 h3 sel with ⟨a, b⟩ | ⟨xs, ys, a, b, c⟩
  · rw [a, b]; exact .nil
  · rw [a, b]; exact c
def headL {α : Type} (sel : List (Nat × Nat)) (us its ws : List α) : List α := match us with
  | u :: r => u :: pickD sel r its ws
  | [] => []
/-- the class's call binds so: the parameters behind self, by sel -/
theorem mkD_of {P : Program} {w : World} {K : PySem.W.Frag} {mg : Str → Option Value} {base : Heap} {x : Str} {C : Addr} {k : Nat} {ps : List Str} {n : Nat} {ks : List Str} {sp : Sp} {f : Addr} {fd : FuncData} {qual : Str} {params : Arguments} {body : List Stmt} {scope : Scope} {dvs : List V} {kws : List (Str × V)} {y : Str}
    (sel : List (Nat × Nat)) (F : FunD K y qual params body scope dvs kws f fd) (G : FG P w K mg base CX0 k f fd ps sp) (m : Mk K C f) (hx : mg x = some (.ref C)) (hd : dvs ≠ [])
    (h : ∀ (T : Addr) (kV doc pm : Value) (an : Option Addr) (cdv ct : Value) (us its ws : List Value), us.length = n + 1 → its.length = dvs.length → ws.length = ks.length →
      ∃ k', bindArgs (PySem.W.fnOf y qual params body scope (.ref T) kV doc pm an cdv ct) ⟨us, ks.zip ws⟩ = seqItems? (.ref T) >>= k' ∧ k' (some its.toArray) = pure (ps.zip (headL sel us its ws))) :
    MkD P w K mg base x C k ps n ks (fun vs zs => pickD sel vs dvs zs) sp := by
  obtain ⟨its, hb⟩ := F.kbindsD (ps := ps) (n + 1) ks (fun {α} us its ws => headL sel us its ws) hd (fun {vs ds zs us its ws} h1 h2 h3 => by
    cases h1 with
    | nil => exact .nil
    | cons a b => exact .cons a (pickD_vals b h2 h3)) h
  refine ⟨f, fd, _, G, m, hx, hb.to, fun {vs us zs ws} r1 r2 => ?_⟩
  cases r1 with
  | nil => exact .nil
  | cons a b => exact hb.rel (.cons a b) r2
end
end DC
namespace DC
noncomputable section
open PySem PySem.Spec PyProof.Rows L2 G
/-- the law's promise, from its meaning -/
theorem law_sp {K : PySem.W.Frag} {g : M Ret} {H : Hp} {a : Addr} {ns : List Int} (hs : SqL K H a (ns.map V.int)) (hg : ∃ ρ, g [.dat (.scr ns)] = .ok (.d (.bl true)) ρ) : spD K 1 g [.ref a] H (fun v _ => v = .bl true) E0 := by
  obtain ⟨ρ, e⟩ := hg
  refine ⟨⟨H, fun _ => [], [.dat (.scr ns)], [some (.ref a)], H⟩, ⟨rfl, fun _ _ h => h, fun i h => ?_, fun i d h => ?_, fun i b o h => ?_, fun i j b b' o o' n h _ => ?_⟩, rfl, rfl, rfl, fun i b o h => ?_, ?_⟩
  · cases i with
    | zero => simp at h
    | succ i => simp at h
  · cases i with
    | zero =>
      simp at h
      subst h
      exact ⟨_, rfl, .scr hs⟩
    | succ i => simp at h
  · cases i with
    | zero => simp at h
    | succ i => simp at h
  · cases i with
    | zero => simp at h
    | succ i => simp at h
  · cases i with
    | zero => simp at h
    | succ i => simp at h
  · show Post E0 K (RetR K) _ (g [.dat (.scr ns)]) _
    rw [e]
    intro v F' fp' H' ok T rv
    have rv : Rp K F' v (.bl true) := rv
    cases rv
    rfl
/-- a def with defaults as it stands -/
theorem funD_mk {K : PySem.W.Frag} {x qual : Str} {st : Stmt} {f T : Addr} {oc : Value} {od an : Option Addr} {osl : Array (Option Value)} {kV doc pm cdv ct : Value} {dvs : List V} {its : List Value} {o : Obj} {n : Nat}
    (l : K.lookup f = some ⟨oc, od, .func (PySem.W.fnOf x qual (defArgs st) (defBody st) (defScope st) (.ref T) kV doc pm an cdv ct), osl⟩)
    (c : PySem.W.codeIn K cdv qual = true) (k : PySem.W.keepIn K (.ref f) = true) (hd : dvs ≠ []) (lT : K.lookup T = some o) (oT : o.data = .seq its.toArray n) (r : Vals dvs its) :
    FunD K x qual (defArgs st) (defBody st) (defScope st) dvs [] f (PySem.W.fnOf x qual (defArgs st) (defBody st) (defScope st) (.ref T) kV doc pm an cdv ct) :=
  ⟨⟨oc, od, .ref T, kV, doc, pm, an, cdv, ct, osl, rfl, l, c, .inr ⟨hd, T, o, its, n, rfl, lT, oT, r⟩, .inl rfl⟩, k⟩
theorem rp_tup0 {K : PySem.W.Frag} {a : Addr} {od : Option Addr} {n : Nat} {sl : Array (Option Value)} (h : K.lookup a = some ⟨.type "tuple", od, .seq #[] n, sl⟩) (F : Hp) : Rp K F (.ref a) (.tup []) :=
  .tup (.inr ⟨_, #[], n, h, rfl, rfl, by decide, .nil⟩) .nil
end
end DC
namespace DC
noncomputable section
open PySem PySem.Spec PyProof.Rows L2 G
/-! ### working meanings out -/
/-- a def of data alone: its answer -/
def Is (g : M Ret) (as : List D) (d : D) : Prop := g (as.map Sl.dat) = .ok (.d d) (as.map Sl.dat)
theorem clos_dat : ∀ (as : List D) (xs : List Sl), clos (as.map Sl.dat) xs = as.map Sl.dat
  | [], _ => by simp [clos]
  | a :: as, [] => by simp [clos]
  | a :: as, x :: xs => by simp [clos, clos_dat as xs]
theorem Is.of {m : Nat} {ex : W} {as : List D} {d : D} (h : ∃ ρ, ex (as.map Sl.dat ++ List.replicate m .un) = .rt (.d d) ρ) : Is (fnD m ex) as d := by
  obtain ⟨ρ, h⟩ := h
  unfold Is fnD
  rw [h]
  simp [clos_dat]
theorem argSls_d (ρ : List Sl) : ∀ as : List D, argSls ρ (as.map Rf.d) = some (as.map Sl.dat)
  | [] => rfl
  | a :: as => by simp [argSls, argSl, argSls_d ρ as]
theorem posOf_d (i : Nat) (as : List D) : posOf (as.map Rf.d) i = none := by
  unfold posOf
  rw [List.findIdx?_eq_none_iff]
  intro x hx
  obtain ⟨a, _, rfl⟩ := List.mem_map.mp hx
  rfl
theorem apart_d (ρ : List Sl) (as : List D) : apart ρ (as.map Rf.d) = true := by
  unfold apart
  rw [List.all_eq_true]
  intro j _
  rw [List.getElem?_map]
  cases as[j]? <;> rfl
theorem backW_d (ρ : List Sl) (as : List D) (os : List Sl) : backW ρ (as.map Rf.d) os = ρ := by
  unfold backW
  apply List.ext_getElem?
  intro i
  rw [List.getElem?_mapIdx]
  cases ρ[i]? with
  | none => rfl
  | some x =>
    show some (backS _ _ i x) = some x
    unfold backS
    rw [posOf_d]
    cases x <;> rfl
theorem Is.call {g : M Ret} {as : List D} {d : D} (h : Is g as d) (ρ : List Sl) : callW g (as.map Rf.d) ρ = .ok (.d d) ρ := by
  unfold callW
  rw [argSls_d]
  simp only [apart_d, if_true]
  rw [h]
  simp only [backW_d]
theorem Is.c1 {g : M Ret} {a d : D} (h : Is g [a] d) (ρ : List Sl) : callW g [.d a] ρ = .ok (.d d) ρ := h.call ρ
theorem Is.c2 {g : M Ret} {a b d : D} (h : Is g [a, b] d) (ρ : List Sl) : callW g [.d a, .d b] ρ = .ok (.d d) ρ := h.call ρ
theorem Is.c3 {g : M Ret} {a b c d : D} (h : Is g [a, b, c] d) (ρ : List Sl) : callW g [.d a, .d b, .d c] ρ = .ok (.d d) ρ := h.call ρ
theorem Is.c4 {g : M Ret} {a b c e d : D} (h : Is g [a, b, c, e] d) (ρ : List Sl) : callW g [.d a, .d b, .d c, .d e] ρ = .ok (.d d) ρ := h.call ρ
/-- may be given something else -/
def fr : Sl → Bool
  | .own true _ => false
  | _ => true
theorem free_fr {ρ : List Sl} {i : Nat} {x : Sl} (h : ρ[i]? = some x) : free ρ i = fr x := by
  unfold free
  rw [h]
  cases x with
  | own b o => cases b <;> rfl
  | _ => rfl
theorem seq_nx {a b : W} {ρ ρ1 : List Sl} {r : Rs} (h : a ρ = .nx ρ1) (h2 : b ρ1 = r) : xSeq a b ρ = r := by
  unfold xSeq
  rw [h]
  exact h2
theorem for_nx {ev : M (List D)} {eg : D → M Unit} {b : W} {ρ ρ1 ρ2 : List Sl} {ds : List D} (h : ev ρ = .ok ds ρ1) (h2 : forL eg b ds ρ1 = .nx ρ2) : xFor ev eg b ρ = .nx ρ2 := by
  unfold xFor
  rw [h]
  exact h2
/-- while: by an invariant and what becomes less -/
theorem while_by {c : M Bool} {b : W} (Inv : Nat → List Sl → Prop) (Post : List Sl → Prop)
    (step : ∀ m ρ, Inv m ρ → (∃ ρ1, c ρ = .ok false ρ1 ∧ Post ρ1) ∨ ∃ ρ1 ρ2 m', c ρ = .ok true ρ1 ∧ b ρ1 = .nx ρ2 ∧ m' < m ∧ Inv m' ρ2) :
    ∀ (n m : Nat) (ρ : List Sl), m < n → Inv m ρ → ∃ ρ', whileN c b n ρ = .nx ρ' ∧ Post ρ' := by
  intro n
  induction n with
  | zero => intro m ρ h; omega
  | succ n ih =>
    intro m ρ hm hi
    rcases step m ρ hi with ⟨ρ1, e, hp⟩ | ⟨ρ1, ρ2, m', e, e2, hl, hi'⟩
    · exact ⟨ρ1, by simp [whileN, e, thenS], hp⟩
    · obtain ⟨ρ', e3, hp⟩ := ih m' ρ2 (by omega) hi'
      exact ⟨ρ', by simp [whileN, e, e2, thenS, afterBody, e3], hp⟩
/-- for: by an invariant -/
theorem for_by {eg : D → M Unit} {b : W} (Inv : List D → List Sl → Prop)
    (step : ∀ d r ρ, Inv (d :: r) ρ → ∃ ρ1 ρ2, eg d ρ = .ok () ρ1 ∧ b ρ1 = .nx ρ2 ∧ Inv r ρ2) :
    ∀ (ds : List D) (ρ : List Sl), Inv ds ρ → ∃ ρ', forL eg b ds ρ = .nx ρ' ∧ Inv [] ρ' := by
  intro ds
  induction ds with
  | nil => exact fun ρ h => ⟨ρ, rfl, h⟩
  | cons d r ih =>
    intro ρ h
    obtain ⟨ρ1, ρ2, e1, e2, h2⟩ := step d r ρ h
    obtain ⟨ρ', e3, h3⟩ := ih ρ2 h2
    exact ⟨ρ', by simp [forL, e1, e2, thenS, afterBody, e3], h3⟩
theorem op2I_c {C : Int → Int → Prop} [∀ i j, Decidable (C i j)] {g : Int → Int → D} {i j : Int} (h : C i j) : op2I C g (.int i) (.int j) = some (g i j) := by
  show (if C i j then some (g i j) else none) = _
  rw [if_pos h]
theorem op2I0_c {g : Int → Int → D} {i j : Int} : op2I0 g (.int i) (.int j) = some (g i j) := rfl
/-! ### ints that are not negative, as naturals -/
theorem and_n (a b : Nat) : Builtin.bitAnd (a : Int) (b : Int) = ((a &&& b : Nat) : Int) := by
  rw [bitAnd_pp (Int.natCast_nonneg a) (Int.natCast_nonneg b), Int.toNat_natCast, Int.toNat_natCast]
theorem or_n (a b : Nat) : Builtin.bitOr (a : Int) (b : Int) = ((a ||| b : Nat) : Int) := bitOr_nn (Int.natCast_nonneg _) (Int.natCast_nonneg _)
theorem xor_n (a b : Nat) : Builtin.bitXor (a : Int) (b : Int) = ((a ^^^ b : Nat) : Int) := Bits.bitXor_pp (Int.natCast_nonneg _) (Int.natCast_nonneg _)
theorem shl_n (a b : Nat) : (a : Int) * 2 ^ (b : Int).toNat = ((a <<< b : Nat) : Int) := by
  rw [Nat.shiftLeft_eq, Int.toNat_natCast, Int.natCast_mul, Int.natCast_pow]; rfl
theorem shr_n (a b : Nat) : (a : Int) / 2 ^ (b : Int).toNat = ((a >>> b : Nat) : Int) := by
  rw [Nat.shiftRight_eq_div_pow, Int.toNat_natCast, Int.natCast_ediv, Int.natCast_pow]; rfl
theorem shr_n' (a b : Nat) : (a : Int) / 2 ^ b = ((a >>> b : Nat) : Int) := by
  rw [Nat.shiftRight_eq_div_pow, Int.natCast_ediv, Int.natCast_pow]; rfl
theorem shl_n' (a b : Nat) : (a : Int) * 2 ^ b = ((a <<< b : Nat) : Int) := by
  rw [Nat.shiftLeft_eq, Int.natCast_mul, Int.natCast_pow]; rfl
theorem pow_n (b : Nat) : (2 : Int) ^ b - 1 = ((2 ^ b - 1 : Nat) : Int) := by
  have e : ((2 ^ b : Nat) : Int) = (2 : Int) ^ b := by simp
  have := Nat.one_le_two_pow (n := b)
  omega
theorem add1_n (a : Nat) : (a : Int) + 1 = ((a + 1 : Nat) : Int) := by omega
theorem one_shl (b : Nat) : (1 : Int) * 2 ^ b = ((1 <<< b : Nat) : Int) := by
  rw [Nat.shiftLeft_eq, Int.one_mul, Nat.one_mul, Int.natCast_pow]
theorem sub_n {a b : Nat} (h : b ≤ a) : (a : Int) - (b : Int) = ((a - b : Nat) : Int) := by omega
theorem add_n (a b : Nat) : (a : Int) + (b : Int) = ((a + b : Nat) : Int) := by omega
theorem mul_n (a b : Nat) : (a : Int) * (b : Int) = ((a * b : Nat) : Int) := by simp
theorem mod_n (a b : Nat) : (a : Int) % (b : Int) = ((a % b : Nat) : Int) := by simp
theorem div_n (a b : Nat) : (a : Int) / (b : Int) = ((a / b : Nat) : Int) := by simp
theorem cmul_n {a b : Nat} (h : a < 18446744073709551616) : CMul (a : Int) (b : Int) := .inl ⟨by omega, by omega⟩
theorem cdiv_n {a b : Nat} (h : 0 < b) (h2 : b < 1073741824) : CDiv (a : Int) (b : Int) := ⟨by omega, by omega⟩
theorem cshl_n {a b k : Nat} (h : a < 2 ^ k) (hk : k + b ≤ 134217728) : CShl (a : Int) (b : Int) := shl_ok (by simpa using h) hk
theorem mul_c {p q : Nat} (hc : CMul (p : Int) (q : Int)) : fMul (.int p) (.int q) = some (.int (p * q : Nat)) := by
  rw [← mul_n]; exact op2I_c hc
theorem div_c {p q : Nat} (hc : CDiv (p : Int) (q : Int)) : fDiv (.int p) (.int q) = some (.int (p / q : Nat)) := by
  rw [← div_n]; exact op2I_c hc
theorem mod_c {p q : Nat} (hc : 0 < q) : fMod (.int p) (.int q) = some (.int (p % q : Nat)) := by
  rw [← mod_n]; exact op2I_c (C := fun _ j => 0 < j) (by omega)
theorem shl_c {p q : Nat} (hc : CShl (p : Int) (q : Int)) : fShl (.int p) (.int q) = some (.int (p <<< q : Nat)) := by
  rw [← shl_n]; exact op2I_c hc
theorem shl1_c {q : Nat} (hc : CShl (1 : Int) (q : Int)) : fShl (.int 1) (.int q) = some (.int (1 <<< q : Nat)) := by
  rw [← shl_n]; exact op2I_c hc
theorem shr_c {p q : Nat} : fShr (.int p) (.int q) = some (.int (p >>> q : Nat)) := by
  rw [← shr_n]; exact op2I_c (C := fun _ j => 0 ≤ j) (by omega)
theorem and1_n (a : Nat) : Builtin.bitAnd (a : Int) 1 = ((a % 2 : Nat) : Int) := by
  rw [show (1 : Int) = ((1 : Nat) : Int) from rfl, and_n, Nat.and_one_is_mod]
/-! ### comprehensions over data that change nothing -/
theorem isPlain_cases {ρ : List Sl} {v : Nat} (h : isPlain ρ[v]? = true) : v < ρ.length ∧ free (ρ.set v .un) v = true := by
  cases e : ρ[v]? with
  | none => rw [e] at h; cases h
  | some x =>
    have l : v < ρ.length := (List.getElem?_eq_some_iff.mp e).1
    exact ⟨l, by unfold free; rw [List.getElem?_set_self l]⟩
theorem compF {α : Type} {v : Nat} {ρ : List Sl} {et : M Bool} {ee : M D} (i : α → D) (c : α → Bool) (g : α → D) (hv : isPlain ρ[v]? = true) : ∀ (l : List α) (acc : List D),
    (∀ x ∈ l, et (ρ.set v (.dat (i x))) = .ok (c x) (ρ.set v (.dat (i x))) ∧ (c x = true → ee (ρ.set v (.dat (i x))) = .ok (g x) (ρ.set v (.dat (i x))))) →
    acc.length + l.length ≤ sizeLine → compL (gSet v) et ee [v] (l.map i) acc (ρ.set v .un) = .ok (acc ++ (l.filter c).map g) (ρ.set v .un) := by
  obtain ⟨hlt, hf⟩ := isPlain_cases hv
  have pl : ∀ x : Sl, isPlain (some x) = true → plainAt (ρ.set v x) [v] = true := fun x hx => by
    simp [plainAt, List.getElem?_set_self hlt, hx]
  intro l
  induction l with
  | nil =>
    intro acc _ _
    simp only [List.map_nil]
    unfold compL
    rw [if_pos (pl .un rfl)]
    simp
  | cons x r ih =>
    intro acc h hl
    obtain ⟨h1, h2⟩ := h x List.mem_cons_self
    have eg : gSet v (i x) (ρ.set v .un) = .ok () (ρ.set v (.dat (i x))) := by
      unfold gSet
      rw [if_pos hf, List.set_set]
    have un : unset (ρ.set v (.dat (i x))) [v] = ρ.set v .un := by
      show (ρ.set v (.dat (i x))).set v .un = _
      rw [List.set_set]
    have hr := fun acc hl => ih acc (fun z hz => h z (List.mem_cons_of_mem _ hz)) hl
    simp only [List.length_cons] at hl
    simp only [List.map_cons]
    unfold compL
    rw [eg]
    simp only [Out.bind0]
    rw [h1]
    cases e : c x with
    | false =>
      simp only [Bool.false_eq_true, if_false]
      rw [if_pos (pl _ rfl), un, hr acc (by omega), List.filter_cons_of_neg (by simp [e])]
    | true =>
      simp only [if_true]
      rw [h2 e]
      show (if plainAt (ρ.set v (.dat (i x))) [v] = true ∧ acc.length < sizeLine then _ else _) = _
      rw [if_pos ⟨pl _ rfl, by omega⟩, un, hr (acc ++ [g x]) (by simp; omega), List.filter_cons_of_pos e]
      simp
/-- [e for x in l if t] -/
theorem evCompF {α : Type} {v : Nat} {ρ : List Sl} {ev : M (List D)} {et : M Bool} {ee : M D} {l : List α} (i : α → D) (c : α → Bool) (g : α → D) (he : ev ρ = .ok (l.map i) ρ) (hv : isPlain ρ[v]? = true)
    (h : ∀ x ∈ l, et (ρ.set v (.dat (i x))) = .ok (c x) (ρ.set v (.dat (i x))) ∧ (c x = true → ee (ρ.set v (.dat (i x))) = .ok (g x) (ρ.set v (.dat (i x)))))
    (hl : l.length ≤ sizeLine) : evComp [v] ev (gSet v) et ee ρ = .ok (.lst ((l.filter c).map g)) ρ := by
  obtain ⟨hlt, hf⟩ := isPlain_cases hv
  unfold evComp
  rw [he]
  simp only [Out.bind]
  rw [if_pos (by simp [plainAt, hv])]
  show (compL (gSet v) et ee [v] (l.map i) [] (ρ.set v .un)).bind0 _ = _
  rw [compF i c g hv l [] h (by simpa using hl)]
  simp only [Out.bind0, List.nil_append]
  congr 1
  show (ρ.set v .un).set v (ρ.getD v .un) = ρ
  rw [List.set_set]
  apply List.ext_getElem?
  intro j
  by_cases e : v = j
  · subst e
    rw [List.getElem?_set_self hlt]
    simp [List.getD, List.getElem?_eq_getElem hlt]
  · rw [List.getElem?_set_ne e]
theorem evCompM {α : Type} {v : Nat} {ρ : List Sl} {ev : M (List D)} {ee : M D} {l : List α} (i : α → D) (g : α → D) (he : ev ρ = .ok (l.map i) ρ) (hv : isPlain ρ[v]? = true)
    (h : ∀ x ∈ l, ee (ρ.set v (.dat (i x))) = .ok (g x) (ρ.set v (.dat (i x)))) (hl : l.length ≤ sizeLine) : evComp [v] ev (gSet v) mTrue ee ρ = .ok (.lst (l.map g)) ρ := by
  have := evCompF (et := mTrue) i (fun _ => true) g he hv (fun x hx => ⟨rfl, fun _ => h x hx⟩) hl
  rw [List.filter_eq_self.mpr (fun _ _ => rfl)] at this
  exact this
theorem bls_map {α : Type} (g : α → Bool) : ∀ l : List α, blsD (l.map fun x => D.bl (g x)) = some (l.map g)
  | [] => rfl
  | x :: l => by simp [blsD, bls_map g l]
theorem ints_map {α : Type} (g : α → Int) : ∀ l : List α, intsD (l.map fun x => D.int (g x)) = some (l.map g)
  | [] => rfl
  | x :: l => by simp [intsD, ints_map g l]
theorem all_map {α : Type} (g : α → Bool) (l : List α) : fAll [.lst (l.map fun x => D.bl (g x))] = some (.bl (l.all g)) := by
  simp [fAll, lstOf, bls_map, Function.comp_def]
theorem any_map {α : Type} (g : α → Bool) (l : List α) : fAny [.lst (l.map fun x => D.bl (g x))] = some (.bl (l.any g)) := by
  simp [fAny, lstOf, bls_map, Function.comp_def]
/-! ### a new instance by data -/
theorem posOf_top (k : Nat) (as : List D) (i : Nat) : posOf (.sl k :: as.map Rf.d) i = if k = i then some 0 else none := by
  unfold posOf
  rw [List.findIdx?_cons]
  by_cases h : k = i
  · simp [isSl, h]
  · have := posOf_d i as
    unfold posOf at this
    simp [isSl, h, this]
theorem callNew {g : M Ret} {C : Addr} {as : List D} {o0 o : O} {r : Ret} {as' : List Sl} (ρ : List Sl) (h : g (.own true o0 :: as.map Sl.dat) = .ok r (.own true o :: as')) :
    callW g (.sl ρ.length :: as.map Rf.d) (ρ ++ [.own true o0]) = .ok r (ρ ++ [.own true o]) := by
  unfold callW
  have e : argSls (ρ ++ [Sl.own true o0]) (.sl ρ.length :: as.map Rf.d) = some (.own true o0 :: as.map Sl.dat) := by
    simp [argSls, argSl, argSls_d]
  have a : apart (ρ ++ [Sl.own true o0]) (.sl ρ.length :: as.map Rf.d) = true := by
    unfold apart
    rw [List.all_eq_true]
    intro j _
    cases j with
    | zero => simp [posOf_top]
    | succ j =>
      simp only [List.getElem?_cons_succ, List.getElem?_map]
      cases as[j]? <;> rfl
  rw [e]
  simp only [a, if_true]
  rw [h]
  simp only
  congr 1
  unfold backW
  apply List.ext_getElem?
  intro i
  rw [List.getElem?_mapIdx]
  by_cases c : i < ρ.length
  · rw [List.getElem?_append_left c, List.getElem?_append_left c]
    rw [List.getElem?_eq_getElem c]
    show some (backS _ _ i ρ[i]) = some ρ[i]
    unfold backS
    rw [posOf_top, if_neg (by omega)]
    cases ρ[i] <;> rfl
  · by_cases c2 : i = ρ.length
    · subst c2
      simp [backS, posOf_top]
    · rw [List.getElem?_eq_none (by simp; omega), List.getElem?_eq_none (by simp; omega)]
      rfl
theorem make_of {g : M Ret} {C : Addr} {as : List D} {o : O} {as' : List Sl} {gR : List Rf → List Rf → List Rf} {el ek : M (List Rf)} {rs rz : List Rf} {ρ : List Sl} (h : g (.own true (.ins C []) :: as.map Sl.dat) = .ok (.d .non) (.own true o :: as'))
    (h1 : el ρ = .ok rs ρ) (h2 : ek ρ = .ok rz ρ) (h3 : gR rs rz = as.map Rf.d) : evMakeD C g gR el ek ρ = .ok o ρ := by
  unfold evMakeD
  rw [h1]
  simp only [Out.bind0]
  rw [h2]
  simp only [h3]
  rw [callNew (C := C) ρ h]
  simp
/-! ### a call that changes its first argument, the others data -/
theorem callP {g : M Ret} {i : Nat} {bb : Bool} {as : List D} {o0 o : O} {r : Ret} {as' ρ : List Sl} (h0 : ρ[i]? = some (.own bb o0)) (h : g (.own true o0 :: as.map Sl.dat) = .ok r (.own true o :: as')) :
    callW g (.sl i :: as.map Rf.d) ρ = .ok r (ρ.set i (.own bb o)) := by
  unfold callW
  have e : argSls ρ (.sl i :: as.map Rf.d) = some (.own true o0 :: as.map Sl.dat) := by
    simp [argSls, argSl, argSls_d, h0]
  have a : apart ρ (.sl i :: as.map Rf.d) = true := by
    unfold apart
    rw [List.all_eq_true]
    intro j _
    cases j with
    | zero => simp [posOf_top]
    | succ j =>
      simp only [List.getElem?_cons_succ, List.getElem?_map]
      cases as[j]? <;> rfl
  rw [e]
  simp only [a, if_true]
  rw [h]
  simp only
  congr 1
  unfold backW
  apply List.ext_getElem?
  intro j
  rw [List.getElem?_mapIdx]
  by_cases c : i = j
  · subst c
    rw [h0, List.getElem?_set_self (List.getElem?_eq_some_iff.mp h0).1]
    show some (backS _ _ i _) = _
    simp [backS, posOf_top]
  · rw [List.getElem?_set_ne c]
    cases ρ[j]? with
    | none => rfl
    | some x =>
      show some (backS _ _ j x) = some x
      unfold backS
      rw [posOf_top, if_neg c]
      cases x <;> rfl
/-- a comprehension whose elements change the thing in slot 0 -/
theorem compS {v : Nat} {bb : Bool} {rest : List Sl} {ee : M D} (Inv : Nat → O → Prop) (Q : D → Prop) (hv : isPlain rest[v]? = true) : ∀ (ds acc : List D) (n : Nat) (o : O), Inv n o → acc.length + ds.length ≤ sizeLine →
    (∀ d ∈ ds, ∀ m o1, m < n + ds.length → Inv m o1 → ∃ x o2, ee (.own bb o1 :: rest.set v (.dat d)) = .ok x (.own bb o2 :: rest.set v (.dat d)) ∧ Q x ∧ Inv (m + 1) o2) →
    ∃ xs o', compL (gSet (v + 1)) mTrue ee [v + 1] ds acc (.own bb o :: rest.set v .un) = .ok (acc ++ xs) (.own bb o' :: rest.set v .un) ∧ xs.length = ds.length ∧ (∀ x ∈ xs, Q x) ∧ Inv (n + ds.length) o'
  | [], acc, n, o, hi, _, _ => by
    obtain ⟨hlt, hf⟩ := isPlain_cases hv
    refine ⟨[], o, ?_, rfl, by simp, by simpa using hi⟩
    unfold compL
    rw [if_pos (by simp [plainAt, List.getElem?_set_self hlt, isPlain])]
    simp
  | d :: r, acc, n, o, hi, hl, h => by
    obtain ⟨hlt, hf⟩ := isPlain_cases hv
    simp only [List.length_cons] at hl h
    obtain ⟨x, o2, e, hx, hi2⟩ := h d List.mem_cons_self n o (by omega) hi
    obtain ⟨xs, o', e2, z1, z2, z3⟩ := compS Inv Q hv r (acc ++ [x]) (n + 1) o2 hi2 (by simp; omega) (fun d' hd m o1 hm hi' => h d' (List.mem_cons_of_mem _ hd) m o1 (by omega) hi')
    refine ⟨x :: xs, o', ?_, by simp [z1], fun y hy => ?_, by simpa [Nat.add_assoc, Nat.add_comm 1] using z3⟩
    · have eg : gSet (v + 1) d (.own bb o :: rest.set v .un) = .ok () (.own bb o :: rest.set v (.dat d)) := by
        have hf' : free (.own bb o :: rest.set v .un) (v + 1) = true := by
          have : free (.own bb o :: rest.set v .un) (v + 1) = free (rest.set v .un) v := by
            unfold free
            simp only [List.getElem?_cons_succ]
          rw [this]; exact hf
        unfold gSet
        rw [if_pos hf']
        simp only [List.set_cons_succ, List.set_set]
      unfold compL
      rw [eg]
      simp only [Out.bind0, mTrue, if_true]
      rw [e]
      show (if plainAt (.own bb o2 :: rest.set v (.dat d)) [v + 1] = true ∧ acc.length < sizeLine then compL (gSet (v + 1)) mTrue ee [v + 1] r (acc ++ [x]) (unset (.own bb o2 :: rest.set v (.dat d)) [v + 1]) else _) = _
      rw [if_pos ⟨by simp [plainAt, List.getElem?_set_self hlt, isPlain], by omega⟩]
      have un : unset (.own bb o2 :: rest.set v (.dat d)) [v + 1] = .own bb o2 :: rest.set v .un := by
        show (Sl.own bb o2 :: rest.set v (.dat d)).set (v + 1) .un = _
        simp only [List.set_cons_succ, List.set_set]
      rw [un, e2]
      simp
    · rcases List.mem_cons.mp hy with rfl | hy
      · exact hx
      · exact z2 y hy
theorem evCompS {v : Nat} {bb : Bool} {rest : List Sl} {ev : M (List D)} {ee : M D} {ds : List D} {n : Nat} {o : O} (Inv : Nat → O → Prop) (Q : D → Prop) (he : ev (.own bb o :: rest) = .ok ds (.own bb o :: rest)) (hv : isPlain rest[v]? = true) (hi : Inv n o) (hl : ds.length ≤ sizeLine)
    (h : ∀ d ∈ ds, ∀ m o1, m < n + ds.length → Inv m o1 → ∃ x o2, ee (.own bb o1 :: rest.set v (.dat d)) = .ok x (.own bb o2 :: rest.set v (.dat d)) ∧ Q x ∧ Inv (m + 1) o2) :
    ∃ xs o', evComp [v + 1] ev (gSet (v + 1)) mTrue ee (.own bb o :: rest) = .ok (.lst xs) (.own bb o' :: rest) ∧ xs.length = ds.length ∧ (∀ x ∈ xs, Q x) ∧ Inv (n + ds.length) o' := by
  obtain ⟨hlt, hf⟩ := isPlain_cases hv
  obtain ⟨xs, o', e, z⟩ := compS (bb := bb) (ee := ee) Inv Q hv ds [] n o hi (by simpa using hl) h
  refine ⟨xs, o', ?_, z⟩
  unfold evComp
  rw [he]
  simp only [Out.bind]
  rw [if_pos (by simp [plainAt, hv])]
  show (compL (gSet (v + 1)) mTrue ee [v + 1] ds [] ((Sl.own bb o :: rest).set (v + 1) .un)).bind0 _ = _
  rw [List.set_cons_succ, e]
  simp only [Out.bind0, List.nil_append]
  congr 1
  show (Sl.own bb o' :: rest.set v .un).set (v + 1) ((Sl.own bb o :: rest).getD (v + 1) .un) = _
  simp only [List.set_cons_succ, List.set_set]
  congr 1
  apply List.ext_getElem?
  intro j
  by_cases c : v = j
  · subst c
    rw [List.getElem?_set_self hlt]
    simp [List.getD, List.getElem?_eq_getElem hlt]
  · rw [List.getElem?_set_ne c]
theorem rgc_n {n : Nat} (h : n < 4611686018427387904) : RgC (n : Int) := ⟨by omega, by omega⟩
end
end DC
namespace DC
noncomputable section
open PySem PySem.Spec PyProof.Rows L2 G
/-! ### rows of scalars compared -/
structure Sca {α : Type} [DecidableEq α] (f : α → D) (p : α → PyData) : Prop where
  toP : ∀ a, (f a).toP = some (p a)
  can : ∀ a, (p a).canLay0 = true
  dep : ∀ a, (p a).depth = 0
  eqv : ∀ a b, PyData.eqv (p a) (p b) = decide (a = b)
theorem sca_int : Sca (fun i : Int => D.int i) (fun i => PyData.int i) := ⟨fun _ => rfl, fun _ => by simp [PyData.canLay0], fun _ => by simp [PyData.depth], fun a b => by simp only [PyData.eqv]; exact PySem.W.beq_decide a b⟩
theorem sca_bl : Sca (fun i : Bool => D.bl i) (fun i => PyData.bool i) := ⟨fun _ => rfl, fun _ => by simp [PyData.canLay0], fun _ => by simp [PyData.depth], fun a b => by simp only [PyData.eqv]; exact PySem.W.beq_decide a b⟩
section
variable {α : Type} [DecidableEq α] {f : α → D} {p : α → PyData}
theorem Sca.toPs (h : Sca f p) : ∀ l : List α, D.toPs (l.map f) = some (l.map p)
  | [] => rfl
  | a :: l => by
    simp only [List.map_cons, D.toPs, h.toP a, h.toPs l]
theorem Sca.canA (h : Sca f p) : ∀ l : List α, PyData.canLayAll0 (l.map p) = true
  | [] => rfl
  | a :: l => by
    simp only [List.map_cons, PyData.canLayAll0, h.can a, h.canA l, Bool.and_self]
theorem Sca.depA (h : Sca f p) : ∀ l : List α, PyData.depthAll (l.map p) ≤ 1
  | [] => by simp [PyData.depthAll]
  | a :: l => by
    have := h.depA l
    simp only [List.map_cons, PyData.depthAll, h.dep a]
    omega
theorem Sca.eqA (h : Sca f p) : ∀ l m : List α, PyData.eqvAll (l.map p) (m.map p) = decide (l = m)
  | [], [] => by simp [PyData.eqvAll]
  | [], _ :: _ => by simp [PyData.eqvAll]
  | _ :: _, [] => by simp [PyData.eqvAll]
  | a :: l, b :: m => by
    simp only [List.map_cons, PyData.eqvAll, h.eqv, h.eqA l m, List.cons.injEq]
    by_cases c : a = b <;> by_cases d : l = m <;> simp [c, d]
theorem Sca.shL (h : Sca f p) (l : List α) : SeqAt.shaped (.list (l.map p)) = true := by
  have := h.depA l
  unfold SeqAt.shaped
  rw [Bool.and_eq_true]
  refine ⟨by simp only [PyData.canLay0]; exact h.canA l, ?_⟩
  rw [decide_eq_true_iff]
  unfold PyData.depth
  omega
theorem Sca.shT (h : Sca f p) (l : List α) : SeqAt.shaped (.tuple (l.map p)) = true := by
  have := h.depA l
  unfold SeqAt.shaped
  rw [Bool.and_eq_true]
  refine ⟨by simp only [PyData.canLay0]; exact h.canA l, ?_⟩
  rw [decide_eq_true_iff]
  unfold PyData.depth
  omega
theorem Sca.eqL (h : Sca f p) (neg : Bool) (l m : List α) : fEqD neg (.lst (l.map f)) (.lst (m.map f)) = some (.bl (if neg then !decide (l = m) else decide (l = m))) := by
  simp only [fEqD, D.toP, h.toPs, Option.map_some]
  rw [if_pos ⟨h.shL l, h.shL m⟩]
  simp only [PyData.eqv, h.eqA]
theorem Sca.eqT (h : Sca f p) (neg : Bool) (l m : List α) : fEqD neg (.tup (l.map f)) (.tup (m.map f)) = some (.bl (if neg then !decide (l = m) else decide (l = m))) := by
  simp only [fEqD, D.toP, h.toPs, Option.map_some]
  rw [if_pos ⟨h.shT l, h.shT m⟩]
  simp only [PyData.eqv, h.eqA]
end
end
end DC
namespace DC
noncomputable section
open PySem PySem.Spec PyProof.Rows L2 G
/-! ### statements, by what their parts come to -/
theorem set_nx {i : Nat} {ev : M D} {ρ ρ1 : List Sl} {d : D} (h : ev ρ = .ok d ρ1) (hf : free ρ1 i = true) : xSet i ev ρ = .nx (ρ1.set i (.dat d)) := by
  unfold xSet thenS
  rw [h]
  simp [setD, hf]
theorem setO_nx {i : Nat} {ev : M O} {ρ ρ1 : List Sl} {o : O} (h : ev ρ = .ok o ρ1) (hf : free ρ1 i = true) : xSetO i ev ρ = .nx (ρ1.set i (.own false o)) := by
  unfold xSetO thenS
  rw [h]
  simp [hf]
theorem if_t {c : M Bool} {a b : W} {ρ ρ1 : List Sl} {r : Rs} (h : c ρ = .ok true ρ1) (h2 : a ρ1 = r) : xIf c a b ρ = r := by
  unfold xIf thenS
  rw [h]
  simpa using h2
theorem if_f {c : M Bool} {a b : W} {ρ ρ1 : List Sl} {r : Rs} (h : c ρ = .ok false ρ1) (h2 : b ρ1 = r) : xIf c a b ρ = r := by
  unfold xIf thenS
  rw [h]
  simpa using h2
theorem drop_nx {ev : M Rf} {ρ ρ1 : List Sl} {r : Rf} (h : ev ρ = .ok r ρ1) : xDrop ev ρ = .nx ρ1 := by
  unfold xDrop thenS
  rw [h]
theorem ret_rt {ev : M D} {ρ ρ1 : List Sl} {d : D} (h : ev ρ = .ok d ρ1) : xRet ev ρ = .rt (.d d) ρ1 := by
  unfold xRet thenS
  rw [h]
theorem app_nx {i : Nat} {ed : M D} {ρ : List Sl} {d : D} {b : Bool} {xs : List D} (h : ed ρ = .ok d ρ) (h0 : ρ[i]? = some (.own b (.lst xs))) (hl : xs.length < sizeLine) : xDrop (evAppend i ed) ρ = .nx (ρ.set i (.own b (.lst (xs ++ [d])))) := by
  unfold xDrop evAppend thenS
  simp [ownL, h0, h, Out.bind, hl]
theorem ext_nx {i : Nat} {ea : M Rf} {ρ : List Sl} {ys : List D} {b : Bool} {xs : List D} (h : ea ρ = .ok (.d (.lst ys)) ρ) (h0 : ρ[i]? = some (.own b (.lst xs))) (hl : xs.length + ys.length ≤ sizeLine) : xDrop (evExtend i ea) ρ = .nx (ρ.set i (.own b (.lst (xs ++ ys)))) := by
  unfold xDrop evExtend thenS
  simp [ownL, h0, h, Out.bind, vw, lstOf, Option.bind, hl]
theorem ice_ok {a : M O} {ρ ρ1 : List Sl} {o : O} (h : a ρ = .ok o ρ1) : iceO a ρ = .ok o.toD ρ1 := by
  unfold iceO
  rw [h]
  rfl
theorem ofD_ok {a : M D} {ρ ρ1 : List Sl} {d : D} (h : a ρ = .ok d ρ1) : ofD a ρ = .ok (.d d) ρ1 := by
  unfold ofD
  rw [h]
  rfl
theorem consD_ok {a : M D} {er : M (List D)} {ρ ρ1 ρ2 : List Sl} {d : D} {ds : List D} (h : a ρ = .ok d ρ1) (h2 : er ρ1 = .ok ds ρ2) : evConsD a er ρ = .ok (d :: ds) ρ2 := by
  unfold evConsD
  rw [h]
  simp only [Out.bind]
  rw [h2]
theorem cons_ok {a : M Rf} {er : M (List Rf)} {ρ ρ1 ρ2 : List Sl} {d : Rf} {ds : List Rf} (h : a ρ = .ok d ρ1) (h2 : er ρ1 = .ok ds ρ2) : evCons a er ρ = .ok (d :: ds) ρ2 := by
  unfold evCons
  rw [h]
  simp only [Out.bind]
  rw [h2]
theorem nilD_ok {ρ : List Sl} : evNilD ρ = .ok [] ρ := rfl
theorem nil_ok {ρ : List Sl} : evNil ρ = .ok [] ρ := rfl
theorem lst_ok {er : M (List D)} {ρ ρ1 : List Sl} {ds : List D} (h : er ρ = .ok ds ρ1) (hl : ds.length ≤ 1000 := by first | decide | simp) : evLst er ρ = .ok (.lst ds) ρ1 := by
  unfold evLst
  rw [h]
  simp only [Out.bind]
  rw [if_pos (by rw [sizeLine_eq]; omega)]
theorem tup_ok {er : M (List D)} {ρ ρ1 : List Sl} {ds : List D} (h : er ρ = .ok ds ρ1) (hl : ds.length ≤ 1000 := by first | decide | simp) : evTup er ρ = .ok (.d (.tup ds)) ρ1 := by
  unfold evTup
  rw [h]
  simp only [Out.bind]
  rw [if_pos (by rw [sizeLine_eq]; omega)]
theorem asD_d {a : M Rf} {ρ ρ1 : List Sl} {d : D} (h : a ρ = .ok (.d d) ρ1) : asD a ρ = .ok d ρ1 := by
  unfold asD
  rw [h]
  rfl
theorem var_d {i : Nat} {ρ : List Sl} {d : D} (h : ρ[i]? = some (.dat d)) : evVar i ρ = .ok (.d d) ρ := by
  unfold evVar
  rw [h]
theorem var_o {i : Nat} {ρ : List Sl} {b : Bool} {o : O} (h : ρ[i]? = some (.own b o)) : evVar i ρ = .ok (.sl i) ρ := by
  unfold evVar
  rw [h]
theorem op_ok {f : D → D → Option D} {a b : M Rf} {ρ ρ1 ρ2 : List Sl} {r1 r2 : Rf} {d e x : D} (h1 : a ρ = .ok r1 ρ1) (h2 : b ρ1 = .ok r2 ρ2) (v1 : vw ρ2 r1 = some d) (v2 : vw ρ2 r2 = some e) (h : f d e = some x) : evOp f a b ρ = .ok (.d x) ρ2 := by
  unfold evOp
  rw [h1]
  simp only [Out.bind]
  rw [h2]
  simp only [Out.bind]
  rw [v1, v2]
  simp only [h]
  rfl
theorem op_dd {f : D → D → Option D} {a b : M Rf} {ρ ρ1 ρ2 : List Sl} {d e x : D} (h1 : a ρ = .ok (.d d) ρ1) (h2 : b ρ1 = .ok (.d e) ρ2) (h : f d e = some x) : evOp f a b ρ = .ok (.d x) ρ2 := op_ok h1 h2 rfl rfl h
theorem asB_ok {a : M Rf} {ρ ρ1 : List Sl} {b : Bool} (h : a ρ = .ok (.d (.bl b)) ρ1) : asB a ρ = .ok b ρ1 := by
  unfold asB
  rw [h]
  rfl
theorem cb_1 {f : List D → Option D} {a : M Rf} {ρ ρ1 : List Sl} {d x : D} (h : a ρ = .ok (.d d) ρ1) (h2 : f [d] = some x) : evCB f (evCons a evNil) ρ = .ok (.d x) ρ1 := by
  unfold evCB
  rw [cons_ok (er := evNil) (ds := []) (ρ2 := ρ1) h rfl]
  simp only [Out.bind, vws, vw, h2]
  rfl
theorem callR {g : M Ret} {as : List D} {r : Ret} (ρ : List Sl) (h : g (as.map Sl.dat) = .ok r (as.map Sl.dat)) : callW g (as.map Rf.d) ρ = .ok r ρ := by
  unfold callW
  rw [argSls_d]
  simp only [apart_d, if_true]
  rw [h]
  simp only [backW_d]
theorem callO {g : M Ret} {as : List D} {o : O} (ρ : List Sl) (h : g (as.map Sl.dat) = .ok (.o o) (as.map Sl.dat)) : callW g (as.map Rf.d) ρ = .ok (.o o) ρ := callR ρ h
theorem newCall {g : M Ret} {eo : M O} {o o' : O} {ρ ρ1 : List Sl} {x : D} (h : eo ρ = .ok o ρ1) (h2 : g [.own true o] = .ok (.d x) [.own true o']) : evCallNew g eo ρ = .ok (.d x) ρ1 := by
  unfold evCallNew
  rw [h]
  simp only [Out.bind0]
  have := callNew (C := 0) (as := []) ρ1 (by simpa using h2)
  simp only [List.map_nil] at this
  rw [this]
  simp
end
end DC
namespace DC
noncomputable section
open PySem PySem.Spec PyProof.Rows L2 G
section
variable {E : XK} {K : PySem.W.Frag} {te ta tb td : TE} {ea eb : M Rf}
/-! ### f"{x:b}", text[::-1] -/
def fFmtB : D → Option D
  | .int i => if 0 ≤ i ∧ (binZ i.toNat).length ≤ sizeLine then some (.str (binZ i.toNat)) else none
  | _ => none
theorem ua_fmtB : UnA K (fun x H Q => ∃ n : Nat, x = .int n ∧ (binZ n).length ≤ sizeLine ∧ Q (.str (binZ n)) H) fFmtB := by
  intro F H x a c Q s h e q
  cases a with
  | int i =>
    simp only [fFmtB] at e
    split at e
    · rename_i hc
      cases e
      exact ⟨i.toNat, by rw [h.int, Int.toNat_of_nonneg hc.1], hc.2, q _ F H (Grow.refl s) (.str _)⟩
    · cases e
  | _ => cases e
theorem ae_fmtB (h : AE E K te ea) : AE E K (tFmtB te) (evUn fFmtB ea) := ae_un ua_fmtB h
def fRevS : D → Option D
  | .str z => if z.length ≤ sizeLine then some (.str (revZ z)) else none
  | _ => none
theorem ua_revS : UnA K (fun x H Q => ∃ z, x = .str z ∧ z.length ≤ sizeLine ∧ Q (.str (revZ z)) H) fRevS := by
  intro F H x a c Q s h e q
  cases a with
  | str z =>
    simp only [fRevS] at e
    split at e
    · rename_i hc
      cases e
      exact ⟨z, h.str, hc, q _ F H (Grow.refl s) (.str _)⟩
    · cases e
  | _ => cases e
theorem ae_revS (h : AE E K te ea) : AE E K (tRevS te) (evUn fRevS ea) := ae_un ua_revS h
/-! ### xs[::-1] -/
def fRevL : List D → Option (List D)
  | [d] => (lstOf d).map List.reverse
  | _ => none
/-- of one thing, a new list -/
def evNewL (f : List D → Option (List D)) (ea : M Rf) : M O := fun ρ => (ea ρ).bind fun r ρ1 => match vws ρ1 [r] with
  | some as => lift ((f as).map O.lst) ρ1
  | none => .bad
theorem ao_revL (h : AE E K te ea) : AO E K (tRevL K te) (evNewL fRevL ea) := by
  intro s Q R q
  refine h s _ R ?_
  unfold evNewL at q
  cases e : ea s.ρ with
  | ex x ρ1 => rw [e] at q; exact q
  | bad => rw [e] at q; exact q
  | ok r ρ1 =>
    rw [e] at q
    intro v F1 fp1 H1 ok1 T1 rv
    simp only [Out.bind] at q
    cases e1 : vw ρ1 r with
    | none => simp only [vws, e1] at q; exact q.elim
    | some d =>
      simp only [vws, e1, fRevL] at q
      cases e2 : lstOf d with
      | none => rw [e2] at q; exact q.elim
      | some ds =>
        rw [e2] at q
        obtain ⟨p, vs, rfl, hp, rp⟩ := lstOf_of ok1.sub (ok1.vw rv e1) e2
        refine ⟨p, vs, rfl, .of hp, fun l hl => ?_⟩
        obtain ⟨ok3, T3, n⟩ := new_own (s := s) (o := .lst vs.reverse) ok1 T1 hl
        exact q _ _ _ _ ok3 T3 ⟨l, [l], rfl, .lst upd_same rp.rev, n⟩
/-! ### max(xs), min(xs) of a list of ints -/
def fMaxL : List D → Option D
  | [d] => match (lstOf d).bind intsD with
    | some (n :: ns) => some (.int (maxL n ns))
    | _ => none
  | _ => none
def minL : Int → List Int → Int
  | m, [] => m
  | m, n :: ns => minL (if n < m then n else m) ns
theorem minL_mem : ∀ (ys : List Int) (y : Int), minL y ys ∈ y :: ys ∧ ∀ x ∈ y :: ys, minL y ys ≤ x
  | [], y => by simp [minL]
  | z :: zs, y => by
    obtain ⟨h1, h2⟩ := minL_mem zs (if z < y then z else y)
    have h3 := h2 _ List.mem_cons_self
    simp only [minL]
    generalize minL (if z < y then z else y) zs = m at h1 h2 h3 ⊢
    refine ⟨?_, fun x hx => ?_⟩
    · rcases List.mem_cons.mp h1 with h | h
      · rw [h]; split <;> simp
      · exact List.mem_cons_of_mem _ (List.mem_cons_of_mem _ h)
    · rcases List.mem_cons.mp hx with rfl | hx
      · split at h3 <;> omega
      · rcases List.mem_cons.mp hx with rfl | hx
        · split at h3 <;> omega
        · exact h2 x (List.mem_cons_of_mem _ hx)
def fMinL : List D → Option D
  | [d] => match (lstOf d).bind intsD with
    | some (n :: ns) => some (.int (minL n ns))
    | _ => none
  | _ => none
theorem ca_maxL : CaA K (rMax K) fMaxL := by
  intro F H xs as c Q s h e q
  match as, e with
  | [d], e =>
    obtain ⟨v, rfl, w⟩ := h.one
    simp only [fMaxL] at e
    split at e
    · rename_i n ns en
      cases e
      obtain ⟨ds, e1, e2⟩ := Option.bind_eq_some_iff.mp en
      obtain ⟨p, vs, rfl, hp, rp⟩ := lstOf_of s w e1
      obtain rfl := ints_of rp e2
      refine ⟨p, n :: ns, rfl, .of hp, by simp, fun m hm hy => ?_⟩
      obtain ⟨z1, z2⟩ := maxL_mem ns n
      have : m = maxL n ns := Int.le_antisymm (z2 m hm) (hy _ z1)
      rw [this]
      exact q _ F H (Grow.refl s) (.int _)
    · cases e
theorem ca_minL : CaA K (rMin K) fMinL := by
  intro F H xs as c Q s h e q
  match as, e with
  | [d], e =>
    obtain ⟨v, rfl, w⟩ := h.one
    simp only [fMinL] at e
    split at e
    · rename_i n ns en
      cases e
      obtain ⟨ds, e1, e2⟩ := Option.bind_eq_some_iff.mp en
      obtain ⟨p, vs, rfl, hp, rp⟩ := lstOf_of s w e1
      obtain rfl := ints_of rp e2
      refine ⟨p, n :: ns, rfl, .of hp, by simp, fun m hm hy => ?_⟩
      obtain ⟨z1, z2⟩ := minL_mem ns n
      have : m = minL n ns := Int.le_antisymm (hy _ z1) (z2 m hm)
      rw [this]
      exact q _ F H (Grow.refl s) (.int _)
    · cases e
/-! ### lcm -/
def rLcm : List V → Hp → VK → Prop := fun vs H Q => ∃ a b : Int, vs = [.int a, .int b] ∧ a.natAbs < 2 ^ 64 ∧ b.natAbs < 2 ^ 64 ∧ Q (.int ((Nat.lcm a.natAbs b.natAbs : Nat) : Int)) H
theorem cr_lcm {X : Cx} : CallR X (.builtin "math.lcm") rLcm := by
  intro pins s σ H vs us Q I r h
  obtain ⟨a, b, rfl, ha, hb, q⟩ := h
  obtain ⟨t, u, rfl⟩ := Vals.int2 r
  exact PySem.W.mc_lcm ha hb fun _ => ⟨.int _, H, I.tok _, ⟨_, rfl⟩, q⟩
def CLcm (a b : Int) : Prop := a.natAbs < 2 ^ 64 ∧ b.natAbs < 2 ^ 64
instance {i j : Int} : Decidable (CLcm i j) := Classical.propDecidable _
def fLcm : List D → Option D
  | [.int a, .int b] => if CLcm a b then some (.int ((Nat.lcm a.natAbs b.natAbs : Nat) : Int)) else none
  | _ => none
theorem ca_lcm : CaA K rLcm fLcm := by
  intro F H xs as c Q s h e q
  match as, e with
  | [.int i, .int j], e =>
    obtain ⟨v, w, rfl, h1, h2⟩ := h.two
    simp only [fLcm] at e
    split at e
    · rename_i hc
      cases e
      rw [h1.int, h2.int]
      exact ⟨i, j, rfl, hc.1, hc.2, q _ F H (Grow.refl s) (.int _)⟩
    · cases e
/-! ### enumerate(text) -/
def enD (z : Str) : List D := (List.range z.length).map fun (i : Nat) => D.tup [.int (i : Int), .str ⟨#[z.cps.getD i 0]⟩]
theorem iter_enumS {z : Str} {F : Hp} : IterOk K (Ites z) (enD z) F where
  stop F' H s t := by show z.length ≤ _; simp [enD]
  go i F' H l s t := by show i < z.length; simpa [enD] using l
  yld i d F' H x H' e s t y := by
    obtain ⟨T, c, rfl, hT, rfl, hc⟩ := y
    simp only [enD, List.getElem?_map, Option.map_eq_some_iff] at e
    obtain ⟨k, hk, rfl⟩ := e
    obtain ⟨hl, z1⟩ := List.getElem?_eq_some_iff.mp hk
    rw [List.getElem_range] at z1
    subst z1
    have hcc : z.cps.getD i 0 = c := by
      simp [Array.getD_eq_getD_getElem?, hc]
    rw [hcc]
    refine ⟨_, Grow.one (o := .tup [.int (i : Nat), .str ⟨#[c]⟩]) t hT, .tup (.of upd_same) (.cons (.int _) (.cons (.str _) .nil))⟩
def enumS (ev : M D) : M (List D) := fun ρ => (ev ρ).bind fun d ρ1 => match d with
  | .str z => .ok (enD z) ρ1
  | _ => .bad
theorem ai_enumS {ev : M D} (h : AD E K te ev) : AI E K (iEnumS (tCons te tNil)) (enumS ev) := by
  intro s R ok q
  refine h s _ ok (Post.bind q shI fun d ρ1 v F' fp' H' ok1 T rv q1 => ?_)
  cases d with
  | str z =>
    cases rv
    exact ⟨z, rfl, q1 _ F' fp' H' ok1 (Tr.refl _) iter_enumS⟩
  | _ => exact q1.elim
/-! ### a, b = two new things of one's own -/
def xParO (i j : Nat) (ea eb : M O) : W := fun ρ => thenS (ea ρ) fun d ρ1 => thenS (eb ρ1) fun e ρ2 => if free ρ2 i = true then
    (if free (ρ2.set i (.own false d)) j = true then .nx ((ρ2.set i (.own false d)).set j (.own false e)) else .bad) else .bad
theorem ow_own {s : S} {i : Nat} {p : Addr} {o : O} {l : List Addr} {a : Addr} (h : Ow (s.own i p o l) a) : a ∈ l ∨ Ow s a := by
  obtain ⟨j, b, o', e, m⟩ := h
  rcases set_get e with ⟨rfl, _, _⟩ | ⟨n, q⟩
  · have : (s.own i p o l).fp i = l := if_pos rfl
    rw [this] at m
    exact .inl m
  · have : (s.own i p o l).fp j = s.fp j := if_neg fun z => n z.symm
    rw [this] at m
    exact .inr ⟨j, b, o', q, m⟩
theorem as_parO {i j : Nat} {tx ty : TE} {ex ey : M O} (h1 : AO E K tx ex) (h2 : AO E K ty ey) : AS E K (tPar i j (tCons tx (tCons ty tNil))) (xParO i j ex ey) := by
  intro s D R q
  refine h1 s _ R ?_
  unfold xParO at q
  cases e1 : ex s.ρ with
  | ex x ρ' => rw [e1] at q; exact fun cls d F' fp' H' ok T r => q cls d s.σ F' fp' H' ok T r
  | bad => rw [e1] at q; exact q
  | ok d ρ1 =>
    rw [e1] at q
    intro v F1 fp1 H1 ok1 T1 rv1
    obtain ⟨p, l, rfl, ho, hn⟩ := rv1
    simp only [DC.thenS] at q
    refine h2 (s.to F1 fp1 ρ1 H1) _ ok1 ?_
    show Post E K (RO K) _ (ey ρ1) _
    cases e2 : ey ρ1 with
    | ex x ρ2 => rw [e2] at q; exact fun cls dd F' fp' H' ok T r => q cls dd s.σ F' fp' H' ok (T1.trans T) r
    | bad => rw [e2] at q; exact q
    | ok e ρ2 =>
      rw [e2] at q
      intro w F2 fp2 H2 ok2 T2 rv2
      obtain ⟨p2, l2, rfl, ho2, hn2⟩ := rv2
      refine ⟨_, _, rfl, ?_⟩
      dsimp only at q
      split at q
      · rename_i hf
        split at q
        · rename_i hg
          have hl : ∀ a ∈ l, H1 a ≠ none := fun a ha => ho.has a ha
          have ho' : OwnAt K F2 H2 p d l := ho.mono T2.ff fun a ha u hu => T2.st a u hu (hn a ha).2.2
          have hF : ∀ a ∈ l, F2 a = none := fun a ha => by
            cases z : F2 a with
            | none => rfl
            | some u =>
              rcases T2.fn a u z with y | y | y
              · have this' : F1 a = none := (hn a ha).1
                have y' : F1 a = some u := y
                rw [this'] at y'; cases y'
              · exact absurd y (hl a ha)
              · exact absurd y.ow (hn a ha).2.2
          have hO : ∀ a ∈ l, ¬ Ow (s.to F2 fp2 ρ2 H2) a := fun a ha z => by
            rcases T2.nw a z with y | y
            · exact hl a ha y
            · exact (hn a ha).2.2 y
          obtain ⟨ok3, T3⟩ := Ok.mine (i := i) ok2 (T1.trans T2) hf ho' (fun a ha => ⟨hF a ha, (hn a ha).2.1, hO a ha⟩)
          have hO2 : ∀ a ∈ l2, ¬ Ow ((s.to F2 fp2 ρ2 H2).own i p d l) a := fun a ha z => by
            rcases ow_own z with z | z
            · exact hl a z (hn2 a ha).2.1
            · exact (hn2 a ha).2.2 z
          obtain ⟨ok4, T4⟩ := Ok.mine (i := j) ok3 T3 hg ho2 (fun a ha => ⟨(hn2 a ha).1, none_of_hs T1.hs (hn2 a ha).2.1, hO2 a ha⟩)
          exact q _ _ _ _ ok4 T4
        · exact q.elim
      · exact q.elim
end
end
end DC
namespace DC
noncomputable section
open PySem PySem.Spec PyProof.Rows L2 G
/-! ### comprehensions over pairs -/
def two (ρ : List Sl) (v w : Nat) (x y : Sl) : List Sl := (ρ.set v x).set w y
theorem two_two {ρ : List Sl} {v w : Nat} {a b x y : Sl} (n : v ≠ w) : two (two ρ v w a b) v w x y = two ρ v w x y := by
  unfold two
  have e : ((ρ.set v a).set w b).set v x = (ρ.set v x).set w b := by rw [List.set_comm _ _ n.symm, List.set_set]
  rw [e, List.set_set]
theorem compF2 {α : Type} {v w : Nat} {ρ : List Sl} {et : M Bool} {ee : M D} (i j : α → D) (c : α → Bool) (g : α → D) (n : v ≠ w) (hv : isPlain ρ[v]? = true) (hw : isPlain ρ[w]? = true) : ∀ (l : List α) (acc : List D),
    (∀ x ∈ l, et (two ρ v w (.dat (i x)) (.dat (j x))) = .ok (c x) (two ρ v w (.dat (i x)) (.dat (j x))) ∧ (c x = true → ee (two ρ v w (.dat (i x)) (.dat (j x))) = .ok (g x) (two ρ v w (.dat (i x)) (.dat (j x))))) →
    acc.length + l.length ≤ sizeLine → compL (gTupD 2 (gsCons (gSet v) (gsCons (gSet w) gsNil))) et ee [v, w] (l.map fun x => .tup [i x, j x]) acc (two ρ v w .un .un) = .ok (acc ++ (l.filter c).map g) (two ρ v w .un .un) := by
  obtain ⟨lv, _⟩ := isPlain_cases hv
  obtain ⟨lw, _⟩ := isPlain_cases hw
  have gv : ∀ x y : Sl, (two ρ v w x y)[v]? = some x := fun x y => by
    unfold two
    rw [List.getElem?_set_ne n.symm, List.getElem?_set_self lv]
  have gw : ∀ x y : Sl, (two ρ v w x y)[w]? = some y := fun x y => by
    unfold two
    rw [List.getElem?_set_self (by simpa using lw)]
  have pl : ∀ x y : Sl, isPlain (some x) = true → isPlain (some y) = true → plainAt (two ρ v w x y) [v, w] = true := fun x y hx hy => by
    simp [plainAt, gv, gw, hx, hy]
  have fv : ∀ x y : Sl, fr x = true → free (two ρ v w x y) v = true := fun x y h => by rw [free_fr (gv x y), h]
  have fw : ∀ x y : Sl, fr y = true → free (two ρ v w x y) w = true := fun x y h => by rw [free_fr (gw x y), h]
  have s1 : ∀ x y z : Sl, (two ρ v w x y).set v z = two ρ v w z y := fun x y z => by
    unfold two
    rw [List.set_comm _ _ n.symm, List.set_set]
  have s2 : ∀ x y z : Sl, (two ρ v w x y).set w z = two ρ v w x z := fun x y z => by
    unfold two
    rw [List.set_set]
  intro l
  induction l with
  | nil =>
    intro acc _ _
    simp only [List.map_nil]
    unfold compL
    rw [if_pos (pl .un .un rfl rfl)]
    simp
  | cons x r ih =>
    intro acc h hl
    obtain ⟨h1, h2⟩ := h x List.mem_cons_self
    have eg : gTupD 2 (gsCons (gSet v) (gsCons (gSet w) gsNil)) (.tup [i x, j x]) (two ρ v w .un .un) = .ok () (two ρ v w (.dat (i x)) (.dat (j x))) := by
      simp only [gTupD, List.length_cons, List.length_nil, gsCons, gSet, fv .un .un rfl, if_true, Out.bind, s1, fw (.dat (i x)) .un rfl, s2, gsNil]
    have un : unset (two ρ v w (.dat (i x)) (.dat (j x))) [v, w] = two ρ v w .un .un := by
      simp only [unset, List.foldl, s1, s2]
    have hr := fun acc hl => ih acc (fun z hz => h z (List.mem_cons_of_mem _ hz)) hl
    simp only [List.length_cons] at hl
    simp only [List.map_cons]
    unfold compL
    rw [eg]
    simp only [Out.bind0]
    rw [h1]
    cases e : c x with
    | false =>
      simp only [Bool.false_eq_true, if_false]
      rw [if_pos (pl _ _ rfl rfl), un, hr acc (by omega), List.filter_cons_of_neg (by simp [e])]
    | true =>
      simp only [if_true]
      rw [h2 e]
      show (if plainAt (two ρ v w (.dat (i x)) (.dat (j x))) [v, w] = true ∧ acc.length < sizeLine then _ else _) = _
      rw [if_pos ⟨pl _ _ rfl rfl, by omega⟩, un, hr (acc ++ [g x]) (by simp; omega), List.filter_cons_of_pos e]
      simp
/-- [e for a, b in l if t] -/
theorem evCompF2 {α : Type} {v w : Nat} {ρ : List Sl} {ev : M (List D)} {et : M Bool} {ee : M D} {l : List α} (i j : α → D) (c : α → Bool) (g : α → D) (he : ev ρ = .ok (l.map fun x => .tup [i x, j x]) ρ) (n : v ≠ w) (hv : isPlain ρ[v]? = true) (hw : isPlain ρ[w]? = true)
    (h : ∀ x ∈ l, et (two ρ v w (.dat (i x)) (.dat (j x))) = .ok (c x) (two ρ v w (.dat (i x)) (.dat (j x))) ∧ (c x = true → ee (two ρ v w (.dat (i x)) (.dat (j x))) = .ok (g x) (two ρ v w (.dat (i x)) (.dat (j x)))))
    (hl : l.length ≤ sizeLine) : evComp [v, w] ev (gTupD 2 (gsCons (gSet v) (gsCons (gSet w) gsNil))) et ee ρ = .ok (.lst ((l.filter c).map g)) ρ := by
  obtain ⟨lv, _⟩ := isPlain_cases hv
  obtain ⟨lw, _⟩ := isPlain_cases hw
  unfold evComp
  rw [he]
  simp only [Out.bind]
  rw [if_pos (by simp [plainAt, hv, hw])]
  have u0 : unset ρ [v, w] = two ρ v w .un .un := by simp only [unset, two]; rw [List.set_comm _ _ n.symm]
  show (compL (gTupD 2 (gsCons (gSet v) (gsCons (gSet w) gsNil))) et ee [v, w] (l.map fun x => .tup [i x, j x]) [] (unset ρ [v, w])).bind0 _ = _
  rw [u0]
  rw [compF2 i j c g n hv hw l [] h (by simpa using hl)]
  simp only [Out.bind0, List.nil_append]
  congr 1
  have r0 : reset ρ (two ρ v w .un .un) [v, w] = two (two ρ v w .un .un) v w (ρ.getD v .un) (ρ.getD w .un) := by simp only [reset, two]; rw [List.set_comm _ _ n.symm]
  rw [r0, two_two n]
  unfold two
  apply List.ext_getElem?
  intro k
  by_cases e : w = k
  · subst e
    rw [List.getElem?_set_self (by simpa using lw)]
    simp [List.getD, List.getElem?_eq_getElem lw]
  · rw [List.getElem?_set_ne e]
    by_cases e2 : v = k
    · subst e2
      rw [List.getElem?_set_self lv]
      simp [List.getD, List.getElem?_eq_getElem lv]
    · rw [List.getElem?_set_ne e2]
theorem ixL_nat {l : List D} {k : Nat} {d : D} (h : l[k]? = some d) : fIxL (.lst l) (.int (k : Int)) = some d := by
  have hk : k < l.length := (List.getElem?_eq_some_iff.mp h).1
  simp only [fIxL, atI, ixN]
  rw [if_pos (by omega), if_pos (by omega)]
  simpa using h
theorem ixT_nat {l : List D} {k : Nat} {d : D} (h : l[k]? = some d) : fIxT (.tup l) (.int (k : Int)) = some d := by
  have hk : k < l.length := (List.getElem?_eq_some_iff.mp h).1
  simp only [fIxT, atI, ixN]
  rw [if_pos (by omega), if_pos (by omega)]
  simpa using h
theorem gset_ok {i : Nat} {d : D} {ρ : List Sl} {x : Sl} (h0 : ρ[i]? = some x) (hx : fr x = true) : gSet i d ρ = .ok () (ρ.set i (.dat d)) := by
  unfold gSet
  rw [if_pos (by rw [free_fr h0, hx])]
theorem par_nx {i j : Nat} {ea eb : M D} {ρ ρ1 ρ2 : List Sl} {d e : D} (h1 : ea ρ = .ok d ρ1) (h2 : eb ρ1 = .ok e ρ2) (hf : free ρ2 i = true) (hg : free (ρ2.set i (.dat d)) j = true) : xPar i j ea eb ρ = .nx ((ρ2.set i (.dat d)).set j (.dat e)) := by
  unfold xPar thenS
  rw [h1]
  simp only
  rw [h2]
  simp [setD, hf, hg]
theorem parO_nx {i j : Nat} {ea eb : M O} {ρ ρ1 ρ2 : List Sl} {d e : O} (h1 : ea ρ = .ok d ρ1) (h2 : eb ρ1 = .ok e ρ2) (hf : free ρ2 i = true) (hg : free (ρ2.set i (.own false d)) j = true) : xParO i j ea eb ρ = .nx ((ρ2.set i (.own false d)).set j (.own false e)) := by
  unfold xParO thenS
  rw [h1]
  simp only
  rw [h2]
  simp [hf, hg]
theorem comp_src {vs : List Nat} {ev : M (List D)} {eg : D → M Unit} {et : M Bool} {ee : M D} {ρ ρ1 : List Sl} {ds : List D} (h : ev ρ = .ok ds ρ1) : evComp vs ev eg et ee ρ = evComp vs (fun ρ => .ok ds ρ) eg et ee ρ1 := by
  unfold evComp
  rw [h]
/-- for: by an invariant that knows how many are left -/
theorem for_len {eg : D → M Unit} {b : W} (Inv : Nat → List Sl → Prop)
    (step : ∀ d n ρ, Inv (n + 1) ρ → ∃ ρ1 ρ2, eg d ρ = .ok () ρ1 ∧ b ρ1 = .nx ρ2 ∧ Inv n ρ2) :
    ∀ (ds : List D) (ρ : List Sl), Inv ds.length ρ → ∃ ρ', forL eg b ds ρ = .nx ρ' ∧ Inv 0 ρ' := fun ds ρ h =>
  for_by (fun r ρ => Inv r.length ρ) (fun d r ρ hi => step d r.length ρ hi) ds ρ h
/-- for over naturals -/
theorem for_rng {eg : D → M Unit} {b : W} {a : Nat} (Inv : Nat → List Sl → Prop) (n : Nat)
    (step : ∀ k ρ, k < n → Inv k ρ → ∃ ρ1 ρ2, eg (.int ((a : Int) + (k : Int))) ρ = .ok () ρ1 ∧ b ρ1 = .nx ρ2 ∧ Inv (k + 1) ρ2) (ρ : List Sl) (h : Inv 0 ρ) :
    ∃ ρ', forL eg b (rngD a n) ρ = .nx ρ' ∧ Inv n ρ' := by
  have key : ∀ m k ρ, k + m = n → Inv k ρ → ∃ ρ', forL eg b ((List.range' k m).map fun (k : Nat) => D.int ((a : Int) + (k : Int))) ρ = .nx ρ' ∧ Inv n ρ' := by
    intro m
    induction m with
    | zero =>
      intro k ρ e hi
      refine ⟨ρ, rfl, ?_⟩
      rw [← e]; exact hi
    | succ m ih =>
      intro k ρ e hi
      obtain ⟨ρ1, ρ2, e1, e2, h2⟩ := step k ρ (by omega) hi
      obtain ⟨ρ', e3, h3⟩ := ih (k + 1) ρ2 (by omega) h2
      refine ⟨ρ', ?_, h3⟩
      rw [List.range'_succ, List.map_cons]
      simp [forL, e1, e2, thenS, afterBody, e3]
  have := key n 0 ρ (by omega) h
  unfold rngD
  rw [List.range_eq_range']
  exact this
theorem xfor_rng {ev : M (List D)} {eg : D → M Unit} {b : W} {a n : Nat} {ρ ρ1 : List Sl} (he : ev ρ = .ok (rngD a n) ρ1) (Inv : Nat → List Sl → Prop)
    (step : ∀ k ρ, k < n → Inv k ρ → ∃ ρ1 ρ2, eg (.int ((a : Int) + (k : Int))) ρ = .ok () ρ1 ∧ b ρ1 = .nx ρ2 ∧ Inv (k + 1) ρ2) (h : Inv 0 ρ1) :
    ∃ ρ', xFor ev eg b ρ = .nx ρ' ∧ Inv n ρ' := by
  obtain ⟨ρ', e, hi⟩ := for_rng Inv n step ρ1 h
  exact ⟨ρ', for_nx he e, hi⟩
theorem add_c {p q : Nat} : fAdd (.int p) (.int q) = some (.int (p + q : Nat)) := by
  rw [← add_n]; rfl
theorem sub_c {p q : Nat} (h : q ≤ p) : fSub (.int p) (.int q) = some (.int (p - q : Nat)) := by
  rw [← sub_n h]; rfl
theorem rng1_ok {el : M (List Rf)} {ρ ρ1 : List Sl} {n : Nat} (h : el ρ = .ok [.d (.int (n : Int))] ρ1) (hn : n < 4611686018427387904 := by omega) : rng1 el ρ = .ok (rngD 0 n) ρ1 := by
  unfold rng1
  rw [h]
  simp only [Out.bind, vws, vw]
  rw [if_pos (rgc_n hn)]
  simp
theorem rng2_ok {el : M (List Rf)} {ρ ρ1 : List Sl} {a b : Nat} (h : el ρ = .ok [.d (.int (a : Int)), .d (.int (b : Int))] ρ1) (ha : a < 4611686018427387904 := by omega) (hb : b < 4611686018427387904 := by omega) : rng2 el ρ = .ok (rngD a (b - a)) ρ1 := by
  unfold rng2
  rw [h]
  simp only [Out.bind, vws, vw]
  rw [if_pos ⟨rgc_n ha, rgc_n hb⟩]
  congr 2
  omega
end
end DC
namespace DC
noncomputable section
open PySem PySem.Spec PyProof.Rows L2 G
/-! ### repr of rows of small ints -/
theorem int_len {i : Int} (h : 0 ≤ i ∧ i < 10 ^ 10) : (Str.ofString (toString i)).length ≤ 11 ∧ i.natAbs.log2 < 1920 :=
  ⟨Nat.le_succ_of_le (toString_length_le h.1 (by decide) h.2), by
    by_cases z : i.natAbs = 0
    · rw [z]; decide
    · have e : (2 : Nat) ^ 34 = 17179869184 := by decide
      exact (Nat.log2_lt z).mpr (Nat.lt_of_lt_of_le (show i.natAbs < 2 ^ 34 by omega) (Nat.pow_le_pow_right (by decide) (by decide)))⟩
structure Shw (d : D) (p : PyData) (n : Nat) : Prop where
  toP : d.toP = some p
  sh : p.showable = true
  nd : p.hasDict = false
  len : p.shown.length ≤ n
theorem Shw.int {i : Int} (h : 0 ≤ i ∧ i < 10 ^ 10) : Shw (.int i) (.int i) 11 := by
  obtain ⟨h1, h2⟩ := int_len h
  exact ⟨rfl, by simp [PyData.showable, h2], by simp [PyData.hasDict], by simpa [PyData.shown] using h1⟩
theorem Shw.bl {b : Bool} : Shw (.bl b) (.bool b) 5 := by
  refine ⟨rfl, by simp [PyData.showable], by simp [PyData.hasDict], ?_⟩
  cases b <;> decide +kernel
theorem Shw.non : Shw .non .none 4 := ⟨rfl, by simp [PyData.showable], by simp [PyData.hasDict], by decide +kernel⟩
structure Shs (ds : List D) (ps : List PyData) (n : Nat) : Prop where
  toP : D.toPs ds = some ps
  sh : PyData.showableAll ps = true
  nd : PyData.hasDictAll ps = false
  len : ((PyData.shownAll ps).map (·.length)).sum ≤ n
  num : (PyData.shownAll ps).length = ds.length
theorem Shs.nil : Shs [] [] 0 := ⟨rfl, by simp [PyData.showableAll], by simp [PyData.hasDictAll], by simp [PyData.shownAll], by simp [PyData.shownAll]⟩
theorem Shs.cons {d : D} {ds : List D} {p : PyData} {ps : List PyData} {n m : Nat} (h : Shw d p n) (r : Shs ds ps m) : Shs (d :: ds) (p :: ps) (n + m) := by
  refine ⟨by simp [D.toPs, h.toP, r.toP], by simp [PyData.showableAll, h.sh, r.sh], by simp [PyData.hasDictAll, h.nd, r.nd], ?_, ?_⟩
  · have := h.len
    have := r.len
    simp only [PyData.shownAll, List.map_cons, List.sum_cons]
    omega
  · simp [PyData.shownAll, r.num]
theorem Shw.lst {ds : List D} {ps : List PyData} {n : Nat} (h : Shs ds ps n) : Shw (.lst ds) (.list ps) (n + 2 * ds.length + 3) := by
  refine ⟨by simp [D.toP, h.toP], by simpa [PyData.showable] using h.sh, by simpa [PyData.hasDict] using h.nd, ?_⟩
  have h1 := listText_len_le (PyData.shownAll ps)
  have := h.len
  have e := h.num
  simp only [PyData.shown]
  omega
theorem Shw.tup {ds : List D} {ps : List PyData} {n : Nat} (h : Shs ds ps n) : Shw (.tup ds) (.tuple ps) (n + 2 * ds.length + 3) := by
  refine ⟨by simp [D.toP, h.toP], by simpa [PyData.showable] using h.sh, by simpa [PyData.hasDict] using h.nd, ?_⟩
  have h1 := tupleText_len_le (PyData.shownAll ps)
  have := h.len
  have e := h.num
  simp only [PyData.shown]
  omega
theorem Shs.ints : ∀ {l : List Int}, (∀ i ∈ l, 0 ≤ i ∧ i < 10 ^ 10) → Shs (l.map D.int) (l.map PyData.int) (11 * l.length)
  | [], _ => Shs.nil
  | i :: l, h => by
    have := Shs.cons (Shw.int (h i List.mem_cons_self)) (Shs.ints fun j hj => h j (List.mem_cons_of_mem _ hj))
    simpa [Nat.mul_add, Nat.add_comm] using this
theorem Shw.repr {d : D} {p : PyData} {n : Nat} (h : Shw d p n) (hd : p.depth ≤ 40) (hn : n ≤ 16777216) : fRepr [d] = some (.str p.shown) := by
  simp only [fRepr, h.toP]
  have := h.len
  rw [if_pos ⟨h.sh, h.nd, hd, by rw [sizeLine_eq]; omega⟩]
theorem dep_ints : ∀ l : List Int, PyData.depthAll (l.map PyData.int) ≤ 1
  | [] => by simp [PyData.depthAll]
  | i :: l => by
    have := dep_ints l
    simp only [List.map_cons, PyData.depthAll, PyData.depth]
    omega
end
end DC
namespace G
open PySem PySem.Spec PyProof.Rows L2
section
variable {X : Cx} {k : Nat} {C : Addr} {ps : List Str} {sp : Sp}
/-- str(o), o with an own __str__ that hands back a text -/
structure StG (P : Program) (w : World) (K : PySem.W.Frag) (mg : Str → Option Value) (base : Heap) (C : Addr) (k : Nat) (sp : Sp) : Prop where
  ex : ∃ f fd, FG P w K mg base CX0 k f fd ["self"] sp ∧ PySem.W.findIn K (.ref C) "__str__" = some (some (.ref f)) ∧ PySem.W.isFn K (.ref f) = true ∧ Binds K fd ["self"] []
theorem run_in2 {pins : List (Addr × Obj)} {σ : L2.St} {H : Hp} {s : Shared} {Q : VK} {f : Addr} {fd : FuncData} (F : FG X.prog X.w X.K X.mg X.base CX0 k f fd ps sp) (gd : X.A.guards = some []) (hr : Room (k + 2) X.A) (I : Inv X pins σ H s) {args : Args} {us : List Value} {vs : List V}
    (hb : BindsTo s fd args (ps.zip us)) (r : Vals vs us) (h : sp vs H Q E0) : codeAny (model X.prog X.w) X.A.in1.in1 (.call (.ref f) args) (wants (EP X pins σ Q) X.xe) s :=
  codeAny_mono (F.go X.A.in1.in1 gd X.stack s H args us vs Q E0 hr.in1.in1 I.env0.in1.in1 hb r h) fun _ _ hq => back_of pass0 I hq
theorem call_strOwn (M : StG X.prog X.w X.K X.mg X.base C k sp) (gd : X.A.guards = some []) (hr : Room (k + 2) X.A) : CallR X (.type "str") (rReprOwn C sp) := by
  intro pins s σ H xs us Q I r h
  obtain ⟨f, fd, F, he, hf, hb⟩ := M.ex
  obtain ⟨a, dx, fs, rfl, ha, q⟩ := h
  obtain rfl := Vals.ref1 r
  obtain ⟨mA, J, _⟩ := ins_get I.hok ha
  obtain ⟨od, J, _⟩ := J.look
  refine PySem.W.kso_call (hr.in1.in1.units0) I.kIn J he hf (PySem.wpAny_call (codeAny_mono (run_in2 F gd hr I (us := [.ref a]) (vs := [.ref a]) (binds_to hb I.kIn rfl) (.cons rfl .nil) q) fun r s' hq => ?_))
  cases r with
  | error e => exact hq
  | ok fl =>
    cases fl with
    | ret z =>
      obtain ⟨v', H', I', rv, y, rfl, q'⟩ := hq
      obtain ⟨t, rfl⟩ := rv
      exact ⟨.str y, H', I', ⟨t, rfl⟩, q'⟩
    | next => exact hq
    | brk => exact hq
    | cont => exact hq
end
end G
namespace DC
noncomputable section
open PySem PySem.Spec PyProof.Rows L2 G
/-- what is asked of an own class that values are held against -/
structure OwnC (K : PySem.W.Frag) (C : Addr) : Prop where
  cl : Cls K C
  cs : PySem.W.findIn K (.ref C) "__class__" = some (some (.builtin "object.__class__"))
  xn : PySem.W.specialIn K (.builtin "object.__class__") "__get__" = some (some (.builtin "getset_descriptor.__get__"))
  xt : PySem.W.takesIn K (.builtin "object.__class__") = some true
  mro : PySem.W.mroIn K C (.type "object") = some true
  self : PySem.W.kitOne K (.ref C) (.ref C) = some true
  no : ∀ T ∈ ["int", "bool", "NoneType", "str", "list", "tuple", "dict"], PySem.W.kitOne K (.type T) (.ref C) = some false
  nfS : PySem.W.notFirst K C (.ref C) = true
  nf : ∀ T ∈ ["int", "bool", "NoneType", "str", "list", "tuple", "dict"], PySem.W.notFirst K C (.type T) = true
  ne : PySem.W.findIn K (.ref C) "__ne__" = some (some (.builtin "object.__ne__"))
  nb : PySem.W.findIn K (.ref C) "__bool__" = some none
  nl : PySem.W.findIn K (.ref C) "__len__" = some none
section
variable {E : XK} {K : PySem.W.Frag} {ta tb te : TE} {ea eb : M Rf} {g : M Ret} {C : Addr}
theorem tyN_in {d : D} {n : String} (h : tyN d = some n) : n ∈ ["int", "bool", "NoneType", "str", "list", "tuple", "dict"] := by
  cases d <;> simp [tyN] at h <;> subst h <;> simp
/-- the type of a value: an own class or a built-in type -/
def isT (C : Addr) (ρ : List Sl) (r : Rf) : Option Bool := match vw ρ r with
  | some (.ins C' _) => if C' = C then some true else none
  | some d => (tyN d).map fun _ => false
  | none => none
theorem isT_of (T : OwnC K C) {s : S} {v : V} {r : Rf} {b : Bool} (R : Ok K s) (rv : RfR K s.F s.σ v r) (h : isT C s.ρ r = some b) : ∃ t, TyX K s.H v t ∧ PySem.W.kitOne K t (.ref C) = some b ∧ PySem.W.notFirst K C t = true := by
  unfold isT at h
  split at h
  · rename_i C' es e
    split at h
    · rename_i hc
      subst hc
      cases h
      obtain ⟨a, dx, fs, rfl, h1⟩ := (R.vw rv e).insC R.sub
      exact ⟨.ref C', .base (.ins h1 T.cl T.cs T.xn T.xt T.mro), T.self, T.nfS⟩
    · cases h
  · rename_i d hd e
    obtain ⟨n, hn, rfl⟩ := Option.map_eq_some_iff.mp h
    exact ⟨.type n, tyN_of R.sub (R.vw rv e) hn, T.no n (tyN_in hn), T.nf n (tyN_in hn)⟩
  · cases h
/-! ### isinstance(x, C) -/
def evIsC (C : Addr) (ea : M Rf) : M Rf := fun ρ => (ea ρ).bind fun r ρ1 => match isT C ρ1 r with
  | some b => .ok (.d (.bl b)) ρ1
  | none => .bad
theorem ae_isC (T : OwnC K C) (ha : AE E K ta ea) : AE E K (tCB (rIsi K) (tCons ta (tCons (tC (.ref C)) tNil))) (evIsC C ea) := by
  intro s Q R q
  refine ha s _ R (Post.bind q shV fun r ρ1 v F1 fp1 H1 ok1 T1 rv1 q1 => ?_)
  split at q1
  · rename_i b hb
    obtain ⟨t, ty, kt, _⟩ := isT_of T ok1 rv1 hb
    exact ⟨v, .ref C, t, .ref C, b, rfl, .own C, ty, kt, q1 _ F1 fp1 H1 ok1 (Tr.refl _) (.bl _)⟩
  · exact q1.elim
/-! ### own == and != -/
def evEqOwn (neg : Bool) (C : Addr) (g : M Ret) (ea eb : M Rf) : M Rf := fun ρ => (ea ρ).bind fun r1 ρ1 => (eb ρ1).bind fun r2 ρ2 => if isC C ρ2 r1 = true ∧ (isT C ρ2 r2).isSome = true then (match callW g [r1, r2] ρ2 with
  | .ok (.d (.bl k)) ρ3 => .ok (.d (.bl (if neg then !k else k))) ρ3
  | _ => .bad) else .bad
theorem ae_eqOwn (T : OwnC K C) (ha : AE E K ta ea) (hb : AE E K tb eb) : AE E K (tOp (rEqOwn K C (spD K 2 g)) ta tb) (evEqOwn false C g ea eb) := by
  intro s Q R q
  refine ha s _ R (Post.bind q shV fun r1 ρ1 x F1 fp1 H1 ok1 T1 rv1 q1 => ?_)
  refine hb (s.to F1 fp1 ρ1 H1) _ ok1 (Post.bind q1 shV fun r2 ρ2 y F2 fp2 H2 ok2 T2 rv2 q2 => ?_)
  by_cases hi : isC C ρ2 r1 = true ∧ (isT C ρ2 r2).isSome = true
  · rw [if_pos hi] at q2
    have rv1' := RfR.mono T2.ff rv1
    obtain ⟨a, dx, fs, rfl, h1⟩ := isC_of ok2 rv1' hi.1
    obtain ⟨b, hb⟩ := Option.isSome_iff_exists.mp hi.2
    obtain ⟨t, ty, _, nf⟩ := isT_of T ok2 rv2 hb
    refine ⟨a, dx, fs, t, rfl, h1, ty, nf, call_post (E := E0) (s := s.to F2 fp2 ρ2 H2) ok2 (.cons rv1' (.cons rv2 .nil)) rfl ?_⟩
    show Post E0 K (RetR K) _ (callW g [r1, r2] ρ2) _
    cases e : callW g [r1, r2] ρ2 with
    | ex x ρ3 => rw [e] at q2; exact q2.elim
    | bad => rw [e] at q2; exact q2.elim
    | ok r ρ3 =>
      rw [e] at q2
      intro v F3 fp3 H3 ok3 T3 rv3
      match r, q2, rv3 with
      | .d (.bl kk), q2, rv3 =>
        have rv3 : Rp K F3 v (.bl kk) := rv3
        cases rv3
        exact q2 _ F3 fp3 H3 ok3 T3 (.bl _)
  · rw [if_neg hi] at q2; exact q2.elim
theorem ae_neOwn (T : OwnC K C) (ha : AE E K ta ea) (hb : AE E K tb eb) : AE E K (tOp (rNeOwn K C (spD K 2 g)) ta tb) (evEqOwn true C g ea eb) := by
  intro s Q R q
  refine ha s _ R (Post.bind q shV fun r1 ρ1 x F1 fp1 H1 ok1 T1 rv1 q1 => ?_)
  refine hb (s.to F1 fp1 ρ1 H1) _ ok1 (Post.bind q1 shV fun r2 ρ2 y F2 fp2 H2 ok2 T2 rv2 q2 => ?_)
  by_cases hi : isC C ρ2 r1 = true ∧ (isT C ρ2 r2).isSome = true
  · rw [if_pos hi] at q2
    have rv1' := RfR.mono T2.ff rv1
    obtain ⟨a, dx, fs, rfl, h1⟩ := isC_of ok2 rv1' hi.1
    obtain ⟨b, hb⟩ := Option.isSome_iff_exists.mp hi.2
    obtain ⟨t, ty, _, nf⟩ := isT_of T ok2 rv2 hb
    refine ⟨a, dx, fs, t, rfl, h1, ty, nf, call_post (E := E0) (s := s.to F2 fp2 ρ2 H2) ok2 (.cons rv1' (.cons rv2 .nil)) rfl ?_⟩
    show Post E0 K (RetR K) _ (callW g [r1, r2] ρ2) _
    cases e : callW g [r1, r2] ρ2 with
    | ex x ρ3 => rw [e] at q2; exact q2.elim
    | bad => rw [e] at q2; exact q2.elim
    | ok r ρ3 =>
      rw [e] at q2
      intro v F3 fp3 H3 ok3 T3 rv3
      match r, q2, rv3 with
      | .d (.bl kk), q2, rv3 =>
        have rv3 : Rp K F3 v (.bl kk) := rv3
        cases rv3
        exact ⟨kk, rfl, q2 _ F3 fp3 H3 ok3 T3 (.bl _)⟩
  · rw [if_neg hi] at q2; exact q2.elim
/-! ### own repr, own str: a def that hands back a text -/
def evShOwn (C : Addr) (g : M Ret) (ea : M Rf) : M Rf := fun ρ => (ea ρ).bind fun r ρ1 => if isC C ρ1 r = true then (match callW g [r] ρ1 with
  | .ok (.d (.str z)) ρ2 => .ok (.d (.str z)) ρ2
  | _ => .bad) else .bad
theorem ae_shOwn (ha : AE E K ta ea) : AE E K (tCB (rReprOwn C (spD K 1 g)) (tCons ta tNil)) (evShOwn C g ea) := by
  intro s Q R q
  refine ha s _ R (Post.bind q shV fun r ρ1 x F1 fp1 H1 ok1 T1 rv1 q1 => ?_)
  by_cases hi : isC C ρ1 r = true
  · rw [if_pos hi] at q1
    obtain ⟨a, dx, fs, rfl, h1⟩ := isC_of ok1 rv1 hi
    refine ⟨a, dx, fs, rfl, h1, call_post (E := E0) (s := s.to F1 fp1 ρ1 H1) ok1 (.cons rv1 .nil) rfl ?_⟩
    show Post E0 K (RetR K) _ (callW g [r] ρ1) _
    cases e : callW g [r] ρ1 with
    | ex x ρ3 => rw [e] at q1; exact q1.elim
    | bad => rw [e] at q1; exact q1.elim
    | ok r ρ3 =>
      rw [e] at q1
      intro v F3 fp3 H3 ok3 T3 rv3
      match r, q1, rv3 with
      | .d (.str z), q1, rv3 =>
        have rv3 : Rp K F3 v (.str z) := rv3
        cases rv3
        exact ⟨z, rfl, q1 _ F3 fp3 H3 ok3 T3 (.str _)⟩
  · rw [if_neg hi] at q1; exact q1.elim
/-! ### bool of an own object without __bool__ and __len__ -/
def evBoolOwn (C : Addr) (ea : M Rf) : M Rf := fun ρ => (ea ρ).bind fun r ρ1 => if isC C ρ1 r = true then .ok (.d (.bl true)) ρ1 else .bad
theorem ae_boolOwn (ha : AE E K ta ea) : AE E K (tCB (fun xs H Q => ∃ a dx fs, xs = [.ref a] ∧ H a = some (.ins C dx fs) ∧ Q (.bl true) H) (tCons ta tNil)) (evBoolOwn C ea) := by
  intro s Q R q
  refine ha s _ R (Post.bind q shV fun r ρ1 x F1 fp1 H1 ok1 T1 rv1 q1 => ?_)
  by_cases hi : isC C ρ1 r = true
  · rw [if_pos hi] at q1
    obtain ⟨a, dx, fs, rfl, h1⟩ := isC_of ok1 rv1 hi
    exact ⟨a, dx, fs, rfl, h1, q1 _ F1 fp1 H1 ok1 (Tr.refl _) (.bl _)⟩
  · rw [if_neg hi] at q1; exact q1.elim
/-! ### x or y, by truth -/
def evOrT (ea eb : M Rf) : M Rf := fun ρ => (ea ρ).bind fun r ρ1 => match (vw ρ1 r).bind truD with
  | some true => .ok r ρ1
  | some false => eb ρ1
  | none => .bad
theorem ae_orT (ha : AE E K ta ea) (hb : AE E K tb eb) : AE E K (tOrT K ta tb) (evOrT ea eb) := by
  intro s Q R q
  refine ha s _ R (Post.bind q shV fun r ρ1 v F1 fp1 H1 ok1 T1 rv1 q1 => ?_)
  cases e : (vw ρ1 r).bind truD with
  | none => rw [e] at q1; exact q1.elim
  | some b =>
    rw [e] at q1
    obtain ⟨d, e1, e2⟩ := Option.bind_eq_some_iff.mp e
    refine ⟨b, tru_of ok1.sub (ok1.vw rv1 e1) e2, ?_⟩
    cases b with
    | true => simp only [if_true]; exact q1 v F1 fp1 H1 ok1 (Tr.refl _) rv1
    | false =>
      simp only [Bool.false_eq_true, if_false]
      exact hb (s.to F1 fp1 ρ1 H1) _ ok1 q1
/-! ### f"..": texts and ints, one behind the other -/
def fFmt : D → Option D
  | .str y => if y.length ≤ sizeLine then some (.str y) else none
  | .int i => if i.natAbs.log2 < 1920 then some (.str (toString i)) else none
  | _ => none
theorem ua_fmt : UnA K (fun x H Q => (∃ y : Str, x = .str y ∧ y.length ≤ sizeLine ∧ Q (.str y) H) ∨ ∃ i : Int, x = .int i ∧ i.natAbs.log2 < 1920 ∧ Q (.str (toString i)) H) fFmt := by
  intro F H x a c Q s h e q
  cases a with
  | str y =>
    simp only [fFmt] at e
    split at e
    · rename_i hc
      cases e
      exact .inl ⟨y, h.str, hc, q _ F H (Grow.refl s) (.str _)⟩
    · cases e
  | int i =>
    simp only [fFmt] at e
    split at e
    · rename_i hc
      cases e
      exact .inr ⟨i, h.int, hc, q _ F H (Grow.refl s) (.str _)⟩
    · cases e
  | _ => cases e
theorem ae_fmt (h : AE E K te ea) : AE E K (tFmt te) (evUn fFmt ea) := ae_un ua_fmt h
def jsW : List (M Rf) → Str → M Str
  | [], acc => fun ρ => .ok acc ρ
  | e :: es, acc => fun ρ => (e ρ).bind fun r ρ1 => match vw ρ1 r with
    | some (.str y) => if (acc ++ y).length ≤ sizeLine then jsW es (acc ++ y) ρ1 else .bad
    | _ => .bad
def evJs (es : List (M Rf)) : M Rf := fun ρ => (jsW es Str.empty ρ).bind fun z ρ1 => .ok (.d (.str z)) ρ1
inductive AJ (E : XK) (K : PySem.W.Frag) : List TE → List (M Rf) → Prop
  | nil : AJ E K [] []
  | cons {t : TE} {e : M Rf} {ts : List TE} {es : List (M Rf)} : AE E K t e → AJ E K ts es → AJ E K (t :: ts) (e :: es)
def RZ : S → S → Str → Str → Prop := fun _ _ a b => a = b
theorem shZ : Shift RZ := fun _ _ _ _ _ _ _ h => h
theorem aj_js {ts : List TE} {es : List (M Rf)} (h : AJ E K ts es) : ∀ (acc : Str) (s : S) (Q : Str → Hp → Prop), Ok K s → Post E K RZ s (jsW es acc s.ρ) Q → tJs ts acc s.σ s.H Q := by
  induction h with
  | nil =>
    intro acc s Q R q
    exact q acc s.F s.fp s.H R (Tr.refl _) rfl
  | @cons t e ts es ha _ ih =>
    intro acc s Q R q
    refine ha s _ R (Post.bind q shZ fun r ρ1 v F1 fp1 H1 ok1 T1 rv1 q1 => ?_)
    split at q1
    · rename_i y ey
      split at q1
      · rename_i hl
        exact ⟨y, (ok1.vw rv1 ey).str, hl, ih (acc ++ y) (s.to F1 fp1 ρ1 H1) Q ok1 q1⟩
      · exact q1.elim
    · exact q1.elim
theorem ae_js {ts : List TE} {es : List (M Rf)} (h : AJ E K ts es) : AE E K (fun σ H Q => tJs ts Str.empty σ H fun out H1 => Q (.str out) H1) (evJs es) := by
  intro s Q R q
  refine aj_js h Str.empty s _ R ?_
  unfold evJs at q
  cases e : jsW es Str.empty s.ρ with
  | ex x ρ1 => rw [e] at q; exact q
  | bad => rw [e] at q; exact q
  | ok z ρ1 =>
    rw [e] at q
    intro b F1 fp1 H1 ok1 T1 hb
    have hb : b = z := hb
    subst hb
    exact q _ F1 fp1 H1 ok1 T1 (Rp.str _)
end
end
end DC
namespace DC
noncomputable section
open PySem PySem.Spec PyProof.Rows L2 G
section
variable {E : XK} {K : PySem.W.Frag}
/-- a, b, c = x, y, z -/
def xPar3 (i j l : Nat) (ea eb ec : M D) : W := fun ρ => thenS (ea ρ) fun d ρ1 => thenS (eb ρ1) fun e ρ2 => thenS (ec ρ2) fun g ρ3 => match setD i d ρ3 with
  | .nx ρ4 => (match setD j e ρ4 with
    | .nx ρ5 => setD l g ρ5
    | _ => .bad)
  | _ => .bad
theorem as_par3 {i j l : Nat} {tx ty tz : TE} {ex ey ez : M D} (h1 : AD E K tx ex) (h2 : AD E K ty ey) (h3 : AD E K tz ez) : AS E K (tPar3 i j l (tCons tx (tCons ty (tCons tz tNil)))) (xPar3 i j l ex ey ez) := by
  intro s D R q
  refine h1 s _ R (PostS.thenS q fun d ρ1 v F1 fp1 H1 ok1 T1 rv1 q1 => ?_)
  refine h2 (s.to F1 fp1 ρ1 H1) _ ok1 (PostS.thenS q1 fun e ρ2 w F2 fp2 H2 ok2 T2 rv2 q2 => ?_)
  refine h3 (s.to F2 fp2 ρ2 H2) _ ok2 (PostS.thenS q2 fun g ρ3 z F3 fp3 H3 ok3 T3 rv3 q3 => ?_)
  refine ⟨v, w, z, rfl, ?_⟩
  have rv1' := Rp.mono T3.ff _ _ (Rp.mono T2.ff _ _ rv1)
  have rv2' := Rp.mono T3.ff _ _ rv2
  simp only [setD] at q3
  by_cases hf : free ρ3 i = true
  · rw [if_pos hf] at q3
    obtain ⟨ok4, T4⟩ := Ok.put (i := i) (x := .dat d) (z := some v) ok3 hf (.inr ⟨v, d, rfl, rfl, rv1'⟩)
    dsimp only at q3
    by_cases hg : free (ρ3.set i (.dat d)) j = true
    · rw [if_pos hg] at q3
      obtain ⟨ok5, T5⟩ := Ok.put (i := j) (x := .dat e) (z := some w) ok4 hg (.inr ⟨w, e, rfl, rfl, rv2'⟩)
      dsimp only at q3
      split at q3
      · rename_i hl
        obtain ⟨ok6, T6⟩ := Ok.put (i := l) (x := .dat g) (z := some z) ok5 hl (.inr ⟨z, g, rfl, rfl, rv3⟩)
        exact q3 _ _ _ _ ok6 ((T4.trans T5).trans T6)
      · exact q3.elim
    · rw [if_neg hg] at q3; exact q3.elim
  · rw [if_neg hf] at q3; exact q3.elim
theorem par3_nx {i j l : Nat} {ea eb ec : M D} {ρ ρ1 ρ2 ρ3 : List Sl} {d e g : D} (h1 : ea ρ = .ok d ρ1) (h2 : eb ρ1 = .ok e ρ2) (h3 : ec ρ2 = .ok g ρ3) (hf : free ρ3 i = true) (hg : free (ρ3.set i (.dat d)) j = true) (hl : free ((ρ3.set i (.dat d)).set j (.dat e)) l = true) :
    xPar3 i j l ea eb ec ρ = .nx (((ρ3.set i (.dat d)).set j (.dat e)).set l (.dat g)) := by
  unfold xPar3 thenS
  rw [h1]; dsimp only
  rw [h2]; dsimp only
  rw [h3]; simp only [setD]
  rw [if_pos hf]; dsimp only
  rw [if_pos hg]; dsimp only
  rw [if_pos hl]
end
end
end DC
namespace L2
open PySem PySem.Spec PyProof.Rows
section
variable {P : Program} {w : World} {A : Around} {E : Value → Shared → Prop} {s : Shared} {a : Addr}
/-- sorted of a set of ints, however many -/
theorem sorted_setA {S : Int → Bool} {n : Nat} {Q : Value → Shared → Prop} (R : SetR w s.heap a S n) (hh : A.handled = none) (hn2 : n ≤ sizeLine)
    (hQ : ∀ s' p (out : Array Value) (c : Nat) (ns : List Int), (∀ b o, s.heap.get? b = some o → s'.heap.get? b = some o) → s'.gens = s.gens → s'.os = s.os → s.heap.objs.size ≤ p →
      s'.heap.get? p = some (seqObj "list" out c) → IntsAre out.toList ns → ns.Pairwise (· < ·) → (∀ k, k ∈ ns ↔ S k = true) → ns.length = n → Q (.ref p) s') :
    wpAny (model P w) A (call (.builtin "sorted") [.ref a]) Q E s := by
  obtain ⟨o, es, ep, t, ho, hex, hd, g, nd, hm, hb, hf, hn, hr, hl⟩ := R
  refine Calls.call_function_entry kind_sorted plain_sorted entry_sorted (args_sorted1 _) ?_
  unfold Builtin.«sorted»
  refine wpAny_bind (m := checkCount "sorted" 1 1 _) (wpAny_pure ?_)
  refine wpAny_bind (collect_set (A := A.in1) hh ⟨o, ho, hex.1, hd⟩ hf hb hr hl fun s1 vs k1 hz g1 o1 pm => ?_)
  have hvl : vs.length = n := by rw [pm.length_eq, List.length_map, Array.length_toList]; exact hn
  have hI : IntsAre vs (vs.map Builtin.Re.reRawOf) := ints_of vs fun v hv => by
    obtain ⟨e, he, q⟩ := List.mem_map.mp (pm.mem_iff.mp hv)
    obtain ⟨k, tk, h1, _⟩ := g e he
    exact ⟨k, tk, by rw [← q]; exact h1⟩
  have pk : (vs.map Builtin.Re.reRawOf).Perm (es.toList.map keyOf) := by
    have q := pm.map Builtin.Re.reRawOf
    rw [List.map_map] at q
    exact q
  have hvz : vs.length ≤ sizeLine := by rw [hvl]; exact hn2
  refine wpAny_bind (wpAny_newList ?_ hvz)
  have hoL : (s1.heap.push (seqObj "list" vs.toArray 0)).get? s1.heap.objs.size = some (seqObj "list" vs.toArray 0) := Heap.get?_push_size _ rfl
  refine wpAny_bind (wpAny_holding (wpAny_call_entry slot_list_sort ⟨_, hoL, rfl⟩ entry_list_sort (SrtO.list_sort_ord SrtO.swo_int hoL hvz (fun h2 => SrtO.ints_sortable hI h2) fun out hs hb => ⟨_, rfl, ?_⟩) (args_list_sort _)))
  obtain ⟨a1, a2, a3⟩ := SrtO.ints_out hI hs hb
  obtain ⟨c, hc⟩ := sortedHeap_at (vs := vs) (out := out.toArray) hoL
  have pn := a2.trans pk
  refine wpAny_pure ⟨_, rfl, hQ _ s1.heap.objs.size out.toArray c _ (fun b u e => ?_) g1 o1 hz hc a1 (lt_of_le_nodup _ a3 (pn.nodup_iff.mpr nd)) (fun k => by rw [pn.mem_iff, ← hm k]) ?_⟩
  · have q := k1 b u e
    have hlt := Heap.lt_size q
    show (sortedHeap (s1.heap.push (seqObj "list" vs.toArray 0)) s1.heap.objs.size vs out.toArray).get? b = some u
    rw [sortedHeap_old (Nat.ne_of_lt hlt) (by rw [size_push']; exact Nat.lt_succ_of_lt hlt)]
    exact Heap.get?_push_of_some _ q
  · rw [pn.length_eq, List.length_map, Array.length_toList]; exact hn
variable {X : Cx}
def rSortedSetA (w : World) : List V → Hp → VK → Prop := fun vs H Q => ∃ (a : Addr) (S : Int → Bool) (n : Nat), vs = [V.ref a] ∧ H a = some (SetO w a S n) ∧ n ≤ sizeLine ∧
  ∀ (ns : List Int) (p : Addr), ns.Pairwise (· < ·) → (∀ k : Int, k ∈ ns ↔ S k = true) → H p = none → Q (.ref p) (upd H p (.lst (ns.map V.int)))
theorem cr_sortedSetA (hc : X.calm = true) : CallR X (.builtin "sorted") (rSortedSetA X.w) := by
  intro pins s σ H vs us Q I r h
  obtain ⟨a, S, n, rfl, ha, h64, q⟩ := h
  have R := setO_get I ha
  rw [Vals.ref1 r]
  refine sorted_setA R (I.ok.hd hc) h64 fun s' p out c ns k g o hp hg hi hs hm hl => ?_
  have hlen : (ns.map V.int).length ≤ sizeLine := by rw [List.length_map, hl]; exact h64
  have hn : H p = none := I.hok.fresh hp
  have J : Inv X pins σ (upd H p (.lst (ns.map V.int))) { s with heap := s'.heap, gens := s'.gens, drawn := s'.drawn, toks := s'.toks } :=
    I.call (ch := []) (Un.laid k hp hn) (I.hok.laid k hp ⟨hlen, out.toList, c, vals_of_ints hi, hg⟩) (by rw [g]; exact I.bare) (fun _ z => nomatch z)
  have e : s' = { s with heap := s'.heap, gens := s'.gens, drawn := s'.drawn, toks := s'.toks } := by
    cases s'
    cases s
    cases o
    rfl
  rw [e]
  exact ⟨.ref p, _, J, rfl, q ns p hs hm hn⟩
end
end L2
namespace DC
noncomputable section
open PySem PySem.Spec PyProof.Rows L2 G
section
variable {E : XK} {K : PySem.W.Frag} {te : TE} {ea : M Rf}
/-- sorted(set(t)), t a tuple of up to 1000 ints -/
def evSortSetA (ea : M Rf) : M O := fun ρ => (ea ρ).bind fun r ρ1 => match (vw ρ1 r).bind fun d => match d with
    | .tup ds => intsD ds
    | _ => none with
  | some ns => if ns.length ≤ 1000 then .ok (.lst ((sortI (onceI ns)).map D.int)) ρ1 else .bad
  | none => .bad
theorem ao_sortSetA {w : World} (h : AE E K te ea) : AO E K (tCB (rSortedSetA w) (tCons (tCB (rSetT K w) (tCons te tNil)) tNil)) (evSortSetA ea) := by
  intro s Q R q
  refine h s _ R ?_
  unfold evSortSetA at q
  cases e1 : ea s.ρ with
  | ex x ρ1 => rw [e1] at q; exact q
  | bad => rw [e1] at q; exact q
  | ok r1 ρ1 =>
    rw [e1] at q
    intro x F1 fp1 H1 ok1 T1 rv1
    simp only [Out.bind] at q
    split at q
    · rename_i ns e
      split at q
      · rename_i hl
        simp only [Option.bind_eq_some_iff] at e
        obtain ⟨d, e2, e3⟩ := e
        split at e3
        · rename_i ds
          obtain ⟨p, vs, rfl, h1, h2⟩ := (ok1.vw rv1 e2).tup ok1.sub
          rw [ints_of h2 e3] at h1
          refine ⟨p, ns, rfl, h1, hl, fun a c hc ha => ?_⟩
          refine ⟨a, _, c, rfl, upd_same, by rw [sizeLine_eq]; omega, fun ms p2 hs hm hp2 => ?_⟩
          have z : ms = sortI (onceI ns) := by
            refine sorted_eq (List.Perm.trans ((List.perm_ext_iff_of_nodup (hs.imp fun h => Int.ne_of_lt h) (once_nodup ns)).mpr fun k => ?_) (sortI_perm _).symm) (hs.imp fun h => Int.le_of_lt h) (sortI_sorted _)
            rw [hm k, once_mem k]
            simp
          subst z
          obtain ⟨ok2, T2⟩ := ok1.grow (Grow.tmp (o := SetO w a (fun k => decide (k ∈ ns)) c) ok1.sub ha)
          obtain ⟨ok3, T3, n⟩ := new_own (s := s) (p := p2) (o := .lst ((sortI (onceI ns)).map V.int)) ok2 (T1.trans T2) hp2
          exact q _ _ _ _ ok3 T3 ⟨p2, [p2], rfl, .lst upd_same (rpa_ints _), n⟩
        · cases e3
      · exact q.elim
    · exact q.elim
end
end
end DC
namespace DC
noncomputable section
open PySem PySem.Spec PyProof.Rows L2 G
def rNotInOwn (C : Addr) (sp : Sp) : R2 := fun x y H Q => ∃ a dx fs, y = .ref a ∧ H a = some (.ins C dx fs) ∧ sp [.ref a, x] H (fun v H' => ∃ k, v = .bl k ∧ Q (.bl (!k)) H') E0
section
variable {X : Cx} {k : Nat} {C : Addr} {ps : List Str} {sp : Sp}
theorem op_notInOwn (M : OpM X.prog X.w X.K X.mg X.base C "__contains__" k ps sp) (gd : X.A.guards = some []) (hr : Room k X.A) (h2 : ps.length = 2) : OpR X (compareOp .NotIn) (rNotInOwn C sp) := by
  intro pins s σ H x y v u Q I rx ry h
  obtain ⟨f, fd, F, he, hf, hb⟩ := M.ex
  obtain ⟨a, dx, fs, rfl, ha, q⟩ := h
  cases ry
  obtain ⟨mA, J, _⟩ := ins_get I.hok ha
  obtain ⟨od, J, _⟩ := J.look
  obtain ⟨m, fr⟩ := I.fr
  refine PySem.W.notIn_K fr I.mod.kin J he hf (PySem.wpAny_call (codeAny_mono (run_g F gd hr pass0 I (us := [.ref a, v]) (vs := [.ref a, x]) (binds_to hb I.kIn h2.symm) (.cons rfl (.cons rx .nil)) q) fun r s' hq => ?_))
  cases r with
  | error e => exact hq
  | ok fl =>
    cases fl with
    | ret z =>
      obtain ⟨v', H', I', rv, kk, rfl, q'⟩ := hq
      cases rv
      exact wpAny_truthy_bool ⟨.bl (!kk), H', I', rfl, q'⟩
    | next => exact hq
    | brk => exact hq
    | cont => exact hq
end
section
variable {E : XK} {K : PySem.W.Frag} {ta tb te : TE} {ea eb : M Rf} {g : M Ret} {C : Addr}
def evNotInOwn (C : Addr) (g : M Ret) (ea eb : M Rf) : M Rf := fun ρ => (ea ρ).bind fun r1 ρ1 => (eb ρ1).bind fun r2 ρ2 => if isC C ρ2 r2 = true then (match callW g [r2, r1] ρ2 with
  | .ok (.d (.bl k)) ρ3 => .ok (.d (.bl (!k))) ρ3
  | _ => .bad) else .bad
theorem ae_notInOwn (ha : AE E K ta ea) (hb : AE E K tb eb) : AE E K (tOp (rNotInOwn C (spD K 2 g)) ta tb) (evNotInOwn C g ea eb) := by
  intro s Q R q
  refine ha s _ R (Post.bind q shV fun r1 ρ1 x F1 fp1 H1 ok1 T1 rv1 q1 => ?_)
  refine hb (s.to F1 fp1 ρ1 H1) _ ok1 (Post.bind q1 shV fun r2 ρ2 y F2 fp2 H2 ok2 T2 rv2 q2 => ?_)
  by_cases hi : isC C ρ2 r2 = true
  · rw [if_pos hi] at q2
    obtain ⟨a, dx, fs, rfl, h1⟩ := isC_of ok2 rv2 hi
    refine ⟨a, dx, fs, rfl, h1, call_post (E := E0) (s := s.to F2 fp2 ρ2 H2) ok2 (.cons rv2 (.cons (RfR.mono T2.ff rv1) .nil)) rfl ?_⟩
    show Post E0 K (RetR K) _ (callW g [r2, r1] ρ2) _
    cases e : callW g [r2, r1] ρ2 with
    | ex x ρ3 => rw [e] at q2; exact q2.elim
    | bad => rw [e] at q2; exact q2.elim
    | ok r ρ3 =>
      rw [e] at q2
      intro v F3 fp3 H3 ok3 T3 rv3
      match r, q2, rv3 with
      | .d (.bl kk), q2, rv3 =>
        have rv3 : Rp K F3 v (.bl kk) := rv3
        cases rv3
        exact ⟨kk, rfl, q2 _ F3 fp3 H3 ok3 T3 (.bl _)⟩
  · rw [if_neg hi] at q2; exact q2.elim
/-! ### by parts -/
theorem isC_d {ρ : List Sl} {es : List (Str × D)} : isC C ρ (.d (.ins C es)) = true := by simp [isC, vw]
theorem binOwn_ok {g : M Ret} {ρ ρ1 ρ2 : List Sl} {es es' : List (Str × D)} {d : D} (h1 : ea ρ = .ok (.d (.ins C es)) ρ1) (h2 : eb ρ1 = .ok (.d (.ins C es')) ρ2) (hg : Is g [.ins C es, .ins C es'] d) : retD (evBinOwn C g ea eb) ρ = .ok d ρ2 := by
  unfold retD evBinOwn
  rw [h1]; simp only [Out.bind]
  rw [h2]; simp only
  rw [if_pos ⟨isC_d, isC_d⟩, hg.c2]
theorem inOwn_ok {g : M Ret} {ρ ρ1 ρ2 : List Sl} {es : List (Str × D)} {x : D} {b : Bool} (h1 : ea ρ = .ok (.d x) ρ1) (h2 : eb ρ1 = .ok (.d (.ins C es)) ρ2) (hg : Is g [.ins C es, x] (.bl b)) : evInOwn C g ea eb ρ = .ok (.d (.bl b)) ρ2 := by
  unfold evInOwn
  rw [h1]; simp only [Out.bind]
  rw [h2]; simp only
  rw [if_pos isC_d, hg.c2]
theorem notInOwn_ok {g : M Ret} {ρ ρ1 ρ2 : List Sl} {es : List (Str × D)} {x : D} {b : Bool} (h1 : ea ρ = .ok (.d x) ρ1) (h2 : eb ρ1 = .ok (.d (.ins C es)) ρ2) (hg : Is g [.ins C es, x] (.bl b)) : evNotInOwn C g ea eb ρ = .ok (.d (.bl (!b))) ρ2 := by
  unfold evNotInOwn
  rw [h1]; simp only [Out.bind]
  rw [h2]; simp only
  rw [if_pos isC_d, hg.c2]
theorem eqOwn_ok {g : M Ret} {ρ ρ1 ρ2 : List Sl} {es es' : List (Str × D)} {b : Bool} (neg : Bool) (h1 : ea ρ = .ok (.d (.ins C es)) ρ1) (h2 : eb ρ1 = .ok (.d (.ins C es')) ρ2) (hg : Is g [.ins C es, .ins C es'] (.bl b)) : evEqOwn neg C g ea eb ρ = .ok (.d (.bl (if neg then !b else b))) ρ2 := by
  unfold evEqOwn
  rw [h1]; simp only [Out.bind]
  rw [h2]; simp only
  rw [if_pos ⟨isC_d, by simp [isT, vw]⟩, hg.c2]
theorem shOwn_ok {g : M Ret} {ρ ρ1 : List Sl} {es : List (Str × D)} {z : Str} (h1 : ea ρ = .ok (.d (.ins C es)) ρ1) (hg : Is g [.ins C es] (.str z)) : evShOwn C g ea ρ = .ok (.d (.str z)) ρ1 := by
  unfold evShOwn
  rw [h1]; simp only [Out.bind]
  rw [if_pos isC_d, hg.c1]
theorem isC_ok {ρ ρ1 : List Sl} {es : List (Str × D)} (h1 : ea ρ = .ok (.d (.ins C es)) ρ1) : evIsC C ea ρ = .ok (.d (.bl true)) ρ1 := by
  unfold evIsC
  rw [h1]; simp [Out.bind, isT, vw]
theorem isC_no {ρ ρ1 : List Sl} {x : D} {n : String} (h1 : ea ρ = .ok (.d x) ρ1) (hn : tyN x = some n) : evIsC C ea ρ = .ok (.d (.bl false)) ρ1 := by
  unfold evIsC
  rw [h1]; simp only [Out.bind, isT, vw]
  cases x <;> simp_all [tyN]
end
end
end DC
namespace DC
noncomputable section
open PySem PySem.Spec PyProof.Rows L2 G
section
variable {E : XK} {K : PySem.W.Frag}
/-- a, b, c = x, y, z: the first as data, the others new things of one's own -/
def xPar3O (i j l : Nat) (ea : M D) (eb ec : M O) : W := fun ρ => thenS (ea ρ) fun d ρ1 => thenS (eb ρ1) fun e ρ2 => thenS (ec ρ2) fun g ρ3 => if free ρ3 j = true then
    (if free (ρ3.set j (.own false e)) l = true then setD i d ((ρ3.set j (.own false e)).set l (.own false g)) else .bad) else .bad
theorem as_par3O {i j l : Nat} {tx ty tz : TE} {ex : M D} {ey ez : M O} (hij : i ≠ j) (hil : i ≠ l) (h0 : AD E K tx ex) (h1 : AO E K ty ey) (h2 : AO E K tz ez) : AS E K (tPar3 i j l (tCons tx (tCons ty (tCons tz tNil)))) (xPar3O i j l ex ey ez) := by
  intro s0 D R q
  refine h0 s0 _ R (PostS.thenS q fun d0 ρ0 v0 F0 fp0 H0 ok0 T0 rv0 q => ?_)
  refine h1 (s0.to F0 fp0 ρ0 H0) _ ok0 ?_
  show Post E K (RO K) _ (ey ρ0) _
  cases e1 : ey ρ0 with
  | ex x ρ' => rw [e1] at q; exact fun cls d F' fp' H' ok T r => q cls d _ F' fp' H' ok T r
  | bad => rw [e1] at q; exact q
  | ok d ρ1 =>
    rw [e1] at q
    intro v F1 fp1 H1 ok1 T1 rv1
    obtain ⟨p, l1, rfl, ho, hn⟩ := rv1
    simp only [DC.thenS] at q
    refine h2 ((s0.to F0 fp0 ρ0 H0).to F1 fp1 ρ1 H1) _ ok1 ?_
    show Post E K (RO K) _ (ez ρ1) _
    cases e2 : ez ρ1 with
    | ex x ρ2 => rw [e2] at q; exact fun cls dd F' fp' H' ok T r => q cls dd _ F' fp' H' ok (T1.trans T) r
    | bad => rw [e2] at q; exact q
    | ok e ρ2 =>
      rw [e2] at q
      intro w F2 fp2 H2 ok2 T2 rv2
      obtain ⟨p2, l2, rfl, ho2, hn2⟩ := rv2
      refine ⟨_, _, _, rfl, ?_⟩
      dsimp only at q
      split at q
      · rename_i hf
        split at q
        · rename_i hg
          have hl : ∀ a ∈ l1, H1 a ≠ none := fun a ha => ho.has a ha
          have ho' : OwnAt K F2 H2 p d l1 := ho.mono T2.ff fun a ha u hu => T2.st a u hu (hn a ha).2.2
          have hF : ∀ a ∈ l1, F2 a = none := fun a ha => by
            cases z : F2 a with
            | none => rfl
            | some u =>
              rcases T2.fn a u z with y | y | y
              · have this' : F1 a = none := (hn a ha).1
                have y' : F1 a = some u := y
                rw [this'] at y'; cases y'
              · exact absurd y (hl a ha)
              · exact absurd y.ow (hn a ha).2.2
          have hO : ∀ a ∈ l1, ¬ Ow (((s0.to F0 fp0 ρ0 H0).to F1 fp1 ρ1 H1).to F2 fp2 ρ2 H2) a := fun a ha z => by
            rcases T2.nw a z with y | y
            · exact hl a ha y
            · exact (hn a ha).2.2 y
          obtain ⟨ok3, T3⟩ := Ok.mine (i := j) ok2 (T1.trans T2) hf ho' (fun a ha => ⟨hF a ha, (hn a ha).2.1, hO a ha⟩)
          have hO2 : ∀ a ∈ l2, ¬ Ow ((((s0.to F0 fp0 ρ0 H0).to F1 fp1 ρ1 H1).to F2 fp2 ρ2 H2).own j p d l1) a := fun a ha z => by
            rcases ow_own z with z | z
            · exact hl a z (hn2 a ha).2.1
            · exact (hn2 a ha).2.2 z
          obtain ⟨ok4, T4⟩ := Ok.mine (i := l) ok3 T3 hg ho2 (fun a ha => ⟨(hn2 a ha).1, none_of_hs T1.hs (hn2 a ha).2.1, hO2 a ha⟩)
          simp only [setD] at q
          split at q
          · rename_i hi
            obtain ⟨ok5, T5⟩ := Ok.put (i := i) (x := .dat d0) (z := some v0) ok4 hi (.inr ⟨v0, d0, rfl, rfl, Rp.mono T4.ff _ _ rv0⟩)
            have := q _ _ _ _ ok5 (T4.trans T5)
            have cm : ((s0.σ.set i (some v0)).set j (some (.ref p))).set l (some (.ref p2)) = ((s0.σ.set j (some (.ref p))).set l (some (.ref p2))).set i (some v0) := by
              rw [List.set_comm _ _ hij, List.set_comm _ _ hil]
            show D.nx (((s0.σ.set i (some v0)).set j (some (.ref p))).set l (some (.ref p2))) H2
            rw [cm]
            exact this
          · exact q.elim
        · exact q.elim
      · exact q.elim
theorem par3O_nx {i j l : Nat} {ea : M D} {eb ec : M O} {ρ ρ1 ρ2 ρ3 : List Sl} {d : D} {e g : O} (h1 : ea ρ = .ok d ρ1) (h2 : eb ρ1 = .ok e ρ2) (h3 : ec ρ2 = .ok g ρ3) (hf : free ρ3 j = true) (hg : free (ρ3.set j (.own false e)) l = true) (hl : free ((ρ3.set j (.own false e)).set l (.own false g)) i = true) :
    xPar3O i j l ea eb ec ρ = .nx (((ρ3.set j (.own false e)).set l (.own false g)).set i (.dat d)) := by
  unfold xPar3O thenS
  rw [h1]; dsimp only
  rw [h2]; dsimp only
  rw [h3]; simp only [setD]
  rw [if_pos hf, if_pos hg, if_pos hl]
end
end
end DC
namespace Lk
noncomputable section
open PySem PySem.Spec PyProof.Rows L2 G DC
def top (i : Nat) : Stmt := PySem.Challenge.pw_overlapturns_k51_texts_and_equality_of_c.main.body.getD i (.Pass ⟨0, 0, 0, 0⟩)
abbrev s__law_purse : Stmt := top 32
theorem sc__law_purse : FnScope ["script", "k", "rest", "cell", "digits", "x"] ["script", "k"] (defScope s__law_purse) := ⟨rfl, rfl, rfl, by decide +kernel, rfl, by decide +kernel, by decide +kernel⟩
abbrev s__law_pick : Stmt := top 33
theorem sc__law_pick : FnScope ["purse", "many", "seed", "turn", "mixed", "digit"] ["purse", "many"] (defScope s__law_pick) := ⟨rfl, rfl, rfl, by decide +kernel, rfl, by decide +kernel, by decide +kernel⟩
abbrev s_is_integer : Stmt := top 7
theorem sc_is_integer : FnScope ["value"] ["value"] (defScope s_is_integer) := ⟨rfl, rfl, rfl, by decide +kernel, rfl, by decide +kernel, by decide +kernel⟩
abbrev s_is_integer_within : Stmt := top 8
theorem sc_is_integer_within : FnScope ["value", "least", "most"] ["value", "least", "most"] (defScope s_is_integer_within) := ⟨rfl, rfl, rfl, by decide +kernel, rfl, by decide +kernel, by decide +kernel⟩
abbrev s_mask_of : Stmt := top 10
theorem sc_mask_of : FnScope ["length"] ["length"] (defScope s_mask_of) := ⟨rfl, rfl, rfl, by decide +kernel, rfl, by decide +kernel, by decide +kernel⟩
abbrev s_members_of : Stmt := top 11
theorem sc_members_of : FnScope ["bits", "text", "at", "sign"] ["bits"] (defScope s_members_of) := ⟨rfl, rfl, rfl, by decide +kernel, rfl, by decide +kernel, by decide +kernel⟩
abbrev s_primes_of : Stmt := top 13
theorem sc_primes_of : FnScope ["number", "primes", "prime"] ["number"] (defScope s_primes_of) := ⟨rfl, rfl, rfl, by decide +kernel, rfl, by decide +kernel, by decide +kernel⟩
abbrev s_is_again_after : Stmt := top 14
theorem sc_is_again_after : FnScope ["period", "bits", "shorter"] ["period", "bits", "shorter"] (defScope s_is_again_after) := ⟨rfl, rfl, rfl, by decide +kernel, rfl, by decide +kernel, by decide +kernel⟩
abbrev s_least_cycle : Stmt := top 15
theorem sc_least_cycle : FnScope ["period", "bits", "prime"] ["period", "bits"] (defScope s_least_cycle) := ⟨rfl, rfl, rfl, by decide +kernel, rfl, by decide +kernel, by decide +kernel⟩
abbrev s_stretched : Stmt := top 16
theorem sc_stretched : FnScope ["cycle", "length", "width", "bits"] ["cycle", "length"] (defScope s_stretched) := ⟨rfl, rfl, rfl, by decide +kernel, rfl, by decide +kernel, by decide +kernel⟩
abbrev s_least_rhythm : Stmt := top 17
theorem sc_least_rhythm : FnScope ["start", "period", "bits", "again", "unlike"] ["start", "period", "bits"] (defScope s_least_rhythm) := ⟨rfl, rfl, rfl, by decide +kernel, rfl, by decide +kernel, by decide +kernel⟩
abbrev s_is_row_of_members : Stmt := top 27
theorem sc_is_row_of_members : FnScope ["value", "member"] ["value"] (defScope s_is_row_of_members) := ⟨rfl, rfl, rfl, by decide +kernel, rfl, by decide +kernel, by decide +kernel⟩
abbrev s_rhythm_of : Stmt := top 28
theorem sc_rhythm_of : FnScope ["single", "again", "period", "start", "length", "bits", "member", "least", "residue"] ["single", "again", "period"] (defScope s_rhythm_of) := ⟨rfl, rfl, rfl, by decide +kernel, rfl, by decide +kernel, by decide +kernel⟩
abbrev s_Counts____init__ : Stmt := inClass (top 30) 0
theorem sc_Counts____init__ : FnScope ["self", "single", "again", "period"] ["self", "single", "again", "period"] (defScope s_Counts____init__) := ⟨rfl, rfl, rfl, by decide +kernel, rfl, by decide +kernel, by decide +kernel⟩
abbrev s_Counts__start : Stmt := inClass (top 30) 1
theorem sc_Counts__start : FnScope ["self"] ["self"] (defScope s_Counts__start) := ⟨rfl, rfl, rfl, by decide +kernel, rfl, by decide +kernel, by decide +kernel⟩
abbrev s_Counts__period : Stmt := inClass (top 30) 2
theorem sc_Counts__period : FnScope ["self"] ["self"] (defScope s_Counts__period) := ⟨rfl, rfl, rfl, by decide +kernel, rfl, by decide +kernel, by decide +kernel⟩
abbrev s_Counts__members : Stmt := inClass (top 30) 3
theorem sc_Counts__members : FnScope ["self"] ["self"] (defScope s_Counts__members) := ⟨rfl, rfl, rfl, by decide +kernel, rfl, by decide +kernel, by decide +kernel⟩
abbrev s_Counts__endless : Stmt := inClass (top 30) 5
theorem sc_Counts__endless : FnScope ["self"] ["self"] (defScope s_Counts__endless) := ⟨rfl, rfl, rfl, by decide +kernel, rfl, by decide +kernel, by decide +kernel⟩
abbrev s_Counts____eq__ : Stmt := inClass (top 30) 11
theorem sc_Counts____eq__ : FnScope ["self", "other"] ["self", "other"] (defScope s_Counts____eq__) := ⟨rfl, rfl, rfl, by decide +kernel, rfl, by decide +kernel, by decide +kernel⟩
abbrev s_Counts____str__ : Stmt := inClass (top 30) 12
theorem sc_Counts____str__ : FnScope ["self", "told", "member"] ["self"] (defScope s_Counts____str__) := ⟨rfl, rfl, rfl, by decide +kernel, rfl, by decide +kernel, by decide +kernel⟩
abbrev s_Counts____repr__ : Stmt := inClass (top 30) 13
theorem sc_Counts____repr__ : FnScope ["self"] ["self"] (defScope s_Counts____repr__) := ⟨rfl, rfl, rfl, by decide +kernel, rfl, by decide +kernel, by decide +kernel⟩
abbrev s__law_drawn : Stmt := top 34
theorem sc__law_drawn : FnScope ["purse", "wide", "one", "more", "k"] ["purse"] (defScope s__law_drawn) := ⟨rfl, rfl, rfl, by decide +kernel, rfl, by decide +kernel, by decide +kernel⟩
abbrev s__law_due : Stmt := top 35
theorem sc__law_due : FnScope ["number", "one", "more", "by", "each"] ["number", "one", "more", "by"] (defScope s__law_due) := ⟨rfl, rfl, rfl, by decide +kernel, rfl, by decide +kernel, by decide +kernel⟩
abbrev s__law_otherwise : Stmt := top 36
theorem sc__law_otherwise : FnScope ["purse", "one", "more", "by", "times", "single", "again", "each", "up", "turned", "k"] ["purse", "one", "more", "by"] (defScope s__law_otherwise) := ⟨rfl, rfl, rfl, by decide +kernel, rfl, by decide +kernel, by decide +kernel⟩
abbrev s__law_text : Stmt := top 37
theorem sc__law_text : FnScope ["box", "row", "each"] ["box"] (defScope s__law_text) := ⟨rfl, rfl, rfl, by decide +kernel, rfl, by decide +kernel, by decide +kernel⟩
abbrev s__law_right : Stmt := top 38
theorem sc__law_right : FnScope ["purse", "one", "more", "by", "box", "twin", "text", "edge", "at", "other", "same", "later", "k"] ["purse"] (defScope s__law_right) := ⟨rfl, rfl, rfl, by decide +kernel, rfl, by decide +kernel, by decide +kernel⟩
abbrev s_law : Stmt := top 39
theorem sc_law : FnScope ["script", "some", "due", "box", "k"] ["script"] (defScope s_law) := ⟨rfl, rfl, rfl, by decide +kernel, rfl, by decide +kernel, by decide +kernel⟩
structure Txt (mg : Str → Option Value) : Prop where
  b_abs : mg "abs" = none
  b_all : mg "all" = none
  b_any : mg "any" = none
  b_bool : mg "bool" = none
  b_enumerate : mg "enumerate" = none
  b_int : mg "int" = none
  b_isinstance : mg "isinstance" = none
  b_len : mg "len" = none
  b_list : mg "list" = none
  b_max : mg "max" = none
  b_min : mg "min" = none
  b_range : mg "range" = none
  b_repr : mg "repr" = none
  b_set : mg "set" = none
  b_sorted : mg "sorted" = none
  b_str : mg "str" = none
  b_sum : mg "sum" = none
  b_tuple : mg "tuple" = none
  g_MOST_MEMBER : ∃ t, mg "MOST_MEMBER" = some (.int 10000 t)
  g_MOST_PERIOD : ∃ t, mg "MOST_PERIOD" = some (.int 1000 t)
structure TxC (K : PySem.W.Frag) (cCounts : Addr) (mg : Str → Option Value) : Prop extends Txt mg where
  cl_Counts : Cls K cCounts
  n_Counts__rhythm : NoAttr K cCounts "_rhythm"
  sf_Counts : PySem.W.selfFirst K cCounts = true
  g_Counts : mg "Counts" = some (.ref cCounts)
  o_Counts : OwnC K cCounts
section
variable {P : Program} {w : World} {K : PySem.W.Frag} {mg : Str → Option Value} {base : Heap}
/-- _law_purse: script 0, k 1, rest 2, cell 3, digits 4, x 5 -/
def x__law_purse : W :=
    (xSeq (xSet 2 (asD (evOp fAdd (evOp fAdd (evOp fMul (evC (.int 977)) (evVar 1)) (evOp fMul (evC (.int 31)) (evCB fLen (evCons (evVar 0) evNil)))) (evCB fSum (evCons (ofD (iceO (evComp [5] (seqL (iceO (evSlO fSlL (evVar 0) mNoPart (mPart (evC (.int 4)))))) (gSet 5) mTrue (asD (evOp fMod (evCB fInt (evCons (evVar 5) evNil)) (evC (.int 10007))))))) evNil)))))
    (xSeq (xSet 3 (asD (mIf (asB (evOp fLt (evVar 1) (evCB fLen (evCons (evVar 0) evNil)))) (evCB fInt (evCons (evOp fIxL (evVar 0) (evVar 1)) evNil)) (evVar 2))))
    (xSeq (xSet 4 (asD (mIf (asB (evOp fGe (evVar 3) (evOp fPow (evC (.int 10)) (evC (.int 18))))) (evVar 3) (evC (.int 0)))))
    (xRetO (evLst (evConsD (asD (evVar 4)) (evConsD (asD (evOp fMod (evCB fInt (evCons (evOp fAdd (evOp fAdd (evCB fAbs (evCons (evVar 3) evNil)) (evOp fMul (evC (.int 4099)) (evVar 1))) (evC (.int 17))) evNil)) (evC (.int 2147483549)))) (evConsD (asD (evVar 1)) evNilD))))))))
def g__law_purse : M Ret := fnD 4 (x__law_purse)
theorem ok__law_purse {f : Addr} {fd : FuncData} (F : Fun K "_law_purse" "_law_purse" s__law_purse f fd) (T : Txt mg) : FG P w K mg base CX0 1 f fd ["script", "k"] (spD K 2 (g__law_purse)) := by
  refine fgD F sc__law_purse rfl rfl (fun cdv A outer s H E gd hr => ?_)
  have nd := sc__law_purse.nd
  refine ⟨_, (pss_cons (ps_set (i := 2) nd rfl (Or.inl rfl) (pe_op op_add (pe_op op_add (pe_op op_mul pe_int (pv 1)) (pe_op op_mul pe_int (pe_callB call_len_seq (by rfl) T.b_len (by decide +kernel) (pa_cons (pv 0) pa_nil)))) (pe_callB (cr_sum rfl) (by rfl) T.b_sum (by decide +kernel) (pa_cons (pe_lc (own := [("x", 5)]) (g := gName 5) (by rfl) nd (pi_list (pe_slice sl_list (pv 0) po_none (po_some pe_int))) (blkOk_by (own := [("x", 5)]) (N := ["script", "k", "rest", "cell", "digits", "x"]) (sc := defScope s__law_purse) (by decide +kernel)) (fun _ _ _ _ _ => pg_name (i := 5) nd rfl (Or.inl rfl)) (fun _ _ _ _ _ => pts_nil) (fun _ _ _ _ _ => (pe_op op_mod (pe_callTy call_int1 (by rfl) T.b_int (by decide +kernel) (pa_cons (pv 5) pa_nil)) pe_int))) pa_nil))))
    (pss_cons (ps_set (i := 3) nd rfl (Or.inl rfl) (pe_ifExp (pt_cmpR op_lt (pv 1) (pe_callB call_len_seq (by rfl) T.b_len (by decide +kernel) (pa_cons (pv 0) pa_nil)) (nomark _)) (pe_callTy call_int1 (by rfl) T.b_int (by decide +kernel) (pa_cons (pe_ixL K (pv 0) (pv 1)) pa_nil)) (pv 2)))
    (pss_cons (ps_set (i := 4) nd rfl (Or.inl rfl) (pe_ifExp (pt_cmpR op_ge (pv 3) (pe_op op_pow pe_int pe_int) (nomark _)) (pv 3) pe_int))
    (pss_one (ps_ret (pe_lst (pa_cons (pv 4) (pa_cons (pe_op op_mod (pe_callTy call_int1 (by rfl) T.b_int (by decide +kernel) (pa_cons (pe_op op_add (pe_op op_add (pe_callB call_abs (by rfl) T.b_abs (by decide +kernel) (pa_cons (pv 3) pa_nil)) (pe_op op_mul pe_int (pv 1))) pe_int) pa_nil)) pe_int) (pa_cons (pv 1) pa_nil))))))))), ?_⟩
  unfold x__law_purse
  exact (as_seq (as_set (AE.data (ae_op oa_add (ae_op oa_add (ae_op oa_mul (ae_c fun _ => .int _) (ae_var 1)) (ae_op oa_mul (ae_c fun _ => .int _) (ae_cb ca_len (al_cons (ae_var 0) al_nil)))) (ae_cb ca_sum (al_cons (AD.rf (AO.data (ao_comp (vs := [5]) (ai_list (AO.data (ao_sl sn_list (ae_var 0) ap_no (ap_part (ae_c fun _ => .int _))))) (ag_name 5) (gw_name (by simp)) at_yes (AE.data (ae_op oa_mod (ae_cb ca_int (al_cons (ae_var 5) al_nil)) (ae_c fun _ => .int _)))))) al_nil)))))
    (as_seq (as_set (AE.data (ae_if (at_test (ae_op oa_lt (ae_var 1) (ae_cb ca_len (al_cons (ae_var 0) al_nil)))) (ae_cb ca_int (al_cons (ae_op oa_ixL (ae_var 0) (ae_var 1)) al_nil)) (ae_var 2))))
    (as_seq (as_set (AE.data (ae_if (at_test (ae_op oa_ge (ae_var 3) (ae_op oa_pow (ae_c fun _ => .int _) (ae_c fun _ => .int _)))) (ae_var 3) (ae_c fun _ => .int _))))
    (as_retO (ao_lst (ald_cons (AE.data (ae_var 4)) (ald_cons (AE.data (ae_op oa_mod (ae_cb ca_int (al_cons (ae_op oa_add (ae_op oa_add (ae_cb ca_abs (al_cons (ae_var 3) al_nil)) (ae_op oa_mul (ae_c fun _ => .int _) (ae_var 1))) (ae_c fun _ => .int _)) al_nil)) (ae_c fun _ => .int _))) (ald_cons (AE.data (ae_var 1)) ald_nil))))))))

/-- _law_pick: purse 0, many 1, seed 2, turn 3, mixed 4, digit 5 -/
def x__law_pick : W :=
    (xSeq (xAsg (asD (evOp fAdd (evOp fIxL (evVar 0) (evC (.int 2))) (evC (.int 1)))) (gIx 0 (evC (.int 2))))
    (xSeq (xPar 2 3 (asD (evCB fInt (evCons (evOp fIxL (evVar 0) (evC (.int 1))) evNil))) (asD (evOp fIxL (evVar 0) (evC (.int 2)))))
    (xSeq (xSet 4 (asD (evOp fAdd (evOp fAdd (evOp fMul (evVar 2) (evOp fAdd (evOp fMod (evCB fInt (evCons (evVar 2) evNil)) (evC (.int 30059))) (evC (.int 20011)))) (evOp fMul (evOp fMul (evC (.int 60013)) (evVar 3)) (evVar 3))) (evC (.int 7)))))
    (xSeq (xAsg (asD (evOp fMod (evCB fInt (evCons (evVar 4) evNil)) (evC (.int 2147483549)))) (gIx 0 (evC (.int 1))))
    (xSeq (xIf (asB (evOp fGt (evOp fIxL (evVar 0) (evC (.int 0))) (evC (.int 0))))
      (xSeq (xSet 5 (asD (evOp fMod (evCB fInt (evCons (evOp fIxL (evVar 0) (evC (.int 0))) evNil)) (evVar 1))))
        (xSeq (xAsg (asD (evOp fDiv (evCB fInt (evCons (evOp fIxL (evVar 0) (evC (.int 0))) evNil)) (evVar 1))) (gIx 0 (evC (.int 0))))
        (xRet (asD (evVar 5)))))
      xNext)
    (xRet (asD (evOp fMod (evCB fInt (evCons (evOp fDiv (evOp fIxL (evVar 0) (evC (.int 1))) (evC (.int 32))) evNil)) (evVar 1)))))))))
def g__law_pick : M Ret := fnD 4 (x__law_pick)
theorem ok__law_pick {f : Addr} {fd : FuncData} (F : Fun K "_law_pick" "_law_pick" s__law_pick f fd) (T : Txt mg) : FG P w K mg base CX0 1 f fd ["purse", "many"] (spD K 2 (g__law_pick)) := by
  refine fgD F sc__law_pick rfl rfl (fun cdv A outer s H E gd hr => ?_)
  have nd := sc__law_pick.nd
  refine ⟨_, (pss_cons (ps_asg (pe_op op_add (pe_ixL K (pv 0) pe_int) pe_int) (pg_sub (pv 0) pe_int set_list))
    (pss_cons (ps_par (i := 2) (j := 3) (by rfl) nd rfl rfl (by decide) rfl rfl (pa_cons (pe_callTy call_int1 (by rfl) T.b_int (by decide +kernel) (pa_cons (pe_ixL K (pv 0) pe_int) pa_nil)) (pa_cons (pe_ixL K (pv 0) pe_int) pa_nil)) (by rfl))
    (pss_cons (ps_set (i := 4) nd rfl (Or.inl rfl) (pe_op op_add (pe_op op_add (pe_op op_mul (pv 2) (pe_op op_add (pe_op op_mod (pe_callTy call_int1 (by rfl) T.b_int (by decide +kernel) (pa_cons (pv 2) pa_nil)) pe_int) pe_int)) (pe_op op_mul (pe_op op_mul pe_int (pv 3)) (pv 3))) pe_int))
    (pss_cons (ps_asg (pe_op op_mod (pe_callTy call_int1 (by rfl) T.b_int (by decide +kernel) (pa_cons (pv 4) pa_nil)) pe_int) (pg_sub (pv 0) pe_int set_list))
    (pss_cons (ps_if (pt_cmpR op_gt (pe_ixL K (pv 0) pe_int) pe_int (nomark _))
      (pss_cons (ps_set (i := 5) nd rfl (Or.inl rfl) (pe_op op_mod (pe_callTy call_int1 (by rfl) T.b_int (by decide +kernel) (pa_cons (pe_ixL K (pv 0) pe_int) pa_nil)) (pv 1)))
        (pss_cons (ps_asg (pe_op op_fdiv (pe_callTy call_int1 (by rfl) T.b_int (by decide +kernel) (pa_cons (pe_ixL K (pv 0) pe_int) pa_nil)) (pv 1)) (pg_sub (pv 0) pe_int set_list))
        (pss_one (ps_ret (pv 5)))))
      pss_nil)
    (pss_one (ps_ret (pe_op op_mod (pe_callTy call_int1 (by rfl) T.b_int (by decide +kernel) (pa_cons (pe_op op_fdiv (pe_ixL K (pv 0) pe_int) pe_int) pa_nil)) (pv 1))))))))), ?_⟩
  unfold x__law_pick
  exact (as_seq (as_asg (AE.data (ae_op oa_add (ae_op oa_ixL (ae_var 0) (ae_c fun _ => .int _)) (ae_c fun _ => .int _))) (ag_ix (i := 0) (ae_c fun _ => .int _)))
    (as_seq (as_par (AE.data (ae_cb ca_int (al_cons (ae_op oa_ixL (ae_var 0) (ae_c fun _ => .int _)) al_nil))) (AE.data (ae_op oa_ixL (ae_var 0) (ae_c fun _ => .int _))))
    (as_seq (as_set (AE.data (ae_op oa_add (ae_op oa_add (ae_op oa_mul (ae_var 2) (ae_op oa_add (ae_op oa_mod (ae_cb ca_int (al_cons (ae_var 2) al_nil)) (ae_c fun _ => .int _)) (ae_c fun _ => .int _))) (ae_op oa_mul (ae_op oa_mul (ae_c fun _ => .int _) (ae_var 3)) (ae_var 3))) (ae_c fun _ => .int _))))
    (as_seq (as_asg (AE.data (ae_op oa_mod (ae_cb ca_int (al_cons (ae_var 4) al_nil)) (ae_c fun _ => .int _))) (ag_ix (i := 0) (ae_c fun _ => .int _)))
    (as_seq (as_if (at_test (ae_op oa_gt (ae_op oa_ixL (ae_var 0) (ae_c fun _ => .int _)) (ae_c fun _ => .int _)))
      (as_seq (as_set (AE.data (ae_op oa_mod (ae_cb ca_int (al_cons (ae_op oa_ixL (ae_var 0) (ae_c fun _ => .int _)) al_nil)) (ae_var 1))))
        (as_seq (as_asg (AE.data (ae_op oa_div (ae_cb ca_int (al_cons (ae_op oa_ixL (ae_var 0) (ae_c fun _ => .int _)) al_nil)) (ae_var 1))) (ag_ix (i := 0) (ae_c fun _ => .int _)))
        (as_ret (AE.data (ae_var 5)))))
      as_next)
    (as_ret (AE.data (ae_op oa_mod (ae_cb ca_int (al_cons (ae_op oa_div (ae_op oa_ixL (ae_var 0) (ae_c fun _ => .int _)) (ae_c fun _ => .int _)) al_nil)) (ae_var 1)))))))))

/-- is_integer: value 0 -/
def x_is_integer : W :=
    (xRet (asD (vAnd (evIsi ansInt (evVar 0)) (vNot (evIsi (ansOf "bool") (evVar 0))))))
def g_is_integer : M Ret := fnD 0 (x_is_integer)
theorem ok_is_integer {f : Addr} {fd : FuncData} (F : Fun K "is_integer" "is_integer" s_is_integer f fd) (T : Txt mg) : FG P w K mg base CX0 1 f fd ["value"] (spD K 1 (g_is_integer)) := by
  refine fgD F sc_is_integer rfl rfl (fun cdv A outer s H E gd hr => ?_)
  have nd := sc_is_integer.nd
  refine ⟨_, (pss_one (ps_ret (pe_and (pe_callB call_isi (by rfl) T.b_isinstance (by decide +kernel) (pa_cons (pv 0) (pa_cons (pe_bltn (v := .ty "int") (by rfl) T.b_int (by decide +kernel) rfl) pa_nil))) (pe_one (pe_not (pe_callB call_isi (by rfl) T.b_isinstance (by decide +kernel) (pa_cons (pv 0) (pa_cons (pe_bltn (v := .ty "bool") (by rfl) T.b_bool (by decide +kernel) rfl) pa_nil)))))))), ?_⟩
  unfold x_is_integer
  exact (as_ret (AE.data (ae_and (ae_isi ans_int (ae_var 0)) (ae_not (ae_isi ans_bool (ae_var 0))))))

/-- is_integer_within: value 0, least 1, most 2 -/
def x_is_integer_within : W :=
    (xRet (asD (vAnd (ofD (retD (evCall g_is_integer (evCons (ofD (asD (evVar 0))) evNil)))) (evChain fLe fLe (evVar 1) (evVar 0) (evVar 2)))))
def g_is_integer_within : M Ret := fnD 0 (x_is_integer_within)
theorem ok_is_integer_within {f : Addr} {fd : FuncData} (F : Fun K "is_integer_within" "is_integer_within" s_is_integer_within f fd) (T : Txt mg)
    (c_is_integer : Cal P w K mg base "is_integer" 1 ["value"] (spD K 1 g_is_integer)) : FG P w K mg base CX0 2 f fd ["value", "least", "most"] (spD K 3 (g_is_integer_within)) := by
  refine fgD F sc_is_integer_within rfl rfl (fun cdv A outer s H E gd hr => ?_)
  have nd := sc_is_integer_within.nd
  refine ⟨_, (pss_one (ps_ret (pe_and (pe_cg c_is_integer gd (hr.mono (by decide)) (by rfl) (pa_cons (pv 0) pa_nil)) (pe_one (pe_chain op_le op_le (pv 1) (pv 0) (pv 2)))))), ?_⟩
  unfold x_is_integer_within
  exact (as_ret (AE.data (ae_and (AD.rf (AC.data (ac_call (n := 1) (al_cons (AD.rf (AE.data (ae_var 0))) al_nil) (len_cons len_nil)))) (ae_chain oa_le oa_le (ae_var 1) (ae_var 0) (ae_var 2)))))

/-- mask_of: length 0 -/
def x_mask_of : W :=
    (xRet (asD (evOp fSub (evOp fShl (evC (.int 1)) (evVar 0)) (evC (.int 1)))))
def g_mask_of : M Ret := fnD 0 (x_mask_of)
theorem ok_mask_of {f : Addr} {fd : FuncData} (F : Fun K "mask_of" "mask_of" s_mask_of f fd) (T : Txt mg) : FG P w K mg base CX0 1 f fd ["length"] (spD K 1 (g_mask_of)) := by
  refine fgD F sc_mask_of rfl rfl (fun cdv A outer s H E gd hr => ?_)
  have nd := sc_mask_of.nd
  refine ⟨_, (pss_one (ps_ret (pe_op op_sub (pe_op op_shlW pe_int (pv 0)) pe_int))), ?_⟩
  unfold x_mask_of
  exact (as_ret (AE.data (ae_op oa_sub (ae_op oa_shl (ae_c fun _ => .int _) (ae_var 0)) (ae_c fun _ => .int _))))

/-- members_of: bits 0, text 1, at 2, sign 3 -/
def x_members_of : W :=
    (xSeq (xSet 1 (asD (evUn fFmtB (evVar 0))))
    (xRet (iceO (evComp [2, 3] (enumS (asD (evUn fRevS (evVar 1)))) (gTupD 2 (gsCons (gSet 2) (gsCons (gSet 3) gsNil))) (asB (evOp (fEqS false) (evVar 3) (evC (.str "1")))) (asD (evVar 2))))))
def g_members_of : M Ret := fnD 3 (x_members_of)
theorem ok_members_of {f : Addr} {fd : FuncData} (F : Fun K "members_of" "members_of" s_members_of f fd) (T : Txt mg) : FG P w K mg base CX0 1 f fd ["bits"] (spD K 1 (g_members_of)) := by
  refine fgD F sc_members_of rfl rfl (fun cdv A outer s H E gd hr => ?_)
  have nd := sc_members_of.nd
  refine ⟨_, (pss_cons (ps_set (i := 1) nd rfl (Or.inl rfl) (pe_joined1 (pe_fmtB (pv 0) (pe_joined1 pe_str))))
    (pss_one (ps_ret (pe_lc (own := [("at", 2), ("sign", 3)]) (g := gTup K 2 (gCons (gName 2) (gCons (gName 3) gNil))) (by rfl) nd (pi_enumS (by rfl) T.b_enumerate (pa_cons (pe_revS (pv 1)) pa_nil)) (blkOk_by (own := [("at", 2), ("sign", 3)]) (N := ["bits", "text", "at", "sign"]) (sc := defScope s_members_of) (by decide +kernel)) (fun _ _ _ _ _ => (pg_tup (by rfl) (pgs_cons (pg_name (i := 2) nd rfl (Or.inl rfl)) (pgs_cons (pg_name (i := 3) nd rfl (Or.inl rfl)) pgs_nil)))) (fun _ _ _ _ _ => pts_one (pt_cmpR op_eq (pv 3) pe_str (nomark _))) (fun _ _ _ _ _ => (pv 2)))))), ?_⟩
  unfold x_members_of
  exact (as_seq (as_set (AE.data (ae_fmtB (ae_var 0))))
    (as_ret (AO.data (ao_comp (vs := [2, 3]) (ai_enumS (AE.data (ae_revS (ae_var 1)))) (ag_tup (ags_cons (ag_name 2) (ags_cons (ag_name 3) ags_nil))) (gw_tup (gw_cons (gw_name (by simp)) (gw_cons (gw_name (by simp)) gw_nil))) (at_test (ae_op oa_eqS (ae_var 3) (ae_c fun _ => .str _))) (AE.data (ae_var 2))))))

/-- primes_of: number 0, primes 1, prime 2 -/
def x_primes_of : W :=
    (xSeq (xSetO 1 (evLst evNilD))
    (xSeq (xSet 2 (asD (evC (.int 2))))
    (xSeq (whileN (asB (evOp fLe (evOp fMul (evVar 2) (evVar 2)) (evVar 0)))
      (xSeq (xIf (asB (evOp (fEqS false) (evOp fMod (evVar 0) (evVar 2)) (evC (.int 0))))
          (xDrop (evAppend 1 (asD (evVar 2))))
          xNext)
        (xSeq (whileN (asB (evOp (fEqS false) (evOp fMod (evVar 0) (evVar 2)) (evC (.int 0))))
          (xSet 0 (asD (evOp fDiv (evVar 0) (evVar 2)))) 1000000)
        (xAug 2 fAdd (evC (.int 1))))) 1000000)
    (xSeq (xIf (asB (evOp fGt (evVar 0) (evC (.int 1))))
      (xDrop (evAppend 1 (asD (evVar 0))))
      xNext)
    (xRet (asD (evVar 1)))))))
def g_primes_of : M Ret := fnD 2 (x_primes_of)
theorem ok_primes_of {f : Addr} {fd : FuncData} (F : Fun K "primes_of" "primes_of" s_primes_of f fd) (T : Txt mg) : FG P w K mg base CX0 1 f fd ["number"] (spD K 1 (g_primes_of)) := by
  refine fgD F sc_primes_of rfl rfl (fun cdv A outer s H E gd hr => ?_)
  have nd := sc_primes_of.nd
  refine ⟨_, (pss_cons (ps_set (i := 1) nd rfl (Or.inl rfl) (pe_lst pa_nil))
    (pss_cons (ps_set (i := 2) nd rfl (Or.inl rfl) pe_int)
    (pss_cons (ps_while PassesOwn.never (pt_cmpR op_le (pe_op op_mul (pv 2) (pv 2)) (pv 0) (nomark _))
      (pss_cons (ps_if (pt_cmpR op_eq (pe_op op_mod (pv 0) (pv 2)) pe_int (nomark _))
          (pss_one (ps_expr (pe_bm PySem.F.plainAttrs_list PySem.F.slot_list_append PySem.F.type_list_append mt_append (pv 1) (pa_cons (pv 2) pa_nil))))
          pss_nil)
        (pss_cons (ps_while PassesOwn.never (pt_cmpR op_eq (pe_op op_mod (pv 0) (pv 2)) pe_int (nomark _))
          (pss_one (ps_set (i := 0) nd rfl (Or.inl rfl) (pe_op op_fdiv (pv 0) (pv 2)))))
        (pss_one (ps_aug (i := 2) nd rfl (Or.inl rfl) pe_int iop_add)))))
    (pss_cons (ps_if (pt_cmpR op_gt (pv 0) pe_int (nomark _))
      (pss_one (ps_expr (pe_bm PySem.F.plainAttrs_list PySem.F.slot_list_append PySem.F.type_list_append mt_append (pv 1) (pa_cons (pv 0) pa_nil))))
      pss_nil)
    (pss_one (ps_ret (pv 1))))))), ?_⟩
  unfold x_primes_of
  exact (as_seq (as_setO (ao_lst ald_nil))
    (as_seq (as_set (AE.data (ae_c fun _ => .int _)))
    (as_seq (as_while (n := 1000000) (at_test (ae_op oa_le (ae_op oa_mul (ae_var 2) (ae_var 2)) (ae_var 0)))
      (as_seq (as_if (at_test (ae_op oa_eqS (ae_op oa_mod (ae_var 0) (ae_var 2)) (ae_c fun _ => .int _)))
          (as_drop (ae_append (AE.data (ae_var 2))))
          as_next)
        (as_seq (as_while (n := 1000000) (at_test (ae_op oa_eqS (ae_op oa_mod (ae_var 0) (ae_var 2)) (ae_c fun _ => .int _)))
          (as_set (AE.data (ae_op oa_div (ae_var 0) (ae_var 2)))))
        (as_aug (i := 2) oa_add (ae_c fun _ => .int _)))))
    (as_seq (as_if (at_test (ae_op oa_gt (ae_var 0) (ae_c fun _ => .int _)))
      (as_drop (ae_append (AE.data (ae_var 0))))
      as_next)
    (as_ret (AE.data (ae_var 1)))))))

/-- is_again_after: period 0, bits 1, shorter 2 -/
def x_is_again_after : W :=
    (xRet (asD (evOp (fEqS false) (evOp fAnd (evOp fXor (evVar 1) (evOp fShr (evVar 1) (evVar 2))) (ofD (retD (evCall g_mask_of (evCons (ofD (asD (evOp fSub (evVar 0) (evVar 2)))) evNil))))) (evC (.int 0)))))
def g_is_again_after : M Ret := fnD 0 (x_is_again_after)
theorem ok_is_again_after {f : Addr} {fd : FuncData} (F : Fun K "is_again_after" "is_again_after" s_is_again_after f fd) (T : Txt mg)
    (c_mask_of : Cal P w K mg base "mask_of" 1 ["length"] (spD K 1 g_mask_of)) : FG P w K mg base CX0 2 f fd ["period", "bits", "shorter"] (spD K 3 (g_is_again_after)) := by
  refine fgD F sc_is_again_after rfl rfl (fun cdv A outer s H E gd hr => ?_)
  have nd := sc_is_again_after.nd
  refine ⟨_, (pss_one (ps_ret (pe_cmpR op_eq (pe_op op_and (pe_op op_xor (pv 1) (pe_op op_shr (pv 1) (pv 2))) (pe_cg c_mask_of gd (hr.mono (by decide)) (by rfl) (pa_cons (pe_op op_sub (pv 0) (pv 2)) pa_nil))) pe_int (nomark _)))), ?_⟩
  unfold x_is_again_after
  exact (as_ret (AE.data (ae_op oa_eqS (ae_op oa_and (ae_op oa_xor (ae_var 1) (ae_op oa_shr (ae_var 1) (ae_var 2))) (AD.rf (AC.data (ac_call (n := 1) (al_cons (AD.rf (AE.data (ae_op oa_sub (ae_var 0) (ae_var 2)))) al_nil) (len_cons len_nil))))) (ae_c fun _ => .int _))))

/-- least_cycle: period 0, bits 1, prime 2 -/
def x_least_cycle : W :=
    (xSeq (xFor (seqL (retD (evCall g_primes_of (evCons (ofD (asD (evVar 0))) evNil)))) (gSet 2)
      (whileN (mAnd (asB (evOp (fEqS false) (evOp fMod (evVar 0) (evVar 2)) (evC (.int 0)))) (asB (ofD (retD (evCall g_is_again_after (evCons (ofD (asD (evVar 0))) (evCons (ofD (asD (evVar 1))) (evCons (ofD (asD (evOp fDiv (evVar 0) (evVar 2)))) evNil))))))))
          (xSeq (xSet 0 (asD (evOp fDiv (evVar 0) (evVar 2))))
            (xSet 1 (asD (evOp fAnd (evVar 1) (ofD (retD (evCall g_mask_of (evCons (ofD (asD (evVar 0))) evNil)))))))) 1000000))
    (xRet (asD (evTup (evConsD (asD (evVar 0)) (evConsD (asD (evVar 1)) evNilD))))))
def g_least_cycle : M Ret := fnD 1 (x_least_cycle)
theorem ok_least_cycle {f : Addr} {fd : FuncData} (F : Fun K "least_cycle" "least_cycle" s_least_cycle f fd) (T : Txt mg)
    (c_is_again_after : Cal P w K mg base "is_again_after" 2 ["period", "bits", "shorter"] (spD K 3 g_is_again_after))
    (c_mask_of : Cal P w K mg base "mask_of" 1 ["length"] (spD K 1 g_mask_of))
    (c_primes_of : Cal P w K mg base "primes_of" 1 ["number"] (spD K 1 g_primes_of)) : FG P w K mg base CX0 3 f fd ["period", "bits"] (spD K 2 (g_least_cycle)) := by
  refine fgD F sc_least_cycle rfl rfl (fun cdv A outer s H E gd hr => ?_)
  have nd := sc_least_cycle.nd
  refine ⟨_, (pss_cons (ps_for PassesOwn.never rfl (pi_list (pe_cg c_primes_of gd (hr.mono (by decide)) (by rfl) (pa_cons (pv 0) pa_nil))) (pg_name (i := 2) nd rfl (Or.inl rfl))
      (pss_one (ps_while PassesOwn.never (PW.pt (pw_and (pt_cmpR op_eq (pe_op op_mod (pv 0) (pv 2)) pe_int (nomark _)) (pw_and1 (pt_val (pe_cg c_is_again_after gd (hr.mono (by decide)) (by rfl) (pa_cons (pv 0) (pa_cons (pv 1) (pa_cons (pe_op op_fdiv (pv 0) (pv 2)) pa_nil))))))))
          (pss_cons (ps_set (i := 0) nd rfl (Or.inl rfl) (pe_op op_fdiv (pv 0) (pv 2)))
            (pss_one (ps_set (i := 1) nd rfl (Or.inl rfl) (pe_op op_and (pv 1) (pe_cg c_mask_of gd (hr.mono (by decide)) (by rfl) (pa_cons (pv 0) pa_nil)))))))))
    (pss_one (ps_ret (pe_tup (pa_cons (pv 0) (pa_cons (pv 1) pa_nil)))))), ?_⟩
  unfold x_least_cycle
  exact (as_seq (as_for (ai_list (AC.data (ac_call (n := 1) (al_cons (AD.rf (AE.data (ae_var 0))) al_nil) (len_cons len_nil)))) (ag_name 2)
      (as_while (n := 1000000) (at_and (at_test (ae_op oa_eqS (ae_op oa_mod (ae_var 0) (ae_var 2)) (ae_c fun _ => .int _))) (at_B (AD.rf (AC.data (ac_call (n := 3) (al_cons (AD.rf (AE.data (ae_var 0))) (al_cons (AD.rf (AE.data (ae_var 1))) (al_cons (AD.rf (AE.data (ae_op oa_div (ae_var 0) (ae_var 2)))) al_nil))) (len_cons (len_cons (len_cons len_nil))))))))
          (as_seq (as_set (AE.data (ae_op oa_div (ae_var 0) (ae_var 2))))
            (as_set (AE.data (ae_op oa_and (ae_var 1) (AD.rf (AC.data (ac_call (n := 1) (al_cons (AD.rf (AE.data (ae_var 0))) al_nil) (len_cons len_nil))))))))))
    (as_ret (AE.data (ae_tup (ald_cons (AE.data (ae_var 0)) (ald_cons (AE.data (ae_var 1)) ald_nil))))))

/-- stretched: cycle 0, length 1, width 2, bits 3 -/
def x_stretched : W :=
    (xSeq (xAsg (asD (evVar 0)) (gTupD 2 (gsCons (gSet 2) (gsCons (gSet 3) gsNil))))
    (xSeq (whileN (asB (evOp fLt (evVar 2) (evVar 1)))
      (xSeq (xSet 3 (asD (evOp fOr (evVar 3) (evOp fShl (evVar 3) (evVar 2)))))
        (xSet 2 (asD (evOp fAdd (evVar 2) (evVar 2))))) 1000000)
    (xRet (asD (evOp fAnd (evVar 3) (ofD (retD (evCall g_mask_of (evCons (ofD (asD (evVar 1))) evNil)))))))))
def g_stretched : M Ret := fnD 2 (x_stretched)
theorem ok_stretched {f : Addr} {fd : FuncData} (F : Fun K "stretched" "stretched" s_stretched f fd) (T : Txt mg)
    (c_mask_of : Cal P w K mg base "mask_of" 1 ["length"] (spD K 1 g_mask_of)) : FG P w K mg base CX0 2 f fd ["cycle", "length"] (spD K 2 (g_stretched)) := by
  refine fgD F sc_stretched rfl rfl (fun cdv A outer s H E gd hr => ?_)
  have nd := sc_stretched.nd
  refine ⟨_, (pss_cons (ps_asg (pv 0) (pg_tup (by rfl) (pgs_cons (pg_name (i := 2) nd rfl (Or.inl rfl)) (pgs_cons (pg_name (i := 3) nd rfl (Or.inl rfl)) pgs_nil))))
    (pss_cons (ps_while PassesOwn.never (pt_cmpR op_lt (pv 2) (pv 1) (nomark _))
      (pss_cons (ps_set (i := 3) nd rfl (Or.inl rfl) (pe_op op_or (pv 3) (pe_op op_shlW (pv 3) (pv 2))))
        (pss_one (ps_set (i := 2) nd rfl (Or.inl rfl) (pe_op op_add (pv 2) (pv 2))))))
    (pss_one (ps_ret (pe_op op_and (pv 3) (pe_cg c_mask_of gd (hr.mono (by decide)) (by rfl) (pa_cons (pv 1) pa_nil))))))), ?_⟩
  unfold x_stretched
  exact (as_seq (as_asg (AE.data (ae_var 0)) (ag_tup (ags_cons (ag_name 2) (ags_cons (ag_name 3) ags_nil))))
    (as_seq (as_while (n := 1000000) (at_test (ae_op oa_lt (ae_var 2) (ae_var 1)))
      (as_seq (as_set (AE.data (ae_op oa_or (ae_var 3) (ae_op oa_shl (ae_var 3) (ae_var 2)))))
        (as_set (AE.data (ae_op oa_add (ae_var 2) (ae_var 2))))))
    (as_ret (AE.data (ae_op oa_and (ae_var 3) (AD.rf (AC.data (ac_call (n := 1) (al_cons (AD.rf (AE.data (ae_var 1))) al_nil) (len_cons len_nil)))))))))

/-- least_rhythm: start 0, period 1, bits 2, again 3, unlike 4 -/
def x_least_rhythm : W :=
    (xSeq (xAsg (retD (evCall g_least_cycle (evCons (ofD (asD (evVar 1))) (evCons (ofD (asD (evOp fShr (evVar 2) (evVar 0)))) evNil)))) (gTupD 2 (gsCons (gSet 1) (gsCons (gSet 3) gsNil))))
    (xSeq (xSet 2 (asD (evOp fOr (evOp fAnd (evVar 2) (ofD (retD (evCall g_mask_of (evCons (ofD (asD (evVar 0))) evNil))))) (evOp fShl (evVar 3) (evVar 0)))))
    (xSeq (xSet 4 (asD (evOp fAnd (evOp fXor (evVar 2) (evOp fShr (evVar 2) (evVar 1))) (ofD (retD (evCall g_mask_of (evCons (ofD (asD (evVar 0))) evNil)))))))
    (xSeq (xSet 0 (asD (evBits (evVar 4))))
    (xRet (asD (evTup (evConsD (asD (evVar 0)) (evConsD (asD (evVar 1)) (evConsD (asD (evOp fAnd (evVar 2) (ofD (retD (evCall g_mask_of (evCons (ofD (asD (evOp fAdd (evVar 0) (evVar 1)))) evNil)))))) evNilD))))))))))
def g_least_rhythm : M Ret := fnD 2 (x_least_rhythm)
theorem ok_least_rhythm {f : Addr} {fd : FuncData} (F : Fun K "least_rhythm" "least_rhythm" s_least_rhythm f fd) (T : Txt mg)
    (c_least_cycle : Cal P w K mg base "least_cycle" 3 ["period", "bits"] (spD K 2 g_least_cycle))
    (c_mask_of : Cal P w K mg base "mask_of" 1 ["length"] (spD K 1 g_mask_of)) : FG P w K mg base CX0 4 f fd ["start", "period", "bits"] (spD K 3 (g_least_rhythm)) := by
  refine fgD F sc_least_rhythm rfl rfl (fun cdv A outer s H E gd hr => ?_)
  have nd := sc_least_rhythm.nd
  refine ⟨_, (pss_cons (ps_asg (pe_cg c_least_cycle gd (hr.mono (by decide)) (by rfl) (pa_cons (pv 1) (pa_cons (pe_op op_shr (pv 2) (pv 0)) pa_nil))) (pg_tup (by rfl) (pgs_cons (pg_name (i := 1) nd rfl (Or.inl rfl)) (pgs_cons (pg_name (i := 3) nd rfl (Or.inl rfl)) pgs_nil))))
    (pss_cons (ps_set (i := 2) nd rfl (Or.inl rfl) (pe_op op_or (pe_op op_and (pv 2) (pe_cg c_mask_of gd (hr.mono (by decide)) (by rfl) (pa_cons (pv 0) pa_nil))) (pe_op op_shlW (pv 3) (pv 0))))
    (pss_cons (ps_set (i := 4) nd rfl (Or.inl rfl) (pe_op op_and (pe_op op_xor (pv 2) (pe_op op_shr (pv 2) (pv 1))) (pe_cg c_mask_of gd (hr.mono (by decide)) (by rfl) (pa_cons (pv 0) pa_nil))))
    (pss_cons (ps_set (i := 0) nd rfl (Or.inl rfl) (pe_bits (pv 4)))
    (pss_one (ps_ret (pe_tup (pa_cons (pv 0) (pa_cons (pv 1) (pa_cons (pe_op op_and (pv 2) (pe_cg c_mask_of gd (hr.mono (by decide)) (by rfl) (pa_cons (pe_op op_add (pv 0) (pv 1)) pa_nil))) pa_nil)))))))))), ?_⟩
  unfold x_least_rhythm
  exact (as_seq (as_asg (AC.data (ac_call (n := 2) (al_cons (AD.rf (AE.data (ae_var 1))) (al_cons (AD.rf (AE.data (ae_op oa_shr (ae_var 2) (ae_var 0)))) al_nil)) (len_cons (len_cons len_nil)))) (ag_tup (ags_cons (ag_name 1) (ags_cons (ag_name 3) ags_nil))))
    (as_seq (as_set (AE.data (ae_op oa_or (ae_op oa_and (ae_var 2) (AD.rf (AC.data (ac_call (n := 1) (al_cons (AD.rf (AE.data (ae_var 0))) al_nil) (len_cons len_nil))))) (ae_op oa_shl (ae_var 3) (ae_var 0)))))
    (as_seq (as_set (AE.data (ae_op oa_and (ae_op oa_xor (ae_var 2) (ae_op oa_shr (ae_var 2) (ae_var 1))) (AD.rf (AC.data (ac_call (n := 1) (al_cons (AD.rf (AE.data (ae_var 0))) al_nil) (len_cons len_nil)))))))
    (as_seq (as_set (AE.data (ae_bits (ae_var 4))))
    (as_ret (AE.data (ae_tup (ald_cons (AE.data (ae_var 0)) (ald_cons (AE.data (ae_var 1)) (ald_cons (AE.data (ae_op oa_and (ae_var 2) (AD.rf (AC.data (ac_call (n := 1) (al_cons (AD.rf (AE.data (ae_op oa_add (ae_var 0) (ae_var 1)))) al_nil) (len_cons len_nil)))))) ald_nil))))))))))

/-- is_row_of_members: value 0, member 1 -/
def x_is_row_of_members : W :=
    (xRet (asD (vAnd (evIsi (ansOf "tuple") (evVar 0)) (evCB fAll (evCons (ofD (iceO (evComp [1] (seqT (asD (evVar 0))) (gSet 1) mTrue (retD (evCall g_is_integer_within (evCons (ofD (asD (evVar 1))) (evCons (ofD (asD (evC (.int 0)))) (evCons (ofD (asD (evC (.int 10000)))) evNil)))))))) evNil)))))
def g_is_row_of_members : M Ret := fnD 1 (x_is_row_of_members)
theorem ok_is_row_of_members {f : Addr} {fd : FuncData} (F : Fun K "is_row_of_members" "is_row_of_members" s_is_row_of_members f fd) (T : Txt mg)
    (c_is_integer_within : Cal P w K mg base "is_integer_within" 2 ["value", "least", "most"] (spD K 3 g_is_integer_within)) : FG P w K mg base CX0 3 f fd ["value"] (spD K 1 (g_is_row_of_members)) := by
  refine fgD F sc_is_row_of_members rfl rfl (fun cdv A outer s H E gd hr => ?_)
  have nd := sc_is_row_of_members.nd
  refine ⟨_, (pss_one (ps_ret (pe_and (pe_callB call_isi (by rfl) T.b_isinstance (by decide +kernel) (pa_cons (pv 0) (pa_cons (pe_bltn (v := .ty "tuple") (by rfl) T.b_tuple (by decide +kernel) rfl) pa_nil))) (pe_one (pe_callB (cr_all rfl) (by rfl) T.b_all (by decide +kernel) (pa_cons (pe_lc (own := [("member", 1)]) (g := gName 1) (by rfl) nd (pi_tup (pv 0)) (blkOk_by (own := [("member", 1)]) (N := ["value", "member"]) (sc := defScope s_is_row_of_members) (by decide +kernel)) (fun _ _ _ _ _ => pg_name (i := 1) nd rfl (Or.inl rfl)) (fun _ _ _ _ _ => pts_nil) (fun _ _ _ _ _ => (pe_cg c_is_integer_within gd (hr.mono (by decide)) (by rfl) (pa_cons (pv 1) (pa_cons pe_int (pa_cons (pe_gi (by rfl) T.g_MOST_MEMBER) pa_nil)))))) pa_nil)))))), ?_⟩
  unfold x_is_row_of_members
  exact (as_ret (AE.data (ae_and (ae_isi ans_tuple (ae_var 0)) (ae_cb ca_all (al_cons (AD.rf (AO.data (ao_comp (vs := [1]) (ai_tup (AE.data (ae_var 0))) (ag_name 1) (gw_name (by simp)) at_yes (AC.data (ac_call (n := 3) (al_cons (AD.rf (AE.data (ae_var 1))) (al_cons (AD.rf (AE.data (ae_c fun _ => .int _))) (al_cons (AD.rf (AE.data (ae_c fun _ => .int _))) al_nil))) (len_cons (len_cons (len_cons len_nil)))))))) al_nil)))))

/-- rhythm_of: single 0, again 1, period 2, start 3, length 4, bits 5, member 6, least 7, residue 8 -/
def x_rhythm_of : W :=
    (xSeq (xSet 3 (asD (evOp fAdd (evMaxDef (evOp fCatA (evVar 0) (evVar 1)) (asD (evUn fNeg (evC (.int 1))))) (evC (.int 1)))))
    (xSeq (xSet 4 (asD (evOp fAdd (evVar 3) (evVar 2))))
    (xSeq (xSet 5 (asD (evC (.int 0))))
    (xSeq (xFor (seqL (iceO (evSortSetA (evVar 0)))) (gSet 6)
      (xSet 5 (asD (evOp fOr (evVar 5) (evOp fShl (evC (.int 1)) (evVar 6))))))
    (xSeq (xSetO 7 evDct)
    (xSeq (xFor (seqT (asD (evVar 1))) (gSet 6)
      (xSeq (xSet 8 (asD (evOp fMod (evVar 6) (evVar 2))))
        (xPutD 7 (evVar 8) (asD (evCB fMin2 (evCons (evVar 6) (evCons (evGet2 (evVar 7) (evVar 8) (asD (evVar 6))) evNil)))))))
    (xSeq (xFor (seqL (iceO (evCBO fSortI (evCons (ofD (iceO (evVals (evVar 7)))) evNil)))) (gSet 6)
      (xSet 5 (asD (evOp fOr (evVar 5) (evOp fShl (ofD (retD (evCall g_stretched (evCons (ofD (asD (evTup (evConsD (asD (evVar 2)) (evConsD (asD (evC (.int 1))) evNilD))))) (evCons (ofD (asD (evOp fSub (evVar 4) (evVar 6)))) evNil))))) (evVar 6))))))
    (xRet (retD (evCall g_least_rhythm (evCons (ofD (asD (evVar 3))) (evCons (ofD (asD (evVar 2))) (evCons (ofD (asD (evVar 5))) evNil)))))))))))))
def g_rhythm_of : M Ret := fnD 6 (x_rhythm_of)
theorem ok_rhythm_of {f : Addr} {fd : FuncData} (F : Fun K "rhythm_of" "rhythm_of" s_rhythm_of f fd) (T : Txt mg)
    (c_least_rhythm : Cal P w K mg base "least_rhythm" 4 ["start", "period", "bits"] (spD K 3 g_least_rhythm))
    (c_stretched : Cal P w K mg base "stretched" 2 ["cycle", "length"] (spD K 2 g_stretched)) : FG P w K mg base CX0 5 f fd ["single", "again", "period"] (spD K 3 (g_rhythm_of)) := by
  refine fgD F sc_rhythm_of rfl rfl (fun cdv A outer s H E gd hr => ?_)
  have nd := sc_rhythm_of.nd
  refine ⟨_, (pss_cons (ps_set (i := 3) nd rfl (Or.inl rfl) (pe_op op_add (pe_callBK (cr_maxDef rfl (u1 hr)) (by rfl) T.b_max (by decide +kernel) (pa_cons (pe_op op_catA (pv 0) (pv 1)) pa_nil) (pk_cons (pe_un un_neg pe_int) pk_nil)) pe_int))
    (pss_cons (ps_set (i := 4) nd rfl (Or.inl rfl) (pe_op op_add (pv 3) (pv 2)))
    (pss_cons (ps_set (i := 5) nd rfl (Or.inl rfl) pe_int)
    (pss_cons (ps_for PassesOwn.never rfl (pi_list (pe_callB (cr_sortedSetA rfl) (by rfl) T.b_sorted (by decide +kernel) (pa_cons (pe_callTy (cr_setT rfl) (by rfl) T.b_set (by decide +kernel) (pa_cons (pv 0) pa_nil)) pa_nil))) (pg_name (i := 6) nd rfl (Or.inl rfl))
      (pss_one (ps_set (i := 5) nd rfl (Or.inl rfl) (pe_op op_or (pv 5) (pe_op op_shlW pe_int (pv 6))))))
    (pss_cons (ps_set (i := 7) nd rfl (Or.inl rfl) pe_dnewK)
    (pss_cons (ps_for PassesOwn.never rfl (pi_tup (pv 1)) (pg_name (i := 6) nd rfl (Or.inl rfl))
      (pss_cons (ps_set (i := 8) nd rfl (Or.inl rfl) (pe_op op_mod (pv 6) (pv 2)))
        (pss_one (ps_dput (u1 hr) (pv 7) (pv 8) (pe_callB (call_min2 rfl) (by rfl) T.b_min (by decide +kernel) (pa_cons (pv 6) (pa_cons (pe_dget2 (u1 hr) (pv 7) (pv 8) (pv 6) ⟨rfl, rfl, rfl, rfl⟩) pa_nil))) rfl))))
    (pss_cons (ps_for PassesOwn.never rfl (pi_list (pe_callB cr_sortedI (by rfl) T.b_sorted (by decide +kernel) (pa_cons (pe_lstVals rfl (by rfl) T.b_list (pv 7)) pa_nil))) (pg_name (i := 6) nd rfl (Or.inl rfl))
      (pss_one (ps_set (i := 5) nd rfl (Or.inl rfl) (pe_op op_or (pv 5) (pe_op op_shlW (pe_cg c_stretched gd (hr.mono (by decide)) (by rfl) (pa_cons (pe_tup (pa_cons (pv 2) (pa_cons pe_int pa_nil))) (pa_cons (pe_op op_sub (pv 4) (pv 6)) pa_nil))) (pv 6))))))
    (pss_one (ps_ret (pe_cg c_least_rhythm gd (hr.mono (by decide)) (by rfl) (pa_cons (pv 3) (pa_cons (pv 2) (pa_cons (pv 5) pa_nil))))))))))))), ?_⟩
  unfold x_rhythm_of
  exact (as_seq (as_set (AE.data (ae_op oa_add (ae_maxDef (ae_op oa_catA (ae_var 0) (ae_var 1)) (AE.data (ae_un ua_neg (ae_c fun _ => .int _)))) (ae_c fun _ => .int _))))
    (as_seq (as_set (AE.data (ae_op oa_add (ae_var 3) (ae_var 2))))
    (as_seq (as_set (AE.data (ae_c fun _ => .int _)))
    (as_seq (as_for (ai_list (AO.data (ao_sortSetA (ae_var 0)))) (ag_name 6)
      (as_set (AE.data (ae_op oa_or (ae_var 5) (ae_op oa_shl (ae_c fun _ => .int _) (ae_var 6))))))
    (as_seq (as_setO ao_dnew)
    (as_seq (as_for (ai_tup (AE.data (ae_var 1))) (ag_name 6)
      (as_seq (as_set (AE.data (ae_op oa_mod (ae_var 6) (ae_var 2))))
        (as_putD (i := 7) (AE.data (ae_cb ca_min2 (al_cons (ae_var 6) (al_cons (ae_get2 (ae_var 7) (ae_var 8) (AE.data (ae_var 6))) al_nil)))) (ae_var 8))))
    (as_seq (as_for (ai_list (AO.data (ao_cb cn_sortedI (al_cons (AD.rf (AO.data (ao_vals (ae_var 7)))) al_nil)))) (ag_name 6)
      (as_set (AE.data (ae_op oa_or (ae_var 5) (ae_op oa_shl (AD.rf (AC.data (ac_call (n := 2) (al_cons (AD.rf (AE.data (ae_tup (ald_cons (AE.data (ae_var 2)) (ald_cons (AE.data (ae_c fun _ => .int _)) ald_nil))))) (al_cons (AD.rf (AE.data (ae_op oa_sub (ae_var 4) (ae_var 6)))) al_nil)) (len_cons (len_cons len_nil))))) (ae_var 6))))))
    (as_ret (AC.data (ac_call (n := 3) (al_cons (AD.rf (AE.data (ae_var 3))) (al_cons (AD.rf (AE.data (ae_var 2))) (al_cons (AD.rf (AE.data (ae_var 5))) al_nil))) (len_cons (len_cons (len_cons len_nil)))))))))))))

/-- Counts.__init__: self 0, single 1, again 2, period 3 -/
def x_Counts____init__ (cCounts : Addr) : W :=
    (xSeq (xIf (mNot (asB (ofD (retD (evCall g_is_row_of_members (evCons (ofD (asD (evVar 1))) evNil))))))
      xNever
      xNext)
    (xSeq (xIf (mNot (asB (ofD (retD (evCall g_is_row_of_members (evCons (ofD (asD (evVar 2))) evNil))))))
      xNever
      xNext)
    (xSeq (xIf (mNot (asB (ofD (retD (evCall g_is_integer_within (evCons (ofD (asD (evVar 3))) (evCons (ofD (asD (evC (.int 1)))) (evCons (ofD (asD (evC (.int 1000)))) evNil))))))))
      xNever
      xNext)
    (xFld cCounts 0 "_rhythm" (retD (evCall g_rhythm_of (evCons (ofD (asD (evVar 1))) (evCons (ofD (asD (evVar 2))) (evCons (ofD (asD (evVar 3))) evNil)))))))))
def g_Counts____init__ (cCounts : Addr) : M Ret := fnD 0 (x_Counts____init__ cCounts)
theorem ok_Counts____init__ {cCounts : Addr} {f : Addr} {fd : FuncData} {d1 d2 : V} (hd1 : ∀ F, Rp K F d1 (.tup [])) (hd2 : ∀ F, Rp K F d2 (.tup [])) (F : FunD K "__init__" "Counts.__init__" (defArgs s_Counts____init__) (defBody s_Counts____init__) (defScope s_Counts____init__) [d1, d2, (.int 1)] [] f fd) (T : TxC K cCounts mg)
    (c_is_integer_within : Cal P w K mg base "is_integer_within" 2 ["value", "least", "most"] (spD K 3 g_is_integer_within))
    (c_is_row_of_members : Cal P w K mg base "is_row_of_members" 3 ["value"] (spD K 1 g_is_row_of_members))
    (c_rhythm_of : Cal P w K mg base "rhythm_of" 5 ["single", "again", "period"] (spD K 3 g_rhythm_of)) : FG P w K mg base CX0 6 f fd ["self", "single", "again", "period"] (spD K 4 (g_Counts____init__ cCounts)) := by
  refine fgDD F sc_Counts____init__ rfl rfl (fun cdv A outer s H E gd hr => ?_)
  have nd := sc_Counts____init__.nd
  refine ⟨_, (pss_cons (ps_if (pt_not (pt_val (pe_cg c_is_row_of_members gd (hr.mono (by decide)) (by rfl) (pa_cons (pv 1) pa_nil))))
      (pss_one ps_never)
      pss_nil)
    (pss_cons (ps_if (pt_not (pt_val (pe_cg c_is_row_of_members gd (hr.mono (by decide)) (by rfl) (pa_cons (pv 2) pa_nil))))
      (pss_one ps_never)
      pss_nil)
    (pss_cons (ps_if (pt_not (pt_val (pe_cg c_is_integer_within gd (hr.mono (by decide)) (by rfl) (pa_cons (pv 3) (pa_cons pe_int (pa_cons (pe_gi (by rfl) T.g_MOST_PERIOD) pa_nil))))))
      (pss_one ps_never)
      pss_nil)
    (pss_one (ps_fld (pv 0) (pe_cg c_rhythm_of gd (hr.mono (by decide)) (by rfl) (pa_cons (pv 1) (pa_cons (pv 2) (pa_cons (pv 3) pa_nil)))) rfl))))), ?_⟩
  unfold x_Counts____init__
  exact (as_seq (as_if (at_not (at_B (AD.rf (AC.data (ac_call (n := 1) (al_cons (AD.rf (AE.data (ae_var 1))) al_nil) (len_cons len_nil))))))
      as_never
      as_next)
    (as_seq (as_if (at_not (at_B (AD.rf (AC.data (ac_call (n := 1) (al_cons (AD.rf (AE.data (ae_var 2))) al_nil) (len_cons len_nil))))))
      as_never
      as_next)
    (as_seq (as_if (at_not (at_B (AD.rf (AC.data (ac_call (n := 3) (al_cons (AD.rf (AE.data (ae_var 3))) (al_cons (AD.rf (AE.data (ae_c fun _ => .int _))) (al_cons (AD.rf (AE.data (ae_c fun _ => .int _))) al_nil))) (len_cons (len_cons (len_cons len_nil))))))))
      as_never
      as_next)
    (as_fld (i := 0) T.cl_Counts T.n_Counts__rhythm (AC.data (ac_call (n := 3) (al_cons (AD.rf (AE.data (ae_var 1))) (al_cons (AD.rf (AE.data (ae_var 2))) (al_cons (AD.rf (AE.data (ae_var 3))) al_nil))) (len_cons (len_cons (len_cons len_nil)))))))))

/-- Counts.start: self 0 -/
def x_Counts__start (cCounts : Addr) : W :=
    (xRet (asD (evOp fIxT (evFld cCounts "_rhythm" (evVar 0)) (evC (.int 0)))))
def g_Counts__start (cCounts : Addr) : M Ret := fnD 0 (x_Counts__start cCounts)
theorem ok_Counts__start {cCounts : Addr} {f : Addr} {fd : FuncData} (F : Fun K "start" "Counts.start" s_Counts__start f fd) (T : TxC K cCounts mg) : FG P w K mg base CX0 1 f fd ["self"] (spD K 1 (g_Counts__start cCounts)) := by
  refine fgD F sc_Counts__start rfl rfl (fun cdv A outer s H E gd hr => ?_)
  have nd := sc_Counts__start.nd
  refine ⟨_, (pss_one (ps_ret (pe_ixT K (pe_fld (pv 0) rfl) pe_int))), ?_⟩
  unfold x_Counts__start
  exact (as_ret (AE.data (ae_op oa_ixT (ae_fld T.cl_Counts T.n_Counts__rhythm (ae_var 0)) (ae_c fun _ => .int _))))

/-- Counts.period: self 0 -/
def x_Counts__period (cCounts : Addr) : W :=
    (xRet (asD (evOp fIxT (evFld cCounts "_rhythm" (evVar 0)) (evC (.int 1)))))
def g_Counts__period (cCounts : Addr) : M Ret := fnD 0 (x_Counts__period cCounts)
theorem ok_Counts__period {cCounts : Addr} {f : Addr} {fd : FuncData} (F : Fun K "period" "Counts.period" s_Counts__period f fd) (T : TxC K cCounts mg) : FG P w K mg base CX0 1 f fd ["self"] (spD K 1 (g_Counts__period cCounts)) := by
  refine fgD F sc_Counts__period rfl rfl (fun cdv A outer s H E gd hr => ?_)
  have nd := sc_Counts__period.nd
  refine ⟨_, (pss_one (ps_ret (pe_ixT K (pe_fld (pv 0) rfl) pe_int))), ?_⟩
  unfold x_Counts__period
  exact (as_ret (AE.data (ae_op oa_ixT (ae_fld T.cl_Counts T.n_Counts__rhythm (ae_var 0)) (ae_c fun _ => .int _))))

/-- Counts.members: self 0 -/
def x_Counts__members (cCounts : Addr) : W :=
    (xRet (asD (evCB fTupOf (evCons (ofD (retD (evCall g_members_of (evCons (ofD (asD (evOp fIxT (evFld cCounts "_rhythm" (evVar 0)) (evC (.int 2))))) evNil)))) evNil))))
def g_Counts__members (cCounts : Addr) : M Ret := fnD 0 (x_Counts__members cCounts)
theorem ok_Counts__members {cCounts : Addr} {f : Addr} {fd : FuncData} (F : Fun K "members" "Counts.members" s_Counts__members f fd) (T : TxC K cCounts mg)
    (c_members_of : Cal P w K mg base "members_of" 1 ["bits"] (spD K 1 g_members_of)) : FG P w K mg base CX0 2 f fd ["self"] (spD K 1 (g_Counts__members cCounts)) := by
  refine fgD F sc_Counts__members rfl rfl (fun cdv A outer s H E gd hr => ?_)
  have nd := sc_Counts__members.nd
  refine ⟨_, (pss_one (ps_ret (pe_callTy call_tuple_of (by rfl) T.b_tuple (by decide +kernel) (pa_cons (pe_cg c_members_of gd (hr.mono (by decide)) (by rfl) (pa_cons (pe_ixT K (pe_fld (pv 0) rfl) pe_int) pa_nil)) pa_nil)))), ?_⟩
  unfold x_Counts__members
  exact (as_ret (AE.data (ae_cb ca_tupOf (al_cons (AD.rf (AC.data (ac_call (n := 1) (al_cons (AD.rf (AE.data (ae_op oa_ixT (ae_fld T.cl_Counts T.n_Counts__rhythm (ae_var 0)) (ae_c fun _ => .int _)))) al_nil) (len_cons len_nil)))) al_nil))))

/-- Counts.endless: self 0 -/
def x_Counts__endless (cCounts : Addr) : W :=
    (xRet (asD (evOp (fEqS true) (evOp fShr (evOp fIxT (evFld cCounts "_rhythm" (evVar 0)) (evC (.int 2))) (evOp fIxT (evFld cCounts "_rhythm" (evVar 0)) (evC (.int 0)))) (evC (.int 0)))))
def g_Counts__endless (cCounts : Addr) : M Ret := fnD 0 (x_Counts__endless cCounts)
theorem ok_Counts__endless {cCounts : Addr} {f : Addr} {fd : FuncData} (F : Fun K "endless" "Counts.endless" s_Counts__endless f fd) (T : TxC K cCounts mg) : FG P w K mg base CX0 1 f fd ["self"] (spD K 1 (g_Counts__endless cCounts)) := by
  refine fgD F sc_Counts__endless rfl rfl (fun cdv A outer s H E gd hr => ?_)
  have nd := sc_Counts__endless.nd
  refine ⟨_, (pss_one (ps_ret (pe_cmpR op_ne (pe_op op_shr (pe_ixT K (pe_fld (pv 0) rfl) pe_int) (pe_ixT K (pe_fld (pv 0) rfl) pe_int)) pe_int (nomark _)))), ?_⟩
  unfold x_Counts__endless
  exact (as_ret (AE.data (ae_op oa_neS (ae_op oa_shr (ae_op oa_ixT (ae_fld T.cl_Counts T.n_Counts__rhythm (ae_var 0)) (ae_c fun _ => .int _)) (ae_op oa_ixT (ae_fld T.cl_Counts T.n_Counts__rhythm (ae_var 0)) (ae_c fun _ => .int _))) (ae_c fun _ => .int _))))

/-- Counts.__eq__: self 0, other 1 -/
def x_Counts____eq__ (cCounts : Addr) : W :=
    (xRet (asD (vAnd (evIsC cCounts (ofD (asD (evVar 1)))) (evOp (fEqD false) (evFld cCounts "_rhythm" (evVar 0)) (evFld cCounts "_rhythm" (evVar 1))))))
def g_Counts____eq__ (cCounts : Addr) : M Ret := fnD 0 (x_Counts____eq__ cCounts)
theorem ok_Counts____eq__ {cCounts : Addr} {f : Addr} {fd : FuncData} (F : Fun K "__eq__" "Counts.__eq__" s_Counts____eq__ f fd) (T : TxC K cCounts mg) : FG P w K mg base CX0 1 f fd ["self", "other"] (spD K 2 (g_Counts____eq__ cCounts)) := by
  refine fgD F sc_Counts____eq__ rfl rfl (fun cdv A outer s H E gd hr => ?_)
  have nd := sc_Counts____eq__.nd
  refine ⟨_, (pss_one (ps_ret (pe_and (pe_callB call_isi (by rfl) T.b_isinstance (by decide +kernel) (pa_cons (pv 1) (pa_cons (pe_glob (v := .ref cCounts) (by rfl) T.g_Counts rfl) pa_nil))) (pe_one (pe_cmpR (op_eqD hr.units) (pe_fld (pv 0) rfl) (pe_fld (pv 1) rfl) (nomark _)))))), ?_⟩
  unfold x_Counts____eq__
  exact (as_ret (AE.data (ae_and (ae_isC T.o_Counts (AD.rf (AE.data (ae_var 1)))) (ae_op oa_eqD (ae_fld T.cl_Counts T.n_Counts__rhythm (ae_var 0)) (ae_fld T.cl_Counts T.n_Counts__rhythm (ae_var 1))))))

/-- Counts.__str__: self 0, told 1, member 2 -/
def x_Counts____str__ (cCounts : Addr) : W :=
    (xSeq (xSetO 1 (evComp [2] (seqT (retD (evProp cCounts "members" (g_Counts__members cCounts) (evVar 0)))) (gSet 2) mTrue (asD (evCB fStrI (evCons (evVar 2) evNil)))))
    (xSeq (xIf (asB (ofD (retD (evProp cCounts "endless" (g_Counts__endless cCounts) (evVar 0)))))
      (xDrop (evAppend 1 (asD (evJs [(evC (.str ".. from ")), (evUn fFmt (ofD (retD (evProp cCounts "start" (g_Counts__start cCounts) (evVar 0))))), (evC (.str " by ")), (evUn fFmt (ofD (retD (evProp cCounts "period" (g_Counts__period cCounts) (evVar 0)))))]))))
      xNext)
    (xRet (asD (evM1 fJoin (evC (.str " ")) (evOrT (evVar 1) (ofD (iceO (evLst (evConsD (asD (evC (.str "none"))) evNilD))))))))))
def g_Counts____str__ (cCounts : Addr) : M Ret := fnD 2 (x_Counts____str__ cCounts)
theorem ok_Counts____str__ {cCounts : Addr} {f : Addr} {fd : FuncData} (F : Fun K "__str__" "Counts.__str__" s_Counts____str__ f fd) (T : TxC K cCounts mg)
    (p_Counts_endless : PropD P w K mg base cCounts "endless" 1 (spD K 1 (g_Counts__endless cCounts)))
    (p_Counts_members : PropD P w K mg base cCounts "members" 2 (spD K 1 (g_Counts__members cCounts)))
    (p_Counts_period : PropD P w K mg base cCounts "period" 1 (spD K 1 (g_Counts__period cCounts)))
    (p_Counts_start : PropD P w K mg base cCounts "start" 1 (spD K 1 (g_Counts__start cCounts))) : FG P w K mg base CX0 4 f fd ["self"] (spD K 1 (g_Counts____str__ cCounts)) := by
  refine fgD F sc_Counts____str__ rfl rfl (fun cdv A outer s H E gd hr => ?_)
  have nd := sc_Counts____str__.nd
  refine ⟨_, (pss_cons (ps_setLc (i := 1) (own := [("member", 2)]) (g := gName 2) (by rfl) nd rfl rfl (sw_true rfl rfl rfl (by decide +kernel)) (pi_tup (pe_pd T.cl_Counts p_Counts_members gd (hr.mono (by decide)) (pv 0))) (blkOk_by (own := [("member", 2)]) (N := ["self", "told", "member"]) (sc := defScope s_Counts____str__) (by decide +kernel)) (fun _ _ _ _ _ => pg_name (i := 2) nd rfl (Or.inl rfl)) (fun _ _ _ _ _ => pts_nil) (fun _ _ _ _ _ => (pe_callTy call_str_int (by rfl) T.b_str (by decide +kernel) (pa_cons (pv 2) pa_nil))))
    (pss_cons (ps_if (pt_val (pe_pd T.cl_Counts p_Counts_endless gd (hr.mono (by decide)) (pv 0)))
      (pss_one (ps_expr (pe_bm PySem.F.plainAttrs_list PySem.F.slot_list_append PySem.F.type_list_append mt_append (pv 1) (pa_cons (pe_joined (PJ.cons pe_str (PJ.cons (pe_fmt (pe_pd T.cl_Counts p_Counts_start gd (hr.mono (by decide)) (pv 0))) (PJ.cons pe_str (PJ.cons (pe_fmt (pe_pd T.cl_Counts p_Counts_period gd (hr.mono (by decide)) (pv 0))) PJ.nil))))) pa_nil))))
      pss_nil)
    (pss_one (ps_ret (pe_join pe_str (pe_orT (pv 1) (pe_one (pe_lst (pa_cons pe_str pa_nil))))))))), ?_⟩
  unfold x_Counts____str__
  exact (as_seq (as_setO (ao_comp (vs := [2]) (ai_tup (AC.data (ac_prop (ae_var 0)))) (ag_name 2) (gw_name (by simp)) at_yes (AE.data (ae_cb ca_strI (al_cons (ae_var 2) al_nil)))))
    (as_seq (as_if (at_B (AD.rf (AC.data (ac_prop (ae_var 0)))))
      (as_drop (ae_append (AE.data (ae_js (AJ.cons (ae_c fun _ => .str _) (AJ.cons (ae_fmt (AD.rf (AC.data (ac_prop (ae_var 0))))) (AJ.cons (ae_c fun _ => .str _) (AJ.cons (ae_fmt (AD.rf (AC.data (ac_prop (ae_var 0))))) AJ.nil))))))))
      as_next)
    (as_ret (AE.data (ae_m1 ma_join (ae_c fun _ => .str _) (ae_orT (ae_var 1) (AD.rf (AO.data (ao_lst (ald_cons (AE.data (ae_c fun _ => .str _)) ald_nil))))))))))

/-- Counts.__repr__: self 0 -/
def x_Counts____repr__ (cCounts : Addr) : W :=
    (xRet (asD (evJs [(evC (.str "Counts(")), (evUn fFmt (evShOwn cCounts (g_Counts____str__ cCounts) (ofD (asD (evVar 0))))), (evC (.str ")"))])))
def g_Counts____repr__ (cCounts : Addr) : M Ret := fnD 0 (x_Counts____repr__ cCounts)
theorem ok_Counts____repr__ {cCounts : Addr} {f : Addr} {fd : FuncData} (F : Fun K "__repr__" "Counts.__repr__" s_Counts____repr__ f fd) (T : TxC K cCounts mg)
    (t_Counts : StG P w K mg base cCounts 4 (spD K 1 (g_Counts____str__ cCounts))) : FG P w K mg base CX0 7 f fd ["self"] (spD K 1 (g_Counts____repr__ cCounts)) := by
  refine fgD F sc_Counts____repr__ rfl rfl (fun cdv A outer s H E gd hr => ?_)
  have nd := sc_Counts____repr__.nd
  refine ⟨_, (pss_one (ps_ret (pe_joined (PJ.cons pe_str (PJ.cons (pe_fmt (pe_callTy (call_strOwn t_Counts gd (hr.mono (by decide))) (by rfl) T.b_str (by decide +kernel) (pa_cons (pv 0) pa_nil))) (PJ.cons pe_str PJ.nil)))))), ?_⟩
  unfold x_Counts____repr__
  exact (as_ret (AE.data (ae_js (AJ.cons (ae_c fun _ => .str _) (AJ.cons (ae_fmt (ae_shOwn (AD.rf (AE.data (ae_var 0))))) (AJ.cons (ae_c fun _ => .str _) AJ.nil))))))

/-- _law_drawn: purse 0c, wide 1c, one 2, more 3, k 4 -/
def x__law_drawn : W :=
    (xSeq (xSet 1 (asD (evOp fIxL (ofD (iceO (evLst (evConsD (asD (evC (.int 6))) (evConsD (asD (evC (.int 12))) (evConsD (asD (evC (.int 25))) (evConsD (asD (evC (.int 200))) evNilD))))))) (ofD (retD (evCall g__law_pick (evCons (evVar 0) (evCons (ofD (asD (evC (.int 4)))) evNil))))))))
    (xSeq (xSet 2 (iceO (evComp [4] (rng1 (evCons (ofD (retD (evCall g__law_pick (evCons (evVar 0) (evCons (ofD (asD (evC (.int 6)))) evNil))))) evNil)) (gSet 4) mTrue (retD (evCall g__law_pick (evCons (evVar 0) (evCons (ofD (asD (evVar 1))) evNil)))))))
    (xSeq (xSet 3 (iceO (evComp [4] (rng1 (evCons (ofD (retD (evCall g__law_pick (evCons (evVar 0) (evCons (ofD (asD (evC (.int 6)))) evNil))))) evNil)) (gSet 4) mTrue (retD (evCall g__law_pick (evCons (evVar 0) (evCons (ofD (asD (evVar 1))) evNil)))))))
    (xRet (asD (evTup (evConsD (asD (evVar 2)) (evConsD (asD (evVar 3)) (evConsD (asD (evOp fAdd (evC (.int 1)) (ofD (retD (evCall g__law_pick (evCons (evVar 0) (evCons (ofD (asD (evC (.int 9)))) evNil))))))) evNilD)))))))))
def g__law_drawn : M Ret := fnD 4 (x__law_drawn)
theorem ok__law_drawn {f : Addr} {fd : FuncData} (F : Fun K "_law_drawn" "_law_drawn" s__law_drawn f fd) (T : Txt mg)
    (c__law_pick : Cal P w K mg base "_law_pick" 1 ["purse", "many"] (spD K 2 g__law_pick)) : FG P w K mg base CX0 2 f fd ["purse"] (spD K 1 (g__law_drawn)) := by
  refine fgD F sc__law_drawn rfl rfl (fun cdv A outer s H E gd hr => ?_)
  have nd := sc__law_drawn.nd
  refine ⟨_, (pss_cons (ps_set (i := 1) nd rfl (Or.inr rfl) (pe_ixL K (pe_lst (pa_cons pe_int (pa_cons pe_int (pa_cons pe_int (pa_cons pe_int pa_nil))))) (pe_cg c__law_pick gd (hr.mono (by decide)) (by rfl) (pa_cons (pv 0) (pa_cons pe_int pa_nil)))))
    (pss_cons (ps_setLc (i := 2) (own := [("k", 4)]) (g := gName 4) (by rfl) nd rfl rfl (sw_true rfl rfl rfl (by decide +kernel)) (pi_range1 (by rfl) T.b_range (pa_cons (pe_cg c__law_pick gd (hr.mono (by decide)) (by rfl) (pa_cons (pv 0) (pa_cons pe_int pa_nil))) pa_nil)) (blkOk_by (own := [("k", 4)]) (N := ["purse", "wide", "one", "more", "k"]) (sc := defScope s__law_drawn) (by decide +kernel)) (fun _ _ _ _ _ => pg_name (i := 4) nd rfl (Or.inl rfl)) (fun _ _ _ _ _ => pts_nil) (fun _ _ _ _ _ => (pe_cg c__law_pick gd (hr.mono (by decide)) (by rfl) (pa_cons (pv 0) (pa_cons (pv 1) pa_nil)))))
    (pss_cons (ps_setLc (i := 3) (own := [("k", 4)]) (g := gName 4) (by rfl) nd rfl rfl (sw_true rfl rfl rfl (by decide +kernel)) (pi_range1 (by rfl) T.b_range (pa_cons (pe_cg c__law_pick gd (hr.mono (by decide)) (by rfl) (pa_cons (pv 0) (pa_cons pe_int pa_nil))) pa_nil)) (blkOk_by (own := [("k", 4)]) (N := ["purse", "wide", "one", "more", "k"]) (sc := defScope s__law_drawn) (by decide +kernel)) (fun _ _ _ _ _ => pg_name (i := 4) nd rfl (Or.inl rfl)) (fun _ _ _ _ _ => pts_nil) (fun _ _ _ _ _ => (pe_cg c__law_pick gd (hr.mono (by decide)) (by rfl) (pa_cons (pv 0) (pa_cons (pv 1) pa_nil)))))
    (pss_one (ps_ret (pe_tup (pa_cons (pv 2) (pa_cons (pv 3) (pa_cons (pe_op op_add pe_int (pe_cg c__law_pick gd (hr.mono (by decide)) (by rfl) (pa_cons (pv 0) (pa_cons pe_int pa_nil)))) pa_nil))))))))), ?_⟩
  unfold x__law_drawn
  exact (as_seq (as_set (AE.data (ae_op oa_ixL (AD.rf (AO.data (ao_lst (ald_cons (AE.data (ae_c fun _ => .int _)) (ald_cons (AE.data (ae_c fun _ => .int _)) (ald_cons (AE.data (ae_c fun _ => .int _)) (ald_cons (AE.data (ae_c fun _ => .int _)) ald_nil))))))) (AD.rf (AC.data (ac_call (n := 2) (al_cons (ae_var 0) (al_cons (AD.rf (AE.data (ae_c fun _ => .int _))) al_nil)) (len_cons (len_cons len_nil))))))))
    (as_seq (as_set (AO.data (ao_comp (vs := [4]) (ai_rng1 (al_cons (AD.rf (AC.data (ac_call (n := 2) (al_cons (ae_var 0) (al_cons (AD.rf (AE.data (ae_c fun _ => .int _))) al_nil)) (len_cons (len_cons len_nil))))) al_nil)) (ag_name 4) (gw_name (by simp)) at_yes (AC.data (ac_call (n := 2) (al_cons (ae_var 0) (al_cons (AD.rf (AE.data (ae_var 1))) al_nil)) (len_cons (len_cons len_nil)))))))
    (as_seq (as_set (AO.data (ao_comp (vs := [4]) (ai_rng1 (al_cons (AD.rf (AC.data (ac_call (n := 2) (al_cons (ae_var 0) (al_cons (AD.rf (AE.data (ae_c fun _ => .int _))) al_nil)) (len_cons (len_cons len_nil))))) al_nil)) (ag_name 4) (gw_name (by simp)) at_yes (AC.data (ac_call (n := 2) (al_cons (ae_var 0) (al_cons (AD.rf (AE.data (ae_var 1))) al_nil)) (len_cons (len_cons len_nil)))))))
    (as_ret (AE.data (ae_tup (ald_cons (AE.data (ae_var 2)) (ald_cons (AE.data (ae_var 3)) (ald_cons (AE.data (ae_op oa_add (ae_c fun _ => .int _) (AD.rf (AC.data (ac_call (n := 2) (al_cons (ae_var 0) (al_cons (AD.rf (AE.data (ae_c fun _ => .int _))) al_nil)) (len_cons (len_cons len_nil))))))) ald_nil)))))))))

/-- _law_due: number 0c, one 1, more 2, by 3c, each 4 -/
def x__law_due : W :=
    (xSeq (xIf (asB (evOp (fIn false) (evVar 0) (evVar 1)))
      (xRet (asD (evC (.bl true))))
      xNext)
    (xRet (asD (evCB fAny (evCons (ofD (iceO (evComp [4] (seqL (asD (evVar 2))) (gSet 4) mTrue (asD (vAnd (evOp fLe (evVar 4) (evVar 0)) (evOp (fEqS false) (evOp fMod (evCB fInt (evCons (evOp fSub (evVar 0) (evVar 4)) evNil)) (evVar 3)) (evC (.int 0)))))))) evNil)))))
def g__law_due : M Ret := fnD 1 (x__law_due)
theorem ok__law_due {f : Addr} {fd : FuncData} (F : Fun K "_law_due" "_law_due" s__law_due f fd) (T : Txt mg) : FG P w K mg base CX0 1 f fd ["number", "one", "more", "by"] (spD K 4 (g__law_due)) := by
  refine fgD F sc__law_due rfl rfl (fun cdv A outer s H E gd hr => ?_)
  have nd := sc__law_due.nd
  refine ⟨_, (pss_cons (ps_if (pt_cmpR op_in_seq (pv 0) (pv 1) (by rfl))
      (pss_one (ps_ret pe_bl))
      pss_nil)
    (pss_one (ps_ret (pe_callB (cr_any rfl) (by rfl) T.b_any (by decide +kernel) (pa_cons (pe_lc (own := [("each", 4)]) (g := gName 4) (by rfl) nd (pi_list (pv 2)) (blkOk_by (own := [("each", 4)]) (N := ["number", "one", "more", "by", "each"]) (sc := defScope s__law_due) (by decide +kernel)) (fun _ _ _ _ _ => pg_name (i := 4) nd rfl (Or.inl rfl)) (fun _ _ _ _ _ => pts_nil) (fun _ _ _ _ _ => (pe_and (pe_cmpR op_le (pv 4) (pv 0) (nomark _)) (pe_one (pe_cmpR op_eq (pe_op op_mod (pe_callTy call_int1 (by rfl) T.b_int (by decide +kernel) (pa_cons (pe_op op_sub (pv 0) (pv 4)) pa_nil)) (pv 3)) pe_int (nomark _)))))) pa_nil))))), ?_⟩
  unfold x__law_due
  exact (as_seq (as_if (at_test (ae_op (oa_in false) (ae_var 0) (ae_var 1)))
      (as_ret (AE.data (ae_c fun _ => .bl _)))
      as_next)
    (as_ret (AE.data (ae_cb ca_any (al_cons (AD.rf (AO.data (ao_comp (vs := [4]) (ai_list (AE.data (ae_var 2))) (ag_name 4) (gw_name (by simp)) at_yes (AE.data (ae_and (ae_op oa_le (ae_var 4) (ae_var 0)) (ae_op oa_eqS (ae_op oa_mod (ae_cb ca_int (al_cons (ae_op oa_sub (ae_var 0) (ae_var 4)) al_nil)) (ae_var 3)) (ae_c fun _ => .int _))))))) al_nil)))))

/-- _law_otherwise: purse 0, one 1, more 2, by 3c, times 4, single 5, again 6, each 7c, up 8c, turned 9, k 10 -/
def x__law_otherwise (cCounts : Addr) : W :=
    (xSeq (xPar3O 4 5 6 (asD (evOp fAdd (evC (.int 1)) (ofD (retD (evCall g__law_pick (evCons (evVar 0) (evCons (ofD (asD (evC (.int 3)))) evNil))))))) (evCBO fListN (evCons (evVar 1) evNil)) (evLst evNilD))
    (xSeq (xFor (seqL (asD (evVar 2))) (gSet 7)
      (xSeq (xSet 8 (retD (evCall g__law_pick (evCons (evVar 0) (evCons (ofD (asD (evC (.int 3)))) evNil)))))
        (xSeq (xDrop (evExtend 5 (ofD (iceO (evComp [10] (rng1 (evCons (evVar 8) evNil)) (gSet 10) mTrue (asD (evOp fAdd (evVar 7) (evOp fMul (evVar 3) (evVar 10)))))))))
        (xDrop (evExtend 6 (ofD (iceO (evComp [10] (rng1 (evCons (evVar 4) evNil)) (gSet 10) mTrue (asD (evOp fAdd (evVar 7) (evOp fMul (evVar 3) (evOp fAdd (evVar 8) (evVar 10)))))))))))))
    (xSeq (xSet 9 (retD (evCall g__law_pick (evCons (evVar 0) (evCons (ofD (asD (evOp fAdd (evCB fLen (evCons (evVar 6) evNil)) (evC (.int 1))))) evNil)))))
    (xSeq (xSetO 6 (evOpO catL (ofD (iceO (evSlO fSlL (evVar 6) (mPart (evVar 9)) mNoPart))) (ofD (iceO (evSlO fSlL (evVar 6) mNoPart (mPart (evVar 9)))))))
    (xRet (iceO (evMakeD cCounts (g_Counts____init__ cCounts) (fun rs rz => match rs, rz with | [r0, r1, r2], [] => [r0, r1, r2] | _, _ => []) (evCons (ofD (asD (evCB fTupOf (evCons (ofD (iceO (evNewL fRevL (evVar 5)))) evNil)))) (evCons (ofD (asD (evCB fTupOf (evCons (evVar 6) evNil)))) (evCons (ofD (asD (evOp fMul (evVar 3) (evVar 4)))) evNil))) evNil)))))))
def g__law_otherwise (cCounts : Addr) : M Ret := fnD 7 (x__law_otherwise cCounts)
theorem ok__law_otherwise {cCounts : Addr} {f : Addr} {fd : FuncData} {d1 d2 : V} (hd1 : ∀ F, Rp K F d1 (.tup [])) (hd2 : ∀ F, Rp K F d2 (.tup [])) (F : Fun K "_law_otherwise" "_law_otherwise" s__law_otherwise f fd) (T : TxC K cCounts mg)
    (c__law_pick : Cal P w K mg base "_law_pick" 1 ["purse", "many"] (spD K 2 g__law_pick))
    (kd_Counts_3 : MkD P w K mg base "Counts" cCounts 6 ["self", "single", "again", "period"] 3 [] (fun vs zs => pickD [(0, 0), (0, 1), (0, 2)] vs [d1, d2, (.int 1)] zs) (spD K 4 (g_Counts____init__ cCounts))) : FG P w K mg base CX0 8 f fd ["purse", "one", "more", "by"] (spD K 4 (g__law_otherwise cCounts)) := by
  refine fgD F sc__law_otherwise rfl rfl (fun cdv A outer s H E gd hr => ?_)
  have nd := sc__law_otherwise.nd
  refine ⟨_, (pss_cons (ps_par3 (i := 4) (j := 5) (l := 6) (by rfl) nd rfl rfl rfl (by decide) (by decide) (by decide) rfl rfl rfl (pa_cons (pe_op op_add pe_int (pe_cg c__law_pick gd (hr.mono (by decide)) (by rfl) (pa_cons (pv 0) (pa_cons pe_int pa_nil)))) (pa_cons (pe_callTy call_list_of (by rfl) T.b_list (by decide +kernel) (pa_cons (pv 1) pa_nil)) (pa_cons (pe_lst pa_nil) pa_nil))) (by rfl))
    (pss_cons (ps_for PassesOwn.never rfl (pi_list (pv 2)) (pg_name (i := 7) nd rfl (Or.inr rfl))
      (pss_cons (ps_set (i := 8) nd rfl (Or.inr rfl) (pe_cg c__law_pick gd (hr.mono (by decide)) (by rfl) (pa_cons (pv 0) (pa_cons pe_int pa_nil))))
        (pss_cons (ps_expr (pe_bm PySem.F.plainAttrs_list PySem.F.slot_list_extend PySem.F.type_list_extend mt_extend (pv 5) (pa_cons (pe_lc (own := [("k", 10)]) (g := gName 10) (by rfl) nd (pi_range1 (by rfl) T.b_range (pa_cons (pv 8) pa_nil)) (blkOk_by (own := [("k", 10)]) (N := ["purse", "one", "more", "by", "times", "single", "again", "each", "up", "turned", "k"]) (sc := defScope s__law_otherwise) (by decide +kernel)) (fun _ _ _ _ _ => pg_name (i := 10) nd rfl (Or.inl rfl)) (fun _ _ _ _ _ => pts_nil) (fun _ _ _ _ _ => (pe_op op_add (pv 7) (pe_op op_mul (pv 3) (pv 10))))) pa_nil)))
        (pss_one (ps_expr (pe_bm PySem.F.plainAttrs_list PySem.F.slot_list_extend PySem.F.type_list_extend mt_extend (pv 6) (pa_cons (pe_lc (own := [("k", 10)]) (g := gName 10) (by rfl) nd (pi_range1 (by rfl) T.b_range (pa_cons (pv 4) pa_nil)) (blkOk_by (own := [("k", 10)]) (N := ["purse", "one", "more", "by", "times", "single", "again", "each", "up", "turned", "k"]) (sc := defScope s__law_otherwise) (by decide +kernel)) (fun _ _ _ _ _ => pg_name (i := 10) nd rfl (Or.inl rfl)) (fun _ _ _ _ _ => pts_nil) (fun _ _ _ _ _ => (pe_op op_add (pv 7) (pe_op op_mul (pv 3) (pe_op op_add (pv 8) (pv 10)))))) pa_nil)))))))
    (pss_cons (ps_set (i := 9) nd rfl (Or.inl rfl) (pe_cg c__law_pick gd (hr.mono (by decide)) (by rfl) (pa_cons (pv 0) (pa_cons (pe_op op_add (pe_callB call_len_seq (by rfl) T.b_len (by decide +kernel) (pa_cons (pv 6) pa_nil)) pe_int) pa_nil))))
    (pss_cons (ps_set (i := 6) nd rfl (Or.inl rfl) (pe_op op_cat (pe_slice sl_list (pv 6) (po_some (pv 9)) po_none) (pe_slice sl_list (pv 6) po_none (po_some (pv 9)))))
    (pss_one (ps_ret (pe_kd kd_Counts_3 gd (hr.mono (by decide)) (by rfl) (pa_cons (pe_callTy call_tuple_of (by rfl) T.b_tuple (by decide +kernel) (pa_cons (pe_revL (pv 5)) pa_nil)) (pa_cons (pe_callTy call_tuple_of (by rfl) T.b_tuple (by decide +kernel) (pa_cons (pv 6) pa_nil)) (pa_cons (pe_op op_mul (pv 3) (pv 4)) pa_nil)))))))))), ?_⟩
  unfold x__law_otherwise
  exact (as_seq (as_par3O (by decide) (by decide) (AE.data (ae_op oa_add (ae_c fun _ => .int _) (AD.rf (AC.data (ac_call (n := 2) (al_cons (ae_var 0) (al_cons (AD.rf (AE.data (ae_c fun _ => .int _))) al_nil)) (len_cons (len_cons len_nil))))))) (ao_cb cn_list (al_cons (ae_var 1) al_nil)) (ao_lst ald_nil))
    (as_seq (as_for (ai_list (AE.data (ae_var 2))) (ag_name 7)
      (as_seq (as_set (AC.data (ac_call (n := 2) (al_cons (ae_var 0) (al_cons (AD.rf (AE.data (ae_c fun _ => .int _))) al_nil)) (len_cons (len_cons len_nil)))))
        (as_seq (as_drop (ae_extend (AD.rf (AO.data (ao_comp (vs := [10]) (ai_rng1 (al_cons (ae_var 8) al_nil)) (ag_name 10) (gw_name (by simp)) at_yes (AE.data (ae_op oa_add (ae_var 7) (ae_op oa_mul (ae_var 3) (ae_var 10)))))))))
        (as_drop (ae_extend (AD.rf (AO.data (ao_comp (vs := [10]) (ai_rng1 (al_cons (ae_var 4) al_nil)) (ag_name 10) (gw_name (by simp)) at_yes (AE.data (ae_op oa_add (ae_var 7) (ae_op oa_mul (ae_var 3) (ae_op oa_add (ae_var 8) (ae_var 10)))))))))))))
    (as_seq (as_set (AC.data (ac_call (n := 2) (al_cons (ae_var 0) (al_cons (AD.rf (AE.data (ae_op oa_add (ae_cb ca_len (al_cons (ae_var 6) al_nil)) (ae_c fun _ => .int _)))) al_nil)) (len_cons (len_cons len_nil)))))
    (as_seq (as_setO (ao_op on_cat (AD.rf (AO.data (ao_sl sn_list (ae_var 6) (ap_part (ae_var 9)) ap_no))) (AD.rf (AO.data (ao_sl sn_list (ae_var 6) ap_no (ap_part (ae_var 9)))))))
    (as_ret (AO.data (ao_makeD (n := 3) (m := 0) (k := 3) (gR := (fun rs rz => match rs, rz with | [r0, r1, r2], [] => [r0, r1, r2] | _, _ => [])) (by
      intro F σ vs zs rs rz hv hz h1 h2
      obtain ⟨v0, v1, v2, r0, r1, r2, rfl, rfl, a0, a1, a2⟩ := rfs3 hv h1
      obtain ⟨rfl, rfl⟩ := rfs0 hz h2
      exact ⟨.cons a0 (.cons a1 (.cons a2 (.nil))), rfl⟩) (al_cons (AD.rf (AE.data (ae_cb ca_tupOf (al_cons (AD.rf (AO.data (ao_revL (ae_var 5)))) al_nil)))) (al_cons (AD.rf (AE.data (ae_cb ca_tupOf (al_cons (ae_var 6) al_nil)))) (al_cons (AD.rf (AE.data (ae_op oa_mul (ae_var 3) (ae_var 4)))) al_nil))) (len_cons (len_cons (len_cons len_nil))) al_nil len_nil)))))))

/-- _law_text: box 0, row 1, each 2 -/
def x__law_text (cCounts : Addr) : W :=
    (xSeq (xIf (asB (evOp (fEqD false) (ofD (retD (evProp cCounts "members" (g_Counts__members cCounts) (evVar 0)))) (evTup evNilD)))
      (xRet (asD (evC (.str "none"))))
      xNext)
    (xSeq (xSet 1 (asD (evM1 fJoin (evC (.str " ")) (ofD (iceO (evComp [2] (seqT (retD (evProp cCounts "members" (g_Counts__members cCounts) (evVar 0)))) (gSet 2) mTrue (asD (evCB fStrI (evCons (evVar 2) evNil)))))))))
    (xRet (asD (mIf (asB (ofD (retD (evProp cCounts "endless" (g_Counts__endless cCounts) (evVar 0))))) (evOp fCatS (evOp fCatS (evOp fCatS (evOp fCatS (evVar 1) (evC (.str " .. from "))) (evCB fStrI (evCons (ofD (retD (evProp cCounts "start" (g_Counts__start cCounts) (evVar 0)))) evNil))) (evC (.str " by "))) (evCB fStrI (evCons (ofD (retD (evProp cCounts "period" (g_Counts__period cCounts) (evVar 0)))) evNil))) (evVar 1))))))
def g__law_text (cCounts : Addr) : M Ret := fnD 2 (x__law_text cCounts)
theorem ok__law_text {cCounts : Addr} {f : Addr} {fd : FuncData} (F : Fun K "_law_text" "_law_text" s__law_text f fd) (T : TxC K cCounts mg)
    (p_Counts_endless : PropD P w K mg base cCounts "endless" 1 (spD K 1 (g_Counts__endless cCounts)))
    (p_Counts_members : PropD P w K mg base cCounts "members" 2 (spD K 1 (g_Counts__members cCounts)))
    (p_Counts_period : PropD P w K mg base cCounts "period" 1 (spD K 1 (g_Counts__period cCounts)))
    (p_Counts_start : PropD P w K mg base cCounts "start" 1 (spD K 1 (g_Counts__start cCounts))) : FG P w K mg base CX0 4 f fd ["box"] (spD K 1 (g__law_text cCounts)) := by
  refine fgD F sc__law_text rfl rfl (fun cdv A outer s H E gd hr => ?_)
  have nd := sc__law_text.nd
  refine ⟨_, (pss_cons (ps_if (pt_cmpR (op_eqD hr.units) (pe_pd T.cl_Counts p_Counts_members gd (hr.mono (by decide)) (pv 0)) (pe_tup pa_nil) (nomark _))
      (pss_one (ps_ret pe_str))
      pss_nil)
    (pss_cons (ps_set (i := 1) nd rfl (Or.inl rfl) (pe_join pe_str (pe_lc (own := [("each", 2)]) (g := gName 2) (by rfl) nd (pi_tup (pe_pd T.cl_Counts p_Counts_members gd (hr.mono (by decide)) (pv 0))) (blkOk_by (own := [("each", 2)]) (N := ["box", "row", "each"]) (sc := defScope s__law_text) (by decide +kernel)) (fun _ _ _ _ _ => pg_name (i := 2) nd rfl (Or.inl rfl)) (fun _ _ _ _ _ => pts_nil) (fun _ _ _ _ _ => (pe_callTy call_str_int (by rfl) T.b_str (by decide +kernel) (pa_cons (pv 2) pa_nil))))))
    (pss_one (ps_ret (pe_ifExp (pt_val (pe_pd T.cl_Counts p_Counts_endless gd (hr.mono (by decide)) (pv 0))) (pe_op op_add_str (pe_op op_add_str (pe_op op_add_str (pe_op op_add_str (pv 1) pe_str) (pe_callTy call_str_int (by rfl) T.b_str (by decide +kernel) (pa_cons (pe_pd T.cl_Counts p_Counts_start gd (hr.mono (by decide)) (pv 0)) pa_nil))) pe_str) (pe_callTy call_str_int (by rfl) T.b_str (by decide +kernel) (pa_cons (pe_pd T.cl_Counts p_Counts_period gd (hr.mono (by decide)) (pv 0)) pa_nil))) (pv 1)))))), ?_⟩
  unfold x__law_text
  exact (as_seq (as_if (at_test (ae_op oa_eqD (AD.rf (AC.data (ac_prop (ae_var 0)))) (ae_tup ald_nil)))
      (as_ret (AE.data (ae_c fun _ => .str _)))
      as_next)
    (as_seq (as_set (AE.data (ae_m1 ma_join (ae_c fun _ => .str _) (AD.rf (AO.data (ao_comp (vs := [2]) (ai_tup (AC.data (ac_prop (ae_var 0)))) (ag_name 2) (gw_name (by simp)) at_yes (AE.data (ae_cb ca_strI (al_cons (ae_var 2) al_nil)))))))))
    (as_ret (AE.data (ae_if (at_B (AD.rf (AC.data (ac_prop (ae_var 0))))) (ae_op oa_catS (ae_op oa_catS (ae_op oa_catS (ae_op oa_catS (ae_var 1) (ae_c fun _ => .str _)) (ae_cb ca_strI (al_cons (AD.rf (AC.data (ac_prop (ae_var 0)))) al_nil))) (ae_c fun _ => .str _)) (ae_cb ca_strI (al_cons (AD.rf (AC.data (ac_prop (ae_var 0)))) al_nil))) (ae_var 1))))))

/-- _law_right: purse 0, one 1c, more 2c, by 3c, box 4, twin 5, text 6, edge 7, at 8c, other 9, same 10, later 11, k 12 -/
def x__law_right (cCounts : Addr) : W :=
    (xSeq (xAsg (retD (evCall g__law_drawn (evCons (evVar 0) evNil))) (gTupD 3 (gsCons (gSet 1) (gsCons (gSet 2) (gsCons (gSet 3) gsNil)))))
    (xSeq (xPar 4 5 (iceO (evMakeD cCounts (g_Counts____init__ cCounts) (fun rs rz => match rs, rz with | [r0, r1, r2], [] => [r0, r1, r2] | _, _ => []) (evCons (ofD (asD (evCB fTupOf (evCons (evVar 1) evNil)))) (evCons (ofD (asD (evCB fTupOf (evCons (evVar 2) evNil)))) (evCons (ofD (asD (evVar 3))) evNil))) evNil)) (retD (evCall (g__law_otherwise cCounts) (evCons (evVar 0) (evCons (ofD (asD (evVar 1))) (evCons (ofD (asD (evVar 2))) (evCons (ofD (asD (evVar 3))) evNil)))))))
    (xSeq (xIf (mOr (mNot (asB (evEqOwn false cCounts (g_Counts____eq__ cCounts) (ofD (asD (evVar 4))) (ofD (asD (evVar 5)))))) (mOr (asB (evEqOwn true cCounts (g_Counts____eq__ cCounts) (ofD (asD (evVar 4))) (ofD (asD (evVar 5))))) (mOr (mNot (asB (evEqOwn false cCounts (g_Counts____eq__ cCounts) (ofD (asD (evVar 5))) (ofD (asD (evVar 4)))))) (mOr (asB (evEqOwn true cCounts (g_Counts____eq__ cCounts) (ofD (asD (evVar 5))) (ofD (asD (evVar 4))))) (mNot (asB (evBoolOwn cCounts (ofD (asD (evVar 4))))))))))
      (xRet (asD (evC (.bl false))))
      xNext)
    (xSeq (xSet 6 (retD (evCall (g__law_text cCounts) (evCons (ofD (asD (evVar 4))) evNil))))
    (xSeq (xIf (asB (evOp (fEqD true) (ofD (iceO (evLst (evConsD (asD (evShOwn cCounts (g_Counts____str__ cCounts) (ofD (asD (evVar 4))))) (evConsD (asD (evShOwn cCounts (g_Counts____str__ cCounts) (ofD (asD (evVar 5))))) (evConsD (asD (evShOwn cCounts (g_Counts____repr__ cCounts) (ofD (asD (evVar 4))))) (evConsD (asD (evShOwn cCounts (g_Counts____repr__ cCounts) (ofD (asD (evVar 5))))) evNilD))))))) (ofD (iceO (evLst (evConsD (asD (evVar 6)) (evConsD (asD (evVar 6)) (evConsD (asD (evOp fCatS (evOp fCatS (evC (.str "Counts(")) (evVar 6)) (evC (.str ")")))) (evConsD (asD (evOp fCatS (evOp fCatS (evC (.str "Counts(")) (evVar 6)) (evC (.str ")")))) evNilD)))))))))
      (xRet (asD (evC (.bl false))))
      xNext)
    (xSeq (xSet 7 (asD (evOp fAdd (evC (.int 1)) (evCB fMaxL (evCons (ofD (iceO (evOpO catL (ofD (iceO (evOpO catL (ofD (iceO (evLst (evConsD (asD (evC (.int 0))) evNilD)))) (evVar 1)))) (evVar 2)))) evNil)))))
    (xSeq (xSet 8 (retD (evCall g__law_pick (evCons (evVar 0) (evCons (ofD (asD (evOp fAdd (evVar 7) (evVar 3)))) evNil)))))
    (xSeq (xSet 9 (iceO (evMakeD cCounts (g_Counts____init__ cCounts) (fun rs rz => match rs, rz with | [r0, r1, r2], [] => [r0, r1, r2] | _, _ => []) (evCons (ofD (asD (evCB fTupOf (evCons (ofD (iceO (evOpO catL (evVar 1) (ofD (iceO (evLst (evConsD (asD (evVar 8)) evNilD))))))) evNil)))) (evCons (ofD (asD (evCB fTupOf (evCons (evVar 2) evNil)))) (evCons (ofD (asD (evVar 3))) evNil))) evNil)))
    (xSeq (xSet 10 (retD (evCall g__law_due (evCons (ofD (asD (evVar 8))) (evCons (ofD (asD (evVar 1))) (evCons (ofD (asD (evVar 2))) (evCons (ofD (asD (evVar 3))) evNil)))))))
    (xSeq (xIf (mOr (asB (evOp (fEqS true) (evEqOwn false cCounts (g_Counts____eq__ cCounts) (ofD (asD (evVar 4))) (ofD (asD (evVar 9)))) (evVar 10))) (mOr (asB (evOp (fEqS false) (evEqOwn true cCounts (g_Counts____eq__ cCounts) (ofD (asD (evVar 9))) (ofD (asD (evVar 4)))) (evVar 10))) (asB (evOp (fEqS true) (evOp (fEqS false) (evShOwn cCounts (g_Counts____str__ cCounts) (ofD (asD (evVar 9)))) (evVar 6)) (evVar 10)))))
      (xRet (asD (evC (.bl false))))
      xNext)
    (xSeq (xSet 11 (iceO (evMakeD cCounts (g_Counts____init__ cCounts) (fun rs rz => match rs, rz with | [r0, r1, r2], [] => [r0, r1, r2] | _, _ => []) (evCons (ofD (asD (evCB fTupOf (evCons (evVar 1) evNil)))) (evCons (ofD (asD (evCB fTupOf (evCons (ofD (iceO (evOpO catL (evVar 2) (ofD (iceO (evLst (evConsD (asD (evVar 8)) evNilD))))))) evNil)))) (evCons (ofD (asD (evVar 3))) evNil))) evNil)))
    (xSeq (xSet 10 (asD (evCB fAll (evCons (ofD (iceO (evComp [12] (rng1 (evCons (evOp fAdd (evVar 7) (evC (.int 1))) evNil)) (gSet 12) mTrue (retD (evCall g__law_due (evCons (ofD (asD (evOp fAdd (evVar 8) (evOp fMul (evVar 3) (evVar 12))))) (evCons (ofD (asD (evVar 1))) (evCons (ofD (asD (evVar 2))) (evCons (ofD (asD (evVar 3))) evNil))))))))) evNil))))
    (xSeq (xIf (mOr (asB (evOp (fEqS true) (evEqOwn false cCounts (g_Counts____eq__ cCounts) (ofD (asD (evVar 11))) (ofD (asD (evVar 4)))) (evVar 10))) (asB (evOp (fEqS true) (evOp (fEqS false) (evShOwn cCounts (g_Counts____str__ cCounts) (ofD (asD (evVar 11)))) (evVar 6)) (evVar 10))))
      (xRet (asD (evC (.bl false))))
      xNext)
    (xRet (asD (evOp (fEqD false) (ofD (iceO (evLst (evConsD (asD (evEqOwn false cCounts (g_Counts____eq__ cCounts) (ofD (asD (evVar 4))) (ofD (asD (evC (.int 5)))))) (evConsD (asD (evEqOwn false cCounts (g_Counts____eq__ cCounts) (ofD (asD (evVar 4))) (ofD (asD (evVar 6))))) (evConsD (asD (evEqOwn false cCounts (g_Counts____eq__ cCounts) (ofD (asD (evVar 4))) (ofD (asD (evTup (evConsD (asD (evVar 1)) (evConsD (asD (evVar 2)) evNilD))))))) (evConsD (asD (evEqOwn false cCounts (g_Counts____eq__ cCounts) (ofD (asD (evVar 4))) (ofD (asD (evC .non))))) (evConsD (asD (evEqOwn true cCounts (g_Counts____eq__ cCounts) (ofD (asD (evVar 4))) (ofD (retD (evProp cCounts "members" (g_Counts__members cCounts) (evVar 4)))))) evNilD)))))))) (ofD (iceO (evOpO catL (ofD (iceO (evOpO repL (ofD (iceO (evLst (evConsD (asD (evC (.bl false))) evNilD)))) (evC (.int 4))))) (ofD (iceO (evLst (evConsD (asD (evC (.bl true))) evNilD)))))))))))))))))))))))
def g__law_right (cCounts : Addr) : M Ret := fnD 12 (x__law_right cCounts)
theorem ok__law_right {cCounts : Addr} {f : Addr} {fd : FuncData} {d1 d2 : V} (hd1 : ∀ F, Rp K F d1 (.tup [])) (hd2 : ∀ F, Rp K F d2 (.tup [])) (F : Fun K "_law_right" "_law_right" s__law_right f fd) (T : TxC K cCounts mg)
    (p_Counts_members : PropD P w K mg base cCounts "members" 2 (spD K 1 (g_Counts__members cCounts)))
    (c__law_drawn : Cal P w K mg base "_law_drawn" 2 ["purse"] (spD K 1 g__law_drawn))
    (c__law_due : Cal P w K mg base "_law_due" 1 ["number", "one", "more", "by"] (spD K 4 g__law_due))
    (c__law_otherwise : Cal P w K mg base "_law_otherwise" 8 ["purse", "one", "more", "by"] (spD K 4 (g__law_otherwise cCounts)))
    (c__law_pick : Cal P w K mg base "_law_pick" 1 ["purse", "many"] (spD K 2 g__law_pick))
    (c__law_text : Cal P w K mg base "_law_text" 4 ["box"] (spD K 1 (g__law_text cCounts)))
    (e_Counts : EqG P w K mg base cCounts 1 (spD K 2 (g_Counts____eq__ cCounts)))
    (kd_Counts_3 : MkD P w K mg base "Counts" cCounts 6 ["self", "single", "again", "period"] 3 [] (fun vs zs => pickD [(0, 0), (0, 1), (0, 2)] vs [d1, d2, (.int 1)] zs) (spD K 4 (g_Counts____init__ cCounts)))
    (r_Counts : ReG P w K mg base cCounts 7 (spD K 1 (g_Counts____repr__ cCounts)))
    (t_Counts : StG P w K mg base cCounts 4 (spD K 1 (g_Counts____str__ cCounts))) : FG P w K mg base CX0 9 f fd ["purse"] (spD K 1 (g__law_right cCounts)) := by
  refine fgD F sc__law_right rfl rfl (fun cdv A outer s H E gd hr => ?_)
  have nd := sc__law_right.nd
  refine ⟨_, (pss_cons (ps_asg (pe_cg c__law_drawn gd (hr.mono (by decide)) (by rfl) (pa_cons (pv 0) pa_nil)) (pg_tup (by rfl) (pgs_cons (pg_name (i := 1) nd rfl (Or.inr rfl)) (pgs_cons (pg_name (i := 2) nd rfl (Or.inr rfl)) (pgs_cons (pg_name (i := 3) nd rfl (Or.inr rfl)) pgs_nil)))))
    (pss_cons (ps_par (i := 4) (j := 5) (by rfl) nd rfl rfl (by decide) rfl rfl (pa_cons (pe_kd kd_Counts_3 gd (hr.mono (by decide)) (by rfl) (pa_cons (pe_callTy call_tuple_of (by rfl) T.b_tuple (by decide +kernel) (pa_cons (pv 1) pa_nil)) (pa_cons (pe_callTy call_tuple_of (by rfl) T.b_tuple (by decide +kernel) (pa_cons (pv 2) pa_nil)) (pa_cons (pv 3) pa_nil)))) (pa_cons (pe_cg c__law_otherwise gd (hr.mono (by decide)) (by rfl) (pa_cons (pv 0) (pa_cons (pv 1) (pa_cons (pv 2) (pa_cons (pv 3) pa_nil))))) pa_nil)) (by rfl))
    (pss_cons (ps_if (PW.pt (pw_or (pt_not (pt_eqOwn e_Counts gd hr (pv 4) (pv 5))) (pw_or (pt_neOwn e_Counts ⟨T.o_Counts.ne, T.o_Counts.mro⟩ gd hr (pv 4) (pv 5)) (pw_or (pt_not (pt_eqOwn e_Counts gd hr (pv 5) (pv 4))) (pw_or (pt_neOwn e_Counts ⟨T.o_Counts.ne, T.o_Counts.mro⟩ gd hr (pv 5) (pv 4)) (pw_or1 (pt_not (pt_val (pe_callTy (call_boolI T.o_Counts.nb T.o_Counts.nl) (by rfl) T.b_bool (by decide +kernel) (pa_cons (pv 4) pa_nil))))))))))
      (pss_one (ps_ret pe_bl))
      pss_nil)
    (pss_cons (ps_set (i := 6) nd rfl (Or.inl rfl) (pe_cg c__law_text gd (hr.mono (by decide)) (by rfl) (pa_cons (pv 4) pa_nil)))
    (pss_cons (ps_if (pt_cmpR (op_neD hr.units) (pe_lst (pa_cons (pe_callTy (call_strOwn t_Counts gd (hr.mono (by decide))) (by rfl) T.b_str (by decide +kernel) (pa_cons (pv 4) pa_nil)) (pa_cons (pe_callTy (call_strOwn t_Counts gd (hr.mono (by decide))) (by rfl) T.b_str (by decide +kernel) (pa_cons (pv 5) pa_nil)) (pa_cons (pe_callB (call_reprOwn r_Counts gd (hr.mono (by decide))) (by rfl) T.b_repr (by decide +kernel) (pa_cons (pv 4) pa_nil)) (pa_cons (pe_callB (call_reprOwn r_Counts gd (hr.mono (by decide))) (by rfl) T.b_repr (by decide +kernel) (pa_cons (pv 5) pa_nil)) pa_nil))))) (pe_lst (pa_cons (pv 6) (pa_cons (pv 6) (pa_cons (pe_op op_add_str (pe_op op_add_str pe_str (pv 6)) pe_str) (pa_cons (pe_op op_add_str (pe_op op_add_str pe_str (pv 6)) pe_str) pa_nil))))) (nomark _))
      (pss_one (ps_ret pe_bl))
      pss_nil)
    (pss_cons (ps_set (i := 7) nd rfl (Or.inl rfl) (pe_op op_add pe_int (pe_callB (cr_max rfl) (by rfl) T.b_max (by decide +kernel) (pa_cons (pe_op op_cat (pe_op op_cat (pe_lst (pa_cons pe_int pa_nil)) (pv 1)) (pv 2)) pa_nil))))
    (pss_cons (ps_set (i := 8) nd rfl (Or.inr rfl) (pe_cg c__law_pick gd (hr.mono (by decide)) (by rfl) (pa_cons (pv 0) (pa_cons (pe_op op_add (pv 7) (pv 3)) pa_nil))))
    (pss_cons (ps_set (i := 9) nd rfl (Or.inl rfl) (pe_kd kd_Counts_3 gd (hr.mono (by decide)) (by rfl) (pa_cons (pe_callTy call_tuple_of (by rfl) T.b_tuple (by decide +kernel) (pa_cons (pe_op op_cat (pv 1) (pe_lst (pa_cons (pv 8) pa_nil))) pa_nil)) (pa_cons (pe_callTy call_tuple_of (by rfl) T.b_tuple (by decide +kernel) (pa_cons (pv 2) pa_nil)) (pa_cons (pv 3) pa_nil)))))
    (pss_cons (ps_set (i := 10) nd rfl (Or.inl rfl) (pe_cg c__law_due gd (hr.mono (by decide)) (by rfl) (pa_cons (pv 8) (pa_cons (pv 1) (pa_cons (pv 2) (pa_cons (pv 3) pa_nil))))))
    (pss_cons (ps_if (PW.pt (pw_or (pt_cmpR op_ne (pe_eqOwn e_Counts gd hr (pv 4) (pv 9)) (pv 10) (nomark _)) (pw_or (pt_cmpR op_eq (pe_neOwn e_Counts ⟨T.o_Counts.ne, T.o_Counts.mro⟩ gd hr (pv 9) (pv 4)) (pv 10) (nomark _)) (pw_or1 (pt_cmpR op_ne (pe_cmpR op_eq (pe_callTy (call_strOwn t_Counts gd (hr.mono (by decide))) (by rfl) T.b_str (by decide +kernel) (pa_cons (pv 9) pa_nil)) (pv 6) (nomark _)) (pv 10) (nomark _))))))
      (pss_one (ps_ret pe_bl))
      pss_nil)
    (pss_cons (ps_set (i := 11) nd rfl (Or.inl rfl) (pe_kd kd_Counts_3 gd (hr.mono (by decide)) (by rfl) (pa_cons (pe_callTy call_tuple_of (by rfl) T.b_tuple (by decide +kernel) (pa_cons (pv 1) pa_nil)) (pa_cons (pe_callTy call_tuple_of (by rfl) T.b_tuple (by decide +kernel) (pa_cons (pe_op op_cat (pv 2) (pe_lst (pa_cons (pv 8) pa_nil))) pa_nil)) (pa_cons (pv 3) pa_nil)))))
    (pss_cons (ps_set (i := 10) nd rfl (Or.inl rfl) (pe_callB (cr_all rfl) (by rfl) T.b_all (by decide +kernel) (pa_cons (pe_lc (own := [("k", 12)]) (g := gName 12) (by rfl) nd (pi_range1 (by rfl) T.b_range (pa_cons (pe_op op_add (pv 7) pe_int) pa_nil)) (blkOk_by (own := [("k", 12)]) (N := ["purse", "one", "more", "by", "box", "twin", "text", "edge", "at", "other", "same", "later", "k"]) (sc := defScope s__law_right) (by decide +kernel)) (fun _ _ _ _ _ => pg_name (i := 12) nd rfl (Or.inl rfl)) (fun _ _ _ _ _ => pts_nil) (fun _ _ _ _ _ => (pe_cg c__law_due gd (hr.mono (by decide)) (by rfl) (pa_cons (pe_op op_add (pv 8) (pe_op op_mul (pv 3) (pv 12))) (pa_cons (pv 1) (pa_cons (pv 2) (pa_cons (pv 3) pa_nil))))))) pa_nil)))
    (pss_cons (ps_if (PW.pt (pw_or (pt_cmpR op_ne (pe_eqOwn e_Counts gd hr (pv 11) (pv 4)) (pv 10) (nomark _)) (pw_or1 (pt_cmpR op_ne (pe_cmpR op_eq (pe_callTy (call_strOwn t_Counts gd (hr.mono (by decide))) (by rfl) T.b_str (by decide +kernel) (pa_cons (pv 11) pa_nil)) (pv 6) (nomark _)) (pv 10) (nomark _)))))
      (pss_one (ps_ret pe_bl))
      pss_nil)
    (pss_one (ps_ret (pe_cmpR (op_eqD hr.units) (pe_lst (pa_cons (pe_eqOwn e_Counts gd hr (pv 4) pe_int) (pa_cons (pe_eqOwn e_Counts gd hr (pv 4) (pv 6)) (pa_cons (pe_eqOwn e_Counts gd hr (pv 4) (pe_tup (pa_cons (pv 1) (pa_cons (pv 2) pa_nil)))) (pa_cons (pe_eqOwn e_Counts gd hr (pv 4) pe_non) (pa_cons (pe_neOwn e_Counts ⟨T.o_Counts.ne, T.o_Counts.mro⟩ gd hr (pv 4) (pe_pd T.cl_Counts p_Counts_members gd (hr.mono (by decide)) (pv 4))) pa_nil)))))) (pe_op op_cat (pe_op op_rep (pe_lst (pa_cons pe_bl pa_nil)) pe_int) (pe_lst (pa_cons pe_bl pa_nil))) (nomark _))))))))))))))))), ?_⟩
  unfold x__law_right
  exact (as_seq (as_asg (AC.data (ac_call (n := 1) (al_cons (ae_var 0) al_nil) (len_cons len_nil))) (ag_tup (ags_cons (ag_name 1) (ags_cons (ag_name 2) (ags_cons (ag_name 3) ags_nil)))))
    (as_seq (as_par (AO.data (ao_makeD (n := 3) (m := 0) (k := 3) (gR := (fun rs rz => match rs, rz with | [r0, r1, r2], [] => [r0, r1, r2] | _, _ => [])) (by
      intro F σ vs zs rs rz hv hz h1 h2
      obtain ⟨v0, v1, v2, r0, r1, r2, rfl, rfl, a0, a1, a2⟩ := rfs3 hv h1
      obtain ⟨rfl, rfl⟩ := rfs0 hz h2
      exact ⟨.cons a0 (.cons a1 (.cons a2 (.nil))), rfl⟩) (al_cons (AD.rf (AE.data (ae_cb ca_tupOf (al_cons (ae_var 1) al_nil)))) (al_cons (AD.rf (AE.data (ae_cb ca_tupOf (al_cons (ae_var 2) al_nil)))) (al_cons (AD.rf (AE.data (ae_var 3))) al_nil))) (len_cons (len_cons (len_cons len_nil))) al_nil len_nil)) (AC.data (ac_call (n := 4) (al_cons (ae_var 0) (al_cons (AD.rf (AE.data (ae_var 1))) (al_cons (AD.rf (AE.data (ae_var 2))) (al_cons (AD.rf (AE.data (ae_var 3))) al_nil)))) (len_cons (len_cons (len_cons (len_cons len_nil)))))))
    (as_seq (as_if (at_or (at_not (at_test (ae_eqOwn T.o_Counts (AD.rf (AE.data (ae_var 4))) (AD.rf (AE.data (ae_var 5)))))) (at_or (at_test (ae_neOwn T.o_Counts (AD.rf (AE.data (ae_var 4))) (AD.rf (AE.data (ae_var 5))))) (at_or (at_not (at_test (ae_eqOwn T.o_Counts (AD.rf (AE.data (ae_var 5))) (AD.rf (AE.data (ae_var 4)))))) (at_or (at_test (ae_neOwn T.o_Counts (AD.rf (AE.data (ae_var 5))) (AD.rf (AE.data (ae_var 4))))) (at_not (at_B (ae_boolOwn (AD.rf (AE.data (ae_var 4))))))))))
      (as_ret (AE.data (ae_c fun _ => .bl _)))
      as_next)
    (as_seq (as_set (AC.data (ac_call (n := 1) (al_cons (AD.rf (AE.data (ae_var 4))) al_nil) (len_cons len_nil))))
    (as_seq (as_if (at_test (ae_op oa_neD (AD.rf (AO.data (ao_lst (ald_cons (AE.data (ae_shOwn (AD.rf (AE.data (ae_var 4))))) (ald_cons (AE.data (ae_shOwn (AD.rf (AE.data (ae_var 5))))) (ald_cons (AE.data (ae_shOwn (AD.rf (AE.data (ae_var 4))))) (ald_cons (AE.data (ae_shOwn (AD.rf (AE.data (ae_var 5))))) ald_nil))))))) (AD.rf (AO.data (ao_lst (ald_cons (AE.data (ae_var 6)) (ald_cons (AE.data (ae_var 6)) (ald_cons (AE.data (ae_op oa_catS (ae_op oa_catS (ae_c fun _ => .str _) (ae_var 6)) (ae_c fun _ => .str _))) (ald_cons (AE.data (ae_op oa_catS (ae_op oa_catS (ae_c fun _ => .str _) (ae_var 6)) (ae_c fun _ => .str _))) ald_nil)))))))))
      (as_ret (AE.data (ae_c fun _ => .bl _)))
      as_next)
    (as_seq (as_set (AE.data (ae_op oa_add (ae_c fun _ => .int _) (ae_cb ca_maxL (al_cons (AD.rf (AO.data (ao_op on_cat (AD.rf (AO.data (ao_op on_cat (AD.rf (AO.data (ao_lst (ald_cons (AE.data (ae_c fun _ => .int _)) ald_nil)))) (ae_var 1)))) (ae_var 2)))) al_nil)))))
    (as_seq (as_set (AC.data (ac_call (n := 2) (al_cons (ae_var 0) (al_cons (AD.rf (AE.data (ae_op oa_add (ae_var 7) (ae_var 3)))) al_nil)) (len_cons (len_cons len_nil)))))
    (as_seq (as_set (AO.data (ao_makeD (n := 3) (m := 0) (k := 3) (gR := (fun rs rz => match rs, rz with | [r0, r1, r2], [] => [r0, r1, r2] | _, _ => [])) (by
      intro F σ vs zs rs rz hv hz h1 h2
      obtain ⟨v0, v1, v2, r0, r1, r2, rfl, rfl, a0, a1, a2⟩ := rfs3 hv h1
      obtain ⟨rfl, rfl⟩ := rfs0 hz h2
      exact ⟨.cons a0 (.cons a1 (.cons a2 (.nil))), rfl⟩) (al_cons (AD.rf (AE.data (ae_cb ca_tupOf (al_cons (AD.rf (AO.data (ao_op on_cat (ae_var 1) (AD.rf (AO.data (ao_lst (ald_cons (AE.data (ae_var 8)) ald_nil))))))) al_nil)))) (al_cons (AD.rf (AE.data (ae_cb ca_tupOf (al_cons (ae_var 2) al_nil)))) (al_cons (AD.rf (AE.data (ae_var 3))) al_nil))) (len_cons (len_cons (len_cons len_nil))) al_nil len_nil)))
    (as_seq (as_set (AC.data (ac_call (n := 4) (al_cons (AD.rf (AE.data (ae_var 8))) (al_cons (AD.rf (AE.data (ae_var 1))) (al_cons (AD.rf (AE.data (ae_var 2))) (al_cons (AD.rf (AE.data (ae_var 3))) al_nil)))) (len_cons (len_cons (len_cons (len_cons len_nil)))))))
    (as_seq (as_if (at_or (at_test (ae_op oa_neS (ae_eqOwn T.o_Counts (AD.rf (AE.data (ae_var 4))) (AD.rf (AE.data (ae_var 9)))) (ae_var 10))) (at_or (at_test (ae_op oa_eqS (ae_neOwn T.o_Counts (AD.rf (AE.data (ae_var 9))) (AD.rf (AE.data (ae_var 4)))) (ae_var 10))) (at_test (ae_op oa_neS (ae_op oa_eqS (ae_shOwn (AD.rf (AE.data (ae_var 9)))) (ae_var 6)) (ae_var 10)))))
      (as_ret (AE.data (ae_c fun _ => .bl _)))
      as_next)
    (as_seq (as_set (AO.data (ao_makeD (n := 3) (m := 0) (k := 3) (gR := (fun rs rz => match rs, rz with | [r0, r1, r2], [] => [r0, r1, r2] | _, _ => [])) (by
      intro F σ vs zs rs rz hv hz h1 h2
      obtain ⟨v0, v1, v2, r0, r1, r2, rfl, rfl, a0, a1, a2⟩ := rfs3 hv h1
      obtain ⟨rfl, rfl⟩ := rfs0 hz h2
      exact ⟨.cons a0 (.cons a1 (.cons a2 (.nil))), rfl⟩) (al_cons (AD.rf (AE.data (ae_cb ca_tupOf (al_cons (ae_var 1) al_nil)))) (al_cons (AD.rf (AE.data (ae_cb ca_tupOf (al_cons (AD.rf (AO.data (ao_op on_cat (ae_var 2) (AD.rf (AO.data (ao_lst (ald_cons (AE.data (ae_var 8)) ald_nil))))))) al_nil)))) (al_cons (AD.rf (AE.data (ae_var 3))) al_nil))) (len_cons (len_cons (len_cons len_nil))) al_nil len_nil)))
    (as_seq (as_set (AE.data (ae_cb ca_all (al_cons (AD.rf (AO.data (ao_comp (vs := [12]) (ai_rng1 (al_cons (ae_op oa_add (ae_var 7) (ae_c fun _ => .int _)) al_nil)) (ag_name 12) (gw_name (by simp)) at_yes (AC.data (ac_call (n := 4) (al_cons (AD.rf (AE.data (ae_op oa_add (ae_var 8) (ae_op oa_mul (ae_var 3) (ae_var 12))))) (al_cons (AD.rf (AE.data (ae_var 1))) (al_cons (AD.rf (AE.data (ae_var 2))) (al_cons (AD.rf (AE.data (ae_var 3))) al_nil)))) (len_cons (len_cons (len_cons (len_cons len_nil))))))))) al_nil))))
    (as_seq (as_if (at_or (at_test (ae_op oa_neS (ae_eqOwn T.o_Counts (AD.rf (AE.data (ae_var 11))) (AD.rf (AE.data (ae_var 4)))) (ae_var 10))) (at_test (ae_op oa_neS (ae_op oa_eqS (ae_shOwn (AD.rf (AE.data (ae_var 11)))) (ae_var 6)) (ae_var 10))))
      (as_ret (AE.data (ae_c fun _ => .bl _)))
      as_next)
    (as_ret (AE.data (ae_op oa_eqD (AD.rf (AO.data (ao_lst (ald_cons (AE.data (ae_eqOwn T.o_Counts (AD.rf (AE.data (ae_var 4))) (AD.rf (AE.data (ae_c fun _ => .int _))))) (ald_cons (AE.data (ae_eqOwn T.o_Counts (AD.rf (AE.data (ae_var 4))) (AD.rf (AE.data (ae_var 6))))) (ald_cons (AE.data (ae_eqOwn T.o_Counts (AD.rf (AE.data (ae_var 4))) (AD.rf (AE.data (ae_tup (ald_cons (AE.data (ae_var 1)) (ald_cons (AE.data (ae_var 2)) ald_nil))))))) (ald_cons (AE.data (ae_eqOwn T.o_Counts (AD.rf (AE.data (ae_var 4))) (AD.rf (AE.data (ae_c fun _ => .non))))) (ald_cons (AE.data (ae_neOwn T.o_Counts (AD.rf (AE.data (ae_var 4))) (AD.rf (AC.data (ac_prop (ae_var 4)))))) ald_nil)))))))) (AD.rf (AO.data (ao_op on_cat (AD.rf (AO.data (ao_op on_rep (AD.rf (AO.data (ao_lst (ald_cons (AE.data (ae_c fun _ => .bl _)) ald_nil)))) (ae_c fun _ => .int _)))) (AD.rf (AO.data (ao_lst (ald_cons (AE.data (ae_c fun _ => .bl _)) ald_nil)))))))))))))))))))))))

/-- law: script 0c, some 1, due 2, box 3, k 4 -/
def x_law (cCounts : Addr) : W :=
    (xSeq (xSet 1 (iceO (evLst (evConsD (iceO (evMakeD cCounts (g_Counts____init__ cCounts) (fun rs rz => match rs, rz with | [], [] => [Rf.d (.tup []), Rf.d (.tup []), Rf.d (.int 1)] | _, _ => []) evNil evNil)) (evConsD (iceO (evMakeD cCounts (g_Counts____init__ cCounts) (fun rs rz => match rs, rz with | [r0], [] => [r0, Rf.d (.tup []), Rf.d (.int 1)] | _, _ => []) (evCons (ofD (asD (evTup (evConsD (asD (evC (.int 3))) (evConsD (asD (evC (.int 0))) evNilD))))) evNil) evNil)) (evConsD (iceO (evMakeD cCounts (g_Counts____init__ cCounts) (fun rs rz => match rs, rz with | [r0, r1], [] => [r0, r1, Rf.d (.int 1)] | _, _ => []) (evCons (ofD (asD (evTup evNilD))) (evCons (ofD (asD (evTup (evConsD (asD (evC (.int 1))) evNilD)))) evNil)) evNil)) (evConsD (iceO (evMakeD cCounts (g_Counts____init__ cCounts) (fun rs rz => match rs, rz with | [r0, r1, r2], [] => [r0, r1, r2] | _, _ => []) (evCons (ofD (asD (evTup (evConsD (asD (evC (.int 3))) (evConsD (asD (evC (.int 0))) (evConsD (asD (evC (.int 4))) evNilD)))))) (evCons (ofD (asD (evTup (evConsD (asD (evC (.int 6))) (evConsD (asD (evC (.int 4))) evNilD))))) (evCons (ofD (asD (evC (.int 2)))) evNil))) evNil)) (evConsD (iceO (evMakeD cCounts (g_Counts____init__ cCounts) (fun rs rz => match rs, rz with | [r0, r1, r2], [] => [r0, r1, r2] | _, _ => []) (evCons (ofD (asD (evTup (evConsD (asD (evC (.int 0))) evNilD)))) (evCons (ofD (asD (evTup (evConsD (asD (evC (.int 5))) (evConsD (asD (evC (.int 2))) evNilD))))) (evCons (ofD (asD (evC (.int 6)))) evNil))) evNil)) evNilD))))))))
    (xSeq (xSet 2 (iceO (evLst (evConsD (asD (evC (.str "none"))) (evConsD (asD (evC (.str "0 3"))) (evConsD (asD (evC (.str "1 .. from 1 by 1"))) (evConsD (asD (evC (.str "0 3 4 .. from 4 by 2"))) (evConsD (asD (evC (.str "0 2 .. from 1 by 3"))) evNilD))))))))
    (xSeq (xIf (mOr (asB (evOp (fEqD true) (ofD (iceO (evComp [3] (seqL (asD (evVar 1))) (gSet 3) mTrue (asD (evShOwn cCounts (g_Counts____str__ cCounts) (ofD (asD (evVar 3)))))))) (evVar 2))) (asB (evOp (fEqS true) (evShOwn cCounts (g_Counts____repr__ cCounts) (ofD (asD (evOp fIxL (evVar 1) (evC (.int 3)))))) (evC (.str "Counts(0 3 4 .. from 4 by 2)")))))
      (xRet (asD (evC (.bl false))))
      xNext)
    (xSeq (xIf (asB (evOp (fEqD true) (ofD (iceO (evComp [3] (seqL (asD (evVar 1))) (gSet 3) mTrue (asD (evBoolOwn cCounts (ofD (asD (evVar 3)))))))) (ofD (iceO (evOpO repL (ofD (iceO (evLst (evConsD (asD (evC (.bl true))) evNilD)))) (evC (.int 5)))))))
      (xRet (asD (evC (.bl false))))
      xNext)
    (xRet (asD (evCB fAll (evCons (ofD (iceO (evComp [4] (rng1 (evCons (evCB fMax2 (evCons (evC (.int 2)) (evCons (evCB fMin2 (evCons (evCB fLen (evCons (evVar 0) evNil)) (evCons (evC (.int 5)) evNil))) evNil))) evNil)) (gSet 4) mTrue (retD (evCallNew (g__law_right cCounts) (retO (evCall g__law_purse (evCons (ofD (asD (evVar 0))) (evCons (ofD (asD (evVar 4))) evNil))))))))) evNil))))))))
def g_law (cCounts : Addr) : M Ret := fnD 4 (x_law cCounts)
theorem ok_law {cCounts : Addr} {f : Addr} {fd : FuncData} {d1 d2 : V} (hd1 : ∀ F, Rp K F d1 (.tup [])) (hd2 : ∀ F, Rp K F d2 (.tup [])) (F : Fun K "law" "law" s_law f fd) (T : TxC K cCounts mg)
    (c__law_purse : Cal P w K mg base "_law_purse" 1 ["script", "k"] (spD K 2 g__law_purse))
    (c__law_right : Cal P w K mg base "_law_right" 9 ["purse"] (spD K 1 (g__law_right cCounts)))
    (kd_Counts_0 : MkD P w K mg base "Counts" cCounts 6 ["self", "single", "again", "period"] 0 [] (fun vs zs => pickD [(1, 0), (1, 1), (1, 2)] vs [d1, d2, (.int 1)] zs) (spD K 4 (g_Counts____init__ cCounts)))
    (kd_Counts_1 : MkD P w K mg base "Counts" cCounts 6 ["self", "single", "again", "period"] 1 [] (fun vs zs => pickD [(0, 0), (1, 1), (1, 2)] vs [d1, d2, (.int 1)] zs) (spD K 4 (g_Counts____init__ cCounts)))
    (kd_Counts_2 : MkD P w K mg base "Counts" cCounts 6 ["self", "single", "again", "period"] 2 [] (fun vs zs => pickD [(0, 0), (0, 1), (1, 2)] vs [d1, d2, (.int 1)] zs) (spD K 4 (g_Counts____init__ cCounts)))
    (kd_Counts_3 : MkD P w K mg base "Counts" cCounts 6 ["self", "single", "again", "period"] 3 [] (fun vs zs => pickD [(0, 0), (0, 1), (0, 2)] vs [d1, d2, (.int 1)] zs) (spD K 4 (g_Counts____init__ cCounts)))
    (r_Counts : ReG P w K mg base cCounts 7 (spD K 1 (g_Counts____repr__ cCounts)))
    (t_Counts : StG P w K mg base cCounts 4 (spD K 1 (g_Counts____str__ cCounts))) : FG P w K mg base CX0 10 f fd ["script"] (spD K 1 (g_law cCounts)) := by
  refine fgD F sc_law rfl rfl (fun cdv A outer s H E gd hr => ?_)
  have nd := sc_law.nd
  refine ⟨_, (pss_cons (ps_set (i := 1) nd rfl (Or.inl rfl) (pe_lst (pa_cons (pe_kd0 kd_Counts_0 gd (hr.mono (by decide)) (by rfl)) (pa_cons (pe_kd kd_Counts_1 gd (hr.mono (by decide)) (by rfl) (pa_cons (pe_tup (pa_cons pe_int (pa_cons pe_int pa_nil))) pa_nil)) (pa_cons (pe_kd kd_Counts_2 gd (hr.mono (by decide)) (by rfl) (pa_cons (pe_tup pa_nil) (pa_cons (pe_tup (pa_cons pe_int pa_nil)) pa_nil))) (pa_cons (pe_kd kd_Counts_3 gd (hr.mono (by decide)) (by rfl) (pa_cons (pe_tup (pa_cons pe_int (pa_cons pe_int (pa_cons pe_int pa_nil)))) (pa_cons (pe_tup (pa_cons pe_int (pa_cons pe_int pa_nil))) (pa_cons pe_int pa_nil)))) (pa_cons (pe_kd kd_Counts_3 gd (hr.mono (by decide)) (by rfl) (pa_cons (pe_tup (pa_cons pe_int pa_nil)) (pa_cons (pe_tup (pa_cons pe_int (pa_cons pe_int pa_nil))) (pa_cons pe_int pa_nil)))) pa_nil)))))))
    (pss_cons (ps_set (i := 2) nd rfl (Or.inl rfl) (pe_lst (pa_cons pe_str (pa_cons pe_str (pa_cons pe_str (pa_cons pe_str (pa_cons pe_str pa_nil)))))))
    (pss_cons (ps_if (PW.pt (pw_or (pt_cmpR (op_neD hr.units) (pe_lc (own := [("box", 3)]) (g := gName 3) (by rfl) nd (pi_list (pv 1)) (blkOk_by (own := [("box", 3)]) (N := ["script", "some", "due", "box", "k"]) (sc := defScope s_law) (by decide +kernel)) (fun _ _ _ _ _ => pg_name (i := 3) nd rfl (Or.inl rfl)) (fun _ _ _ _ _ => pts_nil) (fun _ _ _ _ _ => (pe_callTy (call_strOwn t_Counts gd (hr.mono (by decide))) (by rfl) T.b_str (by decide +kernel) (pa_cons (pv 3) pa_nil)))) (pv 2) (nomark _)) (pw_or1 (pt_cmpR op_ne (pe_callB (call_reprOwn r_Counts gd (hr.mono (by decide))) (by rfl) T.b_repr (by decide +kernel) (pa_cons (pe_ixL K (pv 1) pe_int) pa_nil)) pe_str (nomark _)))))
      (pss_one (ps_ret pe_bl))
      pss_nil)
    (pss_cons (ps_if (pt_cmpR (op_neD hr.units) (pe_lc (own := [("box", 3)]) (g := gName 3) (by rfl) nd (pi_list (pv 1)) (blkOk_by (own := [("box", 3)]) (N := ["script", "some", "due", "box", "k"]) (sc := defScope s_law) (by decide +kernel)) (fun _ _ _ _ _ => pg_name (i := 3) nd rfl (Or.inl rfl)) (fun _ _ _ _ _ => pts_nil) (fun _ _ _ _ _ => (pe_callTy (call_boolI T.o_Counts.nb T.o_Counts.nl) (by rfl) T.b_bool (by decide +kernel) (pa_cons (pv 3) pa_nil)))) (pe_op op_rep (pe_lst (pa_cons pe_bl pa_nil)) pe_int) (nomark _))
      (pss_one (ps_ret pe_bl))
      pss_nil)
    (pss_one (ps_ret (pe_callB (cr_all rfl) (by rfl) T.b_all (by decide +kernel) (pa_cons (pe_lc (own := [("k", 4)]) (g := gName 4) (by rfl) nd (pi_range1 (by rfl) T.b_range (pa_cons (pe_callB (call_max2 rfl) (by rfl) T.b_max (by decide +kernel) (pa_cons pe_int (pa_cons (pe_callB (call_min2 rfl) (by rfl) T.b_min (by decide +kernel) (pa_cons (pe_callB call_len_seq (by rfl) T.b_len (by decide +kernel) (pa_cons (pv 0) pa_nil)) (pa_cons pe_int pa_nil))) pa_nil))) pa_nil)) (blkOk_by (own := [("k", 4)]) (N := ["script", "some", "due", "box", "k"]) (sc := defScope s_law) (by decide +kernel)) (fun _ _ _ _ _ => pg_name (i := 4) nd rfl (Or.inl rfl)) (fun _ _ _ _ _ => pts_nil) (fun _ _ _ _ _ => (pe_cg c__law_right gd (hr.mono (by decide)) (by rfl) (pa_cons (pe_cg c__law_purse gd (hr.mono (by decide)) (by rfl) (pa_cons (pv 0) (pa_cons (pv 4) pa_nil))) pa_nil)))) pa_nil)))))))), ?_⟩
  unfold x_law
  exact (as_seq (as_set (AO.data (ao_lst (ald_cons (AO.data (ao_makeD (n := 0) (m := 0) (k := 3) (gR := (fun rs rz => match rs, rz with | [], [] => [Rf.d (.tup []), Rf.d (.tup []), Rf.d (.int 1)] | _, _ => [])) (by
      intro F σ vs zs rs rz hv hz h1 h2
      obtain ⟨rfl, rfl⟩ := rfs0 hv h1
      obtain ⟨rfl, rfl⟩ := rfs0 hz h2
      exact ⟨.cons (hd1 F) (.cons (hd2 F) (.cons (Rp.int 1) (.nil))), rfl⟩) al_nil len_nil al_nil len_nil)) (ald_cons (AO.data (ao_makeD (n := 1) (m := 0) (k := 3) (gR := (fun rs rz => match rs, rz with | [r0], [] => [r0, Rf.d (.tup []), Rf.d (.int 1)] | _, _ => [])) (by
      intro F σ vs zs rs rz hv hz h1 h2
      obtain ⟨v0, r0, rfl, rfl, a0⟩ := rfs1 hv h1
      obtain ⟨rfl, rfl⟩ := rfs0 hz h2
      exact ⟨.cons a0 (.cons (hd2 F) (.cons (Rp.int 1) (.nil))), rfl⟩) (al_cons (AD.rf (AE.data (ae_tup (ald_cons (AE.data (ae_c fun _ => .int _)) (ald_cons (AE.data (ae_c fun _ => .int _)) ald_nil))))) al_nil) (len_cons len_nil) al_nil len_nil)) (ald_cons (AO.data (ao_makeD (n := 2) (m := 0) (k := 3) (gR := (fun rs rz => match rs, rz with | [r0, r1], [] => [r0, r1, Rf.d (.int 1)] | _, _ => [])) (by
      intro F σ vs zs rs rz hv hz h1 h2
      obtain ⟨v0, v1, r0, r1, rfl, rfl, a0, a1⟩ := rfs2 hv h1
      obtain ⟨rfl, rfl⟩ := rfs0 hz h2
      exact ⟨.cons a0 (.cons a1 (.cons (Rp.int 1) (.nil))), rfl⟩) (al_cons (AD.rf (AE.data (ae_tup ald_nil))) (al_cons (AD.rf (AE.data (ae_tup (ald_cons (AE.data (ae_c fun _ => .int _)) ald_nil)))) al_nil)) (len_cons (len_cons len_nil)) al_nil len_nil)) (ald_cons (AO.data (ao_makeD (n := 3) (m := 0) (k := 3) (gR := (fun rs rz => match rs, rz with | [r0, r1, r2], [] => [r0, r1, r2] | _, _ => [])) (by
      intro F σ vs zs rs rz hv hz h1 h2
      obtain ⟨v0, v1, v2, r0, r1, r2, rfl, rfl, a0, a1, a2⟩ := rfs3 hv h1
      obtain ⟨rfl, rfl⟩ := rfs0 hz h2
      exact ⟨.cons a0 (.cons a1 (.cons a2 (.nil))), rfl⟩) (al_cons (AD.rf (AE.data (ae_tup (ald_cons (AE.data (ae_c fun _ => .int _)) (ald_cons (AE.data (ae_c fun _ => .int _)) (ald_cons (AE.data (ae_c fun _ => .int _)) ald_nil)))))) (al_cons (AD.rf (AE.data (ae_tup (ald_cons (AE.data (ae_c fun _ => .int _)) (ald_cons (AE.data (ae_c fun _ => .int _)) ald_nil))))) (al_cons (AD.rf (AE.data (ae_c fun _ => .int _))) al_nil))) (len_cons (len_cons (len_cons len_nil))) al_nil len_nil)) (ald_cons (AO.data (ao_makeD (n := 3) (m := 0) (k := 3) (gR := (fun rs rz => match rs, rz with | [r0, r1, r2], [] => [r0, r1, r2] | _, _ => [])) (by
      intro F σ vs zs rs rz hv hz h1 h2
      obtain ⟨v0, v1, v2, r0, r1, r2, rfl, rfl, a0, a1, a2⟩ := rfs3 hv h1
      obtain ⟨rfl, rfl⟩ := rfs0 hz h2
      exact ⟨.cons a0 (.cons a1 (.cons a2 (.nil))), rfl⟩) (al_cons (AD.rf (AE.data (ae_tup (ald_cons (AE.data (ae_c fun _ => .int _)) ald_nil)))) (al_cons (AD.rf (AE.data (ae_tup (ald_cons (AE.data (ae_c fun _ => .int _)) (ald_cons (AE.data (ae_c fun _ => .int _)) ald_nil))))) (al_cons (AD.rf (AE.data (ae_c fun _ => .int _))) al_nil))) (len_cons (len_cons (len_cons len_nil))) al_nil len_nil)) ald_nil))))))))
    (as_seq (as_set (AO.data (ao_lst (ald_cons (AE.data (ae_c fun _ => .str _)) (ald_cons (AE.data (ae_c fun _ => .str _)) (ald_cons (AE.data (ae_c fun _ => .str _)) (ald_cons (AE.data (ae_c fun _ => .str _)) (ald_cons (AE.data (ae_c fun _ => .str _)) ald_nil))))))))
    (as_seq (as_if (at_or (at_test (ae_op oa_neD (AD.rf (AO.data (ao_comp (vs := [3]) (ai_list (AE.data (ae_var 1))) (ag_name 3) (gw_name (by simp)) at_yes (AE.data (ae_shOwn (AD.rf (AE.data (ae_var 3)))))))) (ae_var 2))) (at_test (ae_op oa_neS (ae_shOwn (AD.rf (AE.data (ae_op oa_ixL (ae_var 1) (ae_c fun _ => .int _))))) (ae_c fun _ => .str _))))
      (as_ret (AE.data (ae_c fun _ => .bl _)))
      as_next)
    (as_seq (as_if (at_test (ae_op oa_neD (AD.rf (AO.data (ao_comp (vs := [3]) (ai_list (AE.data (ae_var 1))) (ag_name 3) (gw_name (by simp)) at_yes (AE.data (ae_boolOwn (AD.rf (AE.data (ae_var 3)))))))) (AD.rf (AO.data (ao_op on_rep (AD.rf (AO.data (ao_lst (ald_cons (AE.data (ae_c fun _ => .bl _)) ald_nil)))) (ae_c fun _ => .int _))))))
      (as_ret (AE.data (ae_c fun _ => .bl _)))
      as_next)
    (as_ret (AE.data (ae_cb ca_all (al_cons (AD.rf (AO.data (ao_comp (vs := [4]) (ai_rng1 (al_cons (ae_cb ca_max2 (al_cons (ae_c fun _ => .int _) (al_cons (ae_cb ca_min2 (al_cons (ae_cb ca_len (al_cons (ae_var 0) al_nil)) (al_cons (ae_c fun _ => .int _) al_nil))) al_nil))) al_nil)) (ag_name 4) (gw_name (by simp)) at_yes (AC.data (ac_callNew (AC.own (ac_call (n := 2) (al_cons (AD.rf (AE.data (ae_var 0))) (al_cons (AD.rf (AE.data (ae_var 4))) al_nil)) (len_cons (len_cons len_nil))))))))) al_nil))))))))

end
end
end Lk
namespace Lk
noncomputable section
open PySem PySem.Spec PyProof.Rows L2 G DC

theorem is_mask (n : Nat) (h : n + 1 ≤ 134217728) : Is g_mask_of [.int n] (.int ((2 ^ n - 1 : Nat) : Int)) := by
  refine Is.of ?_
  have h1 : CShl (1 : Int) (n : Int) := cshl_n (a := 1) (k := 1) (by decide) (by omega)
  unfold x_mask_of
  simp [-Int.natCast_shiftRight, -Int.natCast_shiftLeft, -Int.natCast_add, -Int.natCast_mul, -Int.natCast_ediv, -Int.natCast_emod, -Int.natCast_pow, add_n, add1_n, mul_n, mod_n, div_n, or_n, and_n, xor_n, shl_n', shr_n', Is, fnD, xSeq, xAsg, xIf, xSet, xPar, xRet, xFor, xAug, gSet, gTupD, gsCons, gsNil, evOp, evVar, evC, evUn, evChain, asD, ofD, retD, iceO, asB, thenS, Out.bind, Rs.bind, vw, setD, free, mul_c, div_c, mod_c, shl_c, shl1_c, shr_c, op2I0_c, fEqS, D.sc, scal, evCall, evCons, evNil, evTup, evConsD, evNilD, evBits, lift, vAnd, vOr, vNot, xDrop, evAppend, ownL, xSetO, xNext, evLst, Option.bind, mAnd, mOr, mNot, mIf, List.replicate, clos, h1]
  simp [Nat.shiftLeft_eq, pow_n]
theorem is_again (P B q : Nat) (hq : q ≤ P) (h : P + 1 ≤ 134217728) : Is g_is_again_after [.int P, .int B, .int q] (.bl (decide ((B ^^^ (B >>> q)) % 2 ^ (P - q) = 0))) := by
  refine Is.of ?_
  unfold x_is_again_after
  simp [-Int.natCast_shiftRight, -Int.natCast_shiftLeft, -Int.natCast_add, -Int.natCast_mul, -Int.natCast_ediv, -Int.natCast_emod, -Int.natCast_pow, add_n, add1_n, mul_n, mod_n, div_n, or_n, and_n, xor_n, shl_n', shr_n', Is, fnD, xSeq, xAsg, xIf, xSet, xPar, xRet, xFor, xAug, gSet, gTupD, gsCons, gsNil, evOp, evVar, evC, evUn, evChain, asD, ofD, retD, iceO, asB, thenS, Out.bind, Rs.bind, vw, setD, free, mul_c, div_c, mod_c, shl_c, shl1_c, shr_c, op2I0_c, fEqS, D.sc, scal, evCall, evCons, evNil, evTup, evConsD, evNilD, evBits, lift, vAnd, vOr, vNot, xDrop, evAppend, ownL, xSetO, xNext, evLst, Option.bind, mAnd, mOr, mNot, mIf, List.replicate, clos, (is_mask (P - q) (by omega)).c1, sub_n hq]
/-- the places of a def behind its call: data, plain, or the like -/
theorem is_stretched (w B L : Nat) (hw : 0 < w) (hB : B < 2 ^ w) (hL : L ≤ 1000000) (hw2 : w ≤ 1000000) : ∃ R : Nat, Is g_stretched [.tup [.int w, .int B], .int L] (.int (R : Int)) ∧ R < 2 ^ L ∧ ∀ k, k < L → R.testBit k = B.testBit (k % w) := by
  have hloop : ∃ ρ', whileN (asB (evOp fLt (evVar 2) (evVar 1))) (xSeq (xSet 3 (asD (evOp fOr (evVar 3) (evOp fShl (evVar 3) (evVar 2))))) (xSet 2 (asD (evOp fAdd (evVar 2) (evVar 2))))) 1000000 [.dat (.tup [.int w, .int B]), .dat (.int L), .dat (.int w), .dat (.int B)] = .nx ρ' ∧
      ∃ w' B' : Nat, ρ' = [.dat (.tup [.int w, .int B]), .dat (.int L), .dat (.int w'), .dat (.int B')] ∧ L ≤ w' ∧ (∀ k, k < w' → B'.testBit k = B.testBit (k % w)) := by
    refine while_by (fun m ρ => ∃ w' B' : Nat, ρ = [.dat (.tup [.int w, .int B]), .dat (.int L), .dat (.int w'), .dat (.int B')] ∧ 0 < w' ∧ w ∣ w' ∧ w' ≤ 2000000 ∧ B' < 2 ^ w' ∧ (∀ k, k < w' → B'.testBit k = B.testBit (k % w)) ∧ m = L - w') _ (fun m ρ h => ?_) _ (L - w) _ (by omega) ⟨w, B, rfl, hw, Nat.dvd_refl _, by omega, hB, fun k hk => by rw [Nat.mod_eq_of_lt hk], rfl⟩
    · obtain ⟨w', B', rfl, h0, hd, h2, hb, hk, hm⟩ := h
      by_cases c : w' < L
      · right
        have hs : CShl (B' : Int) (w' : Int) := cshl_n hb (by omega)
        refine ⟨[.dat (.tup [.int w, .int B]), .dat (.int L), .dat (.int w'), .dat (.int B')], [.dat (.tup [.int w, .int B]), .dat (.int L), .dat (.int (w' + w' : Nat)), .dat (.int (B' ||| (B' <<< w') : Nat))], L - (w' + w'), ?_, ?_, ?_, w' + w', B' ||| (B' <<< w'), ?_, by omega, ?_, by omega, ?_, ?_, rfl⟩
        · simp [-Int.natCast_shiftRight, -Int.natCast_shiftLeft, -Int.natCast_add, -Int.natCast_mul, -Int.natCast_ediv, -Int.natCast_emod, -Int.natCast_pow, add_n, add1_n, mul_n, mod_n, div_n, or_n, and_n, xor_n, shl_n', shr_n', Is, fnD, xSeq, xAsg, xIf, xSet, xPar, xRet, xFor, xAug, gSet, gTupD, gsCons, gsNil, evOp, evVar, evC, evUn, evChain, asD, ofD, retD, iceO, asB, thenS, Out.bind, Rs.bind, vw, setD, free, mul_c, div_c, mod_c, shl_c, shl1_c, shr_c, op2I0_c, fEqS, D.sc, scal, evCall, evCons, evNil, evTup, evConsD, evNilD, evBits, lift, vAnd, vOr, vNot, xDrop, evAppend, ownL, xSetO, xNext, evLst, Option.bind, mAnd, mOr, mNot, mIf, List.replicate, clos, c]
        · simp [-Int.natCast_shiftRight, -Int.natCast_shiftLeft, -Int.natCast_add, -Int.natCast_mul, -Int.natCast_ediv, -Int.natCast_emod, -Int.natCast_pow, add_n, add1_n, mul_n, mod_n, div_n, or_n, and_n, xor_n, shl_n', shr_n', Is, fnD, xSeq, xAsg, xIf, xSet, xPar, xRet, xFor, xAug, gSet, gTupD, gsCons, gsNil, evOp, evVar, evC, evUn, evChain, asD, ofD, retD, iceO, asB, thenS, Out.bind, Rs.bind, vw, setD, free, mul_c, div_c, mod_c, shl_c, shl1_c, shr_c, op2I0_c, fEqS, D.sc, scal, evCall, evCons, evNil, evTup, evConsD, evNilD, evBits, lift, vAnd, vOr, vNot, xDrop, evAppend, ownL, xSetO, xNext, evLst, Option.bind, mAnd, mOr, mNot, mIf, List.replicate, clos, hs]
        · omega
        · rfl
        · exact Nat.dvd_add hd hd
        · refine Nat.or_lt_two_pow (Nat.lt_of_lt_of_le hb (Nat.pow_le_pow_right (by decide) (by omega))) ?_
          rw [Nat.shiftLeft_eq, Nat.pow_add]
          exact Nat.mul_lt_mul_of_pos_right hb (Nat.two_pow_pos _)
        · intro k hkk
          rw [Nat.testBit_or, Nat.testBit_shiftLeft]
          by_cases ck : k < w'
          · simp [show ¬ w' ≤ k by omega, hk k ck]
          · have e1 : B'.testBit k = false := Nat.testBit_lt_two_pow (Nat.lt_of_lt_of_le hb (Nat.pow_le_pow_right (by decide) (by omega)))
            have e2 : (k - w') % w = k % w := by
              obtain ⟨z, rfl⟩ := hd
              rw [← Nat.mod_mod_of_dvd k (Nat.dvd_refl w)]
              have : k = (k - w * z) + w * z := by omega
              rw [this]
              simp
            simp [e1, show w' ≤ k by omega, hk (k - w') (by omega), e2]
      · left
        refine ⟨[.dat (.tup [.int w, .int B]), .dat (.int L), .dat (.int w'), .dat (.int B')], ?_, w', B', rfl, by omega, hk⟩
        simp [-Int.natCast_shiftRight, -Int.natCast_shiftLeft, -Int.natCast_add, -Int.natCast_mul, -Int.natCast_ediv, -Int.natCast_emod, -Int.natCast_pow, add_n, add1_n, mul_n, mod_n, div_n, or_n, and_n, xor_n, shl_n', shr_n', Is, fnD, xSeq, xAsg, xIf, xSet, xPar, xRet, xFor, xAug, gSet, gTupD, gsCons, gsNil, evOp, evVar, evC, evUn, evChain, asD, ofD, retD, iceO, asB, thenS, Out.bind, Rs.bind, vw, setD, free, mul_c, div_c, mod_c, shl_c, shl1_c, shr_c, op2I0_c, fEqS, D.sc, scal, evCall, evCons, evNil, evTup, evConsD, evNilD, evBits, lift, vAnd, vOr, vNot, xDrop, evAppend, ownL, xSetO, xNext, evLst, Option.bind, mAnd, mOr, mNot, mIf, List.replicate, clos, c]
  obtain ⟨ρ', e, w', B', rfl, hl, hk⟩ := hloop
  refine ⟨B' % 2 ^ L, Is.of ⟨[.dat (.tup [.int w, .int B]), .dat (.int L), .dat (.int w'), .dat (.int B')], ?_⟩, Nat.mod_lt _ (Nat.two_pow_pos _), fun k hkL => ?_⟩
  · unfold x_stretched
    refine seq_nx (ρ1 := [.dat (.tup [.int w, .int B]), .dat (.int L), .dat (.int w), .dat (.int B)]) (by simp [-Int.natCast_shiftRight, -Int.natCast_shiftLeft, -Int.natCast_add, -Int.natCast_mul, -Int.natCast_ediv, -Int.natCast_emod, -Int.natCast_pow, add_n, add1_n, mul_n, mod_n, div_n, or_n, and_n, xor_n, shl_n', shr_n', Is, fnD, xSeq, xAsg, xIf, xSet, xPar, xRet, xFor, xAug, gSet, gTupD, gsCons, gsNil, evOp, evVar, evC, evUn, evChain, asD, ofD, retD, iceO, asB, thenS, Out.bind, Rs.bind, vw, setD, free, mul_c, div_c, mod_c, shl_c, shl1_c, shr_c, op2I0_c, fEqS, D.sc, scal, evCall, evCons, evNil, evTup, evConsD, evNilD, evBits, lift, vAnd, vOr, vNot, xDrop, evAppend, ownL, xSetO, xNext, evLst, Option.bind, mAnd, mOr, mNot, mIf, List.replicate, clos]) (seq_nx e ?_)
    simp [-Int.natCast_shiftRight, -Int.natCast_shiftLeft, -Int.natCast_add, -Int.natCast_mul, -Int.natCast_ediv, -Int.natCast_emod, -Int.natCast_pow, add_n, add1_n, mul_n, mod_n, div_n, or_n, and_n, xor_n, shl_n', shr_n', Is, fnD, xSeq, xAsg, xIf, xSet, xPar, xRet, xFor, xAug, gSet, gTupD, gsCons, gsNil, evOp, evVar, evC, evUn, evChain, asD, ofD, retD, iceO, asB, thenS, Out.bind, Rs.bind, vw, setD, free, mul_c, div_c, mod_c, shl_c, shl1_c, shr_c, op2I0_c, fEqS, D.sc, scal, evCall, evCons, evNil, evTup, evConsD, evNilD, evBits, lift, vAnd, vOr, vNot, xDrop, evAppend, ownL, xSetO, xNext, evLst, Option.bind, mAnd, mOr, mNot, mIf, List.replicate, clos, (is_mask L (by omega)).c1]
  · rw [Nat.testBit_mod_two_pow]
    simp [hkL, hk k (by omega)]

/-- no smaller divisor -/
def NoLow (n p : Nat) : Prop := ∀ d, 2 ≤ d → d ∣ n → p ≤ d
theorem prime_co {n p d : Nat} (h : NoLow n p) (h2 : 2 ≤ p) (hp : p ∣ n) (hd : ¬ p ∣ d) : Nat.Coprime p d := by
  have g1 : Nat.gcd p d ∣ p := Nat.gcd_dvd_left p d
  have g2 : Nat.gcd p d ∣ d := Nat.gcd_dvd_right p d
  have g0 : 0 < Nat.gcd p d := Nat.pos_of_dvd_of_pos g1 (by omega)
  show Nat.gcd p d = 1
  rcases Nat.lt_or_ge (Nat.gcd p d) 2 with c | c
  · omega
  · have := h _ c (Nat.dvd_trans g1 hp)
    have le : Nat.gcd p d ≤ p := Nat.le_of_dvd (by omega) g1
    have : Nat.gcd p d = p := by omega
    rw [this] at g2
    exact absurd g2 hd
theorem primes_inner {N : Nat} (h2 : N ≤ 900000) : ∀ (n p : Nat) (o : O), 1 ≤ n → n ≤ N → 2 ≤ p → p ≤ N → ∃ ρ', whileN (asB (evOp (fEqS false) (evOp fMod (evVar 0) (evVar 2)) (evC (.int 0)))) (xSet 0 (asD (evOp fDiv (evVar 0) (evVar 2)))) 1000000 [.dat (.int n), .own false o, .dat (.int p)] = .nx ρ' ∧
    ∃ n' : Nat, ρ' = [.dat (.int n'), .own false o, .dat (.int p)] ∧ 1 ≤ n' ∧ n' ∣ n ∧ ¬ p ∣ n' ∧ ∀ d, Nat.Coprime p d → d ∣ n → d ∣ n' := by
  intro n p o hn hn2 hp hp2
  refine while_by (fun m ρ => ∃ n' : Nat, ρ = [.dat (.int n'), .own false o, .dat (.int p)] ∧ 1 ≤ n' ∧ n' ∣ n ∧ (∀ d, Nat.Coprime p d → d ∣ n → d ∣ n') ∧ m = n') _ (fun m ρ hi => ?_) _ n _ (by omega) ⟨n, rfl, hn, Nat.dvd_refl _, fun _ _ h => h, rfl⟩
  obtain ⟨n', rfl, g1, g2, g3, hm⟩ := hi
  have gl : n' ≤ n := Nat.le_of_dvd (by omega) g2
  by_cases c : n' % p = 0
  · right
    have hd : n' / p < n' := Nat.div_lt_self (by omega) (by omega)
    have hpn : p ∣ n' := Nat.dvd_of_mod_eq_zero c
    have hz : 1 ≤ n' / p := Nat.div_pos (Nat.le_of_dvd (by omega) hpn) (by omega)
    refine ⟨[.dat (.int n'), .own false o, .dat (.int p)], [.dat (.int (n' / p : Nat)), .own false o, .dat (.int p)], n' / p, ?_, ?_, by omega, n' / p, rfl, hz, Nat.dvd_trans (Nat.div_dvd_of_dvd hpn) g2, fun d hc h => ?_, rfl⟩
    · simp [-Int.natCast_shiftRight, -Int.natCast_shiftLeft, -Int.natCast_add, -Int.natCast_mul, -Int.natCast_ediv, -Int.natCast_emod, -Int.natCast_pow, add_n, add1_n, mul_n, mod_n, div_n, or_n, and_n, xor_n, shl_n', shr_n', Is, fnD, xSeq, xAsg, xIf, xSet, xPar, xRet, xFor, xAug, gSet, gTupD, gsCons, gsNil, evOp, evVar, evC, evUn, evChain, asD, ofD, retD, iceO, asB, thenS, Out.bind, Rs.bind, vw, setD, free, mul_c, div_c, mod_c, shl_c, shl1_c, shr_c, op2I0_c, fEqS, D.sc, scal, evCall, evCons, evNil, evTup, evConsD, evNilD, evBits, lift, vAnd, vOr, vNot, xDrop, evAppend, ownL, xSetO, xNext, evLst, Option.bind, mAnd, mOr, mNot, mIf, List.replicate, clos, c, show 0 < p by omega]
    · simp [-Int.natCast_shiftRight, -Int.natCast_shiftLeft, -Int.natCast_add, -Int.natCast_mul, -Int.natCast_ediv, -Int.natCast_emod, -Int.natCast_pow, add_n, add1_n, mul_n, mod_n, div_n, or_n, and_n, xor_n, shl_n', shr_n', Is, fnD, xSeq, xAsg, xIf, xSet, xPar, xRet, xFor, xAug, gSet, gTupD, gsCons, gsNil, evOp, evVar, evC, evUn, evChain, asD, ofD, retD, iceO, asB, thenS, Out.bind, Rs.bind, vw, setD, free, mul_c, div_c, mod_c, shl_c, shl1_c, shr_c, op2I0_c, fEqS, D.sc, scal, evCall, evCons, evNil, evTup, evConsD, evNilD, evBits, lift, vAnd, vOr, vNot, xDrop, evAppend, ownL, xSetO, xNext, evLst, Option.bind, mAnd, mOr, mNot, mIf, List.replicate, clos, cdiv_n (a := n') (b := p) (by omega) (by omega)]
    · have e := g3 d hc h
      obtain ⟨z, hz⟩ := hpn
      rw [hz] at e ⊢
      rw [Nat.mul_div_cancel_left _ (by omega)]
      exact Nat.Coprime.dvd_of_dvd_mul_left hc.symm e
  · left
    refine ⟨[.dat (.int n'), .own false o, .dat (.int p)], ?_, n', rfl, g1, g2, fun z => c (Nat.mod_eq_zero_of_dvd z), g3⟩
    simp [-Int.natCast_shiftRight, -Int.natCast_shiftLeft, -Int.natCast_add, -Int.natCast_mul, -Int.natCast_ediv, -Int.natCast_emod, -Int.natCast_pow, add_n, add1_n, mul_n, mod_n, div_n, or_n, and_n, xor_n, shl_n', shr_n', Is, fnD, xSeq, xAsg, xIf, xSet, xPar, xRet, xFor, xAug, gSet, gTupD, gsCons, gsNil, evOp, evVar, evC, evUn, evChain, asD, ofD, retD, iceO, asB, thenS, Out.bind, Rs.bind, vw, setD, free, mul_c, div_c, mod_c, shl_c, shl1_c, shr_c, op2I0_c, fEqS, D.sc, scal, evCall, evCons, evNil, evTup, evConsD, evNilD, evBits, lift, vAnd, vOr, vNot, xDrop, evAppend, ownL, xSetO, xNext, evLst, Option.bind, mAnd, mOr, mNot, mIf, List.replicate, clos, c, show 0 < p by omega]
/-- what the found primes are -/
structure PrI (N n p : Nat) (ps : List Nat) : Prop where
  n1 : 1 ≤ n
  dv : n ∣ N
  p2 : 2 ≤ p
  pN : p ≤ N + 2
  len : ps.length ≤ p
  two : ∀ q ∈ ps, 2 ≤ q ∧ q ≤ N
  low : NoLow n p
  cov : ∀ d, d ∣ N → (∃ q ∈ ps, q ∣ d) ∨ d ∣ n
theorem primes_outer {N : Nat} (h1 : 1 ≤ N) (h2 : N ≤ 900000) : ∃ ρ', whileN (asB (evOp fLe (evOp fMul (evVar 2) (evVar 2)) (evVar 0)))
    (xSeq (xIf (asB (evOp (fEqS false) (evOp fMod (evVar 0) (evVar 2)) (evC (.int 0))))
        (xDrop (evAppend 1 (asD (evVar 2))))
        xNext)
      (xSeq (whileN (asB (evOp (fEqS false) (evOp fMod (evVar 0) (evVar 2)) (evC (.int 0))))
        (xSet 0 (asD (evOp fDiv (evVar 0) (evVar 2)))) 1000000)
      (xAug 2 fAdd (evC (.int 1))))) 1000000 [.dat (.int N), .own false (.lst []), .dat (.int 2)] = .nx ρ' ∧
    ∃ (n p : Nat) (ps : List Nat), ρ' = [.dat (.int n), .own false (.lst (ps.map fun p : Nat => D.int p)), .dat (.int p)] ∧ PrI N n p ps ∧ n < p * p := by
  refine while_by (fun m ρ => ∃ (n p : Nat) (ps : List Nat), ρ = [.dat (.int n), .own false (.lst (ps.map fun p : Nat => D.int p)), .dat (.int p)] ∧ PrI N n p ps ∧ m = N + 2 - p) _ (fun m ρ hi => ?_) _ N _ (by omega) ⟨N, 2, [], rfl, ⟨h1, Nat.dvd_refl _, Nat.le_refl _, by omega, by simp, by simp, fun d hd _ => hd, fun d h => .inr h⟩, by omega⟩
  obtain ⟨n, p, ps, rfl, I, hm⟩ := hi
  obtain ⟨g1, gd, g3, g4, g5, g6, g7, g8⟩ := I
  have g2 : n ≤ N := Nat.le_of_dvd (by omega) gd
  have hc : CMul (p : Int) (p : Int) := cmul_n (by omega)
  by_cases c : p * p ≤ n
  · right
    have hpn : p ≤ N := by
      have : p * 1 ≤ p * p := Nat.mul_le_mul_left _ (by omega)
      omega
    have hsz : ps.length < sizeLine := by
      rw [sizeLine_eq]; omega
    by_cases cm : n % p = 0
    · have pd : p ∣ n := Nat.dvd_of_mod_eq_zero cm
      obtain ⟨ρ', e, n', rfl, z1, z2, z3, z4⟩ := primes_inner h2 n p (.lst ((ps ++ [p]).map fun p : Nat => D.int p)) g1 g2 g3 hpn
      refine ⟨[.dat (.int n), .own false (.lst (ps.map fun p : Nat => D.int p)), .dat (.int p)], [.dat (.int n'), .own false (.lst ((ps ++ [p]).map fun p : Nat => D.int p)), .dat (.int (p + 1 : Nat))], N + 2 - (p + 1), ?_, ?_, by omega, n', p + 1, ps ++ [p], rfl, ⟨z1, Nat.dvd_trans z2 gd, by omega, by omega, by simp; omega, fun q hq => ?_, fun d hd hdn => ?_, fun d hd => ?_⟩, rfl⟩
      · simp [-Int.natCast_shiftRight, -Int.natCast_shiftLeft, -Int.natCast_add, -Int.natCast_mul, -Int.natCast_ediv, -Int.natCast_emod, -Int.natCast_pow, add_n, add1_n, mul_n, mod_n, div_n, or_n, and_n, xor_n, shl_n', shr_n', Is, fnD, xSeq, xAsg, xIf, xSet, xPar, xRet, xFor, xAug, gSet, gTupD, gsCons, gsNil, evOp, evVar, evC, evUn, evChain, asD, ofD, retD, iceO, asB, thenS, Out.bind, Rs.bind, vw, setD, free, mul_c, div_c, mod_c, shl_c, shl1_c, shr_c, op2I0_c, fEqS, D.sc, scal, evCall, evCons, evNil, evTup, evConsD, evNilD, evBits, lift, vAnd, vOr, vNot, xDrop, evAppend, ownL, xSetO, xNext, evLst, Option.bind, mAnd, mOr, mNot, mIf, List.replicate, clos, hc, c]
      · refine seq_nx (ρ1 := [.dat (.int n), .own false (.lst ((ps ++ [p]).map fun p : Nat => D.int p)), .dat (.int p)]) ?_ (seq_nx e ?_)
        · simp [-Int.natCast_shiftRight, -Int.natCast_shiftLeft, -Int.natCast_add, -Int.natCast_mul, -Int.natCast_ediv, -Int.natCast_emod, -Int.natCast_pow, add_n, add1_n, mul_n, mod_n, div_n, or_n, and_n, xor_n, shl_n', shr_n', Is, fnD, xSeq, xAsg, xIf, xSet, xPar, xRet, xFor, xAug, gSet, gTupD, gsCons, gsNil, evOp, evVar, evC, evUn, evChain, asD, ofD, retD, iceO, asB, thenS, Out.bind, Rs.bind, vw, setD, free, mul_c, div_c, mod_c, shl_c, shl1_c, shr_c, op2I0_c, fEqS, D.sc, scal, evCall, evCons, evNil, evTup, evConsD, evNilD, evBits, lift, vAnd, vOr, vNot, xDrop, evAppend, ownL, xSetO, xNext, evLst, Option.bind, mAnd, mOr, mNot, mIf, List.replicate, clos, cm, show 0 < p by omega, hsz]
        · simp [-Int.natCast_shiftRight, -Int.natCast_shiftLeft, -Int.natCast_add, -Int.natCast_mul, -Int.natCast_ediv, -Int.natCast_emod, -Int.natCast_pow, add_n, add1_n, mul_n, mod_n, div_n, or_n, and_n, xor_n, shl_n', shr_n', Is, fnD, xSeq, xAsg, xIf, xSet, xPar, xRet, xFor, xAug, gSet, gTupD, gsCons, gsNil, evOp, evVar, evC, evUn, evChain, asD, ofD, retD, iceO, asB, thenS, Out.bind, Rs.bind, vw, setD, free, mul_c, div_c, mod_c, shl_c, shl1_c, shr_c, op2I0_c, fEqS, D.sc, scal, evCall, evCons, evNil, evTup, evConsD, evNilD, evBits, lift, vAnd, vOr, vNot, xDrop, evAppend, ownL, xSetO, xNext, evLst, Option.bind, mAnd, mOr, mNot, mIf, List.replicate, clos]
      · rcases List.mem_append.mp hq with hq | hq
        · exact g6 q hq
        · simp at hq
          omega
      · have := g7 d hd (Nat.dvd_trans hdn z2)
        have : d ≠ p := fun z => z3 (z ▸ hdn)
        omega
      · rcases g8 d hd with ⟨q, hq, z⟩ | z
        · exact .inl ⟨q, List.mem_append_left _ hq, z⟩
        · by_cases cp : p ∣ d
          · exact .inl ⟨p, by simp, cp⟩
          · exact .inr (z4 d (prime_co g7 g3 pd cp) z)
    · obtain ⟨ρ', e, n', rfl, z1, z2, z3, z4⟩ := primes_inner h2 n p (.lst (ps.map fun p : Nat => D.int p)) g1 g2 g3 hpn
      refine ⟨[.dat (.int n), .own false (.lst (ps.map fun p : Nat => D.int p)), .dat (.int p)], [.dat (.int n'), .own false (.lst (ps.map fun p : Nat => D.int p)), .dat (.int (p + 1 : Nat))], N + 2 - (p + 1), ?_, ?_, by omega, n', p + 1, ps, rfl, ⟨z1, Nat.dvd_trans z2 gd, by omega, by omega, by omega, g6, fun d hd hdn => ?_, fun d hd => ?_⟩, rfl⟩
      · simp [-Int.natCast_shiftRight, -Int.natCast_shiftLeft, -Int.natCast_add, -Int.natCast_mul, -Int.natCast_ediv, -Int.natCast_emod, -Int.natCast_pow, add_n, add1_n, mul_n, mod_n, div_n, or_n, and_n, xor_n, shl_n', shr_n', Is, fnD, xSeq, xAsg, xIf, xSet, xPar, xRet, xFor, xAug, gSet, gTupD, gsCons, gsNil, evOp, evVar, evC, evUn, evChain, asD, ofD, retD, iceO, asB, thenS, Out.bind, Rs.bind, vw, setD, free, mul_c, div_c, mod_c, shl_c, shl1_c, shr_c, op2I0_c, fEqS, D.sc, scal, evCall, evCons, evNil, evTup, evConsD, evNilD, evBits, lift, vAnd, vOr, vNot, xDrop, evAppend, ownL, xSetO, xNext, evLst, Option.bind, mAnd, mOr, mNot, mIf, List.replicate, clos, hc, c]
      · refine seq_nx (ρ1 := [.dat (.int n), .own false (.lst (ps.map fun p : Nat => D.int p)), .dat (.int p)]) ?_ (seq_nx e ?_)
        · simp [-Int.natCast_shiftRight, -Int.natCast_shiftLeft, -Int.natCast_add, -Int.natCast_mul, -Int.natCast_ediv, -Int.natCast_emod, -Int.natCast_pow, add_n, add1_n, mul_n, mod_n, div_n, or_n, and_n, xor_n, shl_n', shr_n', Is, fnD, xSeq, xAsg, xIf, xSet, xPar, xRet, xFor, xAug, gSet, gTupD, gsCons, gsNil, evOp, evVar, evC, evUn, evChain, asD, ofD, retD, iceO, asB, thenS, Out.bind, Rs.bind, vw, setD, free, mul_c, div_c, mod_c, shl_c, shl1_c, shr_c, op2I0_c, fEqS, D.sc, scal, evCall, evCons, evNil, evTup, evConsD, evNilD, evBits, lift, vAnd, vOr, vNot, xDrop, evAppend, ownL, xSetO, xNext, evLst, Option.bind, mAnd, mOr, mNot, mIf, List.replicate, clos, cm, show 0 < p by omega]
        · simp [-Int.natCast_shiftRight, -Int.natCast_shiftLeft, -Int.natCast_add, -Int.natCast_mul, -Int.natCast_ediv, -Int.natCast_emod, -Int.natCast_pow, add_n, add1_n, mul_n, mod_n, div_n, or_n, and_n, xor_n, shl_n', shr_n', Is, fnD, xSeq, xAsg, xIf, xSet, xPar, xRet, xFor, xAug, gSet, gTupD, gsCons, gsNil, evOp, evVar, evC, evUn, evChain, asD, ofD, retD, iceO, asB, thenS, Out.bind, Rs.bind, vw, setD, free, mul_c, div_c, mod_c, shl_c, shl1_c, shr_c, op2I0_c, fEqS, D.sc, scal, evCall, evCons, evNil, evTup, evConsD, evNilD, evBits, lift, vAnd, vOr, vNot, xDrop, evAppend, ownL, xSetO, xNext, evLst, Option.bind, mAnd, mOr, mNot, mIf, List.replicate, clos]
      · have := g7 d hd (Nat.dvd_trans hdn z2)
        have : d ≠ p := fun z => z3 (z ▸ hdn)
        omega
      · rcases g8 d hd with z | z
        · exact .inl z
        · -- nothing was divided
          have hnn : n' = n := by
            by_cases q : n' = n
            · exact q
            · exfalso
              obtain ⟨t, ht⟩ := z2
              have ht2 : 2 ≤ t := by
                rcases t with _ | _ | t
                · omega
                · omega
                · omega
              have hco : ¬ p ∣ n := fun z => cm (Nat.mod_eq_zero_of_dvd z)
              have := z4 n (by
                show Nat.gcd p n = 1
                have gg : Nat.gcd p n ∣ n := Nat.gcd_dvd_right p n
                have gp : Nat.gcd p n ∣ p := Nat.gcd_dvd_left p n
                have g0 : 0 < Nat.gcd p n := Nat.pos_of_dvd_of_pos gp (by omega)
                rcases Nat.lt_or_ge (Nat.gcd p n) 2 with c | c
                · omega
                · have h3 := g7 _ c gg
                  have h4 := Nat.le_of_dvd (by omega) gp
                  have : Nat.gcd p n = p := by omega
                  rw [this] at gg
                  exact absurd gg hco) (Nat.dvd_refl n)
              have := Nat.le_of_dvd (by omega) this
              have : n' ≤ n := by rw [ht]; exact Nat.le_mul_of_pos_right _ (by omega)
              omega
          exact .inr (hnn ▸ z)
  · left
    refine ⟨[.dat (.int n), .own false (.lst (ps.map fun p : Nat => D.int p)), .dat (.int p)], ?_, n, p, ps, rfl, ⟨g1, gd, g3, g4, g5, g6, g7, g8⟩, by omega⟩
    simp [-Int.natCast_shiftRight, -Int.natCast_shiftLeft, -Int.natCast_add, -Int.natCast_mul, -Int.natCast_ediv, -Int.natCast_emod, -Int.natCast_pow, add_n, add1_n, mul_n, mod_n, div_n, or_n, and_n, xor_n, shl_n', shr_n', Is, fnD, xSeq, xAsg, xIf, xSet, xPar, xRet, xFor, xAug, gSet, gTupD, gsCons, gsNil, evOp, evVar, evC, evUn, evChain, asD, ofD, retD, iceO, asB, thenS, Out.bind, Rs.bind, vw, setD, free, mul_c, div_c, mod_c, shl_c, shl1_c, shr_c, op2I0_c, fEqS, D.sc, scal, evCall, evCons, evNil, evTup, evConsD, evNilD, evBits, lift, vAnd, vOr, vNot, xDrop, evAppend, ownL, xSetO, xNext, evLst, Option.bind, mAnd, mOr, mNot, mIf, List.replicate, clos, hc, c]
theorem is_primes (N : Nat) (h1 : 1 ≤ N) (h2 : N ≤ 900000) : ∃ ps : List Nat, Is g_primes_of [.int N] (.lst (ps.map fun p : Nat => D.int p)) ∧ (∀ p ∈ ps, 2 ≤ p ∧ p ≤ N) ∧ ∀ d, 2 ≤ d → d ∣ N → ∃ q ∈ ps, q ∣ d := by
  obtain ⟨ρ', e, n, p, ps, rfl, I, hl⟩ := primes_outer h1 h2
  have hnN := Nat.le_of_dvd (by omega) I.dv
  have hpl := I.len
  have hpN := I.pN
  have hsz : ps.length < sizeLine := by
    rw [sizeLine_eq]; omega
  by_cases c : 1 < n
  · refine ⟨ps ++ [n], Is.of ⟨[.dat (.int n), .dat (.lst ((ps ++ [n]).map fun p : Nat => D.int p)), .dat (.int p)], ?_⟩, fun q hq => ?_, fun d hd hdN => ?_⟩
    · unfold x_primes_of
      refine seq_nx (ρ1 := [.dat (.int N), .own false (.lst []), .un]) (by simp [-Int.natCast_shiftRight, -Int.natCast_shiftLeft, -Int.natCast_add, -Int.natCast_mul, -Int.natCast_ediv, -Int.natCast_emod, -Int.natCast_pow, add_n, add1_n, mul_n, mod_n, div_n, or_n, and_n, xor_n, shl_n', shr_n', Is, fnD, xSeq, xAsg, xIf, xSet, xPar, xRet, xFor, xAug, gSet, gTupD, gsCons, gsNil, evOp, evVar, evC, evUn, evChain, asD, ofD, retD, iceO, asB, thenS, Out.bind, Rs.bind, vw, setD, free, mul_c, div_c, mod_c, shl_c, shl1_c, shr_c, op2I0_c, fEqS, D.sc, scal, evCall, evCons, evNil, evTup, evConsD, evNilD, evBits, lift, vAnd, vOr, vNot, xDrop, evAppend, ownL, xSetO, xNext, evLst, Option.bind, mAnd, mOr, mNot, mIf, List.replicate, clos]) (seq_nx (ρ1 := [.dat (.int N), .own false (.lst []), .dat (.int 2)]) (by simp [-Int.natCast_shiftRight, -Int.natCast_shiftLeft, -Int.natCast_add, -Int.natCast_mul, -Int.natCast_ediv, -Int.natCast_emod, -Int.natCast_pow, add_n, add1_n, mul_n, mod_n, div_n, or_n, and_n, xor_n, shl_n', shr_n', Is, fnD, xSeq, xAsg, xIf, xSet, xPar, xRet, xFor, xAug, gSet, gTupD, gsCons, gsNil, evOp, evVar, evC, evUn, evChain, asD, ofD, retD, iceO, asB, thenS, Out.bind, Rs.bind, vw, setD, free, mul_c, div_c, mod_c, shl_c, shl1_c, shr_c, op2I0_c, fEqS, D.sc, scal, evCall, evCons, evNil, evTup, evConsD, evNilD, evBits, lift, vAnd, vOr, vNot, xDrop, evAppend, ownL, xSetO, xNext, evLst, Option.bind, mAnd, mOr, mNot, mIf, List.replicate, clos]) (seq_nx e ?_))
      simp [-Int.natCast_shiftRight, -Int.natCast_shiftLeft, -Int.natCast_add, -Int.natCast_mul, -Int.natCast_ediv, -Int.natCast_emod, -Int.natCast_pow, add_n, add1_n, mul_n, mod_n, div_n, or_n, and_n, xor_n, shl_n', shr_n', Is, fnD, xSeq, xAsg, xIf, xSet, xPar, xRet, xFor, xAug, gSet, gTupD, gsCons, gsNil, evOp, evVar, evC, evUn, evChain, asD, ofD, retD, iceO, asB, thenS, Out.bind, Rs.bind, vw, setD, free, mul_c, div_c, mod_c, shl_c, shl1_c, shr_c, op2I0_c, fEqS, D.sc, scal, evCall, evCons, evNil, evTup, evConsD, evNilD, evBits, lift, vAnd, vOr, vNot, xDrop, evAppend, ownL, xSetO, xNext, evLst, Option.bind, mAnd, mOr, mNot, mIf, List.replicate, clos, show (1 : Int) < (n : Int) by omega, hsz, O.toD]
    · rcases List.mem_append.mp hq with hq | hq
      · exact I.two q hq
      · simp at hq
        omega
    · rcases I.cov d hdN with ⟨q, hq, z⟩ | z
      · exact ⟨q, List.mem_append_left _ hq, z⟩
      · refine ⟨n, by simp, ?_⟩
        have hdl := I.low d hd z
        obtain ⟨t, ht⟩ := z
        have htn : t ∣ n := ⟨d, by rw [ht, Nat.mul_comm]⟩
        rcases Nat.lt_or_ge t 2 with ct | ct
        · have : t = 1 := by
            rcases t with _ | _ | t
            · simp at ht; omega
            · rfl
            · omega
          rw [this, Nat.mul_one] at ht
          rw [ht]
          exact Nat.dvd_refl _
        · have htl := I.low t ct htn
          have : p * p ≤ d * t := Nat.mul_le_mul hdl htl
          omega
  · refine ⟨ps, Is.of ⟨[.dat (.int n), .dat (.lst (ps.map fun p : Nat => D.int p)), .dat (.int p)], ?_⟩, I.two, fun d hd hdN => ?_⟩
    · unfold x_primes_of
      refine seq_nx (ρ1 := [.dat (.int N), .own false (.lst []), .un]) (by simp [-Int.natCast_shiftRight, -Int.natCast_shiftLeft, -Int.natCast_add, -Int.natCast_mul, -Int.natCast_ediv, -Int.natCast_emod, -Int.natCast_pow, add_n, add1_n, mul_n, mod_n, div_n, or_n, and_n, xor_n, shl_n', shr_n', Is, fnD, xSeq, xAsg, xIf, xSet, xPar, xRet, xFor, xAug, gSet, gTupD, gsCons, gsNil, evOp, evVar, evC, evUn, evChain, asD, ofD, retD, iceO, asB, thenS, Out.bind, Rs.bind, vw, setD, free, mul_c, div_c, mod_c, shl_c, shl1_c, shr_c, op2I0_c, fEqS, D.sc, scal, evCall, evCons, evNil, evTup, evConsD, evNilD, evBits, lift, vAnd, vOr, vNot, xDrop, evAppend, ownL, xSetO, xNext, evLst, Option.bind, mAnd, mOr, mNot, mIf, List.replicate, clos]) (seq_nx (ρ1 := [.dat (.int N), .own false (.lst []), .dat (.int 2)]) (by simp [-Int.natCast_shiftRight, -Int.natCast_shiftLeft, -Int.natCast_add, -Int.natCast_mul, -Int.natCast_ediv, -Int.natCast_emod, -Int.natCast_pow, add_n, add1_n, mul_n, mod_n, div_n, or_n, and_n, xor_n, shl_n', shr_n', Is, fnD, xSeq, xAsg, xIf, xSet, xPar, xRet, xFor, xAug, gSet, gTupD, gsCons, gsNil, evOp, evVar, evC, evUn, evChain, asD, ofD, retD, iceO, asB, thenS, Out.bind, Rs.bind, vw, setD, free, mul_c, div_c, mod_c, shl_c, shl1_c, shr_c, op2I0_c, fEqS, D.sc, scal, evCall, evCons, evNil, evTup, evConsD, evNilD, evBits, lift, vAnd, vOr, vNot, xDrop, evAppend, ownL, xSetO, xNext, evLst, Option.bind, mAnd, mOr, mNot, mIf, List.replicate, clos]) (seq_nx e ?_))
      simp [-Int.natCast_shiftRight, -Int.natCast_shiftLeft, -Int.natCast_add, -Int.natCast_mul, -Int.natCast_ediv, -Int.natCast_emod, -Int.natCast_pow, add_n, add1_n, mul_n, mod_n, div_n, or_n, and_n, xor_n, shl_n', shr_n', Is, fnD, xSeq, xAsg, xIf, xSet, xPar, xRet, xFor, xAug, gSet, gTupD, gsCons, gsNil, evOp, evVar, evC, evUn, evChain, asD, ofD, retD, iceO, asB, thenS, Out.bind, Rs.bind, vw, setD, free, mul_c, div_c, mod_c, shl_c, shl1_c, shr_c, op2I0_c, fEqS, D.sc, scal, evCall, evCons, evNil, evTup, evConsD, evNilD, evBits, lift, vAnd, vOr, vNot, xDrop, evAppend, ownL, xSetO, xNext, evLst, Option.bind, mAnd, mOr, mNot, mIf, List.replicate, clos, show ¬ (1 : Int) < (n : Int) by omega, O.toD]
    · rcases I.cov d hdN with z | z
      · exact z
      · have := Nat.le_of_dvd I.n1 z
        omega

theorem again_bits {b q n : Nat} (h : (b ^^^ (b >>> q)) % 2 ^ n = 0) : ∀ k, k < n → b.testBit k = b.testBit (k + q) := by
  intro k hk
  have e : ((b ^^^ (b >>> q)) % 2 ^ n).testBit k = false := by rw [h]; exact Nat.zero_testBit k
  rw [Nat.testBit_mod_two_pow, Nat.testBit_xor, Nat.testBit_shiftRight] at e
  simp only [hk, decide_true, Bool.true_and] at e
  rw [Nat.add_comm q k] at e
  cases h1 : b.testBit k <;> cases h2 : b.testBit (k + q) <;> rw [h1, h2] at e <;> first | rfl | cases e
theorem again_all {b q p : Nat} (hq : 0 < q) (h : ∀ k, k < p - q → b.testBit k = b.testBit (k + q)) : ∀ k, k < p → b.testBit k = b.testBit (k % q) := by
  intro k
  induction k using Nat.strongRecOn with
  | ind k ih =>
    intro hk
    by_cases c : k < q
    · rw [Nat.mod_eq_of_lt c]
    · have e := h (k - q) (by omega)
      rw [show k - q + q = k by omega] at e
      rw [← e, ih (k - q) (by omega) (by omega)]
      rw [Nat.mod_eq_sub_mod (by omega : k ≥ q)]
/-- comes again after m -/
def Per (f : Nat → Bool) (m : Nat) : Prop := ∀ n, f (n + m) = f n
theorem Per.mul {f : Nat → Bool} {m : Nat} (h : Per f m) : ∀ k, Per f (k * m)
  | 0, n => by simp
  | k + 1, n => by rw [Nat.succ_mul, ← Nat.add_assoc, h, Per.mul h k]
theorem Per.of_dvd {f : Nat → Bool} {m n : Nat} (h : Per f m) (d : m ∣ n) : Per f n := by
  obtain ⟨t, rfl⟩ := d
  rw [Nat.mul_comm]
  exact h.mul t
theorem Per.mod {f : Nat → Bool} {m p : Nat} (h : Per f m) (g : Per f p) : Per f (p % m) := fun n => by
  have e := g n
  have : n + p = n + p % m + p / m * m := by
    have := Nat.mod_add_div p m
    rw [Nat.mul_comm] at this
    omega
  rw [this, h.mul] at e
  exact e
/-- the least period divides every other -/
theorem least_per {f : Nat → Bool} {p : Nat} (hp : 0 < p) (h : Per f p) : ∃ m, 0 < m ∧ Per f m ∧ ∀ q, Per f q → m ∣ q := by
  induction p using Nat.strongRecOn with
  | ind p ih =>
    by_cases c : ∃ q, Per f q ∧ ¬ p ∣ q
    · obtain ⟨q, hq, hd⟩ := c
      have : 0 < q % p := Nat.pos_of_ne_zero fun z => hd (Nat.dvd_of_mod_eq_zero z)
      exact ih (q % p) (Nat.mod_lt _ hp) this (h.mod hq)
    · exact ⟨p, hp, h, fun q hq => Classical.byContradiction fun z => c ⟨q, hq, z⟩⟩
/-- the cycle (P, B), for all naturals -/
def cyc (P B n : Nat) : Bool := B.testBit (n % P)
theorem cyc_per (P B : Nat) : Per (cyc P B) P := fun n => by simp [cyc]
/-- a shorter cycle of the same -/
def Cyc (P B p b : Nat) : Prop := 0 < p ∧ p ∣ P ∧ b < 2 ^ p ∧ ∀ k, k < P → B.testBit k = b.testBit (k % p)
theorem Cyc.eq {P B p b : Nat} (hP : 0 < P) (h : Cyc P B p b) : cyc P B = cyc p b := by
  funext n
  unfold cyc
  rw [h.2.2.2 _ (Nat.mod_lt _ hP), Nat.mod_mod_of_dvd _ h.2.1]
theorem Cyc.less {P B p b q : Nat} (hP : 0 < P) (h : Cyc P B p b) (hq : 0 < q) (hd : q ∣ p) (ha : (b ^^^ (b >>> q)) % 2 ^ (p - q) = 0) : Cyc P B q (b % 2 ^ q) := by
  obtain ⟨h1, h2, h3, h4⟩ := h
  refine ⟨hq, Nat.dvd_trans hd h2, Nat.mod_lt _ (Nat.two_pow_pos _), fun k hk => ?_⟩
  rw [h4 k hk, again_all hq (again_bits ha) (k % p) (Nat.mod_lt _ h1), Nat.mod_mod_of_dvd _ hd, Nat.testBit_mod_two_pow]
  simp [Nat.mod_lt _ hq]
theorem again_of {p b q : Nat} (hqp : q ≤ p) (h : Per (cyc p b) q) : (b ^^^ (b >>> q)) % 2 ^ (p - q) = 0 := by
  apply Nat.eq_of_testBit_eq
  intro k
  rw [Nat.testBit_mod_two_pow, Nat.testBit_xor, Nat.testBit_shiftRight, Nat.zero_testBit]
  by_cases c : k < p - q
  · have e := h k
    simp only [cyc] at e
    rw [Nat.mod_eq_of_lt (show k + q < p by omega), Nat.mod_eq_of_lt (show k < p by omega), Nat.add_comm] at e
    simp [c, e]
  · simp [c]
theorem cycle_inner {P B : Nat} (hP : 0 < P) (hN : P ≤ 900000) : ∀ (p b q : Nat), Cyc P B p b → 2 ≤ q → q ≤ 900000 → ∃ ρ', whileN (mAnd (asB (evOp (fEqS false) (evOp fMod (evVar 0) (evVar 2)) (evC (.int 0)))) (asB (ofD (retD (evCall g_is_again_after (evCons (ofD (asD (evVar 0))) (evCons (ofD (asD (evVar 1))) (evCons (ofD (asD (evOp fDiv (evVar 0) (evVar 2)))) evNil))))))))
          (xSeq (xSet 0 (asD (evOp fDiv (evVar 0) (evVar 2))))
            (xSet 1 (asD (evOp fAnd (evVar 1) (ofD (retD (evCall g_mask_of (evCons (ofD (asD (evVar 0))) evNil)))))))) 1000000 [.dat (.int p), .dat (.int b), .dat (.int q)] = .nx ρ' ∧
      ∃ p' b' : Nat, ρ' = [.dat (.int p'), .dat (.int b'), .dat (.int q)] ∧ Cyc P B p' b' ∧ p' ∣ p ∧ (q ∣ p' → ¬ Per (cyc P B) (p' / q)) := by
  intro p b q hc h2 h3
  have hpP : p ≤ P := Nat.le_of_dvd hP hc.2.1
  refine while_by (fun m ρ => ∃ p' b' : Nat, ρ = [.dat (.int p'), .dat (.int b'), .dat (.int q)] ∧ Cyc P B p' b' ∧ p' ∣ p ∧ m = p') _ (fun m ρ hi => ?_) _ p _ (by omega) ⟨p, b, rfl, hc, Nat.dvd_refl _, rfl⟩
  obtain ⟨p', b', rfl, g, gp, hm⟩ := hi
  have hp' : p' ≤ P := Nat.le_of_dvd hP g.2.1
  have hp0 := g.1
  by_cases c : p' % q = 0
  · have hdq : q ∣ p' := Nat.dvd_of_mod_eq_zero c
    have hd : p' / q ∣ p' := Nat.div_dvd_of_dvd hdq
    have hl : p' / q < p' := Nat.div_lt_self g.1 (by omega)
    have hz : 0 < p' / q := Nat.pos_of_dvd_of_pos hd g.1
    have ia := (is_again p' b' (p' / q) (by omega) (by omega)).c3
    by_cases ca : (b' ^^^ (b' >>> (p' / q))) % 2 ^ (p' - p' / q) = 0
    · right
      refine ⟨[.dat (.int p'), .dat (.int b'), .dat (.int q)], [.dat (.int (p' / q : Nat)), .dat (.int (b' % 2 ^ (p' / q) : Nat)), .dat (.int q)], p' / q, ?_, ?_, by omega, _, _, rfl, g.less hP hz hd ca, Nat.dvd_trans hd gp, rfl⟩
      · simp [-Int.natCast_shiftRight, -Int.natCast_shiftLeft, -Int.natCast_add, -Int.natCast_mul, -Int.natCast_ediv, -Int.natCast_emod, -Int.natCast_pow, add_n, add1_n, mul_n, mod_n, div_n, or_n, and_n, xor_n, shl_n', shr_n', Is, fnD, xSeq, xAsg, xIf, xSet, xPar, xRet, xFor, xAug, gSet, gTupD, gsCons, gsNil, evOp, evVar, evC, evUn, evChain, asD, ofD, retD, iceO, asB, thenS, Out.bind, Rs.bind, vw, setD, free, mul_c, div_c, mod_c, shl_c, shl1_c, shr_c, op2I0_c, fEqS, D.sc, scal, evCall, evCons, evNil, evTup, evConsD, evNilD, evBits, lift, vAnd, vOr, vNot, xDrop, evAppend, ownL, xSetO, xNext, evLst, Option.bind, mAnd, mOr, mNot, mIf, List.replicate, clos, c, show 0 < q by omega, cdiv_n (a := p') (b := q) (by omega) (by omega), ia, ca]
      · simp [-Int.natCast_shiftRight, -Int.natCast_shiftLeft, -Int.natCast_add, -Int.natCast_mul, -Int.natCast_ediv, -Int.natCast_emod, -Int.natCast_pow, add_n, add1_n, mul_n, mod_n, div_n, or_n, and_n, xor_n, shl_n', shr_n', Is, fnD, xSeq, xAsg, xIf, xSet, xPar, xRet, xFor, xAug, gSet, gTupD, gsCons, gsNil, evOp, evVar, evC, evUn, evChain, asD, ofD, retD, iceO, asB, thenS, Out.bind, Rs.bind, vw, setD, free, mul_c, div_c, mod_c, shl_c, shl1_c, shr_c, op2I0_c, fEqS, D.sc, scal, evCall, evCons, evNil, evTup, evConsD, evNilD, evBits, lift, vAnd, vOr, vNot, xDrop, evAppend, ownL, xSetO, xNext, evLst, Option.bind, mAnd, mOr, mNot, mIf, List.replicate, clos, cdiv_n (a := p') (b := q) (by omega) (by omega), (is_mask (p' / q) (by omega)).c1]
    · left
      refine ⟨[.dat (.int p'), .dat (.int b'), .dat (.int q)], ?_, p', b', rfl, g, gp, fun _ hper => ca (again_of (by omega) (g.eq hP ▸ hper))⟩
      simp [-Int.natCast_shiftRight, -Int.natCast_shiftLeft, -Int.natCast_add, -Int.natCast_mul, -Int.natCast_ediv, -Int.natCast_emod, -Int.natCast_pow, add_n, add1_n, mul_n, mod_n, div_n, or_n, and_n, xor_n, shl_n', shr_n', Is, fnD, xSeq, xAsg, xIf, xSet, xPar, xRet, xFor, xAug, gSet, gTupD, gsCons, gsNil, evOp, evVar, evC, evUn, evChain, asD, ofD, retD, iceO, asB, thenS, Out.bind, Rs.bind, vw, setD, free, mul_c, div_c, mod_c, shl_c, shl1_c, shr_c, op2I0_c, fEqS, D.sc, scal, evCall, evCons, evNil, evTup, evConsD, evNilD, evBits, lift, vAnd, vOr, vNot, xDrop, evAppend, ownL, xSetO, xNext, evLst, Option.bind, mAnd, mOr, mNot, mIf, List.replicate, clos, c, show 0 < q by omega, cdiv_n (a := p') (b := q) (by omega) (by omega), ia, ca]
  · left
    refine ⟨[.dat (.int p'), .dat (.int b'), .dat (.int q)], ?_, p', b', rfl, g, gp, fun z => absurd (Nat.mod_eq_zero_of_dvd z) c⟩
    simp [-Int.natCast_shiftRight, -Int.natCast_shiftLeft, -Int.natCast_add, -Int.natCast_mul, -Int.natCast_ediv, -Int.natCast_emod, -Int.natCast_pow, add_n, add1_n, mul_n, mod_n, div_n, or_n, and_n, xor_n, shl_n', shr_n', Is, fnD, xSeq, xAsg, xIf, xSet, xPar, xRet, xFor, xAug, gSet, gTupD, gsCons, gsNil, evOp, evVar, evC, evUn, evChain, asD, ofD, retD, iceO, asB, thenS, Out.bind, Rs.bind, vw, setD, free, mul_c, div_c, mod_c, shl_c, shl1_c, shr_c, op2I0_c, fEqS, D.sc, scal, evCall, evCons, evNil, evTup, evConsD, evNilD, evBits, lift, vAnd, vOr, vNot, xDrop, evAppend, ownL, xSetO, xNext, evLst, Option.bind, mAnd, mOr, mNot, mIf, List.replicate, clos, c, show 0 < q by omega]
theorem is_least_cycle (P B : Nat) (hP : 0 < P) (hN : P ≤ 900000) (hB : B < 2 ^ P) : ∃ p b : Nat, Is g_least_cycle [.int P, .int B] (.tup [.int p, .int b]) ∧ Cyc P B p b ∧ ∀ m, 0 < m → Per (cyc P B) m → p ≤ m := by
  obtain ⟨ps, hp1, hp2, hp3⟩ := is_primes P hP hN
  have hloop := for_by (eg := gSet 2) (b := whileN (mAnd (asB (evOp (fEqS false) (evOp fMod (evVar 0) (evVar 2)) (evC (.int 0)))) (asB (ofD (retD (evCall g_is_again_after (evCons (ofD (asD (evVar 0))) (evCons (ofD (asD (evVar 1))) (evCons (ofD (asD (evOp fDiv (evVar 0) (evVar 2)))) evNil))))))))
          (xSeq (xSet 0 (asD (evOp fDiv (evVar 0) (evVar 2))))
            (xSet 1 (asD (evOp fAnd (evVar 1) (ofD (retD (evCall g_mask_of (evCons (ofD (asD (evVar 0))) evNil)))))))) 1000000)
    (fun r ρ => ∃ (qs : List Nat) (p b : Nat) (x : Sl), r = qs.map (fun p : Nat => D.int p) ∧ (∀ q ∈ qs, 2 ≤ q ∧ q ≤ P) ∧ (∀ q ∈ ps, q ∈ qs ∨ (q ∣ p → ¬ Per (cyc P B) (p / q))) ∧ ρ = [.dat (.int p), .dat (.int b), x] ∧ (x = .un ∨ ∃ d, x = .dat d) ∧ Cyc P B p b) (fun d r ρ hi => ?_)
    (ps.map fun p : Nat => D.int p) [.dat (.int P), .dat (.int B), .un] ⟨ps, P, B, .un, rfl, hp2, fun q hq => .inl hq, rfl, .inl rfl, hP, Nat.dvd_refl _, hB, fun k hk => by rw [Nat.mod_eq_of_lt hk]⟩
  · obtain ⟨ρ', e, qs, p, b, x, hr, _, hq0, rfl, _, hc⟩ := hloop
    have hqs : qs = [] := by
      cases qs with
      | nil => rfl
      | cons a l => cases hr
    subst hqs
    refine ⟨p, b, Is.of ⟨[.dat (.int p), .dat (.int b), x], ?_⟩, hc, fun m hm hper => ?_⟩
    · unfold x_least_cycle
      refine seq_nx (ρ1 := [.dat (.int p), .dat (.int b), x]) ?_ ?_
      · show xFor _ _ _ _ = _
        unfold xFor
        have e0 : seqL (retD (evCall g_primes_of (evCons (ofD (asD (evVar 0))) evNil))) [.dat (.int P), .dat (.int B), .un] = .ok (ps.map fun p : Nat => D.int p) [.dat (.int P), .dat (.int B), .un] := by
          simp [-Int.natCast_shiftRight, -Int.natCast_shiftLeft, -Int.natCast_add, -Int.natCast_mul, -Int.natCast_ediv, -Int.natCast_emod, -Int.natCast_pow, add_n, add1_n, mul_n, mod_n, div_n, or_n, and_n, xor_n, shl_n', shr_n', Is, fnD, xSeq, xAsg, xIf, xSet, xPar, xRet, xFor, xAug, gSet, gTupD, gsCons, gsNil, evOp, evVar, evC, evUn, evChain, asD, ofD, retD, iceO, asB, thenS, Out.bind, Rs.bind, vw, setD, free, mul_c, div_c, mod_c, shl_c, shl1_c, shr_c, op2I0_c, fEqS, D.sc, scal, evCall, evCons, evNil, evTup, evConsD, evNilD, evBits, lift, vAnd, vOr, vNot, xDrop, evAppend, ownL, xSetO, xNext, evLst, Option.bind, mAnd, mOr, mNot, mIf, List.replicate, clos, seqL, hp1.c1]
        show thenS (seqL _ [.dat (.int P), .dat (.int B), .un]) _ = _
        rw [e0]
        exact e
      · simp [-Int.natCast_shiftRight, -Int.natCast_shiftLeft, -Int.natCast_add, -Int.natCast_mul, -Int.natCast_ediv, -Int.natCast_emod, -Int.natCast_pow, add_n, add1_n, mul_n, mod_n, div_n, or_n, and_n, xor_n, shl_n', shr_n', Is, fnD, xSeq, xAsg, xIf, xSet, xPar, xRet, xFor, xAug, gSet, gTupD, gsCons, gsNil, evOp, evVar, evC, evUn, evChain, asD, ofD, retD, iceO, asB, thenS, Out.bind, Rs.bind, vw, setD, free, mul_c, div_c, mod_c, shl_c, shl1_c, shr_c, op2I0_c, fEqS, D.sc, scal, evCall, evCons, evNil, evTup, evConsD, evNilD, evBits, lift, vAnd, vOr, vNot, xDrop, evAppend, ownL, xSetO, xNext, evLst, Option.bind, mAnd, mOr, mNot, mIf, List.replicate, clos, sizeLine_eq]
    · obtain ⟨m0, z1, z2, z3⟩ := least_per hP (cyc_per P B)
      have hpp : Per (cyc P B) p := by rw [hc.eq hP]; exact cyc_per p b
      obtain ⟨t, ht⟩ := z3 p hpp
      have hm0 : m0 ≤ m := Nat.le_of_dvd hm (z3 m hper)
      rcases Nat.lt_or_ge t 2 with ct | ct
      · have : t = 1 := by
          have := hc.1
          rcases t with _ | _ | t
          · simp at ht; omega
          · rfl
          · omega
        rw [this, Nat.mul_one] at ht
        omega
      · exfalso
        have htP : t ∣ P := Nat.dvd_trans ⟨m0, by rw [ht, Nat.mul_comm]⟩ hc.2.1
        obtain ⟨q, hq, hqt⟩ := hp3 t ct htP
        obtain ⟨u, hu⟩ := hqt
        have hq2 := hp2 q hq
        have hqp : q ∣ p := ⟨m0 * u, by rw [ht, hu]; simp [Nat.mul_left_comm, Nat.mul_comm, Nat.mul_assoc]⟩
        have hdiv : p / q = m0 * u := by
          rw [ht, hu, show m0 * (q * u) = q * (m0 * u) by simp [Nat.mul_left_comm], Nat.mul_div_cancel_left _ (by omega)]
        rcases hq0 q hq with z | z
        · cases z
        · exact z hqp (hdiv ▸ z2.of_dvd ⟨u, rfl⟩)
  · obtain ⟨qs, p, b, x, hr, hq, hq0, rfl, hx, hc⟩ := hi
    cases qs with
    | nil => cases hr
    | cons q qs =>
      simp only [List.map_cons, List.cons.injEq] at hr
      obtain ⟨rfl, rfl⟩ := hr
      have hq2 := hq q List.mem_cons_self
      obtain ⟨ρ', e, p', b', rfl, hc', hpp, hno⟩ := cycle_inner hP hN p b q hc hq2.1 (by omega)
      refine ⟨[.dat (.int p), .dat (.int b), .dat (.int q)], _, ?_, e, qs, p', b', .dat (.int q), rfl, fun z hz => hq z (List.mem_cons_of_mem _ hz), fun z hz => ?_, rfl, .inr ⟨_, rfl⟩, hc'⟩
      · rcases hx with rfl | ⟨d, rfl⟩
        · simp [-Int.natCast_shiftRight, -Int.natCast_shiftLeft, -Int.natCast_add, -Int.natCast_mul, -Int.natCast_ediv, -Int.natCast_emod, -Int.natCast_pow, add_n, add1_n, mul_n, mod_n, div_n, or_n, and_n, xor_n, shl_n', shr_n', Is, fnD, xSeq, xAsg, xIf, xSet, xPar, xRet, xFor, xAug, gSet, gTupD, gsCons, gsNil, evOp, evVar, evC, evUn, evChain, asD, ofD, retD, iceO, asB, thenS, Out.bind, Rs.bind, vw, setD, free, mul_c, div_c, mod_c, shl_c, shl1_c, shr_c, op2I0_c, fEqS, D.sc, scal, evCall, evCons, evNil, evTup, evConsD, evNilD, evBits, lift, vAnd, vOr, vNot, xDrop, evAppend, ownL, xSetO, xNext, evLst, Option.bind, mAnd, mOr, mNot, mIf, List.replicate, clos]
        · simp [-Int.natCast_shiftRight, -Int.natCast_shiftLeft, -Int.natCast_add, -Int.natCast_mul, -Int.natCast_ediv, -Int.natCast_emod, -Int.natCast_pow, add_n, add1_n, mul_n, mod_n, div_n, or_n, and_n, xor_n, shl_n', shr_n', Is, fnD, xSeq, xAsg, xIf, xSet, xPar, xRet, xFor, xAug, gSet, gTupD, gsCons, gsNil, evOp, evVar, evC, evUn, evChain, asD, ofD, retD, iceO, asB, thenS, Out.bind, Rs.bind, vw, setD, free, mul_c, div_c, mod_c, shl_c, shl1_c, shr_c, op2I0_c, fEqS, D.sc, scal, evCall, evCons, evNil, evTup, evConsD, evNilD, evBits, lift, vAnd, vOr, vNot, xDrop, evAppend, ownL, xSetO, xNext, evLst, Option.bind, mAnd, mOr, mNot, mIf, List.replicate, clos]
      · rcases hq0 z hz with y | y
        · rcases List.mem_cons.mp y with rfl | y
          · exact .inr hno
          · exact .inl y
        · refine .inr fun hzp hper => ?_
          have hz2 := hp2 z hz
          have hzd : z ∣ p := Nat.dvd_trans hzp hpp
          refine y hzd (hper.of_dvd ?_)
          obtain ⟨a, rfl⟩ := hzp
          obtain ⟨t, rfl⟩ := hpp
          rw [Nat.mul_div_cancel_left _ (by omega), show z * a * t = z * (a * t) by rw [Nat.mul_assoc], Nat.mul_div_cancel_left _ (by omega)]
          exact ⟨t, rfl⟩

/-- whether n is of the rhythm (s, p, b) -/
def mem (s p b n : Nat) : Bool := b.testBit (if n < s then n else s + (n - s) % p)
theorem mem_lo {s p b n : Nat} (h : n < s) : mem s p b n = b.testBit n := by simp [mem, h]
theorem mem_hi {s p b n : Nat} (h : s ≤ n) : mem s p b n = b.testBit (s + (n - s) % p) := by simp [mem, show ¬ n < s by omega]
theorem mem_in {s p b n : Nat} (h : n < s + p) : mem s p b n = b.testBit n := by
  by_cases c : n < s
  · exact mem_lo c
  · rw [mem_hi (by omega), Nat.mod_eq_of_lt (by omega), show s + (n - s) = n by omega]
theorem mem_per {s p b n : Nat} (h : s ≤ n) : mem s p b (n + p) = mem s p b n := by
  rw [mem_hi h, mem_hi (by omega), show n + p - s = (n - s) + p by omega, Nat.add_mod_right]
theorem per_all {f : Nat → Bool} {s p : Nat} (h : ∀ n, s ≤ n → f (n + p) = f n) : ∀ (j n : Nat), s ≤ n → f (n + j * p) = f n
  | 0, n, _ => by simp
  | j + 1, n, hn => by
    rw [Nat.succ_mul, ← Nat.add_assoc, h _ (by omega), per_all h j n hn]
theorem per_mod {f : Nat → Bool} {s p : Nat} (h : ∀ n, s ≤ n → f (n + p) = f n) {n : Nat} (hn : s ≤ n) : f n = f (s + (n - s) % p) := by
  have e : n = s + (n - s) % p + (n - s) / p * p := by
    have := Nat.mod_add_div (n - s) p
    rw [Nat.mul_comm] at this
    omega
  have := per_all h ((n - s) / p) (s + (n - s) % p) (by omega)
  rw [← e] at this
  exact this
theorem bits_lt (u : Nat) : u < 2 ^ (Builtin.Int.intBits (u : Int)) := by
  unfold Builtin.Int.intBits
  by_cases h : u = 0
  · subst h; simp
  · rw [if_neg (by simpa using h)]
    exact Nat.lt_log2_self
theorem bits_le {u s : Nat} (h : u < 2 ^ s) : Builtin.Int.intBits (u : Int) ≤ s := intBits_le (by simpa using h)
/-- from some number on it comes again after m -/
def EPer (f : Nat → Bool) (m : Nat) : Prop := ∃ t, ∀ n, t ≤ n → f (n + m) = f n
/-- the one way to write a set that comes again: least period, least start -/
structure Can (s p b : Nat) : Prop where
  pos : 0 < p
  lt : b < 2 ^ (s + p)
  per : ∀ m, 0 < m → EPer (mem s p b) m → p ≤ m
  start : ∀ k, s = k + 1 → mem s p b (k + p) ≠ mem s p b k
theorem mem_eper (s p b : Nat) : EPer (mem s p b) p := ⟨s, fun n hn => mem_per hn⟩
theorem Can.uni {s p b s' p' b' : Nat} (h : Can s p b) (h' : Can s' p' b') (e : ∀ n, mem s p b n = mem s' p' b' n) : s = s' ∧ p = p' ∧ b = b' := by
  have ef : mem s p b = mem s' p' b' := funext e
  have e1 : p = p' := Nat.le_antisymm (h.per p' h'.pos (ef ▸ mem_eper s' p' b')) (h'.per p h.pos (ef ▸ mem_eper s p b))
  subst e1
  have e2 : s = s' := by
    rcases Nat.lt_trichotomy s s' with c | c | c
    · obtain ⟨k, rfl⟩ : ∃ k, s' = k + 1 := ⟨s' - 1, by omega⟩
      have := h'.start k rfl
      rw [← ef] at this
      exact absurd (mem_per (by omega)) this
    · exact c
    · obtain ⟨k, rfl⟩ : ∃ k, s = k + 1 := ⟨s - 1, by omega⟩
      have := h.start k rfl
      rw [ef] at this
      exact absurd (mem_per (by omega)) this
  subst e2
  refine ⟨rfl, rfl, Nat.eq_of_testBit_eq fun k => ?_⟩
  by_cases c : k < s + p
  · rw [← mem_in c, ← mem_in c]; exact e k
  · have hp : 2 ^ (s + p) ≤ 2 ^ k := Nat.pow_le_pow_right (by decide) (by omega)
    have h1 := h.lt
    have h2 := h'.lt
    rw [Nat.testBit_lt_two_pow (by omega), Nat.testBit_lt_two_pow (by omega)]
theorem is_least_rhythm (s P B : Nat) (hP : 0 < P) (hN : P ≤ 900000) (hs : s ≤ 900000) (hB : B < 2 ^ (s + P)) : ∃ s' p b : Nat, Is g_least_rhythm [.int s, .int P, .int B] (.tup [.int s', .int p, .int b]) ∧ Can s' p b ∧ p ∣ P ∧ s' ≤ s ∧ ∀ n, mem s' p b n = mem s P B n := by
  have hB2 : B >>> s < 2 ^ P := by
    rw [Nat.shiftRight_eq_div_pow]
    refine Nat.div_lt_of_lt_mul ?_
    rw [← Nat.pow_add]
    exact hB
  obtain ⟨p, a, hc1, hcc, hlp⟩ := is_least_cycle P (B >>> s) hP hN hB2
  obtain ⟨hp0, hpd, ha, hcy⟩ := hcc
  have hpP : p ≤ P := Nat.le_of_dvd hP hpd
  have hmod : B % 2 ^ s < 2 ^ s := Nat.mod_lt _ (Nat.two_pow_pos _)
  obtain ⟨b1, hb1⟩ : ∃ b1, b1 = (B % 2 ^ s) ||| (a <<< s) := ⟨_, rfl⟩
  obtain ⟨u, hu⟩ : ∃ u, u = (b1 ^^^ (b1 >>> p)) % 2 ^ s := ⟨_, rfl⟩
  have hus : u < 2 ^ s := by rw [hu]; exact Nat.mod_lt _ (Nat.two_pow_pos _)
  have hul := bits_lt u
  have hule := bits_le hus
  have hutop : ∀ k, Builtin.Int.intBits (u : Int) = k + 1 → u.testBit k = true := fun k hk => by
    rcases Nat.lt_or_ge u (2 ^ k) with c | c
    · have := bits_le c
      omega
    · rw [hk] at hul
      have : u / 2 ^ k = 1 := by
        have h1 : 1 ≤ u / 2 ^ k := (Nat.le_div_iff_mul_le (Nat.two_pow_pos _)).mpr (by omega)
        have h2 : u / 2 ^ k < 2 := Nat.div_lt_of_lt_mul (by rw [Nat.pow_succ] at hul; omega)
        omega
      rw [Nat.testBit_eq_decide_div_mod_eq, this]
      rfl
  obtain ⟨s', hs'⟩ : ∃ s' : Nat, s' = Builtin.Int.intBits (u : Int) := ⟨_, rfl⟩
  rw [← hs'] at hul hule hutop
  have hb1t : ∀ k, b1.testBit k = if k < s then B.testBit k else a.testBit (k - s) := by
    intro k
    rw [hb1, Nat.testBit_or, Nat.testBit_mod_two_pow, Nat.testBit_shiftLeft]
    by_cases c : k < s
    · simp [c, show ¬ s ≤ k by omega]
    · simp [c, show s ≤ k by omega]
  have f0 : ∀ n, mem s p b1 n = mem s P B n := by
    intro n
    by_cases c : n < s
    · rw [mem_lo c, mem_lo c, hb1t, if_pos c]
    · have e1 := hcy ((n - s) % P) (Nat.mod_lt _ hP)
      rw [Nat.testBit_shiftRight, Nat.mod_mod_of_dvd _ hpd] at e1
      rw [mem_hi (by omega), mem_hi (by omega), hb1t, if_neg (by omega), e1]
      congr 1
      omega
  have hut : ∀ k, k < s → u.testBit k = (b1.testBit k ^^ b1.testBit (k + p)) := fun k hk => by
    rw [hu, Nat.testBit_mod_two_pow, Nat.testBit_xor, Nat.testBit_shiftRight, Nat.add_comm p k]
    simp [hk]
  have hlow : ∀ k, s' ≤ k → k < s → b1.testBit k = b1.testBit (k + p) := by
    intro k h1 h2
    have e : u.testBit k = false := Nat.testBit_lt_two_pow (Nat.lt_of_lt_of_le hul (Nat.pow_le_pow_right (by decide) h1))
    rw [hut k h2] at e
    cases g1 : b1.testBit k <;> cases g2 : b1.testBit (k + p) <;> rw [g1, g2] at e <;> first | rfl | cases e
  have per : ∀ n, s' ≤ n → mem s p b1 (n + p) = mem s p b1 n := by
    intro n hn
    by_cases c : n < s
    · rw [mem_in (show n + p < s + p by omega), mem_lo c, hlow n hn c]
    · exact mem_per (by omega)
  have fin : ∀ n, mem s' p (b1 % 2 ^ (s' + p)) n = mem s P B n := by
    intro n
    rw [← f0 n]
    by_cases c : n < s'
    · rw [mem_lo c, mem_lo (by omega), Nat.testBit_mod_two_pow]
      simp [show n < s' + p by omega]
    · have hm : s' + (n - s') % p < s' + p := by
        have := Nat.mod_lt (n - s') hp0
        omega
      rw [mem_hi (by omega), per_mod per (show s' ≤ n by omega), Nat.testBit_mod_two_pow, mem_in (by omega)]
      simp [hm]
  refine ⟨s', p, b1 % 2 ^ (s' + p), Is.of ⟨[.dat (.int s'), .dat (.int p), .dat (.int b1), .dat (.int a), .dat (.int u)], ?_⟩, ⟨hp0, Nat.mod_lt _ (Nat.two_pow_pos _), fun m hm he => ?_, fun k hk => ?_⟩, hpd, hule, fin⟩
  · unfold x_least_rhythm
    have hsh : CShl (a : Int) (s : Int) := cshl_n ha (by omega)
    refine seq_nx (ρ1 := [.dat (.int s), .dat (.int p), .dat (.int B), .dat (.int a), .un]) (by simp [-Int.natCast_shiftRight, -Int.natCast_shiftLeft, -Int.natCast_add, -Int.natCast_mul, -Int.natCast_ediv, -Int.natCast_emod, -Int.natCast_pow, add_n, add1_n, mul_n, mod_n, div_n, or_n, and_n, xor_n, shl_n', shr_n', Is, fnD, xSeq, xAsg, xIf, xSet, xPar, xRet, xFor, xAug, gSet, gTupD, gsCons, gsNil, evOp, evVar, evC, evUn, evChain, asD, ofD, retD, iceO, asB, thenS, Out.bind, Rs.bind, vw, setD, free, mul_c, div_c, mod_c, shl_c, shl1_c, shr_c, op2I0_c, fEqS, D.sc, scal, evCall, evCons, evNil, evTup, evConsD, evNilD, evBits, lift, vAnd, vOr, vNot, xDrop, evAppend, ownL, xSetO, xNext, evLst, Option.bind, mAnd, mOr, mNot, mIf, List.replicate, clos, hc1.c2]) ?_
    refine seq_nx (ρ1 := [.dat (.int s), .dat (.int p), .dat (.int b1), .dat (.int a), .un]) (by simp [-Int.natCast_shiftRight, -Int.natCast_shiftLeft, -Int.natCast_add, -Int.natCast_mul, -Int.natCast_ediv, -Int.natCast_emod, -Int.natCast_pow, add_n, add1_n, mul_n, mod_n, div_n, or_n, and_n, xor_n, shl_n', shr_n', Is, fnD, xSeq, xAsg, xIf, xSet, xPar, xRet, xFor, xAug, gSet, gTupD, gsCons, gsNil, evOp, evVar, evC, evUn, evChain, asD, ofD, retD, iceO, asB, thenS, Out.bind, Rs.bind, vw, setD, free, mul_c, div_c, mod_c, shl_c, shl1_c, shr_c, op2I0_c, fEqS, D.sc, scal, evCall, evCons, evNil, evTup, evConsD, evNilD, evBits, lift, vAnd, vOr, vNot, xDrop, evAppend, ownL, xSetO, xNext, evLst, Option.bind, mAnd, mOr, mNot, mIf, List.replicate, clos, (is_mask s (by omega)).c1, hsh, hb1]) ?_
    refine seq_nx (ρ1 := [.dat (.int s), .dat (.int p), .dat (.int b1), .dat (.int a), .dat (.int u)]) (by simp [-Int.natCast_shiftRight, -Int.natCast_shiftLeft, -Int.natCast_add, -Int.natCast_mul, -Int.natCast_ediv, -Int.natCast_emod, -Int.natCast_pow, add_n, add1_n, mul_n, mod_n, div_n, or_n, and_n, xor_n, shl_n', shr_n', Is, fnD, xSeq, xAsg, xIf, xSet, xPar, xRet, xFor, xAug, gSet, gTupD, gsCons, gsNil, evOp, evVar, evC, evUn, evChain, asD, ofD, retD, iceO, asB, thenS, Out.bind, Rs.bind, vw, setD, free, mul_c, div_c, mod_c, shl_c, shl1_c, shr_c, op2I0_c, fEqS, D.sc, scal, evCall, evCons, evNil, evTup, evConsD, evNilD, evBits, lift, vAnd, vOr, vNot, xDrop, evAppend, ownL, xSetO, xNext, evLst, Option.bind, mAnd, mOr, mNot, mIf, List.replicate, clos, (is_mask s (by omega)).c1, hu]) ?_
    refine seq_nx (ρ1 := [.dat (.int s'), .dat (.int p), .dat (.int b1), .dat (.int a), .dat (.int u)]) (by simp [-Int.natCast_shiftRight, -Int.natCast_shiftLeft, -Int.natCast_add, -Int.natCast_mul, -Int.natCast_ediv, -Int.natCast_emod, -Int.natCast_pow, add_n, add1_n, mul_n, mod_n, div_n, or_n, and_n, xor_n, shl_n', shr_n', Is, fnD, xSeq, xAsg, xIf, xSet, xPar, xRet, xFor, xAug, gSet, gTupD, gsCons, gsNil, evOp, evVar, evC, evUn, evChain, asD, ofD, retD, iceO, asB, thenS, Out.bind, Rs.bind, vw, setD, free, mul_c, div_c, mod_c, shl_c, shl1_c, shr_c, op2I0_c, fEqS, D.sc, scal, evCall, evCons, evNil, evTup, evConsD, evNilD, evBits, lift, vAnd, vOr, vNot, xDrop, evAppend, ownL, xSetO, xNext, evLst, Option.bind, mAnd, mOr, mNot, mIf, List.replicate, clos, hs']) ?_
    simp [-Int.natCast_shiftRight, -Int.natCast_shiftLeft, -Int.natCast_add, -Int.natCast_mul, -Int.natCast_ediv, -Int.natCast_emod, -Int.natCast_pow, add_n, add1_n, mul_n, mod_n, div_n, or_n, and_n, xor_n, shl_n', shr_n', Is, fnD, xSeq, xAsg, xIf, xSet, xPar, xRet, xFor, xAug, gSet, gTupD, gsCons, gsNil, evOp, evVar, evC, evUn, evChain, asD, ofD, retD, iceO, asB, thenS, Out.bind, Rs.bind, vw, setD, free, mul_c, div_c, mod_c, shl_c, shl1_c, shr_c, op2I0_c, fEqS, D.sc, scal, evCall, evCons, evNil, evTup, evConsD, evNilD, evBits, lift, vAnd, vOr, vNot, xDrop, evAppend, ownL, xSetO, xNext, evLst, Option.bind, mAnd, mOr, mNot, mIf, List.replicate, clos, (is_mask (s' + p) (by omega)).c1, sizeLine_eq]
  · refine hlp m hm fun n => ?_
    obtain ⟨t, ht⟩ := he
    have tl : ∀ j, cyc P (B >>> s) j = mem s P B (s + j) := fun j => by
      rw [mem_hi (by omega)]
      simp [cyc, Nat.testBit_shiftRight]
    have q : ∀ j, mem s P B (s + j + t * P) = mem s P B (s + j) := fun j => per_all (s := s) (fun n hn => mem_per hn) t (s + j) (by omega)
    have hP' : t ≤ t * P := Nat.le_mul_of_pos_right _ hP
    rw [tl, tl, ← q (n + m), ← q n, show s + (n + m) + t * P = (s + n + t * P) + m by omega, ← fin, ← fin]
    exact ht _ (by omega)
  · rw [fin, fin, ← f0, ← f0]
    have hks : k < s := by omega
    have e := hutop k hk
    rw [hut k hks] at e
    rw [mem_in (show k + p < s + p by omega), mem_lo hks]
    intro z
    rw [z] at e
    simp at e

theorem and_one (x : Nat) : (x &&& 1 = 1) ↔ x.testBit 0 = true := by
  rw [Nat.testBit_zero, Nat.and_one_is_mod]
  simp
theorem shr_one (b k : Nat) : (b >>> k) % 2 = 1 ↔ b.testBit k = true := by
  rw [Nat.testBit_eq_decide_div_mod_eq, Nat.shiftRight_eq_div_pow]
  simp
theorem is_int (n : Int) : Is g_is_integer [.int n] (.bl true) := by
  refine Is.of ⟨[.dat (.int n)], ?_⟩
  unfold x_is_integer
  simp [-Int.natCast_shiftRight, -Int.natCast_shiftLeft, -Int.natCast_add, -Int.natCast_mul, -Int.natCast_ediv, -Int.natCast_emod, -Int.natCast_pow, add_n, add1_n, mul_n, mod_n, div_n, or_n, and_n, xor_n, shl_n', shr_n', Is, fnD, xSeq, xAsg, xIf, xSet, xPar, xRet, xFor, xAug, gSet, gTupD, gsCons, gsNil, evOp, evVar, evC, evUn, evChain, asD, ofD, retD, iceO, asB, thenS, Out.bind, Rs.bind, vw, setD, free, mul_c, div_c, mod_c, shl_c, shl1_c, shr_c, op2I0_c, fEqS, D.sc, scal, evCall, evCons, evNil, evTup, evConsD, evNilD, evBits, lift, vAnd, vOr, vNot, xDrop, evAppend, ownL, xSetO, xNext, evLst, Option.bind, mAnd, mOr, mNot, mIf, List.replicate, clos, evIsi, tyN, ansInt, ansOf]
theorem is_within (n a b : Int) : Is g_is_integer_within [.int n, .int a, .int b] (.bl (decide (a ≤ n ∧ n ≤ b))) := by
  refine Is.of ⟨[.dat (.int n), .dat (.int a), .dat (.int b)], ?_⟩
  unfold x_is_integer_within
  by_cases h1 : a ≤ n
  · by_cases h2 : n ≤ b
    · simp [-Int.natCast_shiftRight, -Int.natCast_shiftLeft, -Int.natCast_add, -Int.natCast_mul, -Int.natCast_ediv, -Int.natCast_emod, -Int.natCast_pow, add_n, add1_n, mul_n, mod_n, div_n, or_n, and_n, xor_n, shl_n', shr_n', Is, fnD, xSeq, xAsg, xIf, xSet, xPar, xRet, xFor, xAug, gSet, gTupD, gsCons, gsNil, evOp, evVar, evC, evUn, evChain, asD, ofD, retD, iceO, asB, thenS, Out.bind, Rs.bind, vw, setD, free, mul_c, div_c, mod_c, shl_c, shl1_c, shr_c, op2I0_c, fEqS, D.sc, scal, evCall, evCons, evNil, evTup, evConsD, evNilD, evBits, lift, vAnd, vOr, vNot, xDrop, evAppend, ownL, xSetO, xNext, evLst, Option.bind, mAnd, mOr, mNot, mIf, List.replicate, clos, (is_int n).c1, h1, h2]
    · simp [-Int.natCast_shiftRight, -Int.natCast_shiftLeft, -Int.natCast_add, -Int.natCast_mul, -Int.natCast_ediv, -Int.natCast_emod, -Int.natCast_pow, add_n, add1_n, mul_n, mod_n, div_n, or_n, and_n, xor_n, shl_n', shr_n', Is, fnD, xSeq, xAsg, xIf, xSet, xPar, xRet, xFor, xAug, gSet, gTupD, gsCons, gsNil, evOp, evVar, evC, evUn, evChain, asD, ofD, retD, iceO, asB, thenS, Out.bind, Rs.bind, vw, setD, free, mul_c, div_c, mod_c, shl_c, shl1_c, shr_c, op2I0_c, fEqS, D.sc, scal, evCall, evCons, evNil, evTup, evConsD, evNilD, evBits, lift, vAnd, vOr, vNot, xDrop, evAppend, ownL, xSetO, xNext, evLst, Option.bind, mAnd, mOr, mNot, mIf, List.replicate, clos, (is_int n).c1, h1, h2]
  · simp [-Int.natCast_shiftRight, -Int.natCast_shiftLeft, -Int.natCast_add, -Int.natCast_mul, -Int.natCast_ediv, -Int.natCast_emod, -Int.natCast_pow, add_n, add1_n, mul_n, mod_n, div_n, or_n, and_n, xor_n, shl_n', shr_n', Is, fnD, xSeq, xAsg, xIf, xSet, xPar, xRet, xFor, xAug, gSet, gTupD, gsCons, gsNil, evOp, evVar, evC, evUn, evChain, asD, ofD, retD, iceO, asB, thenS, Out.bind, Rs.bind, vw, setD, free, mul_c, div_c, mod_c, shl_c, shl1_c, shr_c, op2I0_c, fEqS, D.sc, scal, evCall, evCons, evNil, evTup, evConsD, evNilD, evBits, lift, vAnd, vOr, vNot, xDrop, evAppend, ownL, xSetO, xNext, evLst, Option.bind, mAnd, mOr, mNot, mIf, List.replicate, clos, (is_int n).c1, h1]

/-- a tuple of naturals -/
def tupN (ns : List Nat) : D := .tup (ns.map fun n : Nat => D.int n)
theorem is_row (ns : List Nat) (h : ∀ n ∈ ns, n ≤ 10000) (hl : ns.length ≤ 1000) : Is g_is_row_of_members [tupN ns] (.bl true) := by
  refine Is.of ⟨[.dat (tupN ns), .un], ?_⟩
  unfold x_is_row_of_members
  have e := evCompM (v := 1) (ρ := [.dat (tupN ns), .un]) (ev := seqT (asD (evVar 0))) (ee := (retD (evCall g_is_integer_within (evCons (ofD (asD (evVar 1))) (evCons (ofD (asD (evC (.int 0)))) (evCons (ofD (asD (evC (.int 10000)))) evNil)))))) (l := ns) (fun n : Nat => D.int n) (fun _ => .bl true)
    (by simp [-Int.natCast_shiftRight, -Int.natCast_shiftLeft, -Int.natCast_add, -Int.natCast_mul, -Int.natCast_ediv, -Int.natCast_emod, -Int.natCast_pow, add_n, add1_n, mul_n, mod_n, div_n, or_n, and_n, xor_n, shl_n', shr_n', Is, fnD, xSeq, xAsg, xIf, xSet, xPar, xRet, xFor, xAug, gSet, gTupD, gsCons, gsNil, evOp, evVar, evC, evUn, evChain, asD, ofD, retD, iceO, asB, thenS, Out.bind, Rs.bind, vw, setD, free, mul_c, div_c, mod_c, shl_c, shl1_c, shr_c, op2I0_c, fEqS, D.sc, scal, evCall, evCons, evNil, evTup, evConsD, evNilD, evBits, lift, vAnd, vOr, vNot, xDrop, evAppend, ownL, xSetO, xNext, evLst, Option.bind, mAnd, mOr, mNot, mIf, List.replicate, clos, seqT, tupN]) rfl (fun n hn => by
      have hn' := h n hn
      simp [-Int.natCast_shiftRight, -Int.natCast_shiftLeft, -Int.natCast_add, -Int.natCast_mul, -Int.natCast_ediv, -Int.natCast_emod, -Int.natCast_pow, add_n, add1_n, mul_n, mod_n, div_n, or_n, and_n, xor_n, shl_n', shr_n', Is, fnD, xSeq, xAsg, xIf, xSet, xPar, xRet, xFor, xAug, gSet, gTupD, gsCons, gsNil, evOp, evVar, evC, evUn, evChain, asD, ofD, retD, iceO, asB, thenS, Out.bind, Rs.bind, vw, setD, free, mul_c, div_c, mod_c, shl_c, shl1_c, shr_c, op2I0_c, fEqS, D.sc, scal, evCall, evCons, evNil, evTup, evConsD, evNilD, evBits, lift, vAnd, vOr, vNot, xDrop, evAppend, ownL, xSetO, xNext, evLst, Option.bind, mAnd, mOr, mNot, mIf, List.replicate, clos, (is_within n 0 10000).c3, show (0 : Int) ≤ n ∧ (n : Int) ≤ 10000 by omega]) (by rw [sizeLine_eq]; omega)
  have e2 : fAll [.lst (ns.map fun _ => D.bl true)] = some (.bl true) := by
    rw [all_map (fun _ => true)]; simp
  unfold tupN at e ⊢
  simp [-Int.natCast_shiftRight, -Int.natCast_shiftLeft, -Int.natCast_add, -Int.natCast_mul, -Int.natCast_ediv, -Int.natCast_emod, -Int.natCast_pow, add_n, add1_n, mul_n, mod_n, div_n, or_n, and_n, xor_n, shl_n', shr_n', Is, fnD, xSeq, xAsg, xIf, xSet, xPar, xRet, xFor, xAug, gSet, gTupD, gsCons, gsNil, evOp, evVar, evC, evUn, evChain, asD, ofD, retD, iceO, asB, thenS, Out.bind, Rs.bind, vw, setD, free, mul_c, div_c, mod_c, shl_c, shl1_c, shr_c, op2I0_c, fEqS, D.sc, scal, evCall, evCons, evNil, evTup, evConsD, evNilD, evBits, lift, vAnd, vOr, vNot, xDrop, evAppend, ownL, xSetO, xNext, evLst, Option.bind, mAnd, mOr, mNot, mIf, List.replicate, clos, evIsi, tyN, ansOf, evCB, vws, e, O.toD, e2]

/-- the slots of rhythm_of -/
def rho (one more : List Nat) (P st len b : Nat) (x : Sl) (y z : Sl) : List Sl := [.dat (tupN one), .dat (tupN more), .dat (.int P), .dat (.int st), .dat (.int len), .dat (.int b), x, y, z]
theorem bits_loop1 (one more : List Nat) (P st len E : Nat) (hE : E ≤ 100000) : ∀ (l : List Nat) (b : Nat) (x : Sl), (x = .un ∨ ∃ d, x = .dat d) → (∀ k ∈ l, k < E) → b < 2 ^ E → ∃ (b' : Nat) (x' : Sl), (x' = .un ∨ ∃ d, x' = .dat d) ∧
    forL (gSet 6) (xSet 5 (asD (evOp fOr (evVar 5) (evOp fShl (evC (.int 1)) (evVar 6))))) (l.map fun n : Nat => D.int n) (rho one more P st len b x .un .un) = .nx (rho one more P st len b' x' .un .un) ∧ b' < 2 ^ E ∧ ∀ k, b'.testBit k = (b.testBit k || decide (k ∈ l))
  | [], b, x, hx, _, hb => ⟨b, x, hx, rfl, hb, by simp⟩
  | n :: l, b, x, hx, hl, hb => by
    have hn := hl n List.mem_cons_self
    have hs : CShl (1 : Int) (n : Int) := cshl_n (a := 1) (k := 1) (by decide) (by omega)
    have hlt : b ||| 1 <<< n < 2 ^ E := by
      refine Nat.or_lt_two_pow hb ?_
      rw [Nat.shiftLeft_eq, Nat.one_mul]
      exact Nat.pow_lt_pow_right (by decide) (by omega)
    obtain ⟨b', x', hx', e, hb', ht⟩ := bits_loop1 one more P st len E hE l (b ||| 1 <<< n) (.dat (.int n)) (.inr ⟨_, rfl⟩) (fun k hk => hl k (List.mem_cons_of_mem _ hk)) hlt
    refine ⟨b', x', hx', ?_, hb', fun k => ?_⟩
    · simp only [List.map_cons]
      unfold forL
      have e1 : gSet 6 (.int n) (rho one more P st len b x .un .un) = .ok () (rho one more P st len b (.dat (.int n)) .un .un) := by
        unfold rho
        rcases hx with rfl | ⟨d, rfl⟩ <;> simp [-Int.natCast_shiftRight, -Int.natCast_shiftLeft, -Int.natCast_add, -Int.natCast_mul, -Int.natCast_ediv, -Int.natCast_emod, -Int.natCast_pow, add_n, add1_n, mul_n, mod_n, div_n, or_n, and_n, xor_n, shl_n', shr_n', Is, fnD, xSeq, xAsg, xIf, xSet, xPar, xRet, xFor, xAug, gSet, gTupD, gsCons, gsNil, evOp, evVar, evC, evUn, evChain, asD, ofD, retD, iceO, asB, thenS, Out.bind, Rs.bind, vw, setD, free, mul_c, div_c, mod_c, shl_c, shl1_c, shr_c, op2I0_c, fEqS, D.sc, scal, evCall, evCons, evNil, evTup, evConsD, evNilD, evBits, lift, vAnd, vOr, vNot, xDrop, evAppend, ownL, xSetO, xNext, evLst, Option.bind, mAnd, mOr, mNot, mIf, List.replicate, clos]
      have e2 : xSet 5 (asD (evOp fOr (evVar 5) (evOp fShl (evC (.int 1)) (evVar 6)))) (rho one more P st len b (.dat (.int n)) .un .un) = .nx (rho one more P st len (b ||| 1 <<< n) (.dat (.int n)) .un .un) := by
        unfold rho
        simp [-Int.natCast_shiftRight, -Int.natCast_shiftLeft, -Int.natCast_add, -Int.natCast_mul, -Int.natCast_ediv, -Int.natCast_emod, -Int.natCast_pow, add_n, add1_n, mul_n, mod_n, div_n, or_n, and_n, xor_n, shl_n', shr_n', Is, fnD, xSeq, xAsg, xIf, xSet, xPar, xRet, xFor, xAug, gSet, gTupD, gsCons, gsNil, evOp, evVar, evC, evUn, evChain, asD, ofD, retD, iceO, asB, thenS, Out.bind, Rs.bind, vw, setD, free, mul_c, div_c, mod_c, shl_c, shl1_c, shr_c, op2I0_c, fEqS, D.sc, scal, evCall, evCons, evNil, evTup, evConsD, evNilD, evBits, lift, vAnd, vOr, vNot, xDrop, evAppend, ownL, xSetO, xNext, evLst, Option.bind, mAnd, mOr, mNot, mIf, List.replicate, clos, hs]
      rw [e1]
      simp only [thenS]
      rw [e2]
      exact e
    · rw [ht k, Nat.testBit_or, Nat.shiftLeft_eq, Nat.one_mul, Nat.testBit_two_pow]
      by_cases c : n = k
      · subst c; simp
      · simp [c, show ¬ k = n from fun z => c z.symm]
/-- the bits of one residue, from a member on -/
theorem stretched_one (P L m : Nat) (hP : 0 < P) (hP2 : P ≤ 1000) (hL : L ≤ 30000) : ∃ R : Nat, Is g_stretched [.tup [.int P, .int 1], .int L] (.int (R : Int)) ∧ R < 2 ^ L ∧ ∀ k, R.testBit k = (decide (k < L) && decide (k % P = 0)) := by
  obtain ⟨R, h1, h2, h3⟩ := is_stretched P 1 L hP (Nat.one_lt_two_pow (by omega)) (by omega) (by omega)
  refine ⟨R, h1, h2, fun k => ?_⟩
  by_cases c : k < L
  · rw [h3 k c]
    have e : (1 : Nat) = 2 ^ 0 := rfl
    rw [e, Nat.testBit_two_pow]
    simp [c, eq_comm]
  · rw [Nat.testBit_lt_two_pow (Nat.lt_of_lt_of_le h2 (Nat.pow_le_pow_right (by decide) (by omega)))]
    simp [c]
theorem bits_loop3 (one more : List Nat) (P st len E : Nat) (z : Sl) (y : O) (hP : 0 < P) (hP2 : P ≤ 1000) (hlen : len ≤ 30000) (hE : E = len) : ∀ (l : List Nat) (b : Nat) (x : Sl), (x = .un ∨ ∃ d, x = .dat d) → (∀ k ∈ l, k ≤ len) → b < 2 ^ E → ∃ (b' : Nat) (x' : Sl), (x' = .un ∨ ∃ d, x' = .dat d) ∧
    forL (gSet 6) (xSet 5 (asD (evOp fOr (evVar 5) (evOp fShl (ofD (retD (evCall g_stretched (evCons (ofD (asD (evTup (evConsD (asD (evVar 2)) (evConsD (asD (evC (.int 1))) evNilD))))) (evCons (ofD (asD (evOp fSub (evVar 4) (evVar 6)))) evNil))))) (evVar 6))))) (l.map fun n : Nat => D.int n) (rho one more P st len b x (.own false y) z) = .nx (rho one more P st len b' x' (.own false y) z) ∧ b' < 2 ^ E ∧
      ∀ k, b'.testBit k = (b.testBit k || l.any fun m => decide (m ≤ k) && decide (k < len) && decide ((k - m) % P = 0))
  | [], b, x, hx, _, hb => ⟨b, x, hx, rfl, hb, by simp⟩
  | n :: l, b, x, hx, hl, hb => by
    have hn := hl n List.mem_cons_self
    obtain ⟨R, hR, hR2, hR3⟩ := stretched_one P (len - n) n hP hP2 (by omega)
    have hs : CShl (R : Int) (n : Int) := cshl_n hR2 (by omega)
    have hlt : b ||| R <<< n < 2 ^ E := by
      refine Nat.or_lt_two_pow hb ?_
      rw [Nat.shiftLeft_eq, show E = (len - n) + n by omega, Nat.pow_add]
      exact Nat.mul_lt_mul_of_pos_right hR2 (Nat.two_pow_pos _)
    obtain ⟨b', x', hx', e, hb', ht⟩ := bits_loop3 one more P st len E z y hP hP2 hlen hE l (b ||| R <<< n) (.dat (.int n)) (.inr ⟨_, rfl⟩) (fun k hk => hl k (List.mem_cons_of_mem _ hk)) hlt
    refine ⟨b', x', hx', ?_, hb', fun k => ?_⟩
    · simp only [List.map_cons]
      unfold forL
      have e1 : gSet 6 (.int n) (rho one more P st len b x (.own false y) z) = .ok () (rho one more P st len b (.dat (.int n)) (.own false y) z) := by
        unfold rho
        rcases hx with rfl | ⟨d, rfl⟩ <;> simp [-Int.natCast_shiftRight, -Int.natCast_shiftLeft, -Int.natCast_add, -Int.natCast_mul, -Int.natCast_ediv, -Int.natCast_emod, -Int.natCast_pow, add_n, add1_n, mul_n, mod_n, div_n, or_n, and_n, xor_n, shl_n', shr_n', Is, fnD, xSeq, xAsg, xIf, xSet, xPar, xRet, xFor, xAug, gSet, gTupD, gsCons, gsNil, evOp, evVar, evC, evUn, evChain, asD, ofD, retD, iceO, asB, thenS, Out.bind, Rs.bind, vw, setD, free, mul_c, div_c, mod_c, shl_c, shl1_c, shr_c, op2I0_c, fEqS, D.sc, scal, evCall, evCons, evNil, evTup, evConsD, evNilD, evBits, lift, vAnd, vOr, vNot, xDrop, evAppend, ownL, xSetO, xNext, evLst, Option.bind, mAnd, mOr, mNot, mIf, List.replicate, clos]
      have e2 : xSet 5 (asD (evOp fOr (evVar 5) (evOp fShl (ofD (retD (evCall g_stretched (evCons (ofD (asD (evTup (evConsD (asD (evVar 2)) (evConsD (asD (evC (.int 1))) evNilD))))) (evCons (ofD (asD (evOp fSub (evVar 4) (evVar 6)))) evNil))))) (evVar 6)))) (rho one more P st len b (.dat (.int n)) (.own false y) z) = .nx (rho one more P st len (b ||| R <<< n) (.dat (.int n)) (.own false y) z) := by
        unfold rho
        simp [-Int.natCast_shiftRight, -Int.natCast_shiftLeft, -Int.natCast_add, -Int.natCast_mul, -Int.natCast_ediv, -Int.natCast_emod, -Int.natCast_pow, add_n, add1_n, mul_n, mod_n, div_n, or_n, and_n, xor_n, shl_n', shr_n', Is, fnD, xSeq, xAsg, xIf, xSet, xPar, xRet, xFor, xAug, gSet, gTupD, gsCons, gsNil, evOp, evVar, evC, evUn, evChain, asD, ofD, retD, iceO, asB, thenS, Out.bind, Rs.bind, vw, setD, free, mul_c, div_c, mod_c, shl_c, shl1_c, shr_c, op2I0_c, fEqS, D.sc, scal, evCall, evCons, evNil, evTup, evConsD, evNilD, evBits, lift, vAnd, vOr, vNot, xDrop, evAppend, ownL, xSetO, xNext, evLst, Option.bind, mAnd, mOr, mNot, mIf, List.replicate, clos, hs, hR.c2, sub_n hn, sizeLine_eq]
      rw [e1]
      simp only [thenS]
      rw [e2]
      exact e
    · rw [ht k, Nat.testBit_or, Nat.testBit_shiftLeft, hR3, List.any_cons, Bool.or_assoc]
      congr 2
      by_cases c : n ≤ k
      · by_cases c2 : k < len
        · simp [c, c2, show k - n < len - n by omega]
        · simp [c, c2, show ¬ k - n < len - n by omega]
      · simp [c]

def enc (e : Nat × Nat) : Key × D := (Sum.inl (e.1 : Int), D.int (e.2 : Int))
def putN (L : List (Nat × Nat)) (r v : Nat) : List (Nat × Nat) := if (L.any fun e => decide (e.1 = r)) = true then L.map (fun e => if e.1 = r then (e.1, v) else e) else L ++ [(r, v)]
theorem key_eq (a b : Nat) : ((Sum.inl (a : Int) : Key) = Sum.inl (b : Int)) ↔ a = b := by
  constructor
  · intro h; injection h with h; omega
  · rintro rfl; rfl
theorem put_enc (L : List (Nat × Nat)) (r v : Nat) : putD (L.map enc) (Sum.inl (r : Int)) (D.int v) = (putN L r v).map enc := by
  unfold putD putN
  have e : ((L.map enc).any fun kv => decide (kv.1 = Sum.inl (r : Int))) = L.any fun e => decide (e.1 = r) := by
    rw [List.any_map]
    congr 1
    funext e
    simp only [Function.comp, enc, key_eq]
  rw [e]
  split
  · rw [List.map_map, List.map_map]
    congr 1
    funext e
    simp only [Function.comp, enc, key_eq]
    split <;> rfl
  · simp [enc]
theorem val_enc (L : List (Nat × Nat)) (r : Nat) : valD (L.map enc) (Sum.inl (r : Int)) = (L.find? fun e => decide (e.1 = r)).map fun e => D.int (e.2 : Int) := by
  unfold valD
  have e : ((fun kv : Key × D => decide (kv.1 = Sum.inl (r : Int))) ∘ enc) = fun e => decide (e.1 = r) := by
    funext e
    simp only [Function.comp, enc, key_eq]
  rw [List.find?_map, e, Option.map_map]
  rfl
/-- what the table of the least members holds -/
def Tab (P : Nat) (done : List Nat) (L : List (Nat × Nat)) : Prop := (∀ e ∈ L, e.2 ∈ done ∧ e.2 % P = e.1) ∧ (∀ m ∈ done, ∃ e ∈ L, e.1 = m % P ∧ e.2 ≤ m) ∧ (∀ e ∈ L, ∀ e' ∈ L, e.1 = e'.1 → e.2 = e'.2) ∧ L.length ≤ done.length
def newV (L : List (Nat × Nat)) (r n : Nat) : Nat := match L.find? fun e => decide (e.1 = r) with
  | some e => if e.2 < n then e.2 else n
  | none => n
theorem Tab.put {P : Nat} {done : List Nat} {L : List (Nat × Nat)} {n : Nat} (h : Tab P done L) : Tab P (done ++ [n]) (putN L (n % P) (newV L (n % P) n)) := by
  obtain ⟨h1, h2, h3, h4⟩ := h
  have hv : newV L (n % P) n ≤ n ∧ (newV L (n % P) n ∈ done ++ [n] ∧ newV L (n % P) n % P = n % P) ∧ ∀ e ∈ L, e.1 = n % P → newV L (n % P) n ≤ e.2 := by
    unfold newV
    cases e : L.find? fun e => decide (e.1 = n % P) with
    | none =>
      refine ⟨Nat.le_refl _, ⟨by simp, rfl⟩, fun e' he' h => ?_⟩
      have := List.find?_eq_none.mp e e' he'
      simp [h] at this
    | some e0 =>
      have m0 := List.mem_of_find?_eq_some e
      have k0 : e0.1 = n % P := by simpa using List.find?_some e
      obtain ⟨d0, d1⟩ := h1 e0 m0
      dsimp only
      split
      · refine ⟨by omega, ⟨List.mem_append_left _ d0, by rw [d1, k0]⟩, fun e' he' h => ?_⟩
        rw [h3 e0 m0 e' he' (by rw [k0, h])]
        exact Nat.le_refl _
      · refine ⟨Nat.le_refl _, ⟨by simp, rfl⟩, fun e' he' h => ?_⟩
        rw [← h3 e0 m0 e' he' (by rw [k0, h])]
        omega
  obtain ⟨v, hve⟩ : ∃ v, v = newV L (n % P) n := ⟨_, rfl⟩
  rw [← hve] at hv ⊢
  obtain ⟨v1, ⟨v2, v3⟩, v4⟩ := hv
  unfold putN
  split
  · rename_i ha
    have mm : ∀ e ∈ L.map (fun e => if e.1 = n % P then (e.1, v) else e), (e.1 = n % P ∧ e.2 = v) ∨ (e ∈ L ∧ e.1 ≠ n % P) := by
      intro e he
      obtain ⟨e0, h0, rfl⟩ := List.mem_map.mp he
      by_cases c : e0.1 = n % P
      · simp [c]
      · simp [c, h0]
    refine ⟨fun e he => ?_, fun m hm => ?_, fun e he e' he' hk => ?_, by simp; omega⟩
    · rcases mm e he with ⟨a, b⟩ | ⟨a, b⟩
      · rw [a, b]; exact ⟨v2, v3⟩
      · exact ⟨List.mem_append_left _ (h1 e a).1, (h1 e a).2⟩
    · have hz : ∃ e ∈ L, e.1 = m % P ∧ (e.1 = n % P ∨ e.2 ≤ m) ∧ (e.1 = n % P → v ≤ m) := by
        rcases List.mem_append.mp hm with hm | hm
        · obtain ⟨e, he, a, b⟩ := h2 m hm
          exact ⟨e, he, a, .inr b, fun z => Nat.le_trans (v4 e he z) b⟩
        · have : m = n := by simpa using hm
          subst this
          obtain ⟨e, he, a⟩ := List.any_eq_true.mp ha
          exact ⟨e, he, by simpa using a, .inl (by simpa using a), fun _ => v1⟩
      obtain ⟨e, he, a, b, c⟩ := hz
      refine ⟨if e.1 = n % P then (e.1, v) else e, List.mem_map.mpr ⟨e, he, rfl⟩, ?_⟩
      by_cases d : e.1 = n % P
      · rw [if_pos d]; exact ⟨a, c d⟩
      · rw [if_neg d]; exact ⟨a, b.resolve_left d⟩
    · rcases mm e he with ⟨a, b⟩ | ⟨a, b⟩ <;> rcases mm e' he' with ⟨a', b'⟩ | ⟨a', b'⟩
      · rw [b, b']
      · exact absurd (hk.symm.trans a) b'
      · exact absurd (hk.trans a') b
      · exact h3 e a e' a' hk
  · rename_i ha
    have no : ∀ e ∈ L, e.1 ≠ n % P := fun e he z => ha (List.any_eq_true.mpr ⟨e, he, by simpa using z⟩)
    refine ⟨fun e he => ?_, fun m hm => ?_, fun e he e' he' hk => ?_, by simp; omega⟩
    · rcases List.mem_append.mp he with he | he
      · exact ⟨List.mem_append_left _ (h1 e he).1, (h1 e he).2⟩
      · have : e = (n % P, v) := by simpa using he
        subst this
        exact ⟨v2, v3⟩
    · rcases List.mem_append.mp hm with hm | hm
      · obtain ⟨e, he, a⟩ := h2 m hm
        exact ⟨e, List.mem_append_left _ he, a⟩
      · have : m = n := by simpa using hm
        subst this
        exact ⟨(m % P, v), by simp, rfl, v1⟩
    · rcases List.mem_append.mp he with he | he <;> rcases List.mem_append.mp he' with he' | he'
      · exact h3 e he e' he' hk
      · have : e' = (n % P, v) := by simpa using he'
        subst this
        exact absurd hk (no e he)
      · have : e = (n % P, v) := by simpa using he
        subst this
        exact absurd hk.symm (no e' he')
      · have a : e = (n % P, v) := by simpa using he
        have b : e' = (n % P, v) := by simpa using he'
        rw [a, b]

theorem dict_loop (one more : List Nat) (P st len b : Nat) (hP : 0 < P) : ∀ (l done : List Nat) (L : List (Nat × Nat)) (x z : Sl), (x = .un ∨ ∃ d, x = .dat d) → (z = .un ∨ ∃ d, z = .dat d) → Tab P done L → done.length + l.length ≤ 100000 → ∃ (L' : List (Nat × Nat)) (x' z' : Sl), (x' = .un ∨ ∃ d, x' = .dat d) ∧ (z' = .un ∨ ∃ d, z' = .dat d) ∧
    forL (gSet 6) (xSeq (xSet 8 (asD (evOp fMod (evVar 6) (evVar 2))))
        (xPutD 7 (evVar 8) (asD (evCB fMin2 (evCons (evVar 6) (evCons (evGet2 (evVar 7) (evVar 8) (asD (evVar 6))) evNil)))))) (l.map fun n : Nat => D.int n) (rho one more P st len b x (.own false (.dk (L.map enc))) z) = .nx (rho one more P st len b x' (.own false (.dk (L'.map enc))) z') ∧ Tab P (done ++ l) L'
  | [], done, L, x, z, hx, hz, hT, _ => ⟨L, x, z, hx, hz, rfl, by simpa using hT⟩
  | n :: l, done, L, x, z, hx, hz, hT, hl => by
    have hlen := hT.2.2.2
    simp only [List.length_cons] at hl
    obtain ⟨L', x', z', hx', hz', e, hT'⟩ := dict_loop one more P st len b hP l (done ++ [n]) (putN L (n % P) (newV L (n % P) n)) (.dat (.int n)) (.dat (.int (n % P : Nat))) (.inr ⟨_, rfl⟩) (.inr ⟨_, rfl⟩) hT.put (by simp; omega)
    refine ⟨L', x', z', hx', hz', ?_, by simpa using hT'⟩
    simp only [List.map_cons]
    unfold forL
    have e1 : gSet 6 (.int n) (rho one more P st len b x (.own false (.dk (L.map enc))) z) = .ok () (rho one more P st len b (.dat (.int n)) (.own false (.dk (L.map enc))) z) := by
      unfold rho
      rcases hx with rfl | ⟨d, rfl⟩ <;> simp [-Int.natCast_shiftRight, -Int.natCast_shiftLeft, -Int.natCast_add, -Int.natCast_mul, -Int.natCast_ediv, -Int.natCast_emod, -Int.natCast_pow, add_n, add1_n, mul_n, mod_n, div_n, or_n, and_n, xor_n, shl_n', shr_n', Is, fnD, xSeq, xAsg, xIf, xSet, xPar, xRet, xFor, xAug, gSet, gTupD, gsCons, gsNil, evOp, evVar, evC, evUn, evChain, asD, ofD, retD, iceO, asB, thenS, Out.bind, Rs.bind, vw, setD, free, mul_c, div_c, mod_c, shl_c, shl1_c, shr_c, op2I0_c, fEqS, D.sc, scal, evCall, evCons, evNil, evTup, evConsD, evNilD, evBits, lift, vAnd, vOr, vNot, xDrop, evAppend, ownL, xSetO, xNext, evLst, Option.bind, mAnd, mOr, mNot, mIf, List.replicate, clos]
    have e2 : xSet 8 (asD (evOp fMod (evVar 6) (evVar 2))) (rho one more P st len b (.dat (.int n)) (.own false (.dk (L.map enc))) z) = .nx (rho one more P st len b (.dat (.int n)) (.own false (.dk (L.map enc))) (.dat (.int (n % P : Nat)))) := by
      unfold rho
      rcases hz with rfl | ⟨d, rfl⟩ <;> simp [-Int.natCast_shiftRight, -Int.natCast_shiftLeft, -Int.natCast_add, -Int.natCast_mul, -Int.natCast_ediv, -Int.natCast_emod, -Int.natCast_pow, add_n, add1_n, mul_n, mod_n, div_n, or_n, and_n, xor_n, shl_n', shr_n', Is, fnD, xSeq, xAsg, xIf, xSet, xPar, xRet, xFor, xAug, gSet, gTupD, gsCons, gsNil, evOp, evVar, evC, evUn, evChain, asD, ofD, retD, iceO, asB, thenS, Out.bind, Rs.bind, vw, setD, free, mul_c, div_c, mod_c, shl_c, shl1_c, shr_c, op2I0_c, fEqS, D.sc, scal, evCall, evCons, evNil, evTup, evConsD, evNilD, evBits, lift, vAnd, vOr, vNot, xDrop, evAppend, ownL, xSetO, xNext, evLst, Option.bind, mAnd, mOr, mNot, mIf, List.replicate, clos, hP]
    have ev2 : (asD (evCB fMin2 (evCons (evVar 6) (evCons (evGet2 (evVar 7) (evVar 8) (asD (evVar 6))) evNil)))) (rho one more P st len b (.dat (.int n)) (.own false (.dk (L.map enc))) (.dat (.int (n % P : Nat)))) = .ok (.int (newV L (n % P) n : Nat)) (rho one more P st len b (.dat (.int n)) (.own false (.dk (L.map enc))) (.dat (.int (n % P : Nat)))) := by
      unfold rho
      unfold newV
      cases hf : List.find? (fun e => decide (e.1 = n % P)) L with
      | none => simp [-Int.natCast_shiftRight, -Int.natCast_shiftLeft, -Int.natCast_add, -Int.natCast_mul, -Int.natCast_ediv, -Int.natCast_emod, -Int.natCast_pow, add_n, add1_n, mul_n, mod_n, div_n, or_n, and_n, xor_n, shl_n', shr_n', Is, fnD, xSeq, xAsg, xIf, xSet, xPar, xRet, xFor, xAug, gSet, gTupD, gsCons, gsNil, evOp, evVar, evC, evUn, evChain, asD, ofD, retD, iceO, asB, thenS, Out.bind, Rs.bind, vw, setD, free, mul_c, div_c, mod_c, shl_c, shl1_c, shr_c, op2I0_c, fEqS, D.sc, scal, evCall, evCons, evNil, evTup, evConsD, evNilD, evBits, lift, vAnd, vOr, vNot, xDrop, evAppend, ownL, xSetO, xNext, evLst, Option.bind, mAnd, mOr, mNot, mIf, List.replicate, clos, evCB, evGet2, vws, O.toD, keyD, val_enc, fMin2, hf]
      | some e0 =>
        by_cases c : e0.2 < n
        · simp [-Int.natCast_shiftRight, -Int.natCast_shiftLeft, -Int.natCast_add, -Int.natCast_mul, -Int.natCast_ediv, -Int.natCast_emod, -Int.natCast_pow, add_n, add1_n, mul_n, mod_n, div_n, or_n, and_n, xor_n, shl_n', shr_n', Is, fnD, xSeq, xAsg, xIf, xSet, xPar, xRet, xFor, xAug, gSet, gTupD, gsCons, gsNil, evOp, evVar, evC, evUn, evChain, asD, ofD, retD, iceO, asB, thenS, Out.bind, Rs.bind, vw, setD, free, mul_c, div_c, mod_c, shl_c, shl1_c, shr_c, op2I0_c, fEqS, D.sc, scal, evCall, evCons, evNil, evTup, evConsD, evNilD, evBits, lift, vAnd, vOr, vNot, xDrop, evAppend, ownL, xSetO, xNext, evLst, Option.bind, mAnd, mOr, mNot, mIf, List.replicate, clos, evCB, evGet2, vws, O.toD, keyD, val_enc, fMin2, hf, c]
        · simp [-Int.natCast_shiftRight, -Int.natCast_shiftLeft, -Int.natCast_add, -Int.natCast_mul, -Int.natCast_ediv, -Int.natCast_emod, -Int.natCast_pow, add_n, add1_n, mul_n, mod_n, div_n, or_n, and_n, xor_n, shl_n', shr_n', Is, fnD, xSeq, xAsg, xIf, xSet, xPar, xRet, xFor, xAug, gSet, gTupD, gsCons, gsNil, evOp, evVar, evC, evUn, evChain, asD, ofD, retD, iceO, asB, thenS, Out.bind, Rs.bind, vw, setD, free, mul_c, div_c, mod_c, shl_c, shl1_c, shr_c, op2I0_c, fEqS, D.sc, scal, evCall, evCons, evNil, evTup, evConsD, evNilD, evBits, lift, vAnd, vOr, vNot, xDrop, evAppend, ownL, xSetO, xNext, evLst, Option.bind, mAnd, mOr, mNot, mIf, List.replicate, clos, evCB, evGet2, vws, O.toD, keyD, val_enc, fMin2, hf, c]
    have e3 : xPutD 7 (evVar 8) (asD (evCB fMin2 (evCons (evVar 6) (evCons (evGet2 (evVar 7) (evVar 8) (asD (evVar 6))) evNil)))) (rho one more P st len b (.dat (.int n)) (.own false (.dk (L.map enc))) (.dat (.int (n % P : Nat)))) = .nx (rho one more P st len b (.dat (.int n)) (.own false (.dk ((putN L (n % P) (newV L (n % P) n)).map enc))) (.dat (.int (n % P : Nat)))) := by
      unfold xPutD
      rw [ev2]
      unfold rho
      have hsz : L.length < sizeLine := by rw [sizeLine_eq]; omega
      simp [-Int.natCast_shiftRight, -Int.natCast_shiftLeft, -Int.natCast_add, -Int.natCast_mul, -Int.natCast_ediv, -Int.natCast_emod, -Int.natCast_pow, add_n, add1_n, mul_n, mod_n, div_n, or_n, and_n, xor_n, shl_n', shr_n', Is, fnD, xSeq, xAsg, xIf, xSet, xPar, xRet, xFor, xAug, gSet, gTupD, gsCons, gsNil, evOp, evVar, evC, evUn, evChain, asD, ofD, retD, iceO, asB, thenS, Out.bind, Rs.bind, vw, setD, free, mul_c, div_c, mod_c, shl_c, shl1_c, shr_c, op2I0_c, fEqS, D.sc, scal, evCall, evCons, evNil, evTup, evConsD, evNilD, evBits, lift, vAnd, vOr, vNot, xDrop, evAppend, ownL, xSetO, xNext, evLst, Option.bind, mAnd, mOr, mNot, mIf, List.replicate, clos, ownK, keyD, put_enc, hsz]
    rw [e1]
    simp only [thenS]
    rw [show xSeq _ _ _ = _ from seq_nx e2 e3]
    exact e

/-- whether a number is one of the counts -/
def due (n : Nat) (one more : List Nat) (P : Nat) : Bool := decide (n ∈ one) || more.any fun m => decide (m ≤ n) && decide ((n - m) % P = 0)
theorem toNatL : ∀ (l : List Nat), (l.map fun n : Nat => (n : Int)).map Int.toNat = l
  | [] => rfl
  | n :: l => by simp [toNatL l]
/-- the rising list of naturals, as ints -/
theorem sort_nat (l : List Int) (h : ∀ k ∈ l, 0 ≤ k) : ∃ r : List Nat, sortI l = r.map (fun n : Nat => (n : Int)) ∧ ∀ k : Nat, k ∈ r ↔ (k : Int) ∈ l := by
  refine ⟨(sortI l).map Int.toNat, ?_, fun k => ?_⟩
  · rw [List.map_map]
    conv => lhs; rw [← List.map_id (sortI l)]
    refine List.map_congr_left fun k hk => ?_
    have := h k ((sortI_perm l).mem_iff.mp hk)
    simp only [id, Function.comp]
    omega
  · rw [← (sortI_perm l).mem_iff, List.mem_map]
    constructor
    · rintro ⟨z, hz, rfl⟩
      have := h z ((sortI_perm l).mem_iff.mp hz)
      rw [Int.toNat_of_nonneg this]
      exact hz
    · exact fun hk => ⟨_, hk, by simp⟩
theorem start_of (l : List Nat) (h : ∀ k ∈ l, k ≤ 10000) : ∃ st : Nat, fMaxDef (.tup (l.map fun n : Nat => D.int n)) (.int (-1)) = some (.int ((st : Int) - 1)) ∧ (∀ k ∈ l, k < st) ∧ st ≤ 10001 ∧ ∀ e, (∀ k ∈ l, k < e) → st ≤ e := by
  cases l with
  | nil => exact ⟨0, rfl, by simp, by decide, fun e _ => Nat.zero_le e⟩
  | cons y ys =>
    obtain ⟨z1, z2⟩ := maxL_mem (ys.map fun n : Nat => (n : Int)) (y : Int)
    have hm : ∃ k ∈ y :: ys, maxL (y : Int) (ys.map fun n : Nat => (n : Int)) = (k : Int) := by
      have : maxL (y : Int) (ys.map fun n : Nat => (n : Int)) ∈ (y :: ys).map fun n : Nat => (n : Int) := by simpa using z1
      obtain ⟨k, hk, e⟩ := List.mem_map.mp this
      exact ⟨k, hk, e.symm⟩
    obtain ⟨k, hk, e⟩ := hm
    refine ⟨k + 1, ?_, fun j hj => ?_, by have := h k hk; omega, fun e he => he k hk⟩
    · have e2 := ints_map (fun n : Nat => (n : Int)) (y :: ys)
      simp only [fMaxDef]
      rw [e2]
      simp only [List.map_cons, Option.map_some, e]
      congr 2
      omega
    · have := z2 (j : Int) (by
        have : (j : Int) ∈ (y :: ys).map fun n : Nat => (n : Int) := List.mem_map.mpr ⟨j, hj, rfl⟩
        simpa using this)
      rw [e] at this
      omega
theorem sub_mod0 {m n P : Nat} (h : m ≤ n) : (n - m) % P = 0 ↔ n % P = m % P := by
  constructor
  · intro e
    have : n = m + (n - m) := by omega
    rw [this, Nat.add_mod, e]
    simp
  · exact fun e => Nat.sub_mod_eq_zero_of_mod_eq e
theorem is_rhythm_of (one more : List Nat) (P : Nat) (hP : 0 < P) (hP2 : P ≤ 1000) (h1 : ∀ k ∈ one, k ≤ 10000) (h2 : ∀ k ∈ more, k ≤ 10000) (l1 : one.length ≤ 1000) (l2 : more.length ≤ 1000) :
    ∃ s p b : Nat, Is g_rhythm_of [tupN one, tupN more, .int P] (.tup [.int s, .int p, .int b]) ∧ Can s p b ∧ p ∣ P ∧ (∀ e, (∀ k ∈ one ++ more, k < e) → s ≤ e) ∧ ∀ n, mem s p b n = due n one more P := by
  obtain ⟨st, hst, hst1, hst2, hst3⟩ := start_of (one ++ more) (fun k hk => (List.mem_append.mp hk).elim (h1 k) (h2 k))
  rw [List.map_append] at hst
  have i1 := ints_map (fun n : Nat => (n : Int)) one
  obtain ⟨r1, hr1, hm1⟩ := sort_nat (onceI (one.map fun n : Nat => (n : Int))) (fun k hk => by
    obtain ⟨n, _, rfl⟩ := List.mem_map.mp ((once_mem k _).mp hk)
    exact Int.natCast_nonneg _)
  have hr1m : ∀ k, k ∈ r1 ↔ k ∈ one := fun k => by
    rw [hm1 k, once_mem, List.mem_map]
    exact ⟨fun ⟨n, hn, e⟩ => by have : n = k := by omega
                                subst this; exact hn, fun h => ⟨k, h, rfl⟩⟩
  obtain ⟨b1, x1, hx1, e1, hb1, t1⟩ := bits_loop1 one more P st (st + P) (st + P) (by omega) r1 0 .un (.inl rfl) (fun k hk => by
    have := hst1 k (List.mem_append_left _ ((hr1m k).mp hk)); omega) (Nat.two_pow_pos _)
  obtain ⟨L, x2, z2, hx2, hz2, e2, hT⟩ := dict_loop one more P st (st + P) b1 hP more [] [] x1 .un hx1 (.inl rfl) ⟨by simp, by simp, by simp, by simp⟩ (by simp; omega)
  rw [List.nil_append] at hT
  have i3 := ints_map (fun e : Nat × Nat => (e.2 : Int)) L
  obtain ⟨r3, hr3, hm3⟩ := sort_nat (L.map fun e => (e.2 : Int)) (fun k hk => by
    obtain ⟨n, _, rfl⟩ := List.mem_map.mp hk
    exact Int.natCast_nonneg _)
  have hr3m : ∀ k, k ∈ r3 ↔ ∃ e ∈ L, e.2 = k := fun k => by
    rw [hm3 k, List.mem_map]
    exact ⟨fun ⟨e, he, z⟩ => ⟨e, he, by omega⟩, fun ⟨e, he, z⟩ => ⟨e, he, by omega⟩⟩
  have hr3b : ∀ k ∈ r3, k < st := fun k hk => by
    obtain ⟨e, he, rfl⟩ := (hr3m k).mp hk
    exact hst1 _ (List.mem_append_right _ (hT.1 e he).1)
  obtain ⟨b3, x3, hx3, e3, hb3, t3⟩ := bits_loop3 one more P st (st + P) (st + P) z2 (.dk (L.map enc)) hP hP2 (by omega) rfl r3 b1 x2 hx2 (fun k hk => by have := hr3b k hk; omega) hb1
  obtain ⟨s', p, b, hlr, hp0, hpd, hs', hmem⟩ := is_least_rhythm st P b3 hP (by omega) (by omega) hb3
  refine ⟨s', p, b, Is.of ⟨rho one more P st (st + P) b3 x3 (.own false (.dk (L.map enc))) z2, ?_⟩, hp0, hpd, fun e he => Nat.le_trans hs' (hst3 e he), fun n => ?_⟩
  · unfold x_rhythm_of
    refine seq_nx (ρ1 := [.dat (tupN one), .dat (tupN more), .dat (.int P), .dat (.int st), .un, .un, .un, .un, .un]) ?_ ?_
    · unfold tupN
      have hsz : one.length + more.length ≤ sizeLine := by rw [sizeLine_eq]; omega
      simp [-Int.natCast_shiftRight, -Int.natCast_shiftLeft, -Int.natCast_add, -Int.natCast_mul, -Int.natCast_ediv, -Int.natCast_emod, -Int.natCast_pow, add_n, add1_n, mul_n, mod_n, div_n, or_n, and_n, xor_n, shl_n', shr_n', Is, fnD, xSeq, xAsg, xIf, xSet, xPar, xRet, xFor, xAug, gSet, gTupD, gsCons, gsNil, evOp, evVar, evC, evUn, evChain, asD, ofD, retD, iceO, asB, thenS, Out.bind, Rs.bind, vw, setD, free, mul_c, div_c, mod_c, shl_c, shl1_c, shr_c, op2I0_c, fEqS, D.sc, scal, evCall, evCons, evNil, evTup, evConsD, evNilD, evBits, lift, vAnd, vOr, vNot, xDrop, evAppend, ownL, xSetO, xNext, evLst, Option.bind, mAnd, mOr, mNot, mIf, List.replicate, clos, evMaxDef, fCatA, hst, fNeg, hsz]
    refine seq_nx (ρ1 := [.dat (tupN one), .dat (tupN more), .dat (.int P), .dat (.int st), .dat (.int (st + P : Nat)), .un, .un, .un, .un]) (by simp [-Int.natCast_shiftRight, -Int.natCast_shiftLeft, -Int.natCast_add, -Int.natCast_mul, -Int.natCast_ediv, -Int.natCast_emod, -Int.natCast_pow, add_n, add1_n, mul_n, mod_n, div_n, or_n, and_n, xor_n, shl_n', shr_n', Is, fnD, xSeq, xAsg, xIf, xSet, xPar, xRet, xFor, xAug, gSet, gTupD, gsCons, gsNil, evOp, evVar, evC, evUn, evChain, asD, ofD, retD, iceO, asB, thenS, Out.bind, Rs.bind, vw, setD, free, mul_c, div_c, mod_c, shl_c, shl1_c, shr_c, op2I0_c, fEqS, D.sc, scal, evCall, evCons, evNil, evTup, evConsD, evNilD, evBits, lift, vAnd, vOr, vNot, xDrop, evAppend, ownL, xSetO, xNext, evLst, Option.bind, mAnd, mOr, mNot, mIf, List.replicate, clos]) ?_
    refine seq_nx (ρ1 := rho one more P st (st + P) 0 .un .un .un) (by unfold rho; simp [-Int.natCast_shiftRight, -Int.natCast_shiftLeft, -Int.natCast_add, -Int.natCast_mul, -Int.natCast_ediv, -Int.natCast_emod, -Int.natCast_pow, add_n, add1_n, mul_n, mod_n, div_n, or_n, and_n, xor_n, shl_n', shr_n', Is, fnD, xSeq, xAsg, xIf, xSet, xPar, xRet, xFor, xAug, gSet, gTupD, gsCons, gsNil, evOp, evVar, evC, evUn, evChain, asD, ofD, retD, iceO, asB, thenS, Out.bind, Rs.bind, vw, setD, free, mul_c, div_c, mod_c, shl_c, shl1_c, shr_c, op2I0_c, fEqS, D.sc, scal, evCall, evCons, evNil, evTup, evConsD, evNilD, evBits, lift, vAnd, vOr, vNot, xDrop, evAppend, ownL, xSetO, xNext, evLst, Option.bind, mAnd, mOr, mNot, mIf, List.replicate, clos]) ?_
    refine seq_nx (for_nx (ρ1 := rho one more P st (st + P) 0 .un .un .un) (ds := r1.map fun n : Nat => D.int n) ?_ e1) ?_
    · unfold rho tupN
      simp [-Int.natCast_shiftRight, -Int.natCast_shiftLeft, -Int.natCast_add, -Int.natCast_mul, -Int.natCast_ediv, -Int.natCast_emod, -Int.natCast_pow, add_n, add1_n, mul_n, mod_n, div_n, or_n, and_n, xor_n, shl_n', shr_n', Is, fnD, xSeq, xAsg, xIf, xSet, xPar, xRet, xFor, xAug, gSet, gTupD, gsCons, gsNil, evOp, evVar, evC, evUn, evChain, asD, ofD, retD, iceO, asB, thenS, Out.bind, Rs.bind, vw, setD, free, mul_c, div_c, mod_c, shl_c, shl1_c, shr_c, op2I0_c, fEqS, D.sc, scal, evCall, evCons, evNil, evTup, evConsD, evNilD, evBits, lift, vAnd, vOr, vNot, xDrop, evAppend, ownL, xSetO, xNext, evLst, Option.bind, mAnd, mOr, mNot, mIf, List.replicate, clos, seqL, evSortSetA, i1, l1, hr1, O.toD]
    refine seq_nx (ρ1 := rho one more P st (st + P) b1 x1 (.own false (.dk [])) .un) (by unfold rho; simp [-Int.natCast_shiftRight, -Int.natCast_shiftLeft, -Int.natCast_add, -Int.natCast_mul, -Int.natCast_ediv, -Int.natCast_emod, -Int.natCast_pow, add_n, add1_n, mul_n, mod_n, div_n, or_n, and_n, xor_n, shl_n', shr_n', Is, fnD, xSeq, xAsg, xIf, xSet, xPar, xRet, xFor, xAug, gSet, gTupD, gsCons, gsNil, evOp, evVar, evC, evUn, evChain, asD, ofD, retD, iceO, asB, thenS, Out.bind, Rs.bind, vw, setD, free, mul_c, div_c, mod_c, shl_c, shl1_c, shr_c, op2I0_c, fEqS, D.sc, scal, evCall, evCons, evNil, evTup, evConsD, evNilD, evBits, lift, vAnd, vOr, vNot, xDrop, evAppend, ownL, xSetO, xNext, evLst, Option.bind, mAnd, mOr, mNot, mIf, List.replicate, clos, evDct]) ?_
    refine seq_nx (for_nx (ρ1 := rho one more P st (st + P) b1 x1 (.own false (.dk [])) .un) (ds := more.map fun n : Nat => D.int n) ?_ e2) ?_
    · unfold rho tupN
      simp [-Int.natCast_shiftRight, -Int.natCast_shiftLeft, -Int.natCast_add, -Int.natCast_mul, -Int.natCast_ediv, -Int.natCast_emod, -Int.natCast_pow, add_n, add1_n, mul_n, mod_n, div_n, or_n, and_n, xor_n, shl_n', shr_n', Is, fnD, xSeq, xAsg, xIf, xSet, xPar, xRet, xFor, xAug, gSet, gTupD, gsCons, gsNil, evOp, evVar, evC, evUn, evChain, asD, ofD, retD, iceO, asB, thenS, Out.bind, Rs.bind, vw, setD, free, mul_c, div_c, mod_c, shl_c, shl1_c, shr_c, op2I0_c, fEqS, D.sc, scal, evCall, evCons, evNil, evTup, evConsD, evNilD, evBits, lift, vAnd, vOr, vNot, xDrop, evAppend, ownL, xSetO, xNext, evLst, Option.bind, mAnd, mOr, mNot, mIf, List.replicate, clos, seqT]
    refine seq_nx (for_nx (ρ1 := rho one more P st (st + P) b1 x2 (.own false (.dk (L.map enc))) z2) (ds := r3.map fun n : Nat => D.int n) ?_ e3) ?_
    · unfold rho
      have i4 : intsD (List.map (Prod.snd ∘ enc) L) = some (L.map fun e => (e.2 : Int)) := i3
      simp [-Int.natCast_shiftRight, -Int.natCast_shiftLeft, -Int.natCast_add, -Int.natCast_mul, -Int.natCast_ediv, -Int.natCast_emod, -Int.natCast_pow, add_n, add1_n, mul_n, mod_n, div_n, or_n, and_n, xor_n, shl_n', shr_n', Is, fnD, xSeq, xAsg, xIf, xSet, xPar, xRet, xFor, xAug, gSet, gTupD, gsCons, gsNil, evOp, evVar, evC, evUn, evChain, asD, ofD, retD, iceO, asB, thenS, Out.bind, Rs.bind, vw, setD, free, mul_c, div_c, mod_c, shl_c, shl1_c, shr_c, op2I0_c, fEqS, D.sc, scal, evCall, evCons, evNil, evTup, evConsD, evNilD, evBits, lift, vAnd, vOr, vNot, xDrop, evAppend, ownL, xSetO, xNext, evLst, Option.bind, mAnd, mOr, mNot, mIf, List.replicate, clos, seqL, evCBO, Out.bind0, evVals, vws, fSortI, lstOf, O.toD, i4, hr3]
    · unfold rho
      simp [-Int.natCast_shiftRight, -Int.natCast_shiftLeft, -Int.natCast_add, -Int.natCast_mul, -Int.natCast_ediv, -Int.natCast_emod, -Int.natCast_pow, add_n, add1_n, mul_n, mod_n, div_n, or_n, and_n, xor_n, shl_n', shr_n', Is, fnD, xSeq, xAsg, xIf, xSet, xPar, xRet, xFor, xAug, gSet, gTupD, gsCons, gsNil, evOp, evVar, evC, evUn, evChain, asD, ofD, retD, iceO, asB, thenS, Out.bind, Rs.bind, vw, setD, free, mul_c, div_c, mod_c, shl_c, shl1_c, shr_c, op2I0_c, fEqS, D.sc, scal, evCall, evCons, evNil, evTup, evConsD, evNilD, evBits, lift, vAnd, vOr, vNot, xDrop, evAppend, ownL, xSetO, xNext, evLst, Option.bind, mAnd, mOr, mNot, mIf, List.replicate, clos, hlr.c3]
  · -- the members
    rw [hmem n, Bool.eq_iff_iff]
    have any3 : ∀ j, (∃ k ∈ r3, k ≤ j ∧ j % P = k % P) ↔ ∃ k ∈ more, k ≤ j ∧ j % P = k % P := fun j => by
      constructor
      · rintro ⟨k, hk, a, c⟩
        obtain ⟨e, he, rfl⟩ := (hr3m k).mp hk
        exact ⟨e.2, (hT.1 e he).1, a, c⟩
      · rintro ⟨k, hk, a, c⟩
        obtain ⟨e, he, z1, z2⟩ := hT.2.1 k hk
        exact ⟨e.2, (hr3m _).mpr ⟨e, he, rfl⟩, by omega, by rw [(hT.1 e he).2, z1, c]⟩
    have b3t : ∀ j, j < st + P → (b3.testBit j = true ↔ j ∈ one ∨ ∃ k ∈ more, k ≤ j ∧ j % P = k % P) := fun j hj => by
      rw [t3 j, t1 j, ← any3 j]
      simp only [Nat.zero_testBit, Bool.false_or, Bool.or_eq_true, decide_eq_true_eq, List.any_eq_true, Bool.and_eq_true, hr1m]
      refine or_congr Iff.rfl (exists_congr fun k => and_congr Iff.rfl ?_)
      constructor
      · rintro ⟨⟨a, _⟩, c⟩
        exact ⟨a, (sub_mod0 a).mp c⟩
      · rintro ⟨a, c⟩
        exact ⟨⟨a, hj⟩, (sub_mod0 a).mpr c⟩
    have dueI : due n one more P = true ↔ n ∈ one ∨ ∃ k ∈ more, k ≤ n ∧ n % P = k % P := by
      unfold due
      simp only [Bool.or_eq_true, decide_eq_true_eq, List.any_eq_true, Bool.and_eq_true]
      refine or_congr Iff.rfl (exists_congr fun k => and_congr Iff.rfl ?_)
      constructor
      · rintro ⟨a, c⟩
        exact ⟨a, (sub_mod0 a).mp c⟩
      · rintro ⟨a, c⟩
        exact ⟨a, (sub_mod0 a).mpr c⟩
    rw [dueI]
    by_cases c : n < st
    · rw [mem_lo c, b3t n (by omega)]
    · have hj : (n - st) % P < P := Nat.mod_lt _ hP
      have hmj : (st + (n - st) % P) % P = n % P := by
        rw [Nat.add_mod_mod, show st + (n - st) = n by omega]
      rw [mem_hi (by omega), b3t _ (by omega), hmj]
      have no1 : ∀ z, st ≤ z → z ∉ one := fun z hz hk => by
        have := hst1 z (List.mem_append_left _ hk); omega
      constructor
      · rintro (h | ⟨k, hk, a, d⟩)
        · exact absurd h (no1 _ (by omega))
        · exact .inr ⟨k, hk, by have := hst1 k (List.mem_append_right _ hk); omega, d⟩
      · rintro (h | ⟨k, hk, a, d⟩)
        · exact absurd h (no1 _ (by omega))
        · exact .inr ⟨k, hk, by have := hst1 k (List.mem_append_right _ hk); omega, d⟩

/-- counts, as data -/
def boxO (c : Addr) (s p b : Nat) : O := .ins c [("_rhythm", .inl (.tup [.int s, .int p, .int b]))]
def boxD (c : Addr) (s p b : Nat) : D := .ins c [("_rhythm", .tup [.int s, .int p, .int b])]
theorem is_init (c : Addr) (one more : List Nat) (P : Nat) (hP : 0 < P) (hP2 : P ≤ 1000) (h1 : ∀ k ∈ one, k ≤ 10000) (h2 : ∀ k ∈ more, k ≤ 10000) (l1 : one.length ≤ 1000) (l2 : more.length ≤ 1000) :
    ∃ s p b : Nat, g_Counts____init__ c (.own true (.ins c []) :: ([tupN one, tupN more, .int P] : List D).map Sl.dat) = .ok (.d .non) (.own true (boxO c s p b) :: ([tupN one, tupN more, .int P] : List D).map Sl.dat) ∧ Can s p b ∧ p ∣ P ∧ (∀ e, (∀ k ∈ one ++ more, k < e) → s ≤ e) ∧ ∀ n, mem s p b n = due n one more P := by
  obtain ⟨s, p, b, hr, hp, hm⟩ := is_rhythm_of one more P hP hP2 h1 h2 l1 l2
  refine ⟨s, p, b, ?_, hp, hm⟩
  have r1 := (is_row one h1 (by omega)).c1
  have r2 := (is_row more h2 (by omega)).c1
  have r3 := (is_within P 1 1000).c3
  have r4 : (1 : Int) ≤ P ∧ (P : Int) ≤ 1000 := by omega
  show fnD 0 (x_Counts____init__ c) _ = _
  unfold fnD x_Counts____init__
  simp only [List.map_cons, List.map_nil, List.replicate, List.append_nil]
  rw [seq_nx (ρ1 := [.own true (.ins c []), .dat (tupN one), .dat (tupN more), .dat (.int P)]) (by simp [-Int.natCast_shiftRight, -Int.natCast_shiftLeft, -Int.natCast_add, -Int.natCast_mul, -Int.natCast_ediv, -Int.natCast_emod, -Int.natCast_pow, add_n, add1_n, mul_n, mod_n, div_n, or_n, and_n, xor_n, shl_n', shr_n', Is, fnD, xSeq, xAsg, xIf, xSet, xPar, xRet, xFor, xAug, gSet, gTupD, gsCons, gsNil, evOp, evVar, evC, evUn, evChain, asD, ofD, retD, iceO, asB, thenS, Out.bind, Rs.bind, vw, setD, free, mul_c, div_c, mod_c, shl_c, shl1_c, shr_c, op2I0_c, fEqS, D.sc, scal, evCall, evCons, evNil, evTup, evConsD, evNilD, evBits, lift, vAnd, vOr, vNot, xDrop, evAppend, ownL, xSetO, xNext, evLst, Option.bind, mAnd, mOr, mNot, mIf, List.replicate, clos, r1]) (seq_nx (ρ1 := [.own true (.ins c []), .dat (tupN one), .dat (tupN more), .dat (.int P)]) (by simp [-Int.natCast_shiftRight, -Int.natCast_shiftLeft, -Int.natCast_add, -Int.natCast_mul, -Int.natCast_ediv, -Int.natCast_emod, -Int.natCast_pow, add_n, add1_n, mul_n, mod_n, div_n, or_n, and_n, xor_n, shl_n', shr_n', Is, fnD, xSeq, xAsg, xIf, xSet, xPar, xRet, xFor, xAug, gSet, gTupD, gsCons, gsNil, evOp, evVar, evC, evUn, evChain, asD, ofD, retD, iceO, asB, thenS, Out.bind, Rs.bind, vw, setD, free, mul_c, div_c, mod_c, shl_c, shl1_c, shr_c, op2I0_c, fEqS, D.sc, scal, evCall, evCons, evNil, evTup, evConsD, evNilD, evBits, lift, vAnd, vOr, vNot, xDrop, evAppend, ownL, xSetO, xNext, evLst, Option.bind, mAnd, mOr, mNot, mIf, List.replicate, clos, r2]) (seq_nx (ρ1 := [.own true (.ins c []), .dat (tupN one), .dat (tupN more), .dat (.int P)]) (by simp [-Int.natCast_shiftRight, -Int.natCast_shiftLeft, -Int.natCast_add, -Int.natCast_mul, -Int.natCast_ediv, -Int.natCast_emod, -Int.natCast_pow, add_n, add1_n, mul_n, mod_n, div_n, or_n, and_n, xor_n, shl_n', shr_n', Is, fnD, xSeq, xAsg, xIf, xSet, xPar, xRet, xFor, xAug, gSet, gTupD, gsCons, gsNil, evOp, evVar, evC, evUn, evChain, asD, ofD, retD, iceO, asB, thenS, Out.bind, Rs.bind, vw, setD, free, mul_c, div_c, mod_c, shl_c, shl1_c, shr_c, op2I0_c, fEqS, D.sc, scal, evCall, evCons, evNil, evTup, evConsD, evNilD, evBits, lift, vAnd, vOr, vNot, xDrop, evAppend, ownL, xSetO, xNext, evLst, Option.bind, mAnd, mOr, mNot, mIf, List.replicate, clos, r3, r4]) (rfl)))]
  simp [-Int.natCast_shiftRight, -Int.natCast_shiftLeft, -Int.natCast_add, -Int.natCast_mul, -Int.natCast_ediv, -Int.natCast_emod, -Int.natCast_pow, add_n, add1_n, mul_n, mod_n, div_n, or_n, and_n, xor_n, shl_n', shr_n', Is, fnD, xSeq, xAsg, xIf, xSet, xPar, xRet, xFor, xAug, gSet, gTupD, gsCons, gsNil, evOp, evVar, evC, evUn, evChain, asD, ofD, retD, iceO, asB, thenS, Out.bind, Rs.bind, vw, setD, free, mul_c, div_c, mod_c, shl_c, shl1_c, shr_c, op2I0_c, fEqS, D.sc, scal, evCall, evCons, evNil, evTup, evConsD, evNilD, evBits, lift, vAnd, vOr, vNot, xDrop, evAppend, ownL, xSetO, xNext, evLst, Option.bind, mAnd, mOr, mNot, mIf, List.replicate, clos, xFld, hr.c3, putE, boxO]
/-! ### the members of bits, the least of them -/
theorem dgZ_rev (n : Nat) : ∃ L, 1 ≤ L ∧ n < 2 ^ L ∧ (∀ k, 1 ≤ k → n < 2 ^ k → L ≤ k) ∧ (dgZ n).reverse = (List.range L).map fun i => if n.testBit i then 49 else 48 := by
  induction n using Nat.strongRecOn with
  | ind n ih =>
    by_cases h : n < 2
    · refine ⟨1, by omega, by omega, fun k hk _ => hk, ?_⟩
      unfold dgZ
      rw [Nat.toDigits_of_lt_base h]
      have : n = 0 ∨ n = 1 := by omega
      rcases this with rfl | rfl <;> decide
    · obtain ⟨L, h1, h2, h4, h3⟩ := ih (n / 2) (by omega)
      refine ⟨L + 1, by omega, by rw [Nat.pow_succ]; omega, fun k hk hn => ?_, ?_⟩
      · have k2 : k ≠ 1 := fun z => by subst z; omega
        have := h4 (k - 1) (by omega) (by
          have : 2 ^ k = 2 ^ (k - 1) * 2 := by rw [← Nat.pow_succ]; congr 1; omega
          omega)
        omega
      unfold dgZ at h3 ⊢
      rw [Nat.toDigits_of_base_le (by decide) (by omega), List.map_append, List.reverse_append, h3, List.range_succ_eq_map]
      simp only [List.map_cons, List.map_nil, List.reverse_cons, List.reverse_nil, List.nil_append, List.cons_append, List.map_map, List.cons.injEq]
      refine ⟨?_, ?_⟩
      · rw [Nat.testBit_zero]
        have : n % 2 = 0 ∨ n % 2 = 1 := by omega
        rcases this with e | e <;> rw [e] <;> decide
      · apply List.map_congr_left
        intro i _
        simp only [Function.comp, Nat.testBit_succ]
/-- the bits that are set, below a length -/
def bitsL (b L : Nat) : List Nat := (List.range L).filter fun i => b.testBit i
theorem bitsL_more {b L : Nat} (h : b < 2 ^ L) : ∀ k, L ≤ k → bitsL b k = bitsL b L := by
  intro k hk
  obtain ⟨j, rfl⟩ : ∃ j, k = L + j := ⟨k - L, by omega⟩
  induction j with
  | zero => rfl
  | succ j ih =>
    have e : b.testBit (L + j) = false := Nat.testBit_lt_two_pow (Nat.lt_of_lt_of_le h (Nat.pow_le_pow_right (by decide) (by omega)))
    have := ih (by omega)
    unfold bitsL at this ⊢
    rw [show L + (j + 1) = (L + j) + 1 by omega, List.range_succ, List.filter_append, this]
    simp [e]
theorem revZ_bin (n : Nat) : ∃ L, 1 ≤ L ∧ n < 2 ^ L ∧ (∀ k, 1 ≤ k → n < 2 ^ k → L ≤ k) ∧ (binZ n).length = L ∧ enD (revZ (binZ n)) = (List.range L).map fun i : Nat => .tup [.int (i : Int), .str ⟨#[if n.testBit i then 49 else 48]⟩] := by
  obtain ⟨L, h1, h2, h4, h3⟩ := dgZ_rev n
  have hl : (dgZ n).length = L := by rw [← List.length_reverse, h3]; simp
  refine ⟨L, h1, h2, h4, by simp [binZ, Str.length, hl], ?_⟩
  unfold enD revZ binZ
  simp only [List.toList_toArray, h3]
  have hlen : (⟨((List.range L).map fun i => if n.testBit i then 49 else 48).toArray⟩ : Str).length = L := by simp [Str.length]
  rw [hlen]
  apply List.map_congr_left
  intro i hi
  have hi' : i < L := by simpa using hi
  have : (((List.range L).map fun i => if n.testBit i then 49 else 48).toArray).getD i 0 = if n.testBit i then 49 else 48 := by
    simp [Array.getD, hi']
  rw [this]
theorem is_members (b L : Nat) (hb : b < 2 ^ L) (hL1 : 1 ≤ L) (hL : L ≤ 900000) : Is g_members_of [.int b] (.lst ((bitsL b L).map fun k : Nat => D.int k)) := by
  obtain ⟨M, h1, h2, h5, h3, h4⟩ := revZ_bin b
  have hML : M ≤ L := h5 L hL1 hb
  have hbl : bitsL b M = bitsL b L := (bitsL_more h2 L hML).symm
  have hz : (binZ b).length ≤ sizeLine := by rw [h3, sizeLine_eq]; omega
  refine Is.of ⟨[.dat (.int b), .dat (.str (binZ b)), .un, .un], ?_⟩
  have e := evCompF2 (v := 2) (w := 3) (ρ := [.dat (.int b), .dat (.str (binZ b)), .un, .un]) (ev := enumS (asD (evUn fRevS (evVar 1)))) (et := (asB (evOp (fEqS false) (evVar 3) (evC (.str "1"))))) (ee := (asD (evVar 2))) (l := List.range M) (fun i : Nat => D.int i) (fun i => .str ⟨#[if b.testBit i then 49 else 48]⟩) (fun i => b.testBit i) (fun i => .int i)
    (by
      simp only [enumS, asD, evUn, evVar]
      simp only [List.getElem?_cons_succ, List.getElem?_cons_zero, Out.bind, vw, fRevS, hz, if_true, Option.map, lift]
      rw [h4]) (by decide) rfl rfl (fun i _ => by
        cases hbit : b.testBit i
        · refine ⟨?_, fun z => by cases z⟩
          have : ¬ (⟨#[48]⟩ : Str) = Str.ofString "1" := by decide +kernel
          simp [-Int.natCast_shiftRight, -Int.natCast_shiftLeft, -Int.natCast_add, -Int.natCast_mul, -Int.natCast_ediv, -Int.natCast_emod, -Int.natCast_pow, add_n, add1_n, mul_n, mod_n, div_n, or_n, and_n, xor_n, shl_n', shr_n', Is, fnD, xSeq, xAsg, xIf, xSet, xPar, xRet, xFor, xAug, gSet, gTupD, gsCons, gsNil, evOp, evVar, evC, evUn, evChain, asD, ofD, retD, iceO, asB, thenS, Out.bind, Rs.bind, vw, setD, free, mul_c, div_c, mod_c, shl_c, shl1_c, shr_c, op2I0_c, fEqS, D.sc, scal, evCall, evCons, evNil, evTup, evConsD, evNilD, evBits, lift, vAnd, vOr, vNot, xDrop, evAppend, ownL, xSetO, xNext, evLst, Option.bind, mAnd, mOr, mNot, mIf, List.replicate, clos, two, hbit, this]
        · refine ⟨?_, fun _ => by simp [-Int.natCast_shiftRight, -Int.natCast_shiftLeft, -Int.natCast_add, -Int.natCast_mul, -Int.natCast_ediv, -Int.natCast_emod, -Int.natCast_pow, add_n, add1_n, mul_n, mod_n, div_n, or_n, and_n, xor_n, shl_n', shr_n', Is, fnD, xSeq, xAsg, xIf, xSet, xPar, xRet, xFor, xAug, gSet, gTupD, gsCons, gsNil, evOp, evVar, evC, evUn, evChain, asD, ofD, retD, iceO, asB, thenS, Out.bind, Rs.bind, vw, setD, free, mul_c, div_c, mod_c, shl_c, shl1_c, shr_c, op2I0_c, fEqS, D.sc, scal, evCall, evCons, evNil, evTup, evConsD, evNilD, evBits, lift, vAnd, vOr, vNot, xDrop, evAppend, ownL, xSetO, xNext, evLst, Option.bind, mAnd, mOr, mNot, mIf, List.replicate, clos, two]⟩
          have : (⟨#[49]⟩ : Str) = Str.ofString "1" := by decide +kernel
          simp [-Int.natCast_shiftRight, -Int.natCast_shiftLeft, -Int.natCast_add, -Int.natCast_mul, -Int.natCast_ediv, -Int.natCast_emod, -Int.natCast_pow, add_n, add1_n, mul_n, mod_n, div_n, or_n, and_n, xor_n, shl_n', shr_n', Is, fnD, xSeq, xAsg, xIf, xSet, xPar, xRet, xFor, xAug, gSet, gTupD, gsCons, gsNil, evOp, evVar, evC, evUn, evChain, asD, ofD, retD, iceO, asB, thenS, Out.bind, Rs.bind, vw, setD, free, mul_c, div_c, mod_c, shl_c, shl1_c, shr_c, op2I0_c, fEqS, D.sc, scal, evCall, evCons, evNil, evTup, evConsD, evNilD, evBits, lift, vAnd, vOr, vNot, xDrop, evAppend, ownL, xSetO, xNext, evLst, Option.bind, mAnd, mOr, mNot, mIf, List.replicate, clos, two, hbit, this]) (by rw [sizeLine_eq]; simp; omega)
  unfold x_members_of
  have s1 : xSet 1 (asD (evUn fFmtB (evVar 0))) [.dat (.int b), .un, .un, .un] = .nx [.dat (.int b), .dat (.str (binZ b)), .un, .un] := by
    simp [-Int.natCast_shiftRight, -Int.natCast_shiftLeft, -Int.natCast_add, -Int.natCast_mul, -Int.natCast_ediv, -Int.natCast_emod, -Int.natCast_pow, add_n, add1_n, mul_n, mod_n, div_n, or_n, and_n, xor_n, shl_n', shr_n', Is, fnD, xSeq, xAsg, xIf, xSet, xPar, xRet, xFor, xAug, gSet, gTupD, gsCons, gsNil, evOp, evVar, evC, evUn, evChain, asD, ofD, retD, iceO, asB, thenS, Out.bind, Rs.bind, vw, setD, free, mul_c, div_c, mod_c, shl_c, shl1_c, shr_c, op2I0_c, fEqS, D.sc, scal, evCall, evCons, evNil, evTup, evConsD, evNilD, evBits, lift, vAnd, vOr, vNot, xDrop, evAppend, ownL, xSetO, xNext, evLst, Option.bind, mAnd, mOr, mNot, mIf, List.replicate, clos, fFmtB, hz]
  refine seq_nx s1 ?_
  simp only [xRet]
  rw [ice_ok e]
  rw [← hbl]
  rfl
theorem is_start (c : Addr) (s p b : Nat) : Is (g_Counts__start c) [boxD c s p b] (.int s) := by
  refine Is.of ⟨[.dat (boxD c s p b)], ?_⟩
  unfold x_Counts__start
  simp [-Int.natCast_shiftRight, -Int.natCast_shiftLeft, -Int.natCast_add, -Int.natCast_mul, -Int.natCast_ediv, -Int.natCast_emod, -Int.natCast_pow, add_n, add1_n, mul_n, mod_n, div_n, or_n, and_n, xor_n, shl_n', shr_n', Is, fnD, xSeq, xAsg, xIf, xSet, xPar, xRet, xFor, xAug, gSet, gTupD, gsCons, gsNil, evOp, evVar, evC, evUn, evChain, asD, ofD, retD, iceO, asB, thenS, Out.bind, Rs.bind, vw, setD, free, mul_c, div_c, mod_c, shl_c, shl1_c, shr_c, op2I0_c, fEqS, D.sc, scal, evCall, evCons, evNil, evTup, evConsD, evNilD, evBits, lift, vAnd, vOr, vNot, xDrop, evAppend, ownL, xSetO, xNext, evLst, Option.bind, mAnd, mOr, mNot, mIf, List.replicate, clos, evFld, boxD, fIxT, atI, ixN]
theorem is_period (c : Addr) (s p b : Nat) : Is (g_Counts__period c) [boxD c s p b] (.int p) := by
  refine Is.of ⟨[.dat (boxD c s p b)], ?_⟩
  unfold x_Counts__period
  simp [-Int.natCast_shiftRight, -Int.natCast_shiftLeft, -Int.natCast_add, -Int.natCast_mul, -Int.natCast_ediv, -Int.natCast_emod, -Int.natCast_pow, add_n, add1_n, mul_n, mod_n, div_n, or_n, and_n, xor_n, shl_n', shr_n', Is, fnD, xSeq, xAsg, xIf, xSet, xPar, xRet, xFor, xAug, gSet, gTupD, gsCons, gsNil, evOp, evVar, evC, evUn, evChain, asD, ofD, retD, iceO, asB, thenS, Out.bind, Rs.bind, vw, setD, free, mul_c, div_c, mod_c, shl_c, shl1_c, shr_c, op2I0_c, fEqS, D.sc, scal, evCall, evCons, evNil, evTup, evConsD, evNilD, evBits, lift, vAnd, vOr, vNot, xDrop, evAppend, ownL, xSetO, xNext, evLst, Option.bind, mAnd, mOr, mNot, mIf, List.replicate, clos, evFld, boxD, fIxT, atI, ixN]
theorem is_mems (c : Addr) (s p b : Nat) (hb : b < 2 ^ (s + p)) (hp : 0 < p) (hL : s + p ≤ 900000) : Is (g_Counts__members c) [boxD c s p b] (tupN (bitsL b (s + p))) := by
  refine Is.of ⟨[.dat (boxD c s p b)], ?_⟩
  unfold x_Counts__members tupN
  simp [-Int.natCast_shiftRight, -Int.natCast_shiftLeft, -Int.natCast_add, -Int.natCast_mul, -Int.natCast_ediv, -Int.natCast_emod, -Int.natCast_pow, add_n, add1_n, mul_n, mod_n, div_n, or_n, and_n, xor_n, shl_n', shr_n', Is, fnD, xSeq, xAsg, xIf, xSet, xPar, xRet, xFor, xAug, gSet, gTupD, gsCons, gsNil, evOp, evVar, evC, evUn, evChain, asD, ofD, retD, iceO, asB, thenS, Out.bind, Rs.bind, vw, setD, free, mul_c, div_c, mod_c, shl_c, shl1_c, shr_c, op2I0_c, fEqS, D.sc, scal, evCall, evCons, evNil, evTup, evConsD, evNilD, evBits, lift, vAnd, vOr, vNot, xDrop, evAppend, ownL, xSetO, xNext, evLst, Option.bind, mAnd, mOr, mNot, mIf, List.replicate, clos, evFld, boxD, fIxT, atI, ixN, (is_members b (s + p) hb (by omega) hL).c1, evCB, vws, fTupOf]
theorem is_endless (c : Addr) (s p b : Nat) : Is (g_Counts__endless c) [boxD c s p b] (.bl (decide (b >>> s ≠ 0))) := by
  refine Is.of ⟨[.dat (boxD c s p b)], ?_⟩
  unfold x_Counts__endless
  simp [-Int.natCast_shiftRight, -Int.natCast_shiftLeft, -Int.natCast_add, -Int.natCast_mul, -Int.natCast_ediv, -Int.natCast_emod, -Int.natCast_pow, add_n, add1_n, mul_n, mod_n, div_n, or_n, and_n, xor_n, shl_n', shr_n', Is, fnD, xSeq, xAsg, xIf, xSet, xPar, xRet, xFor, xAug, gSet, gTupD, gsCons, gsNil, evOp, evVar, evC, evUn, evChain, asD, ofD, retD, iceO, asB, thenS, Out.bind, Rs.bind, vw, setD, free, mul_c, div_c, mod_c, shl_c, shl1_c, shr_c, op2I0_c, fEqS, D.sc, scal, evCall, evCons, evNil, evTup, evConsD, evNilD, evBits, lift, vAnd, vOr, vNot, xDrop, evAppend, ownL, xSetO, xNext, evLst, Option.bind, mAnd, mOr, mNot, mIf, List.replicate, clos, evFld, boxD, fIxT, atI, ixN]
end
end Lk
namespace Lk
noncomputable section
open PySem PySem.Spec PyProof.Rows L2 G DC

theorem prop_ok {C : Addr} {m : Str} {g : M Ret} {ea : M Rf} {ρ ρ1 : List Sl} {es : List (Str × D)} {d : D} (h : ea ρ = .ok (.d (.ins C es)) ρ1) (hm : es.lookup m = none) (hg : Is g [.ins C es] d) : retD (evProp C m g ea) ρ = .ok d ρ1 := by
  unfold retD evProp
  rw [h]
  simp only [Out.bind]
  rw [if_pos (by simp [isIns, vw, hm]), hg.c1]
theorem look_box (m : Str) (hm : (m == ("_rhythm" : Str)) = false) (d : D) : List.lookup m [(("_rhythm" : Str), d)] = none := by
  simp [List.lookup, hm]
theorem eqS_bl (neg x y : Bool) : fEqS neg (.bl x) (.bl y) = some (.bl (if neg then !decide (x = y) else decide (x = y))) := by
  simp [fEqS, D.sc, scal]
/-! ### counts by their members -/
open Classical in
def tri (f : Nat → Bool) : Nat × Nat × Nat := if h : ∃ t : Nat × Nat × Nat, Can t.1 t.2.1 t.2.2 ∧ ∀ n, mem t.1 t.2.1 t.2.2 n = f n then h.choose else (0, 1, 0)
def bx (c : Addr) (f : Nat → Bool) : D := boxD c (tri f).1 (tri f).2.1 (tri f).2.2
/-- f comes again after p, from s on: p parts N, s is at most Mx -/
structure Has (N Mx : Nat) (f : Nat → Bool) : Prop where
  can : Can (tri f).1 (tri f).2.1 (tri f).2.2
  dv : (tri f).2.1 ∣ N
  st : (tri f).1 ≤ Mx
  mem : ∀ n, mem (tri f).1 (tri f).2.1 (tri f).2.2 n = f n
theorem tri_of {f : Nat → Bool} {s p b : Nat} (h : Can s p b) (hm : ∀ n, mem s p b n = f n) : tri f = (s, p, b) := by
  have hx : ∃ t : Nat × Nat × Nat, Can t.1 t.2.1 t.2.2 ∧ ∀ n, Lk.mem t.1 t.2.1 t.2.2 n = f n := ⟨(s, p, b), h, hm⟩
  unfold tri
  rw [dif_pos hx]
  obtain ⟨h1, h2⟩ := hx.choose_spec
  obtain ⟨e1, e2, e3⟩ := h1.uni h fun n => (h2 n).trans (hm n).symm
  exact Prod.ext e1 (Prod.ext e2 e3)
theorem Has.of {N Mx : Nat} {f : Nat → Bool} {s p b : Nat} (h : Can s p b) (hm : ∀ n, Lk.mem s p b n = f n) (hd : p ∣ N) (hs : s ≤ Mx) (c : Addr) : Has N Mx f ∧ boxD c s p b = bx c f := by
  have e := tri_of h hm
  unfold bx
  exact ⟨⟨by rw [e]; exact h, by rw [e]; exact hd, by rw [e]; exact hs, by rw [e]; exact hm⟩, by rw [e]⟩
theorem Has.inj {N Mx N' Mx' : Nat} {f g : Nat → Bool} (h : Has N Mx f) (h' : Has N' Mx' g) (e : tri f = tri g) : f = g := funext fun n => by
  rw [← h.mem n, ← h'.mem n, e]
section
variable {N Mx : Nat} {c : Addr} {f g : Nat → Bool}
open Classical in
open Classical in
def endB (f : Nat → Bool) : Bool := decide (∀ t, ∃ n, t ≤ n ∧ f n = true)
theorem is_endl (h : Has N Mx f) : Is (g_Counts__endless c) [bx c f] (.bl (endB f)) := by
  have e := is_endless c (tri f).1 (tri f).2.1 (tri f).2.2
  unfold bx
  have : endB f = decide ((tri f).2.2 >>> (tri f).1 ≠ 0) := by
    unfold endB
    rw [decide_eq_decide]
    constructor
    · intro q z
      obtain ⟨n, h1, h2⟩ := q (tri f).1
      rw [← h.mem, mem_hi h1, ← Nat.testBit_shiftRight, z, Nat.zero_testBit] at h2
      cases h2
    · intro z t
      obtain ⟨k, hk⟩ := Nat.exists_testBit_of_ne_zero z
      rw [Nat.testBit_shiftRight] at hk
      have hks : (tri f).1 + k < (tri f).1 + (tri f).2.1 := by
        rcases Nat.lt_or_ge ((tri f).1 + k) ((tri f).1 + (tri f).2.1) with q | q
        · exact q
        · rw [Nat.testBit_lt_two_pow (Nat.lt_of_lt_of_le h.can.lt (Nat.pow_le_pow_right (by decide) q))] at hk
          cases hk
      have hp := h.can.pos
      refine ⟨(tri f).1 + k + t * (tri f).2.1, by have := Nat.le_mul_of_pos_right t hp; omega, ?_⟩
      rw [← h.mem, per_all (s := (tri f).1) (fun n hn => mem_per hn) t _ (by omega), mem_in hks, hk]
  rw [this]
  exact e
/-- the members of the first round -/
def lowL (f : Nat → Bool) : List Nat := (List.range ((tri f).1 + (tri f).2.1)).filter f
theorem is_lows (h : Has N Mx f) (hN : 0 < N) (hN2 : N ≤ 10000) (hM : Mx ≤ 10000) : Is (g_Counts__members c) [bx c f] (tupN (lowL f)) := by
  have a1 := Nat.le_of_dvd hN h.dv
  have b1 := h.st
  have e := is_mems c (tri f).1 (tri f).2.1 (tri f).2.2 h.can.lt h.can.pos (by omega)
  have : lowL f = bitsL (tri f).2.2 ((tri f).1 + (tri f).2.1) := by
    unfold lowL bitsL
    refine List.filter_congr fun k hk => ?_
    rw [← h.mem, mem_in (by simpa using hk)]
  rw [this]
  exact e
open Classical in
theorem is_eq {N' Mx' : Nat} (h : Has N Mx f) (h' : Has N' Mx' g) : Is (g_Counts____eq__ c) [bx c f, bx c g] (.bl (decide (f = g))) := by
  have e : decide (f = g) = decide ((tri f).1 = (tri g).1 ∧ (tri f).2.1 = (tri g).2.1 ∧ (tri f).2.2 = (tri g).2.2) := by
    rw [decide_eq_decide]
    constructor
    · rintro rfl; exact ⟨rfl, rfl, rfl⟩
    · rintro ⟨a, b, d⟩
      exact h.inj h' (Prod.ext a (Prod.ext b d))
  rw [e]
  unfold bx
  generalize tri f = t1
  generalize tri g = t2
  have q : fEqD false (.tup [.int t1.1, .int t1.2.1, .int t1.2.2]) (.tup [.int t2.1, .int t2.2.1, .int t2.2.2]) = some (.bl (decide (t1.1 = t2.1 ∧ t1.2.1 = t2.2.1 ∧ t1.2.2 = t2.2.2))) := by
    have := sca_int.eqT false [(t1.1 : Int), t1.2.1, t1.2.2] [(t2.1 : Int), t2.2.1, t2.2.2]
    refine this.trans ?_
    have e : ([(t1.1 : Int), t1.2.1, t1.2.2] = [(t2.1 : Int), t2.2.1, t2.2.2]) ↔ (t1.1 = t2.1 ∧ t1.2.1 = t2.2.1 ∧ t1.2.2 = t2.2.2) := by
      simp [Int.ofNat_inj]
    simp only [Bool.false_eq_true, if_false]
    congr 2
    exact decide_eq_decide.mpr e
  refine Is.of ⟨[.dat (boxD c t1.1 t1.2.1 t1.2.2), .dat (boxD c t2.1 t2.2.1 t2.2.2)], ?_⟩
  unfold x_Counts____eq__
  simp [-Int.natCast_shiftRight, -Int.natCast_shiftLeft, -Int.natCast_add, -Int.natCast_mul, -Int.natCast_ediv, -Int.natCast_emod, -Int.natCast_pow, add_n, add1_n, mul_n, mod_n, div_n, or_n, and_n, xor_n, shl_n', shr_n', Is, fnD, xSeq, xAsg, xIf, xSet, xPar, xRet, xFor, xAug, gSet, gTupD, gsCons, gsNil, evOp, evVar, evC, evUn, evChain, asD, ofD, retD, iceO, asB, thenS, Out.bind, Rs.bind, vw, setD, free, mul_c, div_c, mod_c, shl_c, shl1_c, shr_c, op2I0_c, fEqS, D.sc, scal, evCall, evCons, evNil, evTup, evConsD, evNilD, evBits, lift, vAnd, vOr, vNot, xDrop, evAppend, ownL, xSetO, xNext, evLst, Option.bind, mAnd, mOr, mNot, mIf, List.replicate, clos, evIsC, isT, evFld, boxD, q]
open Classical in
end
/-! ### as a text -/
theorem seqT_ok {ev : M D} {ρ ρ1 : List Sl} {ds : List D} (h : ev ρ = .ok (.tup ds) ρ1) : seqT ev ρ = .ok ds ρ1 := by
  unfold seqT
  rw [h]
  rfl
theorem seqL_ok {ev : M D} {ρ ρ1 : List Sl} {ds : List D} (h : ev ρ = .ok (.lst ds) ρ1) : seqL ev ρ = .ok ds ρ1 := by
  unfold seqL
  rw [h]
  rfl
theorem un_ok {f : D → Option D} {a : M Rf} {ρ ρ1 : List Sl} {d x : D} (h : a ρ = .ok (.d d) ρ1) (h2 : f d = some x) : evUn f a ρ = .ok (.d x) ρ1 := by
  unfold evUn
  rw [h]
  simp [Out.bind, vw, h2, lift]
theorem js_nil {acc : Str} {ρ : List Sl} : jsW [] acc ρ = .ok acc ρ := rfl
theorem js_cons {e : M Rf} {es : List (M Rf)} {acc y z : Str} {ρ ρ1 ρ2 : List Sl} (h : e ρ = .ok (.d (.str y)) ρ1) (hl : (acc ++ y).length ≤ sizeLine) (h2 : jsW es (acc ++ y) ρ1 = .ok z ρ2) : jsW (e :: es) acc ρ = .ok z ρ2 := by
  unfold jsW
  rw [h]
  simp only [Out.bind, vw]
  rw [if_pos hl, h2]
theorem js_ok {es : List (M Rf)} {z : Str} {ρ ρ1 : List Sl} (h : jsW es Str.empty ρ = .ok z ρ1) : evJs es ρ = .ok (.d (.str z)) ρ1 := by
  unfold evJs
  rw [h]
  rfl
theorem strsD_S (l : List (List Nat)) : strsD (l.map fun z => D.str (SX.S z)) = some (l.map SX.S) := by
  induction l with
  | nil => rfl
  | cons x l ih => simp only [List.map_cons, strsD, ih, Option.map_some]
theorem fstr_n (n : Nat) (h : n < 10 ^ 10) : fStrI [.int n] = some (.str (SX.S (TL.numL n))) := by
  have := (int_len (i := (n : Int)) (by omega)).2
  simp only [fStrI]
  rw [if_pos this]
  congr 2
  exact SX.num_S n
theorem ffmt_n (n : Nat) (h : n < 10 ^ 10) : fFmt (.int n) = some (.str (SX.S (TL.numL n))) := by
  have := (int_len (i := (n : Int)) (by omega)).2
  simp only [fFmt]
  rw [if_pos this]
  congr 2
  exact SX.num_S n
theorem sum_lens (k : Nat) : ∀ l : List (List Nat), (∀ z ∈ l, z.length ≤ k) → ((l.map SX.S).map (·.length)).sum ≤ k * l.length
  | [], _ => by simp
  | x :: l, h => by
    have h1 := sum_lens k l fun z hz => h z (List.mem_cons_of_mem _ hz)
    have h2 := h x List.mem_cons_self
    simp only [List.map_cons, List.sum_cons, SX.S_len, List.length_cons]
    rw [Nat.mul_succ]
    omega
theorem join_ok {l : List (List Nat)} (h : ∀ z ∈ l, z.length ≤ 40) (hl : l.length ≤ 100000) : fJoin (.str " ") (.lst (l.map fun z => D.str (SX.S z))) = some (.str (SX.S (TL.joinL [32] l))) := by
  have h1 := sum_lens 40 l h
  have e : (" " : Str) = SX.S [32] := by decide +kernel
  have e1 : (" " : Str).length = 1 := by decide +kernel
  simp only [fJoin, items, Option.bind_some, strsD_S]
  rw [if_pos (by rw [List.length_map, e1]; omega)]
  congr 2
  rw [e]
  exact SX.join_S [32] l
def frL : List Nat := [46, 46, 32, 102, 114, 111, 109, 32]
def byL : List Nat := [32, 98, 121, 32]
def noneL : List Nat := [110, 111, 110, 101]
def tailL (f : Nat → Bool) : List Nat := frL ++ (TL.numL (tri f).1 ++ (byL ++ TL.numL (tri f).2.1))
def toldL (f : Nat → Bool) : List (List Nat) := (lowL f).map TL.numL ++ if endB f = true then [tailL f] else []
def wsL (f : Nat → Bool) : List (List Nat) := if toldL f = [] then [noneL] else toldL f
def strL (f : Nat → Bool) : List Nat := TL.joinL [32] (wsL f)
def strD (f : Nat → Bool) : D := .str (SX.S (strL f))
section
variable {N Mx : Nat} {c : Addr} {f g : Nat → Bool}
theorem lows_lt (h : Has N Mx f) (hN : 0 < N) (hN2 : N ≤ 10000) (hM : Mx ≤ 10000) : (∀ k ∈ lowL f, k < 20000) ∧ (lowL f).length ≤ 20000 := by
  have a1 := Nat.le_of_dvd hN h.dv
  have b1 := h.st
  refine ⟨fun k hk => ?_, ?_⟩
  · have := List.mem_range.mp (List.mem_filter.mp hk).1
    omega
  · have := List.length_filter_le f (List.range ((tri f).1 + (tri f).2.1))
    rw [List.length_range] at this
    show (List.filter _ _).length ≤ _
    omega
theorem told_ok (h : Has N Mx f) (hN : 0 < N) (hN2 : N ≤ 10000) (hM : Mx ≤ 10000) : (∀ z ∈ toldL f, z.length ≤ 40) ∧ (toldL f).length ≤ 20001 := by
  have a1 := Nat.le_of_dvd hN h.dv
  have b1 := h.st
  obtain ⟨h1, h2⟩ := lows_lt h hN hN2 hM
  refine ⟨fun z hz => ?_, ?_⟩
  · rcases List.mem_append.mp hz with hz | hz
    · obtain ⟨k, hk, rfl⟩ := List.mem_map.mp hz
      have := TL.numL_len (n := k) (k := 5) (by decide) (by have := h1 k hk; omega)
      omega
    · split at hz
      · rw [List.mem_singleton.mp hz]
        have l1 := TL.numL_len (n := (tri f).1) (k := 5) (by decide) (by omega)
        have l2 := TL.numL_len (n := (tri f).2.1) (k := 5) (by decide) (by omega)
        simp only [tailL, frL, byL, List.length_append, List.length_cons, List.length_nil]
        omega
      · cases hz
  · unfold toldL
    rw [List.length_append, List.length_map]
    split <;> simp <;> omega
theorem ws_ok (h : Has N Mx f) (hN : 0 < N) (hN2 : N ≤ 10000) (hM : Mx ≤ 10000) : (∀ z ∈ wsL f, z.length ≤ 40) ∧ (wsL f).length ≤ 20001 := by
  have := told_ok h hN hN2 hM
  unfold wsL
  split
  · exact ⟨fun z hz => by rw [List.mem_singleton.mp hz]; decide, by decide⟩
  · exact this
theorem tail_js (h : Has N Mx f) (hN : 0 < N) (hN2 : N ≤ 10000) (hM : Mx ≤ 10000) {ρ : List Sl} (h0 : ρ[0]? = some (.dat (bx c f))) :
    evJs [(evC (.str ".. from ")), (evUn fFmt (ofD (retD (evProp c "start" (g_Counts__start c) (evVar 0))))), (evC (.str " by ")), (evUn fFmt (ofD (retD (evProp c "period" (g_Counts__period c) (evVar 0)))))] ρ = .ok (.d (.str (SX.S (tailL f)))) ρ := by
  have a1 := Nat.le_of_dvd hN h.dv
  have b1 := h.st
  have l1 := TL.numL_len (n := (tri f).1) (k := 5) (by decide) (by omega)
  have l2 := TL.numL_len (n := (tri f).2.1) (k := 5) (by decide) (by omega)
  have e0 : Str.empty = SX.S [] := by decide +kernel
  have e1 : (".. from " : Str) = SX.S frL := by decide +kernel
  have e2 : (" by " : Str) = SX.S byL := by decide +kernel
  have c1 : frL.length = 8 := rfl
  have c2 : byL.length = 4 := rfl
  have t : SX.S (tailL f) = ((((Str.empty ++ ".. from ") ++ SX.S (TL.numL (tri f).1)) ++ " by ") ++ SX.S (TL.numL (tri f).2.1) : Str) := by
    rw [e0, e1, e2, SX.S_cat, SX.S_cat, SX.S_cat, SX.S_cat]
    simp [tailL]
  rw [t]
  refine js_ok (js_cons rfl ?_ (js_cons (un_ok (ofD_ok (prop_ok (var_d h0) (look_box _ (by decide) _) (is_start c _ _ _))) (ffmt_n _ (by omega))) ?_ (js_cons rfl ?_ (js_cons (un_ok (ofD_ok (prop_ok (var_d h0) (look_box _ (by decide) _) (is_period c _ _ _))) (ffmt_n _ (by omega))) ?_ js_nil))))
  · rw [e0, e1, SX.S_cat, SX.S_len, sizeLine_eq]; simp [c1]
  · rw [e0, e1, SX.S_cat, SX.S_cat, SX.S_len, sizeLine_eq]; simp [c1]; omega
  · rw [e0, e1, e2, SX.S_cat, SX.S_cat, SX.S_cat, SX.S_len, sizeLine_eq]; simp [c1, c2]; omega
  · rw [e0, e1, e2, SX.S_cat, SX.S_cat, SX.S_cat, SX.S_cat, SX.S_len, sizeLine_eq]; simp [c1, c2]; omega
theorem or_told {ρ : List Sl} {l : List (List Nat)} (h : ρ[1]? = some (.own false (.lst (l.map fun z => D.str (SX.S z))))) :
    ∃ r : Rf, evOrT (evVar 1) (ofD (iceO (evLst (evConsD (asD (evC (.str "none"))) evNilD)))) ρ = .ok r ρ ∧ vw ρ r = some (.lst ((if l = [] then [noneL] else l).map fun z => D.str (SX.S z))) := by
  have e1 : ("none" : Str) = SX.S noneL := by decide +kernel
  have v := var_o h
  unfold evOrT
  rw [v]
  cases l with
  | nil =>
    refine ⟨.d (.lst [.str "none"]), ?_, ?_⟩
    · have e : (vw ρ (.sl 1)).bind truD = some false := by simp [vw, h, O.toD, truD]
      simp only [Out.bind, e]
      exact ofD_ok (ice_ok (lst_ok (consD_ok (asD_d rfl) nilD_ok)))
    · simp [vw, e1]
  | cons x l =>
    refine ⟨.sl 1, ?_, ?_⟩
    · have e : (vw ρ (.sl 1)).bind truD = some true := by simp [vw, h, O.toD, truD]
      simp only [Out.bind, e]
    · simp [vw, h, O.toD]
theorem is_str (h : Has N Mx f) (hN : 0 < N) (hN2 : N ≤ 10000) (hM : Mx ≤ 10000) : Is (g_Counts____str__ c) [bx c f] (strD f) := by
  obtain ⟨w1, w2⟩ := lows_lt h hN hN2 hM
  obtain ⟨w3, w4⟩ := told_ok h hN hN2 hM
  obtain ⟨w5, w6⟩ := ws_ok h hN hN2 hM
  have hcomp : evComp [2] (seqT (retD (evProp c "members" (g_Counts__members c) (evVar 0)))) (gSet 2) mTrue (asD (evCB fStrI (evCons (evVar 2) evNil))) [.dat (bx c f), .un, .un] = .ok (.lst ((lowL f).map fun k : Nat => D.str (SX.S (TL.numL k)))) [.dat (bx c f), .un, .un] :=
    evCompM (fun k : Nat => D.int k) (fun k => D.str (SX.S (TL.numL k))) (seqT_ok (prop_ok (var_d rfl) (look_box _ (by decide) _) (is_lows h hN hN2 hM))) rfl (fun k hk => asD_d (cb_1 (var_d rfl) (fstr_n k (by have := w1 k hk; omega)))) (by rw [sizeLine_eq]; omega)
  have hl : ((lowL f).map fun k : Nat => D.str (SX.S (TL.numL k))) = ((lowL f).map TL.numL).map fun z => D.str (SX.S z) := by rw [List.map_map]; rfl
  rw [hl] at hcomp
  refine Is.of ⟨[.dat (bx c f), .own false (.lst ((toldL f).map fun z => D.str (SX.S z))), .un], ?_⟩
  unfold x_Counts____str__
  refine seq_nx (ρ1 := [.dat (bx c f), .own false (.lst (((lowL f).map TL.numL).map fun z => D.str (SX.S z))), .un]) (setO_nx hcomp rfl) ?_
  refine seq_nx (ρ1 := [.dat (bx c f), .own false (.lst ((toldL f).map fun z => D.str (SX.S z))), .un]) ?_ ?_
  · have hc : asB (ofD (retD (evProp c "endless" (g_Counts__endless c) (evVar 0)))) [.dat (bx c f), .own false (.lst (((lowL f).map TL.numL).map fun z => D.str (SX.S z))), .un] = .ok (endB f) [.dat (bx c f), .own false (.lst (((lowL f).map TL.numL).map fun z => D.str (SX.S z))), .un] :=
      asB_ok (ofD_ok (prop_ok (var_d rfl) (look_box _ (by decide) _) (is_endl h)))
    cases e : endB f with
    | true =>
      rw [e] at hc
      refine if_t hc ?_
      refine (app_nx (asD_d (tail_js h hN hN2 hM rfl)) rfl (by rw [sizeLine_eq]; simp; omega)).trans ?_
      simp [toldL, e]
    | false =>
      rw [e] at hc
      refine if_f hc ?_
      simp [toldL, e, xNext]
  · obtain ⟨r, h1, h2⟩ := or_told (ρ := [.dat (bx c f), .own false (.lst ((toldL f).map fun z => D.str (SX.S z))), .un]) (l := toldL f) rfl
    refine ret_rt (asD_d ?_)
    unfold evM1
    simp only [evC, Out.bind, h1, h2]
    have := join_ok w5 (by omega)
    unfold wsL at this
    rw [this]
    rfl
theorem joinL_len (k : Nat) : ∀ l : List (List Nat), (∀ z ∈ l, z.length ≤ k) → (TL.joinL [32] l).length ≤ (k + 1) * l.length
  | [], _ => by simp [TL.joinL]
  | [x], h => by
    have h2 := h x List.mem_cons_self
    simp [TL.joinL]
    omega
  | x :: y :: l, h => by
    have h1 := joinL_len k (y :: l) fun z hz => h z (List.mem_cons_of_mem _ hz)
    have h2 := h x List.mem_cons_self
    simp only [TL.joinL, List.length_append, List.length_cons, List.length_nil] at h1 ⊢
    rw [Nat.mul_succ]
    omega
theorem joinL_all (k : Nat) (hk : 32 < k) : ∀ l : List (List Nat), (∀ z ∈ l, ∀ x ∈ z, x < k) → ∀ x ∈ TL.joinL [32] l, x < k
  | [], _, x, hx => by simp [TL.joinL] at hx
  | [y], h, x, hx => h y List.mem_cons_self x (by simpa [TL.joinL] using hx)
  | y :: w :: l, h, x, hx => by
    simp only [TL.joinL, List.mem_append] at hx
    rcases hx with hx | hx
    · first
        | exact h y List.mem_cons_self x hx
        | (rcases hx with hx | hx
           · exact h y List.mem_cons_self x hx
           · rw [List.mem_singleton.mp hx]; exact hk)
    · first
        | exact joinL_all k hk (w :: l) (fun z hz => h z (List.mem_cons_of_mem _ hz)) x hx
        | (rcases hx with hx | hx
           · rw [List.mem_singleton.mp hx]; exact hk
           · exact joinL_all k hk (w :: l) (fun z hz => h z (List.mem_cons_of_mem _ hz)) x hx)
theorem numL_128 (n : Nat) : ∀ x ∈ TL.numL n, x < 128 := by
  intro x hx
  by_cases z : x < 48 ∨ 57 < x
  · exact absurd hx (TL.numL_free (n := n) z)
  · omega
theorem ws_128 (f : Nat → Bool) : ∀ z ∈ wsL f, ∀ x ∈ z, x < 128 := by
  intro z hz x hx
  have ht : ∀ z ∈ toldL f, ∀ x ∈ z, x < 128 := by
    intro z hz x hx
    rcases List.mem_append.mp hz with hz | hz
    · obtain ⟨k, _, rfl⟩ := List.mem_map.mp hz
      exact numL_128 k x hx
    · split at hz
      · rw [List.mem_singleton.mp hz] at hx
        unfold tailL at hx
        have h1 : ∀ x ∈ frL, x < 128 := by decide
        have h2 : ∀ x ∈ byL, x < 128 := by decide
        simp only [List.mem_append] at hx
        rcases hx with hx | hx | hx | hx
        · exact h1 x hx
        · exact numL_128 _ x hx
        · exact h2 x hx
        · exact numL_128 _ x hx
      · cases hz
  unfold wsL at hz
  split at hz
  · rw [List.mem_singleton.mp hz] at hx
    have h1 : ∀ x ∈ noneL, x < 128 := by decide
    exact h1 x hx
  · exact ht z hz x hx
def cntL : List Nat := [67, 111, 117, 110, 116, 115, 40]
def reprL (f : Nat → Bool) : List Nat := cntL ++ strL f ++ [41]
theorem is_reprX (h : Has N Mx f) (hN : 0 < N) (hN2 : N ≤ 10000) (hM : Mx ≤ 10000) : Is (g_Counts____repr__ c) [bx c f] (.str (SX.S (reprL f))) ∧ PyData.strOk (SX.S (reprL f)) = true := by
  obtain ⟨w5, w6⟩ := ws_ok h hN hN2 hM
  have hlen : (strL f).length ≤ 1000000 := by
    have := joinL_len 40 (wsL f) w5
    unfold strL
    omega
  have hl : (SX.S (strL f)).length ≤ 1000000 := by rw [SX.S_len]; exact hlen
  have e0 : Str.empty = SX.S [] := by decide +kernel
  have e1 : ("Counts(" : Str) = SX.S [67, 111, 117, 110, 116, 115, 40] := by decide +kernel
  have e2 : (")" : Str) = SX.S [41] := by decide +kernel
  have hf : fFmt (strD f) = some (strD f) := by
    unfold strD
    simp only [fFmt]
    rw [if_pos (by rw [sizeLine_eq]; omega)]
  have ez : SX.S (reprL f) = ((Str.empty ++ "Counts(") ++ SX.S (strL f)) ++ ")" := by
    rw [e0, e1, e2, SX.S_cat, SX.S_cat, SX.S_cat]
    rfl
  rw [ez]
  refine ⟨Is.of ⟨[.dat (bx c f)], ?_⟩, ?_⟩
  · unfold x_Counts____repr__
    refine ret_rt (asD_d (js_ok (js_cons rfl ?_ (js_cons (un_ok (shOwn_ok (ofD_ok (asD_d (var_d rfl))) (is_str h hN hN2 hM)) hf) ?_ (js_cons rfl ?_ js_nil)))))
    · rw [e0, e1, SX.S_cat, SX.S_len, sizeLine_eq]; simp
    · rw [e0, e1, SX.S_cat, SX.S_cat, SX.S_len, sizeLine_eq]; simp; omega
    · rw [e0, e1, e2, SX.S_cat, SX.S_cat, SX.S_cat, SX.S_len, sizeLine_eq]; simp; omega
  · rw [e0, e1, e2, SX.S_cat, SX.S_cat, SX.S_cat]
    unfold PyData.strOk
    rw [← Array.all_toList, List.all_eq_true]
    intro x hx
    have hx' : x ∈ ([] ++ [67, 111, 117, 110, 116, 115, 40]) ++ strL f ++ [41] := hx
    simp only [List.nil_append, List.mem_append] at hx'
    have h1 : ∀ x ∈ ([67, 111, 117, 110, 116, 115, 40] : List Nat), x < 128 := by decide
    have h2 : ∀ x ∈ ([41] : List Nat), x < 128 := by decide
    have : x < 128 := by
      rcases hx' with (hx' | hx') | hx'
      · exact h1 x hx'
      · exact joinL_all 128 (by decide) (wsL f) (ws_128 f) x hx'
      · exact h2 x hx'
    rw [decide_eq_true_eq]
    omega
theorem is_repr (h : Has N Mx f) (hN : 0 < N) (hN2 : N ≤ 10000) (hM : Mx ≤ 10000) : ∃ z : Str, Is (g_Counts____repr__ c) [bx c f] (.str z) ∧ PyData.strOk z = true := ⟨_, is_reprX h hN hN2 hM⟩
end
/-! ### two texts are alike just if the counts are -/
theorem joinL_two (w : List Nat) (m : List (List Nat)) (hm : m ≠ []) : ∀ l : List (List Nat), TL.joinL w (l ++ [TL.joinL w m]) = TL.joinL w (l ++ m)
  | [] => by simp [TL.joinL]
  | [x] => by
    obtain ⟨y, m', rfl⟩ := List.exists_cons_of_ne_nil hm
    simp [TL.joinL]
  | x :: y :: l => by
    have := joinL_two w m hm (y :: l)
    simp only [List.cons_append, TL.joinL] at this ⊢
    rw [this]
def fiveL (s p : Nat) : List (List Nat) := [[46, 46], [102, 114, 111, 109], TL.numL s, [98, 121], TL.numL p]
theorem tail_five (f : Nat → Bool) : tailL f = TL.joinL [32] (fiveL (tri f).1 (tri f).2.1) := by
  simp [tailL, fiveL, TL.joinL, frL, byL]
/-- what stands behind the members -/
def endL (f : Nat → Bool) : List (List Nat) := if endB f = true then fiveL (tri f).1 (tri f).2.1 else if lowL f = [] then [noneL] else []
theorem str_words (f : Nat → Bool) : strL f = TL.joinL [32] ((lowL f).map TL.numL ++ endL f) := by
  unfold strL wsL toldL endL
  cases e : endB f with
  | true =>
    simp only [if_true]
    rw [if_neg (by simp), tail_five, joinL_two _ _ (by simp [fiveL])]
  | false =>
    simp only [Bool.false_eq_true, if_false, List.append_nil, List.map_eq_nil_iff]
    by_cases z : lowL f = []
    · rw [if_pos z, if_pos z, z]; rfl
    · rw [if_neg z, if_neg z, List.append_nil]
def isNumW (z : List Nat) : Bool := z.all fun c => decide (48 ≤ c) && decide (c ≤ 57)
theorem numL_isNum (n : Nat) : isNumW (TL.numL n) = true := by
  unfold isNumW
  rw [List.all_eq_true]
  intro c hc
  by_cases z : c < 48 ∨ 57 < c
  · exact absurd hc (TL.numL_free (n := n) z)
  · simp; omega
theorem nums_take (ns : List Nat) (b : List (List Nat)) (h : ∀ z, b.head? = some z → isNumW z = false) : (ns.map TL.numL ++ b).takeWhile isNumW = ns.map TL.numL := by
  induction ns with
  | nil =>
    cases b with
    | nil => rfl
    | cons z b => simp [h z rfl]
  | cons n ns ih =>
    simp only [List.map_cons, List.cons_append]
    rw [List.takeWhile_cons, if_pos (numL_isNum n), ih]
theorem end_head (f : Nat → Bool) : ∀ z, (endL f).head? = some z → isNumW z = false := by
  intro z hz
  unfold endL at hz
  split at hz
  · cases hz; decide
  · split at hz
    · cases hz; decide
    · cases hz
theorem words_free (f : Nat → Bool) : ∀ z ∈ (lowL f).map TL.numL ++ endL f, (32 : Nat) ∉ z := by
  intro z hz
  rcases List.mem_append.mp hz with hz | hz
  · obtain ⟨k, _, rfl⟩ := List.mem_map.mp hz
    exact TL.numL_free (.inl (by decide))
  · unfold endL at hz
    split at hz
    · simp only [fiveL, List.mem_cons, List.not_mem_nil, or_false] at hz
      rcases hz with rfl | rfl | rfl | rfl | rfl
      · decide
      · decide
      · exact TL.numL_free (.inl (by decide))
      · decide
      · exact TL.numL_free (.inl (by decide))
    · split at hz
      · rw [List.mem_singleton.mp hz]; decide
      · cases hz
theorem words_ne (f : Nat → Bool) : (lowL f).map TL.numL ++ endL f ≠ [] := by
  intro h
  rw [List.append_eq_nil_iff, List.map_eq_nil_iff] at h
  obtain ⟨h1, h2⟩ := h
  unfold endL at h2
  rw [h1] at h2
  split at h2
  · cases h2
  · simp at h2
theorem numsL_inj : ∀ {l m : List Nat}, l.map TL.numL = m.map TL.numL → l = m
  | [], [], _ => rfl
  | [], _ :: _, h => by cases h
  | _ :: _, [], h => by cases h
  | x :: l, y :: m, h => by
    simp only [List.map_cons, List.cons.injEq] at h
    rw [TL.numL_inj h.1, numsL_inj h.2]
section
variable {N Mx N' M' : Nat} {c : Addr} {f g : Nat → Bool}
theorem has_at (h : Has N Mx f) (n : Nat) : ∃ k, k < (tri f).1 + (tri f).2.1 ∧ f n = f k ∧ k = if n < (tri f).1 then n else (tri f).1 + (n - (tri f).1) % (tri f).2.1 := by
  refine ⟨_, ?_, ?_, rfl⟩
  · have := Nat.mod_lt (n - (tri f).1) h.can.pos
    split
    · omega
    · omega
  · have hk : (if n < (tri f).1 then n else (tri f).1 + (n - (tri f).1) % (tri f).2.1) < (tri f).1 + (tri f).2.1 := by
      have := Nat.mod_lt (n - (tri f).1) h.can.pos
      split
      · omega
      · omega
    have e1 := h.mem n
    have e2 := (h.mem _).symm.trans (mem_in hk)
    rw [e2, ← e1]
    rfl
theorem low_eq (l1 : (tri f).1 + (tri f).2.1 = (tri g).1 + (tri g).2.1) (e : lowL f = lowL g) : ∀ k, k < (tri f).1 + (tri f).2.1 → f k = g k := by
  intro k hk
  have h1 : k ∈ lowL f ↔ f k = true := by unfold lowL; rw [List.mem_filter, List.mem_range]; exact ⟨fun z => z.2, fun z => ⟨hk, z⟩⟩
  have h2 : k ∈ lowL g ↔ g k = true := by unfold lowL; rw [List.mem_filter, List.mem_range]; exact ⟨fun z => z.2, fun z => ⟨by omega, z⟩⟩
  rw [Bool.eq_iff_iff, ← h1, ← h2, e]
open Classical in
theorem end_false (h : Has N Mx f) (e : endB f = false) : ∀ n, f n = true ↔ n ∈ lowL f := by
  intro n
  unfold lowL
  rw [List.mem_filter, List.mem_range]
  refine ⟨fun z => ⟨?_, z⟩, fun z => z.2⟩
  rcases Nat.lt_or_ge n (tri f).1 with q | q
  · omega
  · exfalso
    have : endB f = true := by
      unfold endB
      refine decide_eq_true fun t => ⟨n + t * (tri f).2.1, ?_, ?_⟩
      · have := Nat.le_mul_of_pos_right t h.can.pos
        omega
      · rw [← h.mem, per_all (s := (tri f).1) (fun n hn => mem_per hn) t n q, h.mem, z]
    rw [e] at this
    cases this
theorem str_inj (h : Has N Mx f) (h' : Has N' M' g) (e : strL f = strL g) : f = g := by
  rw [str_words, str_words] at e
  have e2 : (lowL f).map TL.numL ++ endL f = (lowL g).map TL.numL ++ endL g := by
    rw [← SX.spl_join (sep := []) (words_ne f) (words_free f), ← SX.spl_join (sep := []) (words_ne g) (words_free g), e]
  have e3 : (lowL f).map TL.numL = (lowL g).map TL.numL := by
    rw [← nums_take (lowL f) (endL f) (end_head f), ← nums_take (lowL g) (endL g) (end_head g), e2]
  have e4 := numsL_inj e3
  rw [e3] at e2
  have e5 := List.append_cancel_left e2
  unfold endL at e5
  cases z1 : endB f with
  | true =>
    cases z2 : endB g with
    | true =>
      rw [z1, z2] at e5
      simp only [if_true, fiveL, List.cons.injEq, and_true, true_and] at e5
      have s1 := TL.numL_inj e5.1
      have p1 := TL.numL_inj e5.2
      funext n
      obtain ⟨k, k1, k2, k3⟩ := has_at h n
      obtain ⟨j, j1, j2, j3⟩ := has_at h' n
      rw [s1, p1, ← j3] at k3
      rw [k2, j2, ← k3]
      exact low_eq (by omega) e4 k k1
    | false =>
      exfalso
      rw [z1, z2] at e5
      simp only [if_true, Bool.false_eq_true, if_false, fiveL] at e5
      split at e5 <;> simp at e5
  | false =>
    cases z2 : endB g with
    | true =>
      exfalso
      rw [z1, z2] at e5
      simp only [if_true, Bool.false_eq_true, if_false, fiveL] at e5
      split at e5 <;> simp at e5
    | false =>
      funext n
      rw [Bool.eq_iff_iff, end_false h z1 n, end_false h' z2 n, e4]
end
end
end Lk
namespace Lk
noncomputable section
open PySem PySem.Spec PyProof.Rows L2 G DC

/-! ### the law's own defs -/

def purO (a b c : Int) : O := .lst [.int a, .int b, .int c]
theorem is_pick (a b c many : Int) (ha : 0 ≤ a) (hb : 0 ≤ b) (hb2 : b < 2147483549) (hc : 0 ≤ c) (hc2 : c < 1000000000) (hm : 0 < many) (hm2 : many < 1073741824) :
    ∃ r a' b' : Int, g__law_pick [.own true (purO a b c), .dat (.int many)] = .ok (.d (.int r)) [.own true (purO a' b' (c + 1)), .dat (.int many)] ∧ 0 ≤ r ∧ r < many ∧ 0 ≤ a' ∧ 0 ≤ b' ∧ b' < 2147483549 := by
  obtain ⟨mx, hmx⟩ : ∃ mx, mx = b * (b % 30059 + 20011) + 60013 * (c + 1) * (c + 1) + 7 := ⟨_, rfl⟩
  have c1 : CMul b (b % 30059 + 20011) := .inl ⟨by omega, by omega⟩
  have c2 : CMul 60013 (c + 1) := .inl ⟨by decide, by decide⟩
  have c3 : CMul (60013 * (c + 1)) (c + 1) := .inr ⟨by omega, by omega⟩
  have d1 : CDiv a many := ⟨hm, hm2⟩
  have d2 : CDiv (mx % 2147483549) 32 := ⟨by decide, by decide⟩
  have q0 : 0 ≤ mx % 2147483549 := Int.emod_nonneg _ (by decide)
  have q1 : mx % 2147483549 < 2147483549 := Int.emod_lt_of_pos _ (by decide)
  rw [hmx] at d2 q0 q1
  by_cases h : 0 < a
  · refine ⟨a % many, a / many, _, ?_, Int.emod_nonneg _ (by omega), Int.emod_lt_of_pos _ hm, Int.ediv_nonneg ha (by omega), q0, q1⟩
    unfold g__law_pick x__law_pick purO
    simp [Is, fnD, xSeq, xAsg, xIf, xSet, xPar, xRet, xFor, xAug, gSet, gTupD, gsCons, gsNil, evOp, evVar, evC, evUn, evChain, asD, ofD, retD, iceO, asB, thenS, Out.bind, Rs.bind, vw, setD, free, op2I, op2I0, fEqS, D.sc, scal, evCall, evCons, evNil, evTup, evConsD, evNilD, evBits, lift, vAnd, vOr, vNot, xDrop, evAppend, ownL, xSetO, xNext, evLst, Option.bind, mAnd, mOr, mNot, mIf, List.replicate, clos, gIx, fIxL, atI, ixN, O.toD, evCB, vws, fInt, c1, c2, c3, d1, h, hm]
  · refine ⟨mx % 2147483549 / 32 % many, a, _, ?_, Int.emod_nonneg _ (by omega), Int.emod_lt_of_pos _ hm, ha, q0, q1⟩
    unfold g__law_pick x__law_pick purO
    simp [Is, fnD, xSeq, xAsg, xIf, xSet, xPar, xRet, xFor, xAug, gSet, gTupD, gsCons, gsNil, evOp, evVar, evC, evUn, evChain, asD, ofD, retD, iceO, asB, thenS, Out.bind, Rs.bind, vw, setD, free, op2I, op2I0, fEqS, D.sc, scal, evCall, evCons, evNil, evTup, evConsD, evNilD, evBits, lift, vAnd, vOr, vNot, xDrop, evAppend, ownL, xSetO, xNext, evLst, Option.bind, mAnd, mOr, mNot, mIf, List.replicate, clos, gIx, fIxL, atI, ixN, O.toD, evCB, vws, fInt, c1, c2, c3, d2, h, hm, hmx]

/-- a purse whose turn is c -/
def Pu (c : Nat) (o : O) : Prop := ∃ a b : Int, o = purO a b c ∧ 0 ≤ a ∧ 0 ≤ b ∧ b < 2147483549
theorem pick_at {c : Nat} {o : O} {many : Int} {bb : Bool} {ρ : List Sl} (h : Pu c o) (hc : c < 1000000000) (hm : 0 < many) (hm2 : many < 1073741824) (h0 : ρ[0]? = some (.own bb o)) :
    ∃ (r : Nat) (o' : O), callW g__law_pick [.sl 0, .d (.int many)] ρ = .ok (.d (.int r)) (ρ.set 0 (.own bb o')) ∧ Pu (c + 1) o' ∧ (r : Int) < many := by
  obtain ⟨a, b, rfl, h1, h2, h3⟩ := h
  obtain ⟨r, a', b', e, r0, r1, z⟩ := is_pick a b c many h1 h2 h3 (by omega) (by omega) hm hm2
  refine ⟨r.toNat, purO a' b' (c + 1 : Nat), ?_, ⟨a', b', rfl, z⟩, by omega⟩
  have := callP (g := g__law_pick) (i := 0) (bb := bb) (as := [.int many]) h0 e
  rw [show ((r.toNat : Nat) : Int) = r by omega]
  simpa using this
theorem nats_of : ∀ (xs : List D), (∀ x ∈ xs, ∃ r : Nat, x = .int r ∧ r ≤ 10000) → ∃ l : List Nat, xs = (l.map fun n : Nat => D.int n) ∧ ∀ k ∈ l, k ≤ 10000
  | [], _ => ⟨[], rfl, by simp⟩
  | x :: xs, h => by
    obtain ⟨r, rfl, hr⟩ := h x List.mem_cons_self
    obtain ⟨l, rfl, hl⟩ := nats_of xs fun y hy => h y (List.mem_cons_of_mem _ hy)
    refine ⟨r :: l, rfl, fun k hk => ?_⟩
    rcases List.mem_cons.mp hk with rfl | hk
    · exact hr
    · exact hl k hk
theorem scs_nats : ∀ l : List Nat, scs (l.map fun n : Nat => D.int n) = some (l.map fun n : Nat => V.int n)
  | [] => rfl
  | n :: l => by simp [scs, D.sc, scs_nats l]
theorem in_nats (n : Int) (l : List Nat) : fIn false (.int n) (.tup (l.map fun n : Nat => D.int n)) = some (.bl (decide (∃ k ∈ l, n = (k : Int)))) := by
  simp only [fIn, D.sc, scs_nats]
  congr 2
  rw [Bool.eq_iff_iff]
  simp only [inV, List.any_map, List.any_eq_true, decide_eq_true_eq, Function.comp, Bool.false_eq_true, if_false]
  refine exists_congr fun k => and_congr Iff.rfl ?_
  show ((k : Int) == n) = true ↔ n = (k : Int)
  rw [beq_iff_eq]
  exact ⟨fun z => z.symm, fun z => z.symm⟩
theorem is_purse (ns : List Int) (k : Nat) (hk : k ≤ 100) (hl : ns.length ≤ 1000) : ∃ o : O, g__law_purse [.dat (.scr ns), .dat (.int k)] = .ok (.o o) [.dat (.scr ns), .dat (.int k)] ∧ Pu k o := by
  have c1 : CMul 977 (k : Int) := .inl ⟨by decide, by decide⟩
  have c2 : CMul 31 (ns.length : Int) := .inl ⟨by decide, by decide⟩
  have c3 : CMul 4099 (k : Int) := .inl ⟨by decide, by decide⟩
  have c4 : CPow 10 18 := ⟨by decide, by decide, by decide⟩
  obtain ⟨cs, hcs⟩ : ∃ cs, cs = (ns.drop (HT.sIx ns.length 0 none)).take (HT.sIx ns.length ns.length (some 4) - HT.sIx ns.length 0 none) := ⟨_, rfl⟩
  have hcl : cs.length ≤ 1000 := by
    rw [hcs, List.length_take, List.length_drop]; omega
  have hcut : DC.cutD (ns.map D.int) none (some 4) = cs.map D.int := by
    unfold DC.cutD
    rw [hcs, List.map_take, List.map_drop, List.length_map]
  have e := evCompM (v := 5) (ρ := [.dat (.scr ns), .dat (.int k), .un, .un, .un, .un]) (ev := seqL (iceO (evSlO fSlL (evVar 0) mNoPart (mPart (evC (.int 4)))))) (ee := (asD (evOp fMod (evCB fInt (evCons (evVar 5) evNil)) (evC (.int 10007))))) (l := cs) (fun i : Int => D.int i) (fun i => .int (i % 10007))
    (by simp [Is, fnD, xSeq, xAsg, xIf, xSet, xPar, xRet, xFor, xAug, gSet, gTupD, gsCons, gsNil, evOp, evVar, evC, evUn, evChain, asD, ofD, retD, iceO, asB, thenS, Out.bind, Rs.bind, vw, setD, free, op2I, op2I0, fEqS, D.sc, scal, evCall, evCons, evNil, evTup, evConsD, evNilD, evBits, lift, vAnd, vOr, vNot, xDrop, evAppend, ownL, xSetO, xNext, evLst, Option.bind, mAnd, mOr, mNot, mIf, List.replicate, clos, gIx, fIxL, atI, ixN, O.toD, evCB, vws, fInt, seqL, evSlO, fSlL, mNoPart, mPart, Out.bind0, hcut]) rfl (fun i hi => by simp [Is, fnD, xSeq, xAsg, xIf, xSet, xPar, xRet, xFor, xAug, gSet, gTupD, gsCons, gsNil, evOp, evVar, evC, evUn, evChain, asD, ofD, retD, iceO, asB, thenS, Out.bind, Rs.bind, vw, setD, free, op2I, op2I0, fEqS, D.sc, scal, evCall, evCons, evNil, evTup, evConsD, evNilD, evBits, lift, vAnd, vOr, vNot, xDrop, evAppend, ownL, xSetO, xNext, evLst, Option.bind, mAnd, mOr, mNot, mIf, List.replicate, clos, gIx, fIxL, atI, ixN, O.toD, evCB, vws, fInt]) (by rw [sizeLine_eq]; omega)
  have hsum : fSum [.lst (cs.map fun i => D.int (i % 10007))] = some (.int (cs.map fun i => i % 10007).sum) := by
    have := ints_map (fun i : Int => i % 10007) cs
    simp [fSum, lstOf, this]
  obtain ⟨rest, hrest⟩ : ∃ rest, rest = 977 * (k : Int) + 31 * (ns.length : Int) + (cs.map fun i => i % 10007).sum := ⟨_, rfl⟩
  have hlen : fLen [.scr ns] = some (.int ns.length) := by simp [fLen, items]
  have s1 : xSet 2 (asD (evOp fAdd (evOp fAdd (evOp fMul (evC (.int 977)) (evVar 1)) (evOp fMul (evC (.int 31)) (evCB fLen (evCons (evVar 0) evNil)))) (evCB fSum (evCons (ofD (iceO (evComp [5] (seqL (iceO (evSlO fSlL (evVar 0) mNoPart (mPart (evC (.int 4)))))) (gSet 5) mTrue (asD (evOp fMod (evCB fInt (evCons (evVar 5) evNil)) (evC (.int 10007))))))) evNil)))) [.dat (.scr ns), .dat (.int k), .un, .un, .un, .un] = .nx [.dat (.scr ns), .dat (.int k), .dat (.int rest), .un, .un, .un] := by
    rw [hrest]
    simp [Is, fnD, xSeq, xAsg, xIf, xSet, xPar, xRet, xFor, xAug, gSet, gTupD, gsCons, gsNil, evOp, evVar, evC, evUn, evChain, asD, ofD, retD, iceO, asB, thenS, Out.bind, Rs.bind, vw, setD, free, op2I, op2I0, fEqS, D.sc, scal, evCall, evCons, evNil, evTup, evConsD, evNilD, evBits, lift, vAnd, vOr, vNot, xDrop, evAppend, ownL, xSetO, xNext, evLst, Option.bind, mAnd, mOr, mNot, mIf, List.replicate, clos, gIx, fIxL, atI, ixN, O.toD, evCB, vws, fInt, c1, c2, hlen, e, hsum]
  obtain ⟨cell, hcell⟩ : ∃ cell : Int, xSet 3 (asD (mIf (asB (evOp fLt (evVar 1) (evCB fLen (evCons (evVar 0) evNil)))) (evCB fInt (evCons (evOp fIxL (evVar 0) (evVar 1)) evNil)) (evVar 2))) [.dat (.scr ns), .dat (.int k), .dat (.int rest), .un, .un, .un] = .nx [.dat (.scr ns), .dat (.int k), .dat (.int rest), .dat (.int cell), .un, .un] := by
    by_cases h : k < ns.length
    · refine ⟨ns[k], ?_⟩
      simp [Is, fnD, xSeq, xAsg, xIf, xSet, xPar, xRet, xFor, xAug, gSet, gTupD, gsCons, gsNil, evOp, evVar, evC, evUn, evChain, asD, ofD, retD, iceO, asB, thenS, Out.bind, Rs.bind, vw, setD, free, op2I, op2I0, fEqS, D.sc, scal, evCall, evCons, evNil, evTup, evConsD, evNilD, evBits, lift, vAnd, vOr, vNot, xDrop, evAppend, ownL, xSetO, xNext, evLst, Option.bind, mAnd, mOr, mNot, mIf, List.replicate, clos, gIx, fIxL, atI, ixN, O.toD, evCB, vws, fInt, hlen, h]
    · refine ⟨rest, ?_⟩
      simp [Is, fnD, xSeq, xAsg, xIf, xSet, xPar, xRet, xFor, xAug, gSet, gTupD, gsCons, gsNil, evOp, evVar, evC, evUn, evChain, asD, ofD, retD, iceO, asB, thenS, Out.bind, Rs.bind, vw, setD, free, op2I, op2I0, fEqS, D.sc, scal, evCall, evCons, evNil, evTup, evConsD, evNilD, evBits, lift, vAnd, vOr, vNot, xDrop, evAppend, ownL, xSetO, xNext, evLst, Option.bind, mAnd, mOr, mNot, mIf, List.replicate, clos, gIx, fIxL, atI, ixN, O.toD, evCB, vws, fInt, hlen, h]
  obtain ⟨dg, hdg, hdg0⟩ : ∃ dg : Int, xSet 4 (asD (mIf (asB (evOp fGe (evVar 3) (evOp fPow (evC (.int 10)) (evC (.int 18))))) (evVar 3) (evC (.int 0)))) [.dat (.scr ns), .dat (.int k), .dat (.int rest), .dat (.int cell), .un, .un] = .nx [.dat (.scr ns), .dat (.int k), .dat (.int rest), .dat (.int cell), .dat (.int dg), .un] ∧ 0 ≤ dg := by
    by_cases h : (1000000000000000000 : Int) ≤ cell
    · refine ⟨cell, ?_, by omega⟩
      simp [Is, fnD, xSeq, xAsg, xIf, xSet, xPar, xRet, xFor, xAug, gSet, gTupD, gsCons, gsNil, evOp, evVar, evC, evUn, evChain, asD, ofD, retD, iceO, asB, thenS, Out.bind, Rs.bind, vw, setD, free, op2I, op2I0, fEqS, D.sc, scal, evCall, evCons, evNil, evTup, evConsD, evNilD, evBits, lift, vAnd, vOr, vNot, xDrop, evAppend, ownL, xSetO, xNext, evLst, Option.bind, mAnd, mOr, mNot, mIf, List.replicate, clos, gIx, fIxL, atI, ixN, O.toD, evCB, vws, fInt, c4, h]
    · refine ⟨0, ?_, by omega⟩
      simp [Is, fnD, xSeq, xAsg, xIf, xSet, xPar, xRet, xFor, xAug, gSet, gTupD, gsCons, gsNil, evOp, evVar, evC, evUn, evChain, asD, ofD, retD, iceO, asB, thenS, Out.bind, Rs.bind, vw, setD, free, op2I, op2I0, fEqS, D.sc, scal, evCall, evCons, evNil, evTup, evConsD, evNilD, evBits, lift, vAnd, vOr, vNot, xDrop, evAppend, ownL, xSetO, xNext, evLst, Option.bind, mAnd, mOr, mNot, mIf, List.replicate, clos, gIx, fIxL, atI, ixN, O.toD, evCB, vws, fInt, c4, h]
  obtain ⟨ab, hab, hab0⟩ : ∃ ab : Int, fAbs [.int cell] = some (.int ab) ∧ 0 ≤ ab := by
    refine ⟨if cell < 0 then -cell else cell, rfl, ?_⟩
    split <;> omega
  refine ⟨purO dg ((ab + 4099 * k + 17) % 2147483549) k, ?_, ⟨_, _, rfl, hdg0, Int.emod_nonneg _ (by decide), Int.emod_lt_of_pos _ (by decide)⟩⟩
  unfold g__law_purse fnD x__law_purse
  simp only [List.replicate, List.cons_append, List.nil_append]
  have h3 : 3 ≤ sizeLine := by rw [sizeLine_eq]; decide
  rw [seq_nx s1 (seq_nx hcell (seq_nx hdg rfl))]
  simp [Is, fnD, xSeq, xAsg, xIf, xSet, xPar, xRet, xFor, xAug, gSet, gTupD, gsCons, gsNil, evOp, evVar, evC, evUn, evChain, asD, ofD, retD, iceO, asB, thenS, Out.bind, Rs.bind, vw, setD, free, op2I, op2I0, fEqS, D.sc, scal, evCall, evCons, evNil, evTup, evConsD, evNilD, evBits, lift, vAnd, vOr, vNot, xDrop, evAppend, ownL, xSetO, xNext, evLst, Option.bind, mAnd, mOr, mNot, mIf, List.replicate, clos, gIx, fIxL, atI, ixN, O.toD, evCB, vws, fInt, xRetO, hab, c3, h3, purO]
theorem pick_in {c : Nat} {o : O} {many : Int} {bb : Bool} {ρ : List Sl} (h : Pu c o) (hc : c < 1000000000) (hm : 0 < many) (hm2 : many < 1073741824) (h0 : ρ[0]? = some (.own bb o)) :
    ∃ (r : Nat) (o' : O), retD (evCall g__law_pick (evCons (evVar 0) (evCons (ofD (asD (evC (.int many)))) evNil))) ρ = .ok (.int r) (ρ.set 0 (.own bb o')) ∧ Pu (c + 1) o' ∧ (r : Int) < many := by
  obtain ⟨r, o', e, z⟩ := pick_at h hc hm hm2 h0
  refine ⟨r, o', ?_, z⟩
  have ea : evCons (evVar 0) (evCons (ofD (asD (evC (.int many)))) evNil) ρ = .ok [.sl 0, .d (.int many)] ρ := cons_ok (var_o h0) (cons_ok rfl nil_ok)
  unfold retD evCall
  rw [ea]
  simp only [Out.bind]
  rw [e]
/-! ### drawn -/
section
variable {c : Addr} {f g h : Nat → Bool}
theorem pick_e {n : Nat} {o : O} {many : Int} {bb : Bool} {ρ : List Sl} {eb : M D} (h : Pu n o) (hc : n < 1000000000) (hm : 0 < many) (hm2 : many < 1073741824) (h0 : ρ[0]? = some (.own bb o)) (he : eb ρ = .ok (.int many) ρ) :
    ∃ (r : Nat) (o' : O), retD (evCall g__law_pick (evCons (evVar 0) (evCons (ofD eb) evNil))) ρ = .ok (.int r) (ρ.set 0 (.own bb o')) ∧ Pu (n + 1) o' ∧ (r : Int) < many := by
  obtain ⟨r, o', e, z⟩ := pick_at h hc hm hm2 h0
  refine ⟨r, o', ?_, z⟩
  have ea : evCons (evVar 0) (evCons (ofD eb) evNil) ρ = .ok [.sl 0, .d (.int many)] ρ := cons_ok (var_o h0) (cons_ok (ofD_ok he) nil_ok)
  unfold retD evCall
  rw [ea]
  simp only [Out.bind]
  rw [e]
end
end
end Lk
namespace Lk
noncomputable section
open PySem PySem.Spec PyProof.Rows L2 G DC


/-! ### k51: the law's own defs -/
def lstD (l : List Nat) : D := .lst (l.map fun n : Nat => D.int n)
theorem in_natsL (n : Int) (l : List Nat) : fIn false (.int n) (lstD l) = some (.bl (decide (∃ k ∈ l, n = (k : Int)))) := in_nats n l
theorem seq_rt {a b : W} {ρ ρ1 : List Sl} {r : Ret} (h : a ρ = .rt r ρ1) : xSeq a b ρ = .rt r ρ1 := by
  unfold xSeq
  rw [h]
  rfl
theorem is_due (n : Nat) (one more : List Nat) (P : Nat) (hP : 0 < P) (hl : more.length ≤ 1000) : Is g__law_due [.int n, lstD one, lstD more, .int P] (.bl (due n one more P)) := by
  have hin := in_natsL n one
  have hq : decide (∃ k ∈ one, (n : Int) = (k : Int)) = decide (n ∈ one) := decide_eq_decide.mpr ⟨fun ⟨k, hk, e⟩ => by
    obtain rfl : n = k := by omega
    exact hk, fun h => ⟨n, h, rfl⟩⟩
  rw [hq] at hin
  refine Is.of ⟨[.dat (.int n), .dat (lstD one), .dat (lstD more), .dat (.int P), .un], ?_⟩
  unfold x__law_due
  have t := asB_ok (op_dd (f := fIn false) (var_d (i := 0) (ρ := [.dat (.int n), .dat (lstD one), .dat (lstD more), .dat (.int P), .un]) rfl) (var_d (i := 1) rfl) hin)
  by_cases h : n ∈ one
  · rw [decide_eq_true h] at t
    have : due n one more P = true := by simp [due, h]
    rw [this]
    exact seq_rt (if_t t (ret_rt (asD_d rfl)))
  · rw [decide_eq_false h] at t
    have : due n one more P = more.any fun m => decide (m ≤ n) && decide ((n - m) % P = 0) := by simp [due, h]
    rw [this]
    refine seq_nx (if_f t rfl) ?_
    have e := evCompM (v := 4) (ρ := [.dat (.int n), .dat (lstD one), .dat (lstD more), .dat (.int P), .un]) (ev := seqL (asD (evVar 2))) (ee := (asD (vAnd (evOp fLe (evVar 4) (evVar 0)) (evOp (fEqS false) (evOp fMod (evCB fInt (evCons (evOp fSub (evVar 0) (evVar 4)) evNil)) (evVar 3)) (evC (.int 0)))))) (l := more) (fun n : Nat => D.int n) (fun k => .bl (decide (k ≤ n) && decide ((n - k) % P = 0)))
      (seqL_ok (asD_d (var_d (d := lstD more) rfl))) rfl (fun k hk => by
        by_cases c : k ≤ n
        · have ci : ((k : Int) ≤ n) := by omega
          have e1 : ((n : Int) - k) % P = (((n - k) % P : Nat) : Int) := by rw [sub_n c, mod_n]
          simp [Is, fnD, xSeq, xAsg, xIf, xSet, xPar, xRet, xFor, xAug, gSet, gTupD, gsCons, gsNil, evOp, evVar, evC, evUn, evChain, asD, ofD, retD, iceO, asB, thenS, Out.bind, Rs.bind, vw, setD, free, op2I, op2I0, fEqS, D.sc, scal, evCall, evCons, evNil, evTup, evConsD, evNilD, evBits, lift, vAnd, vOr, vNot, xDrop, evAppend, ownL, xSetO, xNext, evLst, Option.bind, mAnd, mOr, mNot, mIf, List.replicate, clos, gIx, fIxL, atI, ixN, O.toD, evCB, vws, fInt, c, ci, hP, e1]
          try omega
        · have ci : ¬ ((k : Int) ≤ n) := by omega
          simp [Is, fnD, xSeq, xAsg, xIf, xSet, xPar, xRet, xFor, xAug, gSet, gTupD, gsCons, gsNil, evOp, evVar, evC, evUn, evChain, asD, ofD, retD, iceO, asB, thenS, Out.bind, Rs.bind, vw, setD, free, op2I, op2I0, fEqS, D.sc, scal, evCall, evCons, evNil, evTup, evConsD, evNilD, evBits, lift, vAnd, vOr, vNot, xDrop, evAppend, ownL, xSetO, xNext, evLst, Option.bind, mAnd, mOr, mNot, mIf, List.replicate, clos, gIx, fIxL, atI, ixN, O.toD, evCB, vws, fInt, c, ci]) (by rw [sizeLine_eq]; omega)
    exact ret_rt (asD_d (cb_1 (ofD_ok (ice_ok e)) (any_map _ more)))
theorem due_congr {n P : Nat} {one more one' more' : List Nat} (h1 : ∀ k, k ∈ one ↔ k ∈ one') (h2 : ∀ k, k ∈ more ↔ k ∈ more') : due n one more P = due n one' more' P := by
  unfold due
  rw [Bool.eq_iff_iff]
  simp only [Bool.or_eq_true, decide_eq_true_eq, List.any_eq_true, h1, h2]
/-- what comes again from e on after P comes so many times first, then again after more -/
theorem due_step (n e P up t : Nat) (hP : 0 < P) (ht : 0 < t) : (decide (e ≤ n) && decide ((n - e) % P = 0)) = true ↔ (n ∈ (List.range up).map fun k => e + P * k) ∨ ∃ m ∈ (List.range t).map (fun k => e + P * (up + k)), m ≤ n ∧ (n - m) % (P * t) = 0 := by
  simp only [Bool.and_eq_true, decide_eq_true_eq, List.mem_map, List.mem_range]
  constructor
  · rintro ⟨h1, h2⟩
    obtain ⟨q, hq⟩ := Nat.dvd_of_mod_eq_zero h2
    by_cases c : q < up
    · exact .inl ⟨q, c, by omega⟩
    · right
      refine ⟨_, ⟨(q - up) % t, Nat.mod_lt _ ht, rfl⟩, ?_, ?_⟩
      · have := Nat.mod_le (q - up) t
        have := Nat.mul_le_mul_left P (show up + (q - up) % t ≤ q by omega)
        omega
      · have hm := Nat.mod_add_div (q - up) t
        have e1 : q = (up + (q - up) % t) + t * ((q - up) / t) := by omega
        have e2 : n - (e + P * (up + (q - up) % t)) = P * t * ((q - up) / t) := by
          have : P * q = P * (up + (q - up) % t) + P * (t * ((q - up) / t)) := by
            rw [← Nat.mul_add]
            congr 1
          rw [Nat.mul_assoc]
          omega
        rw [e2]
        exact Nat.mul_mod_right _ _
  · rintro (⟨k, _, rfl⟩ | ⟨m, ⟨k, _, rfl⟩, h1, h2⟩)
    · refine ⟨by omega, ?_⟩
      rw [show e + P * k - e = P * k by omega]
      exact Nat.mul_mod_right _ _
    · obtain ⟨q, hq⟩ := Nat.dvd_of_mod_eq_zero h2
      refine ⟨by omega, ?_⟩
      have : n - e = P * ((up + k) + t * q) := by
        rw [Nat.mul_add]
        rw [Nat.mul_assoc] at hq
        omega
      rw [this]
      exact Nat.mul_mod_right _ _
theorem due_iff {n P : Nat} {one more : List Nat} : due n one more P = true ↔ n ∈ one ∨ ∃ m ∈ more, m ≤ n ∧ (n - m) % P = 0 := by
  unfold due
  simp only [Bool.or_eq_true, decide_eq_true_eq, List.any_eq_true, Bool.and_eq_true]
theorem row_drawn {n wide : Nat} {o : O} {x2 x3 : Sl} (h : Pu n o) (hn : n < 900000000) (hw : 0 < wide) (hw2 : wide ≤ 200) (h2 : fr x2 = true) (h3 : fr x3 = true) :
    ∃ (l : List Nat) (o' : O) (n' : Nat), iceO (evComp [4] (rng1 (evCons (ofD (retD (evCall g__law_pick (evCons (evVar 0) (evCons (ofD (asD (evC (.int 6)))) evNil))))) evNil)) (gSet 4) mTrue (retD (evCall g__law_pick (evCons (evVar 0) (evCons (ofD (asD (evVar 1))) evNil)))))
      [.own true o, .dat (.int wide), x2, x3, .un] = .ok (lstD l) [.own true o', .dat (.int wide), x2, x3, .un] ∧ Pu n' o' ∧ n' ≤ n + 6 ∧ l.length ≤ 5 ∧ ∀ k ∈ l, k < wide := by
  obtain ⟨m, o1, e1, p1, h1⟩ := pick_in (many := 6) (bb := true) (ρ := [.own true o, .dat (.int wide), x2, x3, .un]) h (by omega) (by decide) (by decide) rfl
  obtain ⟨xs, o2, e2, hl, hq, p2⟩ := evCompS (v := 3) (bb := true) (rest := [.dat (.int wide), x2, x3, .un]) (ev := fun ρ => .ok (rngD 0 m) ρ) (ee := (retD (evCall g__law_pick (evCons (evVar 0) (evCons (ofD (asD (evVar 1))) evNil))))) (ds := rngD 0 m) (n := n + 1) (o := o1) Pu (fun x => ∃ r : Nat, x = .int r ∧ r < wide)
    rfl rfl p1 (by simp [rngD, sizeLine_eq]; omega) (fun d hd k oo hk hp => by
      have hk' : k < 900000010 := by simp [rngD] at hk; omega
      obtain ⟨r, o', e, p, hr⟩ := pick_e (many := wide) (bb := true) (eb := asD (evVar 1)) (ρ := .own true oo :: ([.dat (.int wide), x2, x3, .un] : List Sl).set 3 (.dat d)) hp (by omega) (by omega) (by omega) rfl (asD_d (var_d rfl))
      exact ⟨.int r, o', e, ⟨r, rfl, by omega⟩, p⟩)
  simp only [rngD, List.length_map, List.length_range] at hl p2
  obtain ⟨l, rfl, hlk⟩ : ∃ l : List Nat, xs = (l.map fun n : Nat => D.int n) ∧ ∀ k ∈ l, k < wide := by
    clear e2 hl p2
    induction xs with
    | nil => exact ⟨[], rfl, by simp⟩
    | cons x xs ih =>
      obtain ⟨l, rfl, hl⟩ := ih fun y hy => hq y (List.mem_cons_of_mem _ hy)
      obtain ⟨r, rfl, hr⟩ := hq x List.mem_cons_self
      exact ⟨r :: l, rfl, fun k hk => by
        rcases List.mem_cons.mp hk with rfl | hk
        · exact hr
        · exact hl k hk⟩
  rw [List.length_map] at hl
  exact ⟨l, o2, _, ice_ok ((comp_src (rng1_ok (cons_ok (ofD_ok e1) nil_ok))).trans e2), p2, by omega, by omega, hlk⟩
theorem is_drawn (n : Nat) (o : O) (h : Pu n o) (hn : n < 800000000) : ∃ (one more : List Nat) (P n' : Nat) (o' : O), g__law_drawn [.own true o] = .ok (.d (.tup [lstD one, lstD more, .int P])) [.own true o'] ∧ Pu n' o' ∧ n' ≤ n + 14 ∧ one.length ≤ 5 ∧ more.length ≤ 5 ∧ (∀ k ∈ one, k < 200) ∧ (∀ k ∈ more, k < 200) ∧ 0 < P ∧ P ≤ 9 := by
  obtain ⟨r1, o1, e1, p1, h1⟩ := pick_in (many := 4) (bb := true) (ρ := [.own true o, .un, .un, .un, .un]) h (by omega) (by decide) (by decide) rfl
  obtain ⟨wide, hw, hw0, hw1⟩ : ∃ wide : Nat, fIxL (.lst [.int 6, .int 12, .int 25, .int 200]) (.int r1) = some (.int wide) ∧ 0 < wide ∧ wide ≤ 200 := by
    have : r1 = 0 ∨ r1 = 1 ∨ r1 = 2 ∨ r1 = 3 := by omega
    rcases this with rfl | rfl | rfl | rfl
    · exact ⟨6, rfl, by decide, by decide⟩
    · exact ⟨12, rfl, by decide, by decide⟩
    · exact ⟨25, rfl, by decide, by decide⟩
    · exact ⟨200, rfl, by decide, by decide⟩
  obtain ⟨one, o2, n2, e2, p2, hn2, l1, b1⟩ := row_drawn (x2 := .un) (x3 := .un) p1 (by omega) hw0 hw1 rfl rfl
  obtain ⟨more, o3, n3, e3, p3, hn3, l2, b2⟩ := row_drawn (x2 := .dat (lstD one)) (x3 := .un) p2 (by omega) hw0 hw1 rfl rfl
  obtain ⟨r4, o4, e4, p4, h4⟩ := pick_in (many := 9) (bb := true) (ρ := [.own true o3, .dat (.int wide), .dat (lstD one), .dat (lstD more), .un]) p3 (by omega) (by decide) (by decide) rfl
  refine ⟨one, more, 1 + r4, n3 + 1, o4, ?_, p4, by omega, l1, l2, fun k hk => by have := b1 k hk; omega, fun k hk => by have := b2 k hk; omega, by omega, by omega⟩
  have key : x__law_drawn [.own true o, .un, .un, .un, .un] = .rt (.d (.tup [lstD one, lstD more, .int ((1 + r4 : Nat) : Int)])) [.own true o4, .dat (.int wide), .dat (lstD one), .dat (lstD more), .un] := by
    unfold x__law_drawn
    refine seq_nx (ρ1 := [.own true o1, .dat (.int wide), .un, .un, .un]) (set_nx (asD_d (op_dd (ofD_ok (ice_ok (lst_ok (consD_ok rfl (consD_ok rfl (consD_ok rfl (consD_ok rfl nilD_ok))))))) (ofD_ok e1) hw)) rfl) ?_
    refine seq_nx (ρ1 := [.own true o2, .dat (.int wide), .dat (lstD one), .un, .un]) (set_nx e2 rfl) ?_
    refine seq_nx (ρ1 := [.own true o3, .dat (.int wide), .dat (lstD one), .dat (lstD more), .un]) (set_nx e3 rfl) ?_
    exact ret_rt (asD_d (tup_ok (consD_ok (asD_d (var_d rfl)) (consD_ok (asD_d (var_d rfl)) (consD_ok (asD_d (op_dd (a := evC (.int 1)) rfl (ofD_ok e4) (add_c (p := 1)))) nilD_ok)))))
  unfold g__law_drawn fnD
  simp only [List.replicate, List.cons_append, List.nil_append]
  rw [key]
  rfl
end
end Lk
namespace Lk
noncomputable section
open PySem PySem.Spec PyProof.Rows L2 G DC


theorem mk_bx (c : Addr) (one more : List Nat) (P N Mx : Nat) (hP : 0 < P) (hP2 : P ≤ 1000) (l1 : one.length ≤ 1000) (l2 : more.length ≤ 1000) (hM : Mx ≤ 10000) (b1 : ∀ k ∈ one, k < Mx) (b2 : ∀ k ∈ more, k < Mx) (hd : P ∣ N) :
    Has N Mx (fun n => due n one more P) ∧ ∀ {gR : List Rf → List Rf → List Rf} {el ek : M (List Rf)} {rs rz : List Rf} {ρ : List Sl}, el ρ = .ok rs ρ → ek ρ = .ok rz ρ → gR rs rz = [Rf.d (tupN one), Rf.d (tupN more), Rf.d (.int P)] → iceO (evMakeD c (g_Counts____init__ c) gR el ek) ρ = .ok (bx c fun n => due n one more P) ρ := by
  obtain ⟨s, p, b, hi, hc, hdp, hs, hm⟩ := is_init c one more P hP hP2 (fun k hk => by have := b1 k hk; omega) (fun k hk => by have := b2 k hk; omega) l1 l2
  obtain ⟨k1, k2⟩ := Has.of (N := N) (Mx := Mx) (f := fun n => due n one more P) hc hm (Nat.dvd_trans hdp hd) (hs Mx fun k hk => by
    rcases List.mem_append.mp hk with hk | hk
    · exact b1 k hk
    · exact b2 k hk) c
  refine ⟨k1, fun e1 e2 e3 => ?_⟩
  rw [← k2]
  exact ice_ok (o := boxO c s p b) (make_of hi e1 e2 e3)
theorem cb_v {fn : List D → Option D} {a : M Rf} {ρ ρ1 : List Sl} {r : Rf} {d x : D} (h : a ρ = .ok r ρ1) (hv : vw ρ1 r = some d) (h2 : fn [d] = some x) : evCB fn (evCons a evNil) ρ = .ok (.d x) ρ1 := by
  unfold evCB
  rw [cons_ok h nil_ok]
  simp [Out.bind, vws, hv, h2, lift]
theorem cbo_v {fn : List D → Option (List D)} {a : M Rf} {ρ ρ1 : List Sl} {r : Rf} {d : D} {x : List D} (h : a ρ = .ok r ρ1) (hv : vw ρ1 r = some d) (h2 : fn [d] = some x) : evCBO fn (evCons a evNil) ρ = .ok (.lst x) ρ1 := by
  unfold evCBO
  rw [cons_ok h nil_ok]
  simp [Out.bind0, vws, hv, h2, lift]
theorem newL_v {fn : List D → Option (List D)} {a : M Rf} {ρ ρ1 : List Sl} {r : Rf} {d : D} {x : List D} (h : a ρ = .ok r ρ1) (hv : vw ρ1 r = some d) (h2 : fn [d] = some x) : evNewL fn a ρ = .ok (.lst x) ρ1 := by
  unfold evNewL
  rw [h]
  simp [Out.bind, vws, hv, h2, lift]
theorem cat_v {a b : M Rf} {ρ ρ1 ρ2 : List Sl} {r1 r2 : Rf} {x y : List D} (h1 : a ρ = .ok r1 ρ1) (h2 : b ρ1 = .ok r2 ρ2) (v1 : vw ρ2 r1 = some (.lst x)) (v2 : vw ρ2 r2 = some (.lst y)) (hl : x.length + y.length ≤ sizeLine) : evOpO catL a b ρ = .ok (.lst (x ++ y)) ρ2 := by
  unfold evOpO
  rw [h1]
  simp only [Out.bind]
  rw [h2]
  simp [Out.bind, v1, v2, catL, hl, lift]
theorem sl_from {a : M Rf} {p : M Rf} {ρ : List Sl} {r : Rf} {x : List D} {k : Nat} (h : a ρ = .ok r ρ) (v : vw ρ r = some (.lst x)) (hp : p ρ = .ok (.d (.int (k : Int))) ρ) (hk : k ≤ x.length) : evSlO fSlL a (mPart p) mNoPart ρ = .ok (.lst (x.drop k)) ρ := by
  unfold evSlO
  rw [h]
  have e : vw ρ (.d (.int (k : Int))) = some (.int (k : Int)) := rfl
  have q : List.take (x.length - k) (List.drop k x) = List.drop k x := List.take_of_length_le (by simp)
  simp only [Out.bind0, mPart, mNoPart]
  rw [hp]
  simp [Out.bind, Out.bind0, e, v, q, fSlL, DC.cutD, HT.sIx_nat, HT.sIx_none, lift, Nat.min_eq_left hk]
theorem sl_to {a : M Rf} {p : M Rf} {ρ : List Sl} {r : Rf} {x : List D} {k : Nat} (h : a ρ = .ok r ρ) (v : vw ρ r = some (.lst x)) (hp : p ρ = .ok (.d (.int (k : Int))) ρ) (hk : k ≤ x.length) : evSlO fSlL a mNoPart (mPart p) ρ = .ok (.lst (x.take k)) ρ := by
  unfold evSlO
  rw [h]
  have e : vw ρ (.d (.int (k : Int))) = some (.int (k : Int)) := rfl
  simp only [Out.bind0, mPart, mNoPart]
  rw [hp]
  simp [Out.bind, Out.bind0, e, v, fSlL, DC.cutD, HT.sIx_nat, HT.sIx_none, lift, Nat.min_eq_left hk]
def lstO (l : List Nat) : O := .lst (l.map fun n : Nat => D.int n)
def ro (one more : List Nat) (P t : Nat) (o : O) (s a : List Nat) (x7 x8 x9 : Sl) : List Sl := [.own true o, .dat (lstD one), .dat (lstD more), .dat (.int P), .dat (.int t), .own false (lstO s), .own false (lstO a), x7, x8, x9, .un]
theorem other_step (one more : List Nat) (P t : Nat) (o : O) (s a : List Nat) (x8 : Sl) (e n : Nat) (pu : Pu n o) (hn : n < 800000000) (hP : 0 < P) (hP2 : P ≤ 9) (ht : 0 < t) (ht2 : t ≤ 3) (he : e < 200) (f8 : fr x8 = true) (ls : s.length ≤ 1000) (la : a.length ≤ 1000) :
    ∃ (u : Nat) (o' : O), (xSeq (xSet 8 (retD (evCall g__law_pick (evCons (evVar 0) (evCons (ofD (asD (evC (.int 3)))) evNil)))))
        (xSeq (xDrop (evExtend 5 (ofD (iceO (evComp [10] (rng1 (evCons (evVar 8) evNil)) (gSet 10) mTrue (asD (evOp fAdd (evVar 7) (evOp fMul (evVar 3) (evVar 10)))))))))
        (xDrop (evExtend 6 (ofD (iceO (evComp [10] (rng1 (evCons (evVar 4) evNil)) (gSet 10) mTrue (asD (evOp fAdd (evVar 7) (evOp fMul (evVar 3) (evOp fAdd (evVar 8) (evVar 10)))))))))))) (ro one more P t o s a (.dat (.int e)) x8 .un)
      = .nx (ro one more P t o' (s ++ (List.range u).map fun k => e + P * k) (a ++ (List.range t).map fun k => e + P * (u + k)) (.dat (.int e)) (.dat (.int u)) .un) ∧ Pu (n + 1) o' ∧ u ≤ 2 := by
  obtain ⟨u, o1, e1, p1, h1⟩ := pick_in (many := 3) (bb := true) (ρ := ro one more P t o s a (.dat (.int e)) x8 .un) pu (by omega) (by decide) (by decide) rfl
  refine ⟨u, o1, ?_, p1, by omega⟩
  have c1 := evCompM (v := 10) (ρ := ro one more P t o1 s a (.dat (.int e)) (.dat (.int u)) .un) (ev := rng1 (evCons (evVar 8) evNil)) (ee := (asD (evOp fAdd (evVar 7) (evOp fMul (evVar 3) (evVar 10))))) (l := List.range u) (fun k : Nat => D.int (((0 : Nat) : Int) + (k : Int))) (fun k => .int ((e + P * k : Nat) : Int))
    (rng1_ok (n := u) (cons_ok (var_d rfl) nil_ok)) rfl (fun k hk => by
      have hk' : k < u := by simpa using hk
      have mB : CMul (P : Int) (k : Int) := cmul_n (by omega)
      rw [add_n, Nat.zero_add]
      exact asD_d (op_dd (var_d rfl) (op_dd (var_d rfl) (var_d rfl) (mul_c mB)) add_c)) (by rw [sizeLine_eq]; simp; omega)
  have c2 := evCompM (v := 10) (ρ := ro one more P t o1 (s ++ (List.range u).map fun k => e + P * k) a (.dat (.int e)) (.dat (.int u)) .un) (ev := rng1 (evCons (evVar 4) evNil)) (ee := (asD (evOp fAdd (evVar 7) (evOp fMul (evVar 3) (evOp fAdd (evVar 8) (evVar 10)))))) (l := List.range t) (fun k : Nat => D.int (((0 : Nat) : Int) + (k : Int))) (fun k => .int ((e + P * (u + k) : Nat) : Int))
    (rng1_ok (n := t) (cons_ok (var_d rfl) nil_ok)) rfl (fun k hk => by
      have hk' : k < t := by simpa using hk
      have mB : CMul (P : Int) ((u + k : Nat) : Int) := cmul_n (by omega)
      rw [add_n, Nat.zero_add]
      exact asD_d (op_dd (var_d rfl) (op_dd (var_d rfl) (op_dd (var_d rfl) (var_d rfl) add_c) (mul_c mB)) add_c)) (by rw [sizeLine_eq]; simp; omega)
  refine seq_nx (ρ1 := ro one more P t o1 s a (.dat (.int e)) (.dat (.int u)) .un) ((set_nx e1 (by rw [free_fr (x := x8) rfl, f8])).trans rfl) ?_
  refine seq_nx (ρ1 := ro one more P t o1 (s ++ (List.range u).map fun k => e + P * k) a (.dat (.int e)) (.dat (.int u)) .un) ?_ ?_
  · rw [ext_nx (ofD_ok (ice_ok c1)) rfl (by rw [sizeLine_eq]; simp; omega)]
    simp [ro, lstO]
  · rw [ext_nx (ofD_ok (ice_ok c2)) rfl (by rw [sizeLine_eq]; simp; omega)]
    simp [ro, lstO]
theorem is_other (c : Addr) (one more : List Nat) (P n : Nat) (o : O) (pu : Pu n o) (hn : n < 700000000) (hP : 0 < P) (hP2 : P ≤ 9) (l1 : one.length ≤ 5) (l2 : more.length ≤ 5) (b1 : ∀ k ∈ one, k < 200) (b2 : ∀ k ∈ more, k < 200) :
    ∃ (o' : O) (n' : Nat), g__law_otherwise c [.own true o, .dat (lstD one), .dat (lstD more), .dat (.int P)] = .ok (.d (bx c fun n => due n one more P)) [.own true o', .dat (lstD one), .dat (lstD more), .dat (.int P)] ∧ Pu n' o' ∧ n' ≤ n + 10 := by
  obtain ⟨r1, o1, e1, p1, h1⟩ := pick_in (many := 3) (bb := true) (ρ := [.own true o, .dat (lstD one), .dat (lstD more), .dat (.int P), .un, .un, .un, .un, .un, .un, .un]) pu (by omega) (by decide) (by decide) rfl
  obtain ⟨t, ht⟩ : ∃ t, t = 1 + r1 := ⟨_, rfl⟩
  have s1 : xPar3O 4 5 6 (asD (evOp fAdd (evC (.int 1)) (ofD (retD (evCall g__law_pick (evCons (evVar 0) (evCons (ofD (asD (evC (.int 3)))) evNil))))))) (evCBO fListN (evCons (evVar 1) evNil)) (evLst evNilD) [.own true o, .dat (lstD one), .dat (lstD more), .dat (.int P), .un, .un, .un, .un, .un, .un, .un] = .nx (ro one more P t o1 one [] .un .un .un) := by
    exact (par3O_nx (d := .int t) (asD_d (op_dd (a := evC (.int 1)) rfl (ofD_ok e1) (by rw [ht]; exact add_c (p := 1)))) (cbo_v (fn := fListN) (d := lstD one) (x := one.map fun n : Nat => D.int n) (var_d rfl) rfl rfl) (lst_ok nilD_ok) rfl rfl rfl).trans rfl
  obtain ⟨ρ', s2, m', oz, s, a, x7, x8, rfl, pz, hm, ls, la, bs, ba, _, hdue⟩ : ∃ ρ', forL (gSet 7) (xSeq (xSet 8 (retD (evCall g__law_pick (evCons (evVar 0) (evCons (ofD (asD (evC (.int 3)))) evNil)))))
        (xSeq (xDrop (evExtend 5 (ofD (iceO (evComp [10] (rng1 (evCons (evVar 8) evNil)) (gSet 10) mTrue (asD (evOp fAdd (evVar 7) (evOp fMul (evVar 3) (evVar 10)))))))))
        (xDrop (evExtend 6 (ofD (iceO (evComp [10] (rng1 (evCons (evVar 4) evNil)) (gSet 10) mTrue (asD (evOp fAdd (evVar 7) (evOp fMul (evVar 3) (evOp fAdd (evVar 8) (evVar 10))))))))))))
      (more.map fun n : Nat => D.int n) (ro one more P t o1 one [] .un .un .un) = .nx ρ' ∧ ∃ (m : Nat) (oo : O) (s a : List Nat) (x7 x8 : Sl), ρ' = ro one more P t oo s a x7 x8 .un ∧ Pu m oo ∧ m ≤ n + 6 ∧ s.length ≤ 20 ∧ a.length ≤ 20 ∧ (∀ k ∈ s, k < 300) ∧ (∀ k ∈ a, k < 300) ∧ (fr x8 = true) ∧ ∀ n, due n s a (P * t) = due n one more P := by
    obtain ⟨ρ', e, done, rest, m, oo, s, a, x7, x8, hr, hmore, hρ, pz, hm, ls, la, bs, ba, f7, f8, hdue⟩ := for_by (eg := gSet 7) (fun r ρ => ∃ (done rest : List Nat) (m : Nat) (oo : O) (s a : List Nat) (x7 x8 : Sl), r = (rest.map fun n : Nat => D.int n) ∧ more = done ++ rest ∧ ρ = ro one more P t oo s a x7 x8 .un ∧ Pu m oo ∧ m ≤ n + 1 + done.length ∧ s.length ≤ 5 + 2 * done.length ∧ a.length ≤ 3 * done.length ∧ (∀ k ∈ s, k < 300) ∧ (∀ k ∈ a, k < 300) ∧ fr x7 = true ∧ fr x8 = true ∧ ∀ n, due n s a (P * t) = due n one done P)
      (b := (xSeq (xSet 8 (retD (evCall g__law_pick (evCons (evVar 0) (evCons (ofD (asD (evC (.int 3)))) evNil)))))
        (xSeq (xDrop (evExtend 5 (ofD (iceO (evComp [10] (rng1 (evCons (evVar 8) evNil)) (gSet 10) mTrue (asD (evOp fAdd (evVar 7) (evOp fMul (evVar 3) (evVar 10)))))))))
        (xDrop (evExtend 6 (ofD (iceO (evComp [10] (rng1 (evCons (evVar 4) evNil)) (gSet 10) mTrue (asD (evOp fAdd (evVar 7) (evOp fMul (evVar 3) (evOp fAdd (evVar 8) (evVar 10)))))))))))))
      (fun d r ρ ⟨done, rest, m, oo, s, a, x7, x8, hr, hmore, hρ, pz, hm, ls, la, bs, ba, f7, f8, hdue⟩ => by
        subst hρ
        match rest, hr, hmore with
        | e :: rest, hr, hmore =>
          simp only [List.map_cons, List.cons.injEq] at hr
          obtain ⟨rfl, rfl⟩ := hr
          have hdl : done.length + (rest.length + 1) ≤ 5 := by rw [hmore] at l2; simpa using l2
          have he : e < 200 := b2 e (by rw [hmore]; simp)
          obtain ⟨u, o', q1, q2, q3⟩ := other_step one more P t oo s a x8 e m pz (by omega) hP hP2 (by omega) (by omega) he f8 (by omega) (by omega)
          refine ⟨ro one more P t oo s a (.dat (.int e)) x8 .un, _, ?_, q1, done ++ [e], rest, m + 1, o', _, _, _, _, rfl, by rw [hmore]; simp, rfl, q2, by simp; omega, by simp; omega, by simp; omega, fun k hk => ?_, fun k hk => ?_, rfl, rfl, fun n => ?_⟩
          · rw [gset_ok (x := x7) rfl f7]
            rfl
          · rcases List.mem_append.mp hk with hk | hk
            · exact bs k hk
            · obtain ⟨j, hj, rfl⟩ := List.mem_map.mp hk
              have hj' : j < u := by simpa using hj
              have : P * j ≤ 9 * 2 := Nat.mul_le_mul hP2 (by omega)
              omega
          · rcases List.mem_append.mp hk with hk | hk
            · exact ba k hk
            · obtain ⟨j, hj, rfl⟩ := List.mem_map.mp hk
              have hj' : j < t := by simpa using hj
              have : P * (u + j) ≤ 9 * 4 := Nat.mul_le_mul hP2 (by omega)
              omega
          · have h0 := hdue n
            have hst := due_step n e P u t hP (by omega)
            rw [Bool.eq_iff_iff, due_iff, due_iff] at h0 ⊢
            simp only [Bool.and_eq_true, decide_eq_true_eq] at hst
            simp only [List.mem_append, List.mem_singleton]
            constructor
            · rintro ((h | h) | ⟨k, h | h, z⟩)
              · rcases h0.mp (.inl h) with y | ⟨k, y1, y2⟩
                · exact .inl y
                · exact .inr ⟨k, .inl y1, y2⟩
              · exact .inr ⟨e, .inr rfl, hst.mpr (.inl h)⟩
              · rcases h0.mp (.inr ⟨k, h, z⟩) with y | ⟨k, y1, y2⟩
                · exact .inl y
                · exact .inr ⟨k, .inl y1, y2⟩
              · exact .inr ⟨e, .inr rfl, hst.mpr (.inr ⟨k, h, z⟩)⟩
            · rintro (h | ⟨k, h | h, z⟩)
              · rcases h0.mpr (.inl h) with y | ⟨k, y1, y2⟩
                · exact .inl (.inl y)
                · exact .inr ⟨k, .inl y1, y2⟩
              · rcases h0.mpr (.inr ⟨k, h, z⟩) with y | ⟨k, y1, y2⟩
                · exact .inl (.inl y)
                · exact .inr ⟨k, .inl y1, y2⟩
              · subst h
                rcases hst.mp z with y | ⟨m, y1, y2⟩
                · exact .inl (.inr y)
                · exact .inr ⟨m, .inr y1, y2⟩)
      (more.map fun n : Nat => D.int n) (ro one more P t o1 one [] .un .un .un) ⟨[], more, n + 1, o1, one, [], .un, .un, rfl, rfl, rfl, p1, by simp, by simp; omega, by simp, fun k hk => by have := b1 k hk; omega, by simp, rfl, rfl, fun n => by
        rw [Bool.eq_iff_iff, due_iff, due_iff]
        simp⟩
    obtain rfl : rest = [] := by simpa using hr.symm
    rw [List.append_nil] at hmore
    subst hmore
    exact ⟨ρ', e, m, oo, s, a, x7, x8, hρ, pz, by omega, by omega, by omega, bs, ba, f8, hdue⟩
  obtain ⟨tn, o3, e3, p3, h3⟩ := pick_e (many := (a.length + 1 : Nat)) (bb := true) (ρ := ro one more P t oz s a x7 x8 .un) (eb := asD (evOp fAdd (evCB fLen (evCons (evVar 6) evNil)) (evC (.int 1)))) pz (by omega) (by omega) (by omega) rfl
    (asD_d (op_dd (cb_v (d := .lst (a.map fun n : Nat => D.int n)) (x := .int a.length) (var_o (o := lstO a) (b := false) rfl) rfl (by simp [fLen, items])) (b := evC (.int 1)) rfl (add_c (q := 1))))
  have htn : tn ≤ a.length := by omega
  obtain ⟨a2, ha2⟩ : ∃ a2, a2 = a.drop tn ++ a.take tn := ⟨_, rfl⟩
  have w6 : evVar 6 (ro one more P t o3 s a x7 x8 (.dat (.int tn))) = .ok (.sl 6) (ro one more P t o3 s a x7 x8 (.dat (.int tn))) := var_o (o := lstO a) (b := false) rfl
  have w9 : evVar 9 (ro one more P t o3 s a x7 x8 (.dat (.int tn))) = .ok (.d (.int tn)) (ro one more P t o3 s a x7 x8 (.dat (.int tn))) := var_d rfl
  have cata : evOpO catL (ofD (iceO (evSlO fSlL (evVar 6) (mPart (evVar 9)) mNoPart))) (ofD (iceO (evSlO fSlL (evVar 6) mNoPart (mPart (evVar 9))))) (ro one more P t o3 s a x7 x8 (.dat (.int tn))) = .ok (lstO a2) (ro one more P t o3 s a x7 x8 (.dat (.int tn))) := by
    have q := cat_v (ofD_ok (ice_ok (sl_from w6 (x := a.map fun n : Nat => D.int n) rfl w9 (by simpa using htn)))) (ofD_ok (ice_ok (sl_to w6 (x := a.map fun n : Nat => D.int n) rfl w9 (by simpa using htn)))) rfl rfl (by rw [sizeLine_eq]; simp; omega)
    rw [q, ha2, lstO, List.map_append, List.map_drop, List.map_take]
  have ha2m : ∀ k, k ∈ a2 ↔ k ∈ a := fun k => by
    rw [ha2, List.mem_append, or_comm, ← List.mem_append, List.take_append_drop]
  have la2 : a2.length ≤ 1000 := by rw [ha2]; simp; omega
  obtain ⟨_, mk⟩ := mk_bx c s.reverse a2 (P * t) (P * t) 300 (Nat.mul_pos hP (by omega)) (by have : P * t ≤ 9 * 3 := Nat.mul_le_mul hP2 (by omega); omega) (by simp; omega) la2 (by decide) (fun k hk => bs k (List.mem_reverse.mp hk)) (fun k hk => ba k ((ha2m k).mp hk)) (Nat.dvd_refl _)
  have hfun : (fun n => due n s.reverse a2 (P * t)) = fun n => due n one more P := funext fun n => by
    rw [← hdue n]
    exact due_congr (fun k => List.mem_reverse) ha2m
  rw [hfun] at mk
  refine ⟨o3, m' + 1, ?_, p3, by omega⟩
  have mP : CMul (P : Int) (t : Int) := cmul_n (by omega)
  have key : x__law_otherwise c [.own true o, .dat (lstD one), .dat (lstD more), .dat (.int P), .un, .un, .un, .un, .un, .un, .un] = .rt (.d (bx c fun n => due n one more P)) (ro one more P t o3 s a2 x7 x8 (.dat (.int tn))) := by
    unfold x__law_otherwise
    refine seq_nx s1 (seq_nx (for_nx (seqL_ok (asD_d (var_d (d := lstD more) rfl))) s2) (seq_nx (ρ1 := ro one more P t o3 s a x7 x8 (.dat (.int tn))) ((set_nx e3 rfl).trans rfl) (seq_nx (ρ1 := ro one more P t o3 s a2 x7 x8 (.dat (.int tn))) ((setO_nx cata rfl).trans rfl) (ret_rt ?_))))
    refine mk (cons_ok (ofD_ok (asD_d (cb_1 (ofD_ok (ice_ok (newL_v (d := .lst (s.map fun n : Nat => D.int n)) (x := s.reverse.map fun n : Nat => D.int n) (var_o (o := lstO s) (b := false) rfl) rfl (by simp [fRevL, lstOf])))) rfl))) (cons_ok (ofD_ok (asD_d (cb_v (d := .lst (a2.map fun n : Nat => D.int n)) (var_o (o := lstO a2) (b := false) rfl) rfl rfl))) (cons_ok (ofD_ok (asD_d (op_dd (var_d rfl) (var_d rfl) (mul_c mP)))) nil_ok))) rfl rfl
  unfold g__law_otherwise fnD
  simp only [List.replicate, List.cons_append, List.nil_append]
  rw [key]
  rfl
end
end Lk
namespace Lk
noncomputable section
open PySem PySem.Spec PyProof.Rows L2 G DC


/-! ### the law's own defs: alike, and three right -/
theorem vAnd_ok {a b : M Rf} {ρ : List Sl} {x y : Bool} (h : a ρ = .ok (.d (.bl x)) ρ) (h2 : b ρ = .ok (.d (.bl y)) ρ) : vAnd a b ρ = .ok (.d (.bl (x && y))) ρ := by
  unfold vAnd
  rw [asB_ok h]
  cases x
  · rfl
  · simp only [Out.bind, if_true, h2, Bool.true_and]
theorem vOr_ok {a b : M Rf} {ρ : List Sl} {x y : Bool} (h : a ρ = .ok (.d (.bl x)) ρ) (h2 : b ρ = .ok (.d (.bl y)) ρ) : vOr a b ρ = .ok (.d (.bl (x || y))) ρ := by
  unfold vOr
  rw [asB_ok h]
  cases x
  · simp only [Out.bind, Bool.false_eq_true, if_false, h2, Bool.false_or]
  · rfl
theorem vNot_ok {a : M Rf} {ρ : List Sl} {x : Bool} (h : a ρ = .ok (.d (.bl x)) ρ) : vNot a ρ = .ok (.d (.bl (!x))) ρ := by
  unfold vNot
  rw [asB_ok h]
  rfl
theorem mOr_ok {a b : M Bool} {ρ : List Sl} {x y : Bool} (h : a ρ = .ok x ρ) (h2 : b ρ = .ok y ρ) : mOr a b ρ = .ok (x || y) ρ := by
  unfold mOr
  rw [h]
  cases x
  · simp only [Out.bind, Bool.false_eq_true, if_false, h2, Bool.false_or]
  · rfl
theorem mAnd_ok {a b : M Bool} {ρ : List Sl} {x y : Bool} (h : a ρ = .ok x ρ) (h2 : b ρ = .ok y ρ) : mAnd a b ρ = .ok (x && y) ρ := by
  unfold mAnd
  rw [h]
  cases x
  · rfl
  · simp only [Out.bind, if_true, h2, Bool.true_and]
theorem mNot_ok {a : M Bool} {ρ : List Sl} {x : Bool} (h : a ρ = .ok x ρ) : mNot a ρ = .ok (!x) ρ := by
  unfold mNot
  rw [h]
  rfl
theorem eqS_str (neg : Bool) (x y : Str) : fEqS neg (.str x) (.str y) = some (.bl (if neg then !decide (x = y) else decide (x = y))) := by
  simp [fEqS, D.sc, scal]
section
variable {N Mx : Nat} {c : Addr} {f g h : Nat → Bool}
end
/-! ### k51: the text, by the law's own reader -/
theorem joinL_snoc (w x : List Nat) : ∀ l : List (List Nat), l ≠ [] → TL.joinL w (l ++ [x]) = TL.joinL w l ++ (w ++ x)
  | [], h => absurd rfl h
  | [y], _ => by simp [TL.joinL]
  | y :: z :: l, _ => by
    have := joinL_snoc w x (z :: l) (by simp)
    simp only [List.cons_append, TL.joinL] at this ⊢
    rw [this]
    simp
theorem cat_c {x y : List Nat} (h : x.length + y.length ≤ 16777216) : fCatS (.str (SX.S x)) (.str (SX.S y)) = some (.str (SX.S (x ++ y))) := by
  have : (SX.S x).length + (SX.S y).length ≤ sizeLine := by rw [SX.S_len, SX.S_len, sizeLine_eq]; exact h
  rw [← SX.S_cat]
  simp only [fCatS, op2S]
  rw [if_pos this]
theorem boolOwn_ok {C : Addr} {ea : M Rf} {ρ ρ1 : List Sl} {es : List (Str × D)} (h1 : ea ρ = .ok (.d (.ins C es)) ρ1) : evBoolOwn C ea ρ = .ok (.d (.bl true)) ρ1 := by
  unfold evBoolOwn
  rw [h1]
  simp only [Out.bind]
  rw [if_pos isC_d]
theorem eqOwn_no {C : Addr} {ea eb : M Rf} {g : M Ret} {ρ ρ1 ρ2 : List Sl} {es : List (Str × D)} {x : D} {n : String} {b : Bool} (neg : Bool) (h1 : ea ρ = .ok (.d (.ins C es)) ρ1) (h2 : eb ρ1 = .ok (.d x) ρ2) (hn : tyN x = some n) (hg : Is g [.ins C es, x] (.bl b)) : evEqOwn neg C g ea eb ρ = .ok (.d (.bl (if neg then !b else b))) ρ2 := by
  unfold evEqOwn
  rw [h1]; simp only [Out.bind]
  rw [h2]; simp only
  rw [if_pos ⟨isC_d, by cases x <;> simp_all [isT, vw, tyN]⟩, hg.c2]
theorem canAll_strs : ∀ l : List Str, (∀ z ∈ l, PyData.strOk z = true) → PyData.canLayAll0 (l.map PyData.str) = true
  | [], _ => by simp [PyData.canLayAll0]
  | x :: l, h => by
    simp only [List.map_cons, PyData.canLayAll0, PyData.canLay0, h x List.mem_cons_self, canAll_strs l fun z hz => h z (List.mem_cons_of_mem _ hz), Bool.and_self]
theorem depAll_strs : ∀ l : List Str, PyData.depthAll (l.map PyData.str) ≤ 1
  | [] => by simp [PyData.depthAll]
  | x :: l => by
    have := depAll_strs l
    simp only [List.map_cons, PyData.depthAll, PyData.depth]
    omega
theorem toPs_strs : ∀ l : List Str, D.toPs (l.map D.str) = some (l.map PyData.str)
  | [] => rfl
  | x :: l => by simp only [List.map_cons, D.toPs, D.toP, toPs_strs l]
theorem eqAll_strs : ∀ l m : List Str, PyData.eqvAll (l.map PyData.str) (m.map PyData.str) = decide (l = m)
  | [], [] => by simp [PyData.eqvAll]
  | [], _ :: _ => by simp [PyData.eqvAll]
  | _ :: _, [] => by simp [PyData.eqvAll]
  | x :: l, y :: m => by
    have e : PyData.eqv (.str x) (.str y) = decide (x = y) := by simp only [PyData.eqv]; exact PySem.W.beq_decide x y
    simp only [List.map_cons, PyData.eqvAll, e, eqAll_strs l m, List.cons.injEq]
    by_cases h : x = y <;> simp [h]
theorem eq_strsL (neg : Bool) (l m : List Str) (hl : ∀ z ∈ l, PyData.strOk z = true) (hm : ∀ z ∈ m, PyData.strOk z = true) : fEqD neg (.lst (l.map D.str)) (.lst (m.map D.str)) = some (.bl (if neg then !decide (l = m) else decide (l = m))) := by
  have sh : ∀ l : List Str, (∀ z ∈ l, PyData.strOk z = true) → SeqAt.shaped (.list (l.map PyData.str)) = true := fun l h => by
    have := depAll_strs l
    unfold SeqAt.shaped
    rw [Bool.and_eq_true]
    refine ⟨by simp only [PyData.canLay0]; exact canAll_strs l h, ?_⟩
    rw [decide_eq_true_iff]
    unfold PyData.depth
    omega
  simp only [fEqD, D.toP, toPs_strs, Option.map_some]
  rw [if_pos ⟨sh l hl, sh m hm⟩]
  simp only [PyData.eqv, eqAll_strs]
theorem strOk_S {l : List Nat} (h : ∀ x ∈ l, x < 128) : PyData.strOk (SX.S l) = true := by
  unfold PyData.strOk
  rw [← Array.all_toList, List.all_eq_true]
  intro x hx
  have := h x hx
  rw [decide_eq_true_eq]
  omega
section
variable {N Mx : Nat} {c : Addr} {f g h : Nat → Bool}
theorem str_128 (f : Nat → Bool) : ∀ x ∈ strL f, x < 128 := joinL_all 128 (by decide) (wsL f) (ws_128 f)
theorem str_len (h : Has N Mx f) (hN : 0 < N) (hN2 : N ≤ 10000) (hM : Mx ≤ 10000) : (strL f).length ≤ 1000000 := by
  obtain ⟨w5, w6⟩ := ws_ok h hN hN2 hM
  have := joinL_len 40 (wsL f) w5
  unfold strL
  omega
open Classical in
theorem low_none (h : Has N Mx f) (e : lowL f = []) : endB f = false := by
  cases z : endB f with
  | false => rfl
  | true =>
    exfalso
    unfold endB at z
    obtain ⟨n, _, hn⟩ := of_decide_eq_true z 0
    obtain ⟨k, k1, k2, _⟩ := has_at h n
    have : k ∈ lowL f := by
      unfold lowL
      rw [List.mem_filter, List.mem_range]
      exact ⟨k1, by rw [← k2, hn]⟩
    rw [e] at this
    cases this
theorem is_text (h : Has N Mx f) (hN : 0 < N) (hN2 : N ≤ 10000) (hM : Mx ≤ 10000) : Is (g__law_text c) [bx c f] (.str (SX.S (strL f))) := by
  have a1 := Nat.le_of_dvd hN h.dv
  have b1 := h.st
  obtain ⟨w1, w2⟩ := lows_lt h hN hN2 hM
  have hmem : ∀ x y : Sl, retD (evProp c "members" (g_Counts__members c) (evVar 0)) [.dat (bx c f), x, y] = .ok (tupN (lowL f)) [.dat (bx c f), x, y] := fun x y => prop_ok (var_d rfl) (look_box _ (by decide) _) (is_lows h hN hN2 hM)
  have heq : fEqD false (tupN (lowL f)) (.tup []) = some (.bl (decide (lowL f = []))) := by
    have q := sca_int.eqT false ((lowL f).map fun n : Nat => (n : Int)) []
    rw [List.map_map] at q
    refine q.trans ?_
    simp
  have t := asB_ok (op_dd (f := fEqD false) (ofD_ok (hmem .un .un)) (tup_ok nilD_ok) heq)
  by_cases hl : lowL f = []
  · rw [decide_eq_true hl] at t
    have e1 : strL f = noneL := by
      unfold strL wsL toldL
      rw [low_none h hl, hl]
      rfl
    have e2 : ("none" : Str) = SX.S noneL := by decide +kernel
    rw [e1, ← e2]
    refine Is.of ⟨[.dat (bx c f), .un, .un], ?_⟩
    unfold x__law_text
    exact seq_rt (if_t t (ret_rt (asD_d rfl)))
  · rw [decide_eq_false hl] at t
    have hw : ∀ z ∈ (lowL f).map TL.numL, z.length ≤ 40 := fun z hz => by
      obtain ⟨k, hk, rfl⟩ := List.mem_map.mp hz
      have := TL.numL_len (n := k) (k := 5) (by decide) (by have := w1 k hk; omega)
      omega
    have hcomp : evComp [2] (seqT (retD (evProp c "members" (g_Counts__members c) (evVar 0)))) (gSet 2) mTrue (asD (evCB fStrI (evCons (evVar 2) evNil))) [.dat (bx c f), .un, .un] = .ok (.lst ((lowL f).map fun k : Nat => D.str (SX.S (TL.numL k)))) [.dat (bx c f), .un, .un] :=
      evCompM (fun k : Nat => D.int k) (fun k => D.str (SX.S (TL.numL k))) (seqT_ok (hmem .un .un)) rfl (fun k hk => asD_d (cb_1 (var_d rfl) (fstr_n k (by have := w1 k hk; omega)))) (by rw [sizeLine_eq]; omega)
    have hj := join_ok hw (by rw [List.length_map]; omega)
    have hlen := joinL_len 40 _ hw
    rw [List.length_map] at hlen
    obtain ⟨row, hrow⟩ : ∃ row, row = TL.joinL [32] ((lowL f).map TL.numL) := ⟨_, rfl⟩
    rw [← hrow] at hj hlen
    have hne : (lowL f).map TL.numL ≠ [] := by simpa using hl
    have s1 : xSet 1 (asD (evM1 fJoin (evC (.str " ")) (ofD (iceO (evComp [2] (seqT (retD (evProp c "members" (g_Counts__members c) (evVar 0)))) (gSet 2) mTrue (asD (evCB fStrI (evCons (evVar 2) evNil)))))))) [.dat (bx c f), .un, .un] = .nx [.dat (bx c f), .dat (.str (SX.S row)), .un] := by
      refine set_nx (d := .str (SX.S row)) (ρ1 := [.dat (bx c f), .un, .un]) (asD_d ?_) rfl
      unfold evM1
      have e := ofD_ok (ice_ok hcomp)
      have hmm : ((lowL f).map fun k : Nat => D.str (SX.S (TL.numL k))) = ((lowL f).map TL.numL).map fun z => D.str (SX.S z) := by rw [List.map_map]; rfl
      simp only [evC, Out.bind, e, vw, O.toD]
      rw [hmm, hj]
      rfl
    have te := asB_ok (ofD_ok (prop_ok (C := c) (m := "endless") (var_d (i := 0) (ρ := [.dat (bx c f), .dat (.str (SX.S row)), .un]) (d := bx c f) rfl) (look_box _ (by decide) _) (is_endl h)))
    refine Is.of ⟨[.dat (bx c f), .dat (.str (SX.S row)), .un], ?_⟩
    unfold x__law_text
    refine seq_nx (if_f t rfl) (seq_nx s1 (ret_rt (asD_d ?_)))
    unfold mIf
    rw [te]
    cases z : endB f with
    | false =>
      have e1 : strL f = row := by
        unfold strL wsL toldL
        rw [z, hrow]
        simp [hl]
      rw [e1]
      show evVar 1 [.dat (bx c f), .dat (.str (SX.S row)), .un] = _
      exact var_d rfl
    | true =>
      have e1 : strL f = row ++ ([32] ++ tailL f) := by
        unfold strL wsL toldL
        rw [z]
        simp only [if_true]
        rw [if_neg (by simp), joinL_snoc _ _ _ hne, ← hrow]
      have l1 := TL.numL_len (n := (tri f).1) (k := 5) (by decide) (by omega)
      have l2 := TL.numL_len (n := (tri f).2.1) (k := 5) (by decide) (by omega)
      have q1 : (" .. from " : Str) = SX.S ([32] ++ frL) := by decide +kernel
      have q2 : (" by " : Str) = SX.S byL := by decide +kernel
      have c1 : frL.length = 8 := rfl
      have c2 : byL.length = 4 := rfl
      have e2 : strL f = ((((row ++ ([32] ++ frL)) ++ TL.numL (tri f).1) ++ byL) ++ TL.numL (tri f).2.1) := by
        rw [e1, tailL]
        simp
      rw [e2]
      simp only [Out.bind, if_true]
      rw [q1, q2]
      have ws := ofD_ok (prop_ok (C := c) (m := "start") (var_d (i := 0) (ρ := [.dat (bx c f), .dat (.str (SX.S row)), .un]) (d := bx c f) rfl) (look_box _ (by decide) _) (is_start c (tri f).1 (tri f).2.1 (tri f).2.2))
      have wp := ofD_ok (prop_ok (C := c) (m := "period") (var_d (i := 0) (ρ := [.dat (bx c f), .dat (.str (SX.S row)), .un]) (d := bx c f) rfl) (look_box _ (by decide) _) (is_period c (tri f).1 (tri f).2.1 (tri f).2.2))
      show evOp fCatS (evOp fCatS (evOp fCatS (evOp fCatS (evVar 1) (evC (.str (SX.S ([32] ++ frL))))) (evCB fStrI (evCons (ofD (retD (evProp c "start" (g_Counts__start c) (evVar 0)))) evNil))) (evC (.str (SX.S byL)))) (evCB fStrI (evCons (ofD (retD (evProp c "period" (g_Counts__period c) (evVar 0)))) evNil)) [.dat (bx c f), .dat (.str (SX.S row)), .un] = _
      exact op_dd (op_dd (op_dd (op_dd (var_d (d := .str (SX.S row)) rfl) rfl (cat_c (by simp [c1]; omega))) (cb_1 ws (fstr_n _ (by omega))) (cat_c (by simp [c1]; omega))) rfl (cat_c (by simp [c1, c2]; omega))) (cb_1 wp (fstr_n _ (by omega))) (cat_c (by simp [c1, c2]; omega))
open Classical in
theorem str_both (hf : Has N Mx f) (hg : Has N Mx g) : decide (SX.S (strL f) = SX.S (strL g)) = decide (f = g) := by
  rw [decide_eq_decide]
  constructor
  · intro e
    exact str_inj hf hg (SX.S_inj e)
  · rintro rfl; rfl
theorem is_eq_no {x : D} {n : String} (hn : tyN x = some n) : Is (g_Counts____eq__ c) [bx c f, x] (.bl false) := by
  refine Is.of ⟨[.dat (bx c f), .dat x], ?_⟩
  unfold x_Counts____eq__
  refine ret_rt (asD_d ?_)
  unfold vAnd
  rw [asB_ok (isC_no (ofD_ok (asD_d (var_d (i := 1) (d := x) rfl))) hn)]
  rfl
end
end
end Lk
namespace Lk
noncomputable section
open PySem PySem.Spec PyProof.Rows L2 G DC


/-! ### the law's own defs: alike, and three right -/
section
variable {ea eb : M D} {ρ : List Sl}
/-- a row whose items are all the counts of F -/
theorem call_1 {gm : M Ret} {d x : D} (h1 : ea ρ = .ok d ρ) (h2 : Is gm [d] x) : retD (evCall gm (evCons (ofD ea) evNil)) ρ = .ok x ρ := by
  unfold retD evCall
  rw [cons_ok (ofD_ok h1) nil_ok]
  simp only [Out.bind]
  rw [h2.c1]
theorem call_2 {gm : M Ret} {d e x : D} (h1 : ea ρ = .ok d ρ) (h3 : eb ρ = .ok e ρ) (h2 : Is gm [d, e] x) : retD (evCall gm (evCons (ofD ea) (evCons (ofD eb) evNil))) ρ = .ok x ρ := by
  unfold retD evCall
  rw [cons_ok (ofD_ok h1) (cons_ok (ofD_ok h3) nil_ok)]
  simp only [Out.bind]
  rw [h2.c2]
theorem call_3 {gm : M Ret} {ec : M D} {d e k x : D} (h1 : ea ρ = .ok d ρ) (h3 : eb ρ = .ok e ρ) (h4 : ec ρ = .ok k ρ) (h2 : Is gm [d, e, k] x) : retD (evCall gm (evCons (ofD ea) (evCons (ofD eb) (evCons (ofD ec) evNil)))) ρ = .ok x ρ := by
  unfold retD evCall
  rw [cons_ok (ofD_ok h1) (cons_ok (ofD_ok h3) (cons_ok (ofD_ok h4) nil_ok))]
  simp only [Out.bind]
  rw [h2.c3]
end
/-! ### k50: the look -/
theorem max_nat (l : List Nat) : ∃ m : Nat, fMaxL [.lst (D.int 0 :: l.map fun n : Nat => D.int n)] = some (.int m) ∧ (∀ k ∈ l, k ≤ m) ∧ (m = 0 ∨ m ∈ l) := by
  have hi := ints_map (fun n : Nat => (n : Int)) l
  have e : intsD (D.int 0 :: l.map fun n : Nat => D.int n) = some (0 :: l.map fun n : Nat => (n : Int)) := by
    have := hi
    simp only [intsD, this]
    rfl
  obtain ⟨z1, z2⟩ := maxL_mem (l.map fun n : Nat => (n : Int)) 0
  have hm : ∃ m : Nat, maxL 0 (l.map fun n : Nat => (n : Int)) = (m : Int) ∧ (m = 0 ∨ m ∈ l) := by
    rcases List.mem_cons.mp z1 with h | h
    · exact ⟨0, h, .inl rfl⟩
    · obtain ⟨k, hk, e⟩ := List.mem_map.mp h
      exact ⟨k, e.symm, .inr hk⟩
  obtain ⟨m, em, hm⟩ := hm
  refine ⟨m, ?_, fun k hk => ?_, hm⟩
  · simp only [fMaxL, lstOf, Option.bind, e, em]
  · have := z2 (k : Int) (List.mem_cons_of_mem _ (List.mem_map.mpr ⟨k, hk, rfl⟩))
    rw [em] at this
    omega
theorem per_dvd {s p b P : Nat} (hd : p ∣ P) : ∀ j n, s ≤ n → mem s p b (n + j * P) = mem s p b n := by
  obtain ⟨t, rfl⟩ := hd
  intro j n hn
  have := per_all (f := mem s p b) (fun n hn => mem_per hn) (j * t) n hn
  rw [← this]
  congr 2
  rw [Nat.mul_assoc, Nat.mul_comm t p]
theorem due_per {one more : List Nat} {P S : Nat} (h : ∀ k ∈ one ++ more, k < S) : ∀ n, S ≤ n → due (n + P) one more P = due n one more P := by
  intro n hn
  have n1 : n ∉ one := fun z => by have := h n (List.mem_append_left _ z); omega
  have n2 : n + P ∉ one := fun z => by have := h _ (List.mem_append_left _ z); omega
  simp only [due, n1, n2, decide_false, Bool.false_or]
  rw [Bool.eq_iff_iff, List.any_eq_true, List.any_eq_true]
  refine exists_congr fun m => and_congr_right fun hm => ?_
  have := h m (List.mem_append_right _ hm)
  rw [show n + P - m = (n - m) + P by omega, Nat.add_mod_right]
  simp [show m ≤ n + P by omega, show m ≤ n by omega]
theorem can_0 : Can 0 1 0 := ⟨by decide, by decide, fun m hm _ => hm, fun k h => by omega⟩
theorem can_3 : Can 4 2 25 := ⟨by decide, by decide, fun m hm he => by
  rcases Nat.lt_or_ge m 2 with z | z
  · exfalso
    obtain rfl : m = 1 := by omega
    obtain ⟨t, ht⟩ := he
    have h := ht (4 + t * 2) (by omega)
    have h1 := per_dvd (s := 4) (p := 2) (b := 25) (P := 2) (Nat.dvd_refl 2) t 4 (by decide)
    have h2 := per_dvd (s := 4) (p := 2) (b := 25) (P := 2) (Nat.dvd_refl 2) t 5 (by decide)
    rw [show 4 + t * 2 + 1 = 5 + t * 2 by omega, h1, h2] at h
    revert h
    decide
  · exact z, fun k h => by
  obtain rfl : k = 3 := by omega
  decide⟩
/-! ### k51: right -/
section
variable {c : Addr} {f g h : Nat → Bool}
theorem fx_at (one more : List Nat) (P at_ n : Nat) : due n (one ++ [at_]) more P = (due n one more P || decide (n = at_)) := by
  rw [Bool.eq_iff_iff, Bool.or_eq_true, due_iff, due_iff, decide_eq_true_eq]
  simp only [List.mem_append, List.mem_singleton]
  constructor
  · rintro ((h | h) | h)
    · exact .inl (.inl h)
    · exact .inr h
    · exact .inl (.inr h)
  · rintro ((h | h) | h)
    · exact .inl (.inl h)
    · exact .inr h
    · exact .inl (.inr h)
open Classical in
theorem same_one (one more : List Nat) (P a : Nat) : decide ((fun n => due n one more P) = fun n => due n (one ++ [a]) more P) = due a one more P := by
  rw [Bool.eq_iff_iff, decide_eq_true_eq]
  constructor
  · intro e
    have := congrFun e a
    simp only [fx_at, decide_true, Bool.or_true] at this
    exact this
  · intro e
    funext n
    rw [fx_at]
    by_cases z : n = a
    · subst z; simp [e]
    · simp [z]
open Classical in
theorem same_more (one more : List Nat) (P a E : Nat) (hP : 0 < P) (hE : ∀ k ∈ one ++ more, k < E) : decide ((fun n => due n one (more ++ [a]) P) = fun n => due n one more P) = (List.range (E + 1)).all fun k => due (a + P * k) one more P := by
  rw [Bool.eq_iff_iff, decide_eq_true_eq, List.all_eq_true]
  constructor
  · intro e k _
    have z : due (a + P * k) one (more ++ [a]) P = due (a + P * k) one more P := congrFun e (a + P * k)
    rw [← z, due_iff]
    refine .inr ⟨a, by simp, by omega, ?_⟩
    rw [show a + P * k - a = P * k by omega]
    exact Nat.mul_mod_right _ _
  · intro e
    have all : ∀ k, due (a + P * k) one more P = true := by
      intro k
      rcases Nat.lt_or_ge k (E + 1) with z | z
      · exact e k (List.mem_range.mpr z)
      · obtain ⟨j, rfl⟩ : ∃ j, k = E + j := ⟨k - E, by omega⟩
        have h1 := per_all (f := fun n => due n one more P) (s := E) (p := P) (fun n hn => due_per hE n hn) j (a + P * E) (by have := Nat.le_mul_of_pos_left E hP; omega)
        have e2 : a + P * (E + j) = a + P * E + j * P := by rw [Nat.mul_add, Nat.mul_comm j P]; omega
        rw [e2]
        exact h1.trans (e E (List.mem_range.mpr (by omega)))
    funext n
    rw [Bool.eq_iff_iff, due_iff, due_iff]
    simp only [List.mem_append, List.mem_singleton]
    constructor
    · rintro (h | ⟨m, h | h, h1, h2⟩)
      · exact .inl h
      · exact .inr ⟨m, h, h1, h2⟩
      · subst h
        obtain ⟨q, hq⟩ := Nat.dvd_of_mod_eq_zero h2
        have := all q
        rw [show m + P * q = n by omega, due_iff] at this
        exact this
    · rintro (h | ⟨m, h, h1, h2⟩)
      · exact .inl h
      · exact .inr ⟨m, .inl h, h1, h2⟩
theorem rep_ok {a : M O} {ρ : List Sl} {x : D} {n : Nat} (h : a ρ = .ok (.lst [x]) ρ) (hn : n ≤ 1000) : evOpO repL (ofD (iceO a)) (evC (.int (n : Int))) ρ = .ok (.lst (List.replicate n x)) ρ := by
  have e := ofD_ok (ice_ok h)
  unfold evOpO
  rw [e]
  have r : RgC (n : Int) := rgc_n (by omega)
  have z : n ≤ sizeLine := by rw [sizeLine_eq]; omega
  have q : (List.replicate n [x]).flatten = List.replicate n x := by
    induction n with
    | zero => rfl
    | succ n ih => rw [List.replicate_succ, List.replicate_succ, List.flatten_cons, ih (by omega) (rgc_n (by omega)) (by omega)]; rfl
  simp [Out.bind, evC, vw, repL, r, z, O.toD, lift, q]
def rq (one more : List Nat) (P : Nat) (o : O) (x4 x5 x6 x7 x8 x9 x10 x11 : Sl) : List Sl := [.own true o, .dat (lstD one), .dat (lstD more), .dat (.int P), x4, x5, x6, x7, x8, x9, x10, x11, .un]
theorem is_law_right (c : Addr) (n : Nat) (o : O) (pu : Pu n o) (hn : n ≤ 100) : ∃ o' : O, g__law_right c [.own true o] = .ok (.d (.bl true)) [.own true o'] := by
  obtain ⟨one, more, P, n1, o1, e1, p1, hn1, l1, l2, b1, b2, hP, hP2⟩ := is_drawn n o pu (by omega)
  obtain ⟨F, hF⟩ : ∃ F, F = fun n => due n one more P := ⟨_, rfl⟩
  obtain ⟨X, hX⟩ : ∃ X : Sl, X = .dat (bx c F) := ⟨_, rfl⟩
  obtain ⟨TT, hTT⟩ : ∃ TT : Sl, TT = .dat (.str (SX.S (strL F))) := ⟨_, rfl⟩
  have hF1 := mk_bx c one more P P 500 hP (by omega) (by omega) (by omega) (by decide) (fun k hk => by have := b1 k hk; omega) (fun k hk => by have := b2 k hk; omega) (Nat.dvd_refl _)
  rw [← hF] at hF1
  obtain ⟨hasF, mkF⟩ := hF1
  have N1 : 0 < P := hP
  have N2 : P ≤ 10000 := by omega
  have N3 : 500 ≤ 10000 := by decide
  -- drawn
  have s1 : xAsg (retD (evCall g__law_drawn (evCons (evVar 0) evNil))) (gTupD 3 (gsCons (gSet 1) (gsCons (gSet 2) (gsCons (gSet 3) gsNil)))) [.own true o, .un, .un, .un, .un, .un, .un, .un, .un, .un, .un, .un, .un] = .nx (rq one more P o1 .un .un .un .un .un .un .un .un) := by
    have q := callP (g := g__law_drawn) (i := 0) (bb := true) (as := []) (ρ := [.own true o, .un, .un, .un, .un, .un, .un, .un, .un, .un, .un, .un, .un]) rfl e1
    have et : retD (evCall g__law_drawn (evCons (evVar 0) evNil)) [.own true o, .un, .un, .un, .un, .un, .un, .un, .un, .un, .un, .un, .un] = .ok (.tup [lstD one, lstD more, .int P]) [.own true o1, .un, .un, .un, .un, .un, .un, .un, .un, .un, .un, .un, .un] := by
      unfold retD evCall
      rw [cons_ok (var_o (b := true) (o := o) rfl) nil_ok]
      simp only [Out.bind]
      simp only [List.map_nil] at q
      rw [q]
      rfl
    unfold xAsg thenS
    rw [et]
    rfl
  -- box and twin
  obtain ⟨o2, n2, e2, p2, hn2⟩ := is_other c one more P n1 o1 p1 (by omega) hP hP2 l1 l2 b1 b2
  rw [← hF] at e2
  have s2 : xPar 4 5 (iceO (evMakeD c (g_Counts____init__ c) (fun rs rz => match rs, rz with | [r0, r1, r2], [] => [r0, r1, r2] | _, _ => []) (evCons (ofD (asD (evCB fTupOf (evCons (evVar 1) evNil)))) (evCons (ofD (asD (evCB fTupOf (evCons (evVar 2) evNil)))) (evCons (ofD (asD (evVar 3))) evNil))) evNil)) (retD (evCall (g__law_otherwise c) (evCons (evVar 0) (evCons (ofD (asD (evVar 1))) (evCons (ofD (asD (evVar 2))) (evCons (ofD (asD (evVar 3))) evNil)))))) (rq one more P o1 .un .un .un .un .un .un .un .un) = .nx (rq one more P o2 X X .un .un .un .un .un .un) := by
    have q := callP (g := g__law_otherwise c) (i := 0) (bb := true) (as := [lstD one, lstD more, .int P]) (ρ := rq one more P o1 .un .un .un .un .un .un .un .un) rfl e2
    have et : retD (evCall (g__law_otherwise c) (evCons (evVar 0) (evCons (ofD (asD (evVar 1))) (evCons (ofD (asD (evVar 2))) (evCons (ofD (asD (evVar 3))) evNil))))) (rq one more P o1 .un .un .un .un .un .un .un .un) = .ok (bx c F) (rq one more P o2 .un .un .un .un .un .un .un .un) := by
      unfold retD evCall
      rw [cons_ok (var_o (b := true) (o := o1) rfl) (cons_ok (ofD_ok (asD_d (var_d (d := lstD one) rfl))) (cons_ok (ofD_ok (asD_d (var_d (d := lstD more) rfl))) (cons_ok (ofD_ok (asD_d (var_d (d := .int P) rfl))) nil_ok)))]
      simp only [Out.bind]
      simp only [List.map_cons, List.map_nil] at q
      rw [q]
      rfl
    have em := mkF (ρ := rq one more P o1 .un .un .un .un .un .un .un .un) (gR := fun rs rz => match rs, rz with | [r0, r1, r2], [] => [r0, r1, r2] | _, _ => []) (el := (evCons (ofD (asD (evCB fTupOf (evCons (evVar 1) evNil)))) (evCons (ofD (asD (evCB fTupOf (evCons (evVar 2) evNil)))) (evCons (ofD (asD (evVar 3))) evNil)))) (ek := evNil) (cons_ok (ofD_ok (asD_d (cb_1 (var_d (d := lstD one) rfl) rfl))) (cons_ok (ofD_ok (asD_d (cb_1 (var_d (d := lstD more) rfl) rfl))) (cons_ok (ofD_ok (asD_d (var_d (d := .int P) rfl))) nil_ok))) rfl rfl
    refine (par_nx em et rfl rfl).trans ?_
    rw [hX]
    rfl
  have W4 : ∀ (o : O) (x6 x7 x8 x9 x10 x11 : Sl), ofD (asD (evVar 4)) (rq one more P o X X x6 x7 x8 x9 x10 x11) = .ok (.d (bx c F)) (rq one more P o X X x6 x7 x8 x9 x10 x11) := fun o a b d e g k => ofD_ok (asD_d (var_d (by rw [hX]; rfl)))
  have W5 : ∀ (o : O) (x6 x7 x8 x9 x10 x11 : Sl), ofD (asD (evVar 5)) (rq one more P o X X x6 x7 x8 x9 x10 x11) = .ok (.d (bx c F)) (rq one more P o X X x6 x7 x8 x9 x10 x11) := fun o a b d e g k => ofD_ok (asD_d (var_d (by rw [hX]; rfl)))
  have W6 : ∀ (o : O) (x7 x8 x9 x10 x11 : Sl), evVar 6 (rq one more P o X X TT x7 x8 x9 x10 x11) = .ok (.d (.str (SX.S (strL F)))) (rq one more P o X X TT x7 x8 x9 x10 x11) := fun o b d e g k => var_d (by rw [hTT]; rfl)
  have heq : Is (g_Counts____eq__ c) [bx c F, bx c F] (.bl true) := by
    have q := is_eq (c := c) hasF hasF
    simpa using q
  have s3 : xIf (mOr (mNot (asB (evEqOwn false c (g_Counts____eq__ c) (ofD (asD (evVar 4))) (ofD (asD (evVar 5)))))) (mOr (asB (evEqOwn true c (g_Counts____eq__ c) (ofD (asD (evVar 4))) (ofD (asD (evVar 5))))) (mOr (mNot (asB (evEqOwn false c (g_Counts____eq__ c) (ofD (asD (evVar 5))) (ofD (asD (evVar 4)))))) (mOr (asB (evEqOwn true c (g_Counts____eq__ c) (ofD (asD (evVar 5))) (ofD (asD (evVar 4))))) (mNot (asB (evBoolOwn c (ofD (asD (evVar 4))))))))))
      (xRet (asD (evC (.bl false))))
      xNext (rq one more P o2 X X .un .un .un .un .un .un) = .nx (rq one more P o2 X X .un .un .un .un .un .un) := by
    have w4 := W4 o2 .un .un .un .un .un .un
    have w5 := W5 o2 .un .un .un .un .un .un
    exact if_f (mOr_ok (mNot_ok (asB_ok (eqOwn_ok false w4 w5 heq))) (mOr_ok (asB_ok (eqOwn_ok true w4 w5 heq)) (mOr_ok (mNot_ok (asB_ok (eqOwn_ok false w5 w4 heq))) (mOr_ok (asB_ok (eqOwn_ok true w5 w4 heq)) (mNot_ok (asB_ok (boolOwn_ok w4))))))) rfl
  have s4 : xSet 6 (retD (evCall (g__law_text c) (evCons (ofD (asD (evVar 4))) evNil))) (rq one more P o2 X X .un .un .un .un .un .un) = .nx (rq one more P o2 X X TT .un .un .un .un .un) := by
    refine (set_nx (call_1 (asD_d (var_d (d := bx c F) (by rw [hX]; rfl))) (is_text hasF N1 N2 N3)) rfl).trans ?_
    rw [hTT]
    rfl
  obtain ⟨hrp, hok⟩ := is_reprX (c := c) hasF N1 N2 N3
  have hst := is_str (c := c) hasF N1 N2 N3
  have hlen := str_len hasF N1 N2 N3
  have ok1 : PyData.strOk (SX.S (strL F)) = true := strOk_S (str_128 F)
  have s5 : xIf (asB (evOp (fEqD true) (ofD (iceO (evLst (evConsD (asD (evShOwn c (g_Counts____str__ c) (ofD (asD (evVar 4))))) (evConsD (asD (evShOwn c (g_Counts____str__ c) (ofD (asD (evVar 5))))) (evConsD (asD (evShOwn c (g_Counts____repr__ c) (ofD (asD (evVar 4))))) (evConsD (asD (evShOwn c (g_Counts____repr__ c) (ofD (asD (evVar 5))))) evNilD))))))) (ofD (iceO (evLst (evConsD (asD (evVar 6)) (evConsD (asD (evVar 6)) (evConsD (asD (evOp fCatS (evOp fCatS (evC (.str "Counts(")) (evVar 6)) (evC (.str ")")))) (evConsD (asD (evOp fCatS (evOp fCatS (evC (.str "Counts(")) (evVar 6)) (evC (.str ")")))) evNilD)))))))))
      (xRet (asD (evC (.bl false))))
      xNext (rq one more P o2 X X TT .un .un .un .un .un) = .nx (rq one more P o2 X X TT .un .un .un .un .un) := by
    have w4 := W4 o2 TT .un .un .un .un .un
    have w5 := W5 o2 TT .un .un .un .un .un
    have w6 := W6 o2 .un .un .un .un .un
    have k1 : ("Counts(" : Str) = SX.S cntL := by decide +kernel
    have k2 : (")" : Str) = SX.S [41] := by decide +kernel
    have c1 : cntL.length = 7 := rfl
    have cc : evOp fCatS (evOp fCatS (evC (.str "Counts(")) (evVar 6)) (evC (.str ")")) (rq one more P o2 X X TT .un .un .un .un .un) = .ok (.d (.str (SX.S (reprL F)))) (rq one more P o2 X X TT .un .un .un .un .un) := by
      rw [k1, k2]
      exact op_dd (op_dd rfl w6 (cat_c (by rw [c1]; omega))) rfl (cat_c (by simp [c1]; omega))
    have q := op_dd (f := fEqD true) (ofD_ok (ice_ok (lst_ok (consD_ok (asD_d (shOwn_ok w4 hst)) (consD_ok (asD_d (shOwn_ok w5 hst)) (consD_ok (asD_d (shOwn_ok w4 hrp)) (consD_ok (asD_d (shOwn_ok w5 hrp)) nilD_ok))))))) (ofD_ok (ice_ok (lst_ok (consD_ok (asD_d w6) (consD_ok (asD_d w6) (consD_ok (asD_d cc) (consD_ok (asD_d cc) nilD_ok))))))) (eq_strsL true [SX.S (strL F), SX.S (strL F), SX.S (reprL F), SX.S (reprL F)] [SX.S (strL F), SX.S (strL F), SX.S (reprL F), SX.S (reprL F)] (by simp [ok1, hok]) (by simp [ok1, hok]))
    exact if_f ((asB_ok q).trans (by simp)) rfl
  obtain ⟨m, hm, hmx, _⟩ := max_nat (one ++ more)
  obtain ⟨E, hE⟩ : ∃ E, E = 1 + m := ⟨_, rfl⟩
  have hEb : ∀ k ∈ one ++ more, k < E := fun k hk => by have := hmx k hk; omega
  have hE2 : E ≤ 200 := by
    rcases ‹m = 0 ∨ m ∈ one ++ more› with z | z
    · omega
    · rcases List.mem_append.mp z with z | z
      · have := b1 m z; omega
      · have := b2 m z; omega
  have s6 : xSet 7 (asD (evOp fAdd (evC (.int 1)) (evCB fMaxL (evCons (ofD (iceO (evOpO catL (ofD (iceO (evOpO catL (ofD (iceO (evLst (evConsD (asD (evC (.int 0))) evNilD)))) (evVar 1)))) (evVar 2)))) evNil)))) (rq one more P o2 X X TT .un .un .un .un .un) = .nx (rq one more P o2 X X TT (.dat (.int E)) .un .un .un .un) := by
    have q1 := cat_v (ofD_ok (ice_ok (lst_ok (consD_ok (a := asD (evC (.int 0))) (asD_d rfl) nilD_ok)))) (var_d (i := 1) (ρ := rq one more P o2 X X TT .un .un .un .un .un) (d := lstD one) rfl) rfl rfl (by rw [sizeLine_eq]; simp; omega)
    have q2 := cat_v (ofD_ok (ice_ok q1)) (var_d (i := 2) (ρ := rq one more P o2 X X TT .un .un .un .un .un) (d := lstD more) rfl) rfl rfl (by rw [sizeLine_eq]; simp; omega)
    have q3 := cb_1 (f := fMaxL) (ofD_ok (ice_ok q2)) (by
      refine Eq.trans ?_ hm
      simp [O.toD])
    rw [hE]
    exact (set_nx (asD_d (op_dd (a := evC (.int 1)) rfl q3 (add_c (p := 1)))) rfl).trans rfl
  obtain ⟨a, o3, e3, p3, h3⟩ := pick_e (many := (E + P : Nat)) (bb := true) (ρ := rq one more P o2 X X TT (.dat (.int E)) .un .un .un .un) (eb := asD (evOp fAdd (evVar 7) (evVar 3))) p2 (by omega) (by omega) (by omega) rfl (asD_d (op_dd (var_d rfl) (var_d rfl) add_c))
  have ha : a < 300 := by omega
  obtain ⟨G, hG⟩ : ∃ G, G = fun n => due n (one ++ [a]) more P := ⟨_, rfl⟩
  obtain ⟨H, hH⟩ : ∃ H, H = fun n => due n one (more ++ [a]) P := ⟨_, rfl⟩
  have hG1 := mk_bx c (one ++ [a]) more P P 500 hP (by omega) (by simp; omega) (by omega) (by decide) (fun k hk => by
    rcases List.mem_append.mp hk with hk | hk
    · have := b1 k hk; omega
    · have := List.mem_singleton.mp hk; omega) (fun k hk => by have := b2 k hk; omega) (Nat.dvd_refl _)
  have hH1 := mk_bx c one (more ++ [a]) P P 500 hP (by omega) (by omega) (by simp; omega) (by decide) (fun k hk => by have := b1 k hk; omega) (fun k hk => by
    rcases List.mem_append.mp hk with hk | hk
    · have := b2 k hk; omega
    · have := List.mem_singleton.mp hk; omega) (Nat.dvd_refl _)
  rw [← hG] at hG1
  rw [← hH] at hH1
  obtain ⟨hasG, mkG⟩ := hG1
  obtain ⟨hasH, mkH⟩ := hH1
  obtain ⟨Y, hY⟩ : ∃ Y : Sl, Y = .dat (bx c G) := ⟨_, rfl⟩
  obtain ⟨Z, hZ⟩ : ∃ Z : Sl, Z = .dat (bx c H) := ⟨_, rfl⟩
  obtain ⟨A, hA⟩ : ∃ A : Sl, A = .dat (.int a) := ⟨_, rfl⟩
  obtain ⟨EE, hEE⟩ : ∃ EE : Sl, EE = .dat (.int E) := ⟨_, rfl⟩
  rw [← hEE] at s6 e3
  have s7 : xSet 8 (retD (evCall g__law_pick (evCons (evVar 0) (evCons (ofD (asD (evOp fAdd (evVar 7) (evVar 3)))) evNil)))) (rq one more P o2 X X TT EE .un .un .un .un) = .nx (rq one more P o3 X X TT EE A .un .un .un) := by
    refine (set_nx e3 rfl).trans ?_
    rw [hA]
    rfl
  have s8 : xSet 9 (iceO (evMakeD c (g_Counts____init__ c) (fun rs rz => match rs, rz with | [r0, r1, r2], [] => [r0, r1, r2] | _, _ => []) (evCons (ofD (asD (evCB fTupOf (evCons (ofD (iceO (evOpO catL (evVar 1) (ofD (iceO (evLst (evConsD (asD (evVar 8)) evNilD))))))) evNil)))) (evCons (ofD (asD (evCB fTupOf (evCons (evVar 2) evNil)))) (evCons (ofD (asD (evVar 3))) evNil))) evNil)) (rq one more P o3 X X TT EE A .un .un .un) = .nx (rq one more P o3 X X TT EE A Y .un .un) := by
    have q1 := cat_v (var_d (i := 1) (ρ := rq one more P o3 X X TT EE A .un .un .un) (d := lstD one) rfl) (ofD_ok (ice_ok (lst_ok (consD_ok (asD_d (var_d (i := 8) (d := .int a) (by rw [hA]; rfl))) nilD_ok)))) rfl rfl (by rw [sizeLine_eq]; simp; omega)
    refine (set_nx (mkG (cons_ok (ofD_ok (asD_d (cb_1 (x := tupN (one ++ [a])) (ofD_ok (ice_ok q1)) (by simp [O.toD, fTupOf, tupN, items])))) (cons_ok (ofD_ok (asD_d (cb_1 (x := tupN more) (var_d (d := lstD more) rfl) rfl))) (cons_ok (ofD_ok (asD_d (var_d (d := .int P) rfl))) nil_ok))) rfl rfl) rfl).trans ?_
    rw [hY]
    rfl
  obtain ⟨B, hB⟩ : ∃ B : Sl, B = .dat (.bl (F a)) := ⟨_, rfl⟩
  have hFa : due a one more P = F a := by rw [hF]
  have s9 : xSet 10 (retD (evCall g__law_due (evCons (ofD (asD (evVar 8))) (evCons (ofD (asD (evVar 1))) (evCons (ofD (asD (evVar 2))) (evCons (ofD (asD (evVar 3))) evNil)))))) (rq one more P o3 X X TT EE A Y .un .un) = .nx (rq one more P o3 X X TT EE A Y B .un) := by
    have q := (is_due a one more P hP (by omega)).c4 (rq one more P o3 X X TT EE A Y .un .un)
    rw [hFa] at q
    refine (set_nx (d := .bl (F a)) (ρ1 := rq one more P o3 X X TT EE A Y .un .un) ?_ rfl).trans (by rw [hB]; rfl)
    unfold retD evCall
    rw [cons_ok (ofD_ok (asD_d (var_d (d := .int a) (by rw [hA]; rfl)))) (cons_ok (ofD_ok (asD_d (var_d (d := lstD one) rfl))) (cons_ok (ofD_ok (asD_d (var_d (d := lstD more) rfl))) (cons_ok (ofD_ok (asD_d (var_d (d := .int P) rfl))) nil_ok)))]
    simp only [Out.bind]
    rw [q]
  have W9 : ∀ (o : O) (x10 x11 : Sl), ofD (asD (evVar 9)) (rq one more P o X X TT EE A Y x10 x11) = .ok (.d (bx c G)) (rq one more P o X X TT EE A Y x10 x11) := fun o g k => ofD_ok (asD_d (var_d (by rw [hY]; rfl)))
  have eFG : Is (g_Counts____eq__ c) [bx c F, bx c G] (.bl (F a)) := by
    have q := is_eq (c := c) hasF hasG
    rw [hF, hG, same_one, hFa, ← hF, ← hG] at q
    exact q
  have eGF : Is (g_Counts____eq__ c) [bx c G, bx c F] (.bl (F a)) := by
    have q := is_eq (c := c) hasG hasF
    rw [show (G = F) = (F = G) from propext eq_comm, hF, hG, same_one, hFa, ← hF, ← hG] at q
    exact q
  have s10 : xIf (mOr (asB (evOp (fEqS true) (evEqOwn false c (g_Counts____eq__ c) (ofD (asD (evVar 4))) (ofD (asD (evVar 9)))) (evVar 10))) (mOr (asB (evOp (fEqS false) (evEqOwn true c (g_Counts____eq__ c) (ofD (asD (evVar 9))) (ofD (asD (evVar 4)))) (evVar 10))) (asB (evOp (fEqS true) (evOp (fEqS false) (evShOwn c (g_Counts____str__ c) (ofD (asD (evVar 9)))) (evVar 6)) (evVar 10)))))
      (xRet (asD (evC (.bl false))))
      xNext (rq one more P o3 X X TT EE A Y B .un) = .nx (rq one more P o3 X X TT EE A Y B .un) := by
    have w4 := W4 o3 TT EE A Y B .un
    have w9 := W9 o3 B .un
    have w6 := W6 o3 EE A Y B .un
    have w10 : evVar 10 (rq one more P o3 X X TT EE A Y B .un) = .ok (.d (.bl (F a))) (rq one more P o3 X X TT EE A Y B .un) := var_d (by rw [hB]; rfl)
    have hsb : decide (SX.S (strL G) = SX.S (strL F)) = F a := by
      have q := str_both (hasG) (hasF)
      rw [show (G = F) = (F = G) from propext eq_comm, hF, hG, same_one, hFa, ← hF, ← hG] at q
      exact q
    have q3 := op_dd (f := fEqS true) (op_dd (f := fEqS false) (shOwn_ok w9 (is_str hasG N1 N2 N3)) w6 (eqS_str false _ _)) w10 (eqS_bl true _ _)
    simp only [Bool.false_eq_true, if_false] at q3
    rw [hsb] at q3
    exact if_f ((mOr_ok (asB_ok (op_dd (f := fEqS true) (eqOwn_ok false w4 w9 eFG) w10 (eqS_bl true _ _))) (mOr_ok (asB_ok (op_dd (f := fEqS false) (eqOwn_ok true w9 w4 eGF) w10 (eqS_bl false _ _))) (asB_ok q3))).trans (by cases F a <;> rfl)) rfl
  have s11 : xSet 11 (iceO (evMakeD c (g_Counts____init__ c) (fun rs rz => match rs, rz with | [r0, r1, r2], [] => [r0, r1, r2] | _, _ => []) (evCons (ofD (asD (evCB fTupOf (evCons (evVar 1) evNil)))) (evCons (ofD (asD (evCB fTupOf (evCons (ofD (iceO (evOpO catL (evVar 2) (ofD (iceO (evLst (evConsD (asD (evVar 8)) evNilD))))))) evNil)))) (evCons (ofD (asD (evVar 3))) evNil))) evNil)) (rq one more P o3 X X TT EE A Y B .un) = .nx (rq one more P o3 X X TT EE A Y B Z) := by
    have q1 := cat_v (var_d (i := 2) (ρ := rq one more P o3 X X TT EE A Y B .un) (d := lstD more) rfl) (ofD_ok (ice_ok (lst_ok (consD_ok (asD_d (var_d (i := 8) (d := .int a) (by rw [hA]; rfl))) nilD_ok)))) rfl rfl (by rw [sizeLine_eq]; simp; omega)
    refine (set_nx (mkH (cons_ok (ofD_ok (asD_d (cb_1 (x := tupN one) (var_d (d := lstD one) rfl) rfl))) (cons_ok (ofD_ok (asD_d (cb_1 (x := tupN (more ++ [a])) (ofD_ok (ice_ok q1)) (by simp [O.toD, fTupOf, tupN, items])))) (cons_ok (ofD_ok (asD_d (var_d (d := .int P) rfl))) nil_ok))) rfl rfl) rfl).trans ?_
    rw [hZ]
    rfl
  obtain ⟨b, hb⟩ : ∃ b, b = (List.range (E + 1)).all fun k => due (a + P * k) one more P := ⟨_, rfl⟩
  obtain ⟨B2, hB2⟩ : ∃ B2 : Sl, B2 = .dat (.bl b) := ⟨_, rfl⟩
  have s12 : xSet 10 (asD (evCB fAll (evCons (ofD (iceO (evComp [12] (rng1 (evCons (evOp fAdd (evVar 7) (evC (.int 1))) evNil)) (gSet 12) mTrue (retD (evCall g__law_due (evCons (ofD (asD (evOp fAdd (evVar 8) (evOp fMul (evVar 3) (evVar 12))))) (evCons (ofD (asD (evVar 1))) (evCons (ofD (asD (evVar 2))) (evCons (ofD (asD (evVar 3))) evNil))))))))) evNil))) (rq one more P o3 X X TT EE A Y B Z) = .nx (rq one more P o3 X X TT EE A Y B2 Z) := by
    have ec := evCompM (v := 12) (ρ := rq one more P o3 X X TT EE A Y B Z) (ev := rng1 (evCons (evOp fAdd (evVar 7) (evC (.int 1))) evNil)) (ee := (retD (evCall g__law_due (evCons (ofD (asD (evOp fAdd (evVar 8) (evOp fMul (evVar 3) (evVar 12))))) (evCons (ofD (asD (evVar 1))) (evCons (ofD (asD (evVar 2))) (evCons (ofD (asD (evVar 3))) evNil))))))) (l := List.range (E + 1)) (fun k : Nat => D.int (((0 : Nat) : Int) + (k : Int))) (fun k => .bl (due (a + P * k) one more P))
      (rng1_ok (n := E + 1) (cons_ok (op_dd (var_d (i := 7) (d := .int E) (by rw [hEE]; rfl)) (b := evC (.int 1)) rfl (add_c (q := 1))) nil_ok)) rfl (fun k hk => by
        have hk' : k < E + 1 := by simpa using hk
        have mB : CMul (P : Int) (k : Int) := cmul_n (by omega)
        rw [add_n, Nat.zero_add]
        have q := (is_due (a + P * k) one more P hP (by omega)).c4 ((rq one more P o3 X X TT EE A Y B Z).set 12 (.dat (.int (k : Nat))))
        unfold retD evCall
        rw [cons_ok (ofD_ok (asD_d (op_dd (var_d (i := 8) (d := .int a) (by rw [hA]; rfl)) (op_dd (var_d (i := 3) (d := .int P) rfl) (var_d (i := 12) (d := .int (k : Nat)) rfl) (mul_c mB)) add_c))) (cons_ok (ofD_ok (asD_d (var_d (d := lstD one) rfl))) (cons_ok (ofD_ok (asD_d (var_d (d := lstD more) rfl))) (cons_ok (ofD_ok (asD_d (var_d (d := .int P) rfl))) nil_ok)))]
        simp only [Out.bind]
        rw [q]) (by rw [sizeLine_eq]; simp; omega)
    refine (set_nx (asD_d (cb_1 (ofD_ok (ice_ok ec)) (all_map _ _))) (by rw [hB]; rfl)).trans ?_
    rw [hB2, hb]
    rfl
  have s13 : xIf (mOr (asB (evOp (fEqS true) (evEqOwn false c (g_Counts____eq__ c) (ofD (asD (evVar 11))) (ofD (asD (evVar 4)))) (evVar 10))) (asB (evOp (fEqS true) (evOp (fEqS false) (evShOwn c (g_Counts____str__ c) (ofD (asD (evVar 11)))) (evVar 6)) (evVar 10))))
      (xRet (asD (evC (.bl false))))
      xNext (rq one more P o3 X X TT EE A Y B2 Z) = .nx (rq one more P o3 X X TT EE A Y B2 Z) := by
    have w4 := W4 o3 TT EE A Y B2 Z
    have w6 := W6 o3 EE A Y B2 Z
    have w11 : ofD (asD (evVar 11)) (rq one more P o3 X X TT EE A Y B2 Z) = .ok (.d (bx c H)) (rq one more P o3 X X TT EE A Y B2 Z) := ofD_ok (asD_d (var_d (by rw [hZ]; rfl)))
    have w10 : evVar 10 (rq one more P o3 X X TT EE A Y B2 Z) = .ok (.d (.bl b)) (rq one more P o3 X X TT EE A Y B2 Z) := var_d (by rw [hB2]; rfl)
    have eHF : Is (g_Counts____eq__ c) [bx c H, bx c F] (.bl b) := by
      have q := is_eq (c := c) hasH hasF
      rw [hH, hF, same_more one more P a E hP hEb, ← hF, ← hH, ← hb] at q
      exact q
    have hsb : decide (SX.S (strL H) = SX.S (strL F)) = b := by
      have q := str_both (hasH) (hasF)
      rw [hH, hF, same_more one more P a E hP hEb, ← hF, ← hH, ← hb] at q
      exact q
    have q3 := op_dd (f := fEqS true) (op_dd (f := fEqS false) (shOwn_ok w11 (is_str hasH N1 N2 N3)) w6 (eqS_str false _ _)) w10 (eqS_bl true _ _)
    simp only [Bool.false_eq_true, if_false] at q3
    rw [hsb] at q3
    exact if_f ((mOr_ok (asB_ok (op_dd (f := fEqS true) (eqOwn_ok false w11 w4 eHF) w10 (eqS_bl true _ _))) (asB_ok q3)).trans (by cases b <;> rfl)) rfl
  have w4 := W4 o3 TT EE A Y B2 Z
  have w4' : evVar 4 (rq one more P o3 X X TT EE A Y B2 Z) = .ok (.d (bx c F)) (rq one more P o3 X X TT EE A Y B2 Z) := var_d (by rw [hX]; rfl)
  have w6 := W6 o3 EE A Y B2 Z
  have fin : asD (evOp (fEqD false) (ofD (iceO (evLst (evConsD (asD (evEqOwn false c (g_Counts____eq__ c) (ofD (asD (evVar 4))) (ofD (asD (evC (.int 5)))))) (evConsD (asD (evEqOwn false c (g_Counts____eq__ c) (ofD (asD (evVar 4))) (ofD (asD (evVar 6))))) (evConsD (asD (evEqOwn false c (g_Counts____eq__ c) (ofD (asD (evVar 4))) (ofD (asD (evTup (evConsD (asD (evVar 1)) (evConsD (asD (evVar 2)) evNilD))))))) (evConsD (asD (evEqOwn false c (g_Counts____eq__ c) (ofD (asD (evVar 4))) (ofD (asD (evC .non))))) (evConsD (asD (evEqOwn true c (g_Counts____eq__ c) (ofD (asD (evVar 4))) (ofD (retD (evProp c "members" (g_Counts__members c) (evVar 4)))))) evNilD)))))))) (ofD (iceO (evOpO catL (ofD (iceO (evOpO repL (ofD (iceO (evLst (evConsD (asD (evC (.bl false))) evNilD)))) (evC (.int 4))))) (ofD (iceO (evLst (evConsD (asD (evC (.bl true))) evNilD)))))))) (rq one more P o3 X X TT EE A Y B2 Z) = .ok (.bl true) (rq one more P o3 X X TT EE A Y B2 Z) := by
    have r := cat_v (ofD_ok (ice_ok (rep_ok (n := 4) (ρ := rq one more P o3 X X TT EE A Y B2 Z) (lst_ok (consD_ok (a := asD (evC (.bl false))) (asD_d rfl) nilD_ok)) (by decide)))) (ofD_ok (ice_ok (lst_ok (consD_ok (a := asD (evC (.bl true))) (asD_d rfl) nilD_ok)))) rfl rfl (by rw [sizeLine_eq]; decide)
    refine asD_d (op_dd (ofD_ok (ice_ok (lst_ok (consD_ok (asD_d (eqOwn_no false w4 (ofD_ok (asD_d (a := evC (.int 5)) rfl)) rfl (is_eq_no rfl))) (consD_ok (asD_d (eqOwn_no false w4 (ofD_ok (asD_d w6)) rfl (is_eq_no rfl))) (consD_ok (asD_d (eqOwn_no false w4 (ofD_ok (asD_d (tup_ok (consD_ok (asD_d (var_d (d := lstD one) rfl)) (consD_ok (asD_d (var_d (d := lstD more) rfl)) nilD_ok))))) rfl (is_eq_no rfl))) (consD_ok (asD_d (eqOwn_no false w4 (ofD_ok (asD_d (a := evC .non) rfl)) rfl (is_eq_no rfl))) (consD_ok (asD_d (eqOwn_no true w4 (ofD_ok (prop_ok w4' (look_box _ (by decide) _) (is_lows hasF N1 N2 N3))) rfl (is_eq_no rfl))) nilD_ok)))))))) (ofD_ok (ice_ok r)) ?_)
    have z : fEqD false (.lst [.bl false, .bl false, .bl false, .bl false, .bl true]) (.lst [.bl false, .bl false, .bl false, .bl false, .bl true]) = some (.bl true) := by
      have := sca_bl.eqL false [false, false, false, false, true] [false, false, false, false, true]
      simpa using this
    exact z
  refine ⟨o3, ?_⟩
  have key : x__law_right c [.own true o, .un, .un, .un, .un, .un, .un, .un, .un, .un, .un, .un, .un] = .rt (.d (.bl true)) (rq one more P o3 X X TT EE A Y B2 Z) := by
    unfold x__law_right
    exact seq_nx s1 (seq_nx s2 (seq_nx s3 (seq_nx s4 (seq_nx s5 (seq_nx s6 (seq_nx s7 (seq_nx s8 (seq_nx s9 (seq_nx s10 (seq_nx s11 (seq_nx s12 (seq_nx s13 (ret_rt fin)))))))))))))
  unfold g__law_right fnD
  simp only [List.replicate, List.cons_append, List.nil_append]
  rw [key]
  rfl
end
end
end Lk
namespace Lk
noncomputable section
open PySem PySem.Spec PyProof.Rows L2 G DC


/-! ### k51: the law -/
theorem can_s1 : Can 4 1 9 := ⟨by decide, by decide, fun m hm _ => hm, fun k h => by
  obtain rfl : k = 3 := by omega
  decide⟩
theorem can_s2 : Can 1 1 2 := ⟨by decide, by decide, fun m hm _ => hm, fun k h => by
  obtain rfl : k = 0 := by omega
  decide⟩
theorem can_s4 : Can 1 3 5 := ⟨by decide, by decide, fun m hm he => by
  rcases Nat.lt_or_ge m 3 with z | z
  · exfalso
    obtain ⟨t, ht⟩ := he
    have h1 := fun k hk => per_dvd (s := 1) (p := 3) (b := 5) (P := 3) (Nat.dvd_refl 3) t k hk
    have : m = 1 ∨ m = 2 := by omega
    rcases this with rfl | rfl
    · have h := ht (2 + t * 3) (by omega)
      rw [show 2 + t * 3 + 1 = 3 + t * 3 by omega, h1 2 (by decide), h1 3 (by decide)] at h
      revert h
      decide
    · have h := ht (2 + t * 3) (by omega)
      rw [show 2 + t * 3 + 2 = 4 + t * 3 by omega, h1 2 (by decide), h1 4 (by decide)] at h
      revert h
      decide
  · exact z, fun k h => by
  obtain rfl : k = 0 := by omega
  decide⟩
theorem known (one more : List Nat) (P s p b S : Nat) (hP : 0 < P) (hS : ∀ k ∈ one ++ more, k < S) (hs : s ≤ S) (hd : p ∣ P) (ha : ∀ n, n < S + P → due n one more P = mem s p b n) : ∀ n, mem s p b n = due n one more P := by
  intro n
  by_cases z : n < S + P
  · exact (ha n z).symm
  · have e : n = S + (n - S) % P + (n - S) / P * P := by
      have := Nat.mod_add_div (n - S) P
      rw [Nat.mul_comm] at this
      omega
    have := Nat.mod_lt (n - S) hP
    have h1 := per_all (f := fun n => due n one more P) (s := S) (p := P) (fun n hn => due_per hS n hn) ((n - S) / P) (S + (n - S) % P) (by omega)
    have h2 := per_dvd (s := s) (p := p) (b := b) hd ((n - S) / P) (S + (n - S) % P) (by omega)
    rw [← e] at h1 h2
    exact h2.trans ((ha _ (by omega)).symm.trans h1.symm)
def txtL (s p : Nat) (l : List Nat) (e : Bool) : List Nat :=
  TL.joinL [32] (if (l.map TL.numL ++ if e = true then [frL ++ (TL.numL s ++ (byL ++ TL.numL p))] else []) = [] then [noneL] else (l.map TL.numL ++ if e = true then [frL ++ (TL.numL s ++ (byL ++ TL.numL p))] else []))
section
variable {N Mx : Nat} {c : Addr} {f : Nat → Bool}
theorem low_bits (h : Has N Mx f) : lowL f = bitsL (tri f).2.2 ((tri f).1 + (tri f).2.1) := by
  unfold lowL bitsL
  refine List.filter_congr fun k hk => ?_
  rw [← h.mem, mem_in (by simpa using hk)]
theorem end_bits (h : Has N Mx f) : endB f = decide ((tri f).2.2 >>> (tri f).1 ≠ 0) := by
  have h1 := is_endl (c := 0) h
  have h2 := is_endless 0 (tri f).1 (tri f).2.1 (tri f).2.2
  have e := h1.c1 []
  have e2 := h2.c1 []
  unfold bx at e
  rw [e2] at e
  simpa using e.symm
theorem str_known {s p b : Nat} {l : List Nat} {e : Bool} (h : Has N Mx f) (ht : tri f = (s, p, b)) (hl : bitsL b (s + p) = l) (he : decide (b >>> s ≠ 0) = e) : strL f = txtL s p l e := by
  have h1 := low_bits h
  have h2 := end_bits h
  rw [ht] at h1 h2
  simp only at h1 h2
  rw [hl] at h1
  rw [he] at h2
  unfold strL wsL toldL txtL tailL
  rw [h1, h2, ht]
/-- what the known counts are -/
theorem box_known (one more : List Nat) (P s p b S : Nat) (l : List Nat) (e : Bool) (hP : 0 < P) (hP2 : P ≤ 1000) (l1 : one.length ≤ 1000) (l2 : more.length ≤ 1000) (hc : Can s p b) (hS : ∀ k ∈ one ++ more, k < S) (hS2 : S ≤ 10) (hs : s ≤ S) (hd : p ∣ P) (hP6 : P ∣ 6) (ha : ∀ n, n < S + P → due n one more P = mem s p b n) (hl : bitsL b (s + p) = l) (he : decide (b >>> s ≠ 0) = e) (c : Addr) :
    ∃ f, Has 6 10 f ∧ strL f = txtL s p l e ∧ ∀ {gR : List Rf → List Rf → List Rf} {el ek : M (List Rf)} {rs rz : List Rf} {ρ : List Sl}, el ρ = .ok rs ρ → ek ρ = .ok rz ρ → gR rs rz = [Rf.d (tupN one), Rf.d (tupN more), Rf.d (.int P)] → iceO (evMakeD c (g_Counts____init__ c) gR el ek) ρ = .ok (bx c f) ρ := by
  obtain ⟨hf, mk⟩ := mk_bx c one more P 6 10 hP hP2 l1 l2 (by decide) (fun k hk => by have := hS k (List.mem_append_left _ hk); omega) (fun k hk => by have := hS k (List.mem_append_right _ hk); omega) hP6
  exact ⟨_, hf, str_known hf (tri_of hc (known one more P s p b S hP hS hs hd ha)) hl he, mk⟩
end
theorem law_math (c : Addr) (ns : List Int) (hl : ns.length ≤ 63) : ∃ ρ, g_law c [.dat (.scr ns)] = .ok (.d (.bl true)) ρ := by
  obtain ⟨f0, h0, t0, m0⟩ := box_known [] [] 1 0 1 0 0 [] false (by decide) (by decide) (by decide) (by decide) can_0 (by decide) (by decide) (by decide) (by decide) (by decide) (by decide) (by decide) (by decide) c
  obtain ⟨f1, h1, t1, m1⟩ := box_known [3, 0] [] 1 4 1 9 4 [0, 3] false (by decide) (by decide) (by decide) (by decide) can_s1 (by decide) (by decide) (by decide) (by decide) (by decide) (by decide) (by decide) (by decide) c
  obtain ⟨f2, h2, t2, m2⟩ := box_known [] [1] 1 1 1 2 2 [1] true (by decide) (by decide) (by decide) (by decide) can_s2 (by decide) (by decide) (by decide) (by decide) (by decide) (by decide) (by decide) (by decide) c
  obtain ⟨f3, h3, t3, m3⟩ := box_known [3, 0, 4] [6, 4] 2 4 2 25 7 [0, 3, 4] true (by decide) (by decide) (by decide) (by decide) can_3 (by decide) (by decide) (by decide) (by decide) (by decide) (by decide) (by decide) (by decide) c
  obtain ⟨f4, h4, t4, m4⟩ := box_known [0] [5, 2] 6 1 3 5 6 [0, 2] true (by decide) (by decide) (by decide) (by decide) can_s4 (by decide) (by decide) (by decide) (by decide) (by decide) (by decide) (by decide) (by decide) c
  have u0 : SX.S (strL f0) = "none" := by rw [t0]; decide +kernel
  have u1 : SX.S (strL f1) = "0 3" := by rw [t1]; decide +kernel
  have u2 : SX.S (strL f2) = "1 .. from 1 by 1" := by rw [t2]; decide +kernel
  have u3 : SX.S (strL f3) = "0 3 4 .. from 4 by 2" := by rw [t3]; decide +kernel
  have u4 : SX.S (strL f4) = "0 2 .. from 1 by 3" := by rw [t4]; decide +kernel
  have v3 : SX.S (reprL f3) = "Counts(0 3 4 .. from 4 by 2)" := by unfold reprL; rw [t3]; decide +kernel
  have hall : ∀ F ∈ [f0, f1, f2, f3, f4], Has 6 10 F := by
    intro F hF
    simp only [List.mem_cons, List.not_mem_nil, or_false] at hF
    rcases hF with rfl | rfl | rfl | rfl | rfl
    · exact h0
    · exact h1
    · exact h2
    · exact h3
    · exact h4
  have N1 : 0 < 6 := by decide
  have N2 : 6 ≤ 10000 := by decide
  have N3 : 10 ≤ 10000 := by decide
  obtain ⟨S, hS⟩ : ∃ S : Sl, S = .dat (.lst [bx c f0, bx c f1, bx c f2, bx c f3, bx c f4]) := ⟨_, rfl⟩
  obtain ⟨U, hU⟩ : ∃ U : Sl, U = .dat (.lst [.str "none", .str "0 3", .str "1 .. from 1 by 1", .str "0 3 4 .. from 4 by 2", .str "0 2 .. from 1 by 3"]) := ⟨_, rfl⟩
  have W1 : ∀ x y : Sl, seqL (asD (evVar 1)) [.dat (.scr ns), S, U, x, y] = .ok (([f0, f1, f2, f3, f4] : List (Nat → Bool)).map (bx c)) [.dat (.scr ns), S, U, x, y] := fun x y => seqL_ok (asD_d (var_d (by rw [hS]; rfl)))
  have s1 : xSet 1 (iceO (evLst (evConsD (iceO (evMakeD c (g_Counts____init__ c) (fun rs rz => match rs, rz with | [], [] => [Rf.d (.tup []), Rf.d (.tup []), Rf.d (.int 1)] | _, _ => []) evNil evNil)) (evConsD (iceO (evMakeD c (g_Counts____init__ c) (fun rs rz => match rs, rz with | [r0], [] => [r0, Rf.d (.tup []), Rf.d (.int 1)] | _, _ => []) (evCons (ofD (asD (evTup (evConsD (asD (evC (.int 3))) (evConsD (asD (evC (.int 0))) evNilD))))) evNil) evNil)) (evConsD (iceO (evMakeD c (g_Counts____init__ c) (fun rs rz => match rs, rz with | [r0, r1], [] => [r0, r1, Rf.d (.int 1)] | _, _ => []) (evCons (ofD (asD (evTup evNilD))) (evCons (ofD (asD (evTup (evConsD (asD (evC (.int 1))) evNilD)))) evNil)) evNil)) (evConsD (iceO (evMakeD c (g_Counts____init__ c) (fun rs rz => match rs, rz with | [r0, r1, r2], [] => [r0, r1, r2] | _, _ => []) (evCons (ofD (asD (evTup (evConsD (asD (evC (.int 3))) (evConsD (asD (evC (.int 0))) (evConsD (asD (evC (.int 4))) evNilD)))))) (evCons (ofD (asD (evTup (evConsD (asD (evC (.int 6))) (evConsD (asD (evC (.int 4))) evNilD))))) (evCons (ofD (asD (evC (.int 2)))) evNil))) evNil)) (evConsD (iceO (evMakeD c (g_Counts____init__ c) (fun rs rz => match rs, rz with | [r0, r1, r2], [] => [r0, r1, r2] | _, _ => []) (evCons (ofD (asD (evTup (evConsD (asD (evC (.int 0))) evNilD)))) (evCons (ofD (asD (evTup (evConsD (asD (evC (.int 5))) (evConsD (asD (evC (.int 2))) evNilD))))) (evCons (ofD (asD (evC (.int 6)))) evNil))) evNil)) evNilD)))))))
      [.dat (.scr ns), .un, .un, .un, .un] = .nx [.dat (.scr ns), S, .un, .un, .un] := by
    refine (set_nx (ice_ok (lst_ok (consD_ok (m0 rfl rfl rfl) (consD_ok (m1 (cons_ok (ofD_ok (asD_d (tup_ok (consD_ok rfl (consD_ok rfl nilD_ok))))) nil_ok) rfl rfl) (consD_ok (m2 (cons_ok (ofD_ok (asD_d (tup_ok nilD_ok))) (cons_ok (ofD_ok (asD_d (tup_ok (consD_ok rfl nilD_ok)))) nil_ok)) rfl rfl) (consD_ok (m3 (cons_ok (ofD_ok (asD_d (tup_ok (consD_ok rfl (consD_ok rfl (consD_ok rfl nilD_ok)))))) (cons_ok (ofD_ok (asD_d (tup_ok (consD_ok rfl (consD_ok rfl nilD_ok))))) (cons_ok (ofD_ok (asD_d rfl)) nil_ok))) rfl rfl) (consD_ok (m4 (cons_ok (ofD_ok (asD_d (tup_ok (consD_ok rfl nilD_ok)))) (cons_ok (ofD_ok (asD_d (tup_ok (consD_ok rfl (consD_ok rfl nilD_ok))))) (cons_ok (ofD_ok (asD_d rfl)) nil_ok))) rfl rfl) nilD_ok))))))) rfl).trans ?_
    rw [hS]
    rfl
  have s2 : xSet 2 (iceO (evLst (evConsD (asD (evC (.str "none"))) (evConsD (asD (evC (.str "0 3"))) (evConsD (asD (evC (.str "1 .. from 1 by 1"))) (evConsD (asD (evC (.str "0 3 4 .. from 4 by 2"))) (evConsD (asD (evC (.str "0 2 .. from 1 by 3"))) evNilD))))))) [.dat (.scr ns), S, .un, .un, .un] = .nx [.dat (.scr ns), S, U, .un, .un] := by
    refine (set_nx (ice_ok (lst_ok (consD_ok rfl (consD_ok rfl (consD_ok rfl (consD_ok rfl (consD_ok rfl nilD_ok))))))) rfl).trans ?_
    rw [hU]
    rfl
  have w2 : evVar 2 [.dat (.scr ns), S, U, .un, .un] = .ok (.d (.lst [.str "none", .str "0 3", .str "1 .. from 1 by 1", .str "0 3 4 .. from 4 by 2", .str "0 2 .. from 1 by 3"])) [.dat (.scr ns), S, U, .un, .un] := var_d (by rw [hU]; rfl)
  have c1 := evCompM (v := 3) (ρ := [.dat (.scr ns), S, U, .un, .un]) (ev := seqL (asD (evVar 1))) (ee := asD (evShOwn c (g_Counts____str__ c) (ofD (asD (evVar 3))))) (l := [f0, f1, f2, f3, f4]) (bx c) strD (W1 .un .un) rfl (fun F hF => asD_d (shOwn_ok (ofD_ok (asD_d (var_d (i := 3) (d := bx c F) rfl))) (is_str (hall F hF) N1 N2 N3))) (by rw [sizeLine_eq]; simp)
  have c2 := evCompM (v := 3) (ρ := [.dat (.scr ns), S, U, .un, .un]) (ev := seqL (asD (evVar 1))) (ee := asD (evBoolOwn c (ofD (asD (evVar 3))))) (l := [f0, f1, f2, f3, f4]) (bx c) (fun _ => .bl true) (W1 .un .un) rfl (fun F hF => asD_d (boolOwn_ok (ofD_ok (asD_d (var_d (i := 3) (d := bx c F) rfl))))) (by rw [sizeLine_eq]; simp)
  have hlst : ([f0, f1, f2, f3, f4] : List (Nat → Bool)).map strD = (["none", "0 3", "1 .. from 1 by 1", "0 3 4 .. from 4 by 2", "0 2 .. from 1 by 3"] : List Str).map D.str := by
    simp only [List.map_cons, List.map_nil, strD, u0, u1, u2, u3, u4]
  have okL : ∀ z ∈ (["none", "0 3", "1 .. from 1 by 1", "0 3 4 .. from 4 by 2", "0 2 .. from 1 by 3"] : List Str), PyData.strOk z = true := by
    intro z hz
    simp only [List.mem_cons, List.not_mem_nil, or_false] at hz
    rcases hz with rfl | rfl | rfl | rfl | rfl
    · rw [← u0]; exact strOk_S (str_128 f0)
    · rw [← u1]; exact strOk_S (str_128 f1)
    · rw [← u2]; exact strOk_S (str_128 f2)
    · rw [← u3]; exact strOk_S (str_128 f3)
    · rw [← u4]; exact strOk_S (str_128 f4)
  have s3 : mOr (asB (evOp (fEqD true) (ofD (iceO (evComp [3] (seqL (asD (evVar 1))) (gSet 3) mTrue (asD (evShOwn c (g_Counts____str__ c) (ofD (asD (evVar 3)))))))) (evVar 2))) (asB (evOp (fEqS true) (evShOwn c (g_Counts____repr__ c) (ofD (asD (evOp fIxL (evVar 1) (evC (.int 3)))))) (evC (.str "Counts(0 3 4 .. from 4 by 2)")))) [.dat (.scr ns), S, U, .un, .un] = .ok false [.dat (.scr ns), S, U, .un, .un] := by
    have z : fEqD true (.lst (([f0, f1, f2, f3, f4] : List (Nat → Bool)).map strD)) (.lst [.str "none", .str "0 3", .str "1 .. from 1 by 1", .str "0 3 4 .. from 4 by 2", .str "0 2 .. from 1 by 3"]) = some (.bl false) := by
      rw [hlst]
      have q := eq_strsL true _ _ okL okL
      refine q.trans ?_
      simp
    have hr := (is_reprX (c := c) h3 N1 N2 N3).1
    rw [v3] at hr
    have w3 : ofD (asD (evOp fIxL (evVar 1) (evC (.int 3)))) [.dat (.scr ns), S, U, .un, .un] = .ok (.d (bx c f3)) [.dat (.scr ns), S, U, .un, .un] := ofD_ok (asD_d (op_dd (var_d (d := .lst [bx c f0, bx c f1, bx c f2, bx c f3, bx c f4]) (by rw [hS]; rfl)) (b := evC (.int 3)) rfl (ixL_nat (k := 3) rfl)))
    exact (mOr_ok (asB_ok (op_dd (ofD_ok (ice_ok c1)) w2 z)) (asB_ok (op_dd (shOwn_ok w3 hr) (b := evC (.str "Counts(0 3 4 .. from 4 by 2)")) rfl (eqS_str true _ _)))).trans (by simp)
  have s4 : asB (evOp (fEqD true) (ofD (iceO (evComp [3] (seqL (asD (evVar 1))) (gSet 3) mTrue (asD (evBoolOwn c (ofD (asD (evVar 3)))))))) (ofD (iceO (evOpO repL (ofD (iceO (evLst (evConsD (asD (evC (.bl true))) evNilD)))) (evC (.int 5)))))) [.dat (.scr ns), S, U, .un, .un] = .ok false [.dat (.scr ns), S, U, .un, .un] := by
    have r := rep_ok (n := 5) (ρ := [.dat (.scr ns), S, U, .un, .un]) (lst_ok (consD_ok (a := asD (evC (.bl true))) (asD_d rfl) nilD_ok)) (by decide)
    have z : fEqD true (.lst [.bl true, .bl true, .bl true, .bl true, .bl true]) (.lst [.bl true, .bl true, .bl true, .bl true, .bl true]) = some (.bl false) := by
      have := sca_bl.eqL true [true, true, true, true, true] [true, true, true, true, true]
      simpa using this
    exact asB_ok (op_dd (ofD_ok (ice_ok c2)) (ofD_ok (ice_ok r)) z)
  obtain ⟨many, hmany, hmany2⟩ : ∃ many : Nat, fMax2 [.int 2, .int (if (5 : Int) < ns.length then 5 else ns.length)] = some (.int many) ∧ many ≤ 5 := by
    refine ⟨max 2 (min ns.length 5), ?_, by omega⟩
    simp only [fMax2]
    congr 2
    split <;> split <;> omega
  have e5 := evCompM (v := 4) (ρ := [.dat (.scr ns), S, U, .un, .un]) (ev := rng1 (evCons (evCB fMax2 (evCons (evC (.int 2)) (evCons (evCB fMin2 (evCons (evCB fLen (evCons (evVar 0) evNil)) (evCons (evC (.int 5)) evNil))) evNil))) evNil)) (ee := (retD (evCallNew (g__law_right c) (retO (evCall g__law_purse (evCons (ofD (asD (evVar 0))) (evCons (ofD (asD (evVar 4))) evNil))))))) (l := List.range many) (fun k : Nat => D.int (0 + (k : Int))) (fun k => .bl true)
    (by
      have hlen : fLen [.scr ns] = some (.int ns.length) := by simp [fLen, items]
      have hmin : fMin2 [.int ns.length, .int 5] = some (.int (if (5 : Int) < ns.length then 5 else ns.length)) := rfl
      simp [Is, fnD, xSeq, xAsg, xIf, xSet, xPar, xRet, xFor, xAug, gSet, gTupD, gsCons, gsNil, evOp, evVar, evC, evUn, evChain, asD, ofD, retD, iceO, asB, thenS, Out.bind, Rs.bind, vw, setD, free, op2I, op2I0, fEqS, D.sc, scal, evCall, evCons, evNil, evTup, evConsD, evNilD, evBits, lift, vAnd, vOr, vNot, xDrop, evAppend, ownL, xSetO, xNext, evLst, Option.bind, mAnd, mOr, mNot, mIf, List.replicate, clos, gIx, fIxL, atI, ixN, O.toD, evCB, vws, fInt, rng1, vws, hlen, hmin, hmany, show RgC (many : Int) from rgc_n (n := many) (by omega), rngD]) rfl (fun k hk => by
      have hk' : k < many := by simpa using hk
      obtain ⟨o, ho, pu⟩ := is_purse ns k (by omega) (by omega)
      obtain ⟨o', hr⟩ := is_law_right c k o pu (by omega)
      obtain ⟨R2, hR2⟩ : ∃ R2 : List Sl, R2 = [.dat (.scr ns), S, U, .un, .dat (.int (0 + (k : Int)))] := ⟨_, rfl⟩
      have hset : ([.dat (.scr ns), S, U, .un, .un] : List Sl).set 4 (.dat (.int (0 + (k : Int)))) = R2 := by rw [hR2]; rfl
      rw [hset]
      have hcall : evCall g__law_purse (evCons (ofD (asD (evVar 0))) (evCons (ofD (asD (evVar 4))) evNil)) R2 = .ok (.o o) R2 := by
        have hc := callO (g := g__law_purse) (as := [.scr ns, .int k]) (o := o) R2 ho
        simp only [List.map_cons, List.map_nil] at hc
        unfold evCall
        rw [show evCons (ofD (asD (evVar 0))) (evCons (ofD (asD (evVar 4))) evNil) R2 = .ok [.d (.scr ns), .d (.int k)] R2 by rw [hR2, show (0 : Int) + (k : Int) = (k : Int) by omega]; rfl]
        simp only [Out.bind]
        rw [hc]
      have hcn := newCall (eo := retO (evCall g__law_purse (evCons (ofD (asD (evVar 0))) (evCons (ofD (asD (evVar 4))) evNil)))) (o := o) (ρ := R2) (ρ1 := R2) (by unfold retO; rw [hcall]; rfl) hr
      show retD _ _ = _
      unfold retD
      rw [hcn]
      rfl) (by rw [sizeLine_eq]; simp; omega)
  have q3 : fAll [.lst ((List.range many).map fun _ => D.bl true)] = some (.bl true) := by rw [all_map (fun _ => true)]; simp
  have key : x_law c [.dat (.scr ns), .un, .un, .un, .un] = .rt (.d (.bl true)) [.dat (.scr ns), S, U, .un, .un] := by
    unfold x_law
    exact seq_nx s1 (seq_nx s2 (seq_nx (if_f s3 rfl) (seq_nx (if_f s4 rfl) (ret_rt (asD_d (cb_1 (ofD_ok (ice_ok e5)) q3))))))
  unfold g_law fnD
  simp only [List.replicate, List.cons_append, List.nil_append]
  rw [key]
  exact ⟨_, rfl⟩
theorem law_true (K : PySem.W.Frag) (H : Hp) (a : Addr) (ns : List Int) (hl : ns.length ≤ 63) (q : SqL K H a (ns.map V.int)) : ∀ cCounts, spD K 1 (g_law cCounts) [.ref a] H (fun v _ => v = .bl true) E0 := fun c => law_sp q (law_math c ns hl)
end
end Lk
namespace Lk
open PySem PySem.Spec PyProof.Rows L2 G DC
def spLaw (K : PySem.W.Frag) : Sp := fun vs H Q E => ∀ cCounts : Addr, spD K 1 (g_law cCounts) vs H Q E
theorem all_mk {l : PySem.W.OpenLaw} {w : World} {K : PySem.W.Frag} {h : Heap} {mg : Str → Option Value} {fa : Addr} (X : K.In h) (G : h.Ns mainGlobals mg) (hfa : mg "law" = some (.ref fa))
    {cCounts : Addr}
    {f0 : Addr} {od0 an0 : Option Addr} {sl0 : Array (Option Value)} {oc0 kV0 dc0 pm0 cd0 ct0 : Value}
    {f1 : Addr} {od1 an1 : Option Addr} {sl1 : Array (Option Value)} {oc1 kV1 dc1 pm1 cd1 ct1 : Value}
    {f2 : Addr} {od2 an2 : Option Addr} {sl2 : Array (Option Value)} {oc2 kV2 dc2 pm2 cd2 ct2 : Value}
    {f3 : Addr} {od3 an3 : Option Addr} {sl3 : Array (Option Value)} {oc3 kV3 dc3 pm3 cd3 ct3 : Value}
    {f4 : Addr} {od4 an4 : Option Addr} {sl4 : Array (Option Value)} {oc4 kV4 dc4 pm4 cd4 ct4 : Value}
    {f5 : Addr} {od5 an5 : Option Addr} {sl5 : Array (Option Value)} {oc5 kV5 dc5 pm5 cd5 ct5 : Value}
    {f6 : Addr} {od6 an6 : Option Addr} {sl6 : Array (Option Value)} {oc6 kV6 dc6 pm6 cd6 ct6 : Value}
    {f7 : Addr} {od7 an7 : Option Addr} {sl7 : Array (Option Value)} {oc7 kV7 dc7 pm7 cd7 ct7 : Value}
    {f8 : Addr} {od8 an8 : Option Addr} {sl8 : Array (Option Value)} {oc8 kV8 dc8 pm8 cd8 ct8 : Value}
    {f9 : Addr} {od9 an9 : Option Addr} {sl9 : Array (Option Value)} {oc9 kV9 dc9 pm9 cd9 ct9 : Value}
    {f10 : Addr} {od10 an10 : Option Addr} {sl10 : Array (Option Value)} {oc10 kV10 dc10 pm10 cd10 ct10 : Value}
    {f11 : Addr} {od11 an11 : Option Addr} {sl11 : Array (Option Value)} {oc11 kV11 dc11 pm11 cd11 ct11 : Value}
    {f12 : Addr} {od12 an12 : Option Addr} {sl12 : Array (Option Value)} {oc12 kV12 dc12 pm12 cd12 ct12 : Value}
    {f13 : Addr} {od13 an13 : Option Addr} {sl13 : Array (Option Value)} {oc13 kV13 dc13 pm13 cd13 ct13 : Value}
    {td13 : Addr} {otd13 : Value} {dtd13 : Option Addr} {ntd13 : Nat} {stl13 : Array (Option Value)}
    {x13_0 : Addr} {ox13_0 : Option Addr} {nx13_0 : Nat} {sx13_0 : Array (Option Value)}
    {x13_1 : Addr} {ox13_1 : Option Addr} {nx13_1 : Nat} {sx13_1 : Array (Option Value)}
    {tk13_2 : Tok}
    {f14 : Addr} {od14 an14 : Option Addr} {sl14 : Array (Option Value)} {oc14 kV14 dc14 pm14 cd14 ct14 : Value}
    {pp14 : Addr} {rs14 : List Value}
    {f15 : Addr} {od15 an15 : Option Addr} {sl15 : Array (Option Value)} {oc15 kV15 dc15 pm15 cd15 ct15 : Value}
    {pp15 : Addr} {rs15 : List Value}
    {f16 : Addr} {od16 an16 : Option Addr} {sl16 : Array (Option Value)} {oc16 kV16 dc16 pm16 cd16 ct16 : Value}
    {pp16 : Addr} {rs16 : List Value}
    {f17 : Addr} {od17 an17 : Option Addr} {sl17 : Array (Option Value)} {oc17 kV17 dc17 pm17 cd17 ct17 : Value}
    {pp17 : Addr} {rs17 : List Value}
    {f18 : Addr} {od18 an18 : Option Addr} {sl18 : Array (Option Value)} {oc18 kV18 dc18 pm18 cd18 ct18 : Value}
    {f19 : Addr} {od19 an19 : Option Addr} {sl19 : Array (Option Value)} {oc19 kV19 dc19 pm19 cd19 ct19 : Value}
    {f20 : Addr} {od20 an20 : Option Addr} {sl20 : Array (Option Value)} {oc20 kV20 dc20 pm20 cd20 ct20 : Value}
    {f21 : Addr} {od21 an21 : Option Addr} {sl21 : Array (Option Value)} {oc21 kV21 dc21 pm21 cd21 ct21 : Value}
    {f22 : Addr} {od22 an22 : Option Addr} {sl22 : Array (Option Value)} {oc22 kV22 dc22 pm22 cd22 ct22 : Value}
    {f23 : Addr} {od23 an23 : Option Addr} {sl23 : Array (Option Value)} {oc23 kV23 dc23 pm23 cd23 ct23 : Value}
    {f24 : Addr} {od24 an24 : Option Addr} {sl24 : Array (Option Value)} {oc24 kV24 dc24 pm24 cd24 ct24 : Value}
    {f25 : Addr} {od25 an25 : Option Addr} {sl25 : Array (Option Value)} {oc25 kV25 dc25 pm25 cd25 ct25 : Value}
    {f26 : Addr} {od26 an26 : Option Addr} {sl26 : Array (Option Value)} {oc26 kV26 dc26 pm26 cd26 ct26 : Value}
    {t_MOST_MEMBER : Tok}
    {t_MOST_PERIOD : Tok}
    (ncCounts : PySem.W.nsIn K mainGlobals "Counts" = some (some (.ref cCounts)))
    (pgcCounts : PySem.W.plainGet K cCounts Str.empty = true)
    (hdcCounts : PySem.W.hasDictIn K cCounts = true)
    (pocCounts : PySem.W.plainOver K cCounts = true)
    (sacCounts : PySem.W.findIn K (.ref cCounts) "__setattr__" = some (some (.builtin "object.__setattr__")))
    (mkcCounts : PySem.W.makesIn K cCounts = true)
    (kccCounts : PySem.W.keepIn K (.ref cCounts) = true)
    (a0 : PySem.W.nsIn K mainGlobals "_law_purse" = some (some (.ref f0)))
    (l0 : K.lookup f0 = some ⟨oc0, od0, .func (PySem.W.fnOf "_law_purse" "_law_purse" (defArgs s__law_purse) (defBody s__law_purse) (defScope s__law_purse) .none kV0 dc0 pm0 an0 cd0 ct0), sl0⟩)
    (c0 : PySem.W.codeIn K cd0 "_law_purse" = true)
    (k0 : PySem.W.keepIn K (.ref f0) = true)
    (a1 : PySem.W.nsIn K mainGlobals "_law_pick" = some (some (.ref f1)))
    (l1 : K.lookup f1 = some ⟨oc1, od1, .func (PySem.W.fnOf "_law_pick" "_law_pick" (defArgs s__law_pick) (defBody s__law_pick) (defScope s__law_pick) .none kV1 dc1 pm1 an1 cd1 ct1), sl1⟩)
    (c1 : PySem.W.codeIn K cd1 "_law_pick" = true)
    (k1 : PySem.W.keepIn K (.ref f1) = true)
    (a2 : PySem.W.nsIn K mainGlobals "is_integer" = some (some (.ref f2)))
    (l2 : K.lookup f2 = some ⟨oc2, od2, .func (PySem.W.fnOf "is_integer" "is_integer" (defArgs s_is_integer) (defBody s_is_integer) (defScope s_is_integer) .none kV2 dc2 pm2 an2 cd2 ct2), sl2⟩)
    (c2 : PySem.W.codeIn K cd2 "is_integer" = true)
    (k2 : PySem.W.keepIn K (.ref f2) = true)
    (a3 : PySem.W.nsIn K mainGlobals "is_integer_within" = some (some (.ref f3)))
    (l3 : K.lookup f3 = some ⟨oc3, od3, .func (PySem.W.fnOf "is_integer_within" "is_integer_within" (defArgs s_is_integer_within) (defBody s_is_integer_within) (defScope s_is_integer_within) .none kV3 dc3 pm3 an3 cd3 ct3), sl3⟩)
    (c3 : PySem.W.codeIn K cd3 "is_integer_within" = true)
    (k3 : PySem.W.keepIn K (.ref f3) = true)
    (a4 : PySem.W.nsIn K mainGlobals "mask_of" = some (some (.ref f4)))
    (l4 : K.lookup f4 = some ⟨oc4, od4, .func (PySem.W.fnOf "mask_of" "mask_of" (defArgs s_mask_of) (defBody s_mask_of) (defScope s_mask_of) .none kV4 dc4 pm4 an4 cd4 ct4), sl4⟩)
    (c4 : PySem.W.codeIn K cd4 "mask_of" = true)
    (k4 : PySem.W.keepIn K (.ref f4) = true)
    (a5 : PySem.W.nsIn K mainGlobals "members_of" = some (some (.ref f5)))
    (l5 : K.lookup f5 = some ⟨oc5, od5, .func (PySem.W.fnOf "members_of" "members_of" (defArgs s_members_of) (defBody s_members_of) (defScope s_members_of) .none kV5 dc5 pm5 an5 cd5 ct5), sl5⟩)
    (c5 : PySem.W.codeIn K cd5 "members_of" = true)
    (k5 : PySem.W.keepIn K (.ref f5) = true)
    (a6 : PySem.W.nsIn K mainGlobals "primes_of" = some (some (.ref f6)))
    (l6 : K.lookup f6 = some ⟨oc6, od6, .func (PySem.W.fnOf "primes_of" "primes_of" (defArgs s_primes_of) (defBody s_primes_of) (defScope s_primes_of) .none kV6 dc6 pm6 an6 cd6 ct6), sl6⟩)
    (c6 : PySem.W.codeIn K cd6 "primes_of" = true)
    (k6 : PySem.W.keepIn K (.ref f6) = true)
    (a7 : PySem.W.nsIn K mainGlobals "is_again_after" = some (some (.ref f7)))
    (l7 : K.lookup f7 = some ⟨oc7, od7, .func (PySem.W.fnOf "is_again_after" "is_again_after" (defArgs s_is_again_after) (defBody s_is_again_after) (defScope s_is_again_after) .none kV7 dc7 pm7 an7 cd7 ct7), sl7⟩)
    (c7 : PySem.W.codeIn K cd7 "is_again_after" = true)
    (k7 : PySem.W.keepIn K (.ref f7) = true)
    (a8 : PySem.W.nsIn K mainGlobals "least_cycle" = some (some (.ref f8)))
    (l8 : K.lookup f8 = some ⟨oc8, od8, .func (PySem.W.fnOf "least_cycle" "least_cycle" (defArgs s_least_cycle) (defBody s_least_cycle) (defScope s_least_cycle) .none kV8 dc8 pm8 an8 cd8 ct8), sl8⟩)
    (c8 : PySem.W.codeIn K cd8 "least_cycle" = true)
    (k8 : PySem.W.keepIn K (.ref f8) = true)
    (a9 : PySem.W.nsIn K mainGlobals "stretched" = some (some (.ref f9)))
    (l9 : K.lookup f9 = some ⟨oc9, od9, .func (PySem.W.fnOf "stretched" "stretched" (defArgs s_stretched) (defBody s_stretched) (defScope s_stretched) .none kV9 dc9 pm9 an9 cd9 ct9), sl9⟩)
    (c9 : PySem.W.codeIn K cd9 "stretched" = true)
    (k9 : PySem.W.keepIn K (.ref f9) = true)
    (a10 : PySem.W.nsIn K mainGlobals "least_rhythm" = some (some (.ref f10)))
    (l10 : K.lookup f10 = some ⟨oc10, od10, .func (PySem.W.fnOf "least_rhythm" "least_rhythm" (defArgs s_least_rhythm) (defBody s_least_rhythm) (defScope s_least_rhythm) .none kV10 dc10 pm10 an10 cd10 ct10), sl10⟩)
    (c10 : PySem.W.codeIn K cd10 "least_rhythm" = true)
    (k10 : PySem.W.keepIn K (.ref f10) = true)
    (a11 : PySem.W.nsIn K mainGlobals "is_row_of_members" = some (some (.ref f11)))
    (l11 : K.lookup f11 = some ⟨oc11, od11, .func (PySem.W.fnOf "is_row_of_members" "is_row_of_members" (defArgs s_is_row_of_members) (defBody s_is_row_of_members) (defScope s_is_row_of_members) .none kV11 dc11 pm11 an11 cd11 ct11), sl11⟩)
    (c11 : PySem.W.codeIn K cd11 "is_row_of_members" = true)
    (k11 : PySem.W.keepIn K (.ref f11) = true)
    (a12 : PySem.W.nsIn K mainGlobals "rhythm_of" = some (some (.ref f12)))
    (l12 : K.lookup f12 = some ⟨oc12, od12, .func (PySem.W.fnOf "rhythm_of" "rhythm_of" (defArgs s_rhythm_of) (defBody s_rhythm_of) (defScope s_rhythm_of) .none kV12 dc12 pm12 an12 cd12 ct12), sl12⟩)
    (c12 : PySem.W.codeIn K cd12 "rhythm_of" = true)
    (k12 : PySem.W.keepIn K (.ref f12) = true)
    (a13 : PySem.W.findIn K (.ref cCounts) "__init__" = some (some (.ref f13)))
    (i13 : PySem.W.isFn K (.ref f13) = true)
    (l13 : K.lookup f13 = some ⟨oc13, od13, .func (PySem.W.fnOf "__init__" "Counts.__init__" (defArgs s_Counts____init__) (defBody s_Counts____init__) (defScope s_Counts____init__) (.ref td13) kV13 dc13 pm13 an13 cd13 ct13), sl13⟩)
    (c13 : PySem.W.codeIn K cd13 "Counts.__init__" = true)
    (k13 : PySem.W.keepIn K (.ref f13) = true)
    (lt13 : K.lookup td13 = some ⟨otd13, dtd13, .seq #[.ref x13_0, .ref x13_1, .int 1 tk13_2] ntd13, stl13⟩)
    (lx13_0 : K.lookup x13_0 = some ⟨.type "tuple", ox13_0, .seq #[] nx13_0, sx13_0⟩)
    (lx13_1 : K.lookup x13_1 = some ⟨.type "tuple", ox13_1, .seq #[] nx13_1, sx13_1⟩)
    (a14 : PySem.W.findIn K (.ref cCounts) "start" = some (some (.ref pp14)))
    (g14 : PySem.W.specialIn K (.ref pp14) "__get__" = some (some (.builtin "property.__get__")))
    (t14 : PySem.W.takesIn K (.ref pp14) = some true)
    (r14 : PySem.W.recIn K pp14 "property" = some (.ref f14 :: rs14))
    (l14 : K.lookup f14 = some ⟨oc14, od14, .func (PySem.W.fnOf "start" "Counts.start" (defArgs s_Counts__start) (defBody s_Counts__start) (defScope s_Counts__start) .none kV14 dc14 pm14 an14 cd14 ct14), sl14⟩)
    (c14 : PySem.W.codeIn K cd14 "Counts.start" = true)
    (k14 : PySem.W.keepIn K (.ref f14) = true)
    (a15 : PySem.W.findIn K (.ref cCounts) "period" = some (some (.ref pp15)))
    (g15 : PySem.W.specialIn K (.ref pp15) "__get__" = some (some (.builtin "property.__get__")))
    (t15 : PySem.W.takesIn K (.ref pp15) = some true)
    (r15 : PySem.W.recIn K pp15 "property" = some (.ref f15 :: rs15))
    (l15 : K.lookup f15 = some ⟨oc15, od15, .func (PySem.W.fnOf "period" "Counts.period" (defArgs s_Counts__period) (defBody s_Counts__period) (defScope s_Counts__period) .none kV15 dc15 pm15 an15 cd15 ct15), sl15⟩)
    (c15 : PySem.W.codeIn K cd15 "Counts.period" = true)
    (k15 : PySem.W.keepIn K (.ref f15) = true)
    (a16 : PySem.W.findIn K (.ref cCounts) "members" = some (some (.ref pp16)))
    (g16 : PySem.W.specialIn K (.ref pp16) "__get__" = some (some (.builtin "property.__get__")))
    (t16 : PySem.W.takesIn K (.ref pp16) = some true)
    (r16 : PySem.W.recIn K pp16 "property" = some (.ref f16 :: rs16))
    (l16 : K.lookup f16 = some ⟨oc16, od16, .func (PySem.W.fnOf "members" "Counts.members" (defArgs s_Counts__members) (defBody s_Counts__members) (defScope s_Counts__members) .none kV16 dc16 pm16 an16 cd16 ct16), sl16⟩)
    (c16 : PySem.W.codeIn K cd16 "Counts.members" = true)
    (k16 : PySem.W.keepIn K (.ref f16) = true)
    (a17 : PySem.W.findIn K (.ref cCounts) "endless" = some (some (.ref pp17)))
    (g17 : PySem.W.specialIn K (.ref pp17) "__get__" = some (some (.builtin "property.__get__")))
    (t17 : PySem.W.takesIn K (.ref pp17) = some true)
    (r17 : PySem.W.recIn K pp17 "property" = some (.ref f17 :: rs17))
    (l17 : K.lookup f17 = some ⟨oc17, od17, .func (PySem.W.fnOf "endless" "Counts.endless" (defArgs s_Counts__endless) (defBody s_Counts__endless) (defScope s_Counts__endless) .none kV17 dc17 pm17 an17 cd17 ct17), sl17⟩)
    (c17 : PySem.W.codeIn K cd17 "Counts.endless" = true)
    (k17 : PySem.W.keepIn K (.ref f17) = true)
    (a18 : PySem.W.findIn K (.ref cCounts) "__eq__" = some (some (.ref f18)))
    (i18 : PySem.W.isFn K (.ref f18) = true)
    (l18 : K.lookup f18 = some ⟨oc18, od18, .func (PySem.W.fnOf "__eq__" "Counts.__eq__" (defArgs s_Counts____eq__) (defBody s_Counts____eq__) (defScope s_Counts____eq__) .none kV18 dc18 pm18 an18 cd18 ct18), sl18⟩)
    (c18 : PySem.W.codeIn K cd18 "Counts.__eq__" = true)
    (k18 : PySem.W.keepIn K (.ref f18) = true)
    (a19 : PySem.W.findIn K (.ref cCounts) "__str__" = some (some (.ref f19)))
    (i19 : PySem.W.isFn K (.ref f19) = true)
    (l19 : K.lookup f19 = some ⟨oc19, od19, .func (PySem.W.fnOf "__str__" "Counts.__str__" (defArgs s_Counts____str__) (defBody s_Counts____str__) (defScope s_Counts____str__) .none kV19 dc19 pm19 an19 cd19 ct19), sl19⟩)
    (c19 : PySem.W.codeIn K cd19 "Counts.__str__" = true)
    (k19 : PySem.W.keepIn K (.ref f19) = true)
    (a20 : PySem.W.findIn K (.ref cCounts) "__repr__" = some (some (.ref f20)))
    (i20 : PySem.W.isFn K (.ref f20) = true)
    (l20 : K.lookup f20 = some ⟨oc20, od20, .func (PySem.W.fnOf "__repr__" "Counts.__repr__" (defArgs s_Counts____repr__) (defBody s_Counts____repr__) (defScope s_Counts____repr__) .none kV20 dc20 pm20 an20 cd20 ct20), sl20⟩)
    (c20 : PySem.W.codeIn K cd20 "Counts.__repr__" = true)
    (k20 : PySem.W.keepIn K (.ref f20) = true)
    (a21 : PySem.W.nsIn K mainGlobals "_law_drawn" = some (some (.ref f21)))
    (l21 : K.lookup f21 = some ⟨oc21, od21, .func (PySem.W.fnOf "_law_drawn" "_law_drawn" (defArgs s__law_drawn) (defBody s__law_drawn) (defScope s__law_drawn) .none kV21 dc21 pm21 an21 cd21 ct21), sl21⟩)
    (c21 : PySem.W.codeIn K cd21 "_law_drawn" = true)
    (k21 : PySem.W.keepIn K (.ref f21) = true)
    (a22 : PySem.W.nsIn K mainGlobals "_law_due" = some (some (.ref f22)))
    (l22 : K.lookup f22 = some ⟨oc22, od22, .func (PySem.W.fnOf "_law_due" "_law_due" (defArgs s__law_due) (defBody s__law_due) (defScope s__law_due) .none kV22 dc22 pm22 an22 cd22 ct22), sl22⟩)
    (c22 : PySem.W.codeIn K cd22 "_law_due" = true)
    (k22 : PySem.W.keepIn K (.ref f22) = true)
    (a23 : PySem.W.nsIn K mainGlobals "_law_otherwise" = some (some (.ref f23)))
    (l23 : K.lookup f23 = some ⟨oc23, od23, .func (PySem.W.fnOf "_law_otherwise" "_law_otherwise" (defArgs s__law_otherwise) (defBody s__law_otherwise) (defScope s__law_otherwise) .none kV23 dc23 pm23 an23 cd23 ct23), sl23⟩)
    (c23 : PySem.W.codeIn K cd23 "_law_otherwise" = true)
    (k23 : PySem.W.keepIn K (.ref f23) = true)
    (a24 : PySem.W.nsIn K mainGlobals "_law_text" = some (some (.ref f24)))
    (l24 : K.lookup f24 = some ⟨oc24, od24, .func (PySem.W.fnOf "_law_text" "_law_text" (defArgs s__law_text) (defBody s__law_text) (defScope s__law_text) .none kV24 dc24 pm24 an24 cd24 ct24), sl24⟩)
    (c24 : PySem.W.codeIn K cd24 "_law_text" = true)
    (k24 : PySem.W.keepIn K (.ref f24) = true)
    (a25 : PySem.W.nsIn K mainGlobals "_law_right" = some (some (.ref f25)))
    (l25 : K.lookup f25 = some ⟨oc25, od25, .func (PySem.W.fnOf "_law_right" "_law_right" (defArgs s__law_right) (defBody s__law_right) (defScope s__law_right) .none kV25 dc25 pm25 an25 cd25 ct25), sl25⟩)
    (c25 : PySem.W.codeIn K cd25 "_law_right" = true)
    (k25 : PySem.W.keepIn K (.ref f25) = true)
    (a26 : PySem.W.nsIn K mainGlobals "law" = some (some (.ref f26)))
    (l26 : K.lookup f26 = some ⟨oc26, od26, .func (PySem.W.fnOf "law" "law" (defArgs s_law) (defBody s_law) (defScope s_law) .none kV26 dc26 pm26 an26 cd26 ct26), sl26⟩)
    (c26 : PySem.W.codeIn K cd26 "law" = true)
    (k26 : PySem.W.keepIn K (.ref f26) = true)
    (z_abs : PySem.W.nsIn K mainGlobals "abs" = some none)
    (z_all : PySem.W.nsIn K mainGlobals "all" = some none)
    (z_any : PySem.W.nsIn K mainGlobals "any" = some none)
    (z_bool : PySem.W.nsIn K mainGlobals "bool" = some none)
    (z_enumerate : PySem.W.nsIn K mainGlobals "enumerate" = some none)
    (z_int : PySem.W.nsIn K mainGlobals "int" = some none)
    (z_isinstance : PySem.W.nsIn K mainGlobals "isinstance" = some none)
    (z_len : PySem.W.nsIn K mainGlobals "len" = some none)
    (z_list : PySem.W.nsIn K mainGlobals "list" = some none)
    (z_max : PySem.W.nsIn K mainGlobals "max" = some none)
    (z_min : PySem.W.nsIn K mainGlobals "min" = some none)
    (z_range : PySem.W.nsIn K mainGlobals "range" = some none)
    (z_repr : PySem.W.nsIn K mainGlobals "repr" = some none)
    (z_set : PySem.W.nsIn K mainGlobals "set" = some none)
    (z_sorted : PySem.W.nsIn K mainGlobals "sorted" = some none)
    (z_str : PySem.W.nsIn K mainGlobals "str" = some none)
    (z_sum : PySem.W.nsIn K mainGlobals "sum" = some none)
    (z_tuple : PySem.W.nsIn K mainGlobals "tuple" = some none)
    (v_MOST_MEMBER : PySem.W.nsIn K mainGlobals "MOST_MEMBER" = some (some (.int 10000 t_MOST_MEMBER)))
    (v_MOST_PERIOD : PySem.W.nsIn K mainGlobals "MOST_PERIOD" = some (some (.int 1000 t_MOST_PERIOD)))
    (aR : PySem.W.findIn K (.ref cCounts) "_rhythm" = some none)
    (xcC : PySem.W.findIn K (.ref cCounts) "__class__" = some (some (.builtin "object.__class__")))
    (xn : PySem.W.specialIn K (.builtin "object.__class__") "__get__" = some (some (.builtin "getset_descriptor.__get__")))
    (xt : PySem.W.takesIn K (.builtin "object.__class__") = some true)
    (xmC : PySem.W.mroIn K cCounts (.type "object") = some true)
    (neC : PySem.W.findIn K (.ref cCounts) "__ne__" = some (some (.builtin "object.__ne__")))
    (nbC : PySem.W.findIn K (.ref cCounts) "__bool__" = some none)
    (nlC : PySem.W.findIn K (.ref cCounts) "__len__" = some none)
    (icC : PySem.W.isClsIn K cCounts = true)
    (tyC : PySem.W.typeIn K (.ref cCounts) = some (.type "type"))
    (nfC : PySem.W.notFirst K cCounts (.ref cCounts) = true)
    (sfC : PySem.W.selfFirst K cCounts = true)
    (kb_int : PySem.W.subIn K (.type "int") (.ref cCounts) = some false)
    (kb_bool : PySem.W.subIn K (.type "bool") (.ref cCounts) = some false)
    (kb_NoneType : PySem.W.subIn K (.type "NoneType") (.ref cCounts) = some false)
    (kb_str : PySem.W.subIn K (.type "str") (.ref cCounts) = some false)
    (kb_list : PySem.W.subIn K (.type "list") (.ref cCounts) = some false)
    (kb_tuple : PySem.W.subIn K (.type "tuple") (.ref cCounts) = some false)
    (kb_dict : PySem.W.subIn K (.type "dict") (.ref cCounts) = some false)
    (fb_int : PySem.W.notFirst K cCounts (.type "int") = true)
    (fb_bool : PySem.W.notFirst K cCounts (.type "bool") = true)
    (fb_NoneType : PySem.W.notFirst K cCounts (.type "NoneType") = true)
    (fb_str : PySem.W.notFirst K cCounts (.type "str") = true)
    (fb_list : PySem.W.notFirst K cCounts (.type "list") = true)
    (fb_tuple : PySem.W.notFirst K cCounts (.type "tuple") = true)
    (fb_dict : PySem.W.notFirst K cCounts (.type "dict") = true) :
    ∃ fd : FuncData, (∀ (s : Shared) (v : Value), BindsTo s fd ⟨[v], []⟩ [("script", v)]) ∧ ∀ base : Heap, K.In base → base.Ns mainGlobals mg → FG l.prog w K mg base CX0 10 fa fd ["script"] (spLaw K) := by
  have e := hfa.symm.trans (PySem.W.mg_of X G a26)
  cases e
  refine ⟨PySem.W.fnOf "law" "law" (defArgs s_law) (defBody s_law) (defScope s_law) .none kV26 dc26 pm26 an26 cd26 ct26, fun s v => .of_eq rfl, fun base _ _ => ?_⟩
  have clcCounts : Cls K cCounts := ⟨pgcCounts, hdcCounts, pocCounts, sacCounts⟩
  have F0 := fun_mk (st := s__law_purse) l0 c0 k0
  have b0 := F0.binds (ps := ["script", "k"]) fun _ _ _ _ _ _ us hl => match us, hl with | [_, _], _ => rfl
  have F1 := fun_mk (st := s__law_pick) l1 c1 k1
  have b1 := F1.binds (ps := ["purse", "many"]) fun _ _ _ _ _ _ us hl => match us, hl with | [_, _], _ => rfl
  have F2 := fun_mk (st := s_is_integer) l2 c2 k2
  have b2 := F2.binds (ps := ["value"]) fun _ _ _ _ _ _ us hl => match us, hl with | [_], _ => rfl
  have F3 := fun_mk (st := s_is_integer_within) l3 c3 k3
  have b3 := F3.binds (ps := ["value", "least", "most"]) fun _ _ _ _ _ _ us hl => match us, hl with | [_, _, _], _ => rfl
  have F4 := fun_mk (st := s_mask_of) l4 c4 k4
  have b4 := F4.binds (ps := ["length"]) fun _ _ _ _ _ _ us hl => match us, hl with | [_], _ => rfl
  have F5 := fun_mk (st := s_members_of) l5 c5 k5
  have b5 := F5.binds (ps := ["bits"]) fun _ _ _ _ _ _ us hl => match us, hl with | [_], _ => rfl
  have F6 := fun_mk (st := s_primes_of) l6 c6 k6
  have b6 := F6.binds (ps := ["number"]) fun _ _ _ _ _ _ us hl => match us, hl with | [_], _ => rfl
  have F7 := fun_mk (st := s_is_again_after) l7 c7 k7
  have b7 := F7.binds (ps := ["period", "bits", "shorter"]) fun _ _ _ _ _ _ us hl => match us, hl with | [_, _, _], _ => rfl
  have F8 := fun_mk (st := s_least_cycle) l8 c8 k8
  have b8 := F8.binds (ps := ["period", "bits"]) fun _ _ _ _ _ _ us hl => match us, hl with | [_, _], _ => rfl
  have F9 := fun_mk (st := s_stretched) l9 c9 k9
  have b9 := F9.binds (ps := ["cycle", "length"]) fun _ _ _ _ _ _ us hl => match us, hl with | [_, _], _ => rfl
  have F10 := fun_mk (st := s_least_rhythm) l10 c10 k10
  have b10 := F10.binds (ps := ["start", "period", "bits"]) fun _ _ _ _ _ _ us hl => match us, hl with | [_, _, _], _ => rfl
  have F11 := fun_mk (st := s_is_row_of_members) l11 c11 k11
  have b11 := F11.binds (ps := ["value"]) fun _ _ _ _ _ _ us hl => match us, hl with | [_], _ => rfl
  have F12 := fun_mk (st := s_rhythm_of) l12 c12 k12
  have b12 := F12.binds (ps := ["single", "again", "period"]) fun _ _ _ _ _ _ us hl => match us, hl with | [_, _, _], _ => rfl
  have F13 := funD_mk (st := s_Counts____init__) (dvs := [.ref x13_0, .ref x13_1, .int 1]) (its := [.ref x13_0, .ref x13_1, .int 1 tk13_2]) l13 c13 k13 (by simp) lt13 rfl (.cons rfl (.cons rfl (.cons ⟨_, rfl⟩ .nil)))
  have F14 := fun_mk (st := s_Counts__start) l14 c14 k14
  have b14 := F14.binds (ps := ["self"]) fun _ _ _ _ _ _ us hl => match us, hl with | [_], _ => rfl
  have F15 := fun_mk (st := s_Counts__period) l15 c15 k15
  have b15 := F15.binds (ps := ["self"]) fun _ _ _ _ _ _ us hl => match us, hl with | [_], _ => rfl
  have F16 := fun_mk (st := s_Counts__members) l16 c16 k16
  have b16 := F16.binds (ps := ["self"]) fun _ _ _ _ _ _ us hl => match us, hl with | [_], _ => rfl
  have F17 := fun_mk (st := s_Counts__endless) l17 c17 k17
  have b17 := F17.binds (ps := ["self"]) fun _ _ _ _ _ _ us hl => match us, hl with | [_], _ => rfl
  have F18 := fun_mk (st := s_Counts____eq__) l18 c18 k18
  have b18 := F18.binds (ps := ["self", "other"]) fun _ _ _ _ _ _ us hl => match us, hl with | [_, _], _ => rfl
  have F19 := fun_mk (st := s_Counts____str__) l19 c19 k19
  have b19 := F19.binds (ps := ["self"]) fun _ _ _ _ _ _ us hl => match us, hl with | [_], _ => rfl
  have F20 := fun_mk (st := s_Counts____repr__) l20 c20 k20
  have b20 := F20.binds (ps := ["self"]) fun _ _ _ _ _ _ us hl => match us, hl with | [_], _ => rfl
  have F21 := fun_mk (st := s__law_drawn) l21 c21 k21
  have b21 := F21.binds (ps := ["purse"]) fun _ _ _ _ _ _ us hl => match us, hl with | [_], _ => rfl
  have F22 := fun_mk (st := s__law_due) l22 c22 k22
  have b22 := F22.binds (ps := ["number", "one", "more", "by"]) fun _ _ _ _ _ _ us hl => match us, hl with | [_, _, _, _], _ => rfl
  have F23 := fun_mk (st := s__law_otherwise) l23 c23 k23
  have b23 := F23.binds (ps := ["purse", "one", "more", "by"]) fun _ _ _ _ _ _ us hl => match us, hl with | [_, _, _, _], _ => rfl
  have F24 := fun_mk (st := s__law_text) l24 c24 k24
  have b24 := F24.binds (ps := ["box"]) fun _ _ _ _ _ _ us hl => match us, hl with | [_], _ => rfl
  have F25 := fun_mk (st := s__law_right) l25 c25 k25
  have b25 := F25.binds (ps := ["purse"]) fun _ _ _ _ _ _ us hl => match us, hl with | [_], _ => rfl
  have F26 := fun_mk (st := s_law) l26 c26 k26
  have b26 := F26.binds (ps := ["script"]) fun _ _ _ _ _ _ us hl => match us, hl with | [_], _ => rfl
  have T : Txt mg := ⟨PySem.W.mg_none_of X G z_abs, PySem.W.mg_none_of X G z_all, PySem.W.mg_none_of X G z_any, PySem.W.mg_none_of X G z_bool, PySem.W.mg_none_of X G z_enumerate, PySem.W.mg_none_of X G z_int, PySem.W.mg_none_of X G z_isinstance, PySem.W.mg_none_of X G z_len, PySem.W.mg_none_of X G z_list, PySem.W.mg_none_of X G z_max, PySem.W.mg_none_of X G z_min, PySem.W.mg_none_of X G z_range, PySem.W.mg_none_of X G z_repr, PySem.W.mg_none_of X G z_set, PySem.W.mg_none_of X G z_sorted, PySem.W.mg_none_of X G z_str, PySem.W.mg_none_of X G z_sum, PySem.W.mg_none_of X G z_tuple, ⟨_, PySem.W.mg_of X G v_MOST_MEMBER⟩, ⟨_, PySem.W.mg_of X G v_MOST_PERIOD⟩⟩
  have OC : OwnC K cCounts := ⟨clcCounts, xcC, xn, xt, xmC, kit_self (by simp), fun T hT => by
    simp only [List.mem_cons, List.not_mem_nil, or_false] at hT
    rcases hT with rfl | rfl | rfl | rfl | rfl | rfl | rfl
    · exact kit_ref icC tyC rfl kb_int
    · exact kit_ref icC tyC rfl kb_bool
    · exact kit_ref icC tyC rfl kb_NoneType
    · exact kit_ref icC tyC rfl kb_str
    · exact kit_ref icC tyC rfl kb_list
    · exact kit_ref icC tyC rfl kb_tuple
    · exact kit_ref icC tyC rfl kb_dict
    , nfC, fun T hT => by
    simp only [List.mem_cons, List.not_mem_nil, or_false] at hT
    rcases hT with rfl | rfl | rfl | rfl | rfl | rfl | rfl
    · exact fb_int
    · exact fb_bool
    · exact fb_NoneType
    · exact fb_str
    · exact fb_list
    · exact fb_tuple
    · exact fb_dict
    , neC, nbC, nlC⟩
  have TC : TxC K cCounts mg := ⟨T, clcCounts, aR, sfC, PySem.W.mg_of X G ncCounts, OC⟩
  have G__law_purse : FG l.prog w K mg base CX0 1 f0 _ ["script", "k"] (spD K 2 g__law_purse) := ok__law_purse F0 T
  have C__law_purse : Cal l.prog w K mg base "_law_purse" 1 ["script", "k"] (spD K 2 g__law_purse) := ⟨⟨_, _, G__law_purse, PySem.W.mg_of X G a0, k0, b0⟩⟩
  have G__law_pick : FG l.prog w K mg base CX0 1 f1 _ ["purse", "many"] (spD K 2 g__law_pick) := ok__law_pick F1 T
  have C__law_pick : Cal l.prog w K mg base "_law_pick" 1 ["purse", "many"] (spD K 2 g__law_pick) := ⟨⟨_, _, G__law_pick, PySem.W.mg_of X G a1, k1, b1⟩⟩
  have G_is_integer : FG l.prog w K mg base CX0 1 f2 _ ["value"] (spD K 1 g_is_integer) := ok_is_integer F2 T
  have C_is_integer : Cal l.prog w K mg base "is_integer" 1 ["value"] (spD K 1 g_is_integer) := ⟨⟨_, _, G_is_integer, PySem.W.mg_of X G a2, k2, b2⟩⟩
  have G_is_integer_within : FG l.prog w K mg base CX0 2 f3 _ ["value", "least", "most"] (spD K 3 g_is_integer_within) := ok_is_integer_within F3 T C_is_integer
  have C_is_integer_within : Cal l.prog w K mg base "is_integer_within" 2 ["value", "least", "most"] (spD K 3 g_is_integer_within) := ⟨⟨_, _, G_is_integer_within, PySem.W.mg_of X G a3, k3, b3⟩⟩
  have G_mask_of : FG l.prog w K mg base CX0 1 f4 _ ["length"] (spD K 1 g_mask_of) := ok_mask_of F4 T
  have C_mask_of : Cal l.prog w K mg base "mask_of" 1 ["length"] (spD K 1 g_mask_of) := ⟨⟨_, _, G_mask_of, PySem.W.mg_of X G a4, k4, b4⟩⟩
  have G_members_of : FG l.prog w K mg base CX0 1 f5 _ ["bits"] (spD K 1 g_members_of) := ok_members_of F5 T
  have C_members_of : Cal l.prog w K mg base "members_of" 1 ["bits"] (spD K 1 g_members_of) := ⟨⟨_, _, G_members_of, PySem.W.mg_of X G a5, k5, b5⟩⟩
  have G_primes_of : FG l.prog w K mg base CX0 1 f6 _ ["number"] (spD K 1 g_primes_of) := ok_primes_of F6 T
  have C_primes_of : Cal l.prog w K mg base "primes_of" 1 ["number"] (spD K 1 g_primes_of) := ⟨⟨_, _, G_primes_of, PySem.W.mg_of X G a6, k6, b6⟩⟩
  have G_is_again_after : FG l.prog w K mg base CX0 2 f7 _ ["period", "bits", "shorter"] (spD K 3 g_is_again_after) := ok_is_again_after F7 T C_mask_of
  have C_is_again_after : Cal l.prog w K mg base "is_again_after" 2 ["period", "bits", "shorter"] (spD K 3 g_is_again_after) := ⟨⟨_, _, G_is_again_after, PySem.W.mg_of X G a7, k7, b7⟩⟩
  have G_least_cycle : FG l.prog w K mg base CX0 3 f8 _ ["period", "bits"] (spD K 2 g_least_cycle) := ok_least_cycle F8 T C_is_again_after C_mask_of C_primes_of
  have C_least_cycle : Cal l.prog w K mg base "least_cycle" 3 ["period", "bits"] (spD K 2 g_least_cycle) := ⟨⟨_, _, G_least_cycle, PySem.W.mg_of X G a8, k8, b8⟩⟩
  have G_stretched : FG l.prog w K mg base CX0 2 f9 _ ["cycle", "length"] (spD K 2 g_stretched) := ok_stretched F9 T C_mask_of
  have C_stretched : Cal l.prog w K mg base "stretched" 2 ["cycle", "length"] (spD K 2 g_stretched) := ⟨⟨_, _, G_stretched, PySem.W.mg_of X G a9, k9, b9⟩⟩
  have G_least_rhythm : FG l.prog w K mg base CX0 4 f10 _ ["start", "period", "bits"] (spD K 3 g_least_rhythm) := ok_least_rhythm F10 T C_least_cycle C_mask_of
  have C_least_rhythm : Cal l.prog w K mg base "least_rhythm" 4 ["start", "period", "bits"] (spD K 3 g_least_rhythm) := ⟨⟨_, _, G_least_rhythm, PySem.W.mg_of X G a10, k10, b10⟩⟩
  have G_is_row_of_members : FG l.prog w K mg base CX0 3 f11 _ ["value"] (spD K 1 g_is_row_of_members) := ok_is_row_of_members F11 T C_is_integer_within
  have C_is_row_of_members : Cal l.prog w K mg base "is_row_of_members" 3 ["value"] (spD K 1 g_is_row_of_members) := ⟨⟨_, _, G_is_row_of_members, PySem.W.mg_of X G a11, k11, b11⟩⟩
  have G_rhythm_of : FG l.prog w K mg base CX0 5 f12 _ ["single", "again", "period"] (spD K 3 g_rhythm_of) := ok_rhythm_of F12 T C_least_rhythm C_stretched
  have C_rhythm_of : Cal l.prog w K mg base "rhythm_of" 5 ["single", "again", "period"] (spD K 3 g_rhythm_of) := ⟨⟨_, _, G_rhythm_of, PySem.W.mg_of X G a12, k12, b12⟩⟩
  have G_Counts____init__ : FG l.prog w K mg base CX0 6 f13 _ ["self", "single", "again", "period"] (spD K 4 (g_Counts____init__ cCounts)) := ok_Counts____init__ (rp_tup0 lx13_0) (rp_tup0 lx13_1) F13 TC C_is_integer_within C_is_row_of_members C_rhythm_of
  have KD_Counts_3 : MkD l.prog w K mg base "Counts" cCounts 6 ["self", "single", "again", "period"] 3 [] _ (spD K 4 (g_Counts____init__ cCounts)) := mkD_of [(0, 0), (0, 1), (0, 2)] F13 G_Counts____init__ ⟨mkcCounts, a13, i13, kccCounts⟩ (PySem.W.mg_of X G ncCounts) (by simp) fun T kV doc pm an cdv ct us its ws h1 h2 h3 => match us, its, ws, h1, h2, h3 with | [_, _, _, _], [_, _, _], [], _, _, _ => ⟨_, rfl, rfl⟩
  have KD_Counts_0 : MkD l.prog w K mg base "Counts" cCounts 6 ["self", "single", "again", "period"] 0 [] _ (spD K 4 (g_Counts____init__ cCounts)) := mkD_of [(1, 0), (1, 1), (1, 2)] F13 G_Counts____init__ ⟨mkcCounts, a13, i13, kccCounts⟩ (PySem.W.mg_of X G ncCounts) (by simp) fun T kV doc pm an cdv ct us its ws h1 h2 h3 => match us, its, ws, h1, h2, h3 with | [_], [_, _, _], [], _, _, _ => ⟨_, rfl, rfl⟩
  have KD_Counts_1 : MkD l.prog w K mg base "Counts" cCounts 6 ["self", "single", "again", "period"] 1 [] _ (spD K 4 (g_Counts____init__ cCounts)) := mkD_of [(0, 0), (1, 1), (1, 2)] F13 G_Counts____init__ ⟨mkcCounts, a13, i13, kccCounts⟩ (PySem.W.mg_of X G ncCounts) (by simp) fun T kV doc pm an cdv ct us its ws h1 h2 h3 => match us, its, ws, h1, h2, h3 with | [_, _], [_, _, _], [], _, _, _ => ⟨_, rfl, rfl⟩
  have KD_Counts_2 : MkD l.prog w K mg base "Counts" cCounts 6 ["self", "single", "again", "period"] 2 [] _ (spD K 4 (g_Counts____init__ cCounts)) := mkD_of [(0, 0), (0, 1), (1, 2)] F13 G_Counts____init__ ⟨mkcCounts, a13, i13, kccCounts⟩ (PySem.W.mg_of X G ncCounts) (by simp) fun T kV doc pm an cdv ct us its ws h1 h2 h3 => match us, its, ws, h1, h2, h3 with | [_, _, _], [_, _, _], [], _, _, _ => ⟨_, rfl, rfl⟩
  have G_Counts__start : FG l.prog w K mg base CX0 1 f14 _ ["self"] (spD K 1 (g_Counts__start cCounts)) := ok_Counts__start F14 TC
  have P_Counts__start : PropD l.prog w K mg base cCounts "start" 1 (spD K 1 (g_Counts__start cCounts)) := ⟨⟨_, _, _, G_Counts__start, ⟨a14, g14, t14, ⟨_, r14⟩⟩, b14⟩⟩
  have G_Counts__period : FG l.prog w K mg base CX0 1 f15 _ ["self"] (spD K 1 (g_Counts__period cCounts)) := ok_Counts__period F15 TC
  have P_Counts__period : PropD l.prog w K mg base cCounts "period" 1 (spD K 1 (g_Counts__period cCounts)) := ⟨⟨_, _, _, G_Counts__period, ⟨a15, g15, t15, ⟨_, r15⟩⟩, b15⟩⟩
  have G_Counts__members : FG l.prog w K mg base CX0 2 f16 _ ["self"] (spD K 1 (g_Counts__members cCounts)) := ok_Counts__members F16 TC C_members_of
  have P_Counts__members : PropD l.prog w K mg base cCounts "members" 2 (spD K 1 (g_Counts__members cCounts)) := ⟨⟨_, _, _, G_Counts__members, ⟨a16, g16, t16, ⟨_, r16⟩⟩, b16⟩⟩
  have G_Counts__endless : FG l.prog w K mg base CX0 1 f17 _ ["self"] (spD K 1 (g_Counts__endless cCounts)) := ok_Counts__endless F17 TC
  have P_Counts__endless : PropD l.prog w K mg base cCounts "endless" 1 (spD K 1 (g_Counts__endless cCounts)) := ⟨⟨_, _, _, G_Counts__endless, ⟨a17, g17, t17, ⟨_, r17⟩⟩, b17⟩⟩
  have G_Counts____eq__ : FG l.prog w K mg base CX0 1 f18 _ ["self", "other"] (spD K 2 (g_Counts____eq__ cCounts)) := ok_Counts____eq__ F18 TC
  have E_Counts____eq__ : EqG l.prog w K mg base cCounts 1 (spD K 2 (g_Counts____eq__ cCounts)) := ⟨⟨_, _, G_Counts____eq__, a18, i18, b18⟩⟩
  have G_Counts____str__ : FG l.prog w K mg base CX0 4 f19 _ ["self"] (spD K 1 (g_Counts____str__ cCounts)) := ok_Counts____str__ F19 TC P_Counts__endless P_Counts__members P_Counts__period P_Counts__start
  have S_Counts____str__ : StG l.prog w K mg base cCounts 4 (spD K 1 (g_Counts____str__ cCounts)) := ⟨⟨_, _, G_Counts____str__, a19, i19, b19⟩⟩
  have G_Counts____repr__ : FG l.prog w K mg base CX0 7 f20 _ ["self"] (spD K 1 (g_Counts____repr__ cCounts)) := ok_Counts____repr__ F20 TC S_Counts____str__
  have R_Counts____repr__ : ReG l.prog w K mg base cCounts 7 (spD K 1 (g_Counts____repr__ cCounts)) := ⟨⟨_, _, G_Counts____repr__, a20, i20, b20⟩⟩
  have G__law_drawn : FG l.prog w K mg base CX0 2 f21 _ ["purse"] (spD K 1 g__law_drawn) := ok__law_drawn F21 T C__law_pick
  have C__law_drawn : Cal l.prog w K mg base "_law_drawn" 2 ["purse"] (spD K 1 g__law_drawn) := ⟨⟨_, _, G__law_drawn, PySem.W.mg_of X G a21, k21, b21⟩⟩
  have G__law_due : FG l.prog w K mg base CX0 1 f22 _ ["number", "one", "more", "by"] (spD K 4 g__law_due) := ok__law_due F22 T
  have C__law_due : Cal l.prog w K mg base "_law_due" 1 ["number", "one", "more", "by"] (spD K 4 g__law_due) := ⟨⟨_, _, G__law_due, PySem.W.mg_of X G a22, k22, b22⟩⟩
  have G__law_otherwise : FG l.prog w K mg base CX0 8 f23 _ ["purse", "one", "more", "by"] (spD K 4 (g__law_otherwise cCounts)) := ok__law_otherwise (rp_tup0 lx13_0) (rp_tup0 lx13_1) F23 TC C__law_pick KD_Counts_3
  have C__law_otherwise : Cal l.prog w K mg base "_law_otherwise" 8 ["purse", "one", "more", "by"] (spD K 4 (g__law_otherwise cCounts)) := ⟨⟨_, _, G__law_otherwise, PySem.W.mg_of X G a23, k23, b23⟩⟩
  have G__law_text : FG l.prog w K mg base CX0 4 f24 _ ["box"] (spD K 1 (g__law_text cCounts)) := ok__law_text F24 TC P_Counts__endless P_Counts__members P_Counts__period P_Counts__start
  have C__law_text : Cal l.prog w K mg base "_law_text" 4 ["box"] (spD K 1 (g__law_text cCounts)) := ⟨⟨_, _, G__law_text, PySem.W.mg_of X G a24, k24, b24⟩⟩
  have G__law_right : FG l.prog w K mg base CX0 9 f25 _ ["purse"] (spD K 1 (g__law_right cCounts)) := ok__law_right (rp_tup0 lx13_0) (rp_tup0 lx13_1) F25 TC P_Counts__members C__law_drawn C__law_due C__law_otherwise C__law_pick C__law_text E_Counts____eq__ KD_Counts_3 R_Counts____repr__ S_Counts____str__
  have C__law_right : Cal l.prog w K mg base "_law_right" 9 ["purse"] (spD K 1 (g__law_right cCounts)) := ⟨⟨_, _, G__law_right, PySem.W.mg_of X G a25, k25, b25⟩⟩
  have G_law : FG l.prog w K mg base CX0 10 _ _ ["script"] (spD K 1 (g_law cCounts)) := ok_law (rp_tup0 lx13_0) (rp_tup0 lx13_1) F26 TC C__law_purse C__law_right KD_Counts_0 KD_Counts_1 KD_Counts_2 KD_Counts_3 R_Counts____repr__ S_Counts____str__
  exact G_law.weak fun vs H Q E q => q cCounts
end Lk
open PySem PySem.W PyProof.Rows
set_option maxRecDepth 100000 in
set_option maxHeartbeats 0 in
theorem PySem.Challenge.cw_overlapturns_k51_texts_and_equality_of_c_holds : PySem.Challenge.rw_overlapturns_k51_texts_and_equality_of_c.Holds := by
  w_on; o_law; k_head; (case hw => w_witness2)
  k_fill
  refine G.walk_g (l := PySem.Challenge.rw_overlapturns_k51_texts_and_equality_of_c) (n := 63) (k := 10) (x := "script") (sp := Lk.spLaw) rfl (by decide) rfl ⟨rfl, by decide, by decide⟩ (fun w h Y => PySem.W.kIn_of Y) ?F (fun K H a ns hl q => Lk.law_true K H a ns hl q)
  case F =>
    intro w mg fa h KX G hmg
    refine' Lk.all_mk KX G hmg ?ncCounts ?pgcCounts ?hdcCounts ?pocCounts ?sacCounts ?mkcCounts ?kccCounts ?a0 ?l0 ?c0 ?k0 ?a1 ?l1 ?c1 ?k1 ?a2 ?l2 ?c2 ?k2 ?a3 ?l3 ?c3 ?k3 ?a4 ?l4 ?c4 ?k4 ?a5 ?l5 ?c5 ?k5 ?a6 ?l6 ?c6 ?k6 ?a7 ?l7 ?c7 ?k7 ?a8 ?l8 ?c8 ?k8 ?a9 ?l9 ?c9 ?k9 ?a10 ?l10 ?c10 ?k10 ?a11 ?l11 ?c11 ?k11 ?a12 ?l12 ?c12 ?k12 ?a13 ?i13 ?l13 ?c13 ?k13 ?lt13 ?lx13_0 ?lx13_1 ?a14 ?g14 ?t14 ?r14 ?l14 ?c14 ?k14 ?a15 ?g15 ?t15 ?r15 ?l15 ?c15 ?k15 ?a16 ?g16 ?t16 ?r16 ?l16 ?c16 ?k16 ?a17 ?g17 ?t17 ?r17 ?l17 ?c17 ?k17 ?a18 ?i18 ?l18 ?c18 ?k18 ?a19 ?i19 ?l19 ?c19 ?k19 ?a20 ?i20 ?l20 ?c20 ?k20 ?a21 ?l21 ?c21 ?k21 ?a22 ?l22 ?c22 ?k22 ?a23 ?l23 ?c23 ?k23 ?a24 ?l24 ?c24 ?k24 ?a25 ?l25 ?c25 ?k25 ?a26 ?l26 ?c26 ?k26 ?z_abs ?z_all ?z_any ?z_bool ?z_enumerate ?z_int ?z_isinstance ?z_len ?z_list ?z_max ?z_min ?z_range ?z_repr ?z_set ?z_sorted ?z_str ?z_sum ?z_tuple ?v_MOST_MEMBER ?v_MOST_PERIOD ?aR ?xcC ?xn ?xt ?xmC ?neC ?nbC ?nlC ?icC ?tyC ?nfC ?sfC ?kb_int ?kb_bool ?kb_NoneType ?kb_str ?kb_list ?kb_tuple ?kb_dict ?fb_int ?fb_bool ?fb_NoneType ?fb_str ?fb_list ?fb_tuple ?fb_dict
    (case ncCounts => k_is); (case pgcCounts => k_is); (case hdcCounts => k_is); (case pocCounts => k_is); (case sacCounts => k_is); (case mkcCounts => k_is)
    (case kccCounts => k_is); (case a0 => k_is); (case l0 => k_is); (case c0 => k_is); (case k0 => k_is); (case a1 => k_is)
    (case l1 => k_is); (case c1 => k_is); (case k1 => k_is); (case a2 => k_is); (case l2 => k_is); (case c2 => k_is)
    (case k2 => k_is); (case a3 => k_is); (case l3 => k_is); (case c3 => k_is); (case k3 => k_is); (case a4 => k_is)
    (case l4 => k_is); (case c4 => k_is); (case k4 => k_is); (case a5 => k_is); (case l5 => k_is); (case c5 => k_is)
    (case k5 => k_is); (case a6 => k_is); (case l6 => k_is); (case c6 => k_is); (case k6 => k_is); (case a7 => k_is)
    (case l7 => k_is); (case c7 => k_is); (case k7 => k_is); (case a8 => k_is); (case l8 => k_is); (case c8 => k_is)
    (case k8 => k_is); (case a9 => k_is); (case l9 => k_is); (case c9 => k_is); (case k9 => k_is); (case a10 => k_is)
    (case l10 => k_is); (case c10 => k_is); (case k10 => k_is); (case a11 => k_is); (case l11 => k_is); (case c11 => k_is)
    (case k11 => k_is); (case a12 => k_is); (case l12 => k_is); (case c12 => k_is); (case k12 => k_is); (case a13 => k_is)
    (case i13 => k_is); (case l13 => k_is); (case c13 => k_is); (case k13 => k_is); (case lt13 => k_is); (case lx13_0 => k_is)
    (case lx13_1 => k_is); (case a14 => k_is); (case g14 => k_is); (case t14 => k_is); (case r14 => k_is); (case l14 => k_is)
    (case c14 => k_is); (case k14 => k_is); (case a15 => k_is); (case g15 => k_is); (case t15 => k_is); (case r15 => k_is)
    (case l15 => k_is); (case c15 => k_is); (case k15 => k_is); (case a16 => k_is); (case g16 => k_is); (case t16 => k_is)
    (case r16 => k_is); (case l16 => k_is); (case c16 => k_is); (case k16 => k_is); (case a17 => k_is); (case g17 => k_is)
    (case t17 => k_is); (case r17 => k_is); (case l17 => k_is); (case c17 => k_is); (case k17 => k_is); (case a18 => k_is)
    (case i18 => k_is); (case l18 => k_is); (case c18 => k_is); (case k18 => k_is); (case a19 => k_is); (case i19 => k_is)
    (case l19 => k_is); (case c19 => k_is); (case k19 => k_is); (case a20 => k_is); (case i20 => k_is); (case l20 => k_is)
    (case c20 => k_is); (case k20 => k_is); (case a21 => k_is); (case l21 => k_is); (case c21 => k_is); (case k21 => k_is)
    (case a22 => k_is); (case l22 => k_is); (case c22 => k_is); (case k22 => k_is); (case a23 => k_is); (case l23 => k_is)
    (case c23 => k_is); (case k23 => k_is); (case a24 => k_is); (case l24 => k_is); (case c24 => k_is); (case k24 => k_is)
    (case a25 => k_is); (case l25 => k_is); (case c25 => k_is); (case k25 => k_is); (case a26 => k_is); (case l26 => k_is)
    (case c26 => k_is); (case k26 => k_is); (case z_abs => k_is); (case z_all => k_is); (case z_any => k_is); (case z_bool => k_is)
    (case z_enumerate => k_is); (case z_int => k_is); (case z_isinstance => k_is); (case z_len => k_is); (case z_list => k_is); (case z_max => k_is)
    (case z_min => k_is); (case z_range => k_is); (case z_repr => k_is); (case z_set => k_is); (case z_sorted => k_is); (case z_str => k_is)
    (case z_sum => k_is); (case z_tuple => k_is); (case v_MOST_MEMBER => k_is); (case v_MOST_PERIOD => k_is); (case aR => k_is); (case xcC => k_is)
    (case xn => k_is); (case xt => k_is); (case xmC => k_is); (case neC => k_is); (case nbC => k_is); (case nlC => k_is)
    (case icC => k_is); (case tyC => k_is); (case nfC => k_is); (case sfC => k_is); (case kb_int => k_is); (case kb_bool => k_is)
    (case kb_NoneType => k_is); (case kb_str => k_is); (case kb_list => k_is); (case kb_tuple => k_is); (case kb_dict => k_is); (case fb_int => k_is)
    (case fb_bool => k_is); (case fb_NoneType => k_is); (case fb_str => k_is); (case fb_list => k_is); (case fb_tuple => k_is); (case fb_dict => k_is)
