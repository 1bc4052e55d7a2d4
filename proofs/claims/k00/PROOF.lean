import PyProof.Rows.All
import Wide.All
import OpenK.AllK
import Wide.FinOn
import PyProof.EqAt
import PyProof.EqKinds
import PyProof.TupleCall
import HandS.Base
import HandS.Call
import HandS.List
import HandS.Ends
import HandS.Exc
import HandS.TryOnly
import HandS.ExcOwn
import HandS.Words
import HandS.WordsList
import HandS.ForMost
import HandS.WordsExc
import HandS.Wide
import HandS.TupAny
import HandS.IsInst
import HandS.ExcInit
import HandS.ExcValue
import HandS.ExcIs
import HandS.ExcField
import HandS.TryMany
import HandS.RaiseMore
import HandS.NoneIn
import KE.KExcInit
import KE.KExcIs
import KE.KExcStr
import PyProof.Rows.FactsExc_KeyError
import HandS.ExcCtx
import PySem.Challenge.RW_caseflow_k00_errors
set_option Elab.async false
set_option linter.all false
set_option maxRecDepth 100000
set_option maxHeartbeats 2000000
/-! Calls where no repr is under way: the promise of a def FnG (as FnOk, with the guards known), its call, the end of a law. -/
namespace L2
open PySem PySem.Spec PyProof.Rows

structure RoomG (k : Nat) (A : Around) : Prop where
  r : Room k A
  g : A.guards = some []
theorem RoomG.mono {j k : Nat} {A : Around} (r : RoomG k A) (h : j ≤ k) : RoomG j A := ⟨r.r.mono h, r.g⟩
theorem RoomG.deeper {k : Nat} {A : Around} (r : RoomG (k + 1) A) (env : Env) : RoomG k (A.deeper env) := ⟨r.r.deeper env, r.g⟩

structure FnG (P : Program) (w : World) (K : PySem.W.Frag) (mg : Str → Option Value) (base : Heap) (CX : CXT) (k : Nat) (f : Addr) (fd : FuncData) (ps : List Str) (sp : Sp) : Prop where
  len : ∀ vs H Q E, sp vs H Q E → vs.length = ps.length
  run : ∀ (A : Around) (outer : List Env) (s : Shared) (H : Hp) (args : Args) (us : List Value) (vs : List V) (Q : VK) (E : XK), RoomG k A → Env0 P w K mg base A outer s H → BindsTo s fd args (ps.zip us) → Vals vs us → sp vs H Q E →
    codeAny (model P w) A (.call (.ref f) args) (CR CX outer P w H s Q E) s
theorem FnG.of {P : Program} {w : World} {K : PySem.W.Frag} {mg : Str → Option Value} {base : Heap} {CX : CXT} {k : Nat} {f : Addr} {fd : FuncData} {ps : List Str} {sp : Sp} (F : FnOk P w K mg base CX k f fd ps sp) : FnG P w K mg base CX k f fd ps sp :=
  ⟨F.len, fun A outer s H args us vs Q E hr => F.run A outer s H args us vs Q E hr.r⟩
theorem FnG.mono {P : Program} {w : World} {K : PySem.W.Frag} {mg : Str → Option Value} {base : Heap} {CX : CXT} {j k : Nat} {f : Addr} {fd : FuncData} {ps : List Str} {sp : Sp} (F : FnG P w K mg base CX j f fd ps sp) (h : j ≤ k) :
    FnG P w K mg base CX k f fd ps sp := ⟨F.len, fun A outer s H args us vs Q E hr => F.run A outer s H args us vs Q E (hr.mono h)⟩

section
variable {X : Cx} {CX : CXT} {k : Nat} {f C : Addr} {fd : FuncData} {ps : List Str} {sp : Sp} {dvs : List V} {ds : List Value} {E : XK} {x m : Str} {p pos apos : Pos} {e o : Expr} {es : List Expr} {ta : TE} {t : TA}
theorem run_fnG {pins : List (Addr × Obj)} {σ : St} {H : Hp} {s : Shared} {Q : VK} {us : List Value} {vs : List V} (F : FnG X.prog X.w X.K X.mg X.base CX k f fd ps sp) (hr : RoomG k X.A) (hb : Binds X.K fd ps ds) (hd : Vals dvs ds) (hx : Passes CX X E)
    (I : Inv X pins σ H s) (r : Vals vs us) (h : sp (vs ++ dvs) H Q E) : wpAny (model X.prog X.w) X.A (call (.ref f) us) (EP X pins σ Q) X.xe s := by
  have r2 : Vals (vs ++ dvs) (us ++ ds) := r.append hd
  have hl : (us ++ ds).length = ps.length := by rw [← r2.length]; exact F.len _ _ _ _ h
  refine wpAny_call (codeAny_mono (F.run X.A X.stack s H ⟨us, []⟩ (us ++ ds) (vs ++ dvs) Q E hr I.env0 (hb s us I.kIn hl) r2 h) fun r s' hq => ?_)
  cases r with
  | error e => exact hx pins σ H s e s' I hq
  | ok fl =>
    cases fl with
    | ret u => exact I.after hq
    | next => exact False.elim hq
    | brk => exact False.elim hq
    | cont => exact False.elim hq
theorem pe_callG (F : FnG X.prog X.w X.K X.mg X.base CX k f fd ps sp) (hr : RoomG k X.A) (hg : Gl X x) (hm : X.mg x = some (.ref f)) (hk : PySem.W.keepIn X.K (.ref f) = true) (hb : Binds X.K fd ps ds) (hd : Vals dvs ds) (hx : Passes CX X E)
    (ha : PA X (e :: es) t) (hdb : (x == ("__debug__" : Str)) = false := by decide) (he : starEach (e :: es) X.env = (false, eval e X.env) :: starEach es X.env := by rfl) (hpl : (backTo pos (starEach es X.env)).any (·.1) = false := by rfl) :
    PE X (.Call (.Name x p) (e :: es) [] pos) (tCall sp dvs E t) := by
  refine ⟨fun pins s σ H Q I h => ?_⟩
  refine wpAny_Call_Name_kw (ld_glob I hg hm ?_ hdb)
  refine PySem.W.callWith_K (h₀ := X.base) I.ok.mod.kin hk (thn (ha.run pos pins s σ H _ I h) fun us s1 ⟨vs, H1, I1, r, q⟩ => ⟨I1.kIn, ?_⟩) he hpl
  exact run_fnG F hr hb hd hx I1 r q
theorem pe_call0G (F : FnG X.prog X.w X.K X.mg X.base CX k f fd ps sp) (hr : RoomG k X.A) (hg : Gl X x) (hm : X.mg x = some (.ref f)) (hk : PySem.W.keepIn X.K (.ref f) = true) (hb : Binds X.K fd ps ds) (hd : Vals dvs ds) (hx : Passes CX X E)
    (hdb : (x == ("__debug__" : Str)) = false := by decide) : PE X (.Call (.Name x p) [] [] pos) (tCall sp dvs E tNil) := by
  refine ⟨fun pins s σ H Q I h => ?_⟩
  refine wpAny_Call_Name_kw (ld_glob I hg hm ?_ hdb)
  exact PySem.W.callWith_K0 I.kIn hk (run_fnG (us := []) F hr hb hd hx I .nil h)
end

theorem fn_ofG {CX : CXT} {P : Program} {w : World} {K : PySem.W.Frag} {mg : Str → Option Value} {base : Heap} {k : Nat} {f : Addr} {name qual : Str} {params : Arguments} {body : List Stmt} {scope : Scope} {dV kV doc pm cdv ct oc : Value} {an od : Option Addr}
    {osl : Array (Option Value)} {N ps : List Str} {sp : Sp} (lk : K.lookup f = some ⟨oc, od, .func (PySem.W.fnOf name qual params body scope dV kV doc pm an cdv ct), osl⟩) (hcd : PySem.W.codeIn K cdv qual = true) (S : FnScope N ps scope)
    (len : ∀ vs H Q E, sp vs H Q E → vs.length = ps.length)
    (hbody : ∀ (A : Around) (outer : List Env) (s : Shared) (H : Hp) (vs : List V) (Q : VK) (E : XK), RoomG k (A.deeper (envOfC qual scope s.heap.objs.size f cdv)) → sp vs H Q E →
      ∃ t, PSs (cxOf CX P w K mg base N qual scope f cdv A outer s H E) body t ∧ t { nx := fun _ H' => Q .non H', rt := Q } (start N vs) H) :
    FnG P w K mg base CX (k + 1) f (PySem.W.fnOf name qual params body scope dV kV doc pm an cdv ct) ps sp := by
  refine ⟨len, fun A outer s H args us vs Q E hr e0 hb r hsp => ?_⟩
  have hl := len _ _ _ _ hsp
  have KX : K.In s.heap := e0.mod.kin.keeps fun b o e => (e0.bs b o e).1
  have lim : s.heap.NoLimit := e0.mod.nolimit.keeps fun b o e => (e0.bs b o e).1
  have hkind : ∀ y ∈ ps.zip us, scope.names.lookup y.1 = some .local ∨ (scope.names.lookup y.1 = some .cell ∧ ((cellsFrom (s.heap.objs.size + 1) scope.names []).lookup y.1).isSome = true) := fun ⟨n, v⟩ hy => by
    rcases S.par n (List.of_mem_zip hy).1 with q | q
    · exact .inl q
    · exact .inr ⟨q, PySem.W.cellsFrom_some _ _ _ (.inl q)⟩
  refine codeAny_call_function hr.r.depth (KX _ _ lk) rfl S.co S.gen rfl (PySem.W.codeRec_of KX hcd) (hb _ _ _ _ ?_)
  refine wpAny_newFunctionEnv_cells S.kind hkind fun env he s1 x => ?_
  subst he
  refine ⟨lim.keeps x.toInCall.keep, codeAny_func ?_⟩
  obtain ⟨t, ht, hq⟩ := hbody A outer s H vs Q E (hr.deeper _) hsp
  have I : Inv (cxOf CX P w K mg base N qual scope f cdv A outer s H E) [] (start N vs) H s1 := inv_start S hr.r.hd e0 hl r x
  refine wpAny_mono (ht.run [] s1 (start N vs) H _ I hq) (fun fl s' hs => ?_) fun e s' hs => hs
  have fin : ∀ {σ' : St} {H' : Hp} {v : V} {u : Value}, Inv (cxOf CX P w K mg base N qual scope f cdv A outer s H E) [] σ' H' s' → RelV v u → Q v H' → CE outer P w H s Q u s' :=
    fun {σ' H' v u} J rv q => ⟨v, H', J.os, J.bare, J.base, J.hok, rv, q⟩
  cases fl with
  | ret u =>
    obtain ⟨v, σ', H', J, rv, q⟩ := hs
    exact fin J rv q
  | next =>
    obtain ⟨σ', H', J, q⟩ := hs
    exact fin (v := V.non) (u := Value.none) J rfl q
  | brk =>
    obtain ⟨_, _, _, q⟩ := hs
    exact False.elim q
  | cont =>
    obtain ⟨_, _, _, q⟩ := hs
    exact False.elim q

section
variable {P : Program} {w : World} {K : PySem.W.Frag} {mg : Str → Option Value} {base : Heap}
theorem okG {x qual : Str} {st : Stmt} {f : Addr} {fd : FuncData} {N ps : List Str} {k : Nat} {sp : Sp} (F : Fun K x qual st f fd) (S : FnScope N ps (defScope st)) (len : ∀ vs H Q E, sp vs H Q E → vs.length = ps.length)
    (hbody : ∀ (cdv : Value) (A : Around) (outer : List Env) (s : Shared) (H : Hp) (vs : List V) (Q : VK) (E : XK), RoomG k (A.deeper (envOfC qual (defScope st) s.heap.objs.size f cdv)) → sp vs H Q E →
      ∃ t, PSs (cxOf CX0 P w K mg base N qual (defScope st) f cdv A outer s H E).nox (defBody st) t ∧ t { nx := fun _ H' => Q .non H', rt := Q } (start N vs) H) : FnG P w K mg base CX0 (k + 1) f fd ps sp := by
  obtain ⟨oc, od, kV, doc, pm, an, cdv, ct, osl, rfl, lk, hcd⟩ := F.ex
  refine fn_ofG lk hcd S len fun A outer s H vs Q E hr hsp => ?_
  obtain ⟨t, h, q⟩ := hbody cdv A outer s H vs Q E hr hsp
  exact ⟨t, h.nox, q⟩
theorem okGX {x qual : Str} {st : Stmt} {f : Addr} {fd : FuncData} {N ps : List Str} {k : Nat} {sp : Sp} (F : Fun K x qual st f fd) (S : FnScope N ps (defScope st)) (len : ∀ vs H Q E, sp vs H Q E → vs.length = ps.length)
    (hbody : ∀ (cdv : Value) (A : Around) (outer : List Env) (s : Shared) (H : Hp) (vs : List V) (Q : VK) (E : XK), RoomG k (A.deeper (envOfC qual (defScope st) s.heap.objs.size f cdv)) → sp vs H Q E →
      ∃ t, PSs (cxOf (L2.CX P w) P w K mg base N qual (defScope st) f cdv A outer s H E) (defBody st) t ∧ t { nx := fun _ H' => Q .non H', rt := Q } (start N vs) H) : FnG P w K mg base (L2.CX P w) (k + 1) f fd ps sp := by
  obtain ⟨oc, od, kV, doc, pm, an, cdv, ct, osl, rfl, lk, hcd⟩ := F.ex
  exact fn_ofG lk hcd S len fun A outer s H vs Q E hr hsp => hbody cdv A outer s H vs Q E hr hsp
end

theorem law_callG {P : Program} {w : World} {K : PySem.W.Frag} {mg mb : Str → Option Value} {CX : CXT} {k : Nat} {fa a : Addr} {fd : FuncData} {x : Str} {sp : Sp} {s₁ : Shared} {vs : List Value} {ns : List Int}
    (KX : K.In s₁.heap) (hns : s₁.heap.Ns mainGlobals mg) (hb : s₁.heap.Ns builtinsNs mb) (hbb : ∀ x : Str, x ≠ "__name__" → mb x = bootBuiltins x) (hlim : s₁.heap.NoLimit) (hg : s₁.gens = #[])
    (ha : s₁.heap.get? a = some { cls := .type "list", data := .seq vs.toArray }) (hi : IntsAre vs ns) (hl : ns.length ≤ sizeLine) (hr : Room k callerA)
    (F : ∀ base : Heap, K.In base → base.Ns mainGlobals mg → FnG P w K mg base CX k fa fd [x] sp) (hbind : ∀ (s : Shared) (u : Value), BindsTo s fd ⟨[u], []⟩ [(x, u)])
    (hsp : ∀ H : Hp, Only H → SqL K H a (ns.map V.int) → sp [.ref a] H (fun v _ => v = .bl true) fun _ _ _ => False)
    (hCX : ∀ H e s', CX [] H s₁ (fun _ _ _ => False) e s' → False) :
    codeAny (model P w) callerA (.call (.ref fa) ⟨[.ref a], []⟩) (fun r s' => r = .ok (.ret (.bool true)) ∧ OldK s₁.heap s'.heap ∧ s'.os = s₁.os ∧ AllBare s'.gens) s₁ := by
  have rv := vals_ints hi
  have lenV := hi.length
  have core : ∀ H : Hp, Only H → SqL K H a (ns.map V.int) → HOk P w H s₁.heap → (∀ b, H b ≠ none → b = a) → (H a ≠ none → K.lookup a = none) →
      codeAny (model P w) callerA (.call (.ref fa) ⟨[.ref a], []⟩) (fun r s' => r = .ok (.ret (.bool true)) ∧ OldK s₁.heap s'.heap ∧ s'.os = s₁.os ∧ AllBare s'.gens) s₁ := by
    intro H hO hS hok hA hK
    have base_of : ∀ {b : Addr} {o : Obj}, s₁.heap.get? b = some o → H b = none → (hidT s₁.heap H).get? b = some o := fun e n => hidT_get e n
    have noA : ∀ {b : Addr} {o : Obj} {es : Array DictEntry} {ep : Nat}, s₁.heap.get? b = some o → o.data = .dict es ep → H b = none := fun {b o es ep} e d => by
      cases q : H b with
      | none => rfl
      | some u =>
        have e' : b = a := hA b (by rw [q]; simp)
        subst e'
        rw [ha] at e; cases e
        have d' : Data.seq vs.toArray _ = Data.dict es ep := d
        cases d'
    have nsK : ∀ {b : Addr} {m : Str → Option Value}, s₁.heap.Ns b m → (hidT s₁.heap H).Ns b m := fun {b m} ⟨o, es, ep, e, d, r⟩ => ⟨o, es, ep, base_of e (noA e d), d, r⟩
    have hKb : K.In (hidT s₁.heap H) := fun b o e => base_of (KX b o e) (by
      cases q : H b with
      | none => rfl
      | some u =>
        have e' : b = a := hA b (by rw [q]; simp)
        subst e'
        rw [hK (by rw [q]; simp)] at e; cases e)
    have hM : Mod K mg (hidT s₁.heap H) := ⟨hKb, nsK hns, ⟨mb, nsK hb, hbb⟩, let ⟨mc, h1, h2⟩ := hlim; ⟨mc, nsK h1, h2⟩⟩
    have e0 : Env0 P w K mg (hidT s₁.heap H) callerA [] s₁ H := ⟨rfl, hM, fun b o e => of_hidT e, Nat.le_of_eq (hidT_size _ _), trivial, fun b hb => absurd (show b ∈ ([] : List Addr) from hb) (by simp), hok, .of_eq hg⟩
    refine codeAny_mono ((F _ hKb (nsK hns)).run callerA [] s₁ H ⟨[.ref a], []⟩ [.ref a] [.ref a] _ _ ⟨hr, rfl⟩ e0 (hbind s₁ (.ref a)) (.cons rfl .nil) (hsp H hO hS)) fun r s' h => ?_
    cases r with
    | error e => exact (hCX H e s' h).elim
    | ok fl =>
      cases fl with
      | next => exact False.elim h
      | brk => exact False.elim h
      | cont => exact False.elim h
      | ret u =>
        obtain ⟨v, H', os, bare, un, hok', r', q⟩ := h
        have q' : v = .bl true := q
        subst q'
        obtain rfl : u = Value.bool true := r'
        refine ⟨rfl, OldK.of_keep fun b o e => ?_, os, bare⟩
        cases q : H b with
        | none => exact un.keep b o e q (by intro z; exact absurd (show b ∈ ([] : List Addr) from z) (by simp)) (by simp)
        | some u =>
          rcases hO b with z | ⟨ob, xs, z⟩
          · rw [q] at z; cases z
          · have z2 := un.frzs b ob _ z
            obtain ⟨e1, _⟩ := hok b _ z
            obtain ⟨e2, _⟩ := hok' b _ z2
            rw [e] at e1; cases e1
            exact e2
  cases hk : K.lookup a with
  | some o =>
    have e := KX a o hk
    rw [ha] at e
    cases e
    refine core (fun _ => none) (fun _ => .inl rfl) (.inr ⟨_, vs.toArray, _, hk, rfl, rfl, rfl, by rw [List.size_toArray, lenV]; exact hl, by simpa using rv⟩) (fun b u z => by have z' : (none : Option HO) = some u := z; cases z') (fun b z => absurd rfl z) fun z => absurd rfl z
  | none =>
    refine core (fun b => if b = a then some (.frz { cls := .type "list", data := .seq vs.toArray } (.lst (ns.map V.int))) else none) (fun b => ?_) (.inl (.inr ⟨{ cls := .type "list", data := .seq vs.toArray }, if_pos rfl⟩)) (fun b u z => ?_) (fun b z => ?_) fun _ => hk
    · by_cases hb : b = a
      · exact .inr ⟨_, _, if_pos hb⟩
      · exact .inl (if_neg hb)
    · by_cases hb : b = a
      · have z' := (if_pos hb).symm.trans z
        cases z'
        subst hb
        exact ⟨ha, by rw [List.length_map]; exact hl, vs, _, rv, ha⟩
      · have z' := (if_neg hb).symm.trans z
        cases z'
    · by_cases hb : b = a
      · exact hb
      · exact absurd (if_neg hb) z
theorem walk_ofG {l : PySem.W.OpenLaw} {n k : Nat} {q : Program} {loose : List Str} {XP : (Str → Option Value) → Heap → Prop} {YP : World → Heap → Prop} {d : DefRec} {K : Params → PySem.W.Frag} {CX : World → CXT} {sp : World → Sp} {x : Str}
    (hn : l.most = some n) (hn2 : n ≤ sizeLine) (hdf : d.params.defaults = []) (hr : Room k callerA)
    (hY : ∀ (w : World) (h : Heap), YP w h → (K w.params).In h)
    (F : ∀ (w : World) (mg : Str → Option Value) (fa : Addr) (h : Heap), (K w.params).In h → h.Ns mainGlobals mg → mg d.name = some (.ref fa) →
      ∃ fd : FuncData, (∀ (s : Shared) (u : Value), BindsTo s fd ⟨[u], []⟩ [(x, u)]) ∧
        ∀ base : Heap, (K w.params).In base → base.Ns mainGlobals mg → FnG l.prog w (K w.params) mg base (CX w) k fa fd [x] (sp w))
    (hsp : ∀ (w : World) (H : Hp) (a : Addr) (ns : List Int), ns.length ≤ n → Only H → SqL (K w.params) H a (ns.map V.int) → sp w [.ref a] H (fun v _ => v = .bl true) fun _ _ _ => False)
    (hCX : ∀ (w : World) (H : Hp) (s : Shared) (e : Value) (s' : Shared), CX w [] H s (fun _ _ _ => False) e s' → False) :
    PySem.W.WalkO q loose XP YP l.row.toRowW d [] (fun f vs => PySem.call f vs) := by
  refine Att.attach_call hn hdf fun w s₀ s₁ mg mb fa o pm cd doc a vs ns G Y ho hd hcd hmg hobj hints hlen hg => ?_
  have KX := hY w _ Y
  obtain ⟨fd, hb, hF⟩ := F w mg fa _ KX G.T.g hmg
  exact law_callG KX G.T.g G.T.b G.T.builtins G.T.nolimit hg hobj hints (Nat.le_trans hlen hn2) hr hF hb (fun H hO hS => hsp w H a ns hlen hO hS) fun H e s' => hCX w H s₁ e s'
end L2

set_option Elab.async false
set_option linter.all false
set_option maxRecDepth 100000
set_option maxHeartbeats 2000000
/-! Readings that compute: each operation told by its values. -/
namespace L2
open PySem PySem.Spec PyProof.Rows

theorem OpR.imp {X : Cx} {f : Value → Value → Sem Value} {r r' : R2} (h : OpR X f r) (k : ∀ x y H Q, r' x y H Q → r x y H Q) : OpR X f r' := fun pins s σ H x y v u Q I rx ry q => h pins s σ H x y v u Q I rx ry (k x y H Q q)
theorem PE.imp {X : Cx} {e : Expr} {t t' : TE} (h : PE X e t) (k : ∀ σ H Q, t' σ H Q → t σ H Q) : PE X e t' := ⟨fun pins s σ H Q I q => h.run pins s σ H Q I (k σ H Q q)⟩
theorem PT.imp {X : Cx} {e : Expr} {t t' : TT} (h : PT X e t) (k : ∀ σ H Q, t' σ H Q → t σ H Q) : PT X e t' := ⟨fun pins s σ H Q I q => h.run pins s σ H Q I (k σ H Q q)⟩
theorem CallR.imp {X : Cx} {f : Value} {r r' : List V → Hp → VK → Prop} (h : CallR X f r) (k : ∀ xs H Q, r' xs H Q → r xs H Q) : CallR X f r' := fun pins s σ H xs us Q I rx q => h pins s σ H xs us Q I rx (k xs H Q q)

/-! ### names -/
def aVar (i : Nat) : TE := fun σ H Q => match σ[i]? with | some (some v) => Q v H | _ => False
theorem av {X : Cx} (i : Nat) {x : Str} {pos : Pos} (hN : X.N[i]? = some x := by rfl) (hv : Vis X.env.scope x := by first | exact Or.inl rfl | exact Or.inr (Or.inl rfl) | exact Or.inr (Or.inr rfl)) (hd : (x == ("__debug__" : Str)) = false := by decide)
    (hcd : (x == ("__classdict__" : Str)) = false := by decide) : PE X (.Name x pos) (aVar i) :=
  (pe_var hN hv hd hcd).imp fun σ H Q h => by
    unfold aVar at h
    split at h
    · rename_i v e
      exact ⟨v, e, h⟩
    · exact h.elim

/-! ### two-place operations -/
def rAddA (K : PySem.W.Frag) : R2 := fun x y H Q => match x, y with
  | .int i, .int j => Q (.int (i + j)) H
  | .int i, .bl k => Q (.int (i + b2i k)) H
  | .str a, .str b => a.length + b.length ≤ sizeLine ∧ Q (.str (a ++ b)) H
  | .ref a, .ref b => rCat (.ref a) (.ref b) H Q ∨ rCatA K (.ref a) (.ref b) H Q
  | _, _ => False
theorem op_addA {X : Cx} : OpR X (binaryOp .Add) (rAddA X.K) := by
  intro pins s σ H x y v u Q I rx ry h
  cases x <;> cases y <;> first
    | exact h.elim
    | exact op_add pins s σ H _ _ v u Q I rx ry ⟨_, _, rfl, rfl, h⟩
    | exact op_add_ib pins s σ H _ _ v u Q I rx ry ⟨_, _, rfl, rfl, h⟩
    | exact op_add_str pins s σ H _ _ v u Q I rx ry ⟨_, _, rfl, rfl, h.1, h.2⟩
    | (rcases h with h | h
       · exact op_cat pins s σ H _ _ v u Q I rx ry h
       · exact op_catA pins s σ H _ _ v u Q I rx ry h)
def rSubA : R2 := fun x y H Q => match x, y with
  | .int i, .int j => Q (.int (i - j)) H
  | _, _ => False
theorem op_subA {X : Cx} : OpR X (binaryOp .Sub) rSubA := by
  intro pins s σ H x y v u Q I rx ry h
  cases x <;> cases y <;> first
    | exact h.elim
    | exact op_sub pins s σ H _ _ v u Q I rx ry ⟨_, _, rfl, rfl, h⟩
/-- *: of ints, one side below 2 ^ 64; a list, a tuple by a number -/
def rMulA : R2 := fun x y H Q => match x, y with
  | .int i, .int j => CMul i j ∧ Q (.int (i * j)) H
  | .ref a, .int k => rRep (.ref a) (.int k) H Q
  | _, _ => False
theorem op_mulA {X : Cx} : OpR X (binaryOp .Mult) rMulA := by
  intro pins s σ H x y v u Q I rx ry h
  cases x <;> cases y <;> first
    | exact h.elim
    | exact op_mul pins s σ H _ _ v u Q I rx ry ⟨_, _, rfl, rfl, h.1, h.2⟩
    | exact op_rep pins s σ H _ _ v u Q I rx ry h
/-- %, // by a positive divisor (below 2 ^ 9000) -/
def rModA : R2 := fun x y H Q => match x, y with
  | .int i, .int j => 0 < j ∧ Q (.int (i % j)) H
  | _, _ => False
theorem op_modA {X : Cx} : OpR X (binaryOp .Mod) rModA := by
  intro pins s σ H x y v u Q I rx ry h
  cases x <;> cases y <;> first
    | exact h.elim
    | exact op_mod pins s σ H _ _ v u Q I rx ry ⟨_, _, rfl, rfl, h.1, h.2⟩
def rFdvA : R2 := fun x y H Q => match x, y with
  | .int i, .int j => CDivW i j ∧ Q (.int (i / j)) H
  | _, _ => False
theorem op_fdvA {X : Cx} : OpR X (binaryOp .FloorDiv) rFdvA := by
  intro pins s σ H x y v u Q I rx ry h
  cases x <;> cases y <;> first
    | exact h.elim
    | exact op_fdivW pins s σ H _ _ v u Q I rx ry ⟨_, _, rfl, rfl, h.1, h.2⟩
def rPowA : R2 := fun x y H Q => match x, y with
  | .int i, .int j => (0 ≤ j ∧ (Builtin.Int.intBits i : Int) * j ≤ 2 ^ 27) ∧ Q (.int (i ^ j.toNat)) H
  | _, _ => False
theorem op_powA {X : Cx} : OpR X (binaryOp .Pow) rPowA := by
  intro pins s σ H x y v u Q I rx ry h
  cases x <;> cases y <;> first
    | exact h.elim
    | (obtain ⟨⟨h1, h2⟩, q⟩ := h
       obtain ⟨t, rfl⟩ := rx
       obtain ⟨t', rfl⟩ := ry
       exact pow_int h1 h2 ⟨.int _, H, I.tok _, ⟨_, rfl⟩, q⟩)

/-! ### comparisons -/
def rCmpI (p : Int → Int → Bool) : R2 := fun x y H Q => match x, y with
  | .int i, .int j => Q (.bl (p i j)) H
  | _, _ => False
theorem op_ltA {X : Cx} : OpR X (compareOp .Lt) (rCmpI fun i j => decide (i < j)) := by
  intro pins s σ H x y v u Q I rx ry h
  cases x <;> cases y <;> first
    | exact h.elim
    | exact op_lt pins s σ H _ _ v u Q I rx ry ⟨_, _, rfl, rfl, h⟩
theorem op_leA {X : Cx} : OpR X (compareOp .LtE) (rCmpI fun i j => decide (i ≤ j)) := by
  intro pins s σ H x y v u Q I rx ry h
  cases x <;> cases y <;> first
    | exact h.elim
    | exact op_le pins s σ H _ _ v u Q I rx ry ⟨_, _, rfl, rfl, h⟩
theorem op_gtA {X : Cx} : OpR X (compareOp .Gt) (rCmpI fun i j => decide (j < i)) := by
  intro pins s σ H x y v u Q I rx ry h
  cases x <;> cases y <;> first
    | exact h.elim
    | exact op_gt pins s σ H _ _ v u Q I rx ry ⟨_, _, rfl, rfl, h⟩
theorem op_geA {X : Cx} : OpR X (compareOp .GtE) (rCmpI fun i j => decide (j ≤ i)) := by
  intro pins s σ H x y v u Q I rx ry h
  cases x <;> cases y <;> first
    | exact h.elim
    | exact op_ge pins s σ H _ _ v u Q I rx ry ⟨_, _, rfl, rfl, h⟩
/-- ==, !=: of ints, texts, bools; else of data -/
def rEqA (K : PySem.W.Frag) : R2 := fun x y H Q => match x, y with
  | .int i, .int j => Q (.bl (decide (i = j))) H
  | .str i, .str j => Q (.bl (decide (i = j))) H
  | .bl i, .bl j => Q (.bl (decide (i = j))) H
  | x, y => rEqD K x y H Q
def rNeA (K : PySem.W.Frag) : R2 := fun x y H Q => match x, y with
  | .int i, .int j => Q (.bl (!decide (i = j))) H
  | .str i, .str j => Q (.bl (!decide (i = j))) H
  | .bl i, .bl j => Q (.bl (!decide (i = j))) H
  | x, y => rNeD K x y H Q
theorem vint_dec {i j : Int} : decide (V.int i = V.int j) = decide (i = j) := by
  by_cases h : i = j
  · subst h; simp
  · have : ¬ V.int i = V.int j := fun e => h (V.int.inj e)
    rw [decide_eq_false h, decide_eq_false this]
theorem vstr_dec {i j : Str} : decide (V.str i = V.str j) = decide (i = j) := by
  by_cases h : i = j
  · subst h; simp
  · have : ¬ V.str i = V.str j := fun e => h (V.str.inj e)
    rw [decide_eq_false h, decide_eq_false this]
theorem vbl_dec {i j : Bool} : decide (V.bl i = V.bl j) = decide (i = j) := by
  cases i <;> cases j <;> rfl
theorem op_eqA {X : Cx} (hu : X.A.units + 64 < cLine) : OpR X (compareOp .Eq) (rEqA X.K) := by
  intro pins s σ H x y v u Q I rx ry h
  unfold rEqA at h
  split at h
  · exact op_eq pins s σ H _ _ v u Q I rx ry ⟨rfl, by rw [vint_dec]; exact h⟩
  · exact op_eq pins s σ H _ _ v u Q I rx ry ⟨rfl, by rw [vstr_dec]; exact h⟩
  · exact op_eq pins s σ H _ _ v u Q I rx ry ⟨rfl, by rw [vbl_dec]; exact h⟩
  · exact op_eqD hu pins s σ H _ _ v u Q I rx ry h
theorem op_neA {X : Cx} (hu : X.A.units + 64 < cLine) : OpR X (compareOp .NotEq) (rNeA X.K) := by
  intro pins s σ H x y v u Q I rx ry h
  unfold rNeA at h
  split at h
  · exact op_ne pins s σ H _ _ v u Q I rx ry ⟨rfl, by rw [vint_dec]; exact h⟩
  · exact op_ne pins s σ H _ _ v u Q I rx ry ⟨rfl, by rw [vstr_dec]; exact h⟩
  · exact op_ne pins s σ H _ _ v u Q I rx ry ⟨rfl, by rw [vbl_dec]; exact h⟩
  · exact op_neD hu pins s σ H _ _ v u Q I rx ry h
/-- a bool as a test -/
def aTest (t : TE) : TT := fun σ H Q => t σ H fun x H' => match x with | .bl k => Q k H' | _ => False
section
variable {X : Cx} {a b c e : Expr} {ta tb tc te : TE} {pos : Pos}
theorem pt_cmpA {op : CmpOp} {r : R2} (ho : OpR X (compareOp op) r) (ha : PE X a ta) (hb : PE X b tb) (hm : behindInMarks op b = false := by first | exact nomark _ | rfl | with_unfolding_all rfl) : PT X (.Compare a [op] [b] pos) (aTest (tOp r ta tb)) := by
  refine ⟨fun pins s σ H Q I h => ?_⟩
  refine wpAny_isTrue_Compare1 (thn (ha.run pins s σ H _ I h) fun v s1 ⟨x, H1, I1, r1, q1⟩ => thn (hb.run pins s1 σ H1 _ I1 q1) fun u s2 ⟨y, H2, I2, r2, q2⟩ =>
    thn (ho pins s2 σ H2 x y v u _ I2 r1 r2 q2) fun c s3 ⟨z, H3, I3, r3, q3⟩ => ?_) hm
  cases z with
  | bl k =>
    cases r3
    exact wpAny_truthy_bool ⟨H3, I3, q3⟩
  | _ => exact q3.elim
theorem pe_cmpA {op : CmpOp} {r : R2} (ho : OpR X (compareOp op) r) (ha : PE X a ta) (hb : PE X b tb) (hm : behindInMarks op b = false := by first | exact nomark _ | rfl | with_unfolding_all rfl) : PE X (.Compare a [op] [b] pos) (tOp r ta tb) := pe_cmpR ho ha hb hm
theorem pt_valA (h : PE X e te) (he : ∀ whole, isTrue e X.env whole = (do let v ← whole; standAt e.pos; holding [v] (truthy v)) := by intro _; rfl) : PT X e (aTest te) := by
  refine ⟨fun pins s σ H Q I hw => ?_⟩
  refine isTrue_plain (thn (h.run pins s σ H _ I hw) fun v s1 ⟨x, H1, I1, r1, q1⟩ => ?_) (he _)
  cases x with
  | bl k =>
    cases r1
    exact wpAny_truthy_bool ⟨H1, I1, q1⟩
  | _ => exact q1.elim

/-! ### items -/
def rIxA (K : PySem.W.Frag) : R2 := fun x y H Q => match x, y with
  | .ref p, .int i => (∃ xs v, SqL K H p xs ∧ atI xs i = some v ∧ Q v H) ∨ ∃ xs v, SqT K H p xs ∧ atI xs i = some v ∧ Q v H
  | .str z, .int i => ∃ c, z.length ≤ sizeLine ∧ atI z.cps.toList i = some c ∧ Q (.str ⟨#[c]⟩) H
  | _, _ => False
theorem IxR.imp {X : Cx} {r r' : R2} (h : IxR X r) (k : ∀ x y H Q, r' x y H Q → r x y H Q) : IxR X r' := by
  unfold IxR at h ⊢
  intros
  refine h _ _ _ _ _ _ _ _ _ _ _ (by assumption) (by assumption) (by assumption) (k _ _ _ _ (by assumption)) (by assumption)
theorem ix_A : IxR X (rIxA X.K) := ix_seq.imp fun x y H Q h => by
  unfold rIxA at h
  split at h
  · rcases h with ⟨xs, v, h1, h2, q⟩ | ⟨xs, v, h1, h2, q⟩
    · exact .inl ⟨_, xs, _, v, rfl, rfl, h1, h2, q⟩
    · exact .inr (.inl ⟨_, xs, _, v, rfl, rfl, h1, h2, q⟩)
  · obtain ⟨c, h1, h2, q⟩ := h
    exact .inr (.inr ⟨_, _, c, rfl, rfl, h1, h2, q⟩)
  · exact h.elim
theorem pe_ixA (ha : PE X a ta) (hb : PE X b tb) (hs : PlainIx b := by exact fun _ _ => rfl) : PE X (.Subscript a b pos) (tOp (rIxA X.K) ta tb) := pe_ix ix_A ha hb hs
/-! ### calls of built-ins -/
def rLenA (K : PySem.W.Frag) : List V → Hp → VK → Prop := fun vs H Q => match vs with
  | [.str y] => y.length ≤ sizeLine ∧ Q (.int (y.length : Int)) H
  | [.ref p] => (∃ xs, SqL K H p xs ∧ Q (.int (xs.length : Int)) H) ∨ ∃ xs, SqT K H p xs ∧ Q (.int (xs.length : Int)) H
  | _ => False
theorem call_lenA : CallR X (.builtin "len") (rLenA X.K) := call_len.imp fun xs H Q h => by
  unfold rLenA at h
  split at h
  · exact ⟨_, _, rfl, ⟨h.1, rfl⟩, h.2⟩
  · rcases h with ⟨ys, h1, q⟩ | ⟨ys, h1, q⟩
    · exact ⟨_, _, rfl, .inl ⟨ys, h1, rfl⟩, q⟩
    · exact ⟨_, _, rfl, .inr ⟨ys, h1, rfl⟩, q⟩
  · exact h.elim
def rAbsA : List V → Hp → VK → Prop := fun vs H Q => match vs with
  | [.int i] => Q (.int (if i < 0 then -i else i)) H
  | _ => False
theorem call_absA : CallR X (.builtin "abs") rAbsA := call_abs.imp fun xs H Q h => by
  unfold rAbsA at h
  split at h
  · exact ⟨_, rfl, h⟩
  · exact h.elim
def rIntA : List V → Hp → VK → Prop := fun vs H Q => match vs with
  | [.int i] => Q (.int i) H
  | [.bl k] => Q (.int (if k then 1 else 0)) H
  | _ => False
theorem call_intA : CallR X (.type "int") rIntA := call_int1.imp fun xs H Q h => by
  unfold rIntA at h
  split at h
  · exact .inl ⟨_, rfl, h⟩
  · exact .inr ⟨_, rfl, h⟩
  · exact h.elim
def rMaxA : List V → Hp → VK → Prop := fun vs H Q => match vs with
  | [.int i, .int j] => Q (.int (if j > i then j else i)) H
  | _ => False
theorem call_maxA (hc : X.calm = true) : CallR X (.builtin "max") rMaxA := (call_max2 hc).imp fun xs H Q h => by
  unfold rMaxA at h
  split at h
  · exact ⟨_, _, rfl, h⟩
  · exact h.elim
def rMinA : List V → Hp → VK → Prop := fun vs H Q => match vs with
  | [.int i, .int j] => Q (.int (if j < i then j else i)) H
  | _ => False
theorem call_minA (hc : X.calm = true) : CallR X (.builtin "min") rMinA := (call_min2 hc).imp fun xs H Q h => by
  unfold rMinA at h
  split at h
  · exact ⟨_, _, rfl, h⟩
  · exact h.elim
end
/-! ### a def of the text, as a caller knows it -/
structure Own (P : Program) (w : World) (K : PySem.W.Frag) (mg : Str → Option Value) (base : Heap) (CX : CXT) (x : Str) (k : Nat) (ps : List Str) (sp : Sp) : Prop where
  ex : ∃ f fd, FnG P w K mg base CX k f fd ps sp ∧ mg x = some (.ref f) ∧ PySem.W.keepIn K (.ref f) = true ∧ Binds K fd ps []
section
variable {X : Cx} {CX : CXT} {k j : Nat} {ps : List Str} {sp : Sp} {x : Str} {p pos : Pos} {e : Expr} {es : List Expr} {t : TA}
theorem Passes0 : Passes CX0 X E0 := pass0
theorem pe_own (O : Own X.prog X.w X.K X.mg X.base CX0 x k ps sp) (hr : RoomG j X.A) (ha : PA X (e :: es) t) (hk : k ≤ j := by decide) (hg : Gl X x := by rfl) (hdb : (x == ("__debug__" : Str)) = false := by decide)
    (he : starEach (e :: es) X.env = (false, eval e X.env) :: starEach es X.env := by rfl) (hpl : (backTo pos (starEach es X.env)).any (·.1) = false := by rfl) : PE X (.Call (.Name x p) (e :: es) [] pos) (tCall sp [] E0 t) := by
  obtain ⟨f, fd, F, hm, hkp, hb⟩ := O.ex
  exact pe_callG F (hr.mono hk) hg hm hkp hb .nil pass0 ha hdb he hpl
theorem pe_own0 (O : Own X.prog X.w X.K X.mg X.base CX0 x k ps sp) (hr : RoomG j X.A) (hk : k ≤ j := by decide) (hg : Gl X x := by rfl) (hdb : (x == ("__debug__" : Str)) = false := by decide) : PE X (.Call (.Name x p) [] [] pos) (tCall sp [] E0 tNil) := by
  obtain ⟨f, fd, F, hm, hkp, hb⟩ := O.ex
  exact pe_call0G F (hr.mono hk) hg hm hkp hb .nil pass0 hdb
end
/-! ### loops -/
theorem for_enum {K : PySem.W.Frag} {a : Addr} {xs : List V} {g : TG} {tb : TS} {D : Ends} {σ : St} {H : Hp} (Pv : Nat → St → Hp → Prop) (h0 : Pv 0 σ H) (hl : ∀ i σ H, i ≤ xs.length → Pv i σ H → SqL K H a xs)
    (hs : ∀ i x T σ H, xs[i]? = some x → Pv i σ H → H T = none → g (.ref T) σ (upd H T (.tup [.int (i : Nat), x])) fun σ2 H2 => tb { D with nx := Pv (i + 1), ct := Pv (i + 1), bk := D.nx } σ2 H2) (hd : ∀ σ H, Pv xs.length σ H → D.nx σ H) :
    ∃ W : Nat → Nat → St → Hp → Prop, (∃ m, W 0 m σ H) ∧ ∀ i m σ H, W i m σ H →
      ((Ite K a).stop i H ∧ D.nx σ H) ∨ ((Ite K a).go i H ∧ ∃ N : St → Hp → Prop, (∀ σ' H', N σ' H' → ∃ m', m' < m ∧ W (i + 1) m' σ' H') ∧ ∀ x H', (Ite K a).yld i H x H' → g x σ H' fun σ2 H2 => tb { D with nx := N, ct := N, bk := D.nx } σ2 H2) := by
  refine ⟨fun i m σ H => m = xs.length - i ∧ i ≤ xs.length ∧ Pv i σ H, ⟨xs.length, by simp, Nat.zero_le _, h0⟩, ?_⟩
  rintro i m σ H ⟨rfl, hi, p⟩
  have q := hl i σ H hi p
  by_cases hlt : i < xs.length
  · refine .inr ⟨⟨xs, xs[i], q, by simp [hlt]⟩, Pv (i + 1), fun σ' H' p' => ⟨xs.length - (i + 1), by omega, rfl, hlt, p'⟩, fun v H' y => ?_⟩
    obtain ⟨T, x, rfl, hT, rfl, y⟩ := y
    exact hs i x T σ H (y xs q) p hT
  · have e : i = xs.length := by omega
    subst e
    exact .inl ⟨⟨xs, q, Nat.le_refl _⟩, hd σ H p⟩
/-- a pair in two names -/
theorem tup2 {K : PySem.W.Frag} {T : Addr} {x y : V} {H : Hp} {t u : TG} {σ : St} {Q : St → Hp → Prop} (h : t x σ (upd H T (.tup [x, y])) fun σ' H' => u y σ' H' Q) : gTup K 2 (gCons t (gCons u gNil)) (.ref T) σ (upd H T (.tup [x, y])) Q := by
  refine ⟨T, [x, y], rfl, SqT.of upd_same, rfl, x, [y], rfl, ?_⟩
  have m : ∀ (P P' : St → Hp → Prop), P = P' → t x σ (upd H T (.tup [x, y])) P → t x σ (upd H T (.tup [x, y])) P' := fun P P' e q => e ▸ q
  refine m _ _ ?_ h
  funext σ' H'
  refine propext ⟨fun q => ⟨y, [], rfl, ?_⟩, fun ⟨v, r, e, q⟩ => ?_⟩
  · refine Eq.mp (congrArg (u y σ' H') (funext fun a => funext fun b => propext ⟨fun z => ⟨rfl, z⟩, fun z => z.2⟩)) q
  · cases e
    exact Eq.mp (congrArg (u y σ' H') (funext fun a => funext fun b => propext ⟨fun z => z.2, fun z => ⟨rfl, z⟩⟩)) q
theorem Same.new {H H' : Hp} {p : Addr} {o : HO} (s : Same H H') (h : H' p = none) : Same H (upd H' p o) := fun b u e => by
  rw [upd_ne (ne_of_none (s b u e) h)]
  exact s b u e
theorem RoomG.units64 {k : Nat} {A : PySem.Around} (hr : RoomG k A) : A.units + 64 < PySem.cLine := hr.r.units
theorem pow_ok {i j : Int} (h1 : -(2 ^ 64) < i) (h2 : i < 2 ^ 64) (h3 : 0 ≤ j) (h4 : j ≤ 100) : 0 ≤ j ∧ (PySem.Builtin.Int.intBits i : Int) * j ≤ 2 ^ 27 := by
  have h := PySem.intBits_le_64 h1 h2
  refine ⟨h3, ?_⟩
  have : (PySem.Builtin.Int.intBits i : Int) * j ≤ 64 * 100 := Int.mul_le_mul (by omega) h4 h3 (by decide)
  omega
theorem big_pos : (0 : Int) < ((10 : Int) ^ Int.toNat 60) ^ Int.toNat 13 := by decide +kernel
theorem big_bits : 0 ≤ (13 : Int) ∧ (PySem.Builtin.Int.intBits ((10 : Int) ^ Int.toNat 60) : Int) * 13 ≤ 2 ^ 27 := by decide +kernel
/-- a statement, then the rest, with a word between them -/
def tCut (t u : TS) : TS := fun D σ H => ∃ Mid : St → Hp → Prop, t { D with nx := Mid } σ H ∧ ∀ σ' H', Mid σ' H' → u D σ' H'
theorem pss_cut {X : Cx} {st : Stmt} {rest : List Stmt} {t u : TS} (h1 : PS X st t) (h2 : PSs X rest u) : PSs X (st :: rest) (tCut t u) := by
  refine ⟨fun pins s σ H D I h => ?_⟩
  obtain ⟨Mid, hm, hu⟩ := h
  refine wpAny_execs_cons (thn (h1.run pins s σ H { D with nx := Mid } I hm) fun f s1 q => ?_)
  cases f with
  | next =>
    obtain ⟨σ', H', I', q⟩ := q
    exact h2.run pins s1 σ' H' D I' (hu σ' H' q)
  | ret v => exact q
  | brk => exact q
  | cont => exact q
end L2

set_option Elab.async false
set_option linter.all false
set_option maxRecDepth 100000
set_option maxHeartbeats 4000000
/-! Own exception classes straight over a built-in one, with an __init__ that calls the built-in's and stores one field. -/
namespace PySem
namespace KX
open PySem.W PySem.Calls PyProof.Rows PySem.HandSPX Builtin Builtin.ObjectAttr

/-- the built-in __init__ of a class -/
structure XIni (B initId : String) : Prop where
  plain : plainId initId = true
  entry : entryFor table initId = some Builtin.«BaseException.__init__»
  kind : builtinKind initId = some .slot
  split : splitId initId = some (B, "__init__")
  row : Manifest.signature? initId = some ⟨.positional, "*", B, .self, [⟨"args", .varPos, false⟩]⟩
  noStar : (B != "*") = true
theorem ini_of {B newId initId : String} {bm : List Value} (F : ExcBaseFacts B newId initId bm) : XIni B initId := ⟨F.init.plain, F.initEntry, F.initKind, F.initSplit, F.initRow, F.noStar⟩
theorem ini_KeyError : XIni "KeyError" "KeyError.__init__" :=
  ⟨PyProof.Rows.excClass_KeyError.init.plain, PyProof.Rows.excClass_KeyError.initEntry, PyProof.Rows.excClass_KeyError.initKind, PyProof.Rows.excClass_KeyError.initSplit, PyProof.Rows.excClass_KeyError.initSig, PyProof.Rows.excClass_KeyError.notStar⟩
abbrev tKey : List Value := [.type "KeyError", .type "LookupError", .type "Exception", .type "BaseException", .type "object"]
abbrev tLookup : List Value := [.type "LookupError", .type "Exception", .type "BaseException", .type "object"]
abbrev tIndex : List Value := [.type "IndexError", .type "LookupError", .type "Exception", .type "BaseException", .type "object"]
abbrev tOverflow : List Value := [.type "OverflowError", .type "ArithmeticError", .type "Exception", .type "BaseException", .type "object"]
abbrev tRuntime : List Value := [.type "RuntimeError", .type "Exception", .type "BaseException", .type "object"]
/-- what the model says of the built-in chain bm, made by newId (of Bn), begun by initId (of Bi) -/
structure XB (Bi newId initId : String) (bm : List Value) : Prop where
  fn : ∃ (Bn I0 : String) (bm0 : List Value), ExcBaseFacts Bn newId I0 bm0 ∧ bm.contains (.type Bn) = true
  ini : XIni Bi initId
  hasI : bm.contains (.type Bi) = true
  noA : bm.contains (.type "AttributeError") = false
  noN : bm.contains (.type "NameError") = false
  obj : bm.contains (.type "object") = true
  pass : ∀ self : Value, refuseLoop self "__setattr__" bm = pure ()
theorem xb_KeyError : XB "KeyError" "LookupError.__new__" "KeyError.__init__" tKey where
  fn := ⟨_, _, _, F.excBase_LookupError, by decide +kernel⟩
  ini := ini_KeyError
  hasI := by decide +kernel
  noA := by decide +kernel
  noN := by decide +kernel
  obj := by decide +kernel
  pass := fun self => by kernel_rfl
theorem xb_LookupError : XB "LookupError" "LookupError.__new__" "LookupError.__init__" tLookup where
  fn := ⟨_, _, _, F.excBase_LookupError, by decide +kernel⟩
  ini := ini_of F.excBase_LookupError
  hasI := by decide +kernel
  noA := by decide +kernel
  noN := by decide +kernel
  obj := by decide +kernel
  pass := fun self => by kernel_rfl
theorem xb_IndexError : XB "IndexError" "IndexError.__new__" "IndexError.__init__" tIndex where
  fn := ⟨_, _, _, F.excBase_IndexError, by decide +kernel⟩
  ini := ini_of F.excBase_IndexError
  hasI := by decide +kernel
  noA := by decide +kernel
  noN := by decide +kernel
  obj := by decide +kernel
  pass := fun self => by kernel_rfl
theorem xb_OverflowError : XB "OverflowError" "OverflowError.__new__" "OverflowError.__init__" tOverflow where
  fn := ⟨_, _, _, F.excBase_OverflowError, by decide +kernel⟩
  ini := ini_of F.excBase_OverflowError
  hasI := by decide +kernel
  noA := by decide +kernel
  noN := by decide +kernel
  obj := by decide +kernel
  pass := fun self => by kernel_rfl
theorem xb_RuntimeError : XB "RuntimeError" "RuntimeError.__new__" "RuntimeError.__init__" tRuntime where
  fn := ⟨_, _, _, F.excBase_RuntimeError, by decide +kernel⟩
  ini := ini_of F.excBase_RuntimeError
  hasI := by decide +kernel
  noA := by decide +kernel
  noN := by decide +kernel
  obj := by decide +kernel
  pass := fun self => by kernel_rfl

section
variable {M : Model} {A : Around} {E : Value → Shared → Prop} {h : Heap} {g : Array GenState} {d : Drawn} {t : Nat} {os : OsState}
variable {nm q : Str} {C N : Addr} {bs bm bmB : List Value} {hdct : Bool} {sn : List Str} {sub : List Value} {ab : Bool} {col : Option Bool} {dd : Option Addr} {k0 k1 k2 k3 k5 : Option Value} {B newId initId : String}
theorem check_newX (F : ExcBaseFacts B newId initId bmB) (hB : bm.contains (.type B) = true) {rest : List Value} {Q : Unit → Shared → Prop}
    (hC : h.get? C = some (excClassObj nm q C N bs bm hdct sn sub ab col dd k0 k1 k2 k3 k5 newId)) (hq : Q () ⟨h, g, d, t, os⟩) : wpAny M A (checkBuiltinCall newId ⟨.ref C :: rest, []⟩) Q E ⟨h, g, d, t, os⟩ := by
  have hcont : (Value.ref C :: bm).contains (.type B) = true := by rw [List.contains_cons, hB, Bool.or_true]
  have hstar := F.noStar
  simp only [checkBuiltinCall, F.newKind, F.newSplit, F.newRow]
  repeat (first | refine wpAny_loadPart_at hC ?_ | (refine wpAny_isSubtype_exc hC ?_; rw [hcont]) | refine wpAny_staticBase_exc hC ?_ | refine wpAny_madeBy_exc hC ?_ | simp only [bne_self_eq_false, Bool.false_eq_true, if_false] | wp_step)
  exact hq
theorem check_initX (F : XIni B initId) (hB : bm.contains (.type B) = true) {e : Addr} {oe : Obj} {rest : List Value} {Q : Unit → Shared → Prop}
    (hC : h.get? C = some (excClassObj nm q C N bs bm hdct sn sub ab col dd k0 k1 k2 k3 k5 newId)) (he : h.get? e = some oe) (hcls : oe.cls = .ref C) (hq : Q () ⟨h, g, d, t, os⟩) :
    wpAny M A (checkBuiltinCall initId ⟨.ref e :: rest, []⟩) Q E ⟨h, g, d, t, os⟩ := by
  have hcB : (Value.ref C :: bm).contains (.type B) = true := by rw [List.contains_cons, hB, Bool.or_true]
  have hshort := F.noStar
  simp only [checkBuiltinCall, F.kind, F.split, F.row]
  repeat (first | (with_reducible refine wpAny_loadPart_at he ?_; rw [hcls]) | with_reducible refine wpAny_loadPart_at hC ?_ | (with_reducible refine wpAny_isSubtype_exc hC ?_; rw [hcB]) | wp_step)
  refine wpAny_onRaise ?_
  rw [show ∀ (a b : String) (n : Nat), Bind.check ⟨.positional, "*", B, .self, [⟨"args", .varPos, false⟩]⟩ a b n (List.map (fun x => x.fst) ({ pos := Value.ref e :: rest } : Args).kw) = pure () from
    fun a b n => check_star_args _ _ _ _ _ _]
  exact wpAny_pure hq
end
section
variable {prog : Program} {w : World} {A : Around} {E : Value → Shared → Prop} {R : Result → Shared → Prop} {h : Heap} {g : Array GenState} {d : Drawn} {t : Nat} {os : OsState}
variable {nm q : Str} {C N : Addr} {bs bm bmB : List Value} {hdct : Bool} {sn : List Str} {sub : List Value} {ab : Bool} {col : Option Bool} {dd : Option Addr} {k0 k1 k2 k3 k5 : Option Value} {B newId initId : String}
theorem newX (F : ExcBaseFacts B newId initId bmB) (hB : bm.contains (.type B) = true) (hA : bm.contains (.type "AttributeError") = false) (hN : bm.contains (.type "NameError") = false) {rest : List Value}
    (hC : h.get? C = some (excClassObj nm q C N bs bm hdct sn sub ab col dd k0 k1 k2 k3 k5 newId))
    (hq : R (.ok (.ret (.ref (h.objs.size + 1)))) ⟨(h.push { cls := .type "tuple", data := .seq rest.toArray }).push
      { cls := .ref C, data := .fields #[.ref h.objs.size, .none, .none, .none, .bool false, .none] }, g, d, t, os⟩) (hrest : rest.length ≤ sizeLine) :
    codeAny (model prog w) A (.builtin newId ⟨.ref C :: rest, []⟩) R ⟨h, g, d, t, os⟩ := by
  have hends := F.ends
  have hcB : (Value.ref C :: bm).contains (.type B) = true := by rw [List.contains_cons, hB, Bool.or_true]
  have hcA : (Value.ref C :: bm).contains (.type "AttributeError") = false := by rw [List.contains_cons, hA]; rfl
  have hcN : (Value.ref C :: bm).contains (.type "NameError") = false := by rw [List.contains_cons, hN]; rfl
  refine codeAny_builtinAt F.entry ?_
  unfold Builtin.«BaseException.__new__»
  refine wpAt_bind ?_
  show wpAt _ _ _ (stack >>= _) _ _ _
  refine wpAt_bind (wpAt_stack fun p below => wpAt_of_wpAny ?_)
  wp_walk
  refine wpAt_of_wpAny ?_
  rw [F.owner]
  repeat (first | with_reducible refine wpAny_madeHere_exc F.canon hC ?_ | with_reducible refine wpAny_loadPart_at hC ?_ | (with_reducible refine wpAny_isSubtype_exc hC ?_; first | rw [hcB] | rw [hcA] | rw [hcN]) | wp_step)
  show R _ _
  rw [Heap.size_push]
  exact hq
theorem type_callX (F : ExcBaseFacts B newId initId bmB) (hB : bm.contains (.type B) = true) (hA : bm.contains (.type "AttributeError") = false) (hN : bm.contains (.type "NameError") = false) {rest : List Value} {fI : Addr} {Q : Fin → Shared → Prop}
    (hC : h.get? C = some (excClassObj nm q C N bs bm hdct sn sub ab col dd k0 k1 k2 k3 k5 newId))
    (hi : W.Looks (model prog w) h (typeLookup (.ref C) "__init__") (some (.ref fI))) (hb : ∀ self, W.Looks (model prog w) h (bindSpecial (.ref fI) self) (.ref fI, [self])) (hrest : rest.length ≤ sizeLine)
    (hq : codeAny (model prog w) A (.call (.ref fI) ⟨.ref (h.objs.size + 1) :: rest, []⟩)
      (fun r s' => match r with | .ok (.ret v) => v = .none ∧ Q (.done (.ret (.ref (h.objs.size + 1)))) s' | .ok _ => False | .error e => E e s')
      ⟨(h.push (W.kdv_tup rest)).push (excO C h.objs.size), g, d, t, os⟩) :
    wpAny (model prog w) A (Builtin.«type.__call__» ⟨.ref C :: rest, []⟩) Q E ⟨h, g, d, t, os⟩ := by
  repeat (first | with_reducible refine wpAny_loadPart_at hC ?_ | with_reducible refine wpAny_madeBy_exc hC ?_ | wp_step)
  refine codeAny_call_builtin_code (Code.quiet_builtin _ F.quiet) (check_newX F hB hC ?_)
  refine newX F hB hA hN hC ?_ hrest
  show wpAny _ _ _ _ _ _
  have k : ∀ b o, h.get? b = some o → ((h.push (W.kdv_tup rest)).push (excO C h.objs.size)).get? b = some o := fun b o e => Heap.get?_push_of_some _ (Heap.get?_push_of_some _ e)
  have hC₁ := k _ _ hC
  have hget : ((h.push (W.kdv_tup rest)).push (excO C h.objs.size)).get? (h.objs.size + 1) = some (excO C h.objs.size) := by heap_get
  have hcC : (Value.ref C :: bm).contains (.ref C) = true := by simp
  have i1 := hi.keeps k
  have b1 := (hb (.ref (h.objs.size + 1))).keeps k
  unfold isInstance
  repeat (first | with_reducible refine wpAny_loadPart_at hget ?_ | (with_reducible refine wpAny_isSubtype_exc hC₁ ?_; rw [hcC]) | wp_step)
  show wpAny _ _ (typeLookup (.ref C) _) _ _ _
  refine i1.at ?_
  refine wpAny_holding (wpAny_bind (b1.at ?_))
  refine wpAny_bind (wpAny_call (codeAny_mono hq fun r s' z => ?_))
  rcases r with e | (v | _ | _ | _) <;> first | exact z | exact z.elim | skip
  obtain ⟨rfl, z⟩ := z
  first
    | exact wpAny_pure (wpAny_pure z)
    | (wp_walk; exact z)
theorem callX (F : ExcBaseFacts B newId initId bmB) (hB : bm.contains (.type B) = true) (hA : bm.contains (.type "AttributeError") = false) (hN : bm.contains (.type "NameError") = false) {rest : List Value} {fI : Addr}
    (hC : h.get? C = some (excClassObj nm q C N bs bm hdct sn sub ab col dd k0 k1 k2 k3 k5 newId))
    (hi : W.Looks (model prog w) h (typeLookup (.ref C) "__init__") (some (.ref fI))) (hb : ∀ self, W.Looks (model prog w) h (bindSpecial (.ref fI) self) (.ref fI, [self])) (hrest : rest.length ≤ sizeLine)
    (hq : codeAny (model prog w) (A.under (.builtin "type.__call__" ⟨.ref C :: rest, []⟩)) (.call (.ref fI) ⟨.ref (h.objs.size + 1) :: rest, []⟩) (W.InitBack (h.objs.size + 1) R)
      ⟨(h.push (W.kdv_tup rest)).push (excO C h.objs.size), g, d, t, os⟩) :
    codeAny (model prog w) A (.call (.ref C) ⟨rest, []⟩) R ⟨h, g, d, t, os⟩ := by
  have f1 := tc_lookup
  have f2 := tc_bind (.ref C)
  have hTy : (⟨h, g, d, t, os⟩ : Shared).TypeIs (.ref C) "type" := ⟨_, hC, rfl⟩
  refine codeAny_of_tree ?_
  show wpAny _ _ (callAny (.ref C) _) _ _ _
  repeat (any_goals (first | assumption | with_reducible refine wpAny_loadPart_at hC ?_ | wp_step))
  refine ⟨rfl, ?_⟩
  refine codeAny_call_builtin_at (Code.quiet_builtin _ (by decide +kernel)) entry_typeCall (wpAny_check_type_call_sub hC (type_callX F hB hA hN hC hi hb hrest ?_))
  refine codeAny_mono hq fun r s' z => ?_
  rcases r with e | (v | _ | _ | _) <;> exact z
theorem init_baseX (F : XIni B initId) (hB : bm.contains (.type B) = true) {e t0 : Addr} {rest : List Value}
    (hC : h.get? C = some (excClassObj nm q C N bs bm hdct sn sub ab col dd k0 k1 k2 k3 k5 newId)) (he : h.get? e = some (excO C t0)) (hrest : rest.length ≤ sizeLine)
    (hq : ∀ h' t1, (∀ b o, b ≠ e → h.get? b = some o → h'.get? b = some o) → h'.get? e = some (excO C t1) → R (.ok (.ret .none)) ⟨h', g, d, t, os⟩) :
    codeAny (model prog w) A (.call (.builtin initId) ⟨.ref e :: rest, []⟩) R ⟨h, g, d, t, os⟩ := by
  refine codeAny_call_builtin F.plain F.entry (check_initX F hB hC he rfl ?_)
  wp_walk
  refine hq _ h.objs.size (fun b o hb ho => ?_) ?_
  · rw [Heap.get?_update_other _ _ (Ne.symm hb)]
    exact Heap.get?_push_of_some _ ho
  · rw [Heap.get?_update_self _ (Heap.get?_push_of_some _ he) rfl]
    rfl
end
section
variable {prog : Program} {w : World} {A : Around} {E : Value → Shared → Prop} {R : Result → Shared → Prop} {hp : Heap} {g : Array GenState} {d : Drawn} {t : Nat} {os : OsState}
theorem exc_osaX {K : W.Frag} {name : Str} {tk : Tok} {v : Value} {x C : Addr} {fv : Array Value} {cd : ClassData} {bm : List Value}
    (X : K.In hp) (hx : hp.get? x = some { cls := .ref C, data := .fields fv }) (hcd : W.clsIn K C = some cd) (hm : cd.mro = .ref C :: bm) (hpass : ∀ self : Value, refuseLoop self "__setattr__" bm = pure ()) (hobj : bm.contains (.type "object") = true)
    (hh : cd.hasDict = true) (ha : W.findIn K (.ref C) name = some none)
    (hq : ∀ h' tk' dx, (∀ b o, b ≠ x → hp.get? b = some o → h'.get? b = some o) → hp.objs.size ≤ dx → dx ≠ x → h'.get? x = some { cls := .ref C, dict := some dx, data := .fields fv } →
      h'.Ns1 dx (fun y => if y = name then some v else none) → R (.ok (.ret .none)) ⟨h', g, d, tk', os⟩) :
    codeAny (model prog w) A (.call (.builtin "object.__setattr__") ⟨[.ref x, .str name tk, v], []⟩) R ⟨hp, g, d, t, os⟩ := by
  have I : W.InstAt hp x { cls := .ref C, data := .fields fv } C none := ⟨hx, rfl, rfl, trivial⟩
  have SF := F.store_object
  have ne : cd.mro.isEmpty = false := by rw [hm]; rfl
  have hob : cd.mro.contains (.type "object") = true := by rw [hm, List.contains_cons, hobj, Bool.or_true]
  have hxs : x ≠ hp.objs.size := Nat.ne_of_lt (Heap.lt_size hx)
  have sub : W.Looks (model prog w) hp (isInstance (.ref x) (.type "object")) true := I.type.andThen (W.looks_mroIn X (by unfold W.mroIn; rw [hcd, Option.bind_some, if_neg (by rw [ne]; decide), hob]))
  refine codeAny_call_builtin SF.slot.plain SF.entry (@W.check_slot (model prog w) _ _ ⟨hp, g, d, t, os⟩ "object.__setattr__" "object" "__setattr__" (.ref x) [.str name tk, v] [] _ SF.kind SF.split sub (SF.args (.ref x) (.str name tk) v) ?_)
  have hmr : W.Looks (model prog w) hp (mroOf (.ref C)) cd.mro := (W.looks_clsIn X hcd).andThen .now
  have L3 : W.Looks (model prog w) hp (storeTaker? none) none := .now
  have hcls : W.Looks (model prog w) hp (classData C) cd := W.looks_clsIn X hcd
  rw [W.osa_eq, refuse_eq]
  refine wpAny_bind (wpAny_bind (I.type.at (wpAny_bind (hmr.at ?_))))
  rw [hm, refuseLoop_ref, hpass]
  refine wpAny_pure (wpAny_bind (I.type.at (wpAny_bind ((W.looks_findIn X ha).at (wpAny_bind (L3.at ?_))))))
  show wpAny _ _ (storeInOwnDict (.ref x) (.ref C) (.str name tk) name v false) _ _ _
  obtain ⟨nm, bs, mro, ns, qn, hd, sn, sb, ab, col, del⟩ := cd
  dsimp only at hh
  subst hh
  unfold storeInOwnDict ownDictForStores
  repeat (first | with_reducible refine store_in_new ?_ ?_ | with_reducible refine wpAny_loadPart_at hx ?_ | with_reducible refine hcls.at ?_ | wp_step)
  · exact ⟨_, #[], _, (Heap.get?_update_ne _ _ _ _ hxs.symm).trans (Heap.get?_push_at rfl rfl), rfl, fun e he => absurd he (by simp), fun _ => rfl⟩
  · intro h' tk' hn' hs
    have hx₁ : (hp.push { cls := .type "dict", data := .dict #[] }).get? x = some { cls := .ref C, data := .fields fv } := Heap.get?_push_of_some _ hx
    refine hq h' tk' hp.objs.size (fun b o hb ho => ?_) (Nat.le_refl _) hxs.symm ?_ hn'
    · exact (hs.2 b (Nat.ne_of_lt (Heap.lt_size ho))).trans ((Heap.get?_update_ne _ _ _ _ hb).trans (Heap.get?_push_of_some _ ho))
    · exact (hs.2 x hxs).trans (Heap.get?_update_self _ hx₁ rfl)
end
end KX
end PySem

namespace L2
open PySem PySem.Spec PyProof.Rows PySem.KX
/-- what the written part says of an own class over bm with its own __init__ -/
structure XCls (K : PySem.W.Frag) (C : Addr) (newId : String) (bm : List Value) : Prop where
  cls : ∃ nm q N bs sn sub ab col dd k0 k1 k2 k3 k5, K.lookup C = some (excClassObj nm q C N bs bm true sn sub ab col dd k0 k1 k2 k3 k5 newId)
  sa : PySem.W.findIn K (.ref C) "__setattr__" = some (some (.builtin "object.__setattr__"))
  exC : PySem.W.subIn K (.ref C) (.type "BaseException") = some true
  tyC : PySem.W.typeIn K (.ref C) = some (.type "type")
  kC : PySem.W.keepIn K (.ref C) = true
section
variable {X : Cx} {pins : List (Addr × Obj)} {σ : St} {H : Hp} {s : Shared} {a C dx : Addr} {f : Str} {y : V} {u : Value} {fs : List (Str × V)} {Q : Unit → Shared → Prop} {E : Value → Shared → Prop} {A : Around} {Bi newId initId : String} {bm : List Value}
theorem ost_newX (B : XB Bi newId initId bm) (T : XCls X.K C newId bm) (I : Inv X pins σ H s) (e : H a = some (exo a C none)) (hno : PySem.W.findIn X.K (.ref C) f = some none) (ry : RelV y u)
    (h : ∀ dx s', H dx = none → dx ≠ a → Inv X pins σ (upd (upd H dx (exd dx [(f, y)])) a (exo a C (some dx))) s' → Q () s') : wpAny (model X.prog X.w) A (setAttr (.ref a) f u) Q E s := by
  obtain ⟨nm, q, N, bs, sn, sub, ab, col, dd, k0, k1, k2, k3, k5, hC⟩ := T.cls
  have hcl : PySem.W.clsIn X.K C = some { name := nm, bases := bs, mro := .ref C :: bm, ns := N, qualname := q, hasDict := true, slotNames := sn, subclasses := sub, abstract := ab, collection := col, hasDel := false } := by unfold PySem.W.clsIn; rw [hC] <;> rfl
  obtain ⟨t1, ho⟩ := exo_at I.hok e
  obtain ⟨hp, g, d, t, os⟩ := s
  refine PySem.W.set_plain I.kIn (ox := { cls := .ref C, dict := none, data := .fields #[.ref t1, .none, .none, .none, .bool false, .none] }) (od := none) ⟨ho, rfl, rfl, trivial⟩ T.sa ?_
  refine PySem.KX.exc_osaX I.kIn ho hcl rfl B.pass B.obj rfl hno (fun h' tk' dx k dn dne hx hn => ?_)
  have hnd : H dx = none := I.hok.fresh dn
  have nd : ∀ {b : Addr} {o : Obj}, hp.get? b = some o → b ≠ dx := fun {b o} q => Nat.ne_of_lt (Nat.lt_of_lt_of_le (Heap.lt_size q) dn)
  have na : ∀ {b : Addr}, H b = none → b ≠ a := fun {b} n z => by
    rw [z, e] at n
    cases n
  have Un1 : Un X.fs [] H (upd (upd H dx (exd dx [(f, y)])) a (exo a C (some dx))) hp h' := {
    keep := fun b o q n _ _ => k b o (na n) q
    slot := fun b o q n _ _ => ⟨o.slots, k b o (na n) q⟩
    free := fun b o q n _ => by rw [upd_ne (na n), upd_ne (nd q)]; exact n
    there := fun b o q _ => by
      by_cases hb : b = a
      · exact ⟨_, by rw [hb]; exact hx⟩
      · exact ⟨o, k b o hb q⟩
    tups := fun b xs q => by rw [upd_ne (at_ne e q exo_tup), upd_ne (ne_of_none q hnd)]; exact q
    frzs := fun b o v q => by rw [upd_ne (at_ne e q exo_frz), upd_ne (ne_of_none q hnd)]; exact q
    tbls := fun b ps q => ⟨#[], by rw [upd_ne (at_ne e q exo_tbl), upd_ne (ne_of_none q hnd), q]; simp⟩ }
  refine h dx _ hnd dne (I.un (t' := tk') Un1 fun b o q => ?_)
  by_cases hb : b = a
  · subst hb
    rw [upd_same] at q
    cases q
    exact exo_ok hx
  · rw [upd_ne hb] at q
    by_cases hd : b = dx
    · subst hd
      rw [upd_same] at q
      cases q
      exact exd_ok hn (relO_put (fs := []) ry fun g => True.intro)
    · rw [upd_ne hd] at q
      exact (I.hok b o q).stay (fun c v hc z => k c v (by
          rcases hc with hc | hc
          · rw [hc]
            exact hb
          · exact at_ne e hc exo_own) z)
        (fun c hc => by rw [upd_ne (at_ne e hc exo_own), upd_ne (ne_of_none hc hnd)]; exact hc) (fun c xs hc => by rw [upd_ne (at_ne e hc exo_tup), upd_ne (ne_of_none hc hnd)]; exact hc)
theorem oinit_okX {us : List Value} {Q : Value → Shared → Prop} (B : XB Bi newId initId bm) (T : XCls X.K C newId bm) (I : Inv X pins σ H s) (e : H a = some (exo a C none)) (hl : us.length ≤ sizeLine) (h : ∀ s', Inv X pins σ H s' → Q .none s') :
    wpAny (model X.prog X.w) A (call (.builtin initId) (.ref a :: us)) Q E s := by
  obtain ⟨nm, q, N, bs, sn, sub, ab, col, dd, k0, k1, k2, k3, k5, hC⟩ := T.cls
  obtain ⟨t1, ho⟩ := exo_at I.hok e
  obtain ⟨hp, g, d, t, os⟩ := s
  refine wpAny_call (PySem.KX.init_baseX B.ini B.hasI (I.kIn _ _ hC) ho hl fun h' t2 k hx => ?_)
  have J := I.write (t' := t) (x := a) (e := a) (o := exo a C none) (by rw [e]; exact True.intro) (.inl rfl) k ⟨_, hx⟩ (exo_ok hx)
  have eu : upd H a (exo a C none) = H := by
    funext b
    by_cases hb : b = a
    · rw [hb, upd_same, e]
    · rw [upd_ne hb]
  rw [eu] at J
  exact h _ J
end
/-- KeyError.__init__(self, ..) and its like -/
def tXI (K : PySem.W.Frag) (newId : String) (bm : List Value) (ta : TA) : TE := fun σ H Q => ta σ H fun vs H1 => ∃ (a C : Addr) (ws : List V), vs = .ref a :: ws ∧ ws.length ≤ 1000 ∧ XCls K C newId bm ∧ H1 a = some (exo a C none) ∧ Q .non H1
/-- self.f = e, the first one -/
def tXS (K : PySem.W.Frag) (newId : String) (bm : List Value) (f : Str) (to te : TE) : TS := fun D σ H => te σ H fun y H1 => to σ H1 fun x H2 => ∃ a C : Addr, x = .ref a ∧ XCls K C newId bm ∧ PySem.W.findIn K (.ref C) f = some none ∧
  H2 a = some (exo a C none) ∧ ∀ dx, H2 dx = none → dx ≠ a → D.nx σ (upd (upd H2 dx (exd dx [(f, y)])) a (exo a C (some dx)))
section
variable {X : Cx} {o e : Expr} {es : List Expr} {to te : TE} {ta : TA} {f : Str} {p p' p1 p2 pos : Pos} {Bi newId initId : String} {bm : List Value}
end
end L2

set_option Elab.async false
set_option linter.all false
set_option maxRecDepth 100000
set_option maxHeartbeats 4000000
namespace L2
open PySem PySem.Spec PyProof.Rows PySem.KX
section
variable {X : Cx} {o e : Expr} {es : List Expr} {to te : TE} {ta : TA} {f : Str} {p p' p1 p2 pos : Pos} {Bi newId initId : String} {bm : List Value}
theorem pe_xini {x : Str} {pl : Sem Bool} (B : XB Bi newId initId bm) (hm : X.mg x = none) (hbt : bootBuiltins x = some (.type Bi)) (hty : typeOf (.type Bi) = pure (.type "type")) (hst : Manifest.isStub Bi = false) (hh : PySem.W.handedIn (.builtin initId) = true)
    (vV : PySem.W.findCls X.K (.type Bi) (.type "type") "__init__" = some (.val (.builtin initId))) (ha : PA X (e :: es) ta) (hg : Gl X x := by rfl) (hn : x ≠ "__name__" := by decide) (hdb : (x == ("__debug__" : Str)) = false := by decide)
    (hc : eval (.Call (.Attribute (.Name x p1) "__init__" p2) (e :: es) [] pos) X.env = (do
      let ov ← eval (.Name x p1) X.env
      standAt p2.atName
      let (f, first) ← holding [ov] (getMethod ov "__init__" pl)
      callWith pos f first (backTo pos (starEach (e :: es) X.env)) (backToKw pos (keywordEach [] X.env))) := by rfl)
    (he : starEach (e :: es) X.env = (false, eval e X.env) :: starEach es X.env := by rfl) (hpl : (backTo pos (starEach es X.env)).any (·.1) = false := by rfl) :
    PE X (.Call (.Attribute (.Name x p1) "__init__" p2) (e :: es) [] pos) (tXI X.K newId bm ta) := by
  refine ⟨fun pins s σ H Q I h => ?_⟩
  refine PySem.W.methodCall_KW (ld_blt I hg hm hbt ?_ hn hdb) hc
  obtain ⟨m, fr⟩ := I.fr
  refine PySem.W.method_type fr I.ok.mod.kin hty hst vV hh ?_
  show wpAny _ _ (callWith pos (Value.builtin initId) [] (backTo pos (starEach (e :: es) X.env)) []) _ _ _
  refine PyProof.Rows.callWith_method1 (thn (ha.run pos pins _ σ H _ (I.tok _) h) fun us s1 ⟨vs, H1, I1, r1, a, C, ws, ev, hl, T, ea, q⟩ => ?_) he hpl
  subst ev
  cases r1 with
  | @cons _ u0 _ ur ra rw' =>
    obtain rfl : u0 = Value.ref a := ra
    have hlen : ur.length ≤ sizeLine := by
      rw [← Paired.length rw', sizeLine_eq]
      omega
    exact oinit_okX B T I1 ea hlen fun s' J => ⟨.non, H1, J, rfl, q⟩
theorem ps_xs (B : XB Bi newId initId bm) (ho : PE X o to) (he : PE X e te) (hs : swapsWith e (some (.Attribute o f p')) pos.line X.env = pure false := by rfl) : PS X (.Assign [.Attribute o f p'] e pos) (tXS X.K newId bm f to te) := by
  refine ⟨fun pins s σ H D I h => ?_⟩
  refine plainObj_wpAny_Assign_Attribute (thn (he.run pins s σ H _ I h) fun v s1 ⟨y, H1, I1, r1, q1⟩ => thn (ho.run pins s1 σ H1 _ I1 q1) fun u s2 ⟨x, H2, I2, r2, a, C, ex, T, hno, ea, q⟩ => ?_) hs
  subst ex
  obtain rfl : u = Value.ref a := r2
  exact ost_newX B T I2 ea hno r1 fun dx s' n ne J => ⟨σ, _, J, q dx n ne⟩
/-- C(e, ..) as a value, C's own __init__ keeping sp -/
def tMkV (C : Addr) (sp : Sp) (ta : TA) : TE := fun σ H Q => ta σ H fun vs H1 => vs.length ≤ 1000 ∧ ∀ a, H1 a = none → sp (.ref a :: vs) (upd H1 a (exo a C none)) (fun v H2 => v = .non ∧ Q (.ref a) H2) (fun _ _ _ => False)
theorem run_oexX {CX : CXT} {C fI : Addr} {k : Nat} {fd : FuncData} {ps : List Str} {sp : Sp} (B : XB Bi newId initId bm) (T : XCls X.K C newId bm) (iC : PySem.W.findIn X.K (.ref C) "__init__" = some (some (.ref fI))) (tI : PySem.W.typeIn X.K (.ref fI) = some (.type "function"))
    (F1 : FnOk X.prog X.w X.K X.mg X.base CX k fI fd ps sp) (hr : Room (k + 1) X.A) (hb : Binds X.K fd ps []) (hx : Passes CX X (fun _ _ _ => False)) {pins : List (Addr × Obj)} {σ : St} {H1 : Hp} {vs : List V} {us : List Value} {hp : Heap} {g : Array GenState} {dr : Drawn} {tk : Nat} {os : OsState} {R : V → Hp → Prop}
    {Q : Value → Shared → Prop}
    (I1 : Inv X pins σ H1 ⟨hp, g, dr, tk, os⟩) (r1 : Vals vs us) (hz : vs.length ≤ 1000) (hq : sp (.ref (hp.objs.size + 1) :: vs) (upd H1 (hp.objs.size + 1) (exo (hp.objs.size + 1) C none)) R (fun _ _ _ => False))
    (fin : ∀ u s', Inv X pins σ (upd H1 (hp.objs.size + 1) (exo (hp.objs.size + 1) C none)) ⟨(hp.push (PySem.W.kdv_tup us)).push (PySem.HandSPX.excO C hp.objs.size), g, dr, tk, os⟩ →
      CE X.stack X.prog X.w (upd H1 (hp.objs.size + 1) (exo (hp.objs.size + 1) C none)) ⟨(hp.push (PySem.W.kdv_tup us)).push (PySem.HandSPX.excO C hp.objs.size), g, dr, tk, os⟩ R u s' → u = .none ∧ Q (.ref (hp.objs.size + 1)) s') :
    wpAny (model X.prog X.w) X.A (call (.ref C) us) Q X.xe ⟨hp, g, dr, tk, os⟩ := by
  obtain ⟨nm, q, N, bs, sn, sub, ab, col, dd, k0, k1, k2, k3, k5, hC⟩ := T.cls
  obtain ⟨Bn, I0, bm0, FB, hB⟩ := B.fn
  have hsz : hp.objs.size ≤ hp.objs.size + 1 := Nat.le_succ _
  have kk : ∀ b o, hp.get? b = some o → ((hp.push (PySem.W.kdv_tup us)).push (PySem.HandSPX.excO C hp.objs.size)).get? b = some o := fun b o e => Heap.get?_push_of_some _ (Heap.get?_push_of_some _ e)
  have hget : ((hp.push (PySem.W.kdv_tup us)).push (PySem.HandSPX.excO C hp.objs.size)).get? (hp.objs.size + 1) = some (PySem.HandSPX.excO C hp.objs.size) := by heap_get
  have I2 : Inv X pins σ (upd H1 (hp.objs.size + 1) (exo (hp.objs.size + 1) C none)) ⟨(hp.push (PySem.W.kdv_tup us)).push (PySem.HandSPX.excO C hp.objs.size), g, dr, tk, os⟩ :=
    I1.laid (t' := tk) (a := hp.objs.size + 1) (o := exo (hp.objs.size + 1) C none) (h' := (hp.push (PySem.W.kdv_tup us)).push (PySem.HandSPX.excO C hp.objs.size)) kk hsz (exo_ok hget)
  have r2 : Vals (V.ref (hp.objs.size + 1) :: vs) (Value.ref (hp.objs.size + 1) :: us) := .cons rfl r1
  have hl : (Value.ref (hp.objs.size + 1) :: us).length = ps.length := by
    have e := r2.length
    rw [F1.len _ _ _ _ hq] at e
    exact e.symm
  have hus : us.length ≤ sizeLine := by
    rw [← Paired.length r1, sizeLine_eq]
    omega
  have hb2 := hb ⟨(hp.push (PySem.W.kdv_tup us)).push (PySem.HandSPX.excO C hp.objs.size), g, dr, tk, os⟩ (Value.ref (hp.objs.size + 1) :: us) I2.kIn (by rw [List.append_nil]; exact hl)
  rw [List.append_nil] at hb2
  refine wpAny_call (PySem.KX.callX FB hB B.noA B.noN (I1.kIn _ _ hC) (PySem.W.looks_findIn I1.kIn iC) (fun self => PySem.W.bind_fn I1.kIn self tI) hus
    (codeAny_mono (F1.run _ X.stack _ _ ⟨Value.ref (hp.objs.size + 1) :: us, []⟩ (Value.ref (hp.objs.size + 1) :: us) _ _ (fun _ _ _ => False) (hr.make C us []) (I2.env0.make C us []) hb2 r2 hq) fun r s' hq' => ?_))
  cases r with
  | error er => exact hx pins σ _ _ er s' I2 hq'
  | ok fl =>
    cases fl with
    | ret u => exact fin u s' I2 hq'
    | next => exact False.elim hq'
    | brk => exact False.elim hq'
    | cont => exact False.elim hq'
theorem pe_oexX {CX : CXT} {x : Str} {C fI : Addr} {k : Nat} {fd : FuncData} {ps : List Str} {sp : Sp} (B : XB Bi newId initId bm) (T : XCls X.K C newId bm) (iC : PySem.W.findIn X.K (.ref C) "__init__" = some (some (.ref fI))) (tI : PySem.W.typeIn X.K (.ref fI) = some (.type "function"))
    (F1 : FnOk X.prog X.w X.K X.mg X.base CX k fI fd ps sp) (hr : Room (k + 1) X.A) (hb : Binds X.K fd ps []) (hx : Passes CX X (fun _ _ _ => False)) (hm : X.mg x = some (.ref C)) (ha : PA X (e :: es) ta) (hg : Gl X x := by rfl)
    (hdb : (x == ("__debug__" : Str)) = false := by decide) (he : starEach (e :: es) X.env = (false, eval e X.env) :: starEach es X.env := by rfl) (hpl : (backTo pos (starEach es X.env)).any (·.1) = false := by rfl) :
    PE X (.Call (.Name x p) (e :: es) [] pos) (tMkV C sp ta) := by
  refine ⟨fun pins s σ H Q I h => ?_⟩
  refine wpAny_Call_Name_kw (ld_glob I hg hm ?_ hdb)
  refine PySem.W.callWith_K (h₀ := X.base) I.ok.mod.kin T.kC (thn (ha.run pos pins s σ H _ I h) fun us s1 ⟨vs, H1, I1, r1, hz, q1⟩ => ⟨I1.kIn, ?_⟩) he hpl
  obtain ⟨hp, g, dr, tk, os⟩ := s1
  refine run_oexX B T iC tI F1 hr hb hx I1 r1 hz (q1 _ (I1.hok.fresh (Nat.le_succ _))) fun u s' I2 hq' => ?_
  obtain ⟨v, H', I3, rv, ev, q3⟩ := I2.after hq'
  subst ev
  exact ⟨rv, ⟨V.ref (hp.objs.size + 1), H', ⟨I3.ok, I3.os, I3.bare, I3.base, I3.loc, I3.cell, I3.free, I3.freeC, I3.pin, I3.hok, I3.len⟩, rfl, q3⟩⟩
end
end L2

set_option Elab.async false
set_option linter.all false
set_option maxRecDepth 100000
set_option maxHeartbeats 4000000
namespace L2
open PySem PySem.Spec PyProof.Rows PySem.KX
section
variable {X : Cx} {o e : Expr} {es : List Expr} {to te : TE} {ta : TA} {f : Str} {p p' p1 p2 pos : Pos} {Bi newId initId : String} {bm : List Value}
/-- raise C(e, ..): the error's own dict is new -/
def tMkX (C : Addr) (sp : Sp) (ta : TA) : St → Hp → XK → Prop := fun σ H Q => ta σ H fun vs H1 => vs.length ≤ 1000 ∧ ∀ a, H1 a = none → sp (.ref a :: vs) (upd H1 a (exo a C none))
  (fun v H2 => v = .non ∧ ∃ (d : Addr) (fs : List (Str × V)), H2 a = some (exo a C (some d)) ∧ H2 d = some (exd d fs) ∧ H1 d = none ∧ Q (.ref C) (some d) (upd (del H2 a) d (.xd fs))) (fun _ _ _ => False)
theorem pmk_oexX {CX : CXT} {x : Str} {C fI : Addr} {k : Nat} {fd : FuncData} {ps : List Str} {sp : Sp} (B : XB Bi newId initId bm) (T : XCls X.K C newId bm) (iC : PySem.W.findIn X.K (.ref C) "__init__" = some (some (.ref fI))) (tI : PySem.W.typeIn X.K (.ref fI) = some (.type "function"))
    (F1 : FnOk X.prog X.w X.K X.mg X.base CX k fI fd ps sp) (hr : Room (k + 1) X.A) (hb : Binds X.K fd ps []) (hx : Passes CX X (fun _ _ _ => False)) (hm : X.mg x = some (.ref C)) (ha : PA X (e :: es) ta) (hg : Gl X x := by rfl)
    (hdb : (x == ("__debug__" : Str)) = false := by decide) (he : starEach (e :: es) X.env = (false, eval e X.env) :: starEach es X.env := by rfl) (hpl : (backTo pos (starEach es X.env)).any (·.1) = false := by rfl) :
    PMk X (.Call (.Name x p) (e :: es) [] pos) (tMkX C sp ta) := by
  intro pins s σ H Q I h
  refine wpAny_Call_Name_kw (ld_glob I hg hm ?_ hdb)
  refine PySem.W.callWith_K (h₀ := X.base) I.ok.mod.kin T.kC (thn (ha.run pos pins s σ H _ I h) fun us s1 ⟨vs, H1, I1, r1, hz, q1⟩ => ⟨I1.kIn, ?_⟩) he hpl
  obtain ⟨hp, g, dr, tk, os⟩ := s1
  have kk : ∀ b o, hp.get? b = some o → ((hp.push (PySem.W.kdv_tup us)).push (PySem.HandSPX.excO C hp.objs.size)).get? b = some o := fun b o e => Heap.get?_push_of_some _ (Heap.get?_push_of_some _ e)
  refine run_oexX B T iC tI F1 hr hb hx I1 r1 hz (q1 _ (I1.hok.fresh (Nat.le_succ _))) fun u s' I2 hq' => ?_
  obtain ⟨v, H2, os2, bare2, un2, hok2, rv, ev, d, fs, ea, ed, hd1, q2⟩ := hq'
  subst ev
  obtain ⟨h2, g2, d2, t2, os'⟩ := s'
  exact ⟨rv, mk_end (raises_own T.exC T.tyC) I1 (Nat.le_succ _) kk un2 hok2 os2 bare2 ea ed hd1 q2⟩
/-- e.f, e an exception held as a value -/
def tXA (K : PySem.W.Frag) (f : Str) (te : TE) : TE := fun σ H Q => te σ H fun x H1 => ∃ (a C d : Addr) (fs : List (Str × V)) (v : V), x = .ref a ∧ H1 a = some (exo a C (some d)) ∧ H1 d = some (exd d fs) ∧ XfC K C ∧ PySem.W.findIn K (.ref C) f = some none ∧ fs.lookup f = some v ∧ Q v H1
theorem pe_attr {n : Str} (he : PE X e te) (hb : attributeBase e n X.env (eval e X.env) = eval e X.env := by rfl) : PE X (.Attribute e n pos) (tXA X.K n te) := by
  refine ⟨fun pins s σ H Q I h => ?_⟩
  refine attr_of hb (thn (he.run pins s σ H _ I h) fun u s1 hh => ?_)
  obtain ⟨x, H1, I1, rx, a, C, d, fs, v, ex, ea, ed, T, hno, l, q⟩ := hh
  subst ex
  obtain rfl : u = Value.ref a := rx
  obtain ⟨t1, ho⟩ := exo_at I1.hok ea
  obtain ⟨mA, hns, hr⟩ := exd_at I1.hok ed
  obtain ⟨od, hod, hl⟩ := lookIn_ns hns
  obtain ⟨u, hu, ru⟩ := RelO.some_of (v := v) (o := mA n) (by rw [← l]; exact hr n)
  have J : PySem.W.InstAt s1.heap a ({ cls := .ref C, dict := some d, data := .fields #[.ref t1, .none, .none, .none, .bool false, .none] } : Obj) C (some od) := ⟨ho, rfl, rfl, hod⟩
  exact HandSPX.exc_get I1.kIn J T.ga T.gg T.exC (PySem.W.findObj_own T.hdC hno rfl (by rw [hl, hu])) (handed_of ru) ⟨v, H1, I1.tok _, ru, q⟩
/-- an exception with one argument (its tuple at t), no dict -/
def exM (C t a : Addr) : HO := .ext fun h => h.get? a = some ({ cls := .ref C, dict := none, data := .fields #[.ref t, .none, .none, .none, .bool false, .none] } : Obj)
theorem exM_ok {P : Program} {w : World} {H : Hp} {h : Heap} {a C t : Addr} (he : h.get? a = some ({ cls := .ref C, dict := none, data := .fields #[.ref t, .none, .none, .none, .bool false, .none] } : Obj)) : ObjOk P w H h a (exM C t a) :=
  ⟨he, ⟨_, he⟩, fun h1 h2 z k => k _ z⟩
theorem exM_at {P : Program} {w : World} {H : Hp} {h : Heap} {a C t : Addr} (hok : HOk P w H h) (he : H a = some (exM C t a)) : h.get? a = some ({ cls := .ref C, dict := none, data := .fields #[.ref t, .none, .none, .none, .bool false, .none] } : Obj) := by
  have x : ObjOk P w H h a (.ext fun h => h.get? a = some ({ cls := .ref C, dict := none, data := .fields #[.ref t, .none, .none, .none, .bool false, .none] } : Obj)) := hok a _ he
  exact x.1
/-- X(e), an own exception class without own __init__, as a value -/
def tXM (C : Addr) (te : TE) : TE := fun σ H Q => te σ H fun v H1 => ∀ t a, H1 t = none → H1 a = none → a ≠ t → Q (.ref a) (upd (upd H1 t (.tup [v])) a (exM C t a))
theorem pe_excT {C : Addr} {bmB : List Value} {B newId initId : String} {x : Str} {e : Expr} {te : TE} {p pos : Pos} (F : ExcBaseFacts B newId initId bmB) (q : PySem.W.excIn X.K C bmB newId = true) (gC : X.mg x = some (.ref C)) (kC : PySem.W.keepIn X.K (.ref C) = true) (he : PE X e te) (hg : Gl X x := by rfl)
    (hs : starEach [e] X.env = (false, eval e X.env) :: starEach [] X.env := by rfl) (hdb : (x == ("__debug__" : Str)) = false := by decide) :
    PE X (.Call (.Name x p) [e] [] pos) (tXM C te) := by
  refine ⟨fun pins s σ H Q I h => ?_⟩
  refine wpAny_Call_Name_kw (ld_glob I hg gC ?_ hdb)
  refine PySem.W.callWith_K (h₀ := X.base) I.ok.mod.kin kC ?_ hs (by rfl)
  rw [hs]
  show wpAny _ _ (spliced ((false, eval e X.env) :: backTo pos (starEach [] X.env))) _ _ s
  refine Calls.spliced_cons (thn (he.run pins s σ H _ I h) fun u s1 ⟨v, H1, I1, r1, q1⟩ => ?_)
  refine Calls.spliced_nil ⟨I1.kIn, ?_⟩
  show wpAny _ _ (call (.ref C) [u]) _ _ _
  obtain ⟨bm, N, nm, qn, bs, hdct, sn, sub, ab, col, dd, k0, k1, k2, k3, k5, mN, hC, hN, hni, T⟩ := exc_obj I1.kIn q
  refine wpAny_call_exc_subT F T hC hN hni (fun h' a hm => ?_) (by show 1 ≤ sizeLine; rw [sizeLine_eq]; omega)
  have hn : H1 a = none := I1.hok.gone hm.new
  obtain ⟨t, ha, hnt, ht⟩ := hm.there
  have htn : H1 t = none := I1.hok.gone hnt
  have hat : a ≠ t := fun z => by
    rw [z, ht] at ha
    cases ha
  -- first the arguments, then the exception
  have un : Un X.fs [] H1 (upd (upd H1 t (.tup [v])) a (exM C t a)) s1.heap h' := {
    keep := fun b o z n _ _ => hm.keeps b o z
    slot := fun b o z n _ _ => ⟨o.slots, hm.keeps b o z⟩
    free := fun b o z n _ => by
      have nb : b ≠ a := fun y => by rw [y, hm.new] at z; cases z
      have nt : b ≠ t := fun y => by rw [y, hnt] at z; cases z
      rw [upd_ne nb, upd_ne nt]; exact n
    there := fun b o z _ => ⟨o, hm.keeps b o z⟩
    tups := fun b xs z => by rw [upd_ne (ne_of_none z hn), upd_ne (ne_of_none z htn)]; exact z
    frzs := fun b o u z => by rw [upd_ne (ne_of_none z hn), upd_ne (ne_of_none z htn)]; exact z
    tbls := fun b ps z => ⟨#[], by rw [upd_ne (ne_of_none z hn), upd_ne (ne_of_none z htn), z]; simp⟩ }
  have ok2 : HOk X.prog X.w (upd (upd H1 t (.tup [v])) a (exM C t a)) h' := fun b o z => by
    by_cases hb : b = a
    · subst hb
      rw [upd_same] at z
      cases z
      exact exM_ok ha
    · rw [upd_ne hb] at z
      by_cases hb2 : b = t
      · subst hb2
        rw [upd_same] at z
        cases z
        refine ⟨by show 1 ≤ sizeLine; rw [sizeLine_eq]; omega, [u], .cons r1 .nil, ⟨_, ht, rfl, _, rfl⟩⟩
      · rw [upd_ne hb2] at z
        exact (I1.hok b o z).stay (fun c w' _ y => hm.keeps c w' y) (fun c y => by rw [upd_ne (ne_of_none y hn), upd_ne (ne_of_none y htn)]; exact y) fun c xs y => by rw [upd_ne (ne_of_none y hn), upd_ne (ne_of_none y htn)]; exact y
  exact ⟨.ref a, _, I1.un (t' := s1.toks) un ok2, rfl, q1 t a htn hn hat⟩
/-- what isinstance asks of an own exception class -/
structure XI (K : PySem.W.Frag) (C : Addr) : Prop where
  cl : (PySem.W.clsIn K C).isSome = true
  ga : PySem.W.findIn K (.ref C) "__getattribute__" = some (some (.builtin "BaseException.__getattribute__"))
  gg : PySem.W.findIn K (.ref C) "__getattr__" = some none
  ex : PySem.W.subIn K (.ref C) (.type "BaseException") = some true
  ca : PySem.W.findIn K (.ref C) "__class__" = some (some (.builtin "object.__class__"))
  cn : PySem.W.specialIn K (.builtin "object.__class__") "__get__" = some (some (.builtin "getset_descriptor.__get__"))
  ct : PySem.W.takesIn K (.builtin "object.__class__") = some true
  mo : PySem.W.mroIn K C (.type "object") = some true
def xiB (K : PySem.W.Frag) (C : Addr) : Bool := (PySem.W.clsIn K C).isSome && (decide (PySem.W.findIn K (.ref C) "__getattribute__" = some (some (.builtin "BaseException.__getattribute__"))) && (decide (PySem.W.findIn K (.ref C) "__getattr__" = some none) &&
  (decide (PySem.W.subIn K (.ref C) (.type "BaseException") = some true) && (decide (PySem.W.findIn K (.ref C) "__class__" = some (some (.builtin "object.__class__"))) && (decide (PySem.W.specialIn K (.builtin "object.__class__") "__get__" = some (some (.builtin "getset_descriptor.__get__"))) &&
  (decide (PySem.W.takesIn K (.builtin "object.__class__") = some true) && decide (PySem.W.mroIn K C (.type "object") = some true)))))))
theorem xiB_ok {K : PySem.W.Frag} {C : Addr} (h : xiB K C = true) : XI K C := by
  obtain ⟨h1, h⟩ := Bool.and_eq_true_iff.mp h
  obtain ⟨h2, h⟩ := Bool.and_eq_true_iff.mp h
  obtain ⟨h3, h⟩ := Bool.and_eq_true_iff.mp h
  obtain ⟨h4, h⟩ := Bool.and_eq_true_iff.mp h
  obtain ⟨h5, h⟩ := Bool.and_eq_true_iff.mp h
  obtain ⟨h6, h⟩ := Bool.and_eq_true_iff.mp h
  obtain ⟨h7, h8⟩ := Bool.and_eq_true_iff.mp h
  exact ⟨h1, of_decide_eq_true h2, of_decide_eq_true h3, of_decide_eq_true h4, of_decide_eq_true h5, of_decide_eq_true h6, of_decide_eq_true h7, of_decide_eq_true h8⟩
/-- a value's type, exceptions of own classes too -/
inductive TyE (K : PySem.W.Frag) (H : Hp) : V → Value → Prop where
  | x {v : V} {t : Value} (h : TyX K H v t) : TyE K H v t
  | m {a C t : Addr} (e : H a = some (exM C t a)) (c : XI K C) : TyE K H (.ref a) (.ref C)
  | o {a C d : Addr} {fs : List (Str × V)} (e : H a = some (exo a C (some d))) (ed : H d = some (exd d fs)) (c : XI K C) : TyE K H (.ref a) (.ref C)
/-- isinstance(x, c), c a class -/
def rIsiE (K : PySem.W.Frag) : List V → Hp → VK → Prop := fun xs H Q => ∃ (x c : V) (t u : Value) (b : Bool), xs = [x, c] ∧ ClsV c u ∧ TyE K H x t ∧ PySem.W.kitOne K t u = some b ∧ Q (.bl b) H
theorem call_isiA : CallR X (.builtin "isinstance") (rIsiE X.K) := by
  intro pins s σ H xs us Q I r h
  obtain ⟨x, c, t, u, b, rfl, k, ty, e, q⟩ := h
  cases ty with
  | x ty => exact call_isi pins s σ H _ us Q I r ⟨x, c, t, u, b, rfl, k, ty, e, q⟩
  | @m a C t1 ea T =>
    obtain ⟨u1, u2, rfl, r1, r2⟩ := vals2 r
    have e2 := k.eq r2
    subst e2
    obtain rfl : u1 = Value.ref a := r1
    have ho := exM_at I.hok ea
    exact PySem.W.kia_one (PySem.W.kitx_exc (od := none) T.cl T.ga T.gg T.ex T.ca T.cn T.ct T.mo) I.kIn ⟨ho, rfl, rfl, trivial⟩ e (fun z => nomatch z) fun tk => ⟨.bl b, H, I.tok tk, rfl, q⟩
  | @o a C d fs ea ed T =>
    obtain ⟨u1, u2, rfl, r1, r2⟩ := vals2 r
    have e2 := k.eq r2
    subst e2
    obtain rfl : u1 = Value.ref a := r1
    obtain ⟨t1, ho⟩ := exo_at I.hok ea
    obtain ⟨mA, hns, hr⟩ := exd_at I.hok ed
    obtain ⟨od, hod, hl⟩ := lookIn_ns hns
    exact PySem.W.kia_one (PySem.W.kitx_exc (od := some od) T.cl T.ga T.gg T.ex T.ca T.cn T.ct T.mo) I.kIn ⟨ho, rfl, rfl, hod⟩ e (fun z => nomatch z) fun tk => ⟨.bl b, H, I.tok tk, rfl, q⟩
/-- str(x): of a text; of an exception made with one text -/
def rStrA (K : PySem.W.Frag) : List V → Hp → VK → Prop := fun xs H Q => match xs with
  | [.str a] => Q (.str a) H
  | [.ref a] => ∃ (C t : Addr) (m : Str), H a = some (exM C t a) ∧ H t = some (.tup [.str m]) ∧ PySem.W.findIn K (.ref C) "__str__" = some (some (.builtin "BaseException.__str__")) ∧ PySem.W.subIn K (.ref C) (.type "BaseException") = some true ∧ Q (.str m) H
  | _ => False
theorem call_strA (hu : X.A.units + 64 < cLine) : CallR X (.type "str") (rStrA X.K) := by
  intro pins s σ H xs us Q I r h
  unfold rStrA at h
  split at h
  · exact SkE.call_str_str pins s σ H _ us Q I r ⟨_, rfl, h⟩
  · rename_i a
    obtain ⟨C, t, m, ea, et, hs, hB, q⟩ := h
    obtain ⟨u, rfl, ru⟩ := vals1 r
    obtain rfl : u = Value.ref a := ru
    have ho := exM_at I.hok ea
    obtain ⟨its, rv, ⟨ot, hot, hc, n, hd⟩, _⟩ := I.tuple (SqT.of et)
    cases rv with
    | cons r1 r2 =>
      cases r2
      obtain ⟨tk, rfl⟩ := r1
      exact PySem.P.str_of_C_one (by omega) ⟨I.kIn, _, _, ho, rfl, rfl, rfl⟩ ⟨ot, n, hot, hc, hd⟩ hs hB ⟨.str m, H, I, ⟨tk, rfl⟩, q⟩
  · exact h.elim
/-- repr(x) of data -/
def rReprD (K : PySem.W.Frag) : List V → Hp → VK → Prop := fun xs H Q => ∃ (a : Addr) (d : PyData), xs = [.ref a] ∧ Dp K H (.ref a) d ∧ d.showable = true ∧ d.hasDict = false ∧ d.depth ≤ 60 ∧ d.shown.length ≤ sizeLine ∧ Q (.str d.shown) H
theorem call_reprA {k : Nat} (hr : RoomG k X.A) : CallR X (.builtin "repr") (rReprD X.K) := by
  intro pins s σ H xs us Q I r h
  obtain ⟨a, d, rfl, hd, h1, h2, h3, h4, q⟩ := h
  obtain ⟨u, rfl, ru⟩ := vals1 r
  obtain rfl : u = Value.ref a := ru
  obtain ⟨as, rd⟩ := Dp.reads I d _ _ hd rfl
  have hu := hr.units64
  exact repr_of_reads' (h₀ := s.heap) rd h1 (PyData.noDict_hsm h2) hr.g (by omega) (fun _ _ e => e) (fun h' u tk hk => ⟨.str d.shown, H, I.kept (t' := tk) hk, ⟨u, rfl⟩, q⟩) h4
end
end L2

set_option Elab.async false
set_option linter.all false
set_option maxRecDepth 100000
set_option maxHeartbeats 4000000
/-! Data on the abstract heap. -/
namespace L2
open PySem PySem.Spec PyProof.Rows PySem.KX
section
variable {K : PySem.W.Frag} {H H' : Hp} {v : V} {vs : List V} {d : PyData} {ds : List PyData}
theorem Same.rd {H H' : Hp} {a : Addr} {u : HO} (e : Same H H') (h : Rd H a u) : Rd H' a u := by
  rcases h with h | ⟨o, h⟩
  · exact .inl (e _ _ h)
  · exact .inr ⟨o, e _ _ h⟩
theorem Same.sqT {a : Addr} {xs : List V} (e : Same H H') (h : SqT K H a xs) : SqT K H' a xs := by
  rcases h with h | h
  · exact .inl (e.rd h)
  · exact .inr h
theorem Same.sqL {a : Addr} {xs : List V} (e : Same H H') (h : SqL K H a xs) : SqL K H' a xs := e.seq h
mutual
theorem Dp.same (e : Same H H') : ∀ (d : PyData) (v : V), Dp K H v d → Dp K H' v d
  | .none, _, h => by cases h; exact .non
  | .bool b, _, h => by cases h; exact .bl b
  | .int i, _, h => by cases h; exact .int i
  | .str x, _, h => by cases h; exact .str x
  | .list ds, _, h => by
    cases h with
    | lst hs ha => exact .lst (e.sqL hs) (DpAll.same e ds _ ha)
  | .tuple ds, _, h => by
    cases h with
    | tup hs ha => exact .tup (e.sqT hs) (DpAll.same e ds _ ha)
  | .dict _, _, h => by cases h
theorem DpAll.same (e : Same H H') : ∀ (ds : List PyData) (vs : List V), DpAll K H vs ds → DpAll K H' vs ds
  | [], _, h => by cases h; exact .nil
  | d :: ds, _, h => by
    cases h with
    | cons h1 h2 => exact .cons (Dp.same e d _ h1) (DpAll.same e ds _ h2)
end
theorem DpAll.length : ∀ {vs : List V} {ds : List PyData}, DpAll K H vs ds → vs.length = ds.length
  | _, _, .nil => rfl
  | _, _, .cons _ t => congrArg (· + 1) (DpAll.length t)
theorem DpAll.get : ∀ {vs : List V} {ds : List PyData} {i : Nat} {v : V}, DpAll K H vs ds → vs[i]? = some v → ∃ d, ds[i]? = some d ∧ Dp K H v d
  | _, _, i, v, .nil, e => by simp at e
  | _, _, 0, v, .cons h _, e => by
    simp at e
    subst e
    exact ⟨_, rfl, h⟩
  | _, _, i + 1, v, .cons _ t, e => by
    obtain ⟨d, h1, h2⟩ := DpAll.get (i := i) (v := v) t (by simpa using e)
    exact ⟨d, by simpa using h1, h2⟩
theorem DpAll.snoc : ∀ {vs : List V} {ds : List PyData}, DpAll K H vs ds → Dp K H v d → DpAll K H (vs ++ [v]) (ds ++ [d])
  | _, _, .nil, h => .cons h .nil
  | _, _, .cons h1 t, h => .cons h1 (DpAll.snoc t h)
theorem depth_mem : ∀ {ds : List PyData} {i : Nat} {d : PyData}, ds[i]? = some d → d.depth ≤ PyData.depthAll ds
  | [], i, d, e => by simp at e
  | x :: xs, 0, d, e => by
    simp at e
    subst e
    simp only [PyData.depthAll]
    exact Nat.le_max_left _ _
  | x :: xs, i + 1, d, e => by
    have := depth_mem (ds := xs) (i := i) (d := d) (by simpa using e)
    simp only [PyData.depthAll]
    exact Nat.le_trans this (Nat.le_max_right _ _)
/-- the name of a datum's type -/
def tyOfD : PyData → String
  | .none => "NoneType"
  | .bool _ => "bool"
  | .int _ => "int"
  | .str _ => "str"
  | .list _ => "list"
  | .tuple _ => "tuple"
  | .dict _ => "dict"
theorem Dp.ty (h : Dp K H v d) : TyE K H v (.type (tyOfD d)) := by
  cases h with
  | non => exact .x (.base .non)
  | bl b => exact .x (.base (.bl b))
  | int i => exact .x (.base (.int i))
  | str x => exact .x (.base (.str x))
  | lst hs ha =>
    rcases hs with (hs | ⟨o, hs⟩) | ⟨o, its, n, hk, hc, _⟩
    · exact .x (.base (.lst hs))
    · exact .x (.base (.frz hs))
    · exact .x (.kList hk hc)
  | tup hs ha =>
    rcases hs with (hs | ⟨o, hs⟩) | ⟨o, its, n, hk, hc, _⟩
    · exact .x (.base (.tup hs))
    · exact .x (.fTuple hs)
    · exact .x (.kTuple hk hc)
mutual
/-- at most 1000 items in each list and tuple -/
def smallD : PyData → Bool
  | .list xs => decide (xs.length ≤ 1000) && smallAll xs
  | .tuple xs => decide (xs.length ≤ 1000) && smallAll xs
  | .dict _ => false
  | .none => true
  | .bool _ => true
  | .int _ => true
  | .str _ => true
def smallAll : List PyData → Bool
  | [] => true
  | x :: xs => smallD x && smallAll xs
end
theorem small_lst {ds : List PyData} (h : smallD (.list ds) = true) : ds.length ≤ 1000 ∧ smallAll ds = true := by
  simp only [smallD, Bool.and_eq_true, decide_eq_true_eq] at h
  exact h
theorem small_tup {ds : List PyData} (h : smallD (.tuple ds) = true) : ds.length ≤ 1000 ∧ smallAll ds = true := by
  simp only [smallD, Bool.and_eq_true, decide_eq_true_eq] at h
  exact h
theorem small_mem : ∀ {ds : List PyData} {i : Nat} {d : PyData}, smallAll ds = true → ds[i]? = some d → smallD d = true
  | [], i, d, _, e => by simp at e
  | x :: xs, 0, d, h, e => by
    simp at e
    subst e
    simp only [smallAll, Bool.and_eq_true] at h
    exact h.1
  | x :: xs, i + 1, d, h, e => by
    simp only [smallAll, Bool.and_eq_true] at h
    exact small_mem (ds := xs) (i := i) h.2 (by simpa using e)
/-- the heap without the objects at B -/
def hide (B : List Addr) (H : Hp) : Hp := fun b => if b ∈ B then none else H b
theorem hide_of {B : List Addr} {H : Hp} {b : Addr} {o : HO} (h : hide B H b = some o) : H b = some o ∧ b ∉ B := by
  unfold hide at h
  by_cases e : b ∈ B
  · rw [if_pos e] at h; cases h
  · rw [if_neg e] at h; exact ⟨h, e⟩
theorem hide_in {B : List Addr} {H : Hp} {b : Addr} (h : b ∉ B) : hide B H b = H b := if_neg h
theorem hide_sub {B : List Addr} {H : Hp} : Same (hide B H) H := fun b o e => (hide_of e).1
theorem hide_same {B : List Addr} (e : Same H H') : Same (hide B H) (hide B H') := fun b o h => by
  obtain ⟨h1, h2⟩ := hide_of h
  rw [hide_in h2]
  exact e _ _ h1
theorem hide_more {B : List Addr} {D : Addr} : Same (hide (D :: B) H) (hide B H) := fun b o h => by
  obtain ⟨h1, h2⟩ := hide_of h
  rw [hide_in (fun z => h2 (List.mem_cons_of_mem _ z))]
  exact h1
theorem hide_upd {B : List Addr} {D : Addr} {o : HO} : hide (D :: B) (upd H D o) = hide (D :: B) H := by
  funext b
  unfold hide
  by_cases e : b ∈ D :: B
  · rw [if_pos e, if_pos e]
  · rw [if_neg e, if_neg e, upd_ne (fun z => e (by rw [z]; exact List.mem_cons_self))]
theorem hide_new {B : List Addr} {D : Addr} (h : H D = none) : hide (D :: B) H = hide B H := by
  funext b
  unfold hide
  by_cases e : b = D
  · subst e
    by_cases e2 : b ∈ B
    · rw [if_pos (List.mem_cons_self), if_pos e2]
    · rw [if_pos (List.mem_cons_self), if_neg e2, h]
  · by_cases e2 : b ∈ B
    · rw [if_pos (List.mem_cons_of_mem _ e2), if_pos e2]
    · rw [if_neg (fun z => (List.mem_cons.mp z).elim e e2), if_neg e2]
theorem hide_nil : hide [] H = H := by
  funext b
  exact if_neg (by simp)
end
section
variable {X : Cx}
def rTupA (K : PySem.W.Frag) : List V → Hp → VK → Prop := fun vs H Q => match vs with
  | [.ref p] => (∃ ys, SqL K H p ys ∧ ∀ l, H l = none → Q (.ref l) (upd H l (.tup ys))) ∨ ∃ ys, SqT K H p ys ∧ Q (.ref p) H
  | _ => False
theorem call_tupleA : CallR X (.type "tuple") (rTupA X.K) := call_tuple_of.imp fun xs H Q h => by
  unfold rTupA at h
  split at h
  · rcases h with ⟨ys, h1, h2⟩ | ⟨ys, h1, h2⟩
    · exact ⟨_, ys, rfl, .inl ⟨h1, h2⟩⟩
    · exact ⟨_, ys, rfl, .inr ⟨h1, h2⟩⟩
  · exact h.elim
def rListA (K : PySem.W.Frag) : List V → Hp → VK → Prop := fun vs H Q => match vs with
  | [.ref p] => ∃ ys, (SqL K H p ys ∨ SqT K H p ys) ∧ ∀ l, H l = none → Q (.ref l) (upd H l (.lst ys))
  | _ => False
theorem call_listA : CallR X (.type "list") (rListA X.K) := call_list_of.imp fun xs H Q h => by
  unfold rListA at h
  split at h
  · obtain ⟨ys, h1, h2⟩ := h
    exact ⟨_, ys, rfl, h1, h2⟩
  · exact h.elim
end
/-- a def that other defs of the plain layer call -/
structure OwnK (P : Program) (w : World) (K : PySem.W.Frag) (mg : Str → Option Value) (base : Heap) (CX : CXT) (x : Str) (k : Nat) (ps : List Str) (sp : Sp) : Prop where
  ex : ∃ f fd, FnOk P w K mg base CX k f fd ps sp ∧ mg x = some (.ref f) ∧ PySem.W.keepIn K (.ref f) = true ∧ Binds K fd ps []
theorem OwnK.g {P : Program} {w : World} {K : PySem.W.Frag} {mg : Str → Option Value} {base : Heap} {CX : CXT} {x : Str} {k : Nat} {ps : List Str} {sp : Sp} (O : OwnK P w K mg base CX x k ps sp) : Own P w K mg base CX x k ps sp := by
  obtain ⟨f, fd, F, r⟩ := O.ex
  exact ⟨f, fd, FnG.of F, r⟩
section
variable {X : Cx} {CX : CXT} {k j : Nat} {ps : List Str} {sp : Sp} {x : Str} {p pos : Pos} {e : Expr} {es : List Expr} {t : TA}
theorem pe_ownK (O : OwnK X.prog X.w X.K X.mg X.base CX0 x k ps sp) (hr : Room j X.A) (ha : PA X (e :: es) t) (hk : k ≤ j := by decide) (hg : Gl X x := by rfl) (hdb : (x == ("__debug__" : Str)) = false := by decide)
    (he : starEach (e :: es) X.env = (false, eval e X.env) :: starEach es X.env := by rfl) (hpl : (backTo pos (starEach es X.env)).any (·.1) = false := by rfl) : PE X (.Call (.Name x p) (e :: es) [] pos) (tCall sp [] E0 t) := by
  obtain ⟨f, fd, F, hm, hkp, hb⟩ := O.ex
  exact pe_call F (hr.mono hk) hg hm hkp hb .nil pass0 ha hdb he hpl
end
theorem pe_gref {X : Cx} {x : Str} {a : Addr} {pos : Pos} (hm : X.mg x = some (.ref a)) (hg : Gl X x := by rfl) (hd : (x == ("__debug__" : Str)) = false := by decide) : PE X (.Name x pos) (tC (.ref a)) := pe_glob hg hm rfl hd
end L2

set_option Elab.async false
set_option linter.all false
set_option maxRecDepth 100000
set_option maxHeartbeats 4000000
/-! try: raise C('..') except x as n: a suite that asks str(n). -/
namespace L2
open PySem PySem.Spec PyProof.Rows PySem.KX
/-- an exception of C without a dict whose arguments lie at t -/
def Zm (C t : Addr) : Obj → Prop := fun o => o.cls = .ref C ∧ o.dict = none ∧ ∀ vs : Array Value, o.data = .fields vs → vs[0]? = some (.ref t)
theorem Zm.steady {C t : Addr} : PXN.Steady1 (Zm C t) := fun o v h => by
  refine ⟨PXN.steady_cls o v h.1, PXN.steady_dict o v h.2.1, ?_⟩
  have h3 := h.2.2
  obtain ⟨c, d, dt, sl⟩ := o
  cases dt with
  | fields vs0 =>
    intro vs e
    have e2 : vs0.setIfInBounds 1 v = vs := Data.fields.inj e
    have e3 : (vs0.setIfInBounds 1 v)[0]? = vs0[0]? := by
      first
      | exact Array.getElem?_setIfInBounds_ne (by decide)
      | simp [Array.getElem?_setIfInBounds]
    rw [← e2, e3]
    exact h3 vs0 rfl
  | _ =>
    intro vs e
    cases e
section
variable {X : Cx} {x n y : Str} {c : Value} {i j : Nat} {suite : List Stmt} {b₀ : Stmt} {np p p2 pos pos' pos1 pos2 : Pos} {m : Str} {ts : Addr → Addr → TS} {C : Addr} {bmB : List Value} {B newId initId : String}
theorem ps_try_msg (hs : X.stack = X.env :: X.outer) (hf : X.env.frame = some X.env.locals) (hN : X.N.Nodup) (hi : X.N[i]? = some n) (hln : X.env.kindOf n = some .local) (hc : Names X x c) (hcalm : X.calm = true)
    (FB : ExcBaseFacts B newId initId bmB) (q : PySem.W.excIn X.K C bmB newId = true) (gC : X.mg y = some (.ref C)) (kC : PySem.W.keepIn X.K (.ref C) = true) (r : Raises X (.ref C)) (hb1 : PySem.W.exmOne X.K (.ref C) c = some true)
    (hsu : ∀ (a : Addr) (oe : Obj) (t : Addr) (pn : List (Addr × Obj)), Zm C t oe → (∃ vs, oe.data = .fields vs) → PSs (X.suite a ((a, oe) :: pn)) (b₀ :: suite) (ts a t)) (hg : Gl X y := by rfl) (hdb : (y == ("__debug__" : Str)) = false := by decide) :
    PS X (.Try [.Raise (some (.Call (.Name y p) [.Constant (.str m) j p2] [] pos1)) none pos2] [.ExceptHandler (some (.Name x np)) (some n) (b₀ :: suite) pos'] [] [] pos)
      (fun D σ H => ∀ t a, H t = none → H a = none → a ≠ t → ts a t { nx := fun σ' H' => D.nx (σ'.set i none) H', rt := D.rt, bk := fun σ' H' => D.bk (σ'.set i none) H', ct := fun σ' H' => D.ct (σ'.set i none) H' } (σ.set i (some (.ref a))) (upd H t (.tup [.str m]))) := by
  refine ⟨fun pins s σ H D I h => ?_⟩
  have ok := I.ok
  have hfr : X.A.frames = some (X.env :: X.outer) := by rw [ok.frames, hs]
  have hloc : Loc X.env.scope n := .inl hln
  refine wpAny_Try_except ?_
  refine wpAny_execs_cons ?_
  show wpAny _ _ (do standAt pos2; raiseStmt X.env (some (do let v ← eval (.Call (.Name y p) [.Constant (.str m) j p2] [] pos1) X.env; standAt pos2; pure v)) none) _ _ _
  refine wpAny_bind (wpAny_standAt (raise_made (I.ok.hd hcalm) (wpAny_bind ?_)))
  refine wpAny_Call_Name_kw (ld_glob I hg gC ?_ hdb)
  refine PySem.W.callWith_K (h₀ := X.base) I.ok.mod.kin kC ?_ (by rfl) (by rfl)
  show wpAny _ _ (spliced ((false, eval (.Constant (.str m) j p2) X.env) :: backTo pos1 (starEach [] X.env))) _ _ s
  refine Calls.spliced_cons (Calls.Constant_str ?_)
  have I1 : Inv X pins σ H { s with toks := s.toks + 1 } := I.tok _
  refine Calls.spliced_nil ⟨I1.kIn, ?_⟩
  show wpAny _ _ (call (.ref C) [Value.str m s.toks]) _ _ _
  obtain ⟨bm, N, nm, qn, bs, hdct, sn, sub, ab, col, dd, k0, k1, k2, k3, k5, mN, hC, hN', hni, T⟩ := exc_obj I1.kIn q
  refine wpAny_call_exc_subT FB T hC hN' hni (fun h' a hm => ?_) (by show 1 ≤ sizeLine; rw [sizeLine_eq]; omega)
  refine wpAny_bind (wpAny_standAt (wpAny_pure ?_))
  have na : H a = none := I1.hok.gone hm.new
  obtain ⟨t, ha, hnt, ht⟩ := hm.there
  have htn : H t = none := I1.hok.gone hnt
  have hat : a ≠ t := fun z => by
    rw [z, ht] at ha
    cases ha
  obtain ⟨r1, r2⟩ := r (model X.prog X.w) h' (I1.kIn.keeps hm.keeps)
  refine ⟨a, _, _, .ref C, rfl, ha, rfl, rfl, rfl, r1, r2, ?_⟩
  -- the state without the exception
  obtain ⟨G, g1, g2⟩ := restrict h' fun b => decide (b ≠ a)
  have gk : ∀ b, b ≠ a → G.get? b = h'.get? b := fun b hb => g1 b (decide_eq_true hb)
  have ge : G.get? a = none := g2 a (by simp)
  have gs : ∀ b o, G.get? b = some o → h'.get? b = some o := fun b o e => by
    by_cases hb : b = a
    · rw [hb, ge] at e; cases e
    · exact (gk b hb).symm.trans e
  have keepG : ∀ b o, s.heap.get? b = some o → G.get? b = some o := fun b o z => by
    have nb : b ≠ a := fun w => by rw [w, hm.new] at z; cases z
    rw [gk b nb]
    exact hm.keeps b o z
  have ntb : ∀ b o, s.heap.get? b = some o → b ≠ t := fun b o z w => by rw [w, hnt] at z; cases z
  have ok2 : HOk X.prog X.w (upd H t (.tup [.str m])) G := fun b o z => by
    by_cases hb : b = t
    · subst hb
      rw [upd_same] at z
      cases z
      refine ⟨by show 1 ≤ sizeLine; rw [sizeLine_eq]; omega, [Value.str m s.toks], .cons ⟨_, rfl⟩ .nil, ⟨_, (gk b (Ne.symm hat)).trans ht, rfl, _, rfl⟩⟩
    · rw [upd_ne hb] at z
      exact (I1.hok b o z).stay (fun c w' _ w => keepG c w' w) (fun c w => by rw [upd_ne (ne_of_none w htn)]; exact w) fun c xs w => by rw [upd_ne (ne_of_none w htn)]; exact w
  have un : Un X.fs [] H (upd H t (.tup [.str m])) s.heap G := {
    keep := fun b o z nn _ _ => keepG b o z
    slot := fun b o z nn _ _ => ⟨o.slots, keepG b o z⟩
    free := fun b o z nn _ => by rw [upd_ne (ntb b o z)]; exact nn
    there := fun b o z _ => ⟨o, keepG b o z⟩
    tups := fun b xs z => by rw [upd_ne (ne_of_none z htn)]; exact z
    frzs := fun b o u z => by rw [upd_ne (ne_of_none z htn)]; exact z
    tbls := fun b ps z => ⟨#[], by rw [upd_ne (ne_of_none z htn), z]; simp⟩ }
  have J : Inv X pins σ (upd H t (.tup [.str m])) { s with heap := G, toks := s.toks + 1 } := I.un (t' := s.toks + 1) un ok2
  have naH : (upd H t (.tup [.str m])) a = none := by rw [upd_ne hat]; exact na
  have sky' : L2.Sky (PySem.W.hideAll G (frs X.stack)) (X.env :: X.outer) a (Zm C t) X.env.locals h' := by
    refine .inl ⟨fun b o e => gs b o (PySem.W.of_hideAll _ e), ?_, ?_, _, _, ha, ⟨rfl, rfl, fun vs e => ?_⟩, rfl, rfl⟩
    · cases qq : (PySem.W.hideAll G (frs X.stack)).get? a with
      | none => rfl
      | some o =>
        have z := PySem.W.of_hideAll _ qq
        rw [ge] at z; cases z
    · rw [← hs]
      exact Heap.FunFrames.of_keeps (fun b o e _ => ⟨o, gs b o e, rfl⟩) (funFrames_none J.stack fun b hb => PySem.W.hideAll_none _ hb)
    · cases e
      rfl
  have nb : ∀ b o, G.get? b = some o → b ∉ frs X.stack → (PySem.W.hideAll G (frs X.stack)).get? b = some o := fun b o e hb => PySem.W.hideAll_get _ e hb
  have up : G.UpToSlots h' := Heap.UpToSlots.of_keeps gs
  show wpAny (model X.prog X.w) X.A (noteFrame (.ref a) X.env) _ _ _
  refine L2N.Sky.land Zm.steady hfr hf sky' fun h3 fl3 up3 => ?_
  have J3 : Inv X pins σ (upd H t (.tup [.str m])) { s with heap := h3, toks := s.toks + 1 } := J.landed (s' := { s with heap := h3, toks := s.toks + 1 }) nb fl3.1 (up.trans up3) rfl I.bare
  obtain ⟨oe3, vs3, he3, hz3, hd3⟩ := fl3.there
  have notFr : ∀ {h : Heap} {o : Obj} {vs : Array Value}, h.FunFrames (PySem.W.hideAll G (frs X.stack)) (X.env :: X.outer) → h.get? a = some o → o.data = .fields vs → a ∉ frs (X.env :: X.outer) := fun {h o vs} ff e dd hm => by
    obtain ⟨_, o', e', hnf⟩ := ff.mem hm
    rw [e] at e'; cases e'
    exact hnf _ dd
  have nfr := notFr fl3.2.2.1 he3 hd3
  have nL : a ≠ X.env.locals := fun z => nfr (List.mem_filterMap.mpr ⟨X.env, List.mem_cons_self, by rw [hf, z]⟩)
  have nF : a ∉ X.fs := fun hm => by
    obtain ⟨e, he, q⟩ := List.mem_filterMap.mp hm
    exact nfr (List.mem_filterMap.mpr ⟨e, List.mem_cons_of_mem _ he, q⟩)
  have S3 := J3.suite he3 hd3 naH nL nF
  refine wpAny_handleBy_cons (codeAny_handlers_test ?_) (by intro q; cases q)
  have LT : PySem.W.Looks (model X.prog X.w) h3 (typeOf (.ref a)) (.ref C) := fun A Q E s k q => wpAny_typeOf_ref (k _ _ he3) (by rw [hz3.1]; exact q)
  have LM := PySem.W.exm_one (M := model X.prog X.w) (J3.kIn) LT hb1
  have test : ∀ {Q : Value → Shared → Prop} {E : Value → Shared → Prop}, Q c { s with heap := h3, toks := s.toks + 1 } → wpAny (model X.prog X.w) (X.A.mark (some (.ref a))) (eval (.Name x np) X.env) Q E { s with heap := h3, toks := s.toks + 1 } := fun {Q E} q => by
    obtain ⟨hg, hdbg, hm | ⟨hm, hv, hnn⟩⟩ := hc
    · exact ld_glob (X := X.suite a ((a, oe3) :: (X.pn ++ pins))) S3 hg hm q hdbg
    · exact ld_blt (X := X.suite a ((a, oe3) :: (X.pn ++ pins))) S3 hg hm hv q hnn hdbg
  refine test (LM.here ?_)
  refine codeAny_handlers_suite_as ?_
  refine HandSPX.lands_againZ fl3 fun h4 fl4 up4 => ?_
  have J4 : Inv X pins σ (upd H t (.tup [.str m])) { s with heap := h4, toks := s.toks + 1 } := J.landed (s' := { s with heap := h4, toks := s.toks + 1 }) nb fl4.1 ((up.trans up3).trans up4) rfl I.bare
  obtain ⟨oe4, vs4, he4, hz4, hd4⟩ := fl4.there
  have S4 := J4.suite he4 hd4 naH nL nF
  refine store_ok (X := X.suite a ((a, oe4) :: (X.pn ++ pins))) (v := .ref a) S4 hN hi hloc rfl (fun s5 S5 => ?_) (.inr hln)
  refine wpAny_mono ((hsu a oe4 t (X.pn ++ pins) hz4 ⟨_, hd4⟩).run [] s5 _ _ _ S5 (h t a htn na hat)) (fun f s6 hsp => ?_) (fun _ _ z => False.elim z)
  have end_ : ∀ {σ6 : St} {H6 : Hp} {Q : Shared → Prop}, Inv (X.suite a ((a, oe4) :: (X.pn ++ pins))) [] σ6 H6 s6 → (∀ s7, Inv X pins (σ6.set i none) H6 s7 → Q s7) →
      wpAny (model X.prog X.w) X.A (do bindName X.env n .none; unbindBehindTheSuite X.env n pos') (fun _ s7 => Q s7) X.xe s6 := fun {σ6 H6 Q} S6 hq => gone_ok (S6.unsuite ok) hN hi hln hq
  cases f with
  | next =>
    obtain ⟨σ6, H6, S6, q6⟩ := hsp
    exact end_ S6 fun s7 J7 => ⟨_, _, J7, q6⟩
  | brk =>
    obtain ⟨σ6, H6, S6, q6⟩ := hsp
    exact end_ S6 fun s7 J7 => ⟨_, _, J7, q6⟩
  | cont =>
    obtain ⟨σ6, H6, S6, q6⟩ := hsp
    exact end_ S6 fun s7 J7 => ⟨_, _, J7, q6⟩
  | ret u =>
    obtain ⟨v6, σ6, H6, S6, r6, q6⟩ := hsp
    exact end_ S6 fun s7 J7 => ⟨_, _, _, J7, r6, q6⟩
/-- str(n) in the suite -/
def rStrM (a t : Addr) : List V → Hp → VK → Prop := fun xs H Q => ∃ m, xs = [.ref a] ∧ H t = some (.tup [.str m]) ∧ Q (.str m) H
theorem call_strM {a t : Addr} {oe : Obj} {pn : List (Addr × Obj)} (hu : X.A.units + 64 < cLine) (hz : Zm C t oe) (hf : ∃ vs, oe.data = .fields vs) (hstr : PySem.W.findIn X.K (.ref C) "__str__" = some (some (.builtin "BaseException.__str__"))) (hB : PySem.W.subIn X.K (.ref C) (.type "BaseException") = some true) :
    CallR (X.suite a ((a, oe) :: pn)) (.type "str") (rStrM a t) := by
  intro pins s σ H xs us Q I r h
  obtain ⟨m, rfl, et, q⟩ := h
  obtain ⟨u, rfl, ru⟩ := vals1 r
  obtain rfl : u = Value.ref a := ru
  obtain ⟨ho, _⟩ := I.pin (a, oe) (List.mem_append_left _ List.mem_cons_self)
  obtain ⟨vs, hv⟩ := hf
  obtain ⟨its, rv, ⟨ot, hot, hc, n, hd⟩, _⟩ := I.tuple (SqT.of et)
  cases rv with
  | cons r1 r2 =>
    cases r2
    obtain ⟨tk, rfl⟩ := r1
    exact PySem.P.str_of_C_one (by show X.A.units + 2 < cLine; omega) ⟨I.kIn, oe, vs, ho, hz.1, hv, hz.2.2 vs hv⟩ ⟨ot, n, hot, hc, hd⟩ hstr hB ⟨.str m, H, I, ⟨tk, rfl⟩, q⟩
end
end L2

set_option Elab.async false
set_option linter.all false
set_option maxRecDepth 100000
set_option maxHeartbeats 4000000
namespace L2
open PySem PySem.Spec PyProof.Rows PySem.KX
/-- a reading, told of something stronger -/
def tUp (t : TE) : TE := fun σ H Q => ∃ Q0 : VK, t σ H Q0 ∧ ∀ v H', Q0 v H' → Q v H'
theorem PE.up {X : Cx} {e : Expr} {t : TE} (h : PE X e t) : PE X e (tUp t) :=
  ⟨fun pins s σ H Q I ⟨Q0, h0, k⟩ => wpAny_mono (h.run pins s σ H Q0 I h0) (fun u s1 ⟨v, H1, I1, r1, q1⟩ => ⟨v, H1, I1, r1, k v H1 q1⟩) fun _ _ z => z⟩
/-- lists, tuples stay -/
def Kept (H H' : Hp) : Prop := ∀ b, (∀ xs, H b = some (.lst xs) → H' b = some (.lst xs)) ∧ (∀ xs, H b = some (.tup xs) → H' b = some (.tup xs)) ∧ ∀ o u, H b = some (.frz o u) → H' b = some (.frz o u)
theorem kept_ext {H H' : Hp} {b : Addr} {g : Heap → Prop} (e : H b = some (.ext g)) : (∀ xs, H b = some (.lst xs) → H' b = some (.lst xs)) ∧ (∀ xs, H b = some (.tup xs) → H' b = some (.tup xs)) ∧ ∀ o u, H b = some (.frz o u) → H' b = some (.frz o u) := by
  rw [e]
  exact ⟨(fun _ z => nomatch z), (fun _ z => nomatch z), (fun _ _ z => nomatch z)⟩
mutual
theorem Dp.keep {K : PySem.W.Frag} {H H' : Hp} (e : Kept H H') : ∀ (d : PyData) (v : V), Dp K H v d → Dp K H' v d
  | .none, _, h => by cases h; exact .non
  | .bool b, _, h => by cases h; exact .bl b
  | .int i, _, h => by cases h; exact .int i
  | .str x, _, h => by cases h; exact .str x
  | .list ds, _, h => by
    cases h with
    | lst hs ha =>
      refine .lst ?_ (DpAll.keep e ds _ ha)
      rcases hs with (hs | ⟨o, hs⟩) | hs
      · exact .inl (.inl ((e _).1 _ hs))
      · exact .inl (.inr ⟨o, (e _).2.2 _ _ hs⟩)
      · exact .inr hs
  | .tuple ds, _, h => by
    cases h with
    | tup hs ha =>
      refine .tup ?_ (DpAll.keep e ds _ ha)
      rcases hs with (hs | ⟨o, hs⟩) | hs
      · exact .inl (.inl ((e _).2.1 _ hs))
      · exact .inl (.inr ⟨o, (e _).2.2 _ _ hs⟩)
      · exact .inr hs
  | .dict _, _, h => by cases h
theorem DpAll.keep {K : PySem.W.Frag} {H H' : Hp} (e : Kept H H') : ∀ (ds : List PyData) (vs : List V), DpAll K H vs ds → DpAll K H' vs ds
  | [], _, h => by cases h; exact .nil
  | d :: ds, _, h => by
    cases h with
    | cons h1 h2 => exact .cons (Dp.keep e d _ h1) (DpAll.keep e ds _ h2)
end
/-- C.__init__(self, v): the one field is a copy of v -/
def spIni (K : PySem.W.Frag) (C : Addr) (f : Str) : Sp := fun vs H Q _ => ∃ (a : Addr) (v : V) (d : PyData), vs = [.ref a, v] ∧ H a = some (exo a C none) ∧ Dp K (hide [a] H) v d ∧ d.depth ≤ 10 ∧ smallD d = true ∧
  ∀ (H' : Hp) (dx : Addr) (v' : V), (∀ b o, b ≠ a → H b = some o → H' b = some o) → H dx = none → H' a = some (exo a C (some dx)) → H' dx = some (exd dx [(f, v')]) → Dp K H' v' d → Q .non H'
/-- what a caller knows of an own exception class that keeps a copy of its one argument -/
structure ErrV (P : Program) (w : World) (K : PySem.W.Frag) (mg : Str → Option Value) (base : Heap) (x : Str) (C : Addr) (f : Str) (Bi newId initId : String) (bm : List Value) : Prop where
  B : XB Bi newId initId bm
  T : XCls K C newId bm
  xi : XI K C
  xc : XfC K C
  hno : PySem.W.findIn K (.ref C) f = some none
  g : mg x = some (.ref C)
  ini : ∃ fI fd, PySem.W.findIn K (.ref C) "__init__" = some (some (.ref fI)) ∧ PySem.W.typeIn K (.ref fI) = some (.type "function") ∧ FnOk P w K mg base CX0 12 fI fd ["self", f] (spIni K C f) ∧ Binds K fd ["self", f] []
/-- C(e) as a value -/
def tErrV (K : PySem.W.Frag) (C : Addr) (f : Str) (te : TE) : TE := fun σ H Q => te σ H fun v H1 => ∃ d, Dp K H1 v d ∧ d.depth ≤ 10 ∧ smallD d = true ∧
  ∀ (a dx : Addr) (v' : V) (H' : Hp), Same H1 H' → H1 a = none → H' a = some (exo a C (some dx)) → H' dx = some (exd dx [(f, v')]) → Dp K H' v' d → Q (.ref a) H'
/-- raise C(e) -/
def tErrX (K : PySem.W.Frag) (C : Addr) (f : Str) (te : TE) : St → Hp → XK → Prop := fun σ H Q => te σ H fun v H1 => ∃ d, Dp K H1 v d ∧ d.depth ≤ 10 ∧ smallD d = true ∧
  ∀ (dx : Addr) (v' : V) (H' : Hp), Same H1 H' → H1 dx = none → H' dx = some (.xd [(f, v')]) → Dp K H' v' d → Q (.ref C) (some dx) H'
section
variable {X : Cx} {e : Expr} {te : TE} {f : Str} {p pos : Pos} {Bi newId initId : String} {bm : List Value} {x : Str} {C : Addr} {j : Nat}
theorem PMk.imp {t t' : St → Hp → XK → Prop} (h : PMk X e t) (k : ∀ σ H Q, t' σ H Q → t σ H Q) : PMk X e t' := fun pins s σ H Q I q => h pins s σ H Q I (k σ H Q q)
theorem ini_h {H1 : Hp} {K : PySem.W.Frag} {a : Addr} {v : V} {d : PyData} {o : HO} (n : H1 a = none) (h : Dp K H1 v d) : Dp K (hide [a] (upd H1 a o)) v d := by
  rw [hide_upd, hide_new n, hide_nil]
  exact h
theorem ini_same {H1 H' : Hp} {a : Addr} {o : HO} (n : H1 a = none) (k : ∀ b o', b ≠ a → upd H1 a o b = some o' → H' b = some o') : Same H1 H' := fun b o' q => by
  have hb : b ≠ a := ne_of_none q n
  exact k b o' hb (by rw [upd_ne hb]; exact q)
theorem pe_errV (E : ErrV X.prog X.w X.K X.mg X.base x C f Bi newId initId bm) (hr : RoomG j X.A) (he : PE X e te) (hj : 13 ≤ j := by decide) (hg : Gl X x := by rfl)
    (hdb : (x == ("__debug__" : Str)) = false := by decide) (hs : starEach [e] X.env = (false, eval e X.env) :: starEach [] X.env := by rfl) (hpl : (backTo pos (starEach [] X.env)).any (·.1) = false := by rfl) :
    PE X (.Call (.Name x p) [e] [] pos) (tErrV X.K C f te) := by
  obtain ⟨fI, fd, iC, tI, F1, hb⟩ := E.ini
  refine (pe_oexX E.B E.T iC tI F1 (hr.r.mono hj) hb pass0 E.g (pa_cons he.up pa_nil hs) hg hdb hs hpl).imp fun σ H Q h => ?_
  refine ⟨_, h, fun v H1 ⟨d, hd, h1, h2, k⟩ => ⟨by show 1 ≤ 1000; omega, fun a na => ?_⟩⟩
  refine ⟨a, v, d, rfl, upd_same, ini_h na hd, h1, h2, fun H' dx v' kp _ ea ed hv => ⟨rfl, ?_⟩⟩
  exact k a dx v' H' (ini_same na kp) na ea ed hv
theorem pmk_errV (E : ErrV X.prog X.w X.K X.mg X.base x C f Bi newId initId bm) (hr : RoomG j X.A) (he : PE X e te) (hj : 13 ≤ j := by decide) (hg : Gl X x := by rfl)
    (hdb : (x == ("__debug__" : Str)) = false := by decide) (hs : starEach [e] X.env = (false, eval e X.env) :: starEach [] X.env := by rfl) (hpl : (backTo pos (starEach [] X.env)).any (·.1) = false := by rfl) :
    PMk X (.Call (.Name x p) [e] [] pos) (tErrX X.K C f te) := by
  obtain ⟨fI, fd, iC, tI, F1, hb⟩ := E.ini
  refine PMk.imp (pmk_oexX E.B E.T iC tI F1 (hr.r.mono hj) hb pass0 E.g (pa_cons he.up pa_nil hs) hg hdb hs hpl) fun σ H Q h => ?_
  refine ⟨_, h, fun v H1 ⟨d, hd, h1, h2, k⟩ => ⟨by show 1 ≤ 1000; omega, fun a na => ?_⟩⟩
  refine ⟨a, v, d, rfl, upd_same, ini_h na hd, h1, h2, fun H' dx v' kp nx ea ed hv => ⟨rfl, dx, [(f, v')], ea, ed, ?_, ?_⟩⟩
  · by_cases hd : dx = a
    · rw [hd, upd_same] at nx; cases nx
    · rw [upd_ne hd] at nx; exact nx
  · have ndx : dx ≠ a := fun hd => by rw [hd, upd_same] at nx; cases nx
    have n1 : H1 dx = none := by rw [upd_ne ndx] at nx; exact nx
    have s1 := ini_same na kp
    refine k dx v' _ (fun b o q => ?_) n1 upd_same (Dp.keep (fun b => ?_) _ _ hv)
    · have hb1 : b ≠ dx := ne_of_none q n1
      have hb2 : b ≠ a := ne_of_none q na
      rw [upd_ne hb1]
      unfold del
      rw [if_neg hb2]
      exact s1 b o q
    · by_cases hb1 : b = dx
      · subst hb1
        exact kept_ext ed
      · by_cases hb2 : b = a
        · subst hb2
          exact kept_ext ea
        · rw [upd_ne hb1]
          unfold del
          rw [if_neg hb2]
          exact ⟨fun _ z => z, fun _ z => z, fun _ _ z => z⟩
end
end L2

set_option Elab.async false
set_option linter.all false
set_option maxRecDepth 100000
set_option maxHeartbeats 4000000
/-! Readings that tell the new heap by what stays and what is new, not by its making. -/
namespace L2
open PySem PySem.Spec PyProof.Rows PySem.KX
def tUpA (t : TA) : TA := fun σ H Q => ∃ Q0 : List V → Hp → Prop, t σ H Q0 ∧ ∀ v H', Q0 v H' → Q v H'
theorem PA.up {X : Cx} {es : List Expr} {t : TA} (h : PA X es t) : PA X es (tUpA t) :=
  ⟨fun pos pins s σ H Q I ⟨Q0, h0, k⟩ => wpAny_mono (h.run pos pins s σ H Q0 I h0) (fun u s1 ⟨v, H1, I1, r1, q1⟩ => ⟨v, H1, I1, r1, k v H1 q1⟩) fun _ _ z => z⟩
theorem small_size {n : Nat} (h : n ≤ 1000000) : n ≤ sizeLine := by rw [sizeLine_eq]; omega
/-- [e, ..] -/
def tLstS (t : TA) : TE := fun σ H Q => t σ H fun xs H1 => xs.length ≤ 1000000 ∧ ∀ p H', Same H1 H' → H1 p = none → H' p = some (.lst xs) → Q (.ref p) H'
def tTupS (t : TA) : TE := fun σ H Q => t σ H fun xs H1 => xs.length ≤ 1000000 ∧ ∀ p H', Same H1 H' → H1 p = none → H' p = some (.tup xs) → Q (.ref p) H'
section
variable {X : Cx} {e : Expr} {es : List Expr} {te : TE} {t : TA} {p pos : Pos}
theorem pe_lstS (h : PA X es t) : PE X (.List es pos) (tLstS t) := (pe_lst h.up).imp fun σ H Q q => ⟨_, q, fun xs H1 ⟨l, k⟩ => ⟨small_size l, fun p n => k p _ ((Same.refl _).new n) n upd_same⟩⟩
theorem pe_tupS {x1} (h : PA X es t) : PE X (.Tuple es x1 pos) (tTupS t) := (pe_tup h.up).imp fun σ H Q q => ⟨_, q, fun xs H1 ⟨l, k⟩ => ⟨small_size l, fun p n => k p _ ((Same.refl _).new n) n upd_same⟩⟩
end
/-- + -/
def rAddS (K : PySem.W.Frag) : R2 := fun x y H Q => match x, y with
  | .int i, .int j => Q (.int (i + j)) H
  | .int i, .bl k => Q (.int (i + b2i k)) H
  | .str a, .str b => a.length + b.length ≤ 1000000 ∧ Q (.str (a ++ b)) H
  | .ref a, .ref b => (∃ xs ys, H a = some (.lst xs) ∧ H b = some (.lst ys) ∧ xs.length + ys.length ≤ 1000000 ∧ ∀ p H', Same H H' → H p = none → H' p = some (.lst (xs ++ ys)) → Q (.ref p) H') ∨
    ∃ xs ys, SqT K H a xs ∧ SqT K H b ys ∧ xs.length + ys.length ≤ 1000000 ∧ ∀ r H', Same H H' → SqT K H' r (xs ++ ys) → Q (.ref r) H'
  | _, _ => False
theorem op_addS {X : Cx} : OpR X (binaryOp .Add) (rAddS X.K) := op_addA.imp fun x y H Q h => by
  unfold rAddS at h
  split at h
  · exact h
  · exact h
  · exact ⟨small_size h.1, h.2⟩
  · rcases h with ⟨xs, ys, h1, h2, l, k⟩ | ⟨xs, ys, h1, h2, l, k⟩
    · exact .inl ⟨_, _, xs, ys, rfl, rfl, h1, h2, small_size l, fun p n => k p _ ((Same.refl _).new n) n upd_same⟩
    · refine .inr ⟨_, _, xs, ys, rfl, rfl, h1, h2, small_size l, fun e => k _ _ (Same.refl _) ?_, fun _ e => k _ _ (Same.refl _) ?_, fun _ _ p n => k p _ ((Same.refl _).new n) (SqT.of upd_same)⟩
      · rw [e]; exact h2
      · rw [e, List.append_nil]; exact h1
  · exact h.elim
/-! ### exceptions as values -/
/-- an exception of C made with the text t alone -/
def MsgAt (H : Hp) (C : Addr) (t : Str) (v : V) : Prop := ∃ a tt, v = .ref a ∧ H a = some (exM C tt a) ∧ H tt = some (.tup [.str t])
/-- an exception of C that keeps d as f -/
def ValAt (K : PySem.W.Frag) (H : Hp) (C : Addr) (f : Str) (d : PyData) (v : V) : Prop := ∃ a dx v', v = .ref a ∧ H a = some (exo a C (some dx)) ∧ H dx = some (exd dx [(f, v')]) ∧ Dp K H v' d
theorem MsgAt.same {H H' : Hp} {C : Addr} {t : Str} {v : V} (e : Same H H') (h : MsgAt H C t v) : MsgAt H' C t v := by
  obtain ⟨a, tt, h1, h2, h3⟩ := h
  exact ⟨a, tt, h1, e _ _ h2, e _ _ h3⟩
theorem ValAt.same {K : PySem.W.Frag} {H H' : Hp} {C : Addr} {f : Str} {d : PyData} {v : V} (e : Same H H') (h : ValAt K H C f d v) : ValAt K H' C f d v := by
  obtain ⟨a, dx, v', h1, h2, h3, h4⟩ := h
  exact ⟨a, dx, v', h1, e _ _ h2, e _ _ h3, Dp.same e _ _ h4⟩
theorem MsgAt.ty {K : PySem.W.Frag} {H : Hp} {C : Addr} {t : Str} {v : V} (x : XI K C) (h : MsgAt H C t v) : TyE K H v (.ref C) := by
  obtain ⟨a, tt, rfl, h2, h3⟩ := h
  exact .m h2 x
theorem ValAt.ty {K : PySem.W.Frag} {H : Hp} {C : Addr} {f : Str} {d : PyData} {v : V} (x : XI K C) (h : ValAt K H C f d v) : TyE K H v (.ref C) := by
  obtain ⟨a, dx, v', rfl, h2, h3, _⟩ := h
  exact .o h2 h3 x
/-- C('..') as a value -/
def tMsg (C : Addr) (te : TE) : TE := fun σ H Q => te σ H fun v H1 => ∃ t, v = .str t ∧ ∀ u H', Same H1 H' → MsgAt H' C t u → Q u H'
/-- C(e) as a value, e kept -/
def tVal (K : PySem.W.Frag) (C : Addr) (f : Str) (te : TE) : TE := fun σ H Q => te σ H fun v H1 => ∃ d, Dp K H1 v d ∧ d.depth ≤ 10 ∧ smallD d = true ∧ ∀ u H', Same H1 H' → ValAt K H' C f d u → Q u H'
/-- what a caller knows of an own exception class without own __init__ -/
structure ErrM (K : PySem.W.Frag) (mg : Str → Option Value) (x : Str) (C : Addr) (newId : String) (bmB : List Value) : Prop where
  q : PySem.W.excIn K C bmB newId = true
  g : mg x = some (.ref C)
  k : PySem.W.keepIn K (.ref C) = true
  xi : XI K C
  hs : PySem.W.findIn K (.ref C) "__str__" = some (some (.builtin "BaseException.__str__"))
section
variable {X : Cx} {e : Expr} {te : TE} {f : Str} {p pos : Pos} {B Bi newId initId : String} {bm bmB : List Value} {x : Str} {C : Addr} {j : Nat}
theorem pe_msg (F : ExcBaseFacts B newId initId bmB) (E : ErrM X.K X.mg x C newId bmB) (he : PE X e te) (hg : Gl X x := by rfl) (hs : starEach [e] X.env = (false, eval e X.env) :: starEach [] X.env := by rfl) (hdb : (x == ("__debug__" : Str)) = false := by decide) :
    PE X (.Call (.Name x p) [e] [] pos) (tMsg C te) := (pe_excT F E.q E.g E.k he.up hg hs hdb).imp fun σ H Q h => by
  refine ⟨_, h, fun v H1 ⟨t, ev, k⟩ tt a n1 n2 ne => ?_⟩
  subst ev
  refine k _ _ (((Same.refl _).new n1).new ?_) ⟨a, tt, rfl, upd_same, by rw [upd_ne (Ne.symm ne)]; exact upd_same⟩
  rw [upd_ne ne]
  exact n2
theorem pe_val (E : ErrV X.prog X.w X.K X.mg X.base x C f Bi newId initId bm) (hr : RoomG j X.A) (he : PE X e te) (hj : 13 ≤ j := by decide) (hg : Gl X x := by rfl)
    (hdb : (x == ("__debug__" : Str)) = false := by decide) (hs : starEach [e] X.env = (false, eval e X.env) :: starEach [] X.env := by rfl) (hpl : (backTo pos (starEach [] X.env)).any (·.1) = false := by rfl) :
    PE X (.Call (.Name x p) [e] [] pos) (tVal X.K C f te) := (pe_errV E hr he.up hj hg hdb hs hpl).imp fun σ H Q h => by
  refine ⟨_, h, fun v H1 ⟨d, hd, h1, h2, k⟩ => ⟨d, hd, h1, h2, fun a dx v' H' s1 _ ea ed hv => ?_⟩⟩
  exact k _ _ s1 ⟨a, dx, v', rfl, ea, ed, hv⟩
/-- e.f, e an exception that keeps d as f -/
def tXKept (K : PySem.W.Frag) (f : Str) (te : TE) : TE := fun σ H Q => te σ H fun u H1 => ∃ C d, XfC K C ∧ PySem.W.findIn K (.ref C) f = some none ∧ ValAt K H1 C f d u ∧ ∀ v, Dp K H1 v d → Q v H1
theorem pe_xkept {n : Str} (he : PE X e te) (hb : attributeBase e n X.env (eval e X.env) = eval e X.env := by rfl) : PE X (.Attribute e n pos) (tXKept X.K n te) := (pe_attr he.up hb).imp fun σ H Q h => by
  refine ⟨_, h, fun u H1 ⟨C, d, h1, h2, ⟨a, dx, v', eu, ea, ed, hv⟩, k⟩ => ⟨a, C, dx, _, v', eu, ea, ed, h1, h2, ?_, k v' hv⟩⟩
  simp [List.lookup]
end
/-- l.append(e) -/
def tAppS (to te : TE) : TE := fun σ H Q => to σ H fun x H1 => ∃ l xs0, x = .ref l ∧ H1 l = some (.lst xs0) ∧ te σ H1 fun y H2 => ∃ xs, H2 l = some (.lst xs) ∧ xs.length ≤ 1000000 ∧ Q .non (upd H2 l (.lst (xs ++ [y])))
section
variable {X : Cx} {o e : Expr} {to te : TE} {apos cpos : Pos}
theorem pe_appS (ho : PE X o to) (he : PE X e te)
    (hbase : attributeBase o "append" X.env (eval o X.env) = eval o X.env := by rfl)
    (hfew : ((backTo cpos (starEach [e] X.env)).all (fun x => !x.1) && (backToKw cpos (keywordEach [] X.env)).all (fun x => x.1.isSome)
      && decide ([e].length + ([] : List Keyword).length + (if ([] : List Keyword).isEmpty then 0 else 1) < 30)) = true := by rfl)
    (hline : (apos.endLine == cpos.line) = true := by rfl) (hs : starEach [e] X.env = (false, eval e X.env) :: starEach [] X.env := by rfl) (hplain : (backTo cpos (starEach [] X.env)).any (·.1) = false := by rfl) :
    PE X (.Call (.Attribute o "append" apos) [e] [] cpos) (tAppS to te) :=
  (pe_bm PySem.F.plainAttrs_list PySem.F.slot_list_append PySem.F.type_list_append mt_append ho.up (pa_cons he.up pa_nil hs) hbase hfew hline hs hplain).imp fun σ H Q h => by
    refine ⟨_, h, fun x H1 ⟨l, xs0, ex, el, ht⟩ => ⟨?_, _, ht, fun y H2 ⟨xs, h2, hz, q⟩ => ⟨l, xs, y, ex, rfl, h2, ?_, q⟩⟩⟩
    · subst ex
      exact .inl ⟨rfl, _, SqL.of el⟩
    · rw [sizeLine_eq]; omega
end
end L2

set_option Elab.async false
set_option linter.all false
set_option maxRecDepth 100000
set_option maxHeartbeats 4000000
/-! Comprehensions, told by what each item is. -/
namespace L2
open PySem PySem.Spec PyProof.Rows PySem.KX
/-- the list D while a comprehension builds it -/
def Acc (R : Nat → V → Hp → Prop) (D : Addr) (H1 : Hp) (n : Nat) (H' : Hp) : Prop := ∃ acc, H' D = some (.lst acc) ∧ Same H1 H' ∧ acc.length = n ∧ ∀ j v, acc[j]? = some v → R j v (hide [D] H')
theorem Acc.start {R : Nat → V → Hp → Prop} {D : Addr} {H1 : Hp} (hD : H1 D = none) : Acc R D H1 0 (upd H1 D (.lst [])) := ⟨[], upd_same, (Same.refl H1).new hD, rfl, fun j v h => nomatch h⟩
theorem Acc.snoc {R : Nat → V → Hp → Prop} {D : Addr} {H1 H' H4 : Hp} {n : Nat} {y : V} (st : ∀ j v H H', Same H H' → R j v H → R j v H') (hD : H1 D = none) (hn : n < 1000000) (p : Acc R D H1 n H') (s : Same H' H4) (r : R n y (hide [D] H4)) :
    ∃ acc, H4 D = some (.lst acc) ∧ acc.length < sizeLine ∧ Acc R D H1 (n + 1) (upd H4 D (.lst (acc ++ [y]))) := by
  obtain ⟨acc, h1, h2, h3, h4⟩ := p
  refine ⟨acc, s _ _ h1, by rw [sizeLine_eq]; omega, acc ++ [y], upd_same, fun b o e => ?_, by simp [h3], fun j v h => ?_⟩
  · rw [upd_ne (ne_of_none e hD)]
    exact s _ _ (h2 _ _ e)
  · rw [hide_upd]
    by_cases hj : j < acc.length
    · rw [List.getElem?_append_left hj] at h
      exact st _ _ _ _ (hide_same s) (h4 j v h)
    · rw [List.getElem?_append_right (by omega)] at h
      have e : j = n := by
        have := (List.getElem?_eq_some_iff.mp h).1
        simp at this
        omega
      subst e
      have e2 : v = y := by
        rw [h3, Nat.sub_self] at h
        simpa using h.symm
      subst e2
      exact r
theorem Acc.there {R : Nat → V → Hp → Prop} {D : Addr} {H1 H' : Hp} {n : Nat} (p : Acc R D H1 n H') : H' D ≠ none := by
  obtain ⟨acc, h1, _⟩ := p
  rw [h1]
  exact fun z => nomatch z
/-- [t for x in a list] -/
theorem lc_listS {K : PySem.W.Frag} {a : Addr} {xs : List V} {g : TG} {t : TE} {vs : List Nat} {σ : St} {H1 : Hp} {D : Addr} {Qd : Hp → Prop} (R : Nat → V → Hp → Prop) (st : ∀ j v H H', Same H H' → R j v H → R j v H') (hD : H1 D = none) (hl : SqL K H1 a xs) (hx : xs.length ≤ 1000000)
    (hs : ∀ j x H', xs[j]? = some x → Same H1 H' → H' D ≠ none → g x (wipe σ vs) H' fun σ2 H2 => wipe σ2 vs = wipe σ vs ∧ H2 = H' ∧ t σ2 H2 fun y H4 => Same H2 H4 ∧ R j y (hide [D] H4))
    (hg : ∀ x σ H (q q' : St → Hp → Prop), g x σ H q → (∀ σ H, q σ H → q' σ H) → g x σ H q')
    (hd : ∀ H' acc, Same H1 H' → H' D = some (.lst acc) → acc.length = xs.length → (∀ j v, acc[j]? = some v → R j v H') → Qd H') :
    ∃ W : Nat → Nat → Hp → Prop, (∃ m, W 0 m (upd H1 D (.lst []))) ∧ ∀ i m H, W i m H →
      ((Itl K a).stop i H ∧ Qd H) ∨ ((Itl K a).go i H ∧ ∃ Nx : Hp → Prop, (∀ H', Nx H' → ∃ m', m' < m ∧ W (i + 1) m' H') ∧ ∀ x H', (Itl K a).yld i H x H' → g x (wipe σ vs) H' fun σ2 H2 => wipe σ2 vs = wipe σ vs ∧ tYes σ2 H2 fun b H3 =>
        if b = true then tUp t σ2 H3 fun y H4 => ∃ acc, H4 D = some (.lst acc) ∧ acc.length < sizeLine ∧ Nx (upd H4 D (.lst (acc ++ [y]))) else Nx H3) := by
  refine lc_list (K := K) (a := a) (xs := xs) (te := tUp t) (fun i H' => Acc R D H1 i H') (Acc.start hD) (fun i H' _ ⟨_, _, s, _⟩ => s.sqL hl) (fun i x H' hi p => ?_) (fun H' ⟨acc, h1, h2, h3, h4⟩ => hd H' acc h2 h1 h3 fun j v h => st _ _ _ _ hide_sub (h4 j v h))
  have hlt : i < xs.length := (List.getElem?_eq_some_iff.mp hi).1
  have hs2 := p
  obtain ⟨_, _, s, _⟩ := hs2
  refine hg _ _ _ _ _ (hs i x H' hi s p.there) fun σ2 H2 ⟨w, e, q⟩ => ⟨w, ?_⟩
  subst e
  unfold tYes
  dsimp only
  rw [if_pos rfl]
  exact ⟨_, q, fun y H4 ⟨s4, r⟩ => Acc.snoc st hD (by omega) p s4 r⟩
/-- [t for x in range(n)] -/
theorem lc_rangeS {lo : Int} {n : Nat} {g : TG} {t : TE} {vs : List Nat} {σ : St} {H1 : Hp} {D : Addr} {Qd : Hp → Prop} (R : Nat → V → Hp → Prop) (st : ∀ j v H H', Same H H' → R j v H → R j v H') (hD : H1 D = none) (hx : n ≤ 1000000)
    (hs : ∀ j H', j < n → Same H1 H' → H' D ≠ none → g (.int (lo + j)) (wipe σ vs) H' fun σ2 H2 => wipe σ2 vs = wipe σ vs ∧ H2 = H' ∧ t σ2 H2 fun y H4 => Same H2 H4 ∧ R j y (hide [D] H4))
    (hg : ∀ x σ H (q q' : St → Hp → Prop), g x σ H q → (∀ σ H, q σ H → q' σ H) → g x σ H q')
    (hd : ∀ H' acc, Same H1 H' → H' D = some (.lst acc) → acc.length = n → (∀ j v, acc[j]? = some v → R j v H') → Qd H') :
    ∃ W : Nat → Nat → Hp → Prop, (∃ m, W 0 m (upd H1 D (.lst []))) ∧ ∀ i m H, W i m H →
      ((Itr lo n).stop i H ∧ Qd H) ∨ ((Itr lo n).go i H ∧ ∃ Nx : Hp → Prop, (∀ H', Nx H' → ∃ m', m' < m ∧ W (i + 1) m' H') ∧ ∀ x H', (Itr lo n).yld i H x H' → g x (wipe σ vs) H' fun σ2 H2 => wipe σ2 vs = wipe σ vs ∧ tYes σ2 H2 fun b H3 =>
        if b = true then tUp t σ2 H3 fun y H4 => ∃ acc, H4 D = some (.lst acc) ∧ acc.length < sizeLine ∧ Nx (upd H4 D (.lst (acc ++ [y]))) else Nx H3) := by
  refine lc_range (lo := lo) (n := n) (te := tUp t) (fun i H' => Acc R D H1 i H') (Acc.start hD) (fun i H' hi p => ?_) (fun H' ⟨acc, h1, h2, h3, h4⟩ => hd H' acc h2 h1 h3 fun j v h => st _ _ _ _ hide_sub (h4 j v h))
  have hs2 := p
  obtain ⟨_, _, s, _⟩ := hs2
  refine hg _ _ _ _ _ (hs i H' hi s p.there) fun σ2 H2 ⟨w, e, q⟩ => ⟨w, ?_⟩
  subst e
  unfold tYes
  dsimp only
  rw [if_pos rfl]
  exact ⟨_, q, fun y H4 ⟨s4, r⟩ => Acc.snoc st hD (by omega) p s4 r⟩
theorem gName_mono {i : Nat} : ∀ x σ H (q q' : St → Hp → Prop), gName i x σ H q → (∀ σ H, q σ H → q' σ H) → gName i x σ H q' := fun _ _ _ _ _ h k => k _ _ h
/-- slice of a list -/
def rSlLS (K : PySem.W.Frag) : V → Option Int → Option Int → Hp → VK → Prop := fun x lo hi H Q => ∃ a xs, x = .ref a ∧ SqL K H a xs ∧ ∀ p H', Same H H' → H p = none → H' p = some (.lst (cutV xs lo hi)) → Q (.ref p) H'
theorem sl_listS {X : Cx} : SlR X (rSlLS X.K) := by
  intro pins s σ H x v vl vu lo hi sl Q I rx hs pl pu h
  obtain ⟨a, xs, e, hx, k⟩ := h
  exact sl_list pins s σ H x v vl vu lo hi sl Q I rx hs pl pu ⟨a, xs, e, hx, fun p n => k p _ ((Same.refl _).new n) n upd_same⟩
/-- a row of data of equal shape -/
theorem dpAll_get {K : PySem.W.Frag} {H : Hp} : ∀ (vs : List V) (ds : List PyData), vs.length = ds.length → (∀ (i : Nat) (v : V), vs[i]? = some v → ∃ d : PyData, ds[i]? = some d ∧ Dp K H v d) → DpAll K H vs ds
  | [], [], _, _ => .nil
  | [], d :: ds, h, _ => nomatch h
  | v :: vs, [], h, _ => nomatch h
  | v :: vs, d :: ds, h, k => by
    refine .cons ?_ (dpAll_get vs ds (by simpa using h) fun i u hu => ?_)
    · obtain ⟨d', e, r⟩ := k 0 v rfl
      cases e
      exact r
    · obtain ⟨d', e, r⟩ := k (i + 1) u (by simpa using hu)
      exact ⟨d', by simpa using e, r⟩
end L2

set_option Elab.async false
set_option linter.all false
set_option maxRecDepth 100000
set_option maxHeartbeats 4000000
namespace K00
open PySem L2
def top (i : Nat) : Stmt := PySem.Challenge.pw_caseflow_k00_errors.main.body.getD i (.Pass ⟨0, 0, 0, 0⟩)
abbrev s_law_roll : Stmt := top 25
theorem sc_law_roll : FnScope ["dice", "total", "found", "one", "two"] ["dice", "total"] (defScope s_law_roll) := ⟨rfl, rfl, rfl, by decide +kernel, rfl, by decide +kernel, by decide +kernel⟩
abbrev s_law_dice : Stmt := top 24
theorem sc_law_dice : FnScope ["script", "at", "cell", "great", "seed", "place", "other"] ["script", "at"] (defScope s_law_dice) := ⟨rfl, rfl, rfl, by decide +kernel, rfl, by decide +kernel, by decide +kernel⟩
abbrev s_law_one_of : Stmt := top 26
theorem sc_law_one_of : FnScope ["dice", "items"] ["dice", "items"] (defScope s_law_one_of) := ⟨rfl, rfl, rfl, by decide +kernel, rfl, by decide +kernel, by decide +kernel⟩
structure Txt (mg : Str → Option Value) : Prop where
  len : mg "len" = none
  abs : mg "abs" = none
  int : mg "int" = none
  enumerate : mg "enumerate" = none
section
variable {P : Program} {w : World} {K : PySem.W.Frag} {mg : Str → Option Value} {base : Heap}
def spRoll : Sp := fun vs H Q _ => ∃ (p : Addr) (total g s n : Int), vs = [.ref p, .int total] ∧ H p = some (.lst [.int g, .int s, .int n]) ∧ 0 < total ∧ total < 2 ^ 60 ∧ 0 ≤ g ∧ 0 ≤ s ∧ s < 2 ^ 61 ∧ 0 ≤ n ∧ n < 2 ^ 30 ∧
  ∀ r g' n' : Int, 0 ≤ r → r < total → 0 ≤ g' → n ≤ n' → n' ≤ n + 1 → Q (.int r) (upd H p (.lst [.int g', .int s, .int n']))
theorem ok_roll {f : Addr} {fd : FuncData} (F : Fun K "_law_roll" "_law_roll" s_law_roll f fd) : FnG P w K mg base CX0 1 f fd ["dice", "total"] spRoll := by
  have nd := sc_law_roll.nd
  refine okG F sc_law_roll (fun vs H Q E h => ?_) (fun cdv A outer s H vs Q E hr h => ?_)
  · obtain ⟨p, total, g, s, n, rfl, _⟩ := h
    rfl
  · obtain ⟨p, total, g, s, n, rfl, hp, h1, h2, h3, h4, h5, h6, h7, k⟩ := h
    refine ⟨_, (pss_cons (ps_if (pt_cmpA op_gtA (pe_ixA (av 0) pe_int) pe_int) (pss_cons (ps_set (i := 2) nd rfl (Or.inl rfl) (pe_op op_modA (pe_ixA (av 0) pe_int) (av 1)))
      (pss_cons (ps_asg (pe_op op_fdvA (pe_ixA (av 0) pe_int) (av 1)) (pg_sub (av 0) pe_int set_list))
      (pss_one (ps_ret (av 2))))) pss_nil)
      (pss_cons (ps_asg (pe_op op_addA (pe_ixA (av 0) pe_int) pe_int) (pg_sub (av 0) pe_int set_list))
      (pss_cons (ps_set (i := 3) nd rfl (Or.inl rfl) (pe_op op_modA (pe_op op_powA (pe_op op_addA (pe_ixA (av 0) pe_int) (pe_op op_mulA pe_int (pe_ixA (av 0) pe_int))) pe_int) pe_int))
      (pss_cons (ps_set (i := 4) nd rfl (Or.inl rfl) (pe_op op_modA (pe_op op_powA (pe_op op_addA (pe_op op_addA (av 3) (pe_op op_modA (pe_ixA (av 0) pe_int) pe_int)) (pe_op op_mulA pe_int (pe_ixA (av 0) pe_int))) pe_int) pe_int))
      (pss_one (ps_ret (pe_op op_modA (pe_op op_fdvA (av 4) pe_int) (av 1)))))))), ?_⟩
    have hS : SqL K H p [.int g, .int s, .int n] := SqL.of hp
    refine .inl ⟨_, _, hS, rfl, ?_⟩
    refine ite2 (fun hg => ?_) (fun hg => ?_)
    · refine .inl ⟨_, _, hS, rfl, h1, ?_⟩
      refine .inl ⟨_, _, hS, rfl, wide_div h1 (b := 60) (by omega) (by decide) (by decide), ?_⟩
      refine ⟨p, _, 0, 0, rfl, rfl, hp, rfl, ?_⟩
      exact k (g % total) (g / total) n (Int.emod_nonneg _ (by omega)) (Int.emod_lt_of_pos _ h1) (Int.ediv_nonneg h3 (by omega)) (by omega) (by omega)
    · refine .inl ⟨_, _, hS, rfl, ?_⟩
      refine ⟨p, _, 2, 2, rfl, rfl, hp, rfl, ?_⟩
      have hS1 : SqL K (upd H p (.lst [.int g, .int s, .int (n + 1)])) p [.int g, .int s, .int (n + 1)] := SqL.of upd_same
      refine .inl ⟨_, _, hS1, rfl, ?_⟩
      refine .inl ⟨_, _, hS1, rfl, .inl ⟨by decide, by decide⟩, ?_⟩
      refine ⟨pow_ok (by omega) (by omega) (by decide) (by decide), by decide, ?_⟩
      have b1 := Int.emod_nonneg ((s + 15485863 * (n + 1)) ^ Int.toNat 3) (show (2305843009213693951 : Int) ≠ 0 by decide)
      have b2 := Int.emod_lt_of_pos ((s + 15485863 * (n + 1)) ^ Int.toNat 3) (show (0 : Int) < 2305843009213693951 by decide)
      refine .inl ⟨_, _, hS1, rfl, by decide, ?_⟩
      have b3 := Int.emod_nonneg s (show (1000033 : Int) ≠ 0 by decide)
      have b4 := Int.emod_lt_of_pos s (show (0 : Int) < 1000033 by decide)
      refine .inl ⟨_, _, hS1, rfl, .inl ⟨by decide, by decide⟩, ?_⟩
      refine ⟨pow_ok (by omega) (by omega) (by decide) (by decide), by decide, ?_⟩
      refine ⟨wide_div (by decide) (b := 14) (by decide) (by decide) (by decide), h1, ?_⟩
      exact k _ g (n + 1) (Int.emod_nonneg _ (by omega)) (Int.emod_lt_of_pos _ h1) h3 (by omega) (by omega)
def spDice (K : PySem.W.Frag) : Sp := fun vs H Q _ => ∃ (a : Addr) (ns : List Int) (at' : Nat), vs = [.ref a, .int at'] ∧ SqL K H a (ns.map V.int) ∧ ns.length ≤ 63 ∧ at' < 64 ∧
  ∀ (H' : Hp) (p : Addr) (g s : Int), Same H H' → H p = none → H' p = some (.lst [.int g, .int s, .int 0]) → 0 ≤ g → 0 ≤ s → s < 2 ^ 61 → Q (.ref p) H'
theorem ok_dice {f : Addr} {fd : FuncData} (F : Fun K "_law_dice" "_law_dice" s_law_dice f fd) (T : Txt mg) : FnG P w K mg base CX0 1 f fd ["script", "at"] (spDice K) := by
  have nd := sc_law_dice.nd
  refine okG F sc_law_dice (fun vs H Q E h => ?_) (fun cdv A outer s H vs Q E hr h => ?_)
  · obtain ⟨a, ns, at', rfl, _⟩ := h
    rfl
  · obtain ⟨a, ns, at', rfl, hS, hlen, hat, k⟩ := h
    refine ⟨_, (pss_cut (ps_set (i := 2) nd rfl (Or.inl rfl) (pe_ifExp (pt_cmpA op_ltA (av 1) (pe_callB call_lenA (by rfl) T.len PySem.boot_len (pa_cons (av 0) pa_nil))) (pe_ixA (av 0) (av 1)) (pe_op op_addA (pe_op op_mulA pe_int (av 1)) pe_int)))
      (pss_cons (ps_set (i := 3) nd rfl (Or.inl rfl) (pe_op op_modA (pe_callB call_absA (by rfl) T.abs (by decide +kernel) (pa_cons (av 2) pa_nil)) (pe_op op_powA (pe_op op_powA pe_int pe_int) pe_int)))
      (pss_cons (ps_set (i := 4) nd rfl (Or.inl rfl) (pe_op op_addA (pe_op op_addA (pe_op op_addA (pe_op op_modA (av 3) pe_int) (pe_op op_mulA pe_int (av 1))) (pe_op op_mulA pe_int (pe_callTy call_intA (by rfl) T.int (by decide +kernel) (pa_cons (pe_cmpA op_ltA (av 2) pe_int) pa_nil)))) pe_int))
      (pss_cons (ps_for PassesOwn.never rfl (pi_enum (by rfl) T.enumerate (pa_cons (av 0) pa_nil)) (pg_tup rfl (pgs_cons (pg_name (i := 5) nd rfl (Or.inl rfl)) (pgs_cons (pg_name (i := 6) nd rfl (Or.inl rfl)) pgs_nil))) (pss_one (ps_if (pt_cmpA (op_neA hr.units64) (av 5) (av 1)) (pss_one (ps_set (i := 4) nd rfl (Or.inl rfl) (pe_op op_modA (pe_op op_addA (pe_op op_addA (pe_op op_mulA pe_int (av 4)) (av 6)) (av 5)) pe_int))) pss_nil)))
      (pss_cons (ps_set (i := 4) nd rfl (Or.inl rfl) (pe_op op_modA (pe_op op_powA (av 4) pe_int) pe_int))
      (pss_one (ps_ret (pe_lst (pa_cons (pe_op op_mulA (pe_op op_fdvA (av 3) (pe_op op_powA pe_int pe_int)) (pe_callTy call_intA (by rfl) T.int (by decide +kernel) (pa_cons (pe_cmpA op_geA (av 3) (pe_op op_powA pe_int pe_int)) pa_nil))) (pa_cons (av 4) (pa_cons pe_int pa_nil))))))))))), ?_⟩
    refine ⟨fun σ H' => ∃ cell : Int, σ = [some (.ref a), some (.int at'), some (.int cell), none, none, none, none] ∧ H' = H, ?_, ?_⟩
    · refine .inl ⟨_, hS, ?_⟩
      refine ite2 (fun hc => ?_) (fun hc => ?_)
      · have hc' : at' < ns.length := by
          have := of_decide_eq_true hc
          rw [List.length_map] at this
          omega
        refine .inl ⟨_, _, hS, atI_nat (by rw [List.getElem?_map, List.getElem?_eq_getElem hc']; rfl), ?_⟩
        exact ⟨_, rfl, rfl⟩
      · exact ⟨.inl ⟨by decide, by decide⟩, _, rfl, rfl⟩
    rintro σ H' ⟨cell, rfl, rfl⟩
    refine ⟨pow_ok (by decide) (by decide) (by decide) (by decide), big_bits, big_pos, ?_⟩
    generalize hG : (if cell < 0 then -cell else cell) % ((10 : Int) ^ Int.toNat 60) ^ Int.toNat 13 = great
    have hg0 : 0 ≤ great := by rw [← hG]; exact Int.emod_nonneg _ (by have := big_pos; omega)
    refine ⟨by decide, .inl ⟨by decide, by decide⟩, .inl ⟨by decide, by decide⟩, ?_⟩
    have m1 := Int.emod_nonneg great (show (2305843009213693907 : Int) ≠ 0 by decide)
    have m2 := Int.emod_lt_of_pos great (show (0 : Int) < 2305843009213693907 by decide)
    have m3 : (0 : Int) ≤ (if decide (cell < 0) = true then 1 else 0) ∧ (if decide (cell < 0) = true then (1 : Int) else 0) ≤ 1 := by split <;> decide
    generalize (if decide (cell < 0) = true then (1 : Int) else 0) = neg at m3
    refine ⟨a, _, rfl, hS, for_enum (K := K) (a := a) (xs := ns.map V.int) (fun i σ H2 => ∃ (seed : Int) (pl ot : Option V), σ = [some (.ref a), some (.int at'), some (.int cell), some (.int great), some (.int seed), pl, ot] ∧ 0 ≤ seed ∧ seed < 2 ^ 62 ∧ Same H' H2) ⟨_, _, _, rfl, by omega, by omega, Same.refl _⟩ (fun i σ H2 _ ⟨_, _, _, _, _, _, s5⟩ => s5.seq hS) ?_ ?_⟩
    · rintro i x Tp σ H2 hi ⟨seed, pl, ot, rfl, h1, h2, s5⟩ hT
      obtain ⟨z, hz, rfl⟩ : ∃ z, ns[i]? = some z ∧ x = V.int z := by
        rw [List.getElem?_map] at hi
        cases e : ns[i]? with
        | none => rw [e] at hi; cases hi
        | some z => rw [e] at hi; exact ⟨z, rfl, (Option.some.inj hi).symm⟩
      refine tup2 ?_
      refine ite2 (fun hc => ?_) (fun hc => ?_)
      · refine ⟨.inl ⟨by decide, by decide⟩, by decide, ?_⟩
        have b1 := Int.emod_nonneg (1000003 * seed + z + i) (show (2305843009213693907 : Int) ≠ 0 by decide)
        have b2 := Int.emod_lt_of_pos (1000003 * seed + z + i) (show (0 : Int) < 2305843009213693907 by decide)
        exact ⟨_, _, _, rfl, b1, by omega, s5.new hT⟩
      · exact ⟨_, _, _, rfl, h1, h2, s5.new hT⟩
    · rintro σ H2 ⟨seed, pl, ot, rfl, h1, h2, s5⟩
      refine ⟨pow_ok (by omega) (by omega) (by decide) (by decide), by decide, ?_⟩
      have b1 := Int.emod_nonneg (seed ^ Int.toNat 3) (show (2305843009213693921 : Int) ≠ 0 by decide)
      have b2 := Int.emod_lt_of_pos (seed ^ Int.toNat 3) (show (0 : Int) < 2305843009213693921 by decide)
      refine ⟨pow_ok (by decide) (by decide) (by decide) (by decide), wide_div (by decide) (b := 60) (by decide) (by decide) (by decide), pow_ok (by decide) (by decide) (by decide) (by decide), .inr (by split <;> decide), (by show 3 ≤ sizeLine; decide), fun p hp => ?_⟩
      refine k _ p _ _ (s5.new hp) (s5.free hp) upd_same ?_ b1 (by omega)
      have q0 : 0 ≤ great / (10 : Int) ^ Int.toNat 18 := Int.ediv_nonneg hg0 (by decide)
      split
      · rw [Int.mul_one]; exact q0
      · rw [Int.mul_zero]; exact Int.le_refl _
end
end K00

set_option Elab.async false
set_option linter.all false
set_option maxRecDepth 100000
set_option maxHeartbeats 4000000
namespace K00
open PySem L2 PySem.KX
abbrev scopied : Stmt := top 22
theorem sccopied : FnScope ["value", "part", "key"] ["value"] (defScope scopied) := ⟨rfl, rfl, rfl, by decide +kernel, rfl, by decide +kernel, by decide +kernel⟩
section
variable {P : Program} {w : World} {K : PySem.W.Frag} {mg : Str → Option Value} {base : Heap}
/-- copied(v), v data that lies beside B: the same data, beside B too -/
def spCop (K : PySem.W.Frag) (n : Nat) : Sp := fun vs H Q _ => ∃ (v : V) (d : PyData) (B : List Addr), vs = [v] ∧ Dp K (hide B H) v d ∧ d.depth ≤ n ∧ smallD d = true ∧ (∀ b ∈ B, H b ≠ none) ∧
  ∀ v' H', Same H H' → Dp K (hide B H') v' d → Q v' H'
structure TxtC (mg : Str → Option Value) : Prop where
  isinstance : mg "isinstance" = none
  list : mg "list" = none
  tuple : mg "tuple" = none
  dict : mg "dict" = none
theorem ok_copied_step {f : Addr} {fd : FuncData} (F : Fun K "copied" "copied" scopied f fd) (T : TxtC mg) (n : Nat) (Oc : ∀ m, n = m + 1 → OwnK P w K mg base CX0 "copied" (m + 1) ["value"] (spCop K m)) : FnOk P w K mg base CX0 (n + 1) f fd ["value"] (spCop K n) := by
  have nd := sccopied.nd
  refine F.ok sccopied (fun vs H Q E h => ?_) (fun cdv A outer s H vs Q E hr h => ?_)
  · obtain ⟨v, d, B, rfl, _⟩ := h
    rfl
  · obtain ⟨v, d, B, rfl, hd, hn, hsm, hB, k⟩ := h
    cases d with
    | list ds =>
      have hn' : PyData.depthAll ds + 1 ≤ n := by simpa only [PyData.depth] using hn
      obtain ⟨m, hm⟩ : ∃ m, n = m + 1 := ⟨n - 1, by omega⟩
      obtain ⟨hsz, hsm2⟩ := small_lst hsm
      refine ⟨_, (pss_cons (ps_if (pt_valA (pe_callB call_isiA (by rfl) T.isinstance (by decide +kernel) (pa_cons (av 0) (pa_cons (pe_bltn (v := .ty "list") (u := .type "list") rfl T.list (by decide +kernel) rfl) pa_nil)))) (pss_one (ps_ret (pe_lc (own := [("part", 1)]) (by rfl) nd (pi_list (av 0)) (blkOk_by (N := ["value", "part", "key"]) (sc := defScope scopied) (by decide +kernel)) (fun _ _ _ _ _ => (pg_name (i := 1) nd rfl (Or.inl rfl))) (fun _ _ _ _ _ => pts_nil) (fun _ _ _ _ _ => (pe_ownK (Oc m hm) hr (pa_cons (av 1) pa_nil) (by omega)))))) pss_nil) pss_never), ?_⟩
      refine ⟨_, _, _, _, true, rfl, .ty _, (Dp.same hide_sub _ _ hd).ty, kit_ty (show kitB "list" "list" = some true by decide +kernel), ?_⟩
      refine iteT ?_
      cases hd with
      | @lst a xs _ hs ha =>
            have hs' := hide_sub.sqL hs
            refine ⟨a, rfl, ⟨_, hs'⟩, fun D hD => ?_⟩
            have hDB : D ∉ B := fun z => hB D z hD
            refine lc_list (K := K) (a := a) (xs := xs) (fun i H' => ∃ acc, H' D = some (.lst acc) ∧ Same H H' ∧ DpAll K (hide (D :: B) H') acc (ds.take i)) ⟨[], upd_same, (Same.refl H).new hD, .nil⟩ (fun i H' _ ⟨_, _, s5, _⟩ => s5.sqL hs') ?_ ?_
            · rintro i x H' hi ⟨acc, hDa, s5, hacc⟩
              obtain ⟨dx, hdx, hx⟩ := ha.get hi
              refine ⟨rfl, x, dx, D :: B, rfl, ?_, by have := depth_mem hdx; omega, small_mem hsm2 hdx, ?_, fun v' H2 s6 hv => ?_⟩
              · refine Dp.same (fun b o e => ?_) dx x hx
                obtain ⟨e1, e2⟩ := hide_of e
                have nb : b ≠ D := fun z => by rw [z, hD] at e1; cases e1
                rw [hide_in (fun z => (List.mem_cons.mp z).elim nb e2)]
                exact s5 _ _ e1
              · intro b hb2
                rcases List.mem_cons.mp hb2 with z | z
                · rw [z, hDa]; exact fun y => nomatch y
                · have := hB b z
                  cases q : H b with
                  | none => exact absurd q this
                  | some o => rw [s5 b o q]; exact fun y => nomatch y
              · have hD2 := s6 _ _ hDa
                have hl : acc.length ≤ i := by
                  have := hacc.length
                  rw [List.length_take] at this
                  omega
                have hi' : i < xs.length := (List.getElem?_eq_some_iff.mp hi).1
                refine ⟨acc, hD2, by have := ha.length; show acc.length < 16777216; omega, acc ++ [v'], upd_same, fun b o e => ?_, ?_⟩
                · have nb : b ≠ D := fun z => by rw [z, hD] at e; cases e
                  rw [upd_ne nb]
                  exact s6 _ _ (s5 _ _ e)
                · rw [hide_upd]
                  have e : ds.take (i + 1) = ds.take i ++ [dx] := by
                    rw [List.take_add_one, hdx]
                    rfl
                  rw [e]
                  exact DpAll.snoc (DpAll.same (hide_same s6) _ _ hacc) hv
            · rintro H' ⟨acc, hDa, s5, hacc⟩
              rw [ha.length, List.take_length] at hacc
              exact k _ _ s5 (.lst (SqL.of (by rw [hide_in hDB]; exact hDa)) (DpAll.same hide_more _ _ hacc))
    | tuple ds =>
      have hn' : PyData.depthAll ds + 1 ≤ n := by simpa only [PyData.depth] using hn
      obtain ⟨m, hm⟩ : ∃ m, n = m + 1 := ⟨n - 1, by omega⟩
      obtain ⟨hsz, hsm2⟩ := small_tup hsm
      refine ⟨_, (pss_cons (ps_if (pt_valA (pe_callB call_isiA (by rfl) T.isinstance (by decide +kernel) (pa_cons (av 0) (pa_cons (pe_bltn (v := .ty "list") (u := .type "list") rfl T.list (by decide +kernel) rfl) pa_nil)))) pss_never pss_nil)
      (pss_cons (ps_if (pt_valA (pe_callB call_isiA (by rfl) T.isinstance (by decide +kernel) (pa_cons (av 0) (pa_cons (pe_bltn (v := .ty "tuple") (u := .type "tuple") rfl T.tuple (by decide +kernel) rfl) pa_nil)))) (pss_one (ps_ret (pe_callTy call_tupleA (by rfl) T.tuple (by decide +kernel) (pa_cons (pe_lc (own := [("part", 1)]) (by rfl) nd (pi_tup (av 0)) (blkOk_by (N := ["value", "part", "key"]) (sc := defScope scopied) (by decide +kernel)) (fun _ _ _ _ _ => (pg_name (i := 1) nd rfl (Or.inl rfl))) (fun _ _ _ _ _ => pts_nil) (fun _ _ _ _ _ => (pe_ownK (Oc m hm) hr (pa_cons (av 1) pa_nil) (by omega)))) pa_nil)))) pss_nil) pss_never)), ?_⟩
      refine ⟨_, _, _, _, false, rfl, .ty _, (Dp.same hide_sub _ _ hd).ty, kit_ty (show kitB "tuple" "list" = some false by decide +kernel), ?_⟩
      refine iteF ?_
      refine ⟨_, _, _, _, true, rfl, .ty _, (Dp.same hide_sub _ _ hd).ty, kit_ty (show kitB "tuple" "tuple" = some true by decide +kernel), ?_⟩
      refine iteT ?_
      cases hd with
      | @tup a xs _ hs ha =>
            have hs' := hide_sub.sqT hs
            refine ⟨a, rfl, ⟨_, hs'⟩, fun D hD => ?_⟩
            have hDB : D ∉ B := fun z => hB D z hD
            refine lc_tup (K := K) (a := a) (xs := xs) (fun i H' => ∃ acc, H' D = some (.lst acc) ∧ Same H H' ∧ DpAll K (hide (D :: B) H') acc (ds.take i)) ⟨[], upd_same, (Same.refl H).new hD, .nil⟩ (fun i H' _ ⟨_, _, s5, _⟩ => s5.sqT hs') ?_ ?_
            · rintro i x H' hi ⟨acc, hDa, s5, hacc⟩
              obtain ⟨dx, hdx, hx⟩ := ha.get hi
              refine ⟨rfl, x, dx, D :: B, rfl, ?_, by have := depth_mem hdx; omega, small_mem hsm2 hdx, ?_, fun v' H2 s6 hv => ?_⟩
              · refine Dp.same (fun b o e => ?_) dx x hx
                obtain ⟨e1, e2⟩ := hide_of e
                have nb : b ≠ D := fun z => by rw [z, hD] at e1; cases e1
                rw [hide_in (fun z => (List.mem_cons.mp z).elim nb e2)]
                exact s5 _ _ e1
              · intro b hb2
                rcases List.mem_cons.mp hb2 with z | z
                · rw [z, hDa]; exact fun y => nomatch y
                · have := hB b z
                  cases q : H b with
                  | none => exact absurd q this
                  | some o => rw [s5 b o q]; exact fun y => nomatch y
              · have hD2 := s6 _ _ hDa
                have hl : acc.length ≤ i := by
                  have := hacc.length
                  rw [List.length_take] at this
                  omega
                have hi' : i < xs.length := (List.getElem?_eq_some_iff.mp hi).1
                refine ⟨acc, hD2, by have := ha.length; show acc.length < 16777216; omega, acc ++ [v'], upd_same, fun b o e => ?_, ?_⟩
                · have nb : b ≠ D := fun z => by rw [z, hD] at e; cases e
                  rw [upd_ne nb]
                  exact s6 _ _ (s5 _ _ e)
                · rw [hide_upd]
                  have e : ds.take (i + 1) = ds.take i ++ [dx] := by
                    rw [List.take_add_one, hdx]
                    rfl
                  rw [e]
                  exact DpAll.snoc (DpAll.same (hide_same s6) _ _ hacc) hv
            · rintro H' ⟨acc, hDa, s5, hacc⟩
              rw [ha.length, List.take_length] at hacc
              refine .inl ⟨_, SqL.of hDa, fun l hl => ?_⟩
              have hlB : l ∉ B := fun z => by
                have := hB l z
                cases q : H l with
                | none => exact this q
                | some o => rw [s5 l o q] at hl; cases hl
              refine k _ _ (s5.new hl) (.tup (SqT.of (by rw [hide_in hlB]; exact upd_same)) (DpAll.same (fun b o e => ?_) _ _ hacc))
              obtain ⟨e1, e2⟩ := hide_of e
              rw [hide_in (fun z => e2 (List.mem_cons_of_mem _ z)), upd_ne (ne_of_none e1 hl)]
              exact e1
    | dict kvs => cases hd
    | none  =>
      refine ⟨_, (pss_cons (ps_if (pt_valA (pe_callB call_isiA (by rfl) T.isinstance (by decide +kernel) (pa_cons (av 0) (pa_cons (pe_bltn (v := .ty "list") (u := .type "list") rfl T.list (by decide +kernel) rfl) pa_nil)))) pss_never pss_nil)
      (pss_cons (ps_if (pt_valA (pe_callB call_isiA (by rfl) T.isinstance (by decide +kernel) (pa_cons (av 0) (pa_cons (pe_bltn (v := .ty "tuple") (u := .type "tuple") rfl T.tuple (by decide +kernel) rfl) pa_nil)))) pss_never pss_nil)
      (pss_cons (ps_if (pt_valA (pe_callB call_isiA (by rfl) T.isinstance (by decide +kernel) (pa_cons (av 0) (pa_cons (pe_bltn (v := .ty "dict") (u := .type "dict") rfl T.dict (by decide +kernel) rfl) pa_nil)))) pss_never pss_nil)
      (pss_one (ps_ret (av 0)))))), ?_⟩
      refine ⟨_, _, _, _, false, rfl, .ty _, (Dp.same hide_sub _ _ hd).ty, kit_ty (show kitB "NoneType" "list" = some false by decide +kernel), ?_⟩
      refine iteF ?_
      refine ⟨_, _, _, _, false, rfl, .ty _, (Dp.same hide_sub _ _ hd).ty, kit_ty (show kitB "NoneType" "tuple" = some false by decide +kernel), ?_⟩
      refine iteF ?_
      refine ⟨_, _, _, _, false, rfl, .ty _, (Dp.same hide_sub _ _ hd).ty, kit_ty (show kitB "NoneType" "dict" = some false by decide +kernel), ?_⟩
      refine iteF ?_
      exact k _ _ (Same.refl H) hd
    | bool b =>
      refine ⟨_, (pss_cons (ps_if (pt_valA (pe_callB call_isiA (by rfl) T.isinstance (by decide +kernel) (pa_cons (av 0) (pa_cons (pe_bltn (v := .ty "list") (u := .type "list") rfl T.list (by decide +kernel) rfl) pa_nil)))) pss_never pss_nil)
      (pss_cons (ps_if (pt_valA (pe_callB call_isiA (by rfl) T.isinstance (by decide +kernel) (pa_cons (av 0) (pa_cons (pe_bltn (v := .ty "tuple") (u := .type "tuple") rfl T.tuple (by decide +kernel) rfl) pa_nil)))) pss_never pss_nil)
      (pss_cons (ps_if (pt_valA (pe_callB call_isiA (by rfl) T.isinstance (by decide +kernel) (pa_cons (av 0) (pa_cons (pe_bltn (v := .ty "dict") (u := .type "dict") rfl T.dict (by decide +kernel) rfl) pa_nil)))) pss_never pss_nil)
      (pss_one (ps_ret (av 0)))))), ?_⟩
      refine ⟨_, _, _, _, false, rfl, .ty _, (Dp.same hide_sub _ _ hd).ty, kit_ty (show kitB "bool" "list" = some false by decide +kernel), ?_⟩
      refine iteF ?_
      refine ⟨_, _, _, _, false, rfl, .ty _, (Dp.same hide_sub _ _ hd).ty, kit_ty (show kitB "bool" "tuple" = some false by decide +kernel), ?_⟩
      refine iteF ?_
      refine ⟨_, _, _, _, false, rfl, .ty _, (Dp.same hide_sub _ _ hd).ty, kit_ty (show kitB "bool" "dict" = some false by decide +kernel), ?_⟩
      refine iteF ?_
      exact k _ _ (Same.refl H) hd
    | int i =>
      refine ⟨_, (pss_cons (ps_if (pt_valA (pe_callB call_isiA (by rfl) T.isinstance (by decide +kernel) (pa_cons (av 0) (pa_cons (pe_bltn (v := .ty "list") (u := .type "list") rfl T.list (by decide +kernel) rfl) pa_nil)))) pss_never pss_nil)
      (pss_cons (ps_if (pt_valA (pe_callB call_isiA (by rfl) T.isinstance (by decide +kernel) (pa_cons (av 0) (pa_cons (pe_bltn (v := .ty "tuple") (u := .type "tuple") rfl T.tuple (by decide +kernel) rfl) pa_nil)))) pss_never pss_nil)
      (pss_cons (ps_if (pt_valA (pe_callB call_isiA (by rfl) T.isinstance (by decide +kernel) (pa_cons (av 0) (pa_cons (pe_bltn (v := .ty "dict") (u := .type "dict") rfl T.dict (by decide +kernel) rfl) pa_nil)))) pss_never pss_nil)
      (pss_one (ps_ret (av 0)))))), ?_⟩
      refine ⟨_, _, _, _, false, rfl, .ty _, (Dp.same hide_sub _ _ hd).ty, kit_ty (show kitB "int" "list" = some false by decide +kernel), ?_⟩
      refine iteF ?_
      refine ⟨_, _, _, _, false, rfl, .ty _, (Dp.same hide_sub _ _ hd).ty, kit_ty (show kitB "int" "tuple" = some false by decide +kernel), ?_⟩
      refine iteF ?_
      refine ⟨_, _, _, _, false, rfl, .ty _, (Dp.same hide_sub _ _ hd).ty, kit_ty (show kitB "int" "dict" = some false by decide +kernel), ?_⟩
      refine iteF ?_
      exact k _ _ (Same.refl H) hd
    | str z =>
      refine ⟨_, (pss_cons (ps_if (pt_valA (pe_callB call_isiA (by rfl) T.isinstance (by decide +kernel) (pa_cons (av 0) (pa_cons (pe_bltn (v := .ty "list") (u := .type "list") rfl T.list (by decide +kernel) rfl) pa_nil)))) pss_never pss_nil)
      (pss_cons (ps_if (pt_valA (pe_callB call_isiA (by rfl) T.isinstance (by decide +kernel) (pa_cons (av 0) (pa_cons (pe_bltn (v := .ty "tuple") (u := .type "tuple") rfl T.tuple (by decide +kernel) rfl) pa_nil)))) pss_never pss_nil)
      (pss_cons (ps_if (pt_valA (pe_callB call_isiA (by rfl) T.isinstance (by decide +kernel) (pa_cons (av 0) (pa_cons (pe_bltn (v := .ty "dict") (u := .type "dict") rfl T.dict (by decide +kernel) rfl) pa_nil)))) pss_never pss_nil)
      (pss_one (ps_ret (av 0)))))), ?_⟩
      refine ⟨_, _, _, _, false, rfl, .ty _, (Dp.same hide_sub _ _ hd).ty, kit_ty (show kitB "str" "list" = some false by decide +kernel), ?_⟩
      refine iteF ?_
      refine ⟨_, _, _, _, false, rfl, .ty _, (Dp.same hide_sub _ _ hd).ty, kit_ty (show kitB "str" "tuple" = some false by decide +kernel), ?_⟩
      refine iteF ?_
      refine ⟨_, _, _, _, false, rfl, .ty _, (Dp.same hide_sub _ _ hd).ty, kit_ty (show kitB "str" "dict" = some false by decide +kernel), ?_⟩
      refine iteF ?_
      exact k _ _ (Same.refl H) hd
end
end K00

set_option Elab.async false
set_option linter.all false
set_option maxRecDepth 100000
set_option maxHeartbeats 4000000
namespace K00
open PySem L2 PySem.KX
section
variable {P : Program} {w : World} {K : PySem.W.Frag} {mg : Str → Option Value} {base : Heap}
theorem ini_end {K : PySem.W.Frag} {H H2 : Hp} {a C dx : Addr} {v' : V} {d : PyData} {f : Str} {Q : VK} (e : H a = some (exo a C none)) (s6 : Same H H2) (hv : Dp K (hide [a] H2) v' d) (h1 : H2 dx = none) (h2 : dx ≠ a)
    (k : ∀ (H' : Hp) (dx : Addr) (v' : V), (∀ b o, b ≠ a → H b = some o → H' b = some o) → H dx = none → H' a = some (exo a C (some dx)) → H' dx = some (exd dx [(f, v')]) → Dp K H' v' d → Q .non H') :
    Q .non (upd (upd H2 dx (exd dx [(f, v')])) a (exo a C (some dx))) := by
  refine k _ dx v' (fun b o hb q => ?_) (s6.free h1) upd_same (by rw [upd_ne h2, upd_same]) (Dp.same (fun b o q => ?_) _ _ hv)
  · rw [upd_ne hb, upd_ne (ne_of_none (s6 b o q) h1)]
    exact s6 b o q
  · obtain ⟨q1, q2⟩ := hide_of q
    have hb : b ≠ a := fun z => q2 (by rw [z]; exact List.mem_cons_self)
    rw [upd_ne hb, upd_ne (ne_of_none q1 h1)]
    exact q1
abbrev sUnknownStep : Stmt := inClass (top 16) 0
theorem scUnknownStep : FnScope ["self", "name"] ["self", "name"] (defScope sUnknownStep) := ⟨rfl, rfl, rfl, by decide +kernel, rfl, by decide +kernel, by decide +kernel⟩
theorem ok_UnknownStep {f C : Addr} {fd : FuncData} (F : Fun K "__init__" "UnknownStep.__init__" sUnknownStep f fd) (hb : mg "KeyError" = none) (T : XCls K C "LookupError.__new__" tKey) (hno : PySem.W.findIn K (.ref C) "name" = some none)
    (vV : PySem.W.findCls K (.type "KeyError") (.type "type") "__init__" = some (.val (.builtin "KeyError.__init__"))) (Oc : OwnK P w K mg base CX0 "copied" 11 ["value"] (spCop K 10)) : FnOk P w K mg base CX0 12 f fd ["self", "name"] (spIni K C "name") := by
  have nd := scUnknownStep.nd
  refine F.ok scUnknownStep (fun vs H Q E h => ?_) (fun cdv A outer s H vs Q E hr h => ?_)
  · obtain ⟨a, v, d, rfl, _⟩ := h
    rfl
  · obtain ⟨a, v, d, rfl, e, hd, hn, hs, k⟩ := h
    refine ⟨_, (pss_cons (ps_expr (pe_xini xb_KeyError hb (by decide +kernel) (by kernel_rfl) (by decide +kernel) (by decide +kernel) vV (pa_cons (av 0) (pa_cons pe_str pa_nil))))
      (pss_one (ps_xs xb_KeyError (av 0) (pe_ownK Oc hr (pa_cons (av 1) pa_nil) (by decide))))), ?_⟩
    refine ⟨a, C, _, rfl, by decide, T, e, ?_⟩
    refine ⟨v, d, [a], rfl, hd, hn, hs, fun b hb2 => ?_, fun v' H2 s6 hv => ?_⟩
    · have : b = a := by simpa using hb2
      rw [this, e]
      exact fun y => nomatch y
    · refine ⟨a, C, rfl, T, hno, s6 _ _ e, fun dx h1 h2 => ?_⟩
      exact ini_end e s6 hv h1 h2 k
abbrev sUnknownName : Stmt := inClass (top 17) 0
theorem scUnknownName : FnScope ["self", "name"] ["self", "name"] (defScope sUnknownName) := ⟨rfl, rfl, rfl, by decide +kernel, rfl, by decide +kernel, by decide +kernel⟩
theorem ok_UnknownName {f C : Addr} {fd : FuncData} (F : Fun K "__init__" "UnknownName.__init__" sUnknownName f fd) (hb : mg "KeyError" = none) (T : XCls K C "LookupError.__new__" tKey) (hno : PySem.W.findIn K (.ref C) "name" = some none)
    (vV : PySem.W.findCls K (.type "KeyError") (.type "type") "__init__" = some (.val (.builtin "KeyError.__init__"))) (Oc : OwnK P w K mg base CX0 "copied" 11 ["value"] (spCop K 10)) : FnOk P w K mg base CX0 12 f fd ["self", "name"] (spIni K C "name") := by
  have nd := scUnknownName.nd
  refine F.ok scUnknownName (fun vs H Q E h => ?_) (fun cdv A outer s H vs Q E hr h => ?_)
  · obtain ⟨a, v, d, rfl, _⟩ := h
    rfl
  · obtain ⟨a, v, d, rfl, e, hd, hn, hs, k⟩ := h
    refine ⟨_, (pss_cons (ps_expr (pe_xini xb_KeyError hb (by decide +kernel) (by kernel_rfl) (by decide +kernel) (by decide +kernel) vV (pa_cons (av 0) (pa_cons pe_str pa_nil))))
      (pss_one (ps_xs xb_KeyError (av 0) (pe_ownK Oc hr (pa_cons (av 1) pa_nil) (by decide))))), ?_⟩
    refine ⟨a, C, _, rfl, by decide, T, e, ?_⟩
    refine ⟨v, d, [a], rfl, hd, hn, hs, fun b hb2 => ?_, fun v' H2 s6 hv => ?_⟩
    · have : b = a := by simpa using hb2
      rw [this, e]
      exact fun y => nomatch y
    · refine ⟨a, C, rfl, T, hno, s6 _ _ e, fun dx h1 h2 => ?_⟩
      exact ini_end e s6 hv h1 h2 k
abbrev sInvalidRun : Stmt := inClass (top 18) 0
theorem scInvalidRun : FnScope ["self", "at"] ["self", "at"] (defScope sInvalidRun) := ⟨rfl, rfl, rfl, by decide +kernel, rfl, by decide +kernel, by decide +kernel⟩
theorem ok_InvalidRun {f C : Addr} {fd : FuncData} (F : Fun K "__init__" "InvalidRun.__init__" sInvalidRun f fd) (hb : mg "LookupError" = none) (T : XCls K C "LookupError.__new__" tLookup) (hno : PySem.W.findIn K (.ref C) "at" = some none)
    (vV : PySem.W.findCls K (.type "LookupError") (.type "type") "__init__" = some (.val (.builtin "LookupError.__init__"))) (Oc : OwnK P w K mg base CX0 "copied" 11 ["value"] (spCop K 10)) : FnOk P w K mg base CX0 12 f fd ["self", "at"] (spIni K C "at") := by
  have nd := scInvalidRun.nd
  refine F.ok scInvalidRun (fun vs H Q E h => ?_) (fun cdv A outer s H vs Q E hr h => ?_)
  · obtain ⟨a, v, d, rfl, _⟩ := h
    rfl
  · obtain ⟨a, v, d, rfl, e, hd, hn, hs, k⟩ := h
    refine ⟨_, (pss_cons (ps_expr (pe_xini xb_LookupError hb (by decide +kernel) (by kernel_rfl) (by decide +kernel) (by decide +kernel) vV (pa_cons (av 0) (pa_cons pe_str pa_nil))))
      (pss_one (ps_xs xb_LookupError (av 0) (pe_ownK Oc hr (pa_cons (av 1) pa_nil) (by decide))))), ?_⟩
    refine ⟨a, C, _, rfl, by decide, T, e, ?_⟩
    refine ⟨v, d, [a], rfl, hd, hn, hs, fun b hb2 => ?_, fun v' H2 s6 hv => ?_⟩
    · have : b = a := by simpa using hb2
      rw [this, e]
      exact fun y => nomatch y
    · refine ⟨a, C, rfl, T, hno, s6 _ _ e, fun dx h1 h2 => ?_⟩
      exact ini_end e s6 hv h1 h2 k
abbrev sInvalidNumber : Stmt := inClass (top 19) 0
theorem scInvalidNumber : FnScope ["self", "value"] ["self", "value"] (defScope sInvalidNumber) := ⟨rfl, rfl, rfl, by decide +kernel, rfl, by decide +kernel, by decide +kernel⟩
theorem ok_InvalidNumber {f C : Addr} {fd : FuncData} (F : Fun K "__init__" "InvalidNumber.__init__" sInvalidNumber f fd) (hb : mg "IndexError" = none) (T : XCls K C "IndexError.__new__" tIndex) (hno : PySem.W.findIn K (.ref C) "value" = some none)
    (vV : PySem.W.findCls K (.type "IndexError") (.type "type") "__init__" = some (.val (.builtin "IndexError.__init__"))) (Oc : OwnK P w K mg base CX0 "copied" 11 ["value"] (spCop K 10)) : FnOk P w K mg base CX0 12 f fd ["self", "value"] (spIni K C "value") := by
  have nd := scInvalidNumber.nd
  refine F.ok scInvalidNumber (fun vs H Q E h => ?_) (fun cdv A outer s H vs Q E hr h => ?_)
  · obtain ⟨a, v, d, rfl, _⟩ := h
    rfl
  · obtain ⟨a, v, d, rfl, e, hd, hn, hs, k⟩ := h
    refine ⟨_, (pss_cons (ps_expr (pe_xini xb_IndexError hb (by decide +kernel) (by kernel_rfl) (by decide +kernel) (by decide +kernel) vV (pa_cons (av 0) (pa_cons pe_str pa_nil))))
      (pss_one (ps_xs xb_IndexError (av 0) (pe_ownK Oc hr (pa_cons (av 1) pa_nil) (by decide))))), ?_⟩
    refine ⟨a, C, _, rfl, by decide, T, e, ?_⟩
    refine ⟨v, d, [a], rfl, hd, hn, hs, fun b hb2 => ?_, fun v' H2 s6 hv => ?_⟩
    · have : b = a := by simpa using hb2
      rw [this, e]
      exact fun y => nomatch y
    · refine ⟨a, C, rfl, T, hno, s6 _ _ e, fun dx h1 h2 => ?_⟩
      exact ini_end e s6 hv h1 h2 k
abbrev sTooMany : Stmt := inClass (top 20) 0
theorem scTooMany : FnScope ["self", "limit"] ["self", "limit"] (defScope sTooMany) := ⟨rfl, rfl, rfl, by decide +kernel, rfl, by decide +kernel, by decide +kernel⟩
theorem ok_TooMany {f C : Addr} {fd : FuncData} (F : Fun K "__init__" "TooMany.__init__" sTooMany f fd) (hb : mg "OverflowError" = none) (T : XCls K C "OverflowError.__new__" tOverflow) (hno : PySem.W.findIn K (.ref C) "limit" = some none)
    (vV : PySem.W.findCls K (.type "OverflowError") (.type "type") "__init__" = some (.val (.builtin "OverflowError.__init__"))) (Oc : OwnK P w K mg base CX0 "copied" 11 ["value"] (spCop K 10)) : FnOk P w K mg base CX0 12 f fd ["self", "limit"] (spIni K C "limit") := by
  have nd := scTooMany.nd
  refine F.ok scTooMany (fun vs H Q E h => ?_) (fun cdv A outer s H vs Q E hr h => ?_)
  · obtain ⟨a, v, d, rfl, _⟩ := h
    rfl
  · obtain ⟨a, v, d, rfl, e, hd, hn, hs, k⟩ := h
    refine ⟨_, (pss_cons (ps_expr (pe_xini xb_OverflowError hb (by decide +kernel) (by kernel_rfl) (by decide +kernel) (by decide +kernel) vV (pa_cons (av 0) (pa_cons pe_str pa_nil))))
      (pss_one (ps_xs xb_OverflowError (av 0) (pe_ownK Oc hr (pa_cons (av 1) pa_nil) (by decide))))), ?_⟩
    refine ⟨a, C, _, rfl, by decide, T, e, ?_⟩
    refine ⟨v, d, [a], rfl, hd, hn, hs, fun b hb2 => ?_, fun v' H2 s6 hv => ?_⟩
    · have : b = a := by simpa using hb2
      rw [this, e]
      exact fun y => nomatch y
    · refine ⟨a, C, rfl, T, hno, s6 _ _ e, fun dx h1 h2 => ?_⟩
      exact ini_end e s6 hv h1 h2 k
abbrev sNotSound : Stmt := inClass (top 21) 0
theorem scNotSound : FnScope ["self", "paper"] ["self", "paper"] (defScope sNotSound) := ⟨rfl, rfl, rfl, by decide +kernel, rfl, by decide +kernel, by decide +kernel⟩
theorem ok_NotSound {f C : Addr} {fd : FuncData} (F : Fun K "__init__" "NotSound.__init__" sNotSound f fd) (hb : mg "RuntimeError" = none) (T : XCls K C "RuntimeError.__new__" tRuntime) (hno : PySem.W.findIn K (.ref C) "paper" = some none)
    (vV : PySem.W.findCls K (.type "RuntimeError") (.type "type") "__init__" = some (.val (.builtin "RuntimeError.__init__"))) (Oc : OwnK P w K mg base CX0 "copied" 11 ["value"] (spCop K 10)) : FnOk P w K mg base CX0 12 f fd ["self", "paper"] (spIni K C "paper") := by
  have nd := scNotSound.nd
  refine F.ok scNotSound (fun vs H Q E h => ?_) (fun cdv A outer s H vs Q E hr h => ?_)
  · obtain ⟨a, v, d, rfl, _⟩ := h
    rfl
  · obtain ⟨a, v, d, rfl, e, hd, hn, hs, k⟩ := h
    refine ⟨_, (pss_cons (ps_expr (pe_xini xb_RuntimeError hb (by decide +kernel) (by kernel_rfl) (by decide +kernel) (by decide +kernel) vV (pa_cons (av 0) (pa_cons pe_str pa_nil))))
      (pss_one (ps_xs xb_RuntimeError (av 0) (pe_ownK Oc hr (pa_cons (av 1) pa_nil) (by decide))))), ?_⟩
    refine ⟨a, C, _, rfl, by decide, T, e, ?_⟩
    refine ⟨v, d, [a], rfl, hd, hn, hs, fun b hb2 => ?_, fun v' H2 s6 hv => ?_⟩
    · have : b = a := by simpa using hb2
      rw [this, e]
      exact fun y => nomatch y
    · refine ⟨a, C, rfl, T, hno, s6 _ _ e, fun dx h1 h2 => ?_⟩
      exact ini_end e s6 hv h1 h2 k
end
end K00

set_option Elab.async false
set_option linter.all false
set_option maxRecDepth 100000
set_option maxHeartbeats 4000000
namespace K00
open PySem L2 PySem.KX
abbrev s_law_kinds : Stmt := top 29
theorem sc_law_kinds : FnScope ["error", "found"] ["error"] (defScope s_law_kinds) := ⟨rfl, rfl, rfl, by decide +kernel, rfl, by decide +kernel, by decide +kernel⟩
abbrev s_law_bases : Stmt := top 30
theorem sc_law_bases : FnScope ["error", "found"] ["error"] (defScope s_law_bases) := ⟨rfl, rfl, rfl, by decide +kernel, rfl, by decide +kernel, by decide +kernel⟩
/-- which of ValueError, KeyError, IndexError, LookupError, OverflowError, RuntimeError, FlowError the i-th class is derived from -/
def baseRow (i j : Nat) : Bool :=
  if i < 14 then j == 0 || j == 6 else if i < 16 then j == 1 || j == 3 else if i = 16 then j == 3 else if i = 17 then j == 2 || j == 3 else if i = 18 then j == 4 else j == 5
/-- the classes by their place in the law's own list; the last one is FlowError -/
structure TxtE (K : PySem.W.Frag) (mg : Str → Option Value) (C : Nat → Addr) : Prop where
  isinstance : mg "isinstance" = none
  ValueError : mg "ValueError" = none
  KeyError : mg "KeyError" = none
  IndexError : mg "IndexError" = none
  LookupError : mg "LookupError" = none
  OverflowError : mg "OverflowError" = none
  RuntimeError : mg "RuntimeError" = none
  g_InvalidNet : mg "InvalidNet" = some (.ref (C 0))
  g_InvalidWorkflow : mg "InvalidWorkflow" = some (.ref (C 1))
  g_InvalidMarking : mg "InvalidMarking" = some (.ref (C 2))
  g_InvalidPlaces : mg "InvalidPlaces" = some (.ref (C 3))
  g_InvalidOrder : mg "InvalidOrder" = some (.ref (C 4))
  g_InvalidPlan : mg "InvalidPlan" = some (.ref (C 5))
  g_InvalidChances : mg "InvalidChances" = some (.ref (C 6))
  g_InvalidCosts : mg "InvalidCosts" = some (.ref (C 7))
  g_InvalidLibrary : mg "InvalidLibrary" = some (.ref (C 8))
  g_InvalidTerm : mg "InvalidTerm" = some (.ref (C 9))
  g_InvalidLog : mg "InvalidLog" = some (.ref (C 10))
  g_InvalidOperation : mg "InvalidOperation" = some (.ref (C 11))
  g_ParseError : mg "ParseError" = some (.ref (C 12))
  g_InvalidCommand : mg "InvalidCommand" = some (.ref (C 13))
  g_UnknownStep : mg "UnknownStep" = some (.ref (C 14))
  g_UnknownName : mg "UnknownName" = some (.ref (C 15))
  g_InvalidRun : mg "InvalidRun" = some (.ref (C 16))
  g_InvalidNumber : mg "InvalidNumber" = some (.ref (C 17))
  g_TooMany : mg "TooMany" = some (.ref (C 18))
  g_NotSound : mg "NotSound" = some (.ref (C 19))
  g_FlowError : mg "FlowError" = some (.ref (C 20))
  kin : ∀ i j : Nat, i < 20 → j < 20 → PySem.W.kitOne K (.ref (C i)) (.ref (C j)) = some (decide (j = i))
  bas : ∀ i : Nat, i < 20 → PySem.W.kitOne K (.ref (C i)) (.type "ValueError") = some (baseRow i 0) ∧ PySem.W.kitOne K (.ref (C i)) (.type "KeyError") = some (baseRow i 1) ∧ PySem.W.kitOne K (.ref (C i)) (.type "IndexError") = some (baseRow i 2) ∧
    PySem.W.kitOne K (.ref (C i)) (.type "LookupError") = some (baseRow i 3) ∧ PySem.W.kitOne K (.ref (C i)) (.type "OverflowError") = some (baseRow i 4) ∧ PySem.W.kitOne K (.ref (C i)) (.type "RuntimeError") = some (baseRow i 5) ∧ PySem.W.kitOne K (.ref (C i)) (.ref (C 20)) = some (baseRow i 6)
section
variable {P : Program} {w : World} {K : PySem.W.Frag} {mg : Str → Option Value} {base : Heap} {C : Nat → Addr}
def spKinds (K : PySem.W.Frag) (C : Nat → Addr) : Sp := fun vs H Q _ => ∃ (v : V) (i : Nat), vs = [v] ∧ i < 20 ∧ TyE K H v (.ref (C i)) ∧
  ∀ (H' : Hp) (p : Addr), Same H H' → H p = none → H' p = some (.lst ((List.range 20).map fun j => V.bl (decide (j = i)))) → Q (.ref p) H'
def spBases (K : PySem.W.Frag) (C : Nat → Addr) : Sp := fun vs H Q _ => ∃ (v : V) (i : Nat), vs = [v] ∧ i < 20 ∧ TyE K H v (.ref (C i)) ∧
  ∀ (H' : Hp) (p : Addr), Same H H' → H p = none → H' p = some (.lst ((List.range 7).map fun j => V.bl (baseRow i j))) → Q (.ref p) H'
theorem TyE.same {K : PySem.W.Frag} {H H' : Hp} {v : V} {D : Addr} (e : Same H H') (h : TyE K H v (.ref D)) : TyE K H' v (.ref D) := by
  cases h with
  | x h =>
    cases h with
    | base h =>
      cases h with
      | ins e1 cl ha hn ht hm => exact .x (.base (.ins (e _ _ e1) cl ha hn ht hm))
  | m e1 c => exact .m (e _ _ e1) c
  | o e1 e2 c => exact .o (e _ _ e1) (e _ _ e2) c
theorem ok_kinds {f : Addr} {fd : FuncData} (F : Fun K "_law_kinds" "_law_kinds" s_law_kinds f fd) (T : TxtE K mg C) : FnG P w K mg base CX0 1 f fd ["error"] (spKinds K C) := by
  have nd := sc_law_kinds.nd
  refine okG F sc_law_kinds (fun vs H Q E h => ?_) (fun cdv A outer s H vs Q E hr h => ?_)
  · obtain ⟨v, i, rfl, _⟩ := h
    rfl
  · obtain ⟨v, i, rfl, hi, ty, k⟩ := h
    refine ⟨_, (pss_cons (ps_set (i := 1) nd rfl (Or.inl rfl) (pe_lst (pa_cons (pe_callB call_isiA (by rfl) T.isinstance (by decide +kernel) (pa_cons (av 0) (pa_cons (pe_gref T.g_InvalidNet) pa_nil))) (pa_cons (pe_callB call_isiA (by rfl) T.isinstance (by decide +kernel) (pa_cons (av 0) (pa_cons (pe_gref T.g_InvalidWorkflow) pa_nil))) (pa_cons (pe_callB call_isiA (by rfl) T.isinstance (by decide +kernel) (pa_cons (av 0) (pa_cons (pe_gref T.g_InvalidMarking) pa_nil))) pa_nil)))))
      (pss_cons (ps_set (i := 1) nd rfl (Or.inl rfl) (pe_op op_addA (av 1) (pe_lst (pa_cons (pe_callB call_isiA (by rfl) T.isinstance (by decide +kernel) (pa_cons (av 0) (pa_cons (pe_gref T.g_InvalidPlaces) pa_nil))) (pa_cons (pe_callB call_isiA (by rfl) T.isinstance (by decide +kernel) (pa_cons (av 0) (pa_cons (pe_gref T.g_InvalidOrder) pa_nil))) (pa_cons (pe_callB call_isiA (by rfl) T.isinstance (by decide +kernel) (pa_cons (av 0) (pa_cons (pe_gref T.g_InvalidPlan) pa_nil))) pa_nil))))))
      (pss_cons (ps_set (i := 1) nd rfl (Or.inl rfl) (pe_op op_addA (av 1) (pe_lst (pa_cons (pe_callB call_isiA (by rfl) T.isinstance (by decide +kernel) (pa_cons (av 0) (pa_cons (pe_gref T.g_InvalidChances) pa_nil))) (pa_cons (pe_callB call_isiA (by rfl) T.isinstance (by decide +kernel) (pa_cons (av 0) (pa_cons (pe_gref T.g_InvalidCosts) pa_nil))) pa_nil)))))
      (pss_cons (ps_set (i := 1) nd rfl (Or.inl rfl) (pe_op op_addA (av 1) (pe_lst (pa_cons (pe_callB call_isiA (by rfl) T.isinstance (by decide +kernel) (pa_cons (av 0) (pa_cons (pe_gref T.g_InvalidLibrary) pa_nil))) (pa_cons (pe_callB call_isiA (by rfl) T.isinstance (by decide +kernel) (pa_cons (av 0) (pa_cons (pe_gref T.g_InvalidTerm) pa_nil))) (pa_cons (pe_callB call_isiA (by rfl) T.isinstance (by decide +kernel) (pa_cons (av 0) (pa_cons (pe_gref T.g_InvalidLog) pa_nil))) pa_nil))))))
      (pss_cons (ps_set (i := 1) nd rfl (Or.inl rfl) (pe_op op_addA (av 1) (pe_lst (pa_cons (pe_callB call_isiA (by rfl) T.isinstance (by decide +kernel) (pa_cons (av 0) (pa_cons (pe_gref T.g_InvalidOperation) pa_nil))) (pa_cons (pe_callB call_isiA (by rfl) T.isinstance (by decide +kernel) (pa_cons (av 0) (pa_cons (pe_gref T.g_ParseError) pa_nil))) pa_nil)))))
      (pss_cons (ps_set (i := 1) nd rfl (Or.inl rfl) (pe_op op_addA (av 1) (pe_lst (pa_cons (pe_callB call_isiA (by rfl) T.isinstance (by decide +kernel) (pa_cons (av 0) (pa_cons (pe_gref T.g_InvalidCommand) pa_nil))) (pa_cons (pe_callB call_isiA (by rfl) T.isinstance (by decide +kernel) (pa_cons (av 0) (pa_cons (pe_gref T.g_UnknownStep) pa_nil))) (pa_cons (pe_callB call_isiA (by rfl) T.isinstance (by decide +kernel) (pa_cons (av 0) (pa_cons (pe_gref T.g_UnknownName) pa_nil))) pa_nil))))))
      (pss_cons (ps_set (i := 1) nd rfl (Or.inl rfl) (pe_op op_addA (av 1) (pe_lst (pa_cons (pe_callB call_isiA (by rfl) T.isinstance (by decide +kernel) (pa_cons (av 0) (pa_cons (pe_gref T.g_InvalidRun) pa_nil))) (pa_cons (pe_callB call_isiA (by rfl) T.isinstance (by decide +kernel) (pa_cons (av 0) (pa_cons (pe_gref T.g_InvalidNumber) pa_nil))) (pa_cons (pe_callB call_isiA (by rfl) T.isinstance (by decide +kernel) (pa_cons (av 0) (pa_cons (pe_gref T.g_TooMany) pa_nil))) pa_nil))))))
      (pss_one (ps_ret (pe_op op_addA (av 1) (pe_lst (pa_cons (pe_callB call_isiA (by rfl) T.isinstance (by decide +kernel) (pa_cons (av 0) (pa_cons (pe_gref T.g_NotSound) pa_nil))) pa_nil)))))))))))), ?_⟩
    refine ⟨_, _, _, _, _, rfl, .own _, ty, T.kin i 0 hi (by decide), ?_⟩
    refine ⟨_, _, _, _, _, rfl, .own _, ty, T.kin i 1 hi (by decide), ?_⟩
    refine ⟨_, _, _, _, _, rfl, .own _, ty, T.kin i 2 hi (by decide), ?_⟩
    refine ⟨by rw [PySem.sizeLine_eq]; simp, fun q0 n0 => ?_⟩
    generalize g0 : upd _ q0 _ = G0
    have w0 : Same H G0 := by rw [← g0]; exact (Same.refl H).new n0
    have l0 := (congrFun g0 q0).symm.trans upd_same
    clear g0
    have t1 := TyE.same w0 ty
    refine ⟨_, _, _, _, _, rfl, .own _, t1, T.kin i 3 hi (by decide), ?_⟩
    refine ⟨_, _, _, _, _, rfl, .own _, t1, T.kin i 4 hi (by decide), ?_⟩
    refine ⟨_, _, _, _, _, rfl, .own _, t1, T.kin i 5 hi (by decide), ?_⟩
    refine ⟨by rw [PySem.sizeLine_eq]; simp, fun q1 n1 => ?_⟩
    generalize g1 : upd _ q1 _ = G1
    have w1 : Same G0 G1 := by rw [← g1]; exact (Same.refl G0).new n1
    have l1 := (congrFun g1 q1).symm.trans upd_same
    clear g1
    refine .inl ⟨_, _, _, _, rfl, rfl, w1 _ _ l0, l1, by rw [PySem.sizeLine_eq]; simp, fun r1 m1 => ?_⟩
    generalize f1 : upd _ r1 _ = K1
    have u1 : Same H K1 := by rw [← f1]; exact (w0.trans w1).new m1
    have o1 := (congrFun f1 r1).symm.trans upd_same
    clear f1
    have t2 := TyE.same u1 ty
    refine ⟨_, _, _, _, _, rfl, .own _, t2, T.kin i 6 hi (by decide), ?_⟩
    refine ⟨_, _, _, _, _, rfl, .own _, t2, T.kin i 7 hi (by decide), ?_⟩
    refine ⟨by rw [PySem.sizeLine_eq]; simp, fun q2 n2 => ?_⟩
    generalize g2 : upd _ q2 _ = G2
    have w2 : Same K1 G2 := by rw [← g2]; exact (Same.refl K1).new n2
    have l2 := (congrFun g2 q2).symm.trans upd_same
    clear g2
    refine .inl ⟨_, _, _, _, rfl, rfl, w2 _ _ o1, l2, by rw [PySem.sizeLine_eq]; simp, fun r2 m2 => ?_⟩
    generalize f2 : upd _ r2 _ = K2
    have u2 : Same H K2 := by rw [← f2]; exact (u1.trans w2).new m2
    have o2 := (congrFun f2 r2).symm.trans upd_same
    clear f2
    have t3 := TyE.same u2 ty
    refine ⟨_, _, _, _, _, rfl, .own _, t3, T.kin i 8 hi (by decide), ?_⟩
    refine ⟨_, _, _, _, _, rfl, .own _, t3, T.kin i 9 hi (by decide), ?_⟩
    refine ⟨_, _, _, _, _, rfl, .own _, t3, T.kin i 10 hi (by decide), ?_⟩
    refine ⟨by rw [PySem.sizeLine_eq]; simp, fun q3 n3 => ?_⟩
    generalize g3 : upd _ q3 _ = G3
    have w3 : Same K2 G3 := by rw [← g3]; exact (Same.refl K2).new n3
    have l3 := (congrFun g3 q3).symm.trans upd_same
    clear g3
    refine .inl ⟨_, _, _, _, rfl, rfl, w3 _ _ o2, l3, by rw [PySem.sizeLine_eq]; simp, fun r3 m3 => ?_⟩
    generalize f3 : upd _ r3 _ = K3
    have u3 : Same H K3 := by rw [← f3]; exact (u2.trans w3).new m3
    have o3 := (congrFun f3 r3).symm.trans upd_same
    clear f3
    have t4 := TyE.same u3 ty
    refine ⟨_, _, _, _, _, rfl, .own _, t4, T.kin i 11 hi (by decide), ?_⟩
    refine ⟨_, _, _, _, _, rfl, .own _, t4, T.kin i 12 hi (by decide), ?_⟩
    refine ⟨by rw [PySem.sizeLine_eq]; simp, fun q4 n4 => ?_⟩
    generalize g4 : upd _ q4 _ = G4
    have w4 : Same K3 G4 := by rw [← g4]; exact (Same.refl K3).new n4
    have l4 := (congrFun g4 q4).symm.trans upd_same
    clear g4
    refine .inl ⟨_, _, _, _, rfl, rfl, w4 _ _ o3, l4, by rw [PySem.sizeLine_eq]; simp, fun r4 m4 => ?_⟩
    generalize f4 : upd _ r4 _ = K4
    have u4 : Same H K4 := by rw [← f4]; exact (u3.trans w4).new m4
    have o4 := (congrFun f4 r4).symm.trans upd_same
    clear f4
    have t5 := TyE.same u4 ty
    refine ⟨_, _, _, _, _, rfl, .own _, t5, T.kin i 13 hi (by decide), ?_⟩
    refine ⟨_, _, _, _, _, rfl, .own _, t5, T.kin i 14 hi (by decide), ?_⟩
    refine ⟨_, _, _, _, _, rfl, .own _, t5, T.kin i 15 hi (by decide), ?_⟩
    refine ⟨by rw [PySem.sizeLine_eq]; simp, fun q5 n5 => ?_⟩
    generalize g5 : upd _ q5 _ = G5
    have w5 : Same K4 G5 := by rw [← g5]; exact (Same.refl K4).new n5
    have l5 := (congrFun g5 q5).symm.trans upd_same
    clear g5
    refine .inl ⟨_, _, _, _, rfl, rfl, w5 _ _ o4, l5, by rw [PySem.sizeLine_eq]; simp, fun r5 m5 => ?_⟩
    generalize f5 : upd _ r5 _ = K5
    have u5 : Same H K5 := by rw [← f5]; exact (u4.trans w5).new m5
    have o5 := (congrFun f5 r5).symm.trans upd_same
    clear f5
    have t6 := TyE.same u5 ty
    refine ⟨_, _, _, _, _, rfl, .own _, t6, T.kin i 16 hi (by decide), ?_⟩
    refine ⟨_, _, _, _, _, rfl, .own _, t6, T.kin i 17 hi (by decide), ?_⟩
    refine ⟨_, _, _, _, _, rfl, .own _, t6, T.kin i 18 hi (by decide), ?_⟩
    refine ⟨by rw [PySem.sizeLine_eq]; simp, fun q6 n6 => ?_⟩
    generalize g6 : upd _ q6 _ = G6
    have w6 : Same K5 G6 := by rw [← g6]; exact (Same.refl K5).new n6
    have l6 := (congrFun g6 q6).symm.trans upd_same
    clear g6
    refine .inl ⟨_, _, _, _, rfl, rfl, w6 _ _ o5, l6, by rw [PySem.sizeLine_eq]; simp, fun r6 m6 => ?_⟩
    generalize f6 : upd _ r6 _ = K6
    have u6 : Same H K6 := by rw [← f6]; exact (u5.trans w6).new m6
    have o6 := (congrFun f6 r6).symm.trans upd_same
    clear f6
    have t7 := TyE.same u6 ty
    refine ⟨_, _, _, _, _, rfl, .own _, t7, T.kin i 19 hi (by decide), ?_⟩
    refine ⟨by rw [PySem.sizeLine_eq]; simp, fun q7 n7 => ?_⟩
    generalize g7 : upd _ q7 _ = G7
    have w7 : Same K6 G7 := by rw [← g7]; exact (Same.refl K6).new n7
    have l7 := (congrFun g7 q7).symm.trans upd_same
    clear g7
    refine .inl ⟨_, _, _, _, rfl, rfl, w7 _ _ o6, l7, by rw [PySem.sizeLine_eq]; simp, fun r7 m7 => ?_⟩
    exact k _ _ ((u6.trans w7).new m7) ((u6.trans w7).free m7) upd_same
theorem ok_bases {f : Addr} {fd : FuncData} (F : Fun K "_law_bases" "_law_bases" s_law_bases f fd) (T : TxtE K mg C) : FnG P w K mg base CX0 1 f fd ["error"] (spBases K C) := by
  have nd := sc_law_bases.nd
  refine okG F sc_law_bases (fun vs H Q E h => ?_) (fun cdv A outer s H vs Q E hr h => ?_)
  · obtain ⟨v, i, rfl, _⟩ := h
    rfl
  · obtain ⟨v, i, rfl, hi, ty, k⟩ := h
    obtain ⟨b0, b1, b2, b3, b4, b5, b6⟩ := T.bas i hi
    refine ⟨_, (pss_cons (ps_set (i := 1) nd rfl (Or.inl rfl) (pe_lst (pa_cons (pe_callB call_isiA (by rfl) T.isinstance (by decide +kernel) (pa_cons (av 0) (pa_cons (pe_bltn (v := .ty "ValueError") (u := .type "ValueError") rfl T.ValueError (by decide +kernel) rfl) pa_nil))) (pa_cons (pe_callB call_isiA (by rfl) T.isinstance (by decide +kernel) (pa_cons (av 0) (pa_cons (pe_bltn (v := .ty "KeyError") (u := .type "KeyError") rfl T.KeyError (by decide +kernel) rfl) pa_nil))) (pa_cons (pe_callB call_isiA (by rfl) T.isinstance (by decide +kernel) (pa_cons (av 0) (pa_cons (pe_bltn (v := .ty "IndexError") (u := .type "IndexError") rfl T.IndexError (by decide +kernel) rfl) pa_nil))) pa_nil)))))
      (pss_cons (ps_set (i := 1) nd rfl (Or.inl rfl) (pe_op op_addA (av 1) (pe_lst (pa_cons (pe_callB call_isiA (by rfl) T.isinstance (by decide +kernel) (pa_cons (av 0) (pa_cons (pe_bltn (v := .ty "LookupError") (u := .type "LookupError") rfl T.LookupError (by decide +kernel) rfl) pa_nil))) (pa_cons (pe_callB call_isiA (by rfl) T.isinstance (by decide +kernel) (pa_cons (av 0) (pa_cons (pe_bltn (v := .ty "OverflowError") (u := .type "OverflowError") rfl T.OverflowError (by decide +kernel) rfl) pa_nil))) pa_nil)))))
      (pss_one (ps_ret (pe_op op_addA (av 1) (pe_lst (pa_cons (pe_callB call_isiA (by rfl) T.isinstance (by decide +kernel) (pa_cons (av 0) (pa_cons (pe_bltn (v := .ty "RuntimeError") (u := .type "RuntimeError") rfl T.RuntimeError (by decide +kernel) rfl) pa_nil))) (pa_cons (pe_callB call_isiA (by rfl) T.isinstance (by decide +kernel) (pa_cons (av 0) (pa_cons (pe_gref T.g_FlowError) pa_nil))) pa_nil)))))))), ?_⟩
    refine ⟨_, _, _, _, _, rfl, .ty _, ty, b0, ?_⟩
    refine ⟨_, _, _, _, _, rfl, .ty _, ty, b1, ?_⟩
    refine ⟨_, _, _, _, _, rfl, .ty _, ty, b2, ?_⟩
    refine ⟨by rw [PySem.sizeLine_eq]; simp, fun q0 n0 => ?_⟩
    generalize g0 : upd _ q0 _ = G0
    have w0 : Same H G0 := by rw [← g0]; exact (Same.refl H).new n0
    have l0 := (congrFun g0 q0).symm.trans upd_same
    clear g0
    have t1 := TyE.same w0 ty
    refine ⟨_, _, _, _, _, rfl, .ty _, t1, b3, ?_⟩
    refine ⟨_, _, _, _, _, rfl, .ty _, t1, b4, ?_⟩
    refine ⟨by rw [PySem.sizeLine_eq]; simp, fun q1 n1 => ?_⟩
    generalize g1 : upd _ q1 _ = G1
    have w1 : Same G0 G1 := by rw [← g1]; exact (Same.refl G0).new n1
    have l1 := (congrFun g1 q1).symm.trans upd_same
    clear g1
    refine .inl ⟨_, _, _, _, rfl, rfl, w1 _ _ l0, l1, by rw [PySem.sizeLine_eq]; simp, fun r1 m1 => ?_⟩
    generalize f1 : upd _ r1 _ = K1
    have u1 : Same H K1 := by rw [← f1]; exact (w0.trans w1).new m1
    have o1 := (congrFun f1 r1).symm.trans upd_same
    clear f1
    have t2 := TyE.same u1 ty
    refine ⟨_, _, _, _, _, rfl, .ty _, t2, b5, ?_⟩
    refine ⟨_, _, _, _, _, rfl, .own _, t2, b6, ?_⟩
    refine ⟨by rw [PySem.sizeLine_eq]; simp, fun q2 n2 => ?_⟩
    generalize g2 : upd _ q2 _ = G2
    have w2 : Same K1 G2 := by rw [← g2]; exact (Same.refl K1).new n2
    have l2 := (congrFun g2 q2).symm.trans upd_same
    clear g2
    refine .inl ⟨_, _, _, _, rfl, rfl, w2 _ _ o1, l2, by rw [PySem.sizeLine_eq]; simp, fun r2 m2 => ?_⟩
    exact k _ _ ((u1.trans w2).new m2) ((u1.trans w2).free m2) upd_same
end
end K00

set_option Elab.async false
set_option linter.all false
set_option maxRecDepth 100000
set_option maxHeartbeats 4000000
namespace K00
open PySem L2 PySem.KX
abbrev bmVE : List Value := [.type "ValueError", .type "Exception", .type "BaseException", .type "object"]
abbrev Dice (g s n : Int) : HO := .lst [.int g, .int s, .int n]
section
variable {P : Program} {w : World} {K : PySem.W.Frag} {mg : Str → Option Value} {base : Heap} {C : Nat → Addr}
def spOne : Sp := fun vs H Q _ => ∃ (p l : Addr) (xs : List V) (g s n : Int), vs = [.ref p, .ref l] ∧ H p = some (Dice g s n) ∧ H l = some (.lst xs) ∧ l ≠ p ∧ 0 < xs.length ∧ xs.length < 1000 ∧ 0 ≤ g ∧ 0 ≤ s ∧ s < 2 ^ 61 ∧ 0 ≤ n ∧ n < 2 ^ 30 ∧
  ∀ (i : Nat) (v : V) (g' n' : Int), xs[i]? = some v → 0 ≤ g' → n ≤ n' → n' ≤ n + 1 → Q v (upd H p (Dice g' s n'))
theorem ok_one_of {f : Addr} {fd : FuncData} (F : Fun K "_law_one_of" "_law_one_of" s_law_one_of f fd) (T : Txt mg) (O_law_roll : Own P w K mg base CX0 "_law_roll" 1 ["dice", "total"] spRoll) : FnG P w K mg base CX0 2 f fd ["dice", "items"] spOne := by
  have nd := sc_law_one_of.nd
  refine okG F sc_law_one_of (fun vs H Q E h => ?_) (fun cdv A outer s H vs Q E hr h => ?_)
  · obtain ⟨p, l, xs, g, s, n, rfl, _⟩ := h
    rfl
  · obtain ⟨p, l, xs, g, s, n, rfl, hp, hl, hne, h0, h1, h2, h3, h4, h5, h6, k⟩ := h
    refine ⟨_, (pss_one (ps_ret (pe_ixA (av 1) (pe_own O_law_roll hr (pa_cons (av 0) (pa_cons (pe_callB call_lenA (by rfl) T.len PySem.boot_len (pa_cons (av 1) pa_nil)) pa_nil)) (by decide))))), ?_⟩
    refine .inl ⟨xs, SqL.of hl, ?_⟩
    refine ⟨p, _, g, s, n, rfl, hp, by omega, by omega, h2, h3, h4, h5, h6, fun r g' n' r0 r1 g0 n0 n1 => ?_⟩
    obtain ⟨m, rfl⟩ : ∃ m : Nat, r = (m : Int) := ⟨r.toNat, by omega⟩
    have hi : m < xs.length := by omega
    have hx : xs[m]? = some xs[m] := List.getElem?_eq_getElem hi
    refine .inl ⟨xs, xs[m], SqL.of (by rw [upd_ne hne]; exact hl), atI_nat hx, k _ _ g' n' hx g0 n0 n1⟩
structure TxtM (K : PySem.W.Frag) (mg : Str → Option Value) (C : Nat → Addr) : Prop where
  InvalidNet : ErrM K mg "InvalidNet" (C 0) "ValueError.__new__" bmVE
  InvalidWorkflow : ErrM K mg "InvalidWorkflow" (C 1) "ValueError.__new__" bmVE
  InvalidMarking : ErrM K mg "InvalidMarking" (C 2) "ValueError.__new__" bmVE
  InvalidPlaces : ErrM K mg "InvalidPlaces" (C 3) "ValueError.__new__" bmVE
  InvalidOrder : ErrM K mg "InvalidOrder" (C 4) "ValueError.__new__" bmVE
  InvalidPlan : ErrM K mg "InvalidPlan" (C 5) "ValueError.__new__" bmVE
  InvalidChances : ErrM K mg "InvalidChances" (C 6) "ValueError.__new__" bmVE
  InvalidCosts : ErrM K mg "InvalidCosts" (C 7) "ValueError.__new__" bmVE
  InvalidLibrary : ErrM K mg "InvalidLibrary" (C 8) "ValueError.__new__" bmVE
  InvalidTerm : ErrM K mg "InvalidTerm" (C 9) "ValueError.__new__" bmVE
  InvalidLog : ErrM K mg "InvalidLog" (C 10) "ValueError.__new__" bmVE
  InvalidOperation : ErrM K mg "InvalidOperation" (C 11) "ValueError.__new__" bmVE
  ParseError : ErrM K mg "ParseError" (C 12) "ValueError.__new__" bmVE
  InvalidCommand : ErrM K mg "InvalidCommand" (C 13) "ValueError.__new__" bmVE
  FlowError : ErrM K mg "FlowError" (C 20) "ValueError.__new__" bmVE
abbrev FVE := PySem.F.excBase_ValueError
abbrev s_law_messages : Stmt := top 27
theorem sc_law_messages : FnScope ["text", "found"] ["text"] (defScope s_law_messages) := ⟨rfl, rfl, rfl, by decide +kernel, rfl, by decide +kernel, by decide +kernel⟩
def spMsgs (C : Nat → Addr) : Sp := fun vs H Q _ => ∃ t : Str, vs = [.str t] ∧ ∀ (H' : Hp) (p : Addr) (xs : List V), Same H H' → H p = none → H' p = some (.lst xs) → xs.length = 14 → (∀ i v, xs[i]? = some v → MsgAt H' (C i) t v) → Q (.ref p) H'
theorem ok_messages {f : Addr} {fd : FuncData} (F : Fun K "_law_messages" "_law_messages" s_law_messages f fd) (T : TxtM K mg C) : FnG P w K mg base CX0 1 f fd ["text"] (spMsgs C) := by
  have nd := sc_law_messages.nd
  refine okG F sc_law_messages (fun vs H Q E h => ?_) (fun cdv A outer s H vs Q E hr h => ?_)
  · obtain ⟨t, rfl, _⟩ := h
    rfl
  · obtain ⟨t, rfl, k⟩ := h
    refine ⟨_, (pss_cons (ps_set (i := 1) nd rfl (Or.inl rfl) (pe_lstS (pa_cons (pe_msg FVE T.InvalidNet (av 0)) (pa_cons (pe_msg FVE T.InvalidWorkflow (av 0)) (pa_cons (pe_msg FVE T.InvalidMarking (av 0)) (pa_cons (pe_msg FVE T.InvalidPlaces (av 0)) (pa_cons (pe_msg FVE T.InvalidOrder (av 0)) pa_nil)))))))
      (pss_cons (ps_set (i := 1) nd rfl (Or.inl rfl) (pe_op op_addS (av 1) (pe_lstS (pa_cons (pe_msg FVE T.InvalidPlan (av 0)) (pa_cons (pe_msg FVE T.InvalidChances (av 0)) (pa_cons (pe_msg FVE T.InvalidCosts (av 0)) (pa_cons (pe_msg FVE T.InvalidLibrary (av 0)) pa_nil)))))))
      (pss_cons (ps_set (i := 1) nd rfl (Or.inl rfl) (pe_op op_addS (av 1) (pe_lstS (pa_cons (pe_msg FVE T.InvalidTerm (av 0)) (pa_cons (pe_msg FVE T.InvalidLog (av 0)) (pa_cons (pe_msg FVE T.InvalidOperation (av 0)) (pa_cons (pe_msg FVE T.ParseError (av 0)) pa_nil)))))))
      (pss_one (ps_ret (pe_op op_addS (av 1) (pe_lstS (pa_cons (pe_msg FVE T.InvalidCommand (av 0)) pa_nil)))))))), ?_⟩
    refine ⟨t, rfl, fun u0 G0 s0 m0 => ⟨t, rfl, fun u1 G1 s1 m1 => ⟨t, rfl, fun u2 G2 s2 m2 => ⟨t, rfl, fun u3 G3 s3 m3 => ⟨t, rfl, fun u4 G4 s4 m4 => ⟨by simp, fun p0 A0 w0 n0 l0 => ?_⟩⟩⟩⟩⟩⟩
    refine ⟨t, rfl, fun u5 G5 s5 m5 => ⟨t, rfl, fun u6 G6 s6 m6 => ⟨t, rfl, fun u7 G7 s7 m7 => ⟨t, rfl, fun u8 G8 s8 m8 => ⟨by simp, fun p1 A1 w1 n1 l1 => ?_⟩⟩⟩⟩⟩
    have e1 : Same A0 A1 := (((s5.trans s6).trans s7).trans s8).trans w1
    refine .inl ⟨_, _, e1 _ _ l0, l1, by simp, fun q1 B1 x1 o1 k1 => ?_⟩
    refine ⟨t, rfl, fun u9 G9 s9 m9 => ⟨t, rfl, fun u10 G10 s10 m10 => ⟨t, rfl, fun u11 G11 s11 m11 => ⟨t, rfl, fun u12 G12 s12 m12 => ⟨by simp, fun p2 A2 w2 n2 l2 => ?_⟩⟩⟩⟩⟩
    have e2 : Same B1 A2 := (((s9.trans s10).trans s11).trans s12).trans w2
    refine .inl ⟨_, _, e2 _ _ k1, l2, by simp, fun q2 B2 x2 o2 k2 => ?_⟩
    refine ⟨t, rfl, fun u13 G13 s13 m13 => ⟨by simp, fun p3 A3 w3 n3 l3 => ?_⟩⟩
    have e3 : Same B2 A3 := s13.trans w3
    refine .inl ⟨_, _, e3 _ _ k2, l3, by simp, fun q3 B3 x3 o3 k3 => ?_⟩
    have r3 : Same A3 B3 := x3
    have r13 : Same G13 B3 := w3.trans x3
    have rB2 : Same B2 B3 := s13.trans r13
    have r12 : Same G12 B3 := (w2.trans x2).trans rB2
    have r11 := s12.trans r12
    have r10 := s11.trans r11
    have r9 := s10.trans r10
    have rB1 : Same B1 B3 := s9.trans r9
    have r8 : Same G8 B3 := (w1.trans x1).trans rB1
    have r7 := s8.trans r8
    have r6 := s7.trans r7
    have r5 := s6.trans r6
    have rA0 : Same A0 B3 := s5.trans r5
    have r4 : Same G4 B3 := w0.trans rA0
    have r3' := s4.trans r4
    have r2 := s3.trans r3'
    have r1 := s2.trans r2
    have r0 := s1.trans r1
    have rH : Same H B3 := s0.trans r0
    refine k B3 q3 _ rH ((s0.trans (s1.trans (s2.trans (s3.trans (s4.trans w0))))).free ((e1.trans x1).free ((e2.trans x2).free (e3.free o3)))) k3 (by simp) fun i v h => ?_
    match i, h with
    | 0, h => exact (Option.some.inj h) ▸ m0.same r0
    | 1, h => exact (Option.some.inj h) ▸ m1.same r1
    | 2, h => exact (Option.some.inj h) ▸ m2.same r2
    | 3, h => exact (Option.some.inj h) ▸ m3.same r3'
    | 4, h => exact (Option.some.inj h) ▸ m4.same r4
    | 5, h => exact (Option.some.inj h) ▸ m5.same r5
    | 6, h => exact (Option.some.inj h) ▸ m6.same r6
    | 7, h => exact (Option.some.inj h) ▸ m7.same r7
    | 8, h => exact (Option.some.inj h) ▸ m8.same r8
    | 9, h => exact (Option.some.inj h) ▸ m9.same r9
    | 10, h => exact (Option.some.inj h) ▸ m10.same r10
    | 11, h => exact (Option.some.inj h) ▸ m11.same r11
    | 12, h => exact (Option.some.inj h) ▸ m12.same r12
    | 13, h => exact (Option.some.inj h) ▸ m13.same r13
    | n + 14, h => exact nomatch h
structure TxtV (P : Program) (w : World) (K : PySem.W.Frag) (mg : Str → Option Value) (base : Heap) (C : Nat → Addr) : Prop where
  UnknownStep : ErrV P w K mg base "UnknownStep" (C 14) "name" "KeyError" "LookupError.__new__" "KeyError.__init__" tKey
  UnknownName : ErrV P w K mg base "UnknownName" (C 15) "name" "KeyError" "LookupError.__new__" "KeyError.__init__" tKey
  InvalidRun : ErrV P w K mg base "InvalidRun" (C 16) "at" "LookupError" "LookupError.__new__" "LookupError.__init__" tLookup
  InvalidNumber : ErrV P w K mg base "InvalidNumber" (C 17) "value" "IndexError" "IndexError.__new__" "IndexError.__init__" tIndex
  TooMany : ErrV P w K mg base "TooMany" (C 18) "limit" "OverflowError" "OverflowError.__new__" "OverflowError.__init__" tOverflow
  NotSound : ErrV P w K mg base "NotSound" (C 19) "paper" "RuntimeError" "RuntimeError.__new__" "RuntimeError.__init__" tRuntime
abbrev s_law_values : Stmt := top 28
theorem sc_law_values : FnScope ["value", "amount", "paper"] ["value", "amount", "paper"] (defScope s_law_values) := ⟨rfl, rfl, rfl, by decide +kernel, rfl, by decide +kernel, by decide +kernel⟩
/-- data small enough for all that is done with it -/
structure Mild (K : PySem.W.Frag) (H : Hp) (v : V) (d : PyData) : Prop where
  dp : Dp K H v d
  depth : d.depth ≤ 10
  small : smallD d = true
theorem Mild.same {H H' : Hp} {v : V} {d : PyData} (e : Same H H') (h : Mild K H v d) : Mild K H' v d := ⟨Dp.same e _ _ h.dp, h.depth, h.small⟩
def spVals (K : PySem.W.Frag) (C : Nat → Addr) : Sp := fun vs H Q _ => ∃ (v a p : V) (dv da dp : PyData), vs = [v, a, p] ∧ Mild K H v dv ∧ Mild K H a da ∧ Mild K H p dp ∧
  ∀ (H' : Hp) (q : Addr) (e0 e1 e2 e3 e4 e5 : V), Same H H' → H q = none → H' q = some (.lst [e0, e1, e2, e3, e4, e5]) → ValAt K H' (C 14) "name" dv e0 → ValAt K H' (C 15) "name" dv e1 → ValAt K H' (C 16) "at" da e2 → ValAt K H' (C 17) "value" dv e3 → ValAt K H' (C 18) "limit" da e4 →
    ValAt K H' (C 19) "paper" dp e5 → Q (.ref q) H'
theorem ok_values {f : Addr} {fd : FuncData} (F : Fun K "_law_values" "_law_values" s_law_values f fd) (T : TxtV P w K mg base C) : FnG P w K mg base CX0 14 f fd ["value", "amount", "paper"] (spVals K C) := by
  have nd := sc_law_values.nd
  refine okG F sc_law_values (fun vs H Q E h => ?_) (fun cdv A outer s H vs Q E hr h => ?_)
  · obtain ⟨_, _, _, _, _, _, rfl, _⟩ := h
    rfl
  · obtain ⟨v, a, p, dv, da, dp, rfl, hv, ha, hp, k⟩ := h
    refine ⟨_, (pss_one (ps_ret (pe_lstS (pa_cons (pe_val T.UnknownStep hr (av 0)) (pa_cons (pe_val T.UnknownName hr (av 0)) (pa_cons (pe_val T.InvalidRun hr (av 1)) (pa_cons (pe_val T.InvalidNumber hr (av 0)) (pa_cons (pe_val T.TooMany hr (av 1)) (pa_cons (pe_val T.NotSound hr (av 2)) pa_nil))))))))), ?_⟩
    refine ⟨dv, hv.dp, hv.depth, hv.small, fun u0 G0 s0 m0 => ?_⟩
    have hv0 := hv.same s0
    refine ⟨dv, hv0.dp, hv0.depth, hv0.small, fun u1 G1 s1 m1 => ?_⟩
    have ha1 := ha.same (s0.trans s1)
    refine ⟨da, ha1.dp, ha1.depth, ha1.small, fun u2 G2 s2 m2 => ?_⟩
    have hv2 := hv0.same (s1.trans s2)
    refine ⟨dv, hv2.dp, hv2.depth, hv2.small, fun u3 G3 s3 m3 => ?_⟩
    have ha3 := ha1.same (s2.trans s3)
    refine ⟨da, ha3.dp, ha3.depth, ha3.small, fun u4 G4 s4 m4 => ?_⟩
    have hp4 := hp.same (s0.trans (s1.trans (s2.trans (s3.trans s4))))
    refine ⟨dp, hp4.dp, hp4.depth, hp4.small, fun u5 G5 s5 m5 => ?_⟩
    refine ⟨by simp, fun q H' w n l => ?_⟩
    have r5 := w
    have r4 := s5.trans r5
    have r3 := s4.trans r4
    have r2 := s3.trans r3
    have r1 := s2.trans r2
    have r0 := s1.trans r1
    exact k H' q _ _ _ _ _ _ (s0.trans r0) ((s0.trans (s1.trans (s2.trans (s3.trans (s4.trans s5))))).free n) l (m0.same r0) (m1.same r1) (m2.same r2) (m3.same r3) (m4.same r4) (m5.same r5)
end
end K00

set_option Elab.async false
set_option linter.all false
set_option maxRecDepth 100000
set_option maxHeartbeats 4000000
namespace K00
open PySem L2 PySem.KX
section
variable {P : Program} {w : World} {K : PySem.W.Frag} {mg : Str → Option Value} {base : Heap} {C : Nat → Addr}
structure TxtF (K : PySem.W.Frag) (mg : Str → Option Value) (C : Nat → Addr) : Prop where
  int : mg "int" = none
  str : mg "str" = none
  KeyError : mg "KeyError" = none
  e14 : PySem.W.exmOne K (.ref (C 14)) (.type "KeyError") = some true
  e16 : PySem.W.exmOne K (.ref (C 16)) (.ref (C 16)) = some true
  e17 : PySem.W.exmOne K (.ref (C 17)) (.ref (C 17)) = some true
  e18 : PySem.W.exmOne K (.ref (C 18)) (.ref (C 18)) = some true
  e19 : PySem.W.exmOne K (.ref (C 19)) (.ref (C 19)) = some true
  e5 : PySem.W.exmOne K (.ref (C 5)) (.ref (C 20)) = some true
  x5 : PySem.W.subIn K (.ref (C 5)) (.type "BaseException") = some true
  t5 : PySem.W.typeIn K (.ref (C 5)) = some (.type "type")
abbrev s_law_caught : Stmt := top 31
theorem sc_law_caught : FnScope ["value", "amount", "paper", "found", "e"] ["value", "amount", "paper"] (defScope s_law_caught) := ⟨rfl, rfl, rfl, by decide +kernel, rfl, by decide +kernel, by decide +kernel⟩
structure Eqd (K : PySem.W.Frag) (H : Hp) (v : V) (d : PyData) : Prop where
  m : Mild K H v d
  sh : SeqAt.shaped d = true
  eq : PyData.eqv d d = true
def spCaught (K : PySem.W.Frag) : Sp := fun vs H Q _ => ∃ (v a p : V) (dv da dp : PyData), vs = [v, a, p] ∧ Eqd K H v dv ∧ Eqd K H a da ∧ Eqd K H p dp ∧ ∀ H', Same H H' → Q (.bl true) H'
theorem Eqd.same {H H' : Hp} {v : V} {d : PyData} (e : Same H H') (h : Eqd K H v d) : Eqd K H' v d := ⟨h.m.same e, h.sh, h.eq⟩
/-- found, behind an append -/
theorem app_same {H H' : Hp} {l : Addr} {o : HO} (s : Same H H') (n : H l = none) : Same H (upd H' l o) := fun b u e => by
  rw [upd_ne (ne_of_none e n)]
  exact s b u e
theorem ok_caught {f : Addr} {fd : FuncData} (F : Fun K "_law_caught" "_law_caught" s_law_caught f fd) (T : TxtF K mg C) (V : TxtV P w K mg base C) (M : TxtM K mg C) : FnG P w K mg base CX0 14 f fd ["value", "amount", "paper"] (spCaught K) := by
  have nd := sc_law_caught.nd
  refine okG F sc_law_caught (fun vs H Q E h => ?_) (fun cdv A outer s H vs Q E hr h => ?_)
  · obtain ⟨_, _, _, _, _, _, rfl, _⟩ := h
    rfl
  · obtain ⟨v, a, p, dv, da, dp, rfl, hv, ha, hp, k⟩ := h
    refine ⟨_, (pss_cons (ps_set (i := 3) nd rfl (Or.inl rfl) (pe_lst pa_nil))
      (pss_cons (ps_try_only (tb := fun W _ σ H => tErrX K (C 14) "name" (aVar 0) σ H fun cls d H2 => W cls d σ H2) (ts := fun _ _ _ => tDrop (tAppS (aVar 3) (tC (.int 1)))) (Wout := fun _ _ _ _ => False) rfl rfl ⟨rfl, by decide, Or.inr ⟨T.KeyError, (by decide +kernel : bootBuiltins "KeyError" = some (.type "KeyError")), by decide⟩⟩ takes0
          (fun W pn xe tk _ => pss_one (ps_raise rfl tk (pmk_errV V.UnknownStep hr (av 0))))
          (fun a oe cls d pn hz hf => pss_one (ps_expr (pe_appS (av 3) pe_int))))
      (pss_cons (ps_try_as (i := 4) (tb := fun W _ σ H => tErrX K (C 17) "value" (aVar 0) σ H fun cls d H2 => W cls d σ H2) (ts := fun a cls d => tDrop (tAppS (aVar 3) (tOp rMulA (tC (.int 2)) (tCB rIntA (tCons (tOp (rEqD K) (tXf a cls d (C 17) "value" (aVar 4)) (aVar 0)) tNil))))) (Wout := fun _ _ _ _ => False) rfl rfl nd rfl rfl ⟨rfl, by decide, Or.inl V.InvalidNumber.g⟩ takes0
          (fun W pn xe tk _ => pss_one (ps_raise rfl tk (pmk_errV V.InvalidNumber hr (av 0))))
          (fun a oe cls d pn hz hf => pss_one (ps_expr (pe_appS (av 3) (pe_op op_mulA pe_int (pe_callTy call_intA (by rfl) T.int (by decide +kernel) (pa_cons (pe_cmpA (op_eqD hr.units64) (pe_xf V.InvalidNumber.xc V.InvalidNumber.hno hz hf (av 4)) (av 0)) pa_nil)))))))
      (pss_cons (ps_try_as (i := 4) (tb := fun W _ σ H => tErrX K (C 16) "at" (aVar 1) σ H fun cls d H2 => W cls d σ H2) (ts := fun a cls d => tDrop (tAppS (aVar 3) (tOp rMulA (tC (.int 3)) (tCB rIntA (tCons (tOp (rEqD K) (tXf a cls d (C 16) "at" (aVar 4)) (aVar 1)) tNil))))) (Wout := fun _ _ _ _ => False) rfl rfl nd rfl rfl ⟨rfl, by decide, Or.inl V.InvalidRun.g⟩ takes0
          (fun W pn xe tk _ => pss_one (ps_raise rfl tk (pmk_errV V.InvalidRun hr (av 1))))
          (fun a oe cls d pn hz hf => pss_one (ps_expr (pe_appS (av 3) (pe_op op_mulA pe_int (pe_callTy call_intA (by rfl) T.int (by decide +kernel) (pa_cons (pe_cmpA (op_eqD hr.units64) (pe_xf V.InvalidRun.xc V.InvalidRun.hno hz hf (av 4)) (av 1)) pa_nil)))))))
      (pss_cons (ps_try_msg (i := 4) (ts := fun a t => tDrop (tAppS (aVar 3) (tOp rMulA (tC (.int 4)) (tCB rIntA (tCons (tOp (rEqA K) (tCB (rStrM a t) (tCons (aVar 4) tNil)) (tC (.str "no plan"))) tNil))))) rfl rfl nd rfl rfl ⟨rfl, by decide, Or.inl M.FlowError.g⟩ rfl FVE M.InvalidPlan.q M.InvalidPlan.g M.InvalidPlan.k (raises_own T.x5 T.t5) T.e5
          (fun a oe t pn hz hf => pss_one (ps_expr (pe_appS (av 3) (pe_op op_mulA pe_int (pe_callTy call_intA (by rfl) T.int (by decide +kernel) (pa_cons (pe_cmpA (op_eqA hr.units64) (pe_callTy (call_strM (X := cxOf CX0 P w K mg base _ _ _ f cdv A outer s H E) hr.units64 hz hf M.InvalidPlan.hs T.x5) (by rfl) T.str (by decide +kernel) (pa_cons (av 4) pa_nil)) pe_str) pa_nil)))))))
      (pss_cons (ps_try_as (i := 4) (tb := fun W _ σ H => tErrX K (C 19) "paper" (aVar 2) σ H fun cls d H2 => W cls d σ H2) (ts := fun a cls d => tDrop (tAppS (aVar 3) (tOp rMulA (tC (.int 5)) (tCB rIntA (tCons (tOp (rEqD K) (tXf a cls d (C 19) "paper" (aVar 4)) (aVar 2)) tNil))))) (Wout := fun _ _ _ _ => False) rfl rfl nd rfl rfl ⟨rfl, by decide, Or.inl V.NotSound.g⟩ takes0
          (fun W pn xe tk _ => pss_one (ps_raise rfl tk (pmk_errV V.NotSound hr (av 2))))
          (fun a oe cls d pn hz hf => pss_one (ps_expr (pe_appS (av 3) (pe_op op_mulA pe_int (pe_callTy call_intA (by rfl) T.int (by decide +kernel) (pa_cons (pe_cmpA (op_eqD hr.units64) (pe_xf V.NotSound.xc V.NotSound.hno hz hf (av 4)) (av 2)) pa_nil)))))))
      (pss_cons (ps_try_as (i := 4) (tb := fun W _ σ H => tErrX K (C 18) "limit" (aVar 1) σ H fun cls d H2 => W cls d σ H2) (ts := fun a cls d => tDrop (tAppS (aVar 3) (tOp rMulA (tC (.int 6)) (tCB rIntA (tCons (tOp (rEqD K) (tXf a cls d (C 18) "limit" (aVar 4)) (aVar 1)) tNil))))) (Wout := fun _ _ _ _ => False) rfl rfl nd rfl rfl ⟨rfl, by decide, Or.inl V.TooMany.g⟩ takes0
          (fun W pn xe tk _ => pss_one (ps_raise rfl tk (pmk_errV V.TooMany hr (av 1))))
          (fun a oe cls d pn hz hf => pss_one (ps_expr (pe_appS (av 3) (pe_op op_mulA pe_int (pe_callTy call_intA (by rfl) T.int (by decide +kernel) (pa_cons (pe_cmpA (op_eqD hr.units64) (pe_xf V.TooMany.xc V.TooMany.hno hz hf (av 4)) (av 1)) pa_nil)))))))
      (pss_one (ps_ret (pe_cmpA (op_eqA hr.units64) (av 3) (pe_lstS (pa_cons pe_int (pa_cons pe_int (pa_cons pe_int (pa_cons pe_int (pa_cons pe_int (pa_cons pe_int pa_nil))))))))))))))))), ?_⟩
    refine ⟨by rw [sizeLine_eq]; simp, fun l nl => ?_⟩
    generalize g0 : upd H l _ = G0
    have S0 : Same H G0 := by rw [← g0]; exact (Same.refl H).new nl
    have l0 : G0 l = some (.lst []) := (congrFun g0 l).symm.trans upd_same
    clear g0
    have hv0 := hv.same S0
    refine ⟨dv, hv0.m.dp, hv0.m.depth, hv0.m.small, fun dx0 v0 T0 t0 n0 x0 d0 => ⟨true, T.e14, fun _ a0 _ => ?_, fun z => nomatch z⟩⟩
    refine ⟨l, _, rfl, t0 _ _ l0, _, t0 _ _ l0, by simp, ?_⟩
    generalize g1 : upd T0 l _ = G1
    have S1 : Same H G1 := by rw [← g1]; exact app_same (S0.trans t0) nl
    have l1 : G1 l = some (.lst [.int 1]) := (congrFun g1 l).symm.trans upd_same
    clear g1
    have hv1 := hv.same S1
    refine ⟨dv, hv1.m.dp, hv1.m.depth, hv1.m.small, fun dx1 v1 T1 t1 n1 x1 d1 => ⟨true, T.e17, fun _ a0 _ => ?_, fun z => nomatch z⟩⟩
    refine ⟨l, _, rfl, t1 _ _ l1, ?_⟩
    refine ⟨rfl, rfl, dx1, _, v1, rfl, x1, by simp [List.lookup], dv, dv, d1, (hv1.same t1).m.dp, hv.sh, hv.sh, ?_⟩
    rw [hv.eq]
    refine ⟨.inl ⟨by decide, by decide⟩, _, t1 _ _ l1, by simp, ?_⟩
    generalize g2 : upd T1 l _ = G2
    have S2 : Same H G2 := by rw [← g2]; exact app_same (S1.trans t1) nl
    have l2 : G2 l = some (.lst [.int 1, .int 2]) := (congrFun g2 l).symm.trans upd_same
    clear g2
    have ha2 := ha.same S2
    refine ⟨da, ha2.m.dp, ha2.m.depth, ha2.m.small, fun dx2 v2 T2 t2 n2 x2 d2 => ⟨true, T.e16, fun _ a0 _ => ?_, fun z => nomatch z⟩⟩
    refine ⟨l, _, rfl, t2 _ _ l2, ?_⟩
    refine ⟨rfl, rfl, dx2, _, v2, rfl, x2, by simp [List.lookup], da, da, d2, (ha2.same t2).m.dp, ha.sh, ha.sh, ?_⟩
    rw [ha.eq]
    refine ⟨.inl ⟨by decide, by decide⟩, _, t2 _ _ l2, by simp, ?_⟩
    generalize g3 : upd T2 l _ = G3
    have S3 : Same H G3 := by rw [← g3]; exact app_same (S2.trans t2) nl
    have l3 : G3 l = some (.lst [.int 1, .int 2, .int 3]) := (congrFun g3 l).symm.trans upd_same
    clear g3
    refine fun tt3 aa3 nt3 na3 ne3 => ?_
    have t3 : Same G3 (upd G3 tt3 (.tup [.str "no plan"])) := (Same.refl _).new nt3
    refine ⟨l, _, rfl, t3 _ _ l3, ?_⟩
    refine ⟨_, rfl, upd_same, ?_⟩
    refine ⟨.inl ⟨by decide +kernel, by decide +kernel⟩, _, t3 _ _ l3, by simp, ?_⟩
    generalize g4 : upd (upd G3 tt3 _) l _ = G4
    have S4 : Same H G4 := by rw [← g4]; exact app_same (S3.trans t3) nl
    have l4 : G4 l = some (.lst [.int 1, .int 2, .int 3, .int 4]) := (congrFun g4 l).symm.trans upd_same
    clear g4
    have hp4 := hp.same S4
    refine ⟨dp, hp4.m.dp, hp4.m.depth, hp4.m.small, fun dx4 v4 T4 t4 n4 x4 d4 => ⟨true, T.e19, fun _ a0 _ => ?_, fun z => nomatch z⟩⟩
    refine ⟨l, _, rfl, t4 _ _ l4, ?_⟩
    refine ⟨rfl, rfl, dx4, _, v4, rfl, x4, by simp [List.lookup], dp, dp, d4, (hp4.same t4).m.dp, hp.sh, hp.sh, ?_⟩
    rw [hp.eq]
    refine ⟨.inl ⟨by decide, by decide⟩, _, t4 _ _ l4, by simp, ?_⟩
    generalize g5 : upd T4 l _ = G5
    have S5 : Same H G5 := by rw [← g5]; exact app_same (S4.trans t4) nl
    have l5 : G5 l = some (.lst [.int 1, .int 2, .int 3, .int 4, .int 5]) := (congrFun g5 l).symm.trans upd_same
    clear g5
    have ha5 := ha.same S5
    refine ⟨da, ha5.m.dp, ha5.m.depth, ha5.m.small, fun dx5 v5 T5 t5 n5 x5 d5 => ⟨true, T.e18, fun _ a0 _ => ?_, fun z => nomatch z⟩⟩
    refine ⟨l, _, rfl, t5 _ _ l5, ?_⟩
    refine ⟨rfl, rfl, dx5, _, v5, rfl, x5, by simp [List.lookup], da, da, d5, (ha5.same t5).m.dp, ha.sh, ha.sh, ?_⟩
    rw [ha.eq]
    refine ⟨.inl ⟨by decide, by decide⟩, _, t5 _ _ l5, by simp, ?_⟩
    generalize g6 : upd T5 l _ = G6
    have S6 : Same H G6 := by rw [← g6]; exact app_same (S5.trans t5) nl
    have l6 : G6 l = some (.lst [.int 1, .int 2, .int 3, .int 4, .int 5, .int 6]) := (congrFun g6 l).symm.trans upd_same
    clear g6
    refine ⟨by simp, fun q H' w nq lq => ?_⟩
    have e : PyData.eqv (.list [.int 1, .int 2, .int 3, .int 4, .int 5, .int 6]) (.list [.int 1, .int 2, .int 3, .int 4, .int 5, .int 6]) = true := by decide +kernel
    refine ⟨.list [.int 1, .int 2, .int 3, .int 4, .int 5, .int 6], .list [.int 1, .int 2, .int 3, .int 4, .int 5, .int 6], .lst (SqL.of (w _ _ l6)) (.cons (.int _) (.cons (.int _) (.cons (.int _) (.cons (.int _) (.cons (.int _) (.cons (.int _) .nil)))))),
      .lst (SqL.of lq) (.cons (.int _) (.cons (.int _) (.cons (.int _) (.cons (.int _) (.cons (.int _) (.cons (.int _) .nil)))))), by decide +kernel, by decide +kernel, ?_⟩
    rw [e]
    exact k H' (S6.trans w)
end
end K00

set_option Elab.async false
set_option linter.all false
set_option maxRecDepth 100000
set_option maxHeartbeats 4000000
namespace K00
open PySem L2 PySem.KX
def kindD (i : Nat) : PyData := .list ((List.range 20).map fun j => .bool (decide (j = i)))
def baseD (i : Nat) : PyData := .list ((List.range 7).map fun j => .bool (baseRow i j))
def basesD : PyData := .list ((List.range 6).map fun j => baseD (14 + j))
theorem kindD_ok : ∀ i : Fin 20, SeqAt.shaped (kindD i.1) = true ∧ PyData.eqv (kindD i.1) (kindD i.1) = true := by decide +kernel
theorem baseD_ok : ∀ i : Fin 20, SeqAt.shaped (baseD i.1) = true ∧ PyData.eqv (baseD i.1) (baseD i.1) = true := by decide +kernel
theorem basesD_ok : SeqAt.shaped basesD = true ∧ PyData.eqv basesD basesD = true := by decide +kernel
theorem dp_bools {K : PySem.W.Frag} {H : Hp} (f : Nat → Bool) : ∀ l : List Nat, DpAll K H (l.map fun j => V.bl (f j)) (l.map fun j => PyData.bool (f j))
  | [] => .nil
  | x :: xs => .cons (.bl _) (dp_bools f xs)
theorem cut14 {ms : List V} {a b c d e f : V} (h : ms.length = 14) : cutV (ms ++ [a, b, c, d, e, f]) (some 14) none = [a, b, c, d, e, f] := by
  unfold cutV
  rw [List.length_append, h]
  show List.take 6 (List.drop 14 (ms ++ [a, b, c, d, e, f])) = _
  rw [List.drop_left' h]
  rfl
abbrev s_law_right : Stmt := top 32
theorem sc_law_right : FnScope ["text", "value", "amount", "paper", "errors", "at", "error", "step", "name", "run", "number", "many", "sound", "bases", "lookup", "due", "kept", "other"] ["text", "value", "amount", "paper"] (defScope s_law_right) := ⟨rfl, rfl, rfl, by decide +kernel, rfl, by decide +kernel, by decide +kernel⟩
structure TxtR (mg : Str → Option Value) : Prop where
  range : mg "range" = none
  len : mg "len" = none
  enumerate : mg "enumerate" = none
  repr : mg "repr" = none
  str : mg "str" = none
section
variable {P : Program} {w : World} {K : PySem.W.Frag} {mg : Str → Option Value} {base : Heap} {C : Nat → Addr}
def spRight (K : PySem.W.Frag) : Sp := fun vs H Q _ => ∃ (t : Str) (v a p : V) (dv da dp : PyData), vs = [.str t, v, a, p] ∧ Eqd K H v dv ∧ Eqd K H a da ∧ Eqd K H p dp ∧
  (PyData.list [dv, dv, da, dv, da, dp]).showable = true ∧ (PyData.list [dv, dv, da, dv, da, dp]).hasDict = false ∧ (PyData.list [dv, dv, da, dv, da, dp]).depth ≤ 60 ∧ (PyData.list [dv, dv, da, dv, da, dp]).shown.length ≤ sizeLine ∧ ∀ H', Same H H' → Q (.bl true) H'
theorem ok_right {f : Addr} {fd : FuncData} (F : Fun K "_law_right" "_law_right" s_law_right f fd) (T : TxtR mg) (VV : TxtV P w K mg base C) (M : TxtM K mg C) (Om : Own P w K mg base CX0 "_law_messages" 1 ["text"] (spMsgs C)) (Ov : Own P w K mg base CX0 "_law_values" 14 ["value", "amount", "paper"] (spVals K C))
    (Ok : Own P w K mg base CX0 "_law_kinds" 1 ["error"] (spKinds K C)) (Ob : Own P w K mg base CX0 "_law_bases" 1 ["error"] (spBases K C)) (Oc : Own P w K mg base CX0 "_law_caught" 14 ["value", "amount", "paper"] (spCaught K)) :
    FnG P w K mg base CX0 15 f fd ["text", "value", "amount", "paper"] (spRight K) := by
  have nd := sc_law_right.nd
  refine okG F sc_law_right (fun vs H Q E h => ?_) (fun cdv A outer s H vs Q E hr h => ?_)
  · obtain ⟨_, _, _, _, _, _, _, rfl, _⟩ := h
    rfl
  · obtain ⟨t, v, a, p, dv, da, dp, rfl, hv, ha, hp, r1, r2, r3, r4, k⟩ := h
    refine ⟨_, (pss_cons (ps_set (i := 4) nd rfl (Or.inl rfl) (pe_op op_addS (pe_own Om hr (pa_cons (av 0) pa_nil) (by decide)) (pe_own Ov hr (pa_cons (av 1) (pa_cons (av 2) (pa_cons (av 3) pa_nil))) (by decide))))
      (pss_cons (ps_for PassesOwn.never rfl (pi_enum (by rfl) T.enumerate (pa_cons (av 4) pa_nil)) (pg_tup rfl (pgs_cons (pg_name (i := 5) nd rfl (Or.inr rfl)) (pgs_cons (pg_name (i := 6) nd rfl (Or.inl rfl)) pgs_nil))) (pss_cons (ps_if (pt_cmpA (op_neD hr.units64) (pe_own Ok hr (pa_cons (av 6) pa_nil) (by decide)) (pe_lc (own := [("other", 17)]) (by rfl) nd (pi_range1 (by rfl) T.range (pa_cons (pe_callB call_lenA (by rfl) T.len PySem.boot_len (pa_cons (av 4) pa_nil)) pa_nil)) (blkOk_by (N := ["text", "value", "amount", "paper", "errors", "at", "error", "step", "name", "run", "number", "many", "sound", "bases", "lookup", "due", "kept", "other"]) (sc := defScope s_law_right) (by decide +kernel)) (fun _ _ _ _ _ => (pg_name (i := 17) nd rfl (Or.inl rfl))) (fun _ _ _ _ _ => pts_nil) (fun _ _ _ _ _ => PE.up (pe_cmpA (show OpR _ (compareOp .Eq) (rEqA K) from op_eqA hr.units64) (av 17) (av 5))))) (pss_one (ps_ret pe_bl)) pss_nil)
      (pss_one (ps_if (PW.pt (pw_and (pt_cmpA op_ltA (av 5) pe_int) (pw_and1 (pt_cmpA (op_neD hr.units64) (pe_own Ob hr (pa_cons (av 6) pa_nil) (by decide)) (pe_lstS (pa_cons pe_bl (pa_cons pe_bl (pa_cons pe_bl (pa_cons pe_bl (pa_cons pe_bl (pa_cons pe_bl (pa_cons pe_bl pa_nil)))))))))))) (pss_one (ps_ret pe_bl)) pss_nil))))
      (pss_cons (ps_asg (pe_slice sl_listS (av 4) (po_some pe_int) po_none) (pg_lst rfl (pgs_cons (pg_name (i := 7) nd rfl (Or.inl rfl)) (pgs_cons (pg_name (i := 8) nd rfl (Or.inl rfl)) (pgs_cons (pg_name (i := 9) nd rfl (Or.inl rfl)) (pgs_cons (pg_name (i := 10) nd rfl (Or.inl rfl)) (pgs_cons (pg_name (i := 11) nd rfl (Or.inl rfl)) (pgs_cons (pg_name (i := 12) nd rfl (Or.inl rfl)) pgs_nil))))))))
      (pss_cons (ps_setLc (i := 13) (own := [("error", 6)]) (by rfl) nd rfl rfl (sw_true rfl rfl rfl (by decide +kernel)) (pi_list (pe_slice sl_listS (av 4) (po_some pe_int) po_none)) (blkOk_by (N := ["text", "value", "amount", "paper", "errors", "at", "error", "step", "name", "run", "number", "many", "sound", "bases", "lookup", "due", "kept", "other"]) (sc := defScope s_law_right) (by decide +kernel)) (fun _ _ _ _ _ => (pg_name (i := 6) nd rfl (Or.inl rfl))) (fun _ _ _ _ _ => pts_nil) (fun _ _ _ _ _ => PE.up (pe_own Ob hr (pa_cons (av 6) pa_nil) (by decide))))
      (pss_cons (ps_set (i := 14) nd rfl (Or.inl rfl) (pe_lstS (pa_cons pe_bl (pa_cons pe_bl (pa_cons pe_bl (pa_cons pe_bl (pa_cons pe_bl (pa_cons pe_bl (pa_cons pe_bl pa_nil)))))))))
      (pss_cons (ps_set (i := 15) nd rfl (Or.inl rfl) (pe_lstS (pa_cons (pe_lstS (pa_cons pe_bl (pa_cons pe_bl (pa_cons pe_bl (pa_cons pe_bl (pa_cons pe_bl (pa_cons pe_bl (pa_cons pe_bl pa_nil)))))))) (pa_cons (pe_lstS (pa_cons pe_bl (pa_cons pe_bl (pa_cons pe_bl (pa_cons pe_bl (pa_cons pe_bl (pa_cons pe_bl (pa_cons pe_bl pa_nil)))))))) (pa_cons (av 14) pa_nil)))))
      (pss_cons (ps_set (i := 15) nd rfl (Or.inl rfl) (pe_op op_addS (av 15) (pe_lstS (pa_cons (pe_lstS (pa_cons pe_bl (pa_cons pe_bl (pa_cons pe_bl (pa_cons pe_bl (pa_cons pe_bl (pa_cons pe_bl (pa_cons pe_bl pa_nil)))))))) (pa_cons (pe_lstS (pa_cons pe_bl (pa_cons pe_bl (pa_cons pe_bl (pa_cons pe_bl (pa_cons pe_bl (pa_cons pe_bl (pa_cons pe_bl pa_nil)))))))) pa_nil)))))
      (pss_cons (ps_expr (pe_appS (av 15) (pe_lstS (pa_cons pe_bl (pa_cons pe_bl (pa_cons pe_bl (pa_cons pe_bl (pa_cons pe_bl (pa_cons pe_bl (pa_cons pe_bl pa_nil))))))))))
      (pss_cons (ps_if (pt_cmpA (op_neD hr.units64) (av 13) (av 15)) (pss_one (ps_ret pe_bl)) pss_nil)
      (pss_cons (ps_set (i := 16) nd rfl (Or.inl rfl) (pe_lstS (pa_cons (pe_xkept (av 7)) (pa_cons (pe_xkept (av 8)) (pa_cons (pe_xkept (av 9)) (pa_cons (pe_xkept (av 10)) (pa_cons (pe_xkept (av 11)) (pa_cons (pe_xkept (av 12)) pa_nil))))))))
      (pss_cons (ps_if (PW.pt (pw_or (pt_cmpA (op_neA hr.units64) (pe_callB (call_reprA hr) (by rfl) T.repr (by decide +kernel) (pa_cons (av 16) pa_nil)) (pe_callB (call_reprA hr) (by rfl) T.repr (by decide +kernel) (pa_cons (pe_lstS (pa_cons (av 1) (pa_cons (av 1) (pa_cons (av 2) (pa_cons (av 1) (pa_cons (av 2) (pa_cons (av 3) pa_nil))))))) pa_nil))) (pw_or1 (pt_cmpA (op_neA hr.units64) (pe_callTy (call_strA hr.units64) (by rfl) T.str (by decide +kernel) (pa_cons (pe_ixA (av 4) pe_int) pa_nil)) (av 0))))) (pss_one (ps_ret pe_bl)) pss_nil)
      (pss_one (ps_ret (pe_own Oc hr (pa_cons (av 1) (pa_cons (av 2) (pa_cons (av 3) pa_nil))) (by decide))))))))))))))), ?_⟩
    refine ⟨t, rfl, fun H1 pm ms s1 n1 l1 hm1 hm2 => ?_⟩
    have hv1 := hv.same s1
    have ha1 := ha.same s1
    have hp1 := hp.same s1
    refine ⟨v, a, p, dv, da, dp, rfl, hv1.m, ha1.m, hp1.m, fun H2 pv e0 e1 e2 e3 e4 e5 s2 n2 l2 x0 x1 x2 x3 x4 x5 => ?_⟩
    refine .inl ⟨_, _, s2 _ _ l1, l2, by simp [hm1], fun er H3 s3 n3 l3 => ?_⟩
    -- the twenty errors lie at er
    have sH3 : Same H H3 := (s1.trans s2).trans s3
    have hm3 : ∀ (i : Nat) (u : V), ms[i]? = some u → MsgAt H3 (C i) t u := fun i u h => (hm2 i u h).same (s2.trans s3)
    have y0 := x0.same s3
    have y1 := x1.same s3
    have y2 := x2.same s3
    have y3 := x3.same s3
    have y4 := x4.same s3
    have y5 := x5.same s3
    have hmx : ∀ i, i < 14 → XI K (C i) := fun i hi => match i, hi with
      | 0, _ => M.InvalidNet.xi | 1, _ => M.InvalidWorkflow.xi | 2, _ => M.InvalidMarking.xi | 3, _ => M.InvalidPlaces.xi | 4, _ => M.InvalidOrder.xi | 5, _ => M.InvalidPlan.xi | 6, _ => M.InvalidChances.xi | 7, _ => M.InvalidCosts.xi
      | 8, _ => M.InvalidLibrary.xi | 9, _ => M.InvalidTerm.xi | 10, _ => M.InvalidLog.xi | 11, _ => M.InvalidOperation.xi | 12, _ => M.ParseError.xi | 13, _ => M.InvalidCommand.xi | n + 14, h => absurd h (by omega)
    have hty : ∀ (i : Nat) (u : V) (H' : Hp), Same H3 H' → (ms ++ [e0, e1, e2, e3, e4, e5])[i]? = some u → TyE K H' u (.ref (C i)) := fun i u H' sx hi => by
      by_cases h14 : i < 14
      · rw [List.getElem?_append_left (by omega)] at hi
        exact ((hm3 i u hi).same sx).ty (hmx i h14)
      · rw [List.getElem?_append_right (by omega), hm1] at hi
        obtain ⟨m, rfl⟩ : ∃ m, i = 14 + m := ⟨i - 14, by omega⟩
        rw [Nat.add_sub_cancel_left] at hi
        match m, hi with
        | 0, hi => exact (Option.some.inj hi) ▸ (y0.same sx).ty VV.UnknownStep.xi
        | 1, hi => exact (Option.some.inj hi) ▸ (y1.same sx).ty VV.UnknownName.xi
        | 2, hi => exact (Option.some.inj hi) ▸ (y2.same sx).ty VV.InvalidRun.xi
        | 3, hi => exact (Option.some.inj hi) ▸ (y3.same sx).ty VV.InvalidNumber.xi
        | 4, hi => exact (Option.some.inj hi) ▸ (y4.same sx).ty VV.TooMany.xi
        | 5, hi => exact (Option.some.inj hi) ▸ (y5.same sx).ty VV.NotSound.xi
        | n + 6, hi => exact nomatch hi
    have hlen : (ms ++ [e0, e1, e2, e3, e4, e5]).length = 20 := by simp [hm1]
    have S3 : SqL K H3 er (ms ++ [e0, e1, e2, e3, e4, e5]) := SqL.of l3
    have hcut := cut14 (a := e0) (b := e1) (c := e2) (d := e3) (e := e4) (f := e5) hm1
    generalize hxs : ms ++ [e0, e1, e2, e3, e4, e5] = xs at *
    refine ⟨er, _, rfl, S3, for_enum (K := K) (a := er) (xs := xs) (fun i σ H4 => ∃ s5 s6 : Option L2.V, σ = [some (.str t), some v, some a, some p, some (.ref er), s5, s6, none, none, none, none, none, none, none, none, none, none, none] ∧ Same H3 H4) ⟨_, _, rfl, Same.refl _⟩ (fun i σ H4 _ ⟨_, _, _, s4⟩ => s4.sqL S3) ?_ ?_⟩
    · rintro i x Tp σ H4 hi ⟨s5, s6, rfl, s4⟩ hT
      refine tup2 ?_
      have hi20 : i < 20 := by
        have := (List.getElem?_eq_some_iff.mp hi).1
        omega
      have s5' : Same H3 (upd H4 Tp (.tup [.int (i : Nat), x])) := s4.new hT
      generalize upd H4 Tp (.tup [.int (i : Nat), x]) = H5 at s5'
      have ty := hty i x H5 s5' hi
      refine ⟨x, i, rfl, hi20, ty, fun H6 q1 w1 m1 k1 => ?_⟩
      have s6' := s5'.trans w1
      refine .inl ⟨_, s6'.sqL S3, _, rfl, by omega, by omega, fun D hD => ?_⟩
      refine lc_rangeS (n := (xs.length : Int).toNat) (fun j u _ => u = .bl (decide ((0 + (j : Int)) = (i : Int)))) (fun _ _ _ _ _ h => h) hD (by omega) (fun j H7 _ _ _ => ?_) gName_mono (fun H7 acc w2 k2 la hacc => ?_)
      · exact ⟨rfl, rfl, Same.refl _, rfl⟩
      · have hla : acc.length = 20 := by simpa [hlen] using la
        have d1 : Dp K H7 (.ref q1) (kindD i) := .lst (SqL.of (w2 _ _ k1)) (dp_bools _ _)
        have d2 : Dp K H7 (.ref D) (kindD i) := .lst (SqL.of k2) (dpAll_get _ _ (by simp [hla]) fun j u hu => by
          have hj : j < 20 := by
            have := (List.getElem?_eq_some_iff.mp hu).1
            omega
          refine ⟨.bool (decide (j = i)), ?_, ?_⟩
          · rw [List.getElem?_map, List.getElem?_range hj]
            rfl
          · rw [hacc j u hu]
            have : decide ((0 + (j : Int)) = (i : Int)) = decide (j = i) := by
              by_cases h : j = i
              · subst h; simp
              · rw [decide_eq_false h, decide_eq_false (by omega)]
            rw [this]
            exact .bl _)
        obtain ⟨sh, eq⟩ := kindD_ok ⟨i, hi20⟩
        refine ⟨kindD i, kindD i, d1, d2, sh, sh, ?_⟩
        rw [eq]
        have s7 := s6'.trans w2
        refine iteF ?_
        by_cases h14 : i < 14
        · have c : decide ((i : Int) < 14) = true := decide_eq_true (by omega)
          show (if decide ((i : Int) < 14) = true then _ else _)
          rw [if_pos c]
          refine ⟨x, i, rfl, hi20, TyE.same (w1.trans w2) ty, fun H8 q2 w3 m3 k3 => ?_⟩
          refine ⟨by simp, fun q3 H9 w4 m4 k4 => ?_⟩
          have d3 : Dp K H9 (.ref q2) (baseD i) := .lst (SqL.of (w4 _ _ k3)) (dp_bools _ _)
          have d4 : Dp K H9 (.ref q3) (baseD i) := by
            have e : baseD i = .list [.bool true, .bool false, .bool false, .bool false, .bool false, .bool false, .bool true] := by
              match i, h14 with
              | 0, _ => rfl | 1, _ => rfl | 2, _ => rfl | 3, _ => rfl | 4, _ => rfl | 5, _ => rfl | 6, _ => rfl | 7, _ => rfl | 8, _ => rfl | 9, _ => rfl | 10, _ => rfl | 11, _ => rfl | 12, _ => rfl | 13, _ => rfl | n + 14, h => exact absurd h (by omega)
            rw [e]
            exact .lst (SqL.of k4) (.cons (.bl _) (.cons (.bl _) (.cons (.bl _) (.cons (.bl _) (.cons (.bl _) (.cons (.bl _) (.cons (.bl _) .nil)))))))
          obtain ⟨sh2, eq2⟩ := baseD_ok ⟨i, hi20⟩
          refine ⟨baseD i, baseD i, d3, d4, sh2, sh2, ?_⟩
          rw [eq2]
          exact iteF ⟨_, _, rfl, (s7.trans w3).trans w4⟩
        · have c : ¬ decide ((i : Int) < 14) = true := fun z => h14 (by have := of_decide_eq_true z; omega)
          show (if decide ((i : Int) < 14) = true then _ else _)
          rw [if_neg c]
          exact iteF ⟨_, _, rfl, s7⟩
    · rintro σ H4 ⟨s5, s6, rfl, s4⟩
      have S4 := s4.sqL S3
      refine ⟨14, rfl, er, xs, rfl, S4, fun p1 H5 w1 m1 k1 => ?_⟩
      rw [hcut] at k1
      refine ⟨p1, _, rfl, SqL.of k1, rfl, _, _, rfl, _, _, rfl, _, _, rfl, _, _, rfl, _, _, rfl, _, _, rfl, rfl, ?_⟩
      have s5' := s4.trans w1
      refine ⟨14, rfl, er, xs, rfl, s5'.sqL S3, fun p2 H6 w2 m2 k2 => ?_⟩
      rw [hcut] at k2
      have s6' := s5'.trans w2
      refine ⟨p2, rfl, ⟨_, SqL.of k2⟩, fun D hD => ?_⟩
      refine lc_listS (xs := [e0, e1, e2, e3, e4, e5]) (fun j u H' => ∃ q, u = .ref q ∧ H' q = some (.lst ((List.range 7).map fun m => L2.V.bl (baseRow (14 + j) m)))) (fun j u H H' e ⟨q, h1, h2⟩ => ⟨q, h1, e _ _ h2⟩) hD (SqL.of k2) (by simp) (fun j x H7 hj w3 hD7 => ?_) gName_mono (fun H7 acc w3 k3 la hacc => ?_)
      · refine ⟨rfl, rfl, x, 14 + j, rfl, ?_, hty _ _ _ (s6'.trans w3) ?_, fun H8 q w4 m4 k4 => ⟨w4, q, rfl, ?_⟩⟩
        · have := (List.getElem?_eq_some_iff.mp hj).1
          simp at this
          omega
        · rw [← hxs, List.getElem?_append_right (by omega), hm1, Nat.add_sub_cancel_left]
          exact hj
        · rw [hide_in (fun z => hD7 (by rw [← List.mem_singleton.mp z]; exact m4))]
          exact k4
      · have s7 := s6'.trans w3
        refine ⟨by simp, fun p14 H8 w4 n4 k4 => ?_⟩
        refine ⟨by simp, fun q0 H9 w5 n5 k5 => ⟨by simp, fun q1 H10 w6 n6 k6 => ⟨by simp, fun u0 H11 w7 n7 k7 => ?_⟩⟩⟩
        refine ⟨by simp, fun q3 H12 w8 n8 k8 => ⟨by simp, fun q4 H13 w9 n9 k9 => ⟨by simp, fun u1 H14 w10 n10 k10 => ?_⟩⟩⟩
        refine .inl ⟨_, _, ((w8.trans w9).trans w10) _ _ k7, k10, by simp, fun u H15 w11 n11 k11 => ?_⟩
        refine ⟨u, _, rfl, k11, by simp, fun q5 H16 w12 n12 k12 => ⟨_, w12 _ _ k11, by simp, ?_⟩⟩
        generalize hG : upd H16 u _ = G
        have sG : Same H14 G := by rw [← hG]; exact app_same (w11.trans w12) n11
        have kG : G u = some (.lst [.ref q0, .ref q1, .ref p14, .ref q3, .ref q4, .ref q5]) := (congrFun hG u).symm.trans upd_same
        have k5G : G q5 = some (.lst [.bl false, .bl false, .bl false, .bl false, .bl false, .bl true, .bl false]) := by
          rw [← hG, upd_ne (fun z => by rw [z, k11] at n12; cases n12)]
          exact k12
        clear hG
        have t13 : Same H13 G := w10.trans sG
        have t12 := w9.trans t13
        have t11 := w8.trans t12
        have t10 := w7.trans t11
        have t9 := w6.trans t10
        have t8 := w5.trans t9
        have t7 := w4.trans t8
        have sZ : Same H3 G := s7.trans t7
        have d1 : Dp K G (.ref D) basesD := .lst (SqL.of (t7 _ _ k3)) (dpAll_get _ _ (by simp [la]) fun j y hy => by
          obtain ⟨q, rfl, hq⟩ := hacc j y hy
          have hj : j < 6 := by
            have := (List.getElem?_eq_some_iff.mp hy).1
            rw [la] at this
            exact this
          refine ⟨baseD (14 + j), ?_, .lst (SqL.of (t7 _ _ hq)) (dp_bools _ _)⟩
          rw [List.getElem?_map, List.getElem?_range hj]
          rfl)
        have d2 : Dp K G (.ref u) basesD := by
          show Dp K G (.ref u) (.list [.list [.bool false, .bool true, .bool false, .bool true, .bool false, .bool false, .bool false], .list [.bool false, .bool true, .bool false, .bool true, .bool false, .bool false, .bool false], .list [.bool false, .bool false, .bool false, .bool true, .bool false, .bool false, .bool false],
            .list [.bool false, .bool false, .bool true, .bool true, .bool false, .bool false, .bool false], .list [.bool false, .bool false, .bool false, .bool false, .bool true, .bool false, .bool false], .list [.bool false, .bool false, .bool false, .bool false, .bool false, .bool true, .bool false]])
          have b7 : ∀ a b c d e f g : Bool, DpAll K G [.bl a, .bl b, .bl c, .bl d, .bl e, .bl f, .bl g] [.bool a, .bool b, .bool c, .bool d, .bool e, .bool f, .bool g] := fun a b c d e f g => .cons (.bl _) (.cons (.bl _) (.cons (.bl _) (.cons (.bl _) (.cons (.bl _) (.cons (.bl _) (.cons (.bl _) .nil))))))
          exact .lst (SqL.of kG) (.cons (.lst (SqL.of (t9 _ _ k5)) (b7 _ _ _ _ _ _ _)) (.cons (.lst (SqL.of (t10 _ _ k6)) (b7 _ _ _ _ _ _ _)) (.cons (.lst (SqL.of (t8 _ _ k4)) (b7 _ _ _ _ _ _ _)) (.cons (.lst (SqL.of (t12 _ _ k8)) (b7 _ _ _ _ _ _ _)) (.cons (.lst (SqL.of (t13 _ _ k9)) (b7 _ _ _ _ _ _ _)) (.cons (.lst (SqL.of k5G) (b7 _ _ _ _ _ _ _)) .nil))))))
        obtain ⟨sh, eq⟩ := basesD_ok
        refine ⟨basesD, basesD, d1, d2, sh, sh, ?_⟩
        rw [eq]
        refine iteF ?_
        refine ⟨_, dv, VV.UnknownStep.xc, VV.UnknownStep.hno, y0.same sZ, fun v0 c0 => ⟨_, dv, VV.UnknownName.xc, VV.UnknownName.hno, y1.same sZ, fun v1 c1 => ⟨_, da, VV.InvalidRun.xc, VV.InvalidRun.hno, y2.same sZ, fun v2 c2 => ?_⟩⟩⟩
        refine ⟨_, dv, VV.InvalidNumber.xc, VV.InvalidNumber.hno, y3.same sZ, fun v3 c3 => ⟨_, da, VV.TooMany.xc, VV.TooMany.hno, y4.same sZ, fun v4 c4 => ⟨_, dp, VV.NotSound.xc, VV.NotSound.hno, y5.same sZ, fun v5 c5 => ?_⟩⟩⟩
        refine ⟨by simp, fun pk H17 w13 n13 k13 => ?_⟩
        have all6 : ∀ {H' : Hp} {a b c d e f : L2.V}, Dp K H' a dv → Dp K H' b dv → Dp K H' c da → Dp K H' d dv → Dp K H' e da → Dp K H' f dp → DpAll K H' [a, b, c, d, e, f] [dv, dv, da, dv, da, dp] := fun h0 h1 h2 h3 h4 h5 => .cons h0 (.cons h1 (.cons h2 (.cons h3 (.cons h4 (.cons h5 .nil)))))
        refine ⟨pk, .list [dv, dv, da, dv, da, dp], rfl, .lst (SqL.of k13) (all6 (Dp.same w13 _ _ c0) (Dp.same w13 _ _ c1) (Dp.same w13 _ _ c2) (Dp.same w13 _ _ c3) (Dp.same w13 _ _ c4) (Dp.same w13 _ _ c5)), r1, r2, r3, r4, ?_⟩
        refine ⟨by simp, fun pr H18 w14 n14 k14 => ?_⟩
        have sY : Same H3 H18 := (sZ.trans w13).trans w14
        have hvY := hv.same (sH3.trans sY)
        have haY := ha.same (sH3.trans sY)
        have hpY := hp.same (sH3.trans sY)
        refine ⟨pr, .list [dv, dv, da, dv, da, dp], rfl, .lst (SqL.of k14) (all6 hvY.m.dp hvY.m.dp haY.m.dp hvY.m.dp haY.m.dp hpY.m.dp), r1, r2, r3, r4, ?_⟩
        show (if (!decide (_ = _)) = true then _ else _)
        rw [if_neg (by simp)]
        have h0 : ms[0]? = some ms[0] := List.getElem?_eq_getElem (by omega)
        obtain ⟨a0, tt, e, g1, g2⟩ := hm3 0 _ h0
        have hx0 : xs[0]? = some (.ref a0) := by rw [← hxs, List.getElem?_append_left (by omega), h0, e]
        refine .inl ⟨xs, .ref a0, sY.sqL S3, atI_nat hx0, ?_⟩
        refine ⟨C 0, tt, t, sY _ _ g1, sY _ _ g2, M.InvalidNet.hs, M.InvalidNet.xi.ex, ?_⟩
        show (if (!decide (_ = _)) = true then _ else _)
        rw [if_neg (by simp)]
        exact ⟨v, a, p, dv, da, dp, rfl, hvY, haY, hpY, fun H' sx => k H' ((sH3.trans sY).trans sx)⟩
end
end K00

set_option Elab.async false
set_option linter.all false
set_option maxRecDepth 100000
set_option maxHeartbeats 4000000
namespace K00
open PySem L2 PySem.KX
def tx : Nat → Str
  | 0 => "a net is expected"
  | 1 => ""
  | 2 => "x"
  | _ => "0"
def valD : Nat → PyData
  | 0 => .tuple [.str "left", .tuple [.str "fork"]]
  | 1 => .none
  | 2 => .tuple []
  | 3 => .list [.int 1, .int 2]
  | 4 => .str (("name" : Str) ++ tx 0)
  | 5 => .str (("name" : Str) ++ tx 1)
  | 6 => .str (("name" : Str) ++ tx 2)
  | 7 => .str (("name" : Str) ++ tx 3)
  | n + 8 => .int ((10 : Int) ^ Int.toNat 30 + (n : Int))
def amtD : Nat → PyData
  | 0 => .int 0
  | 1 => .int 1
  | 2 => .int 40
  | 3 => .int 1000
  | _ => .int 4096
def papD : Nat → PyData
  | 0 => .tuple [.str "rank", .int 3, .int 4]
  | 1 => .tuple [.str "siphon", .tuple [.int 1, .int 2]]
  | 2 => .tuple [.str "growth", .tuple [.int 0, .int 1, .int 1]]
  | _ => .tuple [.str "rise", .tuple [.int 0, .int 0, .int 1]]
def chk1 (d : PyData) : Bool := decide (d.depth ≤ 10) && (smallD d && (SeqAt.shaped d && (PyData.eqv d d && (PyData.leavesShort 64 d && (decide (PyData.weight d ≤ 200) && (d.showable && !d.hasDict))))))
theorem vals_ok : ∀ k : _root_.Fin 17, chk1 (valD k.1) = true := by decide +kernel
theorem amts_ok : ∀ k : _root_.Fin 5, chk1 (amtD k.1) = true := by decide +kernel
theorem paps_ok : ∀ k : _root_.Fin 4, chk1 (papD k.1) = true := by decide +kernel
structure Chk (d : PyData) : Prop where
  depth : d.depth ≤ 10
  small : smallD d = true
  sh : SeqAt.shaped d = true
  eq : PyData.eqv d d = true
  lv : PyData.leavesShort 64 d = true
  wt : PyData.weight d ≤ 200
  sb : d.showable = true
  nd : d.hasDict = false
theorem chk_of {d : PyData} (h : chk1 d = true) : Chk d := by
  unfold chk1 at h
  simp only [Bool.and_eq_true, decide_eq_true_eq, Bool.not_eq_true'] at h
  obtain ⟨h1, h2, h3, h4, h5, h6, h7, h8⟩ := h
  exact ⟨h1, h2, h3, h4, h5, h6, h7, h8⟩
theorem six_ok {v a p : PyData} (hv : Chk v) (ha : Chk a) (hp : Chk p) : (PyData.list [v, v, a, v, a, p]).showable = true ∧ (PyData.list [v, v, a, v, a, p]).hasDict = false ∧ (PyData.list [v, v, a, v, a, p]).depth ≤ 60 ∧ (PyData.list [v, v, a, v, a, p]).shown.length ≤ sizeLine := by
  refine ⟨?_, ?_, ?_, ?_⟩
  · simp only [PyData.showable, PyData.showableAll, hv.sb, ha.sb, hp.sb, Bool.and_self]
  · simp only [PyData.hasDict, PyData.hasDictAll, hv.nd, ha.nd, hp.nd, Bool.or_self]
  · have h1 := hv.depth
    have h2 := ha.depth
    have h3 := hp.depth
    simp only [PyData.depth, PyData.depthAll]
    omega
  · have hl : PyData.leavesShort 64 (.list [v, v, a, v, a, p]) = true := by simp only [PyData.leavesShort, PyData.leavesShortAll, hv.lv, ha.lv, hp.lv, Bool.and_self]
    have h := PyData.shown_le 64 (by decide) _ hl
    have e : PyData.weight (.list [v, v, a, v, a, p]) ≤ 1206 := by
      have h1 := hv.wt
      have h2 := ha.wt
      have h3 := hp.wt
      simp only [PyData.weight, PyData.weightAll]
      omega
    rw [sizeLine_eq]
    omega
theorem vals_chk {k : Nat} (h : k < 17) : Chk (valD k) := chk_of (vals_ok ⟨k, h⟩)
theorem amts_chk {k : Nat} (h : k < 5) : Chk (amtD k) := chk_of (amts_ok ⟨k, h⟩)
theorem paps_chk {k : Nat} (h : k < 4) : Chk (papD k) := chk_of (paps_ok ⟨k, h⟩)
end K00

set_option Elab.async false
set_option linter.all false
set_option maxRecDepth 100000
set_option maxHeartbeats 4000000
namespace K00
open PySem L2 PySem.KX
/-- what lies beside p stays -/
def Nxt (p : Addr) (H H' : Hp) : Prop := Same (hide [p] H) (hide [p] H')
theorem Nxt.refl {p : Addr} {H : Hp} : Nxt p H H := Same.refl _
theorem Nxt.trans {p : Addr} {H H' H2 : Hp} (a : Nxt p H H') (b : Nxt p H' H2) : Nxt p H H2 := Same.trans a b
theorem Nxt.of {p : Addr} {H H' : Hp} (s : Same H H') : Nxt p H H' := hide_same s
theorem Nxt.upd {p : Addr} {H : Hp} {o : HO} : Nxt p H (upd H p o) := by
  unfold Nxt
  rw [hide_upd]
  exact Same.refl _
theorem Nxt.same {p : Addr} {H1 H H' : Hp} (n : H1 p = none) (s : Same H1 H) (x : Nxt p H H') : Same H1 H' := fun b o e => by
  have hb : b ∉ [p] := fun z => by
    rw [List.mem_singleton.mp z, n] at e
    cases e
  have h := x b o (by rw [hide_in hb]; exact s _ _ e)
  exact (hide_of h).1
/-- data beside p -/
abbrev Bsd (K : PySem.W.Frag) (p : Addr) (H : Hp) (v : V) (d : PyData) : Prop := Dp K (hide [p] H) v d
theorem Bsd.nxt {K : PySem.W.Frag} {p : Addr} {H H' : Hp} {v : V} {d : PyData} (s : Nxt p H H') (h : Bsd K p H v d) : Bsd K p H' v d := Dp.same s _ _ h
theorem bsd_tup {K : PySem.W.Frag} {p q : Addr} {H : Hp} {vs : List V} {ds : List PyData} (e : H q = some (.tup vs)) (n : q ≠ p) (h : DpAll K (hide [p] H) vs ds) : Bsd K p H (.ref q) (.tuple ds) :=
  .tup (SqT.of (by rw [hide_in (fun z => n (List.mem_singleton.mp z))]; exact e)) h
theorem bsd_lst {K : PySem.W.Frag} {p q : Addr} {H : Hp} {vs : List V} {ds : List PyData} (e : H q = some (.lst vs)) (n : q ≠ p) (h : DpAll K (hide [p] H) vs ds) : Bsd K p H (.ref q) (.list ds) :=
  .lst (SqL.of (by rw [hide_in (fun z => n (List.mem_singleton.mp z))]; exact e)) h
theorem new_ne {p q : Addr} {H : Hp} {o : HO} (e : H p = some o) (n : H q = none) : q ≠ p := fun z => by
  rw [z, e] at n
  cases n
abbrev slaw : Stmt := top 33
theorem sclaw : FnScope ["script", "at", "dice", "text", "value", "amount", "paper"] ["script"] (defScope slaw) := ⟨rfl, rfl, rfl, by decide +kernel, rfl, by decide +kernel, by decide +kernel⟩
structure TxtL (mg : Str → Option Value) : Prop where
  range : mg "range" = none
  len : mg "len" = none
  max : mg "max" = none
  min : mg "min" = none
  isinstance : mg "isinstance" = none
  ValueError : mg "ValueError" = none
section
variable {P : Program} {w : World} {K : PySem.W.Frag} {mg : Str → Option Value} {base : Heap} {C : Nat → Addr}
def spLaw (K : PySem.W.Frag) : Sp := fun vs H Q _ => ∃ (a : Addr) (ns : List Int), vs = [.ref a] ∧ SqL K H a (ns.map V.int) ∧ ns.length ≤ 63 ∧ ∀ H', Q (.bl true) H'
theorem ok_law {f : Addr} {fd : FuncData} (F : Fun K "law" "law" slaw f fd) (T : TxtL mg) (M : TxtM K mg C) (k20 : PySem.W.kitOne K (.ref (C 20)) (.type "ValueError") = some true) (Od : Own P w K mg base CX0 "_law_dice" 1 ["script", "at"] (spDice K)) (Or_ : Own P w K mg base CX0 "_law_roll" 1 ["dice", "total"] spRoll)
    (Oo : Own P w K mg base CX0 "_law_one_of" 2 ["dice", "items"] spOne) (Og : Own P w K mg base CX0 "_law_right" 15 ["text", "value", "amount", "paper"] (spRight K)) : FnG P w K mg base CX0 16 f fd ["script"] (spLaw K) := by
  have nd := sclaw.nd
  refine okG F sclaw (fun vs H Q E h => ?_) (fun cdv A outer s H vs Q E hr h => ?_)
  · obtain ⟨_, _, rfl, _⟩ := h
    rfl
  · obtain ⟨a, ns, rfl, hS, hlen, k⟩ := h
    refine ⟨_, (pss_cons (ps_for PassesOwn.never rfl (pi_range1 (by rfl) T.range (pa_cons (pe_callB (call_maxA rfl) (by rfl) T.max (by decide +kernel) (pa_cons pe_int (pa_cons (pe_callB (call_minA rfl) (by rfl) T.min (by decide +kernel) (pa_cons pe_int (pa_cons (pe_callB call_lenA (by rfl) T.len PySem.boot_len (pa_cons (av 0) pa_nil)) pa_nil))) pa_nil))) pa_nil)) (pg_name (i := 1) nd rfl (Or.inl rfl)) (pss_cons (ps_set (i := 2) nd rfl (Or.inl rfl) (pe_own Od hr (pa_cons (av 0) (pa_cons (av 1) pa_nil)) (by decide)))
      (pss_cons (ps_set (i := 3) nd rfl (Or.inl rfl) (pe_own Oo hr (pa_cons (av 2) (pa_cons (pe_lstS (pa_cons pe_str (pa_cons pe_str (pa_cons pe_str (pa_cons pe_str pa_nil))))) pa_nil)) (by decide)))
      (pss_cons (ps_set (i := 4) nd rfl (Or.inl rfl) (pe_own Oo hr (pa_cons (av 2) (pa_cons (pe_lstS (pa_cons (pe_tupS (pa_cons pe_str (pa_cons (pe_tupS (pa_cons pe_str pa_nil)) pa_nil))) (pa_cons (pe_op op_addS (pe_op op_powA pe_int pe_int) (pe_own Or_ hr (pa_cons (av 2) (pa_cons pe_int pa_nil)) (by decide))) (pa_cons (pe_op op_addS pe_str (av 3)) (pa_cons pe_non (pa_cons (pe_tupS pa_nil) (pa_cons (pe_lstS (pa_cons pe_int (pa_cons pe_int pa_nil))) pa_nil))))))) pa_nil)) (by decide)))
      (pss_cons (ps_set (i := 5) nd rfl (Or.inl rfl) (pe_own Oo hr (pa_cons (av 2) (pa_cons (pe_lstS (pa_cons pe_int (pa_cons pe_int (pa_cons pe_int (pa_cons pe_int (pa_cons pe_int pa_nil)))))) pa_nil)) (by decide)))
      (pss_cons (ps_set (i := 6) nd rfl (Or.inl rfl) (pe_own Oo hr (pa_cons (av 2) (pa_cons (pe_lstS (pa_cons (pe_tupS (pa_cons pe_str (pa_cons pe_int (pa_cons pe_int pa_nil)))) (pa_cons (pe_tupS (pa_cons pe_str (pa_cons (pe_tupS (pa_cons pe_int (pa_cons pe_int pa_nil))) pa_nil))) (pa_cons (pe_tupS (pa_cons pe_str (pa_cons (pe_tupS (pa_cons pe_int (pa_cons pe_int (pa_cons pe_int pa_nil)))) pa_nil))) (pa_cons (pe_tupS (pa_cons pe_str (pa_cons (pe_tupS (pa_cons pe_int (pa_cons pe_int (pa_cons pe_int pa_nil)))) pa_nil))) pa_nil))))) pa_nil)) (by decide)))
      (pss_one (ps_if (pt_not (pt_valA (pe_own Og hr (pa_cons (av 3) (pa_cons (av 4) (pa_cons (av 5) (pa_cons (av 6) pa_nil)))) (by decide)))) (pss_one (ps_ret pe_bl)) pss_nil))))))))
      (pss_one (ps_ret (pe_callB call_isiA (by rfl) T.isinstance (by decide +kernel) (pa_cons (pe_msg FVE M.FlowError pe_str) (pa_cons (pe_bltn (v := .ty "ValueError") (u := .type "ValueError") rfl T.ValueError (by decide +kernel) rfl) pa_nil)))))), ?_⟩
    refine .inl ⟨_, hS, ?_⟩
    refine ⟨_, rfl, ?_, ?_, for_range (fun i σ H' => ∃ o1 o2 o3 o4 o5 o6 : Option V, σ = [some (.ref a), o1, o2, o3, o4, o5, o6] ∧ Same H H') ⟨_, _, _, _, _, _, rfl, Same.refl _⟩ ?_ ?_⟩
    · split <;> split <;> omega
    · split <;> split <;> omega
    · rintro i σ H1 hi ⟨o1, o2, o3, o4, o5, o6, rfl, s1⟩
      have hi4 : i < 4 := by
        revert hi
        split <;> split <;> omega
      refine ⟨a, ns, i, by simp, s1.sqL hS, hlen, by omega, fun H2 p g s s2 n2 l2 g0 s0 s61 => ?_⟩
      -- the text
      refine ⟨by simp, fun q H3 s3 n3 l3 => ?_⟩
      refine ⟨p, q, _, g, s, 0, rfl, s3 _ _ l2, l3, new_ne l2 n3, by simp, by simp, g0, s0, s61, by omega, by omega, fun j3 t3 g1 m1 e3 g1' m1a m1b => ?_⟩
      have ht : ∃ kt, kt < 4 ∧ t3 = .str (tx kt) := by
        match j3, e3 with
        | 0, e => exact ⟨0, by decide, (Option.some.inj e).symm⟩
        | 1, e => exact ⟨1, by decide, (Option.some.inj e).symm⟩
        | 2, e => exact ⟨2, by decide, (Option.some.inj e).symm⟩
        | 3, e => exact ⟨3, by decide, (Option.some.inj e).symm⟩
        | n + 4, e => exact nomatch e
      obtain ⟨kt, hkt, rfl⟩ := ht
      have x4 : Nxt p H2 (upd H3 p (Dice g1 s m1)) := (Nxt.of s3).trans Nxt.upd
      have l4 : upd H3 p (Dice g1 s m1) p = some (Dice g1 s m1) := upd_same
      generalize upd H3 p (Dice g1 s m1) = H4 at x4 l4
      -- the value
      refine ⟨by simp, fun qa H5 s5 n5 l5 => ⟨by simp, fun qb H6 s6 n6 l6 => ?_⟩⟩
      have l6p := (s5.trans s6) _ _ l4
      refine ⟨pow_ok (by decide) (by decide) (by decide) (by decide), ?_⟩
      refine ⟨p, 9, g1, s, m1, rfl, l6p, by decide, by decide, g1', s0, s61, by omega, by omega, fun r g2 m2 r0 r9 g2' m2a m2b => ?_⟩
      have va : Bsd K p H6 (.ref qb) (valD 0) := bsd_tup l6 (new_ne (s5 _ _ l4) n6) (.cons (.str _) (.cons (bsd_tup (s6 _ _ l5) (new_ne l4 n5) (.cons (.str _) .nil)) .nil))
      have x7 : Nxt p H6 (upd H6 p (Dice g2 s m2)) := Nxt.upd
      have l7 : upd H6 p (Dice g2 s m2) p = some (Dice g2 s m2) := upd_same
      generalize upd H6 p (Dice g2 s m2) = H7 at x7 l7
      refine ⟨?_, ?_⟩
      · match kt, hkt with
        | 0, _ => decide +kernel
        | 1, _ => decide +kernel
        | 2, _ => decide +kernel
        | 3, _ => decide +kernel
        | n + 4, h => exact absurd h (by omega)
      refine ⟨by simp, fun qc H8 s8 n8 l8 => ⟨by simp, fun qd H9 s9 n9 l9 => ⟨by simp, fun qe H10 s10 n10 l10 => ?_⟩⟩⟩
      have l10p := ((s8.trans s9).trans s10) _ _ l7
      refine ⟨p, qe, _, g2, s, m2, rfl, l10p, l10, new_ne ((s8.trans s9) _ _ l7) n10, by simp, by simp, g2', s0, s61, by omega, by omega, fun j4 v4 g3 m3 e4 g3' m3a m3b => ?_⟩
      have hv : ∃ kv, kv < 17 ∧ Bsd K p H10 v4 (valD kv) := by
        match j4, e4 with
        | 0, e => exact ⟨0, by decide, (Option.some.inj e) ▸ va.nxt (x7.trans (Nxt.of ((s8.trans s9).trans s10)))⟩
        | 1, e =>
          obtain ⟨m, rfl⟩ : ∃ m : Nat, r = (m : Int) := ⟨r.toNat, by omega⟩
          exact ⟨m + 8, by omega, (Option.some.inj e) ▸ Dp.int _⟩
        | 2, e =>
          refine ⟨4 + kt, by omega, (Option.some.inj e) ▸ ?_⟩
          match kt, hkt with
          | 0, _ => exact .str _
          | 1, _ => exact .str _
          | 2, _ => exact .str _
          | 3, _ => exact .str _
          | n + 4, h => exact absurd h (by omega)
        | 3, e => exact ⟨1, by decide, (Option.some.inj e) ▸ Dp.non⟩
        | 4, e => exact ⟨2, by decide, (Option.some.inj e) ▸ bsd_tup ((s9.trans s10) _ _ l8) (new_ne l7 n8) .nil⟩
        | 5, e => exact ⟨3, by decide, (Option.some.inj e) ▸ bsd_lst (s10 _ _ l9) (new_ne (s8 _ _ l7) n9) (.cons (.int _) (.cons (.int _) .nil))⟩
        | n + 6, e => exact nomatch e
      obtain ⟨kv, hkv, hv⟩ := hv
      have x11 : Nxt p H10 (upd H10 p (Dice g3 s m3)) := Nxt.upd
      have l11 : upd H10 p (Dice g3 s m3) p = some (Dice g3 s m3) := upd_same
      generalize upd H10 p (Dice g3 s m3) = H11 at x11 l11
      -- the amount
      refine ⟨by simp, fun qf H12 s12 n12 l12 => ?_⟩
      refine ⟨p, qf, _, g3, s, m3, rfl, s12 _ _ l11, l12, new_ne l11 n12, by simp, by simp, g3', s0, s61, by omega, by omega, fun j5 v5 g4 m4 e5 g4' m4a m4b => ?_⟩
      have ha : ∃ ka, ka < 5 ∧ ∀ H', Dp K H' v5 (amtD ka) := by
        match j5, e5 with
        | 0, e => exact ⟨0, by decide, fun H' => (Option.some.inj e) ▸ Dp.int _⟩
        | 1, e => exact ⟨1, by decide, fun H' => (Option.some.inj e) ▸ Dp.int _⟩
        | 2, e => exact ⟨2, by decide, fun H' => (Option.some.inj e) ▸ Dp.int _⟩
        | 3, e => exact ⟨3, by decide, fun H' => (Option.some.inj e) ▸ Dp.int _⟩
        | 4, e => exact ⟨4, by decide, fun H' => (Option.some.inj e) ▸ Dp.int _⟩
        | n + 5, e => exact nomatch e
      obtain ⟨ka, hka, ha⟩ := ha
      have x13 : Nxt p H11 (upd H12 p (Dice g4 s m4)) := (Nxt.of s12).trans Nxt.upd
      have l13 : upd H12 p (Dice g4 s m4) p = some (Dice g4 s m4) := upd_same
      generalize upd H12 p (Dice g4 s m4) = H13 at x13 l13
      -- the paper
      refine ⟨by simp, fun b0 J0 t0 c0 k0 => ⟨by simp, fun b1 J1 t1 c1 k1 => ⟨by simp, fun b2 J2 t2 c2 k2 => ⟨by simp, fun b3 J3 t3 c3 k3 => ⟨by simp, fun b4 J4 t4 c4 k4 => ⟨by simp, fun b5 J5 t5 c5 k5 => ⟨by simp, fun b6 J6 t6 c6 k6 => ⟨by simp, fun b7 J7 t7 c7 k7 => ?_⟩⟩⟩⟩⟩⟩⟩⟩
      have p0 := t0 _ _ l13
      have p1 := t1 _ _ p0
      have p2 := t2 _ _ p1
      have p3 := t3 _ _ p2
      have p4 := t4 _ _ p3
      have p5 := t5 _ _ p4
      have p6 := t6 _ _ p5
      have p7 := t7 _ _ p6
      have w6 := t7
      have w5 := t6.trans w6
      have w4 := t5.trans w5
      have w3 := t4.trans w4
      have w2 := t3.trans w3
      have w1 := t2.trans w2
      have w0 := t1.trans w1
      refine ⟨p, b7, _, g4, s, m4, rfl, p7, k7, new_ne p6 c7, by simp, by simp, g4', s0, s61, by omega, by omega, fun j6 v6 g5 m5 e6 g5' m5a m5b => ?_⟩
      have hp : ∃ kp, kp < 4 ∧ Bsd K p J7 v6 (papD kp) := by
        match j6, e6 with
        | 0, e => exact ⟨0, by decide, (Option.some.inj e) ▸ bsd_tup (w0 _ _ k0) (new_ne l13 c0) (.cons (.str _) (.cons (.int _) (.cons (.int _) .nil)))⟩
        | 1, e => exact ⟨1, by decide, (Option.some.inj e) ▸ bsd_tup (w2 _ _ k2) (new_ne p1 c2) (.cons (.str _) (.cons (bsd_tup (w1 _ _ k1) (new_ne p0 c1) (.cons (.int _) (.cons (.int _) .nil))) .nil))⟩
        | 2, e => exact ⟨2, by decide, (Option.some.inj e) ▸ bsd_tup (w4 _ _ k4) (new_ne p3 c4) (.cons (.str _) (.cons (bsd_tup (w3 _ _ k3) (new_ne p2 c3) (.cons (.int _) (.cons (.int _) (.cons (.int _) .nil)))) .nil))⟩
        | 3, e => exact ⟨3, by decide, (Option.some.inj e) ▸ bsd_tup (w6 _ _ k6) (new_ne p5 c6) (.cons (.str _) (.cons (bsd_tup (w5 _ _ k5) (new_ne p4 c5) (.cons (.int _) (.cons (.int _) (.cons (.int _) .nil)))) .nil))⟩
        | n + 4, e => exact nomatch e
      obtain ⟨kp, hkp, hp⟩ := hp
      have xJ : Nxt p J7 (upd J7 p (Dice g5 s m5)) := Nxt.upd
      have xK : Nxt p H13 J7 := Nxt.of (t0.trans w0)
      generalize upd J7 p (Dice g5 s m5) = J8 at xJ
      have cv := vals_chk hkv
      have ca := amts_chk hka
      have cp := paps_chk hkp
      obtain ⟨r1, r2, r3, r4⟩ := six_ok cv ca cp
      have hv8 : Dp K J8 v4 (valD kv) := Dp.same hide_sub _ _ (hv.nxt (((x11.trans x13).trans xK).trans xJ))
      have hp8 : Dp K J8 v6 (papD kp) := Dp.same hide_sub _ _ (hp.nxt xJ)
      refine ⟨tx kt, v4, v5, v6, _, _, _, rfl, ⟨⟨hv8, cv.depth, cv.small⟩, cv.sh, cv.eq⟩, ⟨⟨ha _, ca.depth, ca.small⟩, ca.sh, ca.eq⟩, ⟨⟨hp8, cp.depth, cp.small⟩, cp.sh, cp.eq⟩, r1, r2, r3, r4, fun H' s9' => ?_⟩
      refine iteF ⟨_, _, _, _, _, _, rfl, ?_⟩
      have sB : Same H1 J8 := Nxt.same n2 s2 ((((((((x4.trans (Nxt.of (s5.trans s6))).trans x7).trans (Nxt.of ((s8.trans s9).trans s10))).trans x11).trans x13).trans xK).trans xJ))
      exact (s1.trans sB).trans s9'
    · rintro σ H' ⟨_, _, _, _, _, _, rfl, s1⟩
      refine ⟨_, rfl, fun u H2 s2 m2 => ?_⟩
      exact ⟨_, _, _, _, true, rfl, .ty _, m2.ty M.FlowError.xi, k20, k _⟩
end
end K00

set_option Elab.async false
set_option linter.all false
set_option maxRecDepth 100000
set_option maxHeartbeats 4000000
namespace K00
open PySem L2 PySem.KX
def noneB (K : PySem.W.Frag) (ns : List Str) : Bool := ns.all fun n => decide (PySem.W.nsIn K mainGlobals n = some none)
theorem noneB_ok {K : PySem.W.Frag} {ns : List Str} (h : noneB K ns = true) {n : Str} (m : n ∈ ns) : PySem.W.nsIn K mainGlobals n = some none := of_decide_eq_true (List.all_eq_true.mp h n m)
def msgB (K : PySem.W.Frag) (C : Addr) : Bool := PySem.W.excIn K C bmVE "ValueError.__new__" && (PySem.W.keepIn K (.ref C) && (xiB K C && decide (PySem.W.findIn K (.ref C) "__str__" = some (some (.builtin "BaseException.__str__")))))
theorem msgB_ok {K : PySem.W.Frag} {mg : Str → Option Value} {x : Str} {C : Addr} (h : msgB K C = true) (g : mg x = some (.ref C)) : ErrM K mg x C "ValueError.__new__" bmVE := by
  obtain ⟨h1, h⟩ := Bool.and_eq_true_iff.mp h
  obtain ⟨h2, h⟩ := Bool.and_eq_true_iff.mp h
  obtain ⟨h3, h4⟩ := Bool.and_eq_true_iff.mp h
  exact ⟨h1, g, h2, xiB_ok h3, of_decide_eq_true h4⟩
def valB (K : PySem.W.Frag) (C : Addr) (f : Str) : Bool := decide (PySem.W.findIn K (.ref C) "__setattr__" = some (some (.builtin "object.__setattr__"))) && (decide (PySem.W.subIn K (.ref C) (.type "BaseException") = some true) && (decide (PySem.W.typeIn K (.ref C) = some (.type "type")) &&
  (PySem.W.keepIn K (.ref C) && (xiB K C && (xfB K C && decide (PySem.W.findIn K (.ref C) f = some none))))))
structure ValX (K : PySem.W.Frag) (C : Addr) (f : Str) : Prop where
  sa : PySem.W.findIn K (.ref C) "__setattr__" = some (some (.builtin "object.__setattr__"))
  ex : PySem.W.subIn K (.ref C) (.type "BaseException") = some true
  ty : PySem.W.typeIn K (.ref C) = some (.type "type")
  k : PySem.W.keepIn K (.ref C) = true
  xi : XI K C
  xf : XfC K C
  no : PySem.W.findIn K (.ref C) f = some none
theorem valB_ok {K : PySem.W.Frag} {C : Addr} {f : Str} (h : valB K C f = true) : ValX K C f := by
  obtain ⟨h1, h⟩ := Bool.and_eq_true_iff.mp h
  obtain ⟨h2, h⟩ := Bool.and_eq_true_iff.mp h
  obtain ⟨h3, h⟩ := Bool.and_eq_true_iff.mp h
  obtain ⟨h4, h⟩ := Bool.and_eq_true_iff.mp h
  obtain ⟨h5, h⟩ := Bool.and_eq_true_iff.mp h
  obtain ⟨h6, h7⟩ := Bool.and_eq_true_iff.mp h
  exact ⟨of_decide_eq_true h1, of_decide_eq_true h2, of_decide_eq_true h3, h4, xiB_ok h5, xfB_ok h6, of_decide_eq_true h7⟩
def kinB (K : PySem.W.Frag) (C : Nat → Addr) : Bool := (List.range 20).all fun i => (List.range 20).all fun j => decide (PySem.W.kitOne K (.ref (C i)) (.ref (C j)) = some (decide (j = i)))
theorem kinB_ok {K : PySem.W.Frag} {C : Nat → Addr} (h : kinB K C = true) (i j : Nat) (hi : i < 20) (hj : j < 20) : PySem.W.kitOne K (.ref (C i)) (.ref (C j)) = some (decide (j = i)) :=
  of_decide_eq_true (List.all_eq_true.mp (List.all_eq_true.mp h i (List.mem_range.mpr hi)) j (List.mem_range.mpr hj))
def basB (K : PySem.W.Frag) (C : Nat → Addr) (t : Value) (k : Nat) : Bool := (List.range 20).all fun i => decide (PySem.W.kitOne K (.ref (C i)) t = some (baseRow i k))
theorem basB_ok {K : PySem.W.Frag} {C : Nat → Addr} {t : Value} {k : Nat} (h : basB K C t k = true) (i : Nat) (hi : i < 20) : PySem.W.kitOne K (.ref (C i)) t = some (baseRow i k) := of_decide_eq_true (List.all_eq_true.mp h i (List.mem_range.mpr hi))
theorem own_copied {P : Program} {w : World} {K : PySem.W.Frag} {mg : Str → Option Value} {base : Heap} {f : Addr} {fd : FuncData} (F : Fun K "copied" "copied" scopied f fd) (T : TxtC mg) (hm : mg "copied" = some (.ref f)) (hb : Binds K fd ["value"] []) :
    ∀ n, OwnK P w K mg base CX0 "copied" (n + 1) ["value"] (spCop K n)
  | 0 => ⟨f, fd, ok_copied_step F T 0 (fun m e => nomatch e), hm, F.kp, hb⟩
  | n + 1 => ⟨f, fd, ok_copied_step F T (n + 1) (fun m e => by cases e; exact own_copied F T hm hb n), hm, F.kp, hb⟩

def cls_ (c0 c1 c2 c3 c4 c5 c6 c7 c8 c9 c10 c11 c12 c13 c14 c15 c16 c17 c18 c19 c20 : Addr) : Nat → Addr
  | 0 => c0
  | 1 => c1
  | 2 => c2
  | 3 => c3
  | 4 => c4
  | 5 => c5
  | 6 => c6
  | 7 => c7
  | 8 => c8
  | 9 => c9
  | 10 => c10
  | 11 => c11
  | 12 => c12
  | 13 => c13
  | 14 => c14
  | 15 => c15
  | 16 => c16
  | 17 => c17
  | 18 => c18
  | 19 => c19
  | _ => c20

theorem all_mk {l : PySem.W.OpenLaw} {w : World} {K : PySem.W.Frag} {h : Heap} {mg : Str → Option Value} {fa c0 c1 c2 c3 c4 c5 c6 c7 c8 c9 c10 c11 c12 c13 c14 c15 c16 c17 c18 c19 c20 f0 f1 f2 f3 f4 f5 f6 f7 f8 f9 f10 f11 f12 f13 f14 f15 f16 : Addr} (X : K.In h) (G : h.Ns mainGlobals mg) (hfa : mg "law" = some (.ref fa))
    {od0 an0 : Option Addr} {sl0 : Array (Option Value)} {oc0 kV0 dc0 pm0 cd0 ct0 : Value}
    {od1 an1 : Option Addr} {sl1 : Array (Option Value)} {oc1 kV1 dc1 pm1 cd1 ct1 : Value}
    {od2 an2 : Option Addr} {sl2 : Array (Option Value)} {oc2 kV2 dc2 pm2 cd2 ct2 : Value}
    {od3 an3 : Option Addr} {sl3 : Array (Option Value)} {oc3 kV3 dc3 pm3 cd3 ct3 : Value}
    {od4 an4 : Option Addr} {sl4 : Array (Option Value)} {oc4 kV4 dc4 pm4 cd4 ct4 : Value}
    {od5 an5 : Option Addr} {sl5 : Array (Option Value)} {oc5 kV5 dc5 pm5 cd5 ct5 : Value}
    {od6 an6 : Option Addr} {sl6 : Array (Option Value)} {oc6 kV6 dc6 pm6 cd6 ct6 : Value}
    {od7 an7 : Option Addr} {sl7 : Array (Option Value)} {oc7 kV7 dc7 pm7 cd7 ct7 : Value}
    {od8 an8 : Option Addr} {sl8 : Array (Option Value)} {oc8 kV8 dc8 pm8 cd8 ct8 : Value}
    {od9 an9 : Option Addr} {sl9 : Array (Option Value)} {oc9 kV9 dc9 pm9 cd9 ct9 : Value}
    {od10 an10 : Option Addr} {sl10 : Array (Option Value)} {oc10 kV10 dc10 pm10 cd10 ct10 : Value}
    {od11 an11 : Option Addr} {sl11 : Array (Option Value)} {oc11 kV11 dc11 pm11 cd11 ct11 : Value}
    {od12 an12 : Option Addr} {sl12 : Array (Option Value)} {oc12 kV12 dc12 pm12 cd12 ct12 : Value}
    {od13 an13 : Option Addr} {sl13 : Array (Option Value)} {oc13 kV13 dc13 pm13 cd13 ct13 : Value}
    {od14 an14 : Option Addr} {sl14 : Array (Option Value)} {oc14 kV14 dc14 pm14 cd14 ct14 : Value}
    {od15 an15 : Option Addr} {sl15 : Array (Option Value)} {oc15 kV15 dc15 pm15 cd15 ct15 : Value}
    {od16 an16 : Option Addr} {sl16 : Array (Option Value)} {oc16 kV16 dc16 pm16 cd16 ct16 : Value}
    {nm0 q0 : Str} {N0 : Addr} {bs0 : List Value} {sn0 : List Str} {sub0 : List Value} {ab0 : Bool} {col0 : Option Bool} {dd0 : Option Addr} {m00 m10 m20 m30 m50 : Option Value}
    {nm1 q1 : Str} {N1 : Addr} {bs1 : List Value} {sn1 : List Str} {sub1 : List Value} {ab1 : Bool} {col1 : Option Bool} {dd1 : Option Addr} {m01 m11 m21 m31 m51 : Option Value}
    {nm2 q2 : Str} {N2 : Addr} {bs2 : List Value} {sn2 : List Str} {sub2 : List Value} {ab2 : Bool} {col2 : Option Bool} {dd2 : Option Addr} {m02 m12 m22 m32 m52 : Option Value}
    {nm3 q3 : Str} {N3 : Addr} {bs3 : List Value} {sn3 : List Str} {sub3 : List Value} {ab3 : Bool} {col3 : Option Bool} {dd3 : Option Addr} {m03 m13 m23 m33 m53 : Option Value}
    {nm4 q4 : Str} {N4 : Addr} {bs4 : List Value} {sn4 : List Str} {sub4 : List Value} {ab4 : Bool} {col4 : Option Bool} {dd4 : Option Addr} {m04 m14 m24 m34 m54 : Option Value}
    {nm5 q5 : Str} {N5 : Addr} {bs5 : List Value} {sn5 : List Str} {sub5 : List Value} {ab5 : Bool} {col5 : Option Bool} {dd5 : Option Addr} {m05 m15 m25 m35 m55 : Option Value}
    (aC0 : PySem.W.nsIn K mainGlobals "InvalidNet" = some (some (.ref c0)))
    (aC1 : PySem.W.nsIn K mainGlobals "InvalidWorkflow" = some (some (.ref c1)))
    (aC2 : PySem.W.nsIn K mainGlobals "InvalidMarking" = some (some (.ref c2)))
    (aC3 : PySem.W.nsIn K mainGlobals "InvalidPlaces" = some (some (.ref c3)))
    (aC4 : PySem.W.nsIn K mainGlobals "InvalidOrder" = some (some (.ref c4)))
    (aC5 : PySem.W.nsIn K mainGlobals "InvalidPlan" = some (some (.ref c5)))
    (aC6 : PySem.W.nsIn K mainGlobals "InvalidChances" = some (some (.ref c6)))
    (aC7 : PySem.W.nsIn K mainGlobals "InvalidCosts" = some (some (.ref c7)))
    (aC8 : PySem.W.nsIn K mainGlobals "InvalidLibrary" = some (some (.ref c8)))
    (aC9 : PySem.W.nsIn K mainGlobals "InvalidTerm" = some (some (.ref c9)))
    (aC10 : PySem.W.nsIn K mainGlobals "InvalidLog" = some (some (.ref c10)))
    (aC11 : PySem.W.nsIn K mainGlobals "InvalidOperation" = some (some (.ref c11)))
    (aC12 : PySem.W.nsIn K mainGlobals "ParseError" = some (some (.ref c12)))
    (aC13 : PySem.W.nsIn K mainGlobals "InvalidCommand" = some (some (.ref c13)))
    (aC14 : PySem.W.nsIn K mainGlobals "UnknownStep" = some (some (.ref c14)))
    (aC15 : PySem.W.nsIn K mainGlobals "UnknownName" = some (some (.ref c15)))
    (aC16 : PySem.W.nsIn K mainGlobals "InvalidRun" = some (some (.ref c16)))
    (aC17 : PySem.W.nsIn K mainGlobals "InvalidNumber" = some (some (.ref c17)))
    (aC18 : PySem.W.nsIn K mainGlobals "TooMany" = some (some (.ref c18)))
    (aC19 : PySem.W.nsIn K mainGlobals "NotSound" = some (some (.ref c19)))
    (aC20 : PySem.W.nsIn K mainGlobals "FlowError" = some (some (.ref c20)))
    (a0 : PySem.W.nsIn K mainGlobals "copied" = some (some (.ref f0))) (l0 : K.lookup f0 = some ⟨oc0, od0, .func (PySem.W.fnOf "copied" "copied" (defArgs scopied) (defBody scopied) (defScope scopied) .none kV0 dc0 pm0 an0 cd0 ct0), sl0⟩) (d0 : PySem.W.codeIn K cd0 "copied" = true) (k0 : PySem.W.keepIn K (.ref f0) = true)
    (a1 : PySem.W.nsIn K mainGlobals "_law_dice" = some (some (.ref f1))) (l1 : K.lookup f1 = some ⟨oc1, od1, .func (PySem.W.fnOf "_law_dice" "_law_dice" (defArgs s_law_dice) (defBody s_law_dice) (defScope s_law_dice) .none kV1 dc1 pm1 an1 cd1 ct1), sl1⟩) (d1 : PySem.W.codeIn K cd1 "_law_dice" = true) (k1 : PySem.W.keepIn K (.ref f1) = true)
    (a2 : PySem.W.nsIn K mainGlobals "_law_roll" = some (some (.ref f2))) (l2 : K.lookup f2 = some ⟨oc2, od2, .func (PySem.W.fnOf "_law_roll" "_law_roll" (defArgs s_law_roll) (defBody s_law_roll) (defScope s_law_roll) .none kV2 dc2 pm2 an2 cd2 ct2), sl2⟩) (d2 : PySem.W.codeIn K cd2 "_law_roll" = true) (k2 : PySem.W.keepIn K (.ref f2) = true)
    (a3 : PySem.W.nsIn K mainGlobals "_law_one_of" = some (some (.ref f3))) (l3 : K.lookup f3 = some ⟨oc3, od3, .func (PySem.W.fnOf "_law_one_of" "_law_one_of" (defArgs s_law_one_of) (defBody s_law_one_of) (defScope s_law_one_of) .none kV3 dc3 pm3 an3 cd3 ct3), sl3⟩) (d3 : PySem.W.codeIn K cd3 "_law_one_of" = true) (k3 : PySem.W.keepIn K (.ref f3) = true)
    (a4 : PySem.W.nsIn K mainGlobals "_law_messages" = some (some (.ref f4))) (l4 : K.lookup f4 = some ⟨oc4, od4, .func (PySem.W.fnOf "_law_messages" "_law_messages" (defArgs s_law_messages) (defBody s_law_messages) (defScope s_law_messages) .none kV4 dc4 pm4 an4 cd4 ct4), sl4⟩) (d4 : PySem.W.codeIn K cd4 "_law_messages" = true) (k4 : PySem.W.keepIn K (.ref f4) = true)
    (a5 : PySem.W.nsIn K mainGlobals "_law_values" = some (some (.ref f5))) (l5 : K.lookup f5 = some ⟨oc5, od5, .func (PySem.W.fnOf "_law_values" "_law_values" (defArgs s_law_values) (defBody s_law_values) (defScope s_law_values) .none kV5 dc5 pm5 an5 cd5 ct5), sl5⟩) (d5 : PySem.W.codeIn K cd5 "_law_values" = true) (k5 : PySem.W.keepIn K (.ref f5) = true)
    (a6 : PySem.W.nsIn K mainGlobals "_law_kinds" = some (some (.ref f6))) (l6 : K.lookup f6 = some ⟨oc6, od6, .func (PySem.W.fnOf "_law_kinds" "_law_kinds" (defArgs s_law_kinds) (defBody s_law_kinds) (defScope s_law_kinds) .none kV6 dc6 pm6 an6 cd6 ct6), sl6⟩) (d6 : PySem.W.codeIn K cd6 "_law_kinds" = true) (k6 : PySem.W.keepIn K (.ref f6) = true)
    (a7 : PySem.W.nsIn K mainGlobals "_law_bases" = some (some (.ref f7))) (l7 : K.lookup f7 = some ⟨oc7, od7, .func (PySem.W.fnOf "_law_bases" "_law_bases" (defArgs s_law_bases) (defBody s_law_bases) (defScope s_law_bases) .none kV7 dc7 pm7 an7 cd7 ct7), sl7⟩) (d7 : PySem.W.codeIn K cd7 "_law_bases" = true) (k7 : PySem.W.keepIn K (.ref f7) = true)
    (a8 : PySem.W.nsIn K mainGlobals "_law_caught" = some (some (.ref f8))) (l8 : K.lookup f8 = some ⟨oc8, od8, .func (PySem.W.fnOf "_law_caught" "_law_caught" (defArgs s_law_caught) (defBody s_law_caught) (defScope s_law_caught) .none kV8 dc8 pm8 an8 cd8 ct8), sl8⟩) (d8 : PySem.W.codeIn K cd8 "_law_caught" = true) (k8 : PySem.W.keepIn K (.ref f8) = true)
    (a9 : PySem.W.nsIn K mainGlobals "_law_right" = some (some (.ref f9))) (l9 : K.lookup f9 = some ⟨oc9, od9, .func (PySem.W.fnOf "_law_right" "_law_right" (defArgs s_law_right) (defBody s_law_right) (defScope s_law_right) .none kV9 dc9 pm9 an9 cd9 ct9), sl9⟩) (d9 : PySem.W.codeIn K cd9 "_law_right" = true) (k9 : PySem.W.keepIn K (.ref f9) = true)
    (a10 : PySem.W.nsIn K mainGlobals "law" = some (some (.ref f10))) (l10 : K.lookup f10 = some ⟨oc10, od10, .func (PySem.W.fnOf "law" "law" (defArgs slaw) (defBody slaw) (defScope slaw) .none kV10 dc10 pm10 an10 cd10 ct10), sl10⟩) (d10 : PySem.W.codeIn K cd10 "law" = true) (k10 : PySem.W.keepIn K (.ref f10) = true)
    (a11 : PySem.W.findIn K (.ref c14) "__init__" = some (some (.ref f11))) (t11 : PySem.W.typeIn K (.ref f11) = some (.type "function")) (l11 : K.lookup f11 = some ⟨oc11, od11, .func (PySem.W.fnOf "__init__" "UnknownStep.__init__" (defArgs sUnknownStep) (defBody sUnknownStep) (defScope sUnknownStep) .none kV11 dc11 pm11 an11 cd11 ct11), sl11⟩) (d11 : PySem.W.codeIn K cd11 "UnknownStep.__init__" = true) (k11 : PySem.W.keepIn K (.ref f11) = true)
    (xL0 : K.lookup c14 = some (excClassObj nm0 q0 c14 N0 bs0 tKey true sn0 sub0 ab0 col0 dd0 m00 m10 m20 m30 m50 "LookupError.__new__"))
    (v0 : valB K c14 "name" = true)
    (a12 : PySem.W.findIn K (.ref c15) "__init__" = some (some (.ref f12))) (t12 : PySem.W.typeIn K (.ref f12) = some (.type "function")) (l12 : K.lookup f12 = some ⟨oc12, od12, .func (PySem.W.fnOf "__init__" "UnknownName.__init__" (defArgs sUnknownName) (defBody sUnknownName) (defScope sUnknownName) .none kV12 dc12 pm12 an12 cd12 ct12), sl12⟩) (d12 : PySem.W.codeIn K cd12 "UnknownName.__init__" = true) (k12 : PySem.W.keepIn K (.ref f12) = true)
    (xL1 : K.lookup c15 = some (excClassObj nm1 q1 c15 N1 bs1 tKey true sn1 sub1 ab1 col1 dd1 m01 m11 m21 m31 m51 "LookupError.__new__"))
    (v1 : valB K c15 "name" = true)
    (a13 : PySem.W.findIn K (.ref c16) "__init__" = some (some (.ref f13))) (t13 : PySem.W.typeIn K (.ref f13) = some (.type "function")) (l13 : K.lookup f13 = some ⟨oc13, od13, .func (PySem.W.fnOf "__init__" "InvalidRun.__init__" (defArgs sInvalidRun) (defBody sInvalidRun) (defScope sInvalidRun) .none kV13 dc13 pm13 an13 cd13 ct13), sl13⟩) (d13 : PySem.W.codeIn K cd13 "InvalidRun.__init__" = true) (k13 : PySem.W.keepIn K (.ref f13) = true)
    (xL2 : K.lookup c16 = some (excClassObj nm2 q2 c16 N2 bs2 tLookup true sn2 sub2 ab2 col2 dd2 m02 m12 m22 m32 m52 "LookupError.__new__"))
    (v2 : valB K c16 "at" = true)
    (a14 : PySem.W.findIn K (.ref c17) "__init__" = some (some (.ref f14))) (t14 : PySem.W.typeIn K (.ref f14) = some (.type "function")) (l14 : K.lookup f14 = some ⟨oc14, od14, .func (PySem.W.fnOf "__init__" "InvalidNumber.__init__" (defArgs sInvalidNumber) (defBody sInvalidNumber) (defScope sInvalidNumber) .none kV14 dc14 pm14 an14 cd14 ct14), sl14⟩) (d14 : PySem.W.codeIn K cd14 "InvalidNumber.__init__" = true) (k14 : PySem.W.keepIn K (.ref f14) = true)
    (xL3 : K.lookup c17 = some (excClassObj nm3 q3 c17 N3 bs3 tIndex true sn3 sub3 ab3 col3 dd3 m03 m13 m23 m33 m53 "IndexError.__new__"))
    (v3 : valB K c17 "value" = true)
    (a15 : PySem.W.findIn K (.ref c18) "__init__" = some (some (.ref f15))) (t15 : PySem.W.typeIn K (.ref f15) = some (.type "function")) (l15 : K.lookup f15 = some ⟨oc15, od15, .func (PySem.W.fnOf "__init__" "TooMany.__init__" (defArgs sTooMany) (defBody sTooMany) (defScope sTooMany) .none kV15 dc15 pm15 an15 cd15 ct15), sl15⟩) (d15 : PySem.W.codeIn K cd15 "TooMany.__init__" = true) (k15 : PySem.W.keepIn K (.ref f15) = true)
    (xL4 : K.lookup c18 = some (excClassObj nm4 q4 c18 N4 bs4 tOverflow true sn4 sub4 ab4 col4 dd4 m04 m14 m24 m34 m54 "OverflowError.__new__"))
    (v4 : valB K c18 "limit" = true)
    (a16 : PySem.W.findIn K (.ref c19) "__init__" = some (some (.ref f16))) (t16 : PySem.W.typeIn K (.ref f16) = some (.type "function")) (l16 : K.lookup f16 = some ⟨oc16, od16, .func (PySem.W.fnOf "__init__" "NotSound.__init__" (defArgs sNotSound) (defBody sNotSound) (defScope sNotSound) .none kV16 dc16 pm16 an16 cd16 ct16), sl16⟩) (d16 : PySem.W.codeIn K cd16 "NotSound.__init__" = true) (k16 : PySem.W.keepIn K (.ref f16) = true)
    (xL5 : K.lookup c19 = some (excClassObj nm5 q5 c19 N5 bs5 tRuntime true sn5 sub5 ab5 col5 dd5 m05 m15 m25 m35 m55 "RuntimeError.__new__"))
    (v5 : valB K c19 "paper" = true)
    (bKeyError : PySem.W.findCls K (.type "KeyError") (.type "type") "__init__" = some (.val (.builtin "KeyError.__init__")))
    (bLookupError : PySem.W.findCls K (.type "LookupError") (.type "type") "__init__" = some (.val (.builtin "LookupError.__init__")))
    (bIndexError : PySem.W.findCls K (.type "IndexError") (.type "type") "__init__" = some (.val (.builtin "IndexError.__init__")))
    (bOverflowError : PySem.W.findCls K (.type "OverflowError") (.type "type") "__init__" = some (.val (.builtin "OverflowError.__init__")))
    (bRuntimeError : PySem.W.findCls K (.type "RuntimeError") (.type "type") "__init__" = some (.val (.builtin "RuntimeError.__init__")))
    (mm0 : msgB K c0 = true)
    (mm1 : msgB K c1 = true)
    (mm2 : msgB K c2 = true)
    (mm3 : msgB K c3 = true)
    (mm4 : msgB K c4 = true)
    (mm5 : msgB K c5 = true)
    (mm6 : msgB K c6 = true)
    (mm7 : msgB K c7 = true)
    (mm8 : msgB K c8 = true)
    (mm9 : msgB K c9 = true)
    (mm10 : msgB K c10 = true)
    (mm11 : msgB K c11 = true)
    (mm12 : msgB K c12 = true)
    (mm13 : msgB K c13 = true)
    (mm20 : msgB K c20 = true)
    (kin : kinB K (cls_ c0 c1 c2 c3 c4 c5 c6 c7 c8 c9 c10 c11 c12 c13 c14 c15 c16 c17 c18 c19 c20) = true)
    (bas0 : basB K (cls_ c0 c1 c2 c3 c4 c5 c6 c7 c8 c9 c10 c11 c12 c13 c14 c15 c16 c17 c18 c19 c20) (.type "ValueError") 0 = true)
    (bas1 : basB K (cls_ c0 c1 c2 c3 c4 c5 c6 c7 c8 c9 c10 c11 c12 c13 c14 c15 c16 c17 c18 c19 c20) (.type "KeyError") 1 = true)
    (bas2 : basB K (cls_ c0 c1 c2 c3 c4 c5 c6 c7 c8 c9 c10 c11 c12 c13 c14 c15 c16 c17 c18 c19 c20) (.type "IndexError") 2 = true)
    (bas3 : basB K (cls_ c0 c1 c2 c3 c4 c5 c6 c7 c8 c9 c10 c11 c12 c13 c14 c15 c16 c17 c18 c19 c20) (.type "LookupError") 3 = true)
    (bas4 : basB K (cls_ c0 c1 c2 c3 c4 c5 c6 c7 c8 c9 c10 c11 c12 c13 c14 c15 c16 c17 c18 c19 c20) (.type "OverflowError") 4 = true)
    (bas5 : basB K (cls_ c0 c1 c2 c3 c4 c5 c6 c7 c8 c9 c10 c11 c12 c13 c14 c15 c16 c17 c18 c19 c20) (.type "RuntimeError") 5 = true)
    (bas6 : basB K (cls_ c0 c1 c2 c3 c4 c5 c6 c7 c8 c9 c10 c11 c12 c13 c14 c15 c16 c17 c18 c19 c20) (.ref c20) 6 = true)
    (k20 : PySem.W.kitOne K (.ref c20) (.type "ValueError") = some true)
    (e14 : PySem.W.exmOne K (.ref c14) (.type "KeyError") = some true)
    (e16 : PySem.W.exmOne K (.ref c16) (.ref c16) = some true)
    (e17 : PySem.W.exmOne K (.ref c17) (.ref c17) = some true)
    (e18 : PySem.W.exmOne K (.ref c18) (.ref c18) = some true)
    (e19 : PySem.W.exmOne K (.ref c19) (.ref c19) = some true)
    (e5 : PySem.W.exmOne K (.ref c5) (.ref c20) = some true)
    (x5 : PySem.W.subIn K (.ref c5) (.type "BaseException") = some true) (t5 : PySem.W.typeIn K (.ref c5) = some (.type "type"))
    (nn : noneB K ["len", "abs", "int", "enumerate", "isinstance", "list", "tuple", "dict", "KeyError", "LookupError", "IndexError", "OverflowError", "RuntimeError", "ValueError", "str", "repr", "range", "max", "min"] = true)
    : ∃ fd : FuncData, (∀ (s : Shared) (v : Value), BindsTo s fd ⟨[v], []⟩ [("script", v)]) ∧ ∀ base : Heap, K.In base → base.Ns mainGlobals mg → FnG l.prog w K mg base CX0 16 fa fd ["script"] (spLaw K) := by
  have e := hfa.symm.trans (PySem.W.mg_of X G a10)
  cases e
  have z_len : mg "len" = none := PySem.W.mg_none_of X G (noneB_ok nn (by decide))
  have z_abs : mg "abs" = none := PySem.W.mg_none_of X G (noneB_ok nn (by decide))
  have z_int : mg "int" = none := PySem.W.mg_none_of X G (noneB_ok nn (by decide))
  have z_enumerate : mg "enumerate" = none := PySem.W.mg_none_of X G (noneB_ok nn (by decide))
  have z_isinstance : mg "isinstance" = none := PySem.W.mg_none_of X G (noneB_ok nn (by decide))
  have z_list : mg "list" = none := PySem.W.mg_none_of X G (noneB_ok nn (by decide))
  have z_tuple : mg "tuple" = none := PySem.W.mg_none_of X G (noneB_ok nn (by decide))
  have z_dict : mg "dict" = none := PySem.W.mg_none_of X G (noneB_ok nn (by decide))
  have z_KeyError : mg "KeyError" = none := PySem.W.mg_none_of X G (noneB_ok nn (by decide))
  have z_LookupError : mg "LookupError" = none := PySem.W.mg_none_of X G (noneB_ok nn (by decide))
  have z_IndexError : mg "IndexError" = none := PySem.W.mg_none_of X G (noneB_ok nn (by decide))
  have z_OverflowError : mg "OverflowError" = none := PySem.W.mg_none_of X G (noneB_ok nn (by decide))
  have z_RuntimeError : mg "RuntimeError" = none := PySem.W.mg_none_of X G (noneB_ok nn (by decide))
  have z_ValueError : mg "ValueError" = none := PySem.W.mg_none_of X G (noneB_ok nn (by decide))
  have z_str : mg "str" = none := PySem.W.mg_none_of X G (noneB_ok nn (by decide))
  have z_repr : mg "repr" = none := PySem.W.mg_none_of X G (noneB_ok nn (by decide))
  have z_range : mg "range" = none := PySem.W.mg_none_of X G (noneB_ok nn (by decide))
  have z_max : mg "max" = none := PySem.W.mg_none_of X G (noneB_ok nn (by decide))
  have z_min : mg "min" = none := PySem.W.mg_none_of X G (noneB_ok nn (by decide))
  have g0 : mg "InvalidNet" = some (.ref c0) := PySem.W.mg_of X G aC0
  have g1 : mg "InvalidWorkflow" = some (.ref c1) := PySem.W.mg_of X G aC1
  have g2 : mg "InvalidMarking" = some (.ref c2) := PySem.W.mg_of X G aC2
  have g3 : mg "InvalidPlaces" = some (.ref c3) := PySem.W.mg_of X G aC3
  have g4 : mg "InvalidOrder" = some (.ref c4) := PySem.W.mg_of X G aC4
  have g5 : mg "InvalidPlan" = some (.ref c5) := PySem.W.mg_of X G aC5
  have g6 : mg "InvalidChances" = some (.ref c6) := PySem.W.mg_of X G aC6
  have g7 : mg "InvalidCosts" = some (.ref c7) := PySem.W.mg_of X G aC7
  have g8 : mg "InvalidLibrary" = some (.ref c8) := PySem.W.mg_of X G aC8
  have g9 : mg "InvalidTerm" = some (.ref c9) := PySem.W.mg_of X G aC9
  have g10 : mg "InvalidLog" = some (.ref c10) := PySem.W.mg_of X G aC10
  have g11 : mg "InvalidOperation" = some (.ref c11) := PySem.W.mg_of X G aC11
  have g12 : mg "ParseError" = some (.ref c12) := PySem.W.mg_of X G aC12
  have g13 : mg "InvalidCommand" = some (.ref c13) := PySem.W.mg_of X G aC13
  have g14 : mg "UnknownStep" = some (.ref c14) := PySem.W.mg_of X G aC14
  have g15 : mg "UnknownName" = some (.ref c15) := PySem.W.mg_of X G aC15
  have g16 : mg "InvalidRun" = some (.ref c16) := PySem.W.mg_of X G aC16
  have g17 : mg "InvalidNumber" = some (.ref c17) := PySem.W.mg_of X G aC17
  have g18 : mg "TooMany" = some (.ref c18) := PySem.W.mg_of X G aC18
  have g19 : mg "NotSound" = some (.ref c19) := PySem.W.mg_of X G aC19
  have g20 : mg "FlowError" = some (.ref c20) := PySem.W.mg_of X G aC20
  have w0 := valB_ok v0
  have w1 := valB_ok v1
  have w2 := valB_ok v2
  have w3 := valB_ok v3
  have w4 := valB_ok v4
  have w5 := valB_ok v5
  have F0 := fun_mk (st := scopied) l0 d0 k0
  have F1 := fun_mk (st := s_law_dice) l1 d1 k1
  have F2 := fun_mk (st := s_law_roll) l2 d2 k2
  have F3 := fun_mk (st := s_law_one_of) l3 d3 k3
  have F4 := fun_mk (st := s_law_messages) l4 d4 k4
  have F5 := fun_mk (st := s_law_values) l5 d5 k5
  have F6 := fun_mk (st := s_law_kinds) l6 d6 k6
  have F7 := fun_mk (st := s_law_bases) l7 d7 k7
  have F8 := fun_mk (st := s_law_caught) l8 d8 k8
  have F9 := fun_mk (st := s_law_right) l9 d9 k9
  have F10 := fun_mk (st := slaw) l10 d10 k10
  have F11 := fun_mk (st := sUnknownStep) l11 d11 k11
  have F12 := fun_mk (st := sUnknownName) l12 d12 k12
  have F13 := fun_mk (st := sInvalidRun) l13 d13 k13
  have F14 := fun_mk (st := sInvalidNumber) l14 d14 k14
  have F15 := fun_mk (st := sTooMany) l15 d15 k15
  have F16 := fun_mk (st := sNotSound) l16 d16 k16
  have b0 := F0.binds (ps := ["value"]) fun _ _ _ _ _ _ us hl => match us, hl with | [_], _ => rfl
  have b1 := F1.binds (ps := ["script", "at"]) fun _ _ _ _ _ _ us hl => match us, hl with | [_, _], _ => rfl
  have b2 := F2.binds (ps := ["dice", "total"]) fun _ _ _ _ _ _ us hl => match us, hl with | [_, _], _ => rfl
  have b3 := F3.binds (ps := ["dice", "items"]) fun _ _ _ _ _ _ us hl => match us, hl with | [_, _], _ => rfl
  have b4 := F4.binds (ps := ["text"]) fun _ _ _ _ _ _ us hl => match us, hl with | [_], _ => rfl
  have b5 := F5.binds (ps := ["value", "amount", "paper"]) fun _ _ _ _ _ _ us hl => match us, hl with | [_, _, _], _ => rfl
  have b6 := F6.binds (ps := ["error"]) fun _ _ _ _ _ _ us hl => match us, hl with | [_], _ => rfl
  have b7 := F7.binds (ps := ["error"]) fun _ _ _ _ _ _ us hl => match us, hl with | [_], _ => rfl
  have b8 := F8.binds (ps := ["value", "amount", "paper"]) fun _ _ _ _ _ _ us hl => match us, hl with | [_, _, _], _ => rfl
  have b9 := F9.binds (ps := ["text", "value", "amount", "paper"]) fun _ _ _ _ _ _ us hl => match us, hl with | [_, _, _, _], _ => rfl
  have b10 := F10.binds (ps := ["script"]) fun _ _ _ _ _ _ us hl => match us, hl with | [_], _ => rfl
  have b11 := F11.binds (ps := ["self", "name"]) fun _ _ _ _ _ _ us hl => match us, hl with | [_, _], _ => rfl
  have b12 := F12.binds (ps := ["self", "name"]) fun _ _ _ _ _ _ us hl => match us, hl with | [_, _], _ => rfl
  have b13 := F13.binds (ps := ["self", "at"]) fun _ _ _ _ _ _ us hl => match us, hl with | [_, _], _ => rfl
  have b14 := F14.binds (ps := ["self", "value"]) fun _ _ _ _ _ _ us hl => match us, hl with | [_, _], _ => rfl
  have b15 := F15.binds (ps := ["self", "limit"]) fun _ _ _ _ _ _ us hl => match us, hl with | [_, _], _ => rfl
  have b16 := F16.binds (ps := ["self", "paper"]) fun _ _ _ _ _ _ us hl => match us, hl with | [_, _], _ => rfl
  have TE : TxtE K mg (cls_ c0 c1 c2 c3 c4 c5 c6 c7 c8 c9 c10 c11 c12 c13 c14 c15 c16 c17 c18 c19 c20) := ⟨z_isinstance, z_ValueError, z_KeyError, z_IndexError, z_LookupError, z_OverflowError, z_RuntimeError, g0, g1, g2, g3, g4, g5, g6, g7, g8, g9, g10, g11, g12, g13, g14, g15, g16, g17, g18, g19, g20, kinB_ok kin, fun i hi => ⟨basB_ok bas0 i hi, basB_ok bas1 i hi, basB_ok bas2 i hi, basB_ok bas3 i hi, basB_ok bas4 i hi, basB_ok bas5 i hi, basB_ok bas6 i hi⟩⟩
  have TM : TxtM K mg (cls_ c0 c1 c2 c3 c4 c5 c6 c7 c8 c9 c10 c11 c12 c13 c14 c15 c16 c17 c18 c19 c20) := ⟨msgB_ok mm0 g0, msgB_ok mm1 g1, msgB_ok mm2 g2, msgB_ok mm3 g3, msgB_ok mm4 g4, msgB_ok mm5 g5, msgB_ok mm6 g6, msgB_ok mm7 g7, msgB_ok mm8 g8, msgB_ok mm9 g9, msgB_ok mm10 g10, msgB_ok mm11 g11, msgB_ok mm12 g12, msgB_ok mm13 g13, msgB_ok mm20 g20⟩
  have TF : TxtF K mg (cls_ c0 c1 c2 c3 c4 c5 c6 c7 c8 c9 c10 c11 c12 c13 c14 c15 c16 c17 c18 c19 c20) := ⟨z_int, z_str, z_KeyError, e14, e16, e17, e18, e19, e5, x5, t5⟩
  refine ⟨PySem.W.fnOf "law" "law" (defArgs slaw) (defBody slaw) (defScope slaw) .none kV10 dc10 pm10 an10 cd10 ct10, fun s v => .of_eq rfl, fun base _ _ => ?_⟩
  have Oc : OwnK l.prog w K mg base CX0 "copied" 11 ["value"] (spCop K 10) := own_copied F0 ⟨z_isinstance, z_list, z_tuple, z_dict⟩ (PySem.W.mg_of X G a0) b0 10
  have y0 : XCls K c14 "LookupError.__new__" tKey := ⟨⟨nm0, q0, N0, bs0, sn0, sub0, ab0, col0, dd0, m00, m10, m20, m30, m50, xL0⟩, w0.sa, w0.ex, w0.ty, w0.k⟩
  have E0 : ErrV l.prog w K mg base "UnknownStep" c14 "name" "KeyError" "LookupError.__new__" "KeyError.__init__" tKey := ⟨xb_KeyError, y0, w0.xi, w0.xf, w0.no, g14, _, _, a11, t11, ok_UnknownStep F11 z_KeyError y0 w0.no bKeyError Oc, b11⟩
  have y1 : XCls K c15 "LookupError.__new__" tKey := ⟨⟨nm1, q1, N1, bs1, sn1, sub1, ab1, col1, dd1, m01, m11, m21, m31, m51, xL1⟩, w1.sa, w1.ex, w1.ty, w1.k⟩
  have E1 : ErrV l.prog w K mg base "UnknownName" c15 "name" "KeyError" "LookupError.__new__" "KeyError.__init__" tKey := ⟨xb_KeyError, y1, w1.xi, w1.xf, w1.no, g15, _, _, a12, t12, ok_UnknownName F12 z_KeyError y1 w1.no bKeyError Oc, b12⟩
  have y2 : XCls K c16 "LookupError.__new__" tLookup := ⟨⟨nm2, q2, N2, bs2, sn2, sub2, ab2, col2, dd2, m02, m12, m22, m32, m52, xL2⟩, w2.sa, w2.ex, w2.ty, w2.k⟩
  have E2 : ErrV l.prog w K mg base "InvalidRun" c16 "at" "LookupError" "LookupError.__new__" "LookupError.__init__" tLookup := ⟨xb_LookupError, y2, w2.xi, w2.xf, w2.no, g16, _, _, a13, t13, ok_InvalidRun F13 z_LookupError y2 w2.no bLookupError Oc, b13⟩
  have y3 : XCls K c17 "IndexError.__new__" tIndex := ⟨⟨nm3, q3, N3, bs3, sn3, sub3, ab3, col3, dd3, m03, m13, m23, m33, m53, xL3⟩, w3.sa, w3.ex, w3.ty, w3.k⟩
  have E3 : ErrV l.prog w K mg base "InvalidNumber" c17 "value" "IndexError" "IndexError.__new__" "IndexError.__init__" tIndex := ⟨xb_IndexError, y3, w3.xi, w3.xf, w3.no, g17, _, _, a14, t14, ok_InvalidNumber F14 z_IndexError y3 w3.no bIndexError Oc, b14⟩
  have y4 : XCls K c18 "OverflowError.__new__" tOverflow := ⟨⟨nm4, q4, N4, bs4, sn4, sub4, ab4, col4, dd4, m04, m14, m24, m34, m54, xL4⟩, w4.sa, w4.ex, w4.ty, w4.k⟩
  have E4 : ErrV l.prog w K mg base "TooMany" c18 "limit" "OverflowError" "OverflowError.__new__" "OverflowError.__init__" tOverflow := ⟨xb_OverflowError, y4, w4.xi, w4.xf, w4.no, g18, _, _, a15, t15, ok_TooMany F15 z_OverflowError y4 w4.no bOverflowError Oc, b15⟩
  have y5 : XCls K c19 "RuntimeError.__new__" tRuntime := ⟨⟨nm5, q5, N5, bs5, sn5, sub5, ab5, col5, dd5, m05, m15, m25, m35, m55, xL5⟩, w5.sa, w5.ex, w5.ty, w5.k⟩
  have E5 : ErrV l.prog w K mg base "NotSound" c19 "paper" "RuntimeError" "RuntimeError.__new__" "RuntimeError.__init__" tRuntime := ⟨xb_RuntimeError, y5, w5.xi, w5.xf, w5.no, g19, _, _, a16, t16, ok_NotSound F16 z_RuntimeError y5 w5.no bRuntimeError Oc, b16⟩
  have TV : TxtV l.prog w K mg base (cls_ c0 c1 c2 c3 c4 c5 c6 c7 c8 c9 c10 c11 c12 c13 c14 c15 c16 c17 c18 c19 c20) := ⟨E0, E1, E2, E3, E4, E5⟩
  have Or_ : Own l.prog w K mg base CX0 "_law_roll" 1 ["dice", "total"] spRoll := ⟨_, _, ok_roll F2, PySem.W.mg_of X G a2, k2, b2⟩
  have TT : Txt mg := ⟨z_len, z_abs, z_int, z_enumerate⟩
  have Od : Own l.prog w K mg base CX0 "_law_dice" 1 ["script", "at"] (spDice K) := ⟨_, _, ok_dice F1 TT, PySem.W.mg_of X G a1, k1, b1⟩
  have Oo : Own l.prog w K mg base CX0 "_law_one_of" 2 ["dice", "items"] spOne := ⟨_, _, ok_one_of F3 TT Or_, PySem.W.mg_of X G a3, k3, b3⟩
  have Om : Own l.prog w K mg base CX0 "_law_messages" 1 ["text"] (spMsgs (cls_ c0 c1 c2 c3 c4 c5 c6 c7 c8 c9 c10 c11 c12 c13 c14 c15 c16 c17 c18 c19 c20)) := ⟨_, _, ok_messages F4 TM, PySem.W.mg_of X G a4, k4, b4⟩
  have Ov : Own l.prog w K mg base CX0 "_law_values" 14 ["value", "amount", "paper"] (spVals K (cls_ c0 c1 c2 c3 c4 c5 c6 c7 c8 c9 c10 c11 c12 c13 c14 c15 c16 c17 c18 c19 c20)) := ⟨_, _, ok_values F5 TV, PySem.W.mg_of X G a5, k5, b5⟩
  have Ok : Own l.prog w K mg base CX0 "_law_kinds" 1 ["error"] (spKinds K (cls_ c0 c1 c2 c3 c4 c5 c6 c7 c8 c9 c10 c11 c12 c13 c14 c15 c16 c17 c18 c19 c20)) := ⟨_, _, ok_kinds F6 TE, PySem.W.mg_of X G a6, k6, b6⟩
  have Ob : Own l.prog w K mg base CX0 "_law_bases" 1 ["error"] (spBases K (cls_ c0 c1 c2 c3 c4 c5 c6 c7 c8 c9 c10 c11 c12 c13 c14 c15 c16 c17 c18 c19 c20)) := ⟨_, _, ok_bases F7 TE, PySem.W.mg_of X G a7, k7, b7⟩
  have Oa : Own l.prog w K mg base CX0 "_law_caught" 14 ["value", "amount", "paper"] (spCaught K) := ⟨_, _, ok_caught F8 TF TV TM, PySem.W.mg_of X G a8, k8, b8⟩
  have Og : Own l.prog w K mg base CX0 "_law_right" 15 ["text", "value", "amount", "paper"] (spRight K) := ⟨_, _, ok_right F9 ⟨z_range, z_len, z_enumerate, z_repr, z_str⟩ TV TM Om Ov Ok Ob Oa, PySem.W.mg_of X G a9, k9, b9⟩
  exact ok_law F10 ⟨z_range, z_len, z_max, z_min, z_isinstance, z_ValueError⟩ TM k20 Od Or_ Oo Og
end K00

set_option Elab.async false
set_option linter.all false
open PySem PySem.W PyProof.Rows in
set_option maxRecDepth 100000 in
set_option maxHeartbeats 0 in
theorem PySem.Challenge.cw_caseflow_k00_errors_holds : PySem.Challenge.rw_caseflow_k00_errors.Holds := by
  w_on; o_law; k_head; (case hw => w_witness2)
  k_fill
  refine L2.walk_ofG (l := PySem.Challenge.rw_caseflow_k00_errors) (n := 63) (k := 16) (x := "script") (CX := fun _ => L2.CX0) (sp := fun w => K00.spLaw _) rfl (by decide) rfl ⟨rfl, by decide, by decide⟩ (fun w h Y => PySem.W.kIn_of Y) ?F (fun _ _ a ns hl _ hS => ⟨a, ns, rfl, hS, hl, fun _ => rfl⟩) fun _ _ _ _ _ z => z
  case F =>
    intro w mg fa h KX G hmg
    refine' K00.all_mk KX G hmg ?aC0 ?aC1 ?aC2 ?aC3 ?aC4 ?aC5 ?aC6 ?aC7 ?aC8 ?aC9 ?aC10 ?aC11 ?aC12 ?aC13 ?aC14 ?aC15 ?aC16 ?aC17 ?aC18 ?aC19 ?aC20 ?a0 ?l0 ?d0 ?k0 ?a1 ?l1 ?d1 ?k1 ?a2 ?l2 ?d2 ?k2 ?a3 ?l3 ?d3 ?k3 ?a4 ?l4 ?d4 ?k4 ?a5 ?l5 ?d5 ?k5 ?a6 ?l6 ?d6 ?k6 ?a7 ?l7 ?d7 ?k7 ?a8 ?l8 ?d8 ?k8 ?a9 ?l9 ?d9 ?k9 ?a10 ?l10 ?d10 ?k10 ?a11 ?t11 ?l11 ?d11 ?k11 ?xL0 ?v0 ?a12 ?t12 ?l12 ?d12 ?k12 ?xL1 ?v1 ?a13 ?t13 ?l13 ?d13 ?k13 ?xL2 ?v2 ?a14 ?t14 ?l14 ?d14 ?k14 ?xL3 ?v3 ?a15 ?t15 ?l15 ?d15 ?k15 ?xL4 ?v4 ?a16 ?t16 ?l16 ?d16 ?k16 ?xL5 ?v5 ?bKeyError ?bLookupError ?bIndexError ?bOverflowError ?bRuntimeError ?mm0 ?mm1 ?mm2 ?mm3 ?mm4 ?mm5 ?mm6 ?mm7 ?mm8 ?mm9 ?mm10 ?mm11 ?mm12 ?mm13 ?mm20 ?kin ?bas0 ?bas1 ?bas2 ?bas3 ?bas4 ?bas5 ?bas6 ?k20 ?e14 ?e16 ?e17 ?e18 ?e19 ?e5 ?x5 ?t5 ?nn
    (case aC0 => k_is)
    (case aC1 => k_is)
    (case aC2 => k_is)
    (case aC3 => k_is)
    (case aC4 => k_is)
    (case aC5 => k_is)
    (case aC6 => k_is)
    (case aC7 => k_is)
    (case aC8 => k_is)
    (case aC9 => k_is)
    (case aC10 => k_is)
    (case aC11 => k_is)
    (case aC12 => k_is)
    (case aC13 => k_is)
    (case aC14 => k_is)
    (case aC15 => k_is)
    (case aC16 => k_is)
    (case aC17 => k_is)
    (case aC18 => k_is)
    (case aC19 => k_is)
    (case aC20 => k_is)
    (case a0 => k_is)
    (case l0 => k_is)
    (case d0 => k_is)
    (case k0 => k_is)
    (case a1 => k_is)
    (case l1 => k_is)
    (case d1 => k_is)
    (case k1 => k_is)
    (case a2 => k_is)
    (case l2 => k_is)
    (case d2 => k_is)
    (case k2 => k_is)
    (case a3 => k_is)
    (case l3 => k_is)
    (case d3 => k_is)
    (case k3 => k_is)
    (case a4 => k_is)
    (case l4 => k_is)
    (case d4 => k_is)
    (case k4 => k_is)
    (case a5 => k_is)
    (case l5 => k_is)
    (case d5 => k_is)
    (case k5 => k_is)
    (case a6 => k_is)
    (case l6 => k_is)
    (case d6 => k_is)
    (case k6 => k_is)
    (case a7 => k_is)
    (case l7 => k_is)
    (case d7 => k_is)
    (case k7 => k_is)
    (case a8 => k_is)
    (case l8 => k_is)
    (case d8 => k_is)
    (case k8 => k_is)
    (case a9 => k_is)
    (case l9 => k_is)
    (case d9 => k_is)
    (case k9 => k_is)
    (case a10 => k_is)
    (case l10 => k_is)
    (case d10 => k_is)
    (case k10 => k_is)
    (case a11 => k_is)
    (case t11 => k_is)
    (case l11 => k_is)
    (case d11 => k_is)
    (case k11 => k_is)
    (case xL0 => k_is)
    (case v0 => kernel_rfl)
    (case a12 => k_is)
    (case t12 => k_is)
    (case l12 => k_is)
    (case d12 => k_is)
    (case k12 => k_is)
    (case xL1 => k_is)
    (case v1 => kernel_rfl)
    (case a13 => k_is)
    (case t13 => k_is)
    (case l13 => k_is)
    (case d13 => k_is)
    (case k13 => k_is)
    (case xL2 => k_is)
    (case v2 => kernel_rfl)
    (case a14 => k_is)
    (case t14 => k_is)
    (case l14 => k_is)
    (case d14 => k_is)
    (case k14 => k_is)
    (case xL3 => k_is)
    (case v3 => kernel_rfl)
    (case a15 => k_is)
    (case t15 => k_is)
    (case l15 => k_is)
    (case d15 => k_is)
    (case k15 => k_is)
    (case xL4 => k_is)
    (case v4 => kernel_rfl)
    (case a16 => k_is)
    (case t16 => k_is)
    (case l16 => k_is)
    (case d16 => k_is)
    (case k16 => k_is)
    (case xL5 => k_is)
    (case v5 => kernel_rfl)
    (case bKeyError => k_is)
    (case bLookupError => k_is)
    (case bIndexError => k_is)
    (case bOverflowError => k_is)
    (case bRuntimeError => k_is)
    (case mm0 => kernel_rfl)
    (case mm1 => kernel_rfl)
    (case mm2 => kernel_rfl)
    (case mm3 => kernel_rfl)
    (case mm4 => kernel_rfl)
    (case mm5 => kernel_rfl)
    (case mm6 => kernel_rfl)
    (case mm7 => kernel_rfl)
    (case mm8 => kernel_rfl)
    (case mm9 => kernel_rfl)
    (case mm10 => kernel_rfl)
    (case mm11 => kernel_rfl)
    (case mm12 => kernel_rfl)
    (case mm13 => kernel_rfl)
    (case mm20 => kernel_rfl)
    (case kin => kernel_rfl)
    (case bas0 => kernel_rfl)
    (case bas1 => kernel_rfl)
    (case bas2 => kernel_rfl)
    (case bas3 => kernel_rfl)
    (case bas4 => kernel_rfl)
    (case bas5 => kernel_rfl)
    (case bas6 => kernel_rfl)
    (case k20 => kernel_rfl)
    (case e14 => kernel_rfl)
    (case e16 => kernel_rfl)
    (case e17 => kernel_rfl)
    (case e18 => kernel_rfl)
    (case e19 => kernel_rfl)
    (case e5 => kernel_rfl)
    (case x5 => k_is)
    (case t5 => k_is)
    (case nn => kernel_rfl)

