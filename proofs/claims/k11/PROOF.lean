import PyProof.Rows.All
import Wide.All
import OpenK.AllK
import Wide.FinOn
import HandS.ForMost
import HandS.Exc
import HandS.TryOnly
import HandS.ExcOwn
import HandS.WordsExc
import HandS.Wide
import HandS.TupAny
import HandS.IsInst
import PyProof.EqAt
import PyProof.EqKinds
import PyProof.TupleCall
import HandS.Base
import HandS.Call
import HandS.List
import HandS.Ends
import HandS.Words
import HandS.WordsList
import HandS.ExcInit
import HandS.ExcValue
import HandS.ExcIs
import HandS.ExcField
import HandS.TryMany
import HandS.RaiseMore
import HandS.NoneIn
import KE.KExcInit
import KE.KExcIs
import KE.KExcStr
import PyProof.Rows.FactsExc_KeyError
import HandS.ExcCtx
import HandS.Walk
import HandS.Zip
import HandS.Text
import PyProof.FactsAll.dict_1
import PyProof.FactsAll.subtypes_3
import PyProof.FactsAll.subtypes_4
import HandS.EndTab
import HandS.HeadWalk
import HandS.SetFor
import HandS.Strs
import HandS.Star
import KE.SortData
import HandS.Sort
import HandS.Style
import HandS.More
import HandS.Conv
import HandS.SortRule
import HandS.DictComp
import KE.GoesMore
import KE.KUnpack
import PyProof.Rows.StrRev
import PyProof.Rows.StrCase
import KE.DatumOrd
import HandS.Replace
import PySem.Challenge.RW_caseflow_k11_siphons_and_traps_judged
import KE.KNest
import HandS.Defaults
set_option Elab.async false
set_option linter.all false
set_option maxRecDepth 100000
set_option maxHeartbeats 2000000
/-! Calls where no repr is under way: the promise of a def FnG (as FnOk, with the guards known), its call, the end of a law. -/
namespace L2
open PySem PySem.Spec PyProof.Rows

structure RoomG (k : Nat) (A : Around) : Prop where
  r : Room k A
  g : A.guards = some []
theorem RoomG.mono {j k : Nat} {A : Around} (r : RoomG k A) (h : j ≤ k) : RoomG j A := ⟨r.r.mono h, r.g⟩
theorem RoomG.deeper {k : Nat} {A : Around} (r : RoomG (k + 1) A) (env : Env) : RoomG k (A.deeper env) := ⟨r.r.deeper env, r.g⟩

structure FnG (P : Program) (w : World) (K : PySem.W.Frag) (mg : Str → Option Value) (base : Heap) (CX : CXT) (k : Nat) (f : Addr) (fd : FuncData) (ps : List Str) (sp : Sp) : Prop where
  len : ∀ vs H Q E, sp vs H Q E → vs.length = ps.length
  run : ∀ (A : Around) (outer : List Env) (s : Shared) (H : Hp) (args : Args) (us : List Value) (vs : List V) (Q : VK) (E : XK), RoomG k A → Env0 P w K mg base A outer s H → BindsTo s fd args (ps.zip us) → Vals vs us → sp vs H Q E →
    codeAny (model P w) A (.call (.ref f) args) (CR CX outer P w H s Q E) s
theorem FnG.of {P : Program} {w : World} {K : PySem.W.Frag} {mg : Str → Option Value} {base : Heap} {CX : CXT} {k : Nat} {f : Addr} {fd : FuncData} {ps : List Str} {sp : Sp} (F : FnOk P w K mg base CX k f fd ps sp) : FnG P w K mg base CX k f fd ps sp :=
  ⟨F.len, fun A outer s H args us vs Q E hr => F.run A outer s H args us vs Q E hr.r⟩
theorem FnG.mono {P : Program} {w : World} {K : PySem.W.Frag} {mg : Str → Option Value} {base : Heap} {CX : CXT} {j k : Nat} {f : Addr} {fd : FuncData} {ps : List Str} {sp : Sp} (F : FnG P w K mg base CX j f fd ps sp) (h : j ≤ k) :
    FnG P w K mg base CX k f fd ps sp := ⟨F.len, fun A outer s H args us vs Q E hr => F.run A outer s H args us vs Q E (hr.mono h)⟩

section
variable {X : Cx} {CX : CXT} {k : Nat} {f C : Addr} {fd : FuncData} {ps : List Str} {sp : Sp} {dvs : List V} {ds : List Value} {E : XK} {x m : Str} {p pos apos : Pos} {e o : Expr} {es : List Expr} {ta : TE} {t : TA}
theorem run_fnG {pins : List (Addr × Obj)} {σ : St} {H : Hp} {s : Shared} {Q : VK} {us : List Value} {vs : List V} (F : FnG X.prog X.w X.K X.mg X.base CX k f fd ps sp) (hr : RoomG k X.A) (hb : Binds X.K fd ps ds) (hd : Vals dvs ds) (hx : Passes CX X E)
    (I : Inv X pins σ H s) (r : Vals vs us) (h : sp (vs ++ dvs) H Q E) : wpAny (model X.prog X.w) X.A (call (.ref f) us) (EP X pins σ Q) X.xe s := by
  have r2 : Vals (vs ++ dvs) (us ++ ds) := r.append hd
  have hl : (us ++ ds).length = ps.length := by rw [← r2.length]; exact F.len _ _ _ _ h
  refine wpAny_call (codeAny_mono (F.run X.A X.stack s H ⟨us, []⟩ (us ++ ds) (vs ++ dvs) Q E hr I.env0 (hb s us I.kIn hl) r2 h) fun r s' hq => ?_)
  cases r with
  | error e => exact hx pins σ H s e s' I hq
  | ok fl =>
    cases fl with
    | ret u => exact I.after hq
    | next => exact False.elim hq
    | brk => exact False.elim hq
    | cont => exact False.elim hq
theorem pe_callG (F : FnG X.prog X.w X.K X.mg X.base CX k f fd ps sp) (hr : RoomG k X.A) (hg : Gl X x) (hm : X.mg x = some (.ref f)) (hk : PySem.W.keepIn X.K (.ref f) = true) (hb : Binds X.K fd ps ds) (hd : Vals dvs ds) (hx : Passes CX X E)
    (ha : PA X (e :: es) t) (hdb : (x == ("__debug__" : Str)) = false := by decide) (he : starEach (e :: es) X.env = (false, eval e X.env) :: starEach es X.env := by rfl) (hpl : (backTo pos (starEach es X.env)).any (·.1) = false := by rfl) :
    PE X (.Call (.Name x p) (e :: es) [] pos) (tCall sp dvs E t) := by
  refine ⟨fun pins s σ H Q I h => ?_⟩
  refine wpAny_Call_Name_kw (ld_glob I hg hm ?_ hdb)
  refine PySem.W.callWith_K (h₀ := X.base) I.ok.mod.kin hk (thn (ha.run pos pins s σ H _ I h) fun us s1 ⟨vs, H1, I1, r, q⟩ => ⟨I1.kIn, ?_⟩) he hpl
  exact run_fnG F hr hb hd hx I1 r q
theorem pe_call0G (F : FnG X.prog X.w X.K X.mg X.base CX k f fd ps sp) (hr : RoomG k X.A) (hg : Gl X x) (hm : X.mg x = some (.ref f)) (hk : PySem.W.keepIn X.K (.ref f) = true) (hb : Binds X.K fd ps ds) (hd : Vals dvs ds) (hx : Passes CX X E)
    (hdb : (x == ("__debug__" : Str)) = false := by decide) : PE X (.Call (.Name x p) [] [] pos) (tCall sp dvs E tNil) := by
  refine ⟨fun pins s σ H Q I h => ?_⟩
  refine wpAny_Call_Name_kw (ld_glob I hg hm ?_ hdb)
  exact PySem.W.callWith_K0 I.kIn hk (run_fnG (us := []) F hr hb hd hx I .nil h)
end

theorem fn_ofG {CX : CXT} {P : Program} {w : World} {K : PySem.W.Frag} {mg : Str → Option Value} {base : Heap} {k : Nat} {f : Addr} {name qual : Str} {params : Arguments} {body : List Stmt} {scope : Scope} {dV kV doc pm cdv ct oc : Value} {an od : Option Addr}
    {osl : Array (Option Value)} {N ps : List Str} {sp : Sp} (lk : K.lookup f = some ⟨oc, od, .func (PySem.W.fnOf name qual params body scope dV kV doc pm an cdv ct), osl⟩) (hcd : PySem.W.codeIn K cdv qual = true) (S : FnScope N ps scope)
    (len : ∀ vs H Q E, sp vs H Q E → vs.length = ps.length)
    (hbody : ∀ (A : Around) (outer : List Env) (s : Shared) (H : Hp) (vs : List V) (Q : VK) (E : XK), RoomG k (A.deeper (envOfC qual scope s.heap.objs.size f cdv)) → sp vs H Q E →
      ∃ t, PSs (cxOf CX P w K mg base N qual scope f cdv A outer s H E) body t ∧ t { nx := fun _ H' => Q .non H', rt := Q } (start N vs) H) :
    FnG P w K mg base CX (k + 1) f (PySem.W.fnOf name qual params body scope dV kV doc pm an cdv ct) ps sp := by
  refine ⟨len, fun A outer s H args us vs Q E hr e0 hb r hsp => ?_⟩
  have hl := len _ _ _ _ hsp
  have KX : K.In s.heap := e0.mod.kin.keeps fun b o e => (e0.bs b o e).1
  have lim : s.heap.NoLimit := e0.mod.nolimit.keeps fun b o e => (e0.bs b o e).1
  have hkind : ∀ y ∈ ps.zip us, scope.names.lookup y.1 = some .local ∨ (scope.names.lookup y.1 = some .cell ∧ ((cellsFrom (s.heap.objs.size + 1) scope.names []).lookup y.1).isSome = true) := fun ⟨n, v⟩ hy => by
    rcases S.par n (List.of_mem_zip hy).1 with q | q
    · exact .inl q
    · exact .inr ⟨q, PySem.W.cellsFrom_some _ _ _ (.inl q)⟩
  refine codeAny_call_function hr.r.depth (KX _ _ lk) rfl S.co S.gen rfl (PySem.W.codeRec_of KX hcd) (hb _ _ _ _ ?_)
  refine wpAny_newFunctionEnv_cells S.kind hkind fun env he s1 x => ?_
  subst he
  refine ⟨lim.keeps x.toInCall.keep, codeAny_func ?_⟩
  obtain ⟨t, ht, hq⟩ := hbody A outer s H vs Q E (hr.deeper _) hsp
  have I : Inv (cxOf CX P w K mg base N qual scope f cdv A outer s H E) [] (start N vs) H s1 := inv_start S hr.r.hd e0 hl r x
  refine wpAny_mono (ht.run [] s1 (start N vs) H _ I hq) (fun fl s' hs => ?_) fun e s' hs => hs
  have fin : ∀ {σ' : St} {H' : Hp} {v : V} {u : Value}, Inv (cxOf CX P w K mg base N qual scope f cdv A outer s H E) [] σ' H' s' → RelV v u → Q v H' → CE outer P w H s Q u s' :=
    fun {σ' H' v u} J rv q => ⟨v, H', J.os, J.bare, J.base, J.hok, rv, q⟩
  cases fl with
  | ret u =>
    obtain ⟨v, σ', H', J, rv, q⟩ := hs
    exact fin J rv q
  | next =>
    obtain ⟨σ', H', J, q⟩ := hs
    exact fin (v := V.non) (u := Value.none) J rfl q
  | brk =>
    obtain ⟨_, _, _, q⟩ := hs
    exact False.elim q
  | cont =>
    obtain ⟨_, _, _, q⟩ := hs
    exact False.elim q

section
variable {P : Program} {w : World} {K : PySem.W.Frag} {mg : Str → Option Value} {base : Heap}
theorem okG {x qual : Str} {st : Stmt} {f : Addr} {fd : FuncData} {N ps : List Str} {k : Nat} {sp : Sp} (F : Fun K x qual st f fd) (S : FnScope N ps (defScope st)) (len : ∀ vs H Q E, sp vs H Q E → vs.length = ps.length)
    (hbody : ∀ (cdv : Value) (A : Around) (outer : List Env) (s : Shared) (H : Hp) (vs : List V) (Q : VK) (E : XK), RoomG k (A.deeper (envOfC qual (defScope st) s.heap.objs.size f cdv)) → sp vs H Q E →
      ∃ t, PSs (cxOf CX0 P w K mg base N qual (defScope st) f cdv A outer s H E).nox (defBody st) t ∧ t { nx := fun _ H' => Q .non H', rt := Q } (start N vs) H) : FnG P w K mg base CX0 (k + 1) f fd ps sp := by
  obtain ⟨oc, od, kV, doc, pm, an, cdv, ct, osl, rfl, lk, hcd⟩ := F.ex
  refine fn_ofG lk hcd S len fun A outer s H vs Q E hr hsp => ?_
  obtain ⟨t, h, q⟩ := hbody cdv A outer s H vs Q E hr hsp
  exact ⟨t, h.nox, q⟩
theorem okGX {x qual : Str} {st : Stmt} {f : Addr} {fd : FuncData} {N ps : List Str} {k : Nat} {sp : Sp} (F : Fun K x qual st f fd) (S : FnScope N ps (defScope st)) (len : ∀ vs H Q E, sp vs H Q E → vs.length = ps.length)
    (hbody : ∀ (cdv : Value) (A : Around) (outer : List Env) (s : Shared) (H : Hp) (vs : List V) (Q : VK) (E : XK), RoomG k (A.deeper (envOfC qual (defScope st) s.heap.objs.size f cdv)) → sp vs H Q E →
      ∃ t, PSs (cxOf (L2.CX P w) P w K mg base N qual (defScope st) f cdv A outer s H E) (defBody st) t ∧ t { nx := fun _ H' => Q .non H', rt := Q } (start N vs) H) : FnG P w K mg base (L2.CX P w) (k + 1) f fd ps sp := by
  obtain ⟨oc, od, kV, doc, pm, an, cdv, ct, osl, rfl, lk, hcd⟩ := F.ex
  exact fn_ofG lk hcd S len fun A outer s H vs Q E hr hsp => hbody cdv A outer s H vs Q E hr hsp
end

theorem law_callG {P : Program} {w : World} {K : PySem.W.Frag} {mg mb : Str → Option Value} {CX : CXT} {k : Nat} {fa a : Addr} {fd : FuncData} {x : Str} {sp : Sp} {s₁ : Shared} {vs : List Value} {ns : List Int}
    (KX : K.In s₁.heap) (hns : s₁.heap.Ns mainGlobals mg) (hb : s₁.heap.Ns builtinsNs mb) (hbb : ∀ x : Str, x ≠ "__name__" → mb x = bootBuiltins x) (hlim : s₁.heap.NoLimit) (hg : s₁.gens = #[])
    (ha : s₁.heap.get? a = some { cls := .type "list", data := .seq vs.toArray }) (hi : IntsAre vs ns) (hl : ns.length ≤ sizeLine) (hr : Room k callerA)
    (F : ∀ base : Heap, K.In base → base.Ns mainGlobals mg → FnG P w K mg base CX k fa fd [x] sp) (hbind : ∀ (s : Shared) (u : Value), BindsTo s fd ⟨[u], []⟩ [(x, u)])
    (hsp : ∀ H : Hp, Only H → SqL K H a (ns.map V.int) → sp [.ref a] H (fun v _ => v = .bl true) fun _ _ _ => False)
    (hCX : ∀ H e s', CX [] H s₁ (fun _ _ _ => False) e s' → False) :
    codeAny (model P w) callerA (.call (.ref fa) ⟨[.ref a], []⟩) (fun r s' => r = .ok (.ret (.bool true)) ∧ OldK s₁.heap s'.heap ∧ s'.os = s₁.os ∧ AllBare s'.gens) s₁ := by
  have rv := vals_ints hi
  have lenV := hi.length
  have core : ∀ H : Hp, Only H → SqL K H a (ns.map V.int) → HOk P w H s₁.heap → (∀ b, H b ≠ none → b = a) → (H a ≠ none → K.lookup a = none) →
      codeAny (model P w) callerA (.call (.ref fa) ⟨[.ref a], []⟩) (fun r s' => r = .ok (.ret (.bool true)) ∧ OldK s₁.heap s'.heap ∧ s'.os = s₁.os ∧ AllBare s'.gens) s₁ := by
    intro H hO hS hok hA hK
    have base_of : ∀ {b : Addr} {o : Obj}, s₁.heap.get? b = some o → H b = none → (hidT s₁.heap H).get? b = some o := fun e n => hidT_get e n
    have noA : ∀ {b : Addr} {o : Obj} {es : Array DictEntry} {ep : Nat}, s₁.heap.get? b = some o → o.data = .dict es ep → H b = none := fun {b o es ep} e d => by
      cases q : H b with
      | none => rfl
      | some u =>
        have e' : b = a := hA b (by rw [q]; simp)
        subst e'
        rw [ha] at e; cases e
        have d' : Data.seq vs.toArray _ = Data.dict es ep := d
        cases d'
    have nsK : ∀ {b : Addr} {m : Str → Option Value}, s₁.heap.Ns b m → (hidT s₁.heap H).Ns b m := fun {b m} ⟨o, es, ep, e, d, r⟩ => ⟨o, es, ep, base_of e (noA e d), d, r⟩
    have hKb : K.In (hidT s₁.heap H) := fun b o e => base_of (KX b o e) (by
      cases q : H b with
      | none => rfl
      | some u =>
        have e' : b = a := hA b (by rw [q]; simp)
        subst e'
        rw [hK (by rw [q]; simp)] at e; cases e)
    have hM : Mod K mg (hidT s₁.heap H) := ⟨hKb, nsK hns, ⟨mb, nsK hb, hbb⟩, let ⟨mc, h1, h2⟩ := hlim; ⟨mc, nsK h1, h2⟩⟩
    have e0 : Env0 P w K mg (hidT s₁.heap H) callerA [] s₁ H := ⟨rfl, hM, fun b o e => of_hidT e, Nat.le_of_eq (hidT_size _ _), trivial, fun b hb => absurd (show b ∈ ([] : List Addr) from hb) (by simp), hok, .of_eq hg⟩
    refine codeAny_mono ((F _ hKb (nsK hns)).run callerA [] s₁ H ⟨[.ref a], []⟩ [.ref a] [.ref a] _ _ ⟨hr, rfl⟩ e0 (hbind s₁ (.ref a)) (.cons rfl .nil) (hsp H hO hS)) fun r s' h => ?_
    cases r with
    | error e => exact (hCX H e s' h).elim
    | ok fl =>
      cases fl with
      | next => exact False.elim h
      | brk => exact False.elim h
      | cont => exact False.elim h
      | ret u =>
        obtain ⟨v, H', os, bare, un, hok', r', q⟩ := h
        have q' : v = .bl true := q
        subst q'
        obtain rfl : u = Value.bool true := r'
        refine ⟨rfl, OldK.of_keep fun b o e => ?_, os, bare⟩
        cases q : H b with
        | none => exact un.keep b o e q (by intro z; exact absurd (show b ∈ ([] : List Addr) from z) (by simp)) (by simp)
        | some u =>
          rcases hO b with z | ⟨ob, xs, z⟩
          · rw [q] at z; cases z
          · have z2 := un.frzs b ob _ z
            obtain ⟨e1, _⟩ := hok b _ z
            obtain ⟨e2, _⟩ := hok' b _ z2
            rw [e] at e1; cases e1
            exact e2
  cases hk : K.lookup a with
  | some o =>
    have e := KX a o hk
    rw [ha] at e
    cases e
    refine core (fun _ => none) (fun _ => .inl rfl) (.inr ⟨_, vs.toArray, _, hk, rfl, rfl, rfl, by rw [List.size_toArray, lenV]; exact hl, by simpa using rv⟩) (fun b u z => by have z' : (none : Option HO) = some u := z; cases z') (fun b z => absurd rfl z) fun z => absurd rfl z
  | none =>
    refine core (fun b => if b = a then some (.frz { cls := .type "list", data := .seq vs.toArray } (.lst (ns.map V.int))) else none) (fun b => ?_) (.inl (.inr ⟨{ cls := .type "list", data := .seq vs.toArray }, if_pos rfl⟩)) (fun b u z => ?_) (fun b z => ?_) fun _ => hk
    · by_cases hb : b = a
      · exact .inr ⟨_, _, if_pos hb⟩
      · exact .inl (if_neg hb)
    · by_cases hb : b = a
      · have z' := (if_pos hb).symm.trans z
        cases z'
        subst hb
        exact ⟨ha, by rw [List.length_map]; exact hl, vs, _, rv, ha⟩
      · have z' := (if_neg hb).symm.trans z
        cases z'
    · by_cases hb : b = a
      · exact hb
      · exact absurd (if_neg hb) z
theorem walk_ofG {l : PySem.W.OpenLaw} {n k : Nat} {q : Program} {loose : List Str} {XP : (Str → Option Value) → Heap → Prop} {YP : World → Heap → Prop} {d : DefRec} {K : Params → PySem.W.Frag} {CX : World → CXT} {sp : World → Sp} {x : Str}
    (hn : l.most = some n) (hn2 : n ≤ sizeLine) (hdf : d.params.defaults = []) (hr : Room k callerA)
    (hY : ∀ (w : World) (h : Heap), YP w h → (K w.params).In h)
    (F : ∀ (w : World) (mg : Str → Option Value) (fa : Addr) (h : Heap), (K w.params).In h → h.Ns mainGlobals mg → mg d.name = some (.ref fa) →
      ∃ fd : FuncData, (∀ (s : Shared) (u : Value), BindsTo s fd ⟨[u], []⟩ [(x, u)]) ∧
        ∀ base : Heap, (K w.params).In base → base.Ns mainGlobals mg → FnG l.prog w (K w.params) mg base (CX w) k fa fd [x] (sp w))
    (hsp : ∀ (w : World) (H : Hp) (a : Addr) (ns : List Int), ns.length ≤ n → Only H → SqL (K w.params) H a (ns.map V.int) → sp w [.ref a] H (fun v _ => v = .bl true) fun _ _ _ => False)
    (hCX : ∀ (w : World) (H : Hp) (s : Shared) (e : Value) (s' : Shared), CX w [] H s (fun _ _ _ => False) e s' → False) :
    PySem.W.WalkO q loose XP YP l.row.toRowW d [] (fun f vs => PySem.call f vs) := by
  refine Att.attach_call hn hdf fun w s₀ s₁ mg mb fa o pm cd doc a vs ns G Y ho hd hcd hmg hobj hints hlen hg => ?_
  have KX := hY w _ Y
  obtain ⟨fd, hb, hF⟩ := F w mg fa _ KX G.T.g hmg
  exact law_callG KX G.T.g G.T.b G.T.builtins G.T.nolimit hg hobj hints (Nat.le_trans hlen hn2) hr hF hb (fun H hO hS => hsp w H a ns hlen hO hS) fun H e s' => hCX w H s₁ e s'
end L2

set_option Elab.async false
set_option linter.all false
set_option maxRecDepth 100000
set_option maxHeartbeats 2000000
/-! Readings that compute: each operation told by its values. -/
namespace L2
open PySem PySem.Spec PyProof.Rows

theorem OpR.imp {X : Cx} {f : Value → Value → Sem Value} {r r' : R2} (h : OpR X f r) (k : ∀ x y H Q, r' x y H Q → r x y H Q) : OpR X f r' := fun pins s σ H x y v u Q I rx ry q => h pins s σ H x y v u Q I rx ry (k x y H Q q)
theorem PE.imp {X : Cx} {e : Expr} {t t' : TE} (h : PE X e t) (k : ∀ σ H Q, t' σ H Q → t σ H Q) : PE X e t' := ⟨fun pins s σ H Q I q => h.run pins s σ H Q I (k σ H Q q)⟩
theorem PT.imp {X : Cx} {e : Expr} {t t' : TT} (h : PT X e t) (k : ∀ σ H Q, t' σ H Q → t σ H Q) : PT X e t' := ⟨fun pins s σ H Q I q => h.run pins s σ H Q I (k σ H Q q)⟩
theorem CallR.imp {X : Cx} {f : Value} {r r' : List V → Hp → VK → Prop} (h : CallR X f r) (k : ∀ xs H Q, r' xs H Q → r xs H Q) : CallR X f r' := fun pins s σ H xs us Q I rx q => h pins s σ H xs us Q I rx (k xs H Q q)

/-! ### names -/
def aVar (i : Nat) : TE := fun σ H Q => match σ[i]? with | some (some v) => Q v H | _ => False
theorem av {X : Cx} (i : Nat) {x : Str} {pos : Pos} (hN : X.N[i]? = some x := by rfl) (hv : Vis X.env.scope x := by first | exact Or.inl rfl | exact Or.inr (Or.inl rfl) | exact Or.inr (Or.inr rfl)) (hd : (x == ("__debug__" : Str)) = false := by decide)
    (hcd : (x == ("__classdict__" : Str)) = false := by decide) : PE X (.Name x pos) (aVar i) :=
  (pe_var hN hv hd hcd).imp fun σ H Q h => by
    unfold aVar at h
    split at h
    · rename_i v e
      exact ⟨v, e, h⟩
    · exact h.elim

/-! ### two-place operations -/
def rAddA (K : PySem.W.Frag) : R2 := fun x y H Q => match x, y with
  | .int i, .int j => Q (.int (i + j)) H
  | .int i, .bl k => Q (.int (i + b2i k)) H
  | .str a, .str b => a.length + b.length ≤ sizeLine ∧ Q (.str (a ++ b)) H
  | .ref a, .ref b => rCat (.ref a) (.ref b) H Q ∨ rCatA K (.ref a) (.ref b) H Q
  | _, _ => False
theorem op_addA {X : Cx} : OpR X (binaryOp .Add) (rAddA X.K) := by
  intro pins s σ H x y v u Q I rx ry h
  cases x <;> cases y <;> first
    | exact h.elim
    | exact op_add pins s σ H _ _ v u Q I rx ry ⟨_, _, rfl, rfl, h⟩
    | exact op_add_ib pins s σ H _ _ v u Q I rx ry ⟨_, _, rfl, rfl, h⟩
    | exact op_add_str pins s σ H _ _ v u Q I rx ry ⟨_, _, rfl, rfl, h.1, h.2⟩
    | (rcases h with h | h
       · exact op_cat pins s σ H _ _ v u Q I rx ry h
       · exact op_catA pins s σ H _ _ v u Q I rx ry h)
def rSubA : R2 := fun x y H Q => match x, y with
  | .int i, .int j => Q (.int (i - j)) H
  | _, _ => False
theorem op_subA {X : Cx} : OpR X (binaryOp .Sub) rSubA := by
  intro pins s σ H x y v u Q I rx ry h
  cases x <;> cases y <;> first
    | exact h.elim
    | exact op_sub pins s σ H _ _ v u Q I rx ry ⟨_, _, rfl, rfl, h⟩
/-- *: of ints, one side below 2 ^ 64; a list, a tuple by a number -/
def rMulA : R2 := fun x y H Q => match x, y with
  | .int i, .int j => CMul i j ∧ Q (.int (i * j)) H
  | .ref a, .int k => rRep (.ref a) (.int k) H Q
  | _, _ => False
theorem op_mulA {X : Cx} : OpR X (binaryOp .Mult) rMulA := by
  intro pins s σ H x y v u Q I rx ry h
  cases x <;> cases y <;> first
    | exact h.elim
    | exact op_mul pins s σ H _ _ v u Q I rx ry ⟨_, _, rfl, rfl, h.1, h.2⟩
    | exact op_rep pins s σ H _ _ v u Q I rx ry h
/-- %, // by a positive divisor (below 2 ^ 9000) -/
def rModA : R2 := fun x y H Q => match x, y with
  | .int i, .int j => 0 < j ∧ Q (.int (i % j)) H
  | _, _ => False
theorem op_modA {X : Cx} : OpR X (binaryOp .Mod) rModA := by
  intro pins s σ H x y v u Q I rx ry h
  cases x <;> cases y <;> first
    | exact h.elim
    | exact op_mod pins s σ H _ _ v u Q I rx ry ⟨_, _, rfl, rfl, h.1, h.2⟩
def rFdvA : R2 := fun x y H Q => match x, y with
  | .int i, .int j => CDivW i j ∧ Q (.int (i / j)) H
  | _, _ => False
theorem op_fdvA {X : Cx} : OpR X (binaryOp .FloorDiv) rFdvA := by
  intro pins s σ H x y v u Q I rx ry h
  cases x <;> cases y <;> first
    | exact h.elim
    | exact op_fdivW pins s σ H _ _ v u Q I rx ry ⟨_, _, rfl, rfl, h.1, h.2⟩
def rPowA : R2 := fun x y H Q => match x, y with
  | .int i, .int j => (0 ≤ j ∧ (Builtin.Int.intBits i : Int) * j ≤ 2 ^ 27) ∧ Q (.int (i ^ j.toNat)) H
  | _, _ => False
theorem op_powA {X : Cx} : OpR X (binaryOp .Pow) rPowA := by
  intro pins s σ H x y v u Q I rx ry h
  cases x <;> cases y <;> first
    | exact h.elim
    | (obtain ⟨⟨h1, h2⟩, q⟩ := h
       obtain ⟨t, rfl⟩ := rx
       obtain ⟨t', rfl⟩ := ry
       exact pow_int h1 h2 ⟨.int _, H, I.tok _, ⟨_, rfl⟩, q⟩)

/-! ### comparisons -/
def rCmpI (p : Int → Int → Bool) : R2 := fun x y H Q => match x, y with
  | .int i, .int j => Q (.bl (p i j)) H
  | _, _ => False
theorem op_ltA {X : Cx} : OpR X (compareOp .Lt) (rCmpI fun i j => decide (i < j)) := by
  intro pins s σ H x y v u Q I rx ry h
  cases x <;> cases y <;> first
    | exact h.elim
    | exact op_lt pins s σ H _ _ v u Q I rx ry ⟨_, _, rfl, rfl, h⟩
theorem op_leA {X : Cx} : OpR X (compareOp .LtE) (rCmpI fun i j => decide (i ≤ j)) := by
  intro pins s σ H x y v u Q I rx ry h
  cases x <;> cases y <;> first
    | exact h.elim
    | exact op_le pins s σ H _ _ v u Q I rx ry ⟨_, _, rfl, rfl, h⟩
theorem op_gtA {X : Cx} : OpR X (compareOp .Gt) (rCmpI fun i j => decide (j < i)) := by
  intro pins s σ H x y v u Q I rx ry h
  cases x <;> cases y <;> first
    | exact h.elim
    | exact op_gt pins s σ H _ _ v u Q I rx ry ⟨_, _, rfl, rfl, h⟩
theorem op_geA {X : Cx} : OpR X (compareOp .GtE) (rCmpI fun i j => decide (j ≤ i)) := by
  intro pins s σ H x y v u Q I rx ry h
  cases x <;> cases y <;> first
    | exact h.elim
    | exact op_ge pins s σ H _ _ v u Q I rx ry ⟨_, _, rfl, rfl, h⟩
/-- ==, !=: of ints, texts, bools; else of data -/
def rEqA (K : PySem.W.Frag) : R2 := fun x y H Q => match x, y with
  | .int i, .int j => Q (.bl (decide (i = j))) H
  | .str i, .str j => Q (.bl (decide (i = j))) H
  | .bl i, .bl j => Q (.bl (decide (i = j))) H
  | x, y => rEqD K x y H Q
def rNeA (K : PySem.W.Frag) : R2 := fun x y H Q => match x, y with
  | .int i, .int j => Q (.bl (!decide (i = j))) H
  | .str i, .str j => Q (.bl (!decide (i = j))) H
  | .bl i, .bl j => Q (.bl (!decide (i = j))) H
  | x, y => rNeD K x y H Q
theorem vint_dec {i j : Int} : decide (V.int i = V.int j) = decide (i = j) := by
  by_cases h : i = j
  · subst h; simp
  · have : ¬ V.int i = V.int j := fun e => h (V.int.inj e)
    rw [decide_eq_false h, decide_eq_false this]
theorem vstr_dec {i j : Str} : decide (V.str i = V.str j) = decide (i = j) := by
  by_cases h : i = j
  · subst h; simp
  · have : ¬ V.str i = V.str j := fun e => h (V.str.inj e)
    rw [decide_eq_false h, decide_eq_false this]
theorem vbl_dec {i j : Bool} : decide (V.bl i = V.bl j) = decide (i = j) := by
  cases i <;> cases j <;> rfl
theorem op_eqA {X : Cx} (hu : X.A.units + 64 < cLine) : OpR X (compareOp .Eq) (rEqA X.K) := by
  intro pins s σ H x y v u Q I rx ry h
  unfold rEqA at h
  split at h
  · exact op_eq pins s σ H _ _ v u Q I rx ry ⟨rfl, by rw [vint_dec]; exact h⟩
  · exact op_eq pins s σ H _ _ v u Q I rx ry ⟨rfl, by rw [vstr_dec]; exact h⟩
  · exact op_eq pins s σ H _ _ v u Q I rx ry ⟨rfl, by rw [vbl_dec]; exact h⟩
  · exact op_eqD hu pins s σ H _ _ v u Q I rx ry h
theorem op_neA {X : Cx} (hu : X.A.units + 64 < cLine) : OpR X (compareOp .NotEq) (rNeA X.K) := by
  intro pins s σ H x y v u Q I rx ry h
  unfold rNeA at h
  split at h
  · exact op_ne pins s σ H _ _ v u Q I rx ry ⟨rfl, by rw [vint_dec]; exact h⟩
  · exact op_ne pins s σ H _ _ v u Q I rx ry ⟨rfl, by rw [vstr_dec]; exact h⟩
  · exact op_ne pins s σ H _ _ v u Q I rx ry ⟨rfl, by rw [vbl_dec]; exact h⟩
  · exact op_neD hu pins s σ H _ _ v u Q I rx ry h
/-- a bool as a test -/
def aTest (t : TE) : TT := fun σ H Q => t σ H fun x H' => match x with | .bl k => Q k H' | _ => False
section
variable {X : Cx} {a b c e : Expr} {ta tb tc te : TE} {pos : Pos}
theorem pt_cmpA {op : CmpOp} {r : R2} (ho : OpR X (compareOp op) r) (ha : PE X a ta) (hb : PE X b tb) (hm : behindInMarks op b = false := by first | exact nomark _ | rfl | with_unfolding_all rfl) : PT X (.Compare a [op] [b] pos) (aTest (tOp r ta tb)) := by
  refine ⟨fun pins s σ H Q I h => ?_⟩
  refine wpAny_isTrue_Compare1 (thn (ha.run pins s σ H _ I h) fun v s1 ⟨x, H1, I1, r1, q1⟩ => thn (hb.run pins s1 σ H1 _ I1 q1) fun u s2 ⟨y, H2, I2, r2, q2⟩ =>
    thn (ho pins s2 σ H2 x y v u _ I2 r1 r2 q2) fun c s3 ⟨z, H3, I3, r3, q3⟩ => ?_) hm
  cases z with
  | bl k =>
    cases r3
    exact wpAny_truthy_bool ⟨H3, I3, q3⟩
  | _ => exact q3.elim
theorem pe_cmpA {op : CmpOp} {r : R2} (ho : OpR X (compareOp op) r) (ha : PE X a ta) (hb : PE X b tb) (hm : behindInMarks op b = false := by first | exact nomark _ | rfl | with_unfolding_all rfl) : PE X (.Compare a [op] [b] pos) (tOp r ta tb) := pe_cmpR ho ha hb hm
theorem pt_valA (h : PE X e te) (he : ∀ whole, isTrue e X.env whole = (do let v ← whole; standAt e.pos; holding [v] (truthy v)) := by intro _; rfl) : PT X e (aTest te) := by
  refine ⟨fun pins s σ H Q I hw => ?_⟩
  refine isTrue_plain (thn (h.run pins s σ H _ I hw) fun v s1 ⟨x, H1, I1, r1, q1⟩ => ?_) (he _)
  cases x with
  | bl k =>
    cases r1
    exact wpAny_truthy_bool ⟨H1, I1, q1⟩
  | _ => exact q1.elim

/-! ### items -/
def rIxA (K : PySem.W.Frag) : R2 := fun x y H Q => match x, y with
  | .ref p, .int i => (∃ xs v, SqL K H p xs ∧ atI xs i = some v ∧ Q v H) ∨ ∃ xs v, SqT K H p xs ∧ atI xs i = some v ∧ Q v H
  | .str z, .int i => ∃ c, z.length ≤ sizeLine ∧ atI z.cps.toList i = some c ∧ Q (.str ⟨#[c]⟩) H
  | _, _ => False
theorem IxR.imp {X : Cx} {r r' : R2} (h : IxR X r) (k : ∀ x y H Q, r' x y H Q → r x y H Q) : IxR X r' := by
  unfold IxR at h ⊢
  intros
  refine h _ _ _ _ _ _ _ _ _ _ _ (by assumption) (by assumption) (by assumption) (k _ _ _ _ (by assumption)) (by assumption)
theorem ix_A : IxR X (rIxA X.K) := ix_seq.imp fun x y H Q h => by
  unfold rIxA at h
  split at h
  · rcases h with ⟨xs, v, h1, h2, q⟩ | ⟨xs, v, h1, h2, q⟩
    · exact .inl ⟨_, xs, _, v, rfl, rfl, h1, h2, q⟩
    · exact .inr (.inl ⟨_, xs, _, v, rfl, rfl, h1, h2, q⟩)
  · obtain ⟨c, h1, h2, q⟩ := h
    exact .inr (.inr ⟨_, _, c, rfl, rfl, h1, h2, q⟩)
  · exact h.elim
theorem pe_ixA (ha : PE X a ta) (hb : PE X b tb) (hs : PlainIx b := by exact fun _ _ => rfl) : PE X (.Subscript a b pos) (tOp (rIxA X.K) ta tb) := pe_ix ix_A ha hb hs
/-! ### calls of built-ins -/
def rLenA (K : PySem.W.Frag) : List V → Hp → VK → Prop := fun vs H Q => match vs with
  | [.str y] => y.length ≤ sizeLine ∧ Q (.int (y.length : Int)) H
  | [.ref p] => (∃ xs, SqL K H p xs ∧ Q (.int (xs.length : Int)) H) ∨ ∃ xs, SqT K H p xs ∧ Q (.int (xs.length : Int)) H
  | _ => False
theorem call_lenA : CallR X (.builtin "len") (rLenA X.K) := call_len.imp fun xs H Q h => by
  unfold rLenA at h
  split at h
  · exact ⟨_, _, rfl, ⟨h.1, rfl⟩, h.2⟩
  · rcases h with ⟨ys, h1, q⟩ | ⟨ys, h1, q⟩
    · exact ⟨_, _, rfl, .inl ⟨ys, h1, rfl⟩, q⟩
    · exact ⟨_, _, rfl, .inr ⟨ys, h1, rfl⟩, q⟩
  · exact h.elim
def rAbsA : List V → Hp → VK → Prop := fun vs H Q => match vs with
  | [.int i] => Q (.int (if i < 0 then -i else i)) H
  | _ => False
theorem call_absA : CallR X (.builtin "abs") rAbsA := call_abs.imp fun xs H Q h => by
  unfold rAbsA at h
  split at h
  · exact ⟨_, rfl, h⟩
  · exact h.elim
def rIntA : List V → Hp → VK → Prop := fun vs H Q => match vs with
  | [.int i] => Q (.int i) H
  | [.bl k] => Q (.int (if k then 1 else 0)) H
  | _ => False
theorem call_intA : CallR X (.type "int") rIntA := call_int1.imp fun xs H Q h => by
  unfold rIntA at h
  split at h
  · exact .inl ⟨_, rfl, h⟩
  · exact .inr ⟨_, rfl, h⟩
  · exact h.elim
def rMaxA : List V → Hp → VK → Prop := fun vs H Q => match vs with
  | [.int i, .int j] => Q (.int (if j > i then j else i)) H
  | _ => False
theorem call_maxA (hc : X.calm = true) : CallR X (.builtin "max") rMaxA := (call_max2 hc).imp fun xs H Q h => by
  unfold rMaxA at h
  split at h
  · exact ⟨_, _, rfl, h⟩
  · exact h.elim
def rMinA : List V → Hp → VK → Prop := fun vs H Q => match vs with
  | [.int i, .int j] => Q (.int (if j < i then j else i)) H
  | _ => False
theorem call_minA (hc : X.calm = true) : CallR X (.builtin "min") rMinA := (call_min2 hc).imp fun xs H Q h => by
  unfold rMinA at h
  split at h
  · exact ⟨_, _, rfl, h⟩
  · exact h.elim
end
/-! ### a def of the text, as a caller knows it -/
structure Own (P : Program) (w : World) (K : PySem.W.Frag) (mg : Str → Option Value) (base : Heap) (CX : CXT) (x : Str) (k : Nat) (ps : List Str) (sp : Sp) : Prop where
  ex : ∃ f fd, FnG P w K mg base CX k f fd ps sp ∧ mg x = some (.ref f) ∧ PySem.W.keepIn K (.ref f) = true ∧ Binds K fd ps []
section
variable {X : Cx} {CX : CXT} {k j : Nat} {ps : List Str} {sp : Sp} {x : Str} {p pos : Pos} {e : Expr} {es : List Expr} {t : TA}
theorem Passes0 : Passes CX0 X E0 := pass0
theorem pe_own (O : Own X.prog X.w X.K X.mg X.base CX0 x k ps sp) (hr : RoomG j X.A) (ha : PA X (e :: es) t) (hk : k ≤ j := by decide) (hg : Gl X x := by rfl) (hdb : (x == ("__debug__" : Str)) = false := by decide)
    (he : starEach (e :: es) X.env = (false, eval e X.env) :: starEach es X.env := by rfl) (hpl : (backTo pos (starEach es X.env)).any (·.1) = false := by rfl) : PE X (.Call (.Name x p) (e :: es) [] pos) (tCall sp [] E0 t) := by
  obtain ⟨f, fd, F, hm, hkp, hb⟩ := O.ex
  exact pe_callG F (hr.mono hk) hg hm hkp hb .nil pass0 ha hdb he hpl
theorem pe_own0 (O : Own X.prog X.w X.K X.mg X.base CX0 x k ps sp) (hr : RoomG j X.A) (hk : k ≤ j := by decide) (hg : Gl X x := by rfl) (hdb : (x == ("__debug__" : Str)) = false := by decide) : PE X (.Call (.Name x p) [] [] pos) (tCall sp [] E0 tNil) := by
  obtain ⟨f, fd, F, hm, hkp, hb⟩ := O.ex
  exact pe_call0G F (hr.mono hk) hg hm hkp hb .nil pass0 hdb
end
/-! ### loops -/
theorem for_enum {K : PySem.W.Frag} {a : Addr} {xs : List V} {g : TG} {tb : TS} {D : Ends} {σ : St} {H : Hp} (Pv : Nat → St → Hp → Prop) (h0 : Pv 0 σ H) (hl : ∀ i σ H, i ≤ xs.length → Pv i σ H → SqL K H a xs)
    (hs : ∀ i x T σ H, xs[i]? = some x → Pv i σ H → H T = none → g (.ref T) σ (upd H T (.tup [.int (i : Nat), x])) fun σ2 H2 => tb { D with nx := Pv (i + 1), ct := Pv (i + 1), bk := D.nx } σ2 H2) (hd : ∀ σ H, Pv xs.length σ H → D.nx σ H) :
    ∃ W : Nat → Nat → St → Hp → Prop, (∃ m, W 0 m σ H) ∧ ∀ i m σ H, W i m σ H →
      ((Ite K a).stop i H ∧ D.nx σ H) ∨ ((Ite K a).go i H ∧ ∃ N : St → Hp → Prop, (∀ σ' H', N σ' H' → ∃ m', m' < m ∧ W (i + 1) m' σ' H') ∧ ∀ x H', (Ite K a).yld i H x H' → g x σ H' fun σ2 H2 => tb { D with nx := N, ct := N, bk := D.nx } σ2 H2) := by
  refine ⟨fun i m σ H => m = xs.length - i ∧ i ≤ xs.length ∧ Pv i σ H, ⟨xs.length, by simp, Nat.zero_le _, h0⟩, ?_⟩
  rintro i m σ H ⟨rfl, hi, p⟩
  have q := hl i σ H hi p
  by_cases hlt : i < xs.length
  · refine .inr ⟨⟨xs, xs[i], q, by simp [hlt]⟩, Pv (i + 1), fun σ' H' p' => ⟨xs.length - (i + 1), by omega, rfl, hlt, p'⟩, fun v H' y => ?_⟩
    obtain ⟨T, x, rfl, hT, rfl, y⟩ := y
    exact hs i x T σ H (y xs q) p hT
  · have e : i = xs.length := by omega
    subst e
    exact .inl ⟨⟨xs, q, Nat.le_refl _⟩, hd σ H p⟩
/-- a pair in two names -/
theorem tup2 {K : PySem.W.Frag} {T : Addr} {x y : V} {H : Hp} {t u : TG} {σ : St} {Q : St → Hp → Prop} (h : t x σ (upd H T (.tup [x, y])) fun σ' H' => u y σ' H' Q) : gTup K 2 (gCons t (gCons u gNil)) (.ref T) σ (upd H T (.tup [x, y])) Q := by
  refine ⟨T, [x, y], rfl, SqT.of upd_same, rfl, x, [y], rfl, ?_⟩
  have m : ∀ (P P' : St → Hp → Prop), P = P' → t x σ (upd H T (.tup [x, y])) P → t x σ (upd H T (.tup [x, y])) P' := fun P P' e q => e ▸ q
  refine m _ _ ?_ h
  funext σ' H'
  refine propext ⟨fun q => ⟨y, [], rfl, ?_⟩, fun ⟨v, r, e, q⟩ => ?_⟩
  · refine Eq.mp (congrArg (u y σ' H') (funext fun a => funext fun b => propext ⟨fun z => ⟨rfl, z⟩, fun z => z.2⟩)) q
  · cases e
    exact Eq.mp (congrArg (u y σ' H') (funext fun a => funext fun b => propext ⟨fun z => z.2, fun z => ⟨rfl, z⟩⟩)) q
theorem Same.new {H H' : Hp} {p : Addr} {o : HO} (s : Same H H') (h : H' p = none) : Same H (upd H' p o) := fun b u e => by
  rw [upd_ne (ne_of_none (s b u e) h)]
  exact s b u e
theorem RoomG.units64 {k : Nat} {A : PySem.Around} (hr : RoomG k A) : A.units + 64 < PySem.cLine := hr.r.units
theorem pow_ok {i j : Int} (h1 : -(2 ^ 64) < i) (h2 : i < 2 ^ 64) (h3 : 0 ≤ j) (h4 : j ≤ 100) : 0 ≤ j ∧ (PySem.Builtin.Int.intBits i : Int) * j ≤ 2 ^ 27 := by
  have h := PySem.intBits_le_64 h1 h2
  refine ⟨h3, ?_⟩
  have : (PySem.Builtin.Int.intBits i : Int) * j ≤ 64 * 100 := Int.mul_le_mul (by omega) h4 h3 (by decide)
  omega
theorem big_pos : (0 : Int) < ((10 : Int) ^ Int.toNat 60) ^ Int.toNat 13 := by decide +kernel
theorem big_bits : 0 ≤ (13 : Int) ∧ (PySem.Builtin.Int.intBits ((10 : Int) ^ Int.toNat 60) : Int) * 13 ≤ 2 ^ 27 := by decide +kernel
/-- a statement, then the rest, with a word between them -/
def tCut (t u : TS) : TS := fun D σ H => ∃ Mid : St → Hp → Prop, t { D with nx := Mid } σ H ∧ ∀ σ' H', Mid σ' H' → u D σ' H'
theorem pss_cut {X : Cx} {st : Stmt} {rest : List Stmt} {t u : TS} (h1 : PS X st t) (h2 : PSs X rest u) : PSs X (st :: rest) (tCut t u) := by
  refine ⟨fun pins s σ H D I h => ?_⟩
  obtain ⟨Mid, hm, hu⟩ := h
  refine wpAny_execs_cons (thn (h1.run pins s σ H { D with nx := Mid } I hm) fun f s1 q => ?_)
  cases f with
  | next =>
    obtain ⟨σ', H', I', q⟩ := q
    exact h2.run pins s1 σ' H' D I' (hu σ' H' q)
  | ret v => exact q
  | brk => exact q
  | cont => exact q
end L2

set_option Elab.async false
set_option linter.all false
set_option maxRecDepth 100000
set_option maxHeartbeats 4000000
/-! Own exception classes straight over a built-in one, with an __init__ that calls the built-in's and stores one field. -/
namespace PySem
namespace KX
open PySem.W PySem.Calls PyProof.Rows PySem.HandSPX Builtin Builtin.ObjectAttr

/-- the built-in __init__ of a class -/
structure XIni (B initId : String) : Prop where
  plain : plainId initId = true
  entry : entryFor table initId = some Builtin.«BaseException.__init__»
  kind : builtinKind initId = some .slot
  split : splitId initId = some (B, "__init__")
  row : Manifest.signature? initId = some ⟨.positional, "*", B, .self, [⟨"args", .varPos, false⟩]⟩
  noStar : (B != "*") = true
theorem ini_of {B newId initId : String} {bm : List Value} (F : ExcBaseFacts B newId initId bm) : XIni B initId := ⟨F.init.plain, F.initEntry, F.initKind, F.initSplit, F.initRow, F.noStar⟩
theorem ini_KeyError : XIni "KeyError" "KeyError.__init__" :=
  ⟨PyProof.Rows.excClass_KeyError.init.plain, PyProof.Rows.excClass_KeyError.initEntry, PyProof.Rows.excClass_KeyError.initKind, PyProof.Rows.excClass_KeyError.initSplit, PyProof.Rows.excClass_KeyError.initSig, PyProof.Rows.excClass_KeyError.notStar⟩
abbrev tKey : List Value := [.type "KeyError", .type "LookupError", .type "Exception", .type "BaseException", .type "object"]
abbrev tLookup : List Value := [.type "LookupError", .type "Exception", .type "BaseException", .type "object"]
abbrev tIndex : List Value := [.type "IndexError", .type "LookupError", .type "Exception", .type "BaseException", .type "object"]
abbrev tOverflow : List Value := [.type "OverflowError", .type "ArithmeticError", .type "Exception", .type "BaseException", .type "object"]
abbrev tRuntime : List Value := [.type "RuntimeError", .type "Exception", .type "BaseException", .type "object"]
/-- what the model says of the built-in chain bm, made by newId (of Bn), begun by initId (of Bi) -/
structure XB (Bi newId initId : String) (bm : List Value) : Prop where
  fn : ∃ (Bn I0 : String) (bm0 : List Value), ExcBaseFacts Bn newId I0 bm0 ∧ bm.contains (.type Bn) = true
  ini : XIni Bi initId
  hasI : bm.contains (.type Bi) = true
  noA : bm.contains (.type "AttributeError") = false
  noN : bm.contains (.type "NameError") = false
  obj : bm.contains (.type "object") = true
  pass : ∀ self : Value, refuseLoop self "__setattr__" bm = pure ()
theorem xb_KeyError : XB "KeyError" "LookupError.__new__" "KeyError.__init__" tKey where
  fn := ⟨_, _, _, F.excBase_LookupError, by decide +kernel⟩
  ini := ini_KeyError
  hasI := by decide +kernel
  noA := by decide +kernel
  noN := by decide +kernel
  obj := by decide +kernel
  pass := fun self => by kernel_rfl
theorem xb_LookupError : XB "LookupError" "LookupError.__new__" "LookupError.__init__" tLookup where
  fn := ⟨_, _, _, F.excBase_LookupError, by decide +kernel⟩
  ini := ini_of F.excBase_LookupError
  hasI := by decide +kernel
  noA := by decide +kernel
  noN := by decide +kernel
  obj := by decide +kernel
  pass := fun self => by kernel_rfl
theorem xb_IndexError : XB "IndexError" "IndexError.__new__" "IndexError.__init__" tIndex where
  fn := ⟨_, _, _, F.excBase_IndexError, by decide +kernel⟩
  ini := ini_of F.excBase_IndexError
  hasI := by decide +kernel
  noA := by decide +kernel
  noN := by decide +kernel
  obj := by decide +kernel
  pass := fun self => by kernel_rfl
theorem xb_OverflowError : XB "OverflowError" "OverflowError.__new__" "OverflowError.__init__" tOverflow where
  fn := ⟨_, _, _, F.excBase_OverflowError, by decide +kernel⟩
  ini := ini_of F.excBase_OverflowError
  hasI := by decide +kernel
  noA := by decide +kernel
  noN := by decide +kernel
  obj := by decide +kernel
  pass := fun self => by kernel_rfl
theorem xb_RuntimeError : XB "RuntimeError" "RuntimeError.__new__" "RuntimeError.__init__" tRuntime where
  fn := ⟨_, _, _, F.excBase_RuntimeError, by decide +kernel⟩
  ini := ini_of F.excBase_RuntimeError
  hasI := by decide +kernel
  noA := by decide +kernel
  noN := by decide +kernel
  obj := by decide +kernel
  pass := fun self => by kernel_rfl

section
variable {M : Model} {A : Around} {E : Value → Shared → Prop} {h : Heap} {g : Array GenState} {d : Drawn} {t : Nat} {os : OsState}
variable {nm q : Str} {C N : Addr} {bs bm bmB : List Value} {hdct : Bool} {sn : List Str} {sub : List Value} {ab : Bool} {col : Option Bool} {dd : Option Addr} {k0 k1 k2 k3 k5 : Option Value} {B newId initId : String}
theorem check_newX (F : ExcBaseFacts B newId initId bmB) (hB : bm.contains (.type B) = true) {rest : List Value} {Q : Unit → Shared → Prop}
    (hC : h.get? C = some (excClassObj nm q C N bs bm hdct sn sub ab col dd k0 k1 k2 k3 k5 newId)) (hq : Q () ⟨h, g, d, t, os⟩) : wpAny M A (checkBuiltinCall newId ⟨.ref C :: rest, []⟩) Q E ⟨h, g, d, t, os⟩ := by
  have hcont : (Value.ref C :: bm).contains (.type B) = true := by rw [List.contains_cons, hB, Bool.or_true]
  have hstar := F.noStar
  simp only [checkBuiltinCall, F.newKind, F.newSplit, F.newRow]
  repeat (first | refine wpAny_loadPart_at hC ?_ | (refine wpAny_isSubtype_exc hC ?_; rw [hcont]) | refine wpAny_staticBase_exc hC ?_ | refine wpAny_madeBy_exc hC ?_ | simp only [bne_self_eq_false, Bool.false_eq_true, if_false] | wp_step)
  exact hq
theorem check_initX (F : XIni B initId) (hB : bm.contains (.type B) = true) {e : Addr} {oe : Obj} {rest : List Value} {Q : Unit → Shared → Prop}
    (hC : h.get? C = some (excClassObj nm q C N bs bm hdct sn sub ab col dd k0 k1 k2 k3 k5 newId)) (he : h.get? e = some oe) (hcls : oe.cls = .ref C) (hq : Q () ⟨h, g, d, t, os⟩) :
    wpAny M A (checkBuiltinCall initId ⟨.ref e :: rest, []⟩) Q E ⟨h, g, d, t, os⟩ := by
  have hcB : (Value.ref C :: bm).contains (.type B) = true := by rw [List.contains_cons, hB, Bool.or_true]
  have hshort := F.noStar
  simp only [checkBuiltinCall, F.kind, F.split, F.row]
  repeat (first | (with_reducible refine wpAny_loadPart_at he ?_; rw [hcls]) | with_reducible refine wpAny_loadPart_at hC ?_ | (with_reducible refine wpAny_isSubtype_exc hC ?_; rw [hcB]) | wp_step)
  refine wpAny_onRaise ?_
  rw [show ∀ (a b : String) (n : Nat), Bind.check ⟨.positional, "*", B, .self, [⟨"args", .varPos, false⟩]⟩ a b n (List.map (fun x => x.fst) ({ pos := Value.ref e :: rest } : Args).kw) = pure () from
    fun a b n => check_star_args _ _ _ _ _ _]
  exact wpAny_pure hq
end
section
variable {prog : Program} {w : World} {A : Around} {E : Value → Shared → Prop} {R : Result → Shared → Prop} {h : Heap} {g : Array GenState} {d : Drawn} {t : Nat} {os : OsState}
variable {nm q : Str} {C N : Addr} {bs bm bmB : List Value} {hdct : Bool} {sn : List Str} {sub : List Value} {ab : Bool} {col : Option Bool} {dd : Option Addr} {k0 k1 k2 k3 k5 : Option Value} {B newId initId : String}
theorem newX (F : ExcBaseFacts B newId initId bmB) (hB : bm.contains (.type B) = true) (hA : bm.contains (.type "AttributeError") = false) (hN : bm.contains (.type "NameError") = false) {rest : List Value}
    (hC : h.get? C = some (excClassObj nm q C N bs bm hdct sn sub ab col dd k0 k1 k2 k3 k5 newId))
    (hq : R (.ok (.ret (.ref (h.objs.size + 1)))) ⟨(h.push { cls := .type "tuple", data := .seq rest.toArray }).push
      { cls := .ref C, data := .fields #[.ref h.objs.size, .none, .none, .none, .bool false, .none] }, g, d, t, os⟩) (hrest : rest.length ≤ sizeLine) :
    codeAny (model prog w) A (.builtin newId ⟨.ref C :: rest, []⟩) R ⟨h, g, d, t, os⟩ := by
  have hends := F.ends
  have hcB : (Value.ref C :: bm).contains (.type B) = true := by rw [List.contains_cons, hB, Bool.or_true]
  have hcA : (Value.ref C :: bm).contains (.type "AttributeError") = false := by rw [List.contains_cons, hA]; rfl
  have hcN : (Value.ref C :: bm).contains (.type "NameError") = false := by rw [List.contains_cons, hN]; rfl
  refine codeAny_builtinAt F.entry ?_
  unfold Builtin.«BaseException.__new__»
  refine wpAt_bind ?_
  show wpAt _ _ _ (stack >>= _) _ _ _
  refine wpAt_bind (wpAt_stack fun p below => wpAt_of_wpAny ?_)
  wp_walk
  refine wpAt_of_wpAny ?_
  rw [F.owner]
  repeat (first | with_reducible refine wpAny_madeHere_exc F.canon hC ?_ | with_reducible refine wpAny_loadPart_at hC ?_ | (with_reducible refine wpAny_isSubtype_exc hC ?_; first | rw [hcB] | rw [hcA] | rw [hcN]) | wp_step)
  show R _ _
  rw [Heap.size_push]
  exact hq
theorem type_callX (F : ExcBaseFacts B newId initId bmB) (hB : bm.contains (.type B) = true) (hA : bm.contains (.type "AttributeError") = false) (hN : bm.contains (.type "NameError") = false) {rest : List Value} {fI : Addr} {Q : Fin → Shared → Prop}
    (hC : h.get? C = some (excClassObj nm q C N bs bm hdct sn sub ab col dd k0 k1 k2 k3 k5 newId))
    (hi : W.Looks (model prog w) h (typeLookup (.ref C) "__init__") (some (.ref fI))) (hb : ∀ self, W.Looks (model prog w) h (bindSpecial (.ref fI) self) (.ref fI, [self])) (hrest : rest.length ≤ sizeLine)
    (hq : codeAny (model prog w) A (.call (.ref fI) ⟨.ref (h.objs.size + 1) :: rest, []⟩)
      (fun r s' => match r with | .ok (.ret v) => v = .none ∧ Q (.done (.ret (.ref (h.objs.size + 1)))) s' | .ok _ => False | .error e => E e s')
      ⟨(h.push (W.kdv_tup rest)).push (excO C h.objs.size), g, d, t, os⟩) :
    wpAny (model prog w) A (Builtin.«type.__call__» ⟨.ref C :: rest, []⟩) Q E ⟨h, g, d, t, os⟩ := by
  repeat (first | with_reducible refine wpAny_loadPart_at hC ?_ | with_reducible refine wpAny_madeBy_exc hC ?_ | wp_step)
  refine codeAny_call_builtin_code (Code.quiet_builtin _ F.quiet) (check_newX F hB hC ?_)
  refine newX F hB hA hN hC ?_ hrest
  show wpAny _ _ _ _ _ _
  have k : ∀ b o, h.get? b = some o → ((h.push (W.kdv_tup rest)).push (excO C h.objs.size)).get? b = some o := fun b o e => Heap.get?_push_of_some _ (Heap.get?_push_of_some _ e)
  have hC₁ := k _ _ hC
  have hget : ((h.push (W.kdv_tup rest)).push (excO C h.objs.size)).get? (h.objs.size + 1) = some (excO C h.objs.size) := by heap_get
  have hcC : (Value.ref C :: bm).contains (.ref C) = true := by simp
  have i1 := hi.keeps k
  have b1 := (hb (.ref (h.objs.size + 1))).keeps k
  unfold isInstance
  repeat (first | with_reducible refine wpAny_loadPart_at hget ?_ | (with_reducible refine wpAny_isSubtype_exc hC₁ ?_; rw [hcC]) | wp_step)
  show wpAny _ _ (typeLookup (.ref C) _) _ _ _
  refine i1.at ?_
  refine wpAny_holding (wpAny_bind (b1.at ?_))
  refine wpAny_bind (wpAny_call (codeAny_mono hq fun r s' z => ?_))
  rcases r with e | (v | _ | _ | _) <;> first | exact z | exact z.elim | skip
  obtain ⟨rfl, z⟩ := z
  first
    | exact wpAny_pure (wpAny_pure z)
    | (wp_walk; exact z)
theorem callX (F : ExcBaseFacts B newId initId bmB) (hB : bm.contains (.type B) = true) (hA : bm.contains (.type "AttributeError") = false) (hN : bm.contains (.type "NameError") = false) {rest : List Value} {fI : Addr}
    (hC : h.get? C = some (excClassObj nm q C N bs bm hdct sn sub ab col dd k0 k1 k2 k3 k5 newId))
    (hi : W.Looks (model prog w) h (typeLookup (.ref C) "__init__") (some (.ref fI))) (hb : ∀ self, W.Looks (model prog w) h (bindSpecial (.ref fI) self) (.ref fI, [self])) (hrest : rest.length ≤ sizeLine)
    (hq : codeAny (model prog w) (A.under (.builtin "type.__call__" ⟨.ref C :: rest, []⟩)) (.call (.ref fI) ⟨.ref (h.objs.size + 1) :: rest, []⟩) (W.InitBack (h.objs.size + 1) R)
      ⟨(h.push (W.kdv_tup rest)).push (excO C h.objs.size), g, d, t, os⟩) :
    codeAny (model prog w) A (.call (.ref C) ⟨rest, []⟩) R ⟨h, g, d, t, os⟩ := by
  have f1 := tc_lookup
  have f2 := tc_bind (.ref C)
  have hTy : (⟨h, g, d, t, os⟩ : Shared).TypeIs (.ref C) "type" := ⟨_, hC, rfl⟩
  refine codeAny_of_tree ?_
  show wpAny _ _ (callAny (.ref C) _) _ _ _
  repeat (any_goals (first | assumption | with_reducible refine wpAny_loadPart_at hC ?_ | wp_step))
  refine ⟨rfl, ?_⟩
  refine codeAny_call_builtin_at (Code.quiet_builtin _ (by decide +kernel)) entry_typeCall (wpAny_check_type_call_sub hC (type_callX F hB hA hN hC hi hb hrest ?_))
  refine codeAny_mono hq fun r s' z => ?_
  rcases r with e | (v | _ | _ | _) <;> exact z
theorem init_baseX (F : XIni B initId) (hB : bm.contains (.type B) = true) {e t0 : Addr} {rest : List Value}
    (hC : h.get? C = some (excClassObj nm q C N bs bm hdct sn sub ab col dd k0 k1 k2 k3 k5 newId)) (he : h.get? e = some (excO C t0)) (hrest : rest.length ≤ sizeLine)
    (hq : ∀ h' t1, (∀ b o, b ≠ e → h.get? b = some o → h'.get? b = some o) → h'.get? e = some (excO C t1) → R (.ok (.ret .none)) ⟨h', g, d, t, os⟩) :
    codeAny (model prog w) A (.call (.builtin initId) ⟨.ref e :: rest, []⟩) R ⟨h, g, d, t, os⟩ := by
  refine codeAny_call_builtin F.plain F.entry (check_initX F hB hC he rfl ?_)
  wp_walk
  refine hq _ h.objs.size (fun b o hb ho => ?_) ?_
  · rw [Heap.get?_update_other _ _ (Ne.symm hb)]
    exact Heap.get?_push_of_some _ ho
  · rw [Heap.get?_update_self _ (Heap.get?_push_of_some _ he) rfl]
    rfl
end
section
variable {prog : Program} {w : World} {A : Around} {E : Value → Shared → Prop} {R : Result → Shared → Prop} {hp : Heap} {g : Array GenState} {d : Drawn} {t : Nat} {os : OsState}
theorem exc_osaX {K : W.Frag} {name : Str} {tk : Tok} {v : Value} {x C : Addr} {fv : Array Value} {cd : ClassData} {bm : List Value}
    (X : K.In hp) (hx : hp.get? x = some { cls := .ref C, data := .fields fv }) (hcd : W.clsIn K C = some cd) (hm : cd.mro = .ref C :: bm) (hpass : ∀ self : Value, refuseLoop self "__setattr__" bm = pure ()) (hobj : bm.contains (.type "object") = true)
    (hh : cd.hasDict = true) (ha : W.findIn K (.ref C) name = some none)
    (hq : ∀ h' tk' dx, (∀ b o, b ≠ x → hp.get? b = some o → h'.get? b = some o) → hp.objs.size ≤ dx → dx ≠ x → h'.get? x = some { cls := .ref C, dict := some dx, data := .fields fv } →
      h'.Ns1 dx (fun y => if y = name then some v else none) → R (.ok (.ret .none)) ⟨h', g, d, tk', os⟩) :
    codeAny (model prog w) A (.call (.builtin "object.__setattr__") ⟨[.ref x, .str name tk, v], []⟩) R ⟨hp, g, d, t, os⟩ := by
  have I : W.InstAt hp x { cls := .ref C, data := .fields fv } C none := ⟨hx, rfl, rfl, trivial⟩
  have SF := F.store_object
  have ne : cd.mro.isEmpty = false := by rw [hm]; rfl
  have hob : cd.mro.contains (.type "object") = true := by rw [hm, List.contains_cons, hobj, Bool.or_true]
  have hxs : x ≠ hp.objs.size := Nat.ne_of_lt (Heap.lt_size hx)
  have sub : W.Looks (model prog w) hp (isInstance (.ref x) (.type "object")) true := I.type.andThen (W.looks_mroIn X (by unfold W.mroIn; rw [hcd, Option.bind_some, if_neg (by rw [ne]; decide), hob]))
  refine codeAny_call_builtin SF.slot.plain SF.entry (@W.check_slot (model prog w) _ _ ⟨hp, g, d, t, os⟩ "object.__setattr__" "object" "__setattr__" (.ref x) [.str name tk, v] [] _ SF.kind SF.split sub (SF.args (.ref x) (.str name tk) v) ?_)
  have hmr : W.Looks (model prog w) hp (mroOf (.ref C)) cd.mro := (W.looks_clsIn X hcd).andThen .now
  have L3 : W.Looks (model prog w) hp (storeTaker? none) none := .now
  have hcls : W.Looks (model prog w) hp (classData C) cd := W.looks_clsIn X hcd
  rw [W.osa_eq, refuse_eq]
  refine wpAny_bind (wpAny_bind (I.type.at (wpAny_bind (hmr.at ?_))))
  rw [hm, refuseLoop_ref, hpass]
  refine wpAny_pure (wpAny_bind (I.type.at (wpAny_bind ((W.looks_findIn X ha).at (wpAny_bind (L3.at ?_))))))
  show wpAny _ _ (storeInOwnDict (.ref x) (.ref C) (.str name tk) name v false) _ _ _
  obtain ⟨nm, bs, mro, ns, qn, hd, sn, sb, ab, col, del⟩ := cd
  dsimp only at hh
  subst hh
  unfold storeInOwnDict ownDictForStores
  repeat (first | with_reducible refine store_in_new ?_ ?_ | with_reducible refine wpAny_loadPart_at hx ?_ | with_reducible refine hcls.at ?_ | wp_step)
  · exact ⟨_, #[], _, (Heap.get?_update_ne _ _ _ _ hxs.symm).trans (Heap.get?_push_at rfl rfl), rfl, fun e he => absurd he (by simp), fun _ => rfl⟩
  · intro h' tk' hn' hs
    have hx₁ : (hp.push { cls := .type "dict", data := .dict #[] }).get? x = some { cls := .ref C, data := .fields fv } := Heap.get?_push_of_some _ hx
    refine hq h' tk' hp.objs.size (fun b o hb ho => ?_) (Nat.le_refl _) hxs.symm ?_ hn'
    · exact (hs.2 b (Nat.ne_of_lt (Heap.lt_size ho))).trans ((Heap.get?_update_ne _ _ _ _ hb).trans (Heap.get?_push_of_some _ ho))
    · exact (hs.2 x hxs).trans (Heap.get?_update_self _ hx₁ rfl)
end
end KX
end PySem

namespace L2
open PySem PySem.Spec PyProof.Rows PySem.KX
/-- what the written part says of an own class over bm with its own __init__ -/
structure XCls (K : PySem.W.Frag) (C : Addr) (newId : String) (bm : List Value) : Prop where
  cls : ∃ nm q N bs sn sub ab col dd k0 k1 k2 k3 k5, K.lookup C = some (excClassObj nm q C N bs bm true sn sub ab col dd k0 k1 k2 k3 k5 newId)
  sa : PySem.W.findIn K (.ref C) "__setattr__" = some (some (.builtin "object.__setattr__"))
  exC : PySem.W.subIn K (.ref C) (.type "BaseException") = some true
  tyC : PySem.W.typeIn K (.ref C) = some (.type "type")
  kC : PySem.W.keepIn K (.ref C) = true
section
variable {X : Cx} {pins : List (Addr × Obj)} {σ : St} {H : Hp} {s : Shared} {a C dx : Addr} {f : Str} {y : V} {u : Value} {fs : List (Str × V)} {Q : Unit → Shared → Prop} {E : Value → Shared → Prop} {A : Around} {Bi newId initId : String} {bm : List Value}
theorem ost_newX (B : XB Bi newId initId bm) (T : XCls X.K C newId bm) (I : Inv X pins σ H s) (e : H a = some (exo a C none)) (hno : PySem.W.findIn X.K (.ref C) f = some none) (ry : RelV y u)
    (h : ∀ dx s', H dx = none → dx ≠ a → Inv X pins σ (upd (upd H dx (exd dx [(f, y)])) a (exo a C (some dx))) s' → Q () s') : wpAny (model X.prog X.w) A (setAttr (.ref a) f u) Q E s := by
  obtain ⟨nm, q, N, bs, sn, sub, ab, col, dd, k0, k1, k2, k3, k5, hC⟩ := T.cls
  have hcl : PySem.W.clsIn X.K C = some { name := nm, bases := bs, mro := .ref C :: bm, ns := N, qualname := q, hasDict := true, slotNames := sn, subclasses := sub, abstract := ab, collection := col, hasDel := false } := by unfold PySem.W.clsIn; rw [hC] <;> rfl
  obtain ⟨t1, ho⟩ := exo_at I.hok e
  obtain ⟨hp, g, d, t, os⟩ := s
  refine PySem.W.set_plain I.kIn (ox := { cls := .ref C, dict := none, data := .fields #[.ref t1, .none, .none, .none, .bool false, .none] }) (od := none) ⟨ho, rfl, rfl, trivial⟩ T.sa ?_
  refine PySem.KX.exc_osaX I.kIn ho hcl rfl B.pass B.obj rfl hno (fun h' tk' dx k dn dne hx hn => ?_)
  have hnd : H dx = none := I.hok.fresh dn
  have nd : ∀ {b : Addr} {o : Obj}, hp.get? b = some o → b ≠ dx := fun {b o} q => Nat.ne_of_lt (Nat.lt_of_lt_of_le (Heap.lt_size q) dn)
  have na : ∀ {b : Addr}, H b = none → b ≠ a := fun {b} n z => by
    rw [z, e] at n
    cases n
  have Un1 : Un X.fs [] H (upd (upd H dx (exd dx [(f, y)])) a (exo a C (some dx))) hp h' := {
    keep := fun b o q n _ _ => k b o (na n) q
    slot := fun b o q n _ _ => ⟨o.slots, k b o (na n) q⟩
    free := fun b o q n _ => by rw [upd_ne (na n), upd_ne (nd q)]; exact n
    there := fun b o q _ => by
      by_cases hb : b = a
      · exact ⟨_, by rw [hb]; exact hx⟩
      · exact ⟨o, k b o hb q⟩
    tups := fun b xs q => by rw [upd_ne (at_ne e q exo_tup), upd_ne (ne_of_none q hnd)]; exact q
    frzs := fun b o v q => by rw [upd_ne (at_ne e q exo_frz), upd_ne (ne_of_none q hnd)]; exact q
    tbls := fun b ps q => ⟨#[], by rw [upd_ne (at_ne e q exo_tbl), upd_ne (ne_of_none q hnd), q]; simp⟩ }
  refine h dx _ hnd dne (I.un (t' := tk') Un1 fun b o q => ?_)
  by_cases hb : b = a
  · subst hb
    rw [upd_same] at q
    cases q
    exact exo_ok hx
  · rw [upd_ne hb] at q
    by_cases hd : b = dx
    · subst hd
      rw [upd_same] at q
      cases q
      exact exd_ok hn (relO_put (fs := []) ry fun g => True.intro)
    · rw [upd_ne hd] at q
      exact (I.hok b o q).stay (fun c v hc z => k c v (by
          rcases hc with hc | hc
          · rw [hc]
            exact hb
          · exact at_ne e hc exo_own) z)
        (fun c hc => by rw [upd_ne (at_ne e hc exo_own), upd_ne (ne_of_none hc hnd)]; exact hc) (fun c xs hc => by rw [upd_ne (at_ne e hc exo_tup), upd_ne (ne_of_none hc hnd)]; exact hc)
theorem oinit_okX {us : List Value} {Q : Value → Shared → Prop} (B : XB Bi newId initId bm) (T : XCls X.K C newId bm) (I : Inv X pins σ H s) (e : H a = some (exo a C none)) (hl : us.length ≤ sizeLine) (h : ∀ s', Inv X pins σ H s' → Q .none s') :
    wpAny (model X.prog X.w) A (call (.builtin initId) (.ref a :: us)) Q E s := by
  obtain ⟨nm, q, N, bs, sn, sub, ab, col, dd, k0, k1, k2, k3, k5, hC⟩ := T.cls
  obtain ⟨t1, ho⟩ := exo_at I.hok e
  obtain ⟨hp, g, d, t, os⟩ := s
  refine wpAny_call (PySem.KX.init_baseX B.ini B.hasI (I.kIn _ _ hC) ho hl fun h' t2 k hx => ?_)
  have J := I.write (t' := t) (x := a) (e := a) (o := exo a C none) (by rw [e]; exact True.intro) (.inl rfl) k ⟨_, hx⟩ (exo_ok hx)
  have eu : upd H a (exo a C none) = H := by
    funext b
    by_cases hb : b = a
    · rw [hb, upd_same, e]
    · rw [upd_ne hb]
  rw [eu] at J
  exact h _ J
end
/-- KeyError.__init__(self, ..) and its like -/
def tXI (K : PySem.W.Frag) (newId : String) (bm : List Value) (ta : TA) : TE := fun σ H Q => ta σ H fun vs H1 => ∃ (a C : Addr) (ws : List V), vs = .ref a :: ws ∧ ws.length ≤ 1000 ∧ XCls K C newId bm ∧ H1 a = some (exo a C none) ∧ Q .non H1
/-- self.f = e, the first one -/
def tXS (K : PySem.W.Frag) (newId : String) (bm : List Value) (f : Str) (to te : TE) : TS := fun D σ H => te σ H fun y H1 => to σ H1 fun x H2 => ∃ a C : Addr, x = .ref a ∧ XCls K C newId bm ∧ PySem.W.findIn K (.ref C) f = some none ∧
  H2 a = some (exo a C none) ∧ ∀ dx, H2 dx = none → dx ≠ a → D.nx σ (upd (upd H2 dx (exd dx [(f, y)])) a (exo a C (some dx)))
section
variable {X : Cx} {o e : Expr} {es : List Expr} {to te : TE} {ta : TA} {f : Str} {p p' p1 p2 pos : Pos} {Bi newId initId : String} {bm : List Value}
end
end L2

set_option Elab.async false
set_option linter.all false
set_option maxRecDepth 100000
set_option maxHeartbeats 4000000
namespace L2
open PySem PySem.Spec PyProof.Rows PySem.KX
section
variable {X : Cx} {o e : Expr} {es : List Expr} {to te : TE} {ta : TA} {f : Str} {p p' p1 p2 pos : Pos} {Bi newId initId : String} {bm : List Value}
theorem pe_xini {x : Str} {pl : Sem Bool} (B : XB Bi newId initId bm) (hm : X.mg x = none) (hbt : bootBuiltins x = some (.type Bi)) (hty : typeOf (.type Bi) = pure (.type "type")) (hst : Manifest.isStub Bi = false) (hh : PySem.W.handedIn (.builtin initId) = true)
    (vV : PySem.W.findCls X.K (.type Bi) (.type "type") "__init__" = some (.val (.builtin initId))) (ha : PA X (e :: es) ta) (hg : Gl X x := by rfl) (hn : x ≠ "__name__" := by decide) (hdb : (x == ("__debug__" : Str)) = false := by decide)
    (hc : eval (.Call (.Attribute (.Name x p1) "__init__" p2) (e :: es) [] pos) X.env = (do
      let ov ← eval (.Name x p1) X.env
      standAt p2.atName
      let (f, first) ← holding [ov] (getMethod ov "__init__" pl)
      callWith pos f first (backTo pos (starEach (e :: es) X.env)) (backToKw pos (keywordEach [] X.env))) := by rfl)
    (he : starEach (e :: es) X.env = (false, eval e X.env) :: starEach es X.env := by rfl) (hpl : (backTo pos (starEach es X.env)).any (·.1) = false := by rfl) :
    PE X (.Call (.Attribute (.Name x p1) "__init__" p2) (e :: es) [] pos) (tXI X.K newId bm ta) := by
  refine ⟨fun pins s σ H Q I h => ?_⟩
  refine PySem.W.methodCall_KW (ld_blt I hg hm hbt ?_ hn hdb) hc
  obtain ⟨m, fr⟩ := I.fr
  refine PySem.W.method_type fr I.ok.mod.kin hty hst vV hh ?_
  show wpAny _ _ (callWith pos (Value.builtin initId) [] (backTo pos (starEach (e :: es) X.env)) []) _ _ _
  refine PyProof.Rows.callWith_method1 (thn (ha.run pos pins _ σ H _ (I.tok _) h) fun us s1 ⟨vs, H1, I1, r1, a, C, ws, ev, hl, T, ea, q⟩ => ?_) he hpl
  subst ev
  cases r1 with
  | @cons _ u0 _ ur ra rw' =>
    obtain rfl : u0 = Value.ref a := ra
    have hlen : ur.length ≤ sizeLine := by
      rw [← Paired.length rw', sizeLine_eq]
      omega
    exact oinit_okX B T I1 ea hlen fun s' J => ⟨.non, H1, J, rfl, q⟩
theorem ps_xs (B : XB Bi newId initId bm) (ho : PE X o to) (he : PE X e te) (hs : swapsWith e (some (.Attribute o f p')) pos.line X.env = pure false := by rfl) : PS X (.Assign [.Attribute o f p'] e pos) (tXS X.K newId bm f to te) := by
  refine ⟨fun pins s σ H D I h => ?_⟩
  refine plainObj_wpAny_Assign_Attribute (thn (he.run pins s σ H _ I h) fun v s1 ⟨y, H1, I1, r1, q1⟩ => thn (ho.run pins s1 σ H1 _ I1 q1) fun u s2 ⟨x, H2, I2, r2, a, C, ex, T, hno, ea, q⟩ => ?_) hs
  subst ex
  obtain rfl : u = Value.ref a := r2
  exact ost_newX B T I2 ea hno r1 fun dx s' n ne J => ⟨σ, _, J, q dx n ne⟩
/-- C(e, ..) as a value, C's own __init__ keeping sp -/
def tMkV (C : Addr) (sp : Sp) (ta : TA) : TE := fun σ H Q => ta σ H fun vs H1 => vs.length ≤ 1000 ∧ ∀ a, H1 a = none → sp (.ref a :: vs) (upd H1 a (exo a C none)) (fun v H2 => v = .non ∧ Q (.ref a) H2) (fun _ _ _ => False)
theorem run_oexX {CX : CXT} {C fI : Addr} {k : Nat} {fd : FuncData} {ps : List Str} {sp : Sp} (B : XB Bi newId initId bm) (T : XCls X.K C newId bm) (iC : PySem.W.findIn X.K (.ref C) "__init__" = some (some (.ref fI))) (tI : PySem.W.typeIn X.K (.ref fI) = some (.type "function"))
    (F1 : FnOk X.prog X.w X.K X.mg X.base CX k fI fd ps sp) (hr : Room (k + 1) X.A) (hb : Binds X.K fd ps []) (hx : Passes CX X (fun _ _ _ => False)) {pins : List (Addr × Obj)} {σ : St} {H1 : Hp} {vs : List V} {us : List Value} {hp : Heap} {g : Array GenState} {dr : Drawn} {tk : Nat} {os : OsState} {R : V → Hp → Prop}
    {Q : Value → Shared → Prop}
    (I1 : Inv X pins σ H1 ⟨hp, g, dr, tk, os⟩) (r1 : Vals vs us) (hz : vs.length ≤ 1000) (hq : sp (.ref (hp.objs.size + 1) :: vs) (upd H1 (hp.objs.size + 1) (exo (hp.objs.size + 1) C none)) R (fun _ _ _ => False))
    (fin : ∀ u s', Inv X pins σ (upd H1 (hp.objs.size + 1) (exo (hp.objs.size + 1) C none)) ⟨(hp.push (PySem.W.kdv_tup us)).push (PySem.HandSPX.excO C hp.objs.size), g, dr, tk, os⟩ →
      CE X.stack X.prog X.w (upd H1 (hp.objs.size + 1) (exo (hp.objs.size + 1) C none)) ⟨(hp.push (PySem.W.kdv_tup us)).push (PySem.HandSPX.excO C hp.objs.size), g, dr, tk, os⟩ R u s' → u = .none ∧ Q (.ref (hp.objs.size + 1)) s') :
    wpAny (model X.prog X.w) X.A (call (.ref C) us) Q X.xe ⟨hp, g, dr, tk, os⟩ := by
  obtain ⟨nm, q, N, bs, sn, sub, ab, col, dd, k0, k1, k2, k3, k5, hC⟩ := T.cls
  obtain ⟨Bn, I0, bm0, FB, hB⟩ := B.fn
  have hsz : hp.objs.size ≤ hp.objs.size + 1 := Nat.le_succ _
  have kk : ∀ b o, hp.get? b = some o → ((hp.push (PySem.W.kdv_tup us)).push (PySem.HandSPX.excO C hp.objs.size)).get? b = some o := fun b o e => Heap.get?_push_of_some _ (Heap.get?_push_of_some _ e)
  have hget : ((hp.push (PySem.W.kdv_tup us)).push (PySem.HandSPX.excO C hp.objs.size)).get? (hp.objs.size + 1) = some (PySem.HandSPX.excO C hp.objs.size) := by heap_get
  have I2 : Inv X pins σ (upd H1 (hp.objs.size + 1) (exo (hp.objs.size + 1) C none)) ⟨(hp.push (PySem.W.kdv_tup us)).push (PySem.HandSPX.excO C hp.objs.size), g, dr, tk, os⟩ :=
    I1.laid (t' := tk) (a := hp.objs.size + 1) (o := exo (hp.objs.size + 1) C none) (h' := (hp.push (PySem.W.kdv_tup us)).push (PySem.HandSPX.excO C hp.objs.size)) kk hsz (exo_ok hget)
  have r2 : Vals (V.ref (hp.objs.size + 1) :: vs) (Value.ref (hp.objs.size + 1) :: us) := .cons rfl r1
  have hl : (Value.ref (hp.objs.size + 1) :: us).length = ps.length := by
    have e := r2.length
    rw [F1.len _ _ _ _ hq] at e
    exact e.symm
  have hus : us.length ≤ sizeLine := by
    rw [← Paired.length r1, sizeLine_eq]
    omega
  have hb2 := hb ⟨(hp.push (PySem.W.kdv_tup us)).push (PySem.HandSPX.excO C hp.objs.size), g, dr, tk, os⟩ (Value.ref (hp.objs.size + 1) :: us) I2.kIn (by rw [List.append_nil]; exact hl)
  rw [List.append_nil] at hb2
  refine wpAny_call (PySem.KX.callX FB hB B.noA B.noN (I1.kIn _ _ hC) (PySem.W.looks_findIn I1.kIn iC) (fun self => PySem.W.bind_fn I1.kIn self tI) hus
    (codeAny_mono (F1.run _ X.stack _ _ ⟨Value.ref (hp.objs.size + 1) :: us, []⟩ (Value.ref (hp.objs.size + 1) :: us) _ _ (fun _ _ _ => False) (hr.make C us []) (I2.env0.make C us []) hb2 r2 hq) fun r s' hq' => ?_))
  cases r with
  | error er => exact hx pins σ _ _ er s' I2 hq'
  | ok fl =>
    cases fl with
    | ret u => exact fin u s' I2 hq'
    | next => exact False.elim hq'
    | brk => exact False.elim hq'
    | cont => exact False.elim hq'
theorem pe_oexX {CX : CXT} {x : Str} {C fI : Addr} {k : Nat} {fd : FuncData} {ps : List Str} {sp : Sp} (B : XB Bi newId initId bm) (T : XCls X.K C newId bm) (iC : PySem.W.findIn X.K (.ref C) "__init__" = some (some (.ref fI))) (tI : PySem.W.typeIn X.K (.ref fI) = some (.type "function"))
    (F1 : FnOk X.prog X.w X.K X.mg X.base CX k fI fd ps sp) (hr : Room (k + 1) X.A) (hb : Binds X.K fd ps []) (hx : Passes CX X (fun _ _ _ => False)) (hm : X.mg x = some (.ref C)) (ha : PA X (e :: es) ta) (hg : Gl X x := by rfl)
    (hdb : (x == ("__debug__" : Str)) = false := by decide) (he : starEach (e :: es) X.env = (false, eval e X.env) :: starEach es X.env := by rfl) (hpl : (backTo pos (starEach es X.env)).any (·.1) = false := by rfl) :
    PE X (.Call (.Name x p) (e :: es) [] pos) (tMkV C sp ta) := by
  refine ⟨fun pins s σ H Q I h => ?_⟩
  refine wpAny_Call_Name_kw (ld_glob I hg hm ?_ hdb)
  refine PySem.W.callWith_K (h₀ := X.base) I.ok.mod.kin T.kC (thn (ha.run pos pins s σ H _ I h) fun us s1 ⟨vs, H1, I1, r1, hz, q1⟩ => ⟨I1.kIn, ?_⟩) he hpl
  obtain ⟨hp, g, dr, tk, os⟩ := s1
  refine run_oexX B T iC tI F1 hr hb hx I1 r1 hz (q1 _ (I1.hok.fresh (Nat.le_succ _))) fun u s' I2 hq' => ?_
  obtain ⟨v, H', I3, rv, ev, q3⟩ := I2.after hq'
  subst ev
  exact ⟨rv, ⟨V.ref (hp.objs.size + 1), H', ⟨I3.ok, I3.os, I3.bare, I3.base, I3.loc, I3.cell, I3.free, I3.freeC, I3.pin, I3.hok, I3.len⟩, rfl, q3⟩⟩
end
end L2

set_option Elab.async false
set_option linter.all false
set_option maxRecDepth 100000
set_option maxHeartbeats 4000000
namespace L2
open PySem PySem.Spec PyProof.Rows PySem.KX
section
variable {X : Cx} {o e : Expr} {es : List Expr} {to te : TE} {ta : TA} {f : Str} {p p' p1 p2 pos : Pos} {Bi newId initId : String} {bm : List Value}
/-- raise C(e, ..): the error's own dict is new -/
def tMkX (C : Addr) (sp : Sp) (ta : TA) : St → Hp → XK → Prop := fun σ H Q => ta σ H fun vs H1 => vs.length ≤ 1000 ∧ ∀ a, H1 a = none → sp (.ref a :: vs) (upd H1 a (exo a C none))
  (fun v H2 => v = .non ∧ ∃ (d : Addr) (fs : List (Str × V)), H2 a = some (exo a C (some d)) ∧ H2 d = some (exd d fs) ∧ H1 d = none ∧ Q (.ref C) (some d) (upd (del H2 a) d (.xd fs))) (fun _ _ _ => False)
theorem pmk_oexX {CX : CXT} {x : Str} {C fI : Addr} {k : Nat} {fd : FuncData} {ps : List Str} {sp : Sp} (B : XB Bi newId initId bm) (T : XCls X.K C newId bm) (iC : PySem.W.findIn X.K (.ref C) "__init__" = some (some (.ref fI))) (tI : PySem.W.typeIn X.K (.ref fI) = some (.type "function"))
    (F1 : FnOk X.prog X.w X.K X.mg X.base CX k fI fd ps sp) (hr : Room (k + 1) X.A) (hb : Binds X.K fd ps []) (hx : Passes CX X (fun _ _ _ => False)) (hm : X.mg x = some (.ref C)) (ha : PA X (e :: es) ta) (hg : Gl X x := by rfl)
    (hdb : (x == ("__debug__" : Str)) = false := by decide) (he : starEach (e :: es) X.env = (false, eval e X.env) :: starEach es X.env := by rfl) (hpl : (backTo pos (starEach es X.env)).any (·.1) = false := by rfl) :
    PMk X (.Call (.Name x p) (e :: es) [] pos) (tMkX C sp ta) := by
  intro pins s σ H Q I h
  refine wpAny_Call_Name_kw (ld_glob I hg hm ?_ hdb)
  refine PySem.W.callWith_K (h₀ := X.base) I.ok.mod.kin T.kC (thn (ha.run pos pins s σ H _ I h) fun us s1 ⟨vs, H1, I1, r1, hz, q1⟩ => ⟨I1.kIn, ?_⟩) he hpl
  obtain ⟨hp, g, dr, tk, os⟩ := s1
  have kk : ∀ b o, hp.get? b = some o → ((hp.push (PySem.W.kdv_tup us)).push (PySem.HandSPX.excO C hp.objs.size)).get? b = some o := fun b o e => Heap.get?_push_of_some _ (Heap.get?_push_of_some _ e)
  refine run_oexX B T iC tI F1 hr hb hx I1 r1 hz (q1 _ (I1.hok.fresh (Nat.le_succ _))) fun u s' I2 hq' => ?_
  obtain ⟨v, H2, os2, bare2, un2, hok2, rv, ev, d, fs, ea, ed, hd1, q2⟩ := hq'
  subst ev
  obtain ⟨h2, g2, d2, t2, os'⟩ := s'
  exact ⟨rv, mk_end (raises_own T.exC T.tyC) I1 (Nat.le_succ _) kk un2 hok2 os2 bare2 ea ed hd1 q2⟩
/-- e.f, e an exception held as a value -/
def tXA (K : PySem.W.Frag) (f : Str) (te : TE) : TE := fun σ H Q => te σ H fun x H1 => ∃ (a C d : Addr) (fs : List (Str × V)) (v : V), x = .ref a ∧ H1 a = some (exo a C (some d)) ∧ H1 d = some (exd d fs) ∧ XfC K C ∧ PySem.W.findIn K (.ref C) f = some none ∧ fs.lookup f = some v ∧ Q v H1
theorem pe_attr {n : Str} (he : PE X e te) (hb : attributeBase e n X.env (eval e X.env) = eval e X.env := by rfl) : PE X (.Attribute e n pos) (tXA X.K n te) := by
  refine ⟨fun pins s σ H Q I h => ?_⟩
  refine attr_of hb (thn (he.run pins s σ H _ I h) fun u s1 hh => ?_)
  obtain ⟨x, H1, I1, rx, a, C, d, fs, v, ex, ea, ed, T, hno, l, q⟩ := hh
  subst ex
  obtain rfl : u = Value.ref a := rx
  obtain ⟨t1, ho⟩ := exo_at I1.hok ea
  obtain ⟨mA, hns, hr⟩ := exd_at I1.hok ed
  obtain ⟨od, hod, hl⟩ := lookIn_ns hns
  obtain ⟨u, hu, ru⟩ := RelO.some_of (v := v) (o := mA n) (by rw [← l]; exact hr n)
  have J : PySem.W.InstAt s1.heap a ({ cls := .ref C, dict := some d, data := .fields #[.ref t1, .none, .none, .none, .bool false, .none] } : Obj) C (some od) := ⟨ho, rfl, rfl, hod⟩
  exact HandSPX.exc_get I1.kIn J T.ga T.gg T.exC (PySem.W.findObj_own T.hdC hno rfl (by rw [hl, hu])) (handed_of ru) ⟨v, H1, I1.tok _, ru, q⟩
/-- an exception with one argument (its tuple at t), no dict -/
def exM (C t a : Addr) : HO := .ext fun h => h.get? a = some ({ cls := .ref C, dict := none, data := .fields #[.ref t, .none, .none, .none, .bool false, .none] } : Obj)
theorem exM_ok {P : Program} {w : World} {H : Hp} {h : Heap} {a C t : Addr} (he : h.get? a = some ({ cls := .ref C, dict := none, data := .fields #[.ref t, .none, .none, .none, .bool false, .none] } : Obj)) : ObjOk P w H h a (exM C t a) :=
  ⟨he, ⟨_, he⟩, fun h1 h2 z k => k _ z⟩
theorem exM_at {P : Program} {w : World} {H : Hp} {h : Heap} {a C t : Addr} (hok : HOk P w H h) (he : H a = some (exM C t a)) : h.get? a = some ({ cls := .ref C, dict := none, data := .fields #[.ref t, .none, .none, .none, .bool false, .none] } : Obj) := by
  have x : ObjOk P w H h a (.ext fun h => h.get? a = some ({ cls := .ref C, dict := none, data := .fields #[.ref t, .none, .none, .none, .bool false, .none] } : Obj)) := hok a _ he
  exact x.1
/-- X(e), an own exception class without own __init__, as a value -/
def tXM (C : Addr) (te : TE) : TE := fun σ H Q => te σ H fun v H1 => ∀ t a, H1 t = none → H1 a = none → a ≠ t → Q (.ref a) (upd (upd H1 t (.tup [v])) a (exM C t a))
theorem pe_excT {C : Addr} {bmB : List Value} {B newId initId : String} {x : Str} {e : Expr} {te : TE} {p pos : Pos} (F : ExcBaseFacts B newId initId bmB) (q : PySem.W.excIn X.K C bmB newId = true) (gC : X.mg x = some (.ref C)) (kC : PySem.W.keepIn X.K (.ref C) = true) (he : PE X e te) (hg : Gl X x := by rfl)
    (hs : starEach [e] X.env = (false, eval e X.env) :: starEach [] X.env := by rfl) (hdb : (x == ("__debug__" : Str)) = false := by decide) :
    PE X (.Call (.Name x p) [e] [] pos) (tXM C te) := by
  refine ⟨fun pins s σ H Q I h => ?_⟩
  refine wpAny_Call_Name_kw (ld_glob I hg gC ?_ hdb)
  refine PySem.W.callWith_K (h₀ := X.base) I.ok.mod.kin kC ?_ hs (by rfl)
  rw [hs]
  show wpAny _ _ (spliced ((false, eval e X.env) :: backTo pos (starEach [] X.env))) _ _ s
  refine Calls.spliced_cons (thn (he.run pins s σ H _ I h) fun u s1 ⟨v, H1, I1, r1, q1⟩ => ?_)
  refine Calls.spliced_nil ⟨I1.kIn, ?_⟩
  show wpAny _ _ (call (.ref C) [u]) _ _ _
  obtain ⟨bm, N, nm, qn, bs, hdct, sn, sub, ab, col, dd, k0, k1, k2, k3, k5, mN, hC, hN, hni, T⟩ := exc_obj I1.kIn q
  refine wpAny_call_exc_subT F T hC hN hni (fun h' a hm => ?_) (by show 1 ≤ sizeLine; rw [sizeLine_eq]; omega)
  have hn : H1 a = none := I1.hok.gone hm.new
  obtain ⟨t, ha, hnt, ht⟩ := hm.there
  have htn : H1 t = none := I1.hok.gone hnt
  have hat : a ≠ t := fun z => by
    rw [z, ht] at ha
    cases ha
  -- first the arguments, then the exception
  have un : Un X.fs [] H1 (upd (upd H1 t (.tup [v])) a (exM C t a)) s1.heap h' := {
    keep := fun b o z n _ _ => hm.keeps b o z
    slot := fun b o z n _ _ => ⟨o.slots, hm.keeps b o z⟩
    free := fun b o z n _ => by
      have nb : b ≠ a := fun y => by rw [y, hm.new] at z; cases z
      have nt : b ≠ t := fun y => by rw [y, hnt] at z; cases z
      rw [upd_ne nb, upd_ne nt]; exact n
    there := fun b o z _ => ⟨o, hm.keeps b o z⟩
    tups := fun b xs z => by rw [upd_ne (ne_of_none z hn), upd_ne (ne_of_none z htn)]; exact z
    frzs := fun b o u z => by rw [upd_ne (ne_of_none z hn), upd_ne (ne_of_none z htn)]; exact z
    tbls := fun b ps z => ⟨#[], by rw [upd_ne (ne_of_none z hn), upd_ne (ne_of_none z htn), z]; simp⟩ }
  have ok2 : HOk X.prog X.w (upd (upd H1 t (.tup [v])) a (exM C t a)) h' := fun b o z => by
    by_cases hb : b = a
    · subst hb
      rw [upd_same] at z
      cases z
      exact exM_ok ha
    · rw [upd_ne hb] at z
      by_cases hb2 : b = t
      · subst hb2
        rw [upd_same] at z
        cases z
        refine ⟨by show 1 ≤ sizeLine; rw [sizeLine_eq]; omega, [u], .cons r1 .nil, ⟨_, ht, rfl, _, rfl⟩⟩
      · rw [upd_ne hb2] at z
        exact (I1.hok b o z).stay (fun c w' _ y => hm.keeps c w' y) (fun c y => by rw [upd_ne (ne_of_none y hn), upd_ne (ne_of_none y htn)]; exact y) fun c xs y => by rw [upd_ne (ne_of_none y hn), upd_ne (ne_of_none y htn)]; exact y
  exact ⟨.ref a, _, I1.un (t' := s1.toks) un ok2, rfl, q1 t a htn hn hat⟩
/-- what isinstance asks of an own exception class -/
structure XI (K : PySem.W.Frag) (C : Addr) : Prop where
  cl : (PySem.W.clsIn K C).isSome = true
  ga : PySem.W.findIn K (.ref C) "__getattribute__" = some (some (.builtin "BaseException.__getattribute__"))
  gg : PySem.W.findIn K (.ref C) "__getattr__" = some none
  ex : PySem.W.subIn K (.ref C) (.type "BaseException") = some true
  ca : PySem.W.findIn K (.ref C) "__class__" = some (some (.builtin "object.__class__"))
  cn : PySem.W.specialIn K (.builtin "object.__class__") "__get__" = some (some (.builtin "getset_descriptor.__get__"))
  ct : PySem.W.takesIn K (.builtin "object.__class__") = some true
  mo : PySem.W.mroIn K C (.type "object") = some true
def xiB (K : PySem.W.Frag) (C : Addr) : Bool := (PySem.W.clsIn K C).isSome && (decide (PySem.W.findIn K (.ref C) "__getattribute__" = some (some (.builtin "BaseException.__getattribute__"))) && (decide (PySem.W.findIn K (.ref C) "__getattr__" = some none) &&
  (decide (PySem.W.subIn K (.ref C) (.type "BaseException") = some true) && (decide (PySem.W.findIn K (.ref C) "__class__" = some (some (.builtin "object.__class__"))) && (decide (PySem.W.specialIn K (.builtin "object.__class__") "__get__" = some (some (.builtin "getset_descriptor.__get__"))) &&
  (decide (PySem.W.takesIn K (.builtin "object.__class__") = some true) && decide (PySem.W.mroIn K C (.type "object") = some true)))))))
theorem xiB_ok {K : PySem.W.Frag} {C : Addr} (h : xiB K C = true) : XI K C := by
  obtain ⟨h1, h⟩ := Bool.and_eq_true_iff.mp h
  obtain ⟨h2, h⟩ := Bool.and_eq_true_iff.mp h
  obtain ⟨h3, h⟩ := Bool.and_eq_true_iff.mp h
  obtain ⟨h4, h⟩ := Bool.and_eq_true_iff.mp h
  obtain ⟨h5, h⟩ := Bool.and_eq_true_iff.mp h
  obtain ⟨h6, h⟩ := Bool.and_eq_true_iff.mp h
  obtain ⟨h7, h8⟩ := Bool.and_eq_true_iff.mp h
  exact ⟨h1, of_decide_eq_true h2, of_decide_eq_true h3, of_decide_eq_true h4, of_decide_eq_true h5, of_decide_eq_true h6, of_decide_eq_true h7, of_decide_eq_true h8⟩
/-- a value's type, exceptions of own classes too -/
inductive TyE (K : PySem.W.Frag) (H : Hp) : V → Value → Prop where
  | x {v : V} {t : Value} (h : TyX K H v t) : TyE K H v t
  | m {a C t : Addr} (e : H a = some (exM C t a)) (c : XI K C) : TyE K H (.ref a) (.ref C)
  | o {a C d : Addr} {fs : List (Str × V)} (e : H a = some (exo a C (some d))) (ed : H d = some (exd d fs)) (c : XI K C) : TyE K H (.ref a) (.ref C)
/-- isinstance(x, c), c a class -/
def rIsiE (K : PySem.W.Frag) : List V → Hp → VK → Prop := fun xs H Q => ∃ (x c : V) (t u : Value) (b : Bool), xs = [x, c] ∧ ClsV c u ∧ TyE K H x t ∧ PySem.W.kitOne K t u = some b ∧ Q (.bl b) H
theorem call_isiA : CallR X (.builtin "isinstance") (rIsiE X.K) := by
  intro pins s σ H xs us Q I r h
  obtain ⟨x, c, t, u, b, rfl, k, ty, e, q⟩ := h
  cases ty with
  | x ty => exact call_isi pins s σ H _ us Q I r ⟨x, c, t, u, b, rfl, k, ty, e, q⟩
  | @m a C t1 ea T =>
    obtain ⟨u1, u2, rfl, r1, r2⟩ := vals2 r
    have e2 := k.eq r2
    subst e2
    obtain rfl : u1 = Value.ref a := r1
    have ho := exM_at I.hok ea
    exact PySem.W.kia_one (PySem.W.kitx_exc (od := none) T.cl T.ga T.gg T.ex T.ca T.cn T.ct T.mo) I.kIn ⟨ho, rfl, rfl, trivial⟩ e (fun z => nomatch z) fun tk => ⟨.bl b, H, I.tok tk, rfl, q⟩
  | @o a C d fs ea ed T =>
    obtain ⟨u1, u2, rfl, r1, r2⟩ := vals2 r
    have e2 := k.eq r2
    subst e2
    obtain rfl : u1 = Value.ref a := r1
    obtain ⟨t1, ho⟩ := exo_at I.hok ea
    obtain ⟨mA, hns, hr⟩ := exd_at I.hok ed
    obtain ⟨od, hod, hl⟩ := lookIn_ns hns
    exact PySem.W.kia_one (PySem.W.kitx_exc (od := some od) T.cl T.ga T.gg T.ex T.ca T.cn T.ct T.mo) I.kIn ⟨ho, rfl, rfl, hod⟩ e (fun z => nomatch z) fun tk => ⟨.bl b, H, I.tok tk, rfl, q⟩
/-- str(x): of a text; of an exception made with one text -/
def rStrA (K : PySem.W.Frag) : List V → Hp → VK → Prop := fun xs H Q => match xs with
  | [.str a] => Q (.str a) H
  | [.ref a] => ∃ (C t : Addr) (m : Str), H a = some (exM C t a) ∧ H t = some (.tup [.str m]) ∧ PySem.W.findIn K (.ref C) "__str__" = some (some (.builtin "BaseException.__str__")) ∧ PySem.W.subIn K (.ref C) (.type "BaseException") = some true ∧ Q (.str m) H
  | _ => False
theorem call_strA (hu : X.A.units + 64 < cLine) : CallR X (.type "str") (rStrA X.K) := by
  intro pins s σ H xs us Q I r h
  unfold rStrA at h
  split at h
  · exact SkE.call_str_str pins s σ H _ us Q I r ⟨_, rfl, h⟩
  · rename_i a
    obtain ⟨C, t, m, ea, et, hs, hB, q⟩ := h
    obtain ⟨u, rfl, ru⟩ := vals1 r
    obtain rfl : u = Value.ref a := ru
    have ho := exM_at I.hok ea
    obtain ⟨its, rv, ⟨ot, hot, hc, n, hd⟩, _⟩ := I.tuple (SqT.of et)
    cases rv with
    | cons r1 r2 =>
      cases r2
      obtain ⟨tk, rfl⟩ := r1
      exact PySem.P.str_of_C_one (by omega) ⟨I.kIn, _, _, ho, rfl, rfl, rfl⟩ ⟨ot, n, hot, hc, hd⟩ hs hB ⟨.str m, H, I, ⟨tk, rfl⟩, q⟩
  · exact h.elim
/-- repr(x) of data -/
def rReprD (K : PySem.W.Frag) : List V → Hp → VK → Prop := fun xs H Q => ∃ (a : Addr) (d : PyData), xs = [.ref a] ∧ Dp K H (.ref a) d ∧ d.showable = true ∧ d.hasDict = false ∧ d.depth ≤ 60 ∧ d.shown.length ≤ sizeLine ∧ Q (.str d.shown) H
theorem call_reprA {k : Nat} (hr : RoomG k X.A) : CallR X (.builtin "repr") (rReprD X.K) := by
  intro pins s σ H xs us Q I r h
  obtain ⟨a, d, rfl, hd, h1, h2, h3, h4, q⟩ := h
  obtain ⟨u, rfl, ru⟩ := vals1 r
  obtain rfl : u = Value.ref a := ru
  obtain ⟨as, rd⟩ := Dp.reads I d _ _ hd rfl
  have hu := hr.units64
  exact repr_of_reads' (h₀ := s.heap) rd h1 (PyData.noDict_hsm h2) hr.g (by omega) (fun _ _ e => e) (fun h' u tk hk => ⟨.str d.shown, H, I.kept (t' := tk) hk, ⟨u, rfl⟩, q⟩) h4
end
end L2

set_option Elab.async false
set_option linter.all false
set_option maxRecDepth 100000
set_option maxHeartbeats 4000000
/-! Data on the abstract heap. -/
namespace L2
open PySem PySem.Spec PyProof.Rows PySem.KX
section
variable {K : PySem.W.Frag} {H H' : Hp} {v : V} {vs : List V} {d : PyData} {ds : List PyData}
theorem Same.rd {H H' : Hp} {a : Addr} {u : HO} (e : Same H H') (h : Rd H a u) : Rd H' a u := by
  rcases h with h | ⟨o, h⟩
  · exact .inl (e _ _ h)
  · exact .inr ⟨o, e _ _ h⟩
theorem Same.sqT {a : Addr} {xs : List V} (e : Same H H') (h : SqT K H a xs) : SqT K H' a xs := by
  rcases h with h | h
  · exact .inl (e.rd h)
  · exact .inr h
theorem Same.sqL {a : Addr} {xs : List V} (e : Same H H') (h : SqL K H a xs) : SqL K H' a xs := e.seq h
mutual
theorem Dp.same (e : Same H H') : ∀ (d : PyData) (v : V), Dp K H v d → Dp K H' v d
  | .none, _, h => by cases h; exact .non
  | .bool b, _, h => by cases h; exact .bl b
  | .int i, _, h => by cases h; exact .int i
  | .str x, _, h => by cases h; exact .str x
  | .list ds, _, h => by
    cases h with
    | lst hs ha => exact .lst (e.sqL hs) (DpAll.same e ds _ ha)
  | .tuple ds, _, h => by
    cases h with
    | tup hs ha => exact .tup (e.sqT hs) (DpAll.same e ds _ ha)
  | .dict _, _, h => by cases h
theorem DpAll.same (e : Same H H') : ∀ (ds : List PyData) (vs : List V), DpAll K H vs ds → DpAll K H' vs ds
  | [], _, h => by cases h; exact .nil
  | d :: ds, _, h => by
    cases h with
    | cons h1 h2 => exact .cons (Dp.same e d _ h1) (DpAll.same e ds _ h2)
end
theorem DpAll.length : ∀ {vs : List V} {ds : List PyData}, DpAll K H vs ds → vs.length = ds.length
  | _, _, .nil => rfl
  | _, _, .cons _ t => congrArg (· + 1) (DpAll.length t)
theorem DpAll.get : ∀ {vs : List V} {ds : List PyData} {i : Nat} {v : V}, DpAll K H vs ds → vs[i]? = some v → ∃ d, ds[i]? = some d ∧ Dp K H v d
  | _, _, i, v, .nil, e => by simp at e
  | _, _, 0, v, .cons h _, e => by
    simp at e
    subst e
    exact ⟨_, rfl, h⟩
  | _, _, i + 1, v, .cons _ t, e => by
    obtain ⟨d, h1, h2⟩ := DpAll.get (i := i) (v := v) t (by simpa using e)
    exact ⟨d, by simpa using h1, h2⟩
theorem DpAll.snoc : ∀ {vs : List V} {ds : List PyData}, DpAll K H vs ds → Dp K H v d → DpAll K H (vs ++ [v]) (ds ++ [d])
  | _, _, .nil, h => .cons h .nil
  | _, _, .cons h1 t, h => .cons h1 (DpAll.snoc t h)
theorem depth_mem : ∀ {ds : List PyData} {i : Nat} {d : PyData}, ds[i]? = some d → d.depth ≤ PyData.depthAll ds
  | [], i, d, e => by simp at e
  | x :: xs, 0, d, e => by
    simp at e
    subst e
    simp only [PyData.depthAll]
    exact Nat.le_max_left _ _
  | x :: xs, i + 1, d, e => by
    have := depth_mem (ds := xs) (i := i) (d := d) (by simpa using e)
    simp only [PyData.depthAll]
    exact Nat.le_trans this (Nat.le_max_right _ _)
/-- the name of a datum's type -/
def tyOfD : PyData → String
  | .none => "NoneType"
  | .bool _ => "bool"
  | .int _ => "int"
  | .str _ => "str"
  | .list _ => "list"
  | .tuple _ => "tuple"
  | .dict _ => "dict"
theorem Dp.ty (h : Dp K H v d) : TyE K H v (.type (tyOfD d)) := by
  cases h with
  | non => exact .x (.base .non)
  | bl b => exact .x (.base (.bl b))
  | int i => exact .x (.base (.int i))
  | str x => exact .x (.base (.str x))
  | lst hs ha =>
    rcases hs with (hs | ⟨o, hs⟩) | ⟨o, its, n, hk, hc, _⟩
    · exact .x (.base (.lst hs))
    · exact .x (.base (.frz hs))
    · exact .x (.kList hk hc)
  | tup hs ha =>
    rcases hs with (hs | ⟨o, hs⟩) | ⟨o, its, n, hk, hc, _⟩
    · exact .x (.base (.tup hs))
    · exact .x (.fTuple hs)
    · exact .x (.kTuple hk hc)
mutual
/-- at most 1000 items in each list and tuple -/
def smallD : PyData → Bool
  | .list xs => decide (xs.length ≤ 1000) && smallAll xs
  | .tuple xs => decide (xs.length ≤ 1000) && smallAll xs
  | .dict _ => false
  | .none => true
  | .bool _ => true
  | .int _ => true
  | .str _ => true
def smallAll : List PyData → Bool
  | [] => true
  | x :: xs => smallD x && smallAll xs
end
theorem small_lst {ds : List PyData} (h : smallD (.list ds) = true) : ds.length ≤ 1000 ∧ smallAll ds = true := by
  simp only [smallD, Bool.and_eq_true, decide_eq_true_eq] at h
  exact h
theorem small_tup {ds : List PyData} (h : smallD (.tuple ds) = true) : ds.length ≤ 1000 ∧ smallAll ds = true := by
  simp only [smallD, Bool.and_eq_true, decide_eq_true_eq] at h
  exact h
theorem small_mem : ∀ {ds : List PyData} {i : Nat} {d : PyData}, smallAll ds = true → ds[i]? = some d → smallD d = true
  | [], i, d, _, e => by simp at e
  | x :: xs, 0, d, h, e => by
    simp at e
    subst e
    simp only [smallAll, Bool.and_eq_true] at h
    exact h.1
  | x :: xs, i + 1, d, h, e => by
    simp only [smallAll, Bool.and_eq_true] at h
    exact small_mem (ds := xs) (i := i) h.2 (by simpa using e)
/-- the heap without the objects at B -/
def hide (B : List Addr) (H : Hp) : Hp := fun b => if b ∈ B then none else H b
theorem hide_of {B : List Addr} {H : Hp} {b : Addr} {o : HO} (h : hide B H b = some o) : H b = some o ∧ b ∉ B := by
  unfold hide at h
  by_cases e : b ∈ B
  · rw [if_pos e] at h; cases h
  · rw [if_neg e] at h; exact ⟨h, e⟩
theorem hide_in {B : List Addr} {H : Hp} {b : Addr} (h : b ∉ B) : hide B H b = H b := if_neg h
theorem hide_sub {B : List Addr} {H : Hp} : Same (hide B H) H := fun b o e => (hide_of e).1
theorem hide_same {B : List Addr} (e : Same H H') : Same (hide B H) (hide B H') := fun b o h => by
  obtain ⟨h1, h2⟩ := hide_of h
  rw [hide_in h2]
  exact e _ _ h1
theorem hide_more {B : List Addr} {D : Addr} : Same (hide (D :: B) H) (hide B H) := fun b o h => by
  obtain ⟨h1, h2⟩ := hide_of h
  rw [hide_in (fun z => h2 (List.mem_cons_of_mem _ z))]
  exact h1
theorem hide_upd {B : List Addr} {D : Addr} {o : HO} : hide (D :: B) (upd H D o) = hide (D :: B) H := by
  funext b
  unfold hide
  by_cases e : b ∈ D :: B
  · rw [if_pos e, if_pos e]
  · rw [if_neg e, if_neg e, upd_ne (fun z => e (by rw [z]; exact List.mem_cons_self))]
theorem hide_new {B : List Addr} {D : Addr} (h : H D = none) : hide (D :: B) H = hide B H := by
  funext b
  unfold hide
  by_cases e : b = D
  · subst e
    by_cases e2 : b ∈ B
    · rw [if_pos (List.mem_cons_self), if_pos e2]
    · rw [if_pos (List.mem_cons_self), if_neg e2, h]
  · by_cases e2 : b ∈ B
    · rw [if_pos (List.mem_cons_of_mem _ e2), if_pos e2]
    · rw [if_neg (fun z => (List.mem_cons.mp z).elim e e2), if_neg e2]
theorem hide_nil : hide [] H = H := by
  funext b
  exact if_neg (by simp)
end
section
variable {X : Cx}
def rTupA (K : PySem.W.Frag) : List V → Hp → VK → Prop := fun vs H Q => match vs with
  | [.ref p] => (∃ ys, SqL K H p ys ∧ ∀ l, H l = none → Q (.ref l) (upd H l (.tup ys))) ∨ ∃ ys, SqT K H p ys ∧ Q (.ref p) H
  | _ => False
theorem call_tupleA : CallR X (.type "tuple") (rTupA X.K) := call_tuple_of.imp fun xs H Q h => by
  unfold rTupA at h
  split at h
  · rcases h with ⟨ys, h1, h2⟩ | ⟨ys, h1, h2⟩
    · exact ⟨_, ys, rfl, .inl ⟨h1, h2⟩⟩
    · exact ⟨_, ys, rfl, .inr ⟨h1, h2⟩⟩
  · exact h.elim
def rListA (K : PySem.W.Frag) : List V → Hp → VK → Prop := fun vs H Q => match vs with
  | [.ref p] => ∃ ys, (SqL K H p ys ∨ SqT K H p ys) ∧ ∀ l, H l = none → Q (.ref l) (upd H l (.lst ys))
  | _ => False
theorem call_listA : CallR X (.type "list") (rListA X.K) := call_list_of.imp fun xs H Q h => by
  unfold rListA at h
  split at h
  · obtain ⟨ys, h1, h2⟩ := h
    exact ⟨_, ys, rfl, h1, h2⟩
  · exact h.elim
end
/-- a def that other defs of the plain layer call -/
structure OwnK (P : Program) (w : World) (K : PySem.W.Frag) (mg : Str → Option Value) (base : Heap) (CX : CXT) (x : Str) (k : Nat) (ps : List Str) (sp : Sp) : Prop where
  ex : ∃ f fd, FnOk P w K mg base CX k f fd ps sp ∧ mg x = some (.ref f) ∧ PySem.W.keepIn K (.ref f) = true ∧ Binds K fd ps []
theorem OwnK.g {P : Program} {w : World} {K : PySem.W.Frag} {mg : Str → Option Value} {base : Heap} {CX : CXT} {x : Str} {k : Nat} {ps : List Str} {sp : Sp} (O : OwnK P w K mg base CX x k ps sp) : Own P w K mg base CX x k ps sp := by
  obtain ⟨f, fd, F, r⟩ := O.ex
  exact ⟨f, fd, FnG.of F, r⟩
section
variable {X : Cx} {CX : CXT} {k j : Nat} {ps : List Str} {sp : Sp} {x : Str} {p pos : Pos} {e : Expr} {es : List Expr} {t : TA}
theorem pe_ownK (O : OwnK X.prog X.w X.K X.mg X.base CX0 x k ps sp) (hr : Room j X.A) (ha : PA X (e :: es) t) (hk : k ≤ j := by decide) (hg : Gl X x := by rfl) (hdb : (x == ("__debug__" : Str)) = false := by decide)
    (he : starEach (e :: es) X.env = (false, eval e X.env) :: starEach es X.env := by rfl) (hpl : (backTo pos (starEach es X.env)).any (·.1) = false := by rfl) : PE X (.Call (.Name x p) (e :: es) [] pos) (tCall sp [] E0 t) := by
  obtain ⟨f, fd, F, hm, hkp, hb⟩ := O.ex
  exact pe_call F (hr.mono hk) hg hm hkp hb .nil pass0 ha hdb he hpl
end
theorem pe_gref {X : Cx} {x : Str} {a : Addr} {pos : Pos} (hm : X.mg x = some (.ref a)) (hg : Gl X x := by rfl) (hd : (x == ("__debug__" : Str)) = false := by decide) : PE X (.Name x pos) (tC (.ref a)) := pe_glob hg hm rfl hd
end L2

set_option Elab.async false
set_option linter.all false
set_option maxRecDepth 100000
set_option maxHeartbeats 4000000
/-! try: raise C('..') except x as n: a suite that asks str(n). -/
namespace L2
open PySem PySem.Spec PyProof.Rows PySem.KX
/-- an exception of C without a dict whose arguments lie at t -/
def Zm (C t : Addr) : Obj → Prop := fun o => o.cls = .ref C ∧ o.dict = none ∧ ∀ vs : Array Value, o.data = .fields vs → vs[0]? = some (.ref t)
theorem Zm.steady {C t : Addr} : PXN.Steady1 (Zm C t) := fun o v h => by
  refine ⟨PXN.steady_cls o v h.1, PXN.steady_dict o v h.2.1, ?_⟩
  have h3 := h.2.2
  obtain ⟨c, d, dt, sl⟩ := o
  cases dt with
  | fields vs0 =>
    intro vs e
    have e2 : vs0.setIfInBounds 1 v = vs := Data.fields.inj e
    have e3 : (vs0.setIfInBounds 1 v)[0]? = vs0[0]? := by
      first
      | exact Array.getElem?_setIfInBounds_ne (by decide)
      | simp [Array.getElem?_setIfInBounds]
    rw [← e2, e3]
    exact h3 vs0 rfl
  | _ =>
    intro vs e
    cases e
section
variable {X : Cx} {x n y : Str} {c : Value} {i j : Nat} {suite : List Stmt} {b₀ : Stmt} {np p p2 pos pos' pos1 pos2 : Pos} {m : Str} {ts : Addr → Addr → TS} {C : Addr} {bmB : List Value} {B newId initId : String}
theorem ps_try_msg (hs : X.stack = X.env :: X.outer) (hf : X.env.frame = some X.env.locals) (hN : X.N.Nodup) (hi : X.N[i]? = some n) (hln : X.env.kindOf n = some .local) (hc : Names X x c) (hcalm : X.calm = true)
    (FB : ExcBaseFacts B newId initId bmB) (q : PySem.W.excIn X.K C bmB newId = true) (gC : X.mg y = some (.ref C)) (kC : PySem.W.keepIn X.K (.ref C) = true) (r : Raises X (.ref C)) (hb1 : PySem.W.exmOne X.K (.ref C) c = some true)
    (hsu : ∀ (a : Addr) (oe : Obj) (t : Addr) (pn : List (Addr × Obj)), Zm C t oe → (∃ vs, oe.data = .fields vs) → PSs (X.suite a ((a, oe) :: pn)) (b₀ :: suite) (ts a t)) (hg : Gl X y := by rfl) (hdb : (y == ("__debug__" : Str)) = false := by decide) :
    PS X (.Try [.Raise (some (.Call (.Name y p) [.Constant (.str m) j p2] [] pos1)) none pos2] [.ExceptHandler (some (.Name x np)) (some n) (b₀ :: suite) pos'] [] [] pos)
      (fun D σ H => ∀ t a, H t = none → H a = none → a ≠ t → ts a t { nx := fun σ' H' => D.nx (σ'.set i none) H', rt := D.rt, bk := fun σ' H' => D.bk (σ'.set i none) H', ct := fun σ' H' => D.ct (σ'.set i none) H' } (σ.set i (some (.ref a))) (upd H t (.tup [.str m]))) := by
  refine ⟨fun pins s σ H D I h => ?_⟩
  have ok := I.ok
  have hfr : X.A.frames = some (X.env :: X.outer) := by rw [ok.frames, hs]
  have hloc : Loc X.env.scope n := .inl hln
  refine wpAny_Try_except ?_
  refine wpAny_execs_cons ?_
  show wpAny _ _ (do standAt pos2; raiseStmt X.env (some (do let v ← eval (.Call (.Name y p) [.Constant (.str m) j p2] [] pos1) X.env; standAt pos2; pure v)) none) _ _ _
  refine wpAny_bind (wpAny_standAt (raise_made (I.ok.hd hcalm) (wpAny_bind ?_)))
  refine wpAny_Call_Name_kw (ld_glob I hg gC ?_ hdb)
  refine PySem.W.callWith_K (h₀ := X.base) I.ok.mod.kin kC ?_ (by rfl) (by rfl)
  show wpAny _ _ (spliced ((false, eval (.Constant (.str m) j p2) X.env) :: backTo pos1 (starEach [] X.env))) _ _ s
  refine Calls.spliced_cons (Calls.Constant_str ?_)
  have I1 : Inv X pins σ H { s with toks := s.toks + 1 } := I.tok _
  refine Calls.spliced_nil ⟨I1.kIn, ?_⟩
  show wpAny _ _ (call (.ref C) [Value.str m s.toks]) _ _ _
  obtain ⟨bm, N, nm, qn, bs, hdct, sn, sub, ab, col, dd, k0, k1, k2, k3, k5, mN, hC, hN', hni, T⟩ := exc_obj I1.kIn q
  refine wpAny_call_exc_subT FB T hC hN' hni (fun h' a hm => ?_) (by show 1 ≤ sizeLine; rw [sizeLine_eq]; omega)
  refine wpAny_bind (wpAny_standAt (wpAny_pure ?_))
  have na : H a = none := I1.hok.gone hm.new
  obtain ⟨t, ha, hnt, ht⟩ := hm.there
  have htn : H t = none := I1.hok.gone hnt
  have hat : a ≠ t := fun z => by
    rw [z, ht] at ha
    cases ha
  obtain ⟨r1, r2⟩ := r (model X.prog X.w) h' (I1.kIn.keeps hm.keeps)
  refine ⟨a, _, _, .ref C, rfl, ha, rfl, rfl, rfl, r1, r2, ?_⟩
  -- the state without the exception
  obtain ⟨G, g1, g2⟩ := restrict h' fun b => decide (b ≠ a)
  have gk : ∀ b, b ≠ a → G.get? b = h'.get? b := fun b hb => g1 b (decide_eq_true hb)
  have ge : G.get? a = none := g2 a (by simp)
  have gs : ∀ b o, G.get? b = some o → h'.get? b = some o := fun b o e => by
    by_cases hb : b = a
    · rw [hb, ge] at e; cases e
    · exact (gk b hb).symm.trans e
  have keepG : ∀ b o, s.heap.get? b = some o → G.get? b = some o := fun b o z => by
    have nb : b ≠ a := fun w => by rw [w, hm.new] at z; cases z
    rw [gk b nb]
    exact hm.keeps b o z
  have ntb : ∀ b o, s.heap.get? b = some o → b ≠ t := fun b o z w => by rw [w, hnt] at z; cases z
  have ok2 : HOk X.prog X.w (upd H t (.tup [.str m])) G := fun b o z => by
    by_cases hb : b = t
    · subst hb
      rw [upd_same] at z
      cases z
      refine ⟨by show 1 ≤ sizeLine; rw [sizeLine_eq]; omega, [Value.str m s.toks], .cons ⟨_, rfl⟩ .nil, ⟨_, (gk b (Ne.symm hat)).trans ht, rfl, _, rfl⟩⟩
    · rw [upd_ne hb] at z
      exact (I1.hok b o z).stay (fun c w' _ w => keepG c w' w) (fun c w => by rw [upd_ne (ne_of_none w htn)]; exact w) fun c xs w => by rw [upd_ne (ne_of_none w htn)]; exact w
  have un : Un X.fs [] H (upd H t (.tup [.str m])) s.heap G := {
    keep := fun b o z nn _ _ => keepG b o z
    slot := fun b o z nn _ _ => ⟨o.slots, keepG b o z⟩
    free := fun b o z nn _ => by rw [upd_ne (ntb b o z)]; exact nn
    there := fun b o z _ => ⟨o, keepG b o z⟩
    tups := fun b xs z => by rw [upd_ne (ne_of_none z htn)]; exact z
    frzs := fun b o u z => by rw [upd_ne (ne_of_none z htn)]; exact z
    tbls := fun b ps z => ⟨#[], by rw [upd_ne (ne_of_none z htn), z]; simp⟩ }
  have J : Inv X pins σ (upd H t (.tup [.str m])) { s with heap := G, toks := s.toks + 1 } := I.un (t' := s.toks + 1) un ok2
  have naH : (upd H t (.tup [.str m])) a = none := by rw [upd_ne hat]; exact na
  have sky' : L2.Sky (PySem.W.hideAll G (frs X.stack)) (X.env :: X.outer) a (Zm C t) X.env.locals h' := by
    refine .inl ⟨fun b o e => gs b o (PySem.W.of_hideAll _ e), ?_, ?_, _, _, ha, ⟨rfl, rfl, fun vs e => ?_⟩, rfl, rfl⟩
    · cases qq : (PySem.W.hideAll G (frs X.stack)).get? a with
      | none => rfl
      | some o =>
        have z := PySem.W.of_hideAll _ qq
        rw [ge] at z; cases z
    · rw [← hs]
      exact Heap.FunFrames.of_keeps (fun b o e _ => ⟨o, gs b o e, rfl⟩) (funFrames_none J.stack fun b hb => PySem.W.hideAll_none _ hb)
    · cases e
      rfl
  have nb : ∀ b o, G.get? b = some o → b ∉ frs X.stack → (PySem.W.hideAll G (frs X.stack)).get? b = some o := fun b o e hb => PySem.W.hideAll_get _ e hb
  have up : G.UpToSlots h' := Heap.UpToSlots.of_keeps gs
  show wpAny (model X.prog X.w) X.A (noteFrame (.ref a) X.env) _ _ _
  refine L2N.Sky.land Zm.steady hfr hf sky' fun h3 fl3 up3 => ?_
  have J3 : Inv X pins σ (upd H t (.tup [.str m])) { s with heap := h3, toks := s.toks + 1 } := J.landed (s' := { s with heap := h3, toks := s.toks + 1 }) nb fl3.1 (up.trans up3) rfl I.bare
  obtain ⟨oe3, vs3, he3, hz3, hd3⟩ := fl3.there
  have notFr : ∀ {h : Heap} {o : Obj} {vs : Array Value}, h.FunFrames (PySem.W.hideAll G (frs X.stack)) (X.env :: X.outer) → h.get? a = some o → o.data = .fields vs → a ∉ frs (X.env :: X.outer) := fun {h o vs} ff e dd hm => by
    obtain ⟨_, o', e', hnf⟩ := ff.mem hm
    rw [e] at e'; cases e'
    exact hnf _ dd
  have nfr := notFr fl3.2.2.1 he3 hd3
  have nL : a ≠ X.env.locals := fun z => nfr (List.mem_filterMap.mpr ⟨X.env, List.mem_cons_self, by rw [hf, z]⟩)
  have nF : a ∉ X.fs := fun hm => by
    obtain ⟨e, he, q⟩ := List.mem_filterMap.mp hm
    exact nfr (List.mem_filterMap.mpr ⟨e, List.mem_cons_of_mem _ he, q⟩)
  have S3 := J3.suite he3 hd3 naH nL nF
  refine wpAny_handleBy_cons (codeAny_handlers_test ?_) (by intro q; cases q)
  have LT : PySem.W.Looks (model X.prog X.w) h3 (typeOf (.ref a)) (.ref C) := fun A Q E s k q => wpAny_typeOf_ref (k _ _ he3) (by rw [hz3.1]; exact q)
  have LM := PySem.W.exm_one (M := model X.prog X.w) (J3.kIn) LT hb1
  have test : ∀ {Q : Value → Shared → Prop} {E : Value → Shared → Prop}, Q c { s with heap := h3, toks := s.toks + 1 } → wpAny (model X.prog X.w) (X.A.mark (some (.ref a))) (eval (.Name x np) X.env) Q E { s with heap := h3, toks := s.toks + 1 } := fun {Q E} q => by
    obtain ⟨hg, hdbg, hm | ⟨hm, hv, hnn⟩⟩ := hc
    · exact ld_glob (X := X.suite a ((a, oe3) :: (X.pn ++ pins))) S3 hg hm q hdbg
    · exact ld_blt (X := X.suite a ((a, oe3) :: (X.pn ++ pins))) S3 hg hm hv q hnn hdbg
  refine test (LM.here ?_)
  refine codeAny_handlers_suite_as ?_
  refine HandSPX.lands_againZ fl3 fun h4 fl4 up4 => ?_
  have J4 : Inv X pins σ (upd H t (.tup [.str m])) { s with heap := h4, toks := s.toks + 1 } := J.landed (s' := { s with heap := h4, toks := s.toks + 1 }) nb fl4.1 ((up.trans up3).trans up4) rfl I.bare
  obtain ⟨oe4, vs4, he4, hz4, hd4⟩ := fl4.there
  have S4 := J4.suite he4 hd4 naH nL nF
  refine store_ok (X := X.suite a ((a, oe4) :: (X.pn ++ pins))) (v := .ref a) S4 hN hi hloc rfl (fun s5 S5 => ?_) (.inr hln)
  refine wpAny_mono ((hsu a oe4 t (X.pn ++ pins) hz4 ⟨_, hd4⟩).run [] s5 _ _ _ S5 (h t a htn na hat)) (fun f s6 hsp => ?_) (fun _ _ z => False.elim z)
  have end_ : ∀ {σ6 : St} {H6 : Hp} {Q : Shared → Prop}, Inv (X.suite a ((a, oe4) :: (X.pn ++ pins))) [] σ6 H6 s6 → (∀ s7, Inv X pins (σ6.set i none) H6 s7 → Q s7) →
      wpAny (model X.prog X.w) X.A (do bindName X.env n .none; unbindBehindTheSuite X.env n pos') (fun _ s7 => Q s7) X.xe s6 := fun {σ6 H6 Q} S6 hq => gone_ok (S6.unsuite ok) hN hi hln hq
  cases f with
  | next =>
    obtain ⟨σ6, H6, S6, q6⟩ := hsp
    exact end_ S6 fun s7 J7 => ⟨_, _, J7, q6⟩
  | brk =>
    obtain ⟨σ6, H6, S6, q6⟩ := hsp
    exact end_ S6 fun s7 J7 => ⟨_, _, J7, q6⟩
  | cont =>
    obtain ⟨σ6, H6, S6, q6⟩ := hsp
    exact end_ S6 fun s7 J7 => ⟨_, _, J7, q6⟩
  | ret u =>
    obtain ⟨v6, σ6, H6, S6, r6, q6⟩ := hsp
    exact end_ S6 fun s7 J7 => ⟨_, _, _, J7, r6, q6⟩
/-- str(n) in the suite -/
def rStrM (a t : Addr) : List V → Hp → VK → Prop := fun xs H Q => ∃ m, xs = [.ref a] ∧ H t = some (.tup [.str m]) ∧ Q (.str m) H
theorem call_strM {a t : Addr} {oe : Obj} {pn : List (Addr × Obj)} (hu : X.A.units + 64 < cLine) (hz : Zm C t oe) (hf : ∃ vs, oe.data = .fields vs) (hstr : PySem.W.findIn X.K (.ref C) "__str__" = some (some (.builtin "BaseException.__str__"))) (hB : PySem.W.subIn X.K (.ref C) (.type "BaseException") = some true) :
    CallR (X.suite a ((a, oe) :: pn)) (.type "str") (rStrM a t) := by
  intro pins s σ H xs us Q I r h
  obtain ⟨m, rfl, et, q⟩ := h
  obtain ⟨u, rfl, ru⟩ := vals1 r
  obtain rfl : u = Value.ref a := ru
  obtain ⟨ho, _⟩ := I.pin (a, oe) (List.mem_append_left _ List.mem_cons_self)
  obtain ⟨vs, hv⟩ := hf
  obtain ⟨its, rv, ⟨ot, hot, hc, n, hd⟩, _⟩ := I.tuple (SqT.of et)
  cases rv with
  | cons r1 r2 =>
    cases r2
    obtain ⟨tk, rfl⟩ := r1
    exact PySem.P.str_of_C_one (by show X.A.units + 2 < cLine; omega) ⟨I.kIn, oe, vs, ho, hz.1, hv, hz.2.2 vs hv⟩ ⟨ot, n, hot, hc, hd⟩ hstr hB ⟨.str m, H, I, ⟨tk, rfl⟩, q⟩
end
end L2

set_option Elab.async false
set_option linter.all false
set_option maxRecDepth 100000
set_option maxHeartbeats 4000000
namespace L2
open PySem PySem.Spec PyProof.Rows PySem.KX
/-- a reading, told of something stronger -/
def tUp (t : TE) : TE := fun σ H Q => ∃ Q0 : VK, t σ H Q0 ∧ ∀ v H', Q0 v H' → Q v H'
theorem PE.up {X : Cx} {e : Expr} {t : TE} (h : PE X e t) : PE X e (tUp t) :=
  ⟨fun pins s σ H Q I ⟨Q0, h0, k⟩ => wpAny_mono (h.run pins s σ H Q0 I h0) (fun u s1 ⟨v, H1, I1, r1, q1⟩ => ⟨v, H1, I1, r1, k v H1 q1⟩) fun _ _ z => z⟩
/-- lists, tuples stay -/
def Kept (H H' : Hp) : Prop := ∀ b, (∀ xs, H b = some (.lst xs) → H' b = some (.lst xs)) ∧ (∀ xs, H b = some (.tup xs) → H' b = some (.tup xs)) ∧ ∀ o u, H b = some (.frz o u) → H' b = some (.frz o u)
theorem kept_ext {H H' : Hp} {b : Addr} {g : Heap → Prop} (e : H b = some (.ext g)) : (∀ xs, H b = some (.lst xs) → H' b = some (.lst xs)) ∧ (∀ xs, H b = some (.tup xs) → H' b = some (.tup xs)) ∧ ∀ o u, H b = some (.frz o u) → H' b = some (.frz o u) := by
  rw [e]
  exact ⟨(fun _ z => nomatch z), (fun _ z => nomatch z), (fun _ _ z => nomatch z)⟩
mutual
theorem Dp.keep {K : PySem.W.Frag} {H H' : Hp} (e : Kept H H') : ∀ (d : PyData) (v : V), Dp K H v d → Dp K H' v d
  | .none, _, h => by cases h; exact .non
  | .bool b, _, h => by cases h; exact .bl b
  | .int i, _, h => by cases h; exact .int i
  | .str x, _, h => by cases h; exact .str x
  | .list ds, _, h => by
    cases h with
    | lst hs ha =>
      refine .lst ?_ (DpAll.keep e ds _ ha)
      rcases hs with (hs | ⟨o, hs⟩) | hs
      · exact .inl (.inl ((e _).1 _ hs))
      · exact .inl (.inr ⟨o, (e _).2.2 _ _ hs⟩)
      · exact .inr hs
  | .tuple ds, _, h => by
    cases h with
    | tup hs ha =>
      refine .tup ?_ (DpAll.keep e ds _ ha)
      rcases hs with (hs | ⟨o, hs⟩) | hs
      · exact .inl (.inl ((e _).2.1 _ hs))
      · exact .inl (.inr ⟨o, (e _).2.2 _ _ hs⟩)
      · exact .inr hs
  | .dict _, _, h => by cases h
theorem DpAll.keep {K : PySem.W.Frag} {H H' : Hp} (e : Kept H H') : ∀ (ds : List PyData) (vs : List V), DpAll K H vs ds → DpAll K H' vs ds
  | [], _, h => by cases h; exact .nil
  | d :: ds, _, h => by
    cases h with
    | cons h1 h2 => exact .cons (Dp.keep e d _ h1) (DpAll.keep e ds _ h2)
end
/-- C.__init__(self, v): the one field is a copy of v -/
def spIni (K : PySem.W.Frag) (C : Addr) (f : Str) : Sp := fun vs H Q _ => ∃ (a : Addr) (v : V) (d : PyData), vs = [.ref a, v] ∧ H a = some (exo a C none) ∧ Dp K (hide [a] H) v d ∧ d.depth ≤ 10 ∧ smallD d = true ∧
  ∀ (H' : Hp) (dx : Addr) (v' : V), (∀ b o, b ≠ a → H b = some o → H' b = some o) → H dx = none → H' a = some (exo a C (some dx)) → H' dx = some (exd dx [(f, v')]) → Dp K H' v' d → Q .non H'
/-- what a caller knows of an own exception class that keeps a copy of its one argument -/
structure ErrV (P : Program) (w : World) (K : PySem.W.Frag) (mg : Str → Option Value) (base : Heap) (x : Str) (C : Addr) (f : Str) (Bi newId initId : String) (bm : List Value) : Prop where
  B : XB Bi newId initId bm
  T : XCls K C newId bm
  xi : XI K C
  xc : XfC K C
  hno : PySem.W.findIn K (.ref C) f = some none
  g : mg x = some (.ref C)
  ini : ∃ fI fd, PySem.W.findIn K (.ref C) "__init__" = some (some (.ref fI)) ∧ PySem.W.typeIn K (.ref fI) = some (.type "function") ∧ FnOk P w K mg base CX0 12 fI fd ["self", f] (spIni K C f) ∧ Binds K fd ["self", f] []
/-- C(e) as a value -/
def tErrV (K : PySem.W.Frag) (C : Addr) (f : Str) (te : TE) : TE := fun σ H Q => te σ H fun v H1 => ∃ d, Dp K H1 v d ∧ d.depth ≤ 10 ∧ smallD d = true ∧
  ∀ (a dx : Addr) (v' : V) (H' : Hp), Same H1 H' → H1 a = none → H' a = some (exo a C (some dx)) → H' dx = some (exd dx [(f, v')]) → Dp K H' v' d → Q (.ref a) H'
/-- raise C(e) -/
def tErrX (K : PySem.W.Frag) (C : Addr) (f : Str) (te : TE) : St → Hp → XK → Prop := fun σ H Q => te σ H fun v H1 => ∃ d, Dp K H1 v d ∧ d.depth ≤ 10 ∧ smallD d = true ∧
  ∀ (dx : Addr) (v' : V) (H' : Hp), Same H1 H' → H1 dx = none → H' dx = some (.xd [(f, v')]) → Dp K H' v' d → Q (.ref C) (some dx) H'
section
variable {X : Cx} {e : Expr} {te : TE} {f : Str} {p pos : Pos} {Bi newId initId : String} {bm : List Value} {x : Str} {C : Addr} {j : Nat}
theorem PMk.imp {t t' : St → Hp → XK → Prop} (h : PMk X e t) (k : ∀ σ H Q, t' σ H Q → t σ H Q) : PMk X e t' := fun pins s σ H Q I q => h pins s σ H Q I (k σ H Q q)
theorem ini_h {H1 : Hp} {K : PySem.W.Frag} {a : Addr} {v : V} {d : PyData} {o : HO} (n : H1 a = none) (h : Dp K H1 v d) : Dp K (hide [a] (upd H1 a o)) v d := by
  rw [hide_upd, hide_new n, hide_nil]
  exact h
theorem ini_same {H1 H' : Hp} {a : Addr} {o : HO} (n : H1 a = none) (k : ∀ b o', b ≠ a → upd H1 a o b = some o' → H' b = some o') : Same H1 H' := fun b o' q => by
  have hb : b ≠ a := ne_of_none q n
  exact k b o' hb (by rw [upd_ne hb]; exact q)
theorem pe_errV (E : ErrV X.prog X.w X.K X.mg X.base x C f Bi newId initId bm) (hr : RoomG j X.A) (he : PE X e te) (hj : 13 ≤ j := by decide) (hg : Gl X x := by rfl)
    (hdb : (x == ("__debug__" : Str)) = false := by decide) (hs : starEach [e] X.env = (false, eval e X.env) :: starEach [] X.env := by rfl) (hpl : (backTo pos (starEach [] X.env)).any (·.1) = false := by rfl) :
    PE X (.Call (.Name x p) [e] [] pos) (tErrV X.K C f te) := by
  obtain ⟨fI, fd, iC, tI, F1, hb⟩ := E.ini
  refine (pe_oexX E.B E.T iC tI F1 (hr.r.mono hj) hb pass0 E.g (pa_cons he.up pa_nil hs) hg hdb hs hpl).imp fun σ H Q h => ?_
  refine ⟨_, h, fun v H1 ⟨d, hd, h1, h2, k⟩ => ⟨by show 1 ≤ 1000; omega, fun a na => ?_⟩⟩
  refine ⟨a, v, d, rfl, upd_same, ini_h na hd, h1, h2, fun H' dx v' kp _ ea ed hv => ⟨rfl, ?_⟩⟩
  exact k a dx v' H' (ini_same na kp) na ea ed hv
theorem pmk_errV (E : ErrV X.prog X.w X.K X.mg X.base x C f Bi newId initId bm) (hr : RoomG j X.A) (he : PE X e te) (hj : 13 ≤ j := by decide) (hg : Gl X x := by rfl)
    (hdb : (x == ("__debug__" : Str)) = false := by decide) (hs : starEach [e] X.env = (false, eval e X.env) :: starEach [] X.env := by rfl) (hpl : (backTo pos (starEach [] X.env)).any (·.1) = false := by rfl) :
    PMk X (.Call (.Name x p) [e] [] pos) (tErrX X.K C f te) := by
  obtain ⟨fI, fd, iC, tI, F1, hb⟩ := E.ini
  refine PMk.imp (pmk_oexX E.B E.T iC tI F1 (hr.r.mono hj) hb pass0 E.g (pa_cons he.up pa_nil hs) hg hdb hs hpl) fun σ H Q h => ?_
  refine ⟨_, h, fun v H1 ⟨d, hd, h1, h2, k⟩ => ⟨by show 1 ≤ 1000; omega, fun a na => ?_⟩⟩
  refine ⟨a, v, d, rfl, upd_same, ini_h na hd, h1, h2, fun H' dx v' kp nx ea ed hv => ⟨rfl, dx, [(f, v')], ea, ed, ?_, ?_⟩⟩
  · by_cases hd : dx = a
    · rw [hd, upd_same] at nx; cases nx
    · rw [upd_ne hd] at nx; exact nx
  · have ndx : dx ≠ a := fun hd => by rw [hd, upd_same] at nx; cases nx
    have n1 : H1 dx = none := by rw [upd_ne ndx] at nx; exact nx
    have s1 := ini_same na kp
    refine k dx v' _ (fun b o q => ?_) n1 upd_same (Dp.keep (fun b => ?_) _ _ hv)
    · have hb1 : b ≠ dx := ne_of_none q n1
      have hb2 : b ≠ a := ne_of_none q na
      rw [upd_ne hb1]
      unfold del
      rw [if_neg hb2]
      exact s1 b o q
    · by_cases hb1 : b = dx
      · subst hb1
        exact kept_ext ed
      · by_cases hb2 : b = a
        · subst hb2
          exact kept_ext ea
        · rw [upd_ne hb1]
          unfold del
          rw [if_neg hb2]
          exact ⟨fun _ z => z, fun _ z => z, fun _ _ z => z⟩
end
end L2

set_option Elab.async false
set_option linter.all false
set_option maxRecDepth 100000
set_option maxHeartbeats 4000000
/-! Readings that tell the new heap by what stays and what is new, not by its making. -/
namespace L2
open PySem PySem.Spec PyProof.Rows PySem.KX
def tUpA (t : TA) : TA := fun σ H Q => ∃ Q0 : List V → Hp → Prop, t σ H Q0 ∧ ∀ v H', Q0 v H' → Q v H'
theorem PA.up {X : Cx} {es : List Expr} {t : TA} (h : PA X es t) : PA X es (tUpA t) :=
  ⟨fun pos pins s σ H Q I ⟨Q0, h0, k⟩ => wpAny_mono (h.run pos pins s σ H Q0 I h0) (fun u s1 ⟨v, H1, I1, r1, q1⟩ => ⟨v, H1, I1, r1, k v H1 q1⟩) fun _ _ z => z⟩
theorem small_size {n : Nat} (h : n ≤ 1000000) : n ≤ sizeLine := by rw [sizeLine_eq]; omega
/-- [e, ..] -/
def tLstS (t : TA) : TE := fun σ H Q => t σ H fun xs H1 => xs.length ≤ 1000000 ∧ ∀ p H', Same H1 H' → H1 p = none → H' p = some (.lst xs) → Q (.ref p) H'
def tTupS (t : TA) : TE := fun σ H Q => t σ H fun xs H1 => xs.length ≤ 1000000 ∧ ∀ p H', Same H1 H' → H1 p = none → H' p = some (.tup xs) → Q (.ref p) H'
section
variable {X : Cx} {e : Expr} {es : List Expr} {te : TE} {t : TA} {p pos : Pos}
theorem pe_lstS (h : PA X es t) : PE X (.List es pos) (tLstS t) := (pe_lst h.up).imp fun σ H Q q => ⟨_, q, fun xs H1 ⟨l, k⟩ => ⟨small_size l, fun p n => k p _ ((Same.refl _).new n) n upd_same⟩⟩
theorem pe_tupS {x1} (h : PA X es t) : PE X (.Tuple es x1 pos) (tTupS t) := (pe_tup h.up).imp fun σ H Q q => ⟨_, q, fun xs H1 ⟨l, k⟩ => ⟨small_size l, fun p n => k p _ ((Same.refl _).new n) n upd_same⟩⟩
end
/-- + -/
def rAddS (K : PySem.W.Frag) : R2 := fun x y H Q => match x, y with
  | .int i, .int j => Q (.int (i + j)) H
  | .int i, .bl k => Q (.int (i + b2i k)) H
  | .str a, .str b => a.length + b.length ≤ 1000000 ∧ Q (.str (a ++ b)) H
  | .ref a, .ref b => (∃ xs ys, H a = some (.lst xs) ∧ H b = some (.lst ys) ∧ xs.length + ys.length ≤ 1000000 ∧ ∀ p H', Same H H' → H p = none → H' p = some (.lst (xs ++ ys)) → Q (.ref p) H') ∨
    ∃ xs ys, SqT K H a xs ∧ SqT K H b ys ∧ xs.length + ys.length ≤ 1000000 ∧ ∀ r H', Same H H' → SqT K H' r (xs ++ ys) → Q (.ref r) H'
  | _, _ => False
theorem op_addS {X : Cx} : OpR X (binaryOp .Add) (rAddS X.K) := op_addA.imp fun x y H Q h => by
  unfold rAddS at h
  split at h
  · exact h
  · exact h
  · exact ⟨small_size h.1, h.2⟩
  · rcases h with ⟨xs, ys, h1, h2, l, k⟩ | ⟨xs, ys, h1, h2, l, k⟩
    · exact .inl ⟨_, _, xs, ys, rfl, rfl, h1, h2, small_size l, fun p n => k p _ ((Same.refl _).new n) n upd_same⟩
    · refine .inr ⟨_, _, xs, ys, rfl, rfl, h1, h2, small_size l, fun e => k _ _ (Same.refl _) ?_, fun _ e => k _ _ (Same.refl _) ?_, fun _ _ p n => k p _ ((Same.refl _).new n) (SqT.of upd_same)⟩
      · rw [e]; exact h2
      · rw [e, List.append_nil]; exact h1
  · exact h.elim
/-! ### exceptions as values -/
/-- an exception of C made with the text t alone -/
def MsgAt (H : Hp) (C : Addr) (t : Str) (v : V) : Prop := ∃ a tt, v = .ref a ∧ H a = some (exM C tt a) ∧ H tt = some (.tup [.str t])
/-- an exception of C that keeps d as f -/
def ValAt (K : PySem.W.Frag) (H : Hp) (C : Addr) (f : Str) (d : PyData) (v : V) : Prop := ∃ a dx v', v = .ref a ∧ H a = some (exo a C (some dx)) ∧ H dx = some (exd dx [(f, v')]) ∧ Dp K H v' d
theorem MsgAt.same {H H' : Hp} {C : Addr} {t : Str} {v : V} (e : Same H H') (h : MsgAt H C t v) : MsgAt H' C t v := by
  obtain ⟨a, tt, h1, h2, h3⟩ := h
  exact ⟨a, tt, h1, e _ _ h2, e _ _ h3⟩
theorem ValAt.same {K : PySem.W.Frag} {H H' : Hp} {C : Addr} {f : Str} {d : PyData} {v : V} (e : Same H H') (h : ValAt K H C f d v) : ValAt K H' C f d v := by
  obtain ⟨a, dx, v', h1, h2, h3, h4⟩ := h
  exact ⟨a, dx, v', h1, e _ _ h2, e _ _ h3, Dp.same e _ _ h4⟩
theorem MsgAt.ty {K : PySem.W.Frag} {H : Hp} {C : Addr} {t : Str} {v : V} (x : XI K C) (h : MsgAt H C t v) : TyE K H v (.ref C) := by
  obtain ⟨a, tt, rfl, h2, h3⟩ := h
  exact .m h2 x
theorem ValAt.ty {K : PySem.W.Frag} {H : Hp} {C : Addr} {f : Str} {d : PyData} {v : V} (x : XI K C) (h : ValAt K H C f d v) : TyE K H v (.ref C) := by
  obtain ⟨a, dx, v', rfl, h2, h3, _⟩ := h
  exact .o h2 h3 x
/-- C('..') as a value -/
def tMsg (C : Addr) (te : TE) : TE := fun σ H Q => te σ H fun v H1 => ∃ t, v = .str t ∧ ∀ u H', Same H1 H' → MsgAt H' C t u → Q u H'
/-- C(e) as a value, e kept -/
def tVal (K : PySem.W.Frag) (C : Addr) (f : Str) (te : TE) : TE := fun σ H Q => te σ H fun v H1 => ∃ d, Dp K H1 v d ∧ d.depth ≤ 10 ∧ smallD d = true ∧ ∀ u H', Same H1 H' → ValAt K H' C f d u → Q u H'
/-- what a caller knows of an own exception class without own __init__ -/
structure ErrM (K : PySem.W.Frag) (mg : Str → Option Value) (x : Str) (C : Addr) (newId : String) (bmB : List Value) : Prop where
  q : PySem.W.excIn K C bmB newId = true
  g : mg x = some (.ref C)
  k : PySem.W.keepIn K (.ref C) = true
  xi : XI K C
  hs : PySem.W.findIn K (.ref C) "__str__" = some (some (.builtin "BaseException.__str__"))
section
variable {X : Cx} {e : Expr} {te : TE} {f : Str} {p pos : Pos} {B Bi newId initId : String} {bm bmB : List Value} {x : Str} {C : Addr} {j : Nat}
theorem pe_msg (F : ExcBaseFacts B newId initId bmB) (E : ErrM X.K X.mg x C newId bmB) (he : PE X e te) (hg : Gl X x := by rfl) (hs : starEach [e] X.env = (false, eval e X.env) :: starEach [] X.env := by rfl) (hdb : (x == ("__debug__" : Str)) = false := by decide) :
    PE X (.Call (.Name x p) [e] [] pos) (tMsg C te) := (pe_excT F E.q E.g E.k he.up hg hs hdb).imp fun σ H Q h => by
  refine ⟨_, h, fun v H1 ⟨t, ev, k⟩ tt a n1 n2 ne => ?_⟩
  subst ev
  refine k _ _ (((Same.refl _).new n1).new ?_) ⟨a, tt, rfl, upd_same, by rw [upd_ne (Ne.symm ne)]; exact upd_same⟩
  rw [upd_ne ne]
  exact n2
theorem pe_val (E : ErrV X.prog X.w X.K X.mg X.base x C f Bi newId initId bm) (hr : RoomG j X.A) (he : PE X e te) (hj : 13 ≤ j := by decide) (hg : Gl X x := by rfl)
    (hdb : (x == ("__debug__" : Str)) = false := by decide) (hs : starEach [e] X.env = (false, eval e X.env) :: starEach [] X.env := by rfl) (hpl : (backTo pos (starEach [] X.env)).any (·.1) = false := by rfl) :
    PE X (.Call (.Name x p) [e] [] pos) (tVal X.K C f te) := (pe_errV E hr he.up hj hg hdb hs hpl).imp fun σ H Q h => by
  refine ⟨_, h, fun v H1 ⟨d, hd, h1, h2, k⟩ => ⟨d, hd, h1, h2, fun a dx v' H' s1 _ ea ed hv => ?_⟩⟩
  exact k _ _ s1 ⟨a, dx, v', rfl, ea, ed, hv⟩
/-- e.f, e an exception that keeps d as f -/
def tXKept (K : PySem.W.Frag) (f : Str) (te : TE) : TE := fun σ H Q => te σ H fun u H1 => ∃ C d, XfC K C ∧ PySem.W.findIn K (.ref C) f = some none ∧ ValAt K H1 C f d u ∧ ∀ v, Dp K H1 v d → Q v H1
theorem pe_xkept {n : Str} (he : PE X e te) (hb : attributeBase e n X.env (eval e X.env) = eval e X.env := by rfl) : PE X (.Attribute e n pos) (tXKept X.K n te) := (pe_attr he.up hb).imp fun σ H Q h => by
  refine ⟨_, h, fun u H1 ⟨C, d, h1, h2, ⟨a, dx, v', eu, ea, ed, hv⟩, k⟩ => ⟨a, C, dx, _, v', eu, ea, ed, h1, h2, ?_, k v' hv⟩⟩
  simp [List.lookup]
end
/-- l.append(e) -/
def tAppS (to te : TE) : TE := fun σ H Q => to σ H fun x H1 => ∃ l xs0, x = .ref l ∧ H1 l = some (.lst xs0) ∧ te σ H1 fun y H2 => ∃ xs, H2 l = some (.lst xs) ∧ xs.length ≤ 1000000 ∧ Q .non (upd H2 l (.lst (xs ++ [y])))
section
variable {X : Cx} {o e : Expr} {to te : TE} {apos cpos : Pos}
theorem pe_appS (ho : PE X o to) (he : PE X e te)
    (hbase : attributeBase o "append" X.env (eval o X.env) = eval o X.env := by rfl)
    (hfew : ((backTo cpos (starEach [e] X.env)).all (fun x => !x.1) && (backToKw cpos (keywordEach [] X.env)).all (fun x => x.1.isSome)
      && decide ([e].length + ([] : List Keyword).length + (if ([] : List Keyword).isEmpty then 0 else 1) < 30)) = true := by rfl)
    (hline : (apos.endLine == cpos.line) = true := by rfl) (hs : starEach [e] X.env = (false, eval e X.env) :: starEach [] X.env := by rfl) (hplain : (backTo cpos (starEach [] X.env)).any (·.1) = false := by rfl) :
    PE X (.Call (.Attribute o "append" apos) [e] [] cpos) (tAppS to te) :=
  (pe_bm PySem.F.plainAttrs_list PySem.F.slot_list_append PySem.F.type_list_append mt_append ho.up (pa_cons he.up pa_nil hs) hbase hfew hline hs hplain).imp fun σ H Q h => by
    refine ⟨_, h, fun x H1 ⟨l, xs0, ex, el, ht⟩ => ⟨?_, _, ht, fun y H2 ⟨xs, h2, hz, q⟩ => ⟨l, xs, y, ex, rfl, h2, ?_, q⟩⟩⟩
    · subst ex
      exact .inl ⟨rfl, _, SqL.of el⟩
    · rw [sizeLine_eq]; omega
end
end L2

set_option Elab.async false
set_option linter.all false
set_option maxRecDepth 100000
set_option maxHeartbeats 4000000
/-! Comprehensions, told by what each item is. -/
namespace L2
open PySem PySem.Spec PyProof.Rows PySem.KX
/-- the list D while a comprehension builds it -/
def Acc (R : Nat → V → Hp → Prop) (D : Addr) (H1 : Hp) (n : Nat) (H' : Hp) : Prop := ∃ acc, H' D = some (.lst acc) ∧ Same H1 H' ∧ acc.length = n ∧ ∀ j v, acc[j]? = some v → R j v (hide [D] H')
theorem Acc.start {R : Nat → V → Hp → Prop} {D : Addr} {H1 : Hp} (hD : H1 D = none) : Acc R D H1 0 (upd H1 D (.lst [])) := ⟨[], upd_same, (Same.refl H1).new hD, rfl, fun j v h => nomatch h⟩
theorem Acc.snoc {R : Nat → V → Hp → Prop} {D : Addr} {H1 H' H4 : Hp} {n : Nat} {y : V} (st : ∀ j v H H', Same H H' → R j v H → R j v H') (hD : H1 D = none) (hn : n < 1000000) (p : Acc R D H1 n H') (s : Same H' H4) (r : R n y (hide [D] H4)) :
    ∃ acc, H4 D = some (.lst acc) ∧ acc.length < sizeLine ∧ Acc R D H1 (n + 1) (upd H4 D (.lst (acc ++ [y]))) := by
  obtain ⟨acc, h1, h2, h3, h4⟩ := p
  refine ⟨acc, s _ _ h1, by rw [sizeLine_eq]; omega, acc ++ [y], upd_same, fun b o e => ?_, by simp [h3], fun j v h => ?_⟩
  · rw [upd_ne (ne_of_none e hD)]
    exact s _ _ (h2 _ _ e)
  · rw [hide_upd]
    by_cases hj : j < acc.length
    · rw [List.getElem?_append_left hj] at h
      exact st _ _ _ _ (hide_same s) (h4 j v h)
    · rw [List.getElem?_append_right (by omega)] at h
      have e : j = n := by
        have := (List.getElem?_eq_some_iff.mp h).1
        simp at this
        omega
      subst e
      have e2 : v = y := by
        rw [h3, Nat.sub_self] at h
        simpa using h.symm
      subst e2
      exact r
theorem Acc.there {R : Nat → V → Hp → Prop} {D : Addr} {H1 H' : Hp} {n : Nat} (p : Acc R D H1 n H') : H' D ≠ none := by
  obtain ⟨acc, h1, _⟩ := p
  rw [h1]
  exact fun z => nomatch z
/-- [t for x in a list] -/
theorem lc_listS {K : PySem.W.Frag} {a : Addr} {xs : List V} {g : TG} {t : TE} {vs : List Nat} {σ : St} {H1 : Hp} {D : Addr} {Qd : Hp → Prop} (R : Nat → V → Hp → Prop) (st : ∀ j v H H', Same H H' → R j v H → R j v H') (hD : H1 D = none) (hl : SqL K H1 a xs) (hx : xs.length ≤ 1000000)
    (hs : ∀ j x H', xs[j]? = some x → Same H1 H' → H' D ≠ none → g x (wipe σ vs) H' fun σ2 H2 => wipe σ2 vs = wipe σ vs ∧ H2 = H' ∧ t σ2 H2 fun y H4 => Same H2 H4 ∧ R j y (hide [D] H4))
    (hg : ∀ x σ H (q q' : St → Hp → Prop), g x σ H q → (∀ σ H, q σ H → q' σ H) → g x σ H q')
    (hd : ∀ H' acc, Same H1 H' → H' D = some (.lst acc) → acc.length = xs.length → (∀ j v, acc[j]? = some v → R j v H') → Qd H') :
    ∃ W : Nat → Nat → Hp → Prop, (∃ m, W 0 m (upd H1 D (.lst []))) ∧ ∀ i m H, W i m H →
      ((Itl K a).stop i H ∧ Qd H) ∨ ((Itl K a).go i H ∧ ∃ Nx : Hp → Prop, (∀ H', Nx H' → ∃ m', m' < m ∧ W (i + 1) m' H') ∧ ∀ x H', (Itl K a).yld i H x H' → g x (wipe σ vs) H' fun σ2 H2 => wipe σ2 vs = wipe σ vs ∧ tYes σ2 H2 fun b H3 =>
        if b = true then tUp t σ2 H3 fun y H4 => ∃ acc, H4 D = some (.lst acc) ∧ acc.length < sizeLine ∧ Nx (upd H4 D (.lst (acc ++ [y]))) else Nx H3) := by
  refine lc_list (K := K) (a := a) (xs := xs) (te := tUp t) (fun i H' => Acc R D H1 i H') (Acc.start hD) (fun i H' _ ⟨_, _, s, _⟩ => s.sqL hl) (fun i x H' hi p => ?_) (fun H' ⟨acc, h1, h2, h3, h4⟩ => hd H' acc h2 h1 h3 fun j v h => st _ _ _ _ hide_sub (h4 j v h))
  have hlt : i < xs.length := (List.getElem?_eq_some_iff.mp hi).1
  have hs2 := p
  obtain ⟨_, _, s, _⟩ := hs2
  refine hg _ _ _ _ _ (hs i x H' hi s p.there) fun σ2 H2 ⟨w, e, q⟩ => ⟨w, ?_⟩
  subst e
  unfold tYes
  dsimp only
  rw [if_pos rfl]
  exact ⟨_, q, fun y H4 ⟨s4, r⟩ => Acc.snoc st hD (by omega) p s4 r⟩
/-- [t for x in range(n)] -/
theorem lc_rangeS {lo : Int} {n : Nat} {g : TG} {t : TE} {vs : List Nat} {σ : St} {H1 : Hp} {D : Addr} {Qd : Hp → Prop} (R : Nat → V → Hp → Prop) (st : ∀ j v H H', Same H H' → R j v H → R j v H') (hD : H1 D = none) (hx : n ≤ 1000000)
    (hs : ∀ j H', j < n → Same H1 H' → H' D ≠ none → g (.int (lo + j)) (wipe σ vs) H' fun σ2 H2 => wipe σ2 vs = wipe σ vs ∧ H2 = H' ∧ t σ2 H2 fun y H4 => Same H2 H4 ∧ R j y (hide [D] H4))
    (hg : ∀ x σ H (q q' : St → Hp → Prop), g x σ H q → (∀ σ H, q σ H → q' σ H) → g x σ H q')
    (hd : ∀ H' acc, Same H1 H' → H' D = some (.lst acc) → acc.length = n → (∀ j v, acc[j]? = some v → R j v H') → Qd H') :
    ∃ W : Nat → Nat → Hp → Prop, (∃ m, W 0 m (upd H1 D (.lst []))) ∧ ∀ i m H, W i m H →
      ((Itr lo n).stop i H ∧ Qd H) ∨ ((Itr lo n).go i H ∧ ∃ Nx : Hp → Prop, (∀ H', Nx H' → ∃ m', m' < m ∧ W (i + 1) m' H') ∧ ∀ x H', (Itr lo n).yld i H x H' → g x (wipe σ vs) H' fun σ2 H2 => wipe σ2 vs = wipe σ vs ∧ tYes σ2 H2 fun b H3 =>
        if b = true then tUp t σ2 H3 fun y H4 => ∃ acc, H4 D = some (.lst acc) ∧ acc.length < sizeLine ∧ Nx (upd H4 D (.lst (acc ++ [y]))) else Nx H3) := by
  refine lc_range (lo := lo) (n := n) (te := tUp t) (fun i H' => Acc R D H1 i H') (Acc.start hD) (fun i H' hi p => ?_) (fun H' ⟨acc, h1, h2, h3, h4⟩ => hd H' acc h2 h1 h3 fun j v h => st _ _ _ _ hide_sub (h4 j v h))
  have hs2 := p
  obtain ⟨_, _, s, _⟩ := hs2
  refine hg _ _ _ _ _ (hs i H' hi s p.there) fun σ2 H2 ⟨w, e, q⟩ => ⟨w, ?_⟩
  subst e
  unfold tYes
  dsimp only
  rw [if_pos rfl]
  exact ⟨_, q, fun y H4 ⟨s4, r⟩ => Acc.snoc st hD (by omega) p s4 r⟩
theorem gName_mono {i : Nat} : ∀ x σ H (q q' : St → Hp → Prop), gName i x σ H q → (∀ σ H, q σ H → q' σ H) → gName i x σ H q' := fun _ _ _ _ _ h k => k _ _ h
/-- slice of a list -/
def rSlLS (K : PySem.W.Frag) : V → Option Int → Option Int → Hp → VK → Prop := fun x lo hi H Q => ∃ a xs, x = .ref a ∧ SqL K H a xs ∧ ∀ p H', Same H H' → H p = none → H' p = some (.lst (cutV xs lo hi)) → Q (.ref p) H'
theorem sl_listS {X : Cx} : SlR X (rSlLS X.K) := by
  intro pins s σ H x v vl vu lo hi sl Q I rx hs pl pu h
  obtain ⟨a, xs, e, hx, k⟩ := h
  exact sl_list pins s σ H x v vl vu lo hi sl Q I rx hs pl pu ⟨a, xs, e, hx, fun p n => k p _ ((Same.refl _).new n) n upd_same⟩
/-- a row of data of equal shape -/
theorem dpAll_get {K : PySem.W.Frag} {H : Hp} : ∀ (vs : List V) (ds : List PyData), vs.length = ds.length → (∀ (i : Nat) (v : V), vs[i]? = some v → ∃ d : PyData, ds[i]? = some d ∧ Dp K H v d) → DpAll K H vs ds
  | [], [], _, _ => .nil
  | [], d :: ds, h, _ => nomatch h
  | v :: vs, [], h, _ => nomatch h
  | v :: vs, d :: ds, h, k => by
    refine .cons ?_ (dpAll_get vs ds (by simpa using h) fun i u hu => ?_)
    · obtain ⟨d', e, r⟩ := k 0 v rfl
      cases e
      exact r
    · obtain ⟨d', e, r⟩ := k (i + 1) u (by simpa using hu)
      exact ⟨d', by simpa using e, r⟩
end L2

set_option Elab.async false
set_option linter.all false
set_option maxRecDepth 100000
set_option maxHeartbeats 4000000
/-! Data with the empty dict among it. -/
namespace L2
open PySem PySem.Spec PyProof.Rows PySem.KX
mutual
inductive Dq (K : PySem.W.Frag) (H : Hp) : V → PyData → Prop
  | non : Dq K H .non .none
  | bl (b : Bool) : Dq K H (.bl b) (.bool b)
  | int (i : Int) : Dq K H (.int i) (.int i)
  | str (x : Str) : Dq K H (.str x) (.str x)
  | lst {a : Addr} {xs : List V} {ds : List PyData} (h : SqL K H a xs) (t : DqAll K H xs ds) : Dq K H (.ref a) (.list ds)
  | tup {a : Addr} {xs : List V} {ds : List PyData} (h : SqT K H a xs) (t : DqAll K H xs ds) : Dq K H (.ref a) (.tuple ds)
  | emp {a : Addr} (h : H a = some (.dK [])) : Dq K H (.ref a) (.dict [])
inductive DqAll (K : PySem.W.Frag) (H : Hp) : List V → List PyData → Prop
  | nil : DqAll K H [] []
  | cons {v : V} {vs : List V} {d : PyData} {ds : List PyData} (h : Dq K H v d) (t : DqAll K H vs ds) : DqAll K H (v :: vs) (d :: ds)
end
section
variable {K : PySem.W.Frag} {H H' : Hp} {v : V} {vs : List V} {d : PyData} {ds : List PyData}
mutual
theorem Dq.same (e : Same H H') : ∀ (d : PyData) (v : V), Dq K H v d → Dq K H' v d
  | .none, _, h => by cases h; exact .non
  | .bool b, _, h => by cases h; exact .bl b
  | .int i, _, h => by cases h; exact .int i
  | .str x, _, h => by cases h; exact .str x
  | .list ds, _, h => by
    cases h with
    | lst hs ha => exact .lst (e.sqL hs) (DqAll.same e ds _ ha)
  | .tuple ds, _, h => by
    cases h with
    | tup hs ha => exact .tup (e.sqT hs) (DqAll.same e ds _ ha)
  | .dict _, _, h => by
    cases h with
    | emp h => exact .emp (e _ _ h)
theorem DqAll.same (e : Same H H') : ∀ (ds : List PyData) (vs : List V), DqAll K H vs ds → DqAll K H' vs ds
  | [], _, h => by cases h; exact .nil
  | d :: ds, _, h => by
    cases h with
    | cons h1 h2 => exact .cons (Dq.same e d _ h1) (DqAll.same e ds _ h2)
end
theorem DqAll.length : ∀ {vs : List V} {ds : List PyData}, DqAll K H vs ds → vs.length = ds.length
  | _, _, .nil => rfl
  | _, _, .cons _ t => by simp [DqAll.length t]
theorem DqAll.get : ∀ {vs : List V} {ds : List PyData} {i : Nat} {v : V}, DqAll K H vs ds → vs[i]? = some v → ∃ d, ds[i]? = some d ∧ Dq K H v d
  | _, _, i, v, .nil, e => by simp at e
  | _, _, 0, v, .cons h _, e => by
    simp at e
    subst e
    exact ⟨_, rfl, h⟩
  | _, _, i + 1, v, .cons _ t, e => by
    obtain ⟨d, h1, h2⟩ := DqAll.get (i := i) (v := v) t (by simpa using e)
    exact ⟨d, by simpa using h1, h2⟩
theorem dqAll_get : ∀ (vs : List V) (ds : List PyData), vs.length = ds.length → (∀ (i : Nat) (v : V), vs[i]? = some v → ∃ d : PyData, ds[i]? = some d ∧ Dq K H v d) → DqAll K H vs ds
  | [], [], _, _ => .nil
  | [], d :: ds, h, _ => nomatch h
  | v :: vs, [], h, _ => nomatch h
  | v :: vs, d :: ds, h, k => by
    refine .cons ?_ (dqAll_get vs ds (by simpa using h) fun i u hu => ?_)
    · obtain ⟨d', e, r⟩ := k 0 v rfl
      cases e
      exact r
    · obtain ⟨d', e, r⟩ := k (i + 1) u (by simpa using hu)
      exact ⟨d', by simpa using e, r⟩
/-- a value's type -/
theorem Dq.ty (h : Dq K H v d) : TyE K H v (.type (tyOfD d)) := by
  cases h with
  | non => exact .x (.base .non)
  | bl b => exact .x (.base (.bl b))
  | int i => exact .x (.base (.int i))
  | str x => exact .x (.base (.str x))
  | lst hs ha =>
    rcases hs with (hs | ⟨o, hs⟩) | ⟨o, its, n, hk, hc, _⟩
    · exact .x (.base (.lst hs))
    · exact .x (.base (.frz hs))
    · exact .x (.kList hk hc)
  | tup hs ha =>
    rcases hs with (hs | ⟨o, hs⟩) | ⟨o, its, n, hk, hc, _⟩
    · exact .x (.base (.tup hs))
    · exact .x (.fTuple hs)
    · exact .x (.kTuple hk hc)
  | emp h => exact .x (.base (.dK h))
end
section
variable {X : Cx} {pins : List (Addr × Obj)} {σ : St} {H : Hp} {s : Shared}
mutual
theorem Dq.reads (I : Inv X pins σ H s) : ∀ (d : PyData) (v : V) (u : Value), Dq X.K H v d → RelV v u → ∃ as, Reads s.heap u d as
  | .none, _, _, h, r => by
    cases h
    cases r
    exact ⟨_, Reads.none⟩
  | .bool b, _, _, h, r => by
    cases h
    cases r
    exact ⟨_, Reads.bool b⟩
  | .int i, _, _, h, r => by
    cases h
    obtain ⟨t, rfl⟩ := r
    exact ⟨_, Reads.int i t⟩
  | .str x, _, _, h, r => by
    cases h
    obtain ⟨t, rfl⟩ := r
    exact ⟨_, Reads.str x t⟩
  | .list ds, _, _, h, r => by
    cases h with
    | lst hs ha =>
      cases r
      obtain ⟨its, rv, ⟨o, n, ho, hc, _, hd⟩, _⟩ := I.list hs
      obtain ⟨as, hr⟩ := Dq.readsAll I ds _ its ha rv
      exact ⟨_, Reads.list ho hc hd hr⟩
  | .tuple ds, _, _, h, r => by
    cases h with
    | tup hs ha =>
      cases r
      obtain ⟨its, rv, ⟨o, ho, hc, n, hd⟩, _⟩ := I.tuple hs
      obtain ⟨as, hr⟩ := Dq.readsAll I ds _ its ha rv
      exact ⟨_, Reads.tuple ho hc hd hr⟩
  | .dict kvs, _, _, h, r => by
    cases h with
    | emp e =>
      cases r
      obtain ⟨hz, hsm, vs, rel, o, es, ep, ho, hx, hd, hk, hp, _⟩ := dk_of I.hok e
      cases rel
      have he : es.toList = [] := by
        have := hp.length
        exact List.length_eq_zero_iff.mp this
      exact ⟨_, Reads.dict (kvs := []) (as := []) (bs := []) ho hx.1 hd (by rw [he]; exact .nil) (by rw [he]; exact .nil)⟩
theorem Dq.readsAll (I : Inv X pins σ H s) : ∀ (ds : List PyData) (vs : List V) (us : List Value), DqAll X.K H vs ds → Vals vs us → ∃ as, ReadsAll s.heap us ds as
  | [], _, _, h, r => by
    cases h
    cases r
    exact ⟨_, ReadsAll.nil⟩
  | d :: ds, _, _, h, r => by
    cases h with
    | cons h1 h2 =>
      cases r with
      | cons r1 r2 =>
        obtain ⟨as, q1⟩ := Dq.reads I d _ _ h1 r1
        obtain ⟨bs, q2⟩ := Dq.readsAll I ds _ _ h2 r2
        exact ⟨_, ReadsAll.cons q1 q2⟩
end
end
/-! the same, no list among it at the place of sys.modules -/
mutual
inductive Dn (K : PySem.W.Frag) (H : Hp) : V → PyData → Prop
  | non : Dn K H .non .none
  | bl (b : Bool) : Dn K H (.bl b) (.bool b)
  | int (i : Int) : Dn K H (.int i) (.int i)
  | str (x : Str) : Dn K H (.str x) (.str x)
  | lst {a : Addr} {xs : List V} {ds : List PyData} (h : SqL K H a xs) (n : (a == sysModules) = false) (t : DnAll K H xs ds) : Dn K H (.ref a) (.list ds)
  | tup {a : Addr} {xs : List V} {ds : List PyData} (h : SqT K H a xs) (t : DnAll K H xs ds) : Dn K H (.ref a) (.tuple ds)
  | emp {a : Addr} (h : H a = some (.dK [])) : Dn K H (.ref a) (.dict [])
inductive DnAll (K : PySem.W.Frag) (H : Hp) : List V → List PyData → Prop
  | nil : DnAll K H [] []
  | cons {v : V} {vs : List V} {d : PyData} {ds : List PyData} (h : Dn K H v d) (t : DnAll K H vs ds) : DnAll K H (v :: vs) (d :: ds)
end
section
variable {K : PySem.W.Frag} {H H' : Hp} {v : V} {vs : List V} {d : PyData} {ds : List PyData}
mutual
theorem Dn.same (e : Same H H') : ∀ (d : PyData) (v : V), Dn K H v d → Dn K H' v d
  | .none, _, h => by cases h; exact .non
  | .bool b, _, h => by cases h; exact .bl b
  | .int i, _, h => by cases h; exact .int i
  | .str x, _, h => by cases h; exact .str x
  | .list ds, _, h => by
    cases h with
    | lst hs n ha => exact .lst (e.sqL hs) n (DnAll.same e ds _ ha)
  | .tuple ds, _, h => by
    cases h with
    | tup hs ha => exact .tup (e.sqT hs) (DnAll.same e ds _ ha)
  | .dict _, _, h => by
    cases h with
    | emp h => exact .emp (e _ _ h)
theorem DnAll.same (e : Same H H') : ∀ (ds : List PyData) (vs : List V), DnAll K H vs ds → DnAll K H' vs ds
  | [], _, h => by cases h; exact .nil
  | d :: ds, _, h => by
    cases h with
    | cons h1 h2 => exact .cons (Dn.same e d _ h1) (DnAll.same e ds _ h2)
end
mutual
theorem Dn.dq : ∀ (d : PyData) (v : V), Dn K H v d → Dq K H v d
  | .none, _, h => by cases h; exact .non
  | .bool b, _, h => by cases h; exact .bl b
  | .int i, _, h => by cases h; exact .int i
  | .str x, _, h => by cases h; exact .str x
  | .list ds, _, h => by
    cases h with
    | lst hs n ha => exact .lst hs (DnAll.dq ds _ ha)
  | .tuple ds, _, h => by
    cases h with
    | tup hs ha => exact .tup hs (DnAll.dq ds _ ha)
  | .dict _, _, h => by
    cases h with
    | emp h => exact .emp h
theorem DnAll.dq : ∀ (ds : List PyData) (vs : List V), DnAll K H vs ds → DqAll K H vs ds
  | [], _, h => by cases h; exact .nil
  | d :: ds, _, h => by
    cases h with
    | cons h1 h2 => exact .cons (Dn.dq d _ h1) (DnAll.dq ds _ h2)
end
end
section
variable {X : Cx} {pins : List (Addr × Obj)} {σ : St} {H : Hp} {s : Shared}
mutual
theorem Dn.reads (I : Inv X pins σ H s) : ∀ (d : PyData) (v : V) (u : Value), Dn X.K H v d → RelV v u → ∃ as, Reads s.heap u d as ∧ sysModules ∉ as
  | .none, _, _, h, r => by
    cases h
    cases r
    exact ⟨_, Reads.none, by simp⟩
  | .bool b, _, _, h, r => by
    cases h
    cases r
    exact ⟨_, Reads.bool b, by simp⟩
  | .int i, _, _, h, r => by
    cases h
    obtain ⟨t, rfl⟩ := r
    exact ⟨_, Reads.int i t, by simp⟩
  | .str x, _, _, h, r => by
    cases h
    obtain ⟨t, rfl⟩ := r
    exact ⟨_, Reads.str x t, by simp⟩
  | .list ds, _, _, h, r => by
    cases h with
    | lst hs nn ha =>
      cases r
      obtain ⟨its, rv, ⟨o, n, ho, hc, _, hd⟩, _⟩ := I.list hs
      obtain ⟨as, hr, hm⟩ := Dn.readsAll I ds _ its ha rv
      refine ⟨_, Reads.list ho hc hd hr, fun z => ?_⟩
      rcases List.mem_cons.mp z with z | z
      · rw [← z] at nn
        simp at nn
      · exact hm z
  | .tuple ds, _, _, h, r => by
    cases h with
    | tup hs ha =>
      cases r
      obtain ⟨its, rv, ⟨o, ho, hc, n, hd⟩, _⟩ := I.tuple hs
      obtain ⟨as, hr, hm⟩ := Dn.readsAll I ds _ its ha rv
      exact ⟨_, Reads.tuple ho hc hd hr, hm⟩
  | .dict kvs, _, _, h, r => by
    cases h with
    | emp e =>
      cases r
      obtain ⟨hz, hsm, vs, rel, o, es, ep, ho, hx, hd, hk, hp, _⟩ := dk_of I.hok e
      cases rel
      have he : es.toList = [] := by
        have := hp.length
        exact List.length_eq_zero_iff.mp this
      refine ⟨_, Reads.dict (kvs := []) (as := []) (bs := []) ho hx.1 hd (by rw [he]; exact .nil) (by rw [he]; exact .nil), fun z => ?_⟩
      have z' := List.mem_singleton.mp (by rw [List.append_nil] at z; exact z)
      rw [← z'] at hsm
      simp at hsm
theorem Dn.readsAll (I : Inv X pins σ H s) : ∀ (ds : List PyData) (vs : List V) (us : List Value), DnAll X.K H vs ds → Vals vs us → ∃ as, ReadsAll s.heap us ds as ∧ sysModules ∉ as
  | [], _, _, h, r => by
    cases h
    cases r
    exact ⟨_, ReadsAll.nil, by simp⟩
  | d :: ds, _, _, h, r => by
    cases h with
    | cons h1 h2 =>
      cases r with
      | cons r1 r2 =>
        obtain ⟨as, q1, m1⟩ := Dn.reads I d _ _ h1 r1
        obtain ⟨bs, q2, m2⟩ := Dn.readsAll I ds _ _ h2 r2
        exact ⟨_, ReadsAll.cons q1 q2, fun z => (List.mem_append.mp z).elim m1 m2⟩
end
end
section
variable {X : Cx}
def rEqQ (K : PySem.W.Frag) : R2 := fun x y H Q => ∃ d e, Dq K H x d ∧ Dq K H y e ∧ SeqAt.shaped d = true ∧ SeqAt.shaped e = true ∧ Q (.bl (PyData.eqv d e)) H
def rNeQ (K : PySem.W.Frag) : R2 := fun x y H Q => ∃ d e, Dq K H x d ∧ Dq K H y e ∧ SeqAt.shaped d = true ∧ SeqAt.shaped e = true ∧ Q (.bl (!PyData.eqv d e)) H
theorem op_eqQ (hu : X.A.units + 64 < cLine) : OpR X (compareOp .Eq) (rEqQ X.K) := by
  intro pins s σ H x y v u Q I rx ry h
  obtain ⟨d, e, hd, he, sd, se, q⟩ := h
  obtain ⟨as, r1⟩ := Dq.reads I d x v hd rx
  obtain ⟨bs, r2⟩ := Dq.reads I e y u he ry
  exact SeqAt.compareEq_shaped r1 r2 sd se hu ⟨.bl _, H, I, rfl, q⟩
theorem op_neQ (hu : X.A.units + 64 < cLine) : OpR X (compareOp .NotEq) (rNeQ X.K) := by
  intro pins s σ H x y v u Q I rx ry h
  obtain ⟨d, e, hd, he, sd, se, q⟩ := h
  obtain ⟨as, r1⟩ := Dq.reads I d x v hd rx
  obtain ⟨bs, r2⟩ := Dq.reads I e y u he ry
  exact SeqAt.compareNe_shaped r1 r2 sd se hu ⟨.bl _, H, I, rfl, q⟩
/-- repr(x) of a list, a tuple, a dict -/
def rReprQ (K : PySem.W.Frag) : List V → Hp → VK → Prop := fun xs H Q => ∃ (a : Addr) (d : PyData), xs = [.ref a] ∧ ((d.hasDict = false ∧ Dq K H (.ref a) d) ∨ Dn K H (.ref a) d) ∧ d.showable = true ∧ d.depth ≤ 60 ∧ d.shown.length ≤ sizeLine ∧ Q (.str d.shown) H
theorem call_reprQ (hu : X.A.units + 64 < cLine) (hg : X.A.guards = some []) : CallR X (.builtin "repr") (rReprQ X.K) := by
  intro pins s σ H xs us Q I r h
  obtain ⟨a, d, rfl, hd, h1, h3, h4, q⟩ := h
  obtain ⟨u, rfl, ru⟩ := vals1 r
  obtain rfl : u = Value.ref a := ru
  have hrd : ∃ as, Reads s.heap (.ref a) d as ∧ (d.hasDict = true → sysModules ∉ as) := by
    rcases hd with ⟨hn, hd⟩ | hd
    · obtain ⟨as, rd⟩ := Dq.reads I d _ _ hd rfl
      exact ⟨as, rd, PyData.noDict_hsm hn⟩
    · obtain ⟨as, rd, hm⟩ := Dn.reads I d _ _ hd rfl
      exact ⟨as, rd, fun _ => hm⟩
  obtain ⟨as, rd, hm⟩ := hrd
  exact repr_of_reads' (h₀ := s.heap) rd h1 hm hg (by omega) (fun _ _ e => e) (fun h' u tk hk => ⟨.str d.shown, H, I.kept (t' := tk) hk, ⟨u, rfl⟩, q⟩) h4
end
end L2

set_option Elab.async false
set_option linter.all false
set_option maxRecDepth 100000
set_option maxHeartbeats 4000000
/-! Comprehensions over any walk; slices of tuples; all(..) of a list of bools. -/
namespace L2
open PySem PySem.Spec PyProof.Rows PySem.KX
theorem lc_itS {J : It} {n : Nat} {G : Hp → Prop} {Y : Nat → Hp → V → Hp → Prop} (w : Walk J n G Y) {g : TG} {t : TE} {vs : List Nat} {σ : St} {H1 : Hp} {D : Addr} {Qd : Hp → Prop} (R : Nat → V → Hp → Prop) (st : ∀ j v H H', Same H H' → R j v H → R j v H') (hD : H1 D = none) (hx : n ≤ 1000000)
    (hG : ∀ H', Same H1 H' → G H')
    (hs : ∀ j x H' H2, j < n → Same H1 H' → H' D ≠ none → Y j H' x H2 → g x (wipe σ vs) H2 fun σ3 H3 => wipe σ3 vs = wipe σ vs ∧ t σ3 H3 fun y H4 => Same H' H4 ∧ R j y (hide [D] H4))
    (hg : ∀ x σ H (q q' : St → Hp → Prop), g x σ H q → (∀ σ H, q σ H → q' σ H) → g x σ H q')
    (hd : ∀ H' acc, Same H1 H' → H' D = some (.lst acc) → acc.length = n → (∀ j v, acc[j]? = some v → R j v H') → Qd H') :
    ∃ W : Nat → Nat → Hp → Prop, (∃ m, W 0 m (upd H1 D (.lst []))) ∧ ∀ i m H, W i m H →
      (J.stop i H ∧ Qd H) ∨ (J.go i H ∧ ∃ Nx : Hp → Prop, (∀ H', Nx H' → ∃ m', m' < m ∧ W (i + 1) m' H') ∧ ∀ x H', J.yld i H x H' → g x (wipe σ vs) H' fun σ2 H2 => wipe σ2 vs = wipe σ vs ∧ tYes σ2 H2 fun b H3 =>
        if b = true then tUp t σ2 H3 fun y H4 => ∃ acc, H4 D = some (.lst acc) ∧ acc.length < sizeLine ∧ Nx (upd H4 D (.lst (acc ++ [y]))) else Nx H3) := by
  refine lc_it w (te := tUp t) (fun i H' => Acc R D H1 i H') (Acc.start hD) (fun i H' _ ⟨_, _, s, _⟩ => hG _ s) (fun i x H' H2 hi p y => ?_) (fun H' ⟨acc, h1, h2, h3, h4⟩ => hd H' acc h2 h1 h3 fun j v h => st _ _ _ _ hide_sub (h4 j v h))
  have hs2 := p
  obtain ⟨_, _, s, _⟩ := hs2
  refine hg _ _ _ _ _ (hs i x H' H2 hi s p.there y) fun σ2 H3 ⟨w, q⟩ => ⟨w, ?_⟩
  unfold tYes
  dsimp only
  rw [if_pos rfl]
  exact ⟨_, q, fun y H4 ⟨s4, r⟩ => Acc.snoc st hD (by omega) p s4 r⟩
theorem walk_zipT {K : PySem.W.Frag} {a b : Addr} {xs ys : List V} {n : Nat} (hn : n = min xs.length ys.length) : Walk (RZ.ItzT K a b) n (fun H => SqT K H a xs ∧ SqT K H b ys) (YPair (fun i => xs[i]?) (fun i => ys[i]?)) := by
  constructor
  · intro i H hi ⟨h1, h2⟩
    exact ⟨xs, ys, xs[i]'(by omega), ys[i]'(by omega), h1, h2, List.getElem?_eq_getElem _, List.getElem?_eq_getElem _⟩
  · intro H ⟨h1, h2⟩
    exact ⟨xs, ys, h1, h2, by omega⟩
  · rintro i H x H' hi ⟨h1, h2⟩ ⟨T, x1, y1, e1, e2, e3, k1, k2⟩
    exact ⟨T, x1, y1, e1, e2, e3, k1 _ h1, k2 _ h2⟩
theorem cut_whole {xs : List V} {lo hi : Option Int} (h : HT.sIx xs.length 0 lo = 0 ∧ HT.sIx xs.length xs.length hi = xs.length) : cutV xs lo hi = xs := by
  unfold cutV
  rw [h.1, h.2]
  simp
def rSlTS (K : PySem.W.Frag) : V → Option Int → Option Int → Hp → VK → Prop := fun x lo hi H Q => ∃ a xs, x = .ref a ∧ SqT K H a xs ∧ ∀ r H', Same H H' → SqT K H' r (cutV xs lo hi) → Q (.ref r) H'
theorem sl_tupS {X : Cx} : SlR X (rSlTS X.K) := by
  intro pins s σ H x v vl vu lo hi sl Q I rx hs pl pu h
  obtain ⟨a, xs, e, hx, k⟩ := h
  refine sl_tupA pins s σ H x v vl vu lo hi sl Q I rx hs pl pu ⟨a, xs, e, hx, fun c => k a H (Same.refl _) (by rw [cut_whole c]; exact hx), fun _ p n => k p _ ((Same.refl _).new n) (SqT.of upd_same)⟩
theorem cut_tail (xs : List V) : cutV xs (some 1) none = xs.tail := by
  cases xs with
  | nil => rfl
  | cons x r =>
    unfold cutV
    have h1 : HT.sIx (x :: r).length 0 (some 1) = 1 := by
      unfold HT.sIx
      simp
      try omega
    have h2 : HT.sIx (x :: r).length (x :: r).length none = (x :: r).length := rfl
    rw [h1, h2]
    simp
theorem acc_map {vs : List V} {ds : List PyData} {p : PyData → Bool} (hl : vs.length = ds.length) (h : ∀ (j : Nat) (v : V), vs[j]? = some v → ∃ d, ds[j]? = some d ∧ v = .bl (p d)) : vs = (ds.map p).map V.bl := by
  refine List.ext_getElem? fun j => ?_
  by_cases hj : j < vs.length
  · obtain ⟨d, h1, h2⟩ := h j _ (List.getElem?_eq_getElem hj)
    rw [List.getElem?_eq_getElem hj, h2, List.getElem?_map, List.getElem?_map, h1]
    rfl
  · rw [List.getElem?_eq_none (by omega), List.getElem?_eq_none (by simp; omega)]
theorem all_map {ds : List PyData} {p : PyData → Bool} : (ds.map p).all id = ds.all p := by simp [List.all_map]
end L2

set_option Elab.async false
set_option linter.all false
set_option maxRecDepth 100000
set_option maxHeartbeats 4000000
/-! x == (), whatever x. -/
namespace PySem
namespace KX
open SeqAt PySem.W PySem.Calls PyProof.Rows
theorem nilD_declines (p q : Addr) (es : Array DictEntry) (its : Array Value) (k k2 : Nat) (d1 d2 : Option Addr) (z1 z2 : Array (Option Value)) :
    Meets (Builtin.«dict.__eq__» ⟨[.ref p, .ref q], []⟩) (fun _ R s => s.heap.get? p = some { cls := .type "dict", dict := d1, data := .dict es k, slots := z1 } ∧ s.heap.get? q = some { cls := .type "tuple", dict := d2, data := .seq its k2, slots := z2 } ∧ R (.ok (.ret .notImplemented)) s) :=
  .of_wp fun prog w A R s hh => by
    obtain ⟨hp, g, d, tk, os⟩ := s
    obtain ⟨e1, e2, hh⟩ := hh
    have f1 := F.sub_tuple_dict
    wp_walk using wpAny_loadPart' e1, wpAny_loadPart' e2
    exact ⟨_, rfl, hh⟩
theorem nilT_declines (p q : Addr) (es : Array DictEntry) (its : Array Value) (k k2 : Nat) (d1 d2 : Option Addr) (z1 z2 : Array (Option Value)) :
    Meets (Builtin.«tuple.__eq__» ⟨[.ref q, .ref p], []⟩) (fun _ R s => s.heap.get? q = some { cls := .type "tuple", dict := d2, data := .seq its k2, slots := z2 } ∧ s.heap.get? p = some { cls := .type "dict", dict := d1, data := .dict es k, slots := z1 } ∧ R (.ok (.ret .notImplemented)) s) :=
  .of_wp fun prog w A R s hh => by
    obtain ⟨hp, g, d, tk, os⟩ := s
    obtain ⟨e1, e2, hh⟩ := hh
    have f1 := F.sub_dict_tuple
    wp_walk using wpAny_loadPart' e1, wpAny_loadPart' e2
    exact ⟨_, rfl, hh⟩
theorem rcDictTup {A : Around} {s : Shared} {p q : Addr} {o : Obj} {es : Array DictEntry} {ep : Nat} {its : Array Value} (ho : s.heap.get? p = some o) (hx : o.cls = .type "dict") (hd : o.data = .dict es ep) (hb : s.heap.IsTuple q its) (hu : A.units < cLine) : RcAt A s (.ref p) (.ref q) false := fun prog w E Q h => by
  obtain ⟨⟨c2, d2, t2, z2⟩, ho2, hc2, n2, hd2⟩ := id hb
  obtain ⟨c1, d1, t1, z1⟩ := o
  have hne : p ≠ q := fun e => by
    subst e
    rw [ho] at ho2
    cases ho2
    rw [hd] at hd2
    cases hd2
  simp only at hx hd hc2 hd2
  subst hx
  subst hd
  subst hc2
  subst hd2
  exact (rc_eq_decline_or (k := false) ⟨_, ho, rfl⟩ ⟨_, ho2, rfl⟩ (by decide) F.sub_tuple_dict F.slot_dict_eq F.slot_tuple_eq_refl
    (fun _ hq => call_meets F.slot_dict_eq ⟨_, ho, rfl⟩ F.entry_dict_eq (F.args_dict_eq_2 _ _) (nilD_declines p q es its ep n2 d1 d2 z1 z2) ⟨ho, ho2, hq⟩)
    (fun _ hq => call_meets F.slot_tuple_eq_refl ⟨_, ho2, rfl⟩ F.entry_tuple_eq (F.args_tuple_eq_2 _ _) (nilT_declines p q es its ep n2 d1 d2 z1 z2) ⟨ho2, ho, hq⟩)
    (fun _ hq => wpAny_isSame_ref_other hne ho ho2 (by simp) hq) (.inr hu) h)
end KX
end PySem
namespace L2
open PySem PySem.Spec PyProof.Rows PySem.KX SeqAt
def isNilD : PyData → Bool
  | .tuple [] => true
  | _ => false
def rEqNil (K : PySem.W.Frag) : R2 := fun x y H Q => ∃ r d, y = .ref r ∧ SqT K H r [] ∧ Dq K H x d ∧ Q (.bl (isNilD d)) H
theorem op_eqNil {X : Cx} (hu : X.A.units + 64 < cLine) : OpR X (compareOp .Eq) (rEqNil X.K) := by
  intro pins s σ H x y v u Q I rx ry h
  obtain ⟨r, d, rfl, hr, hd, q⟩ := h
  obtain rfl : u = Value.ref r := ry
  have hu1 : X.A.units < cLine := by omega
  obtain ⟨it0, rv0, ⟨o0, ho0, hc0, n0, hd0⟩, _⟩ := I.tuple hr
  have hl0 : it0 = [] := by
    cases rv0
    rfl
  subst hl0
  have T0 : s.heap.IsTuple r #[] := ⟨o0, ho0, hc0, n0, hd0⟩
  have fin : ∀ {b : Bool}, RcAt X.A s v (.ref r) b → isNilD d = b → wpAny (model X.prog X.w) X.A (compareOp .Eq v (.ref r)) (EP X pins σ Q) X.xe s := fun {b} rc e => rc X.prog X.w X.xe _ ⟨.bl b, H, I, rfl, e ▸ q⟩
  cases hd with
  | non =>
    cases rx
    exact fin (.none_tuple T0 hu1) rfl
  | bl b =>
    cases rx
    exact fin (.bool_tuple b T0 hu1) rfl
  | int i =>
    obtain ⟨t, rfl⟩ := rx
    exact fin (.int_tuple i t T0 hu1) rfl
  | str x =>
    obtain ⟨t, rfl⟩ := rx
    exact fin (.str_tuple x t T0 hu1) rfl
  | lst hs ha =>
    cases rx
    obtain ⟨its, rv, ⟨o, n, ho, hc, _, hd⟩, _⟩ := I.list hs
    exact fin (.list_tuple ⟨o, ho, hc, n, hd⟩ T0 hu1) rfl
  | @tup a xs ds hs ha =>
    cases rx
    obtain ⟨its, rv, ⟨o, ho, hc, n, hd⟩, _⟩ := I.tuple hs
    refine fin (.tuples (e := fun _ => true) ⟨o, ho, hc, n, hd⟩ T0 hu1 fun j h1 h2 => absurd h2 (by simp)) ?_
    have hl : its.length = ds.length := by rw [← Paired.length rv, ha.length]
    cases ds with
    | nil =>
      have : its = [] := List.length_eq_zero_iff.mp hl
      subst this
      rfl
    | cons d1 r1 =>
      cases its with
      | nil => simp at hl
      | cons i1 r2 => simp [isNilD]
  | emp e =>
    cases rx
    obtain ⟨hz, hsm, vs, rel, o, es, ep, ho, hx, hd, hk, hp, _⟩ := dk_of I.hok e
    exact fin (rcDictTup ho hx.1 hd T0 hu1) rfl
end L2

set_option Elab.async false
set_option linter.all false
set_option maxRecDepth 100000
set_option maxHeartbeats 4000000
/-! What the package says of data: integers, names, places, steps, nets. -/
namespace L2
open PySem PySem.Spec PyProof.Rows PySem.KX
mutual
/-- lists, tuples, texts of at most 100000 -/
def smQ : PyData → Bool
  | .list xs => decide (xs.length ≤ 100000) && smQAll xs
  | .tuple xs => decide (xs.length ≤ 100000) && smQAll xs
  | .str x => decide (x.length ≤ 100000)
  | .dict _ => true
  | .none => true
  | .bool _ => true
  | .int _ => true
def smQAll : List PyData → Bool
  | [] => true
  | x :: xs => smQ x && smQAll xs
end
theorem smQ_tup {ds : List PyData} (h : smQ (.tuple ds) = true) : ds.length ≤ 100000 ∧ smQAll ds = true := by
  simp only [smQ, Bool.and_eq_true, decide_eq_true_eq] at h
  exact h
theorem smQ_lst {ds : List PyData} (h : smQ (.list ds) = true) : ds.length ≤ 100000 ∧ smQAll ds = true := by
  simp only [smQ, Bool.and_eq_true, decide_eq_true_eq] at h
  exact h
theorem smQ_mem : ∀ {ds : List PyData} {i : Nat} {d : PyData}, smQAll ds = true → ds[i]? = some d → smQ d = true
  | [], i, d, _, e => by simp at e
  | x :: xs, 0, d, h, e => by
    simp at e
    subst e
    simp only [smQAll, Bool.and_eq_true] at h
    exact h.1
  | x :: xs, i + 1, d, h, e => by
    simp only [smQAll, Bool.and_eq_true] at h
    exact smQ_mem (ds := xs) (i := i) h.2 (by simpa using e)
/-- data of bounded size -/
structure Wd (K : PySem.W.Frag) (H : Hp) (v : V) (d : PyData) : Prop where
  dq : Dq K H v d
  sm : smQ d = true
theorem Wd.same {K : PySem.W.Frag} {H H' : Hp} {v : V} {d : PyData} (e : Same H H') (h : Wd K H v d) : Wd K H' v d := ⟨Dq.same e _ _ h.dq, h.sm⟩
def isIntB : PyData → Bool
  | .int _ => true
  | .bool _ => true
  | _ => false
def isBoolB : PyData → Bool
  | .bool _ => true
  | _ => false
def isStrB : PyData → Bool
  | .str _ => true
  | _ => false
def isTupB : PyData → Bool
  | .tuple _ => true
  | _ => false
def isLstB : PyData → Bool
  | .list _ => true
  | _ => false
theorem kit_int : ∀ d : PyData, kitB (tyOfD d) "int" = some (isIntB d)
  | .none => (by decide +kernel : kitB "NoneType" "int" = some false)
  | .bool _ => (by decide +kernel : kitB "bool" "int" = some true)
  | .int _ => (by decide +kernel : kitB "int" "int" = some true)
  | .str _ => (by decide +kernel : kitB "str" "int" = some false)
  | .list _ => (by decide +kernel : kitB "list" "int" = some false)
  | .tuple _ => (by decide +kernel : kitB "tuple" "int" = some false)
  | .dict _ => (by decide +kernel : kitB "dict" "int" = some false)
theorem kit_bool : ∀ d : PyData, kitB (tyOfD d) "bool" = some (isBoolB d)
  | .none => (by decide +kernel : kitB "NoneType" "bool" = some false)
  | .bool _ => (by decide +kernel : kitB "bool" "bool" = some true)
  | .int _ => (by decide +kernel : kitB "int" "bool" = some false)
  | .str _ => (by decide +kernel : kitB "str" "bool" = some false)
  | .list _ => (by decide +kernel : kitB "list" "bool" = some false)
  | .tuple _ => (by decide +kernel : kitB "tuple" "bool" = some false)
  | .dict _ => (by decide +kernel : kitB "dict" "bool" = some false)
theorem kit_str : ∀ d : PyData, kitB (tyOfD d) "str" = some (isStrB d)
  | .none => (by decide +kernel : kitB "NoneType" "str" = some false)
  | .bool _ => (by decide +kernel : kitB "bool" "str" = some false)
  | .int _ => (by decide +kernel : kitB "int" "str" = some false)
  | .str _ => (by decide +kernel : kitB "str" "str" = some true)
  | .list _ => (by decide +kernel : kitB "list" "str" = some false)
  | .tuple _ => (by decide +kernel : kitB "tuple" "str" = some false)
  | .dict _ => (by decide +kernel : kitB "dict" "str" = some false)
theorem kit_tuple : ∀ d : PyData, kitB (tyOfD d) "tuple" = some (isTupB d)
  | .none => (by decide +kernel : kitB "NoneType" "tuple" = some false)
  | .bool _ => (by decide +kernel : kitB "bool" "tuple" = some false)
  | .int _ => (by decide +kernel : kitB "int" "tuple" = some false)
  | .str _ => (by decide +kernel : kitB "str" "tuple" = some false)
  | .list _ => (by decide +kernel : kitB "list" "tuple" = some false)
  | .tuple _ => (by decide +kernel : kitB "tuple" "tuple" = some true)
  | .dict _ => (by decide +kernel : kitB "dict" "tuple" = some false)
theorem kit_list : ∀ d : PyData, kitB (tyOfD d) "list" = some (isLstB d)
  | .none => (by decide +kernel : kitB "NoneType" "list" = some false)
  | .bool _ => (by decide +kernel : kitB "bool" "list" = some false)
  | .int _ => (by decide +kernel : kitB "int" "list" = some false)
  | .str _ => (by decide +kernel : kitB "str" "list" = some false)
  | .list _ => (by decide +kernel : kitB "list" "list" = some true)
  | .tuple _ => (by decide +kernel : kitB "tuple" "list" = some false)
  | .dict _ => (by decide +kernel : kitB "dict" "list" = some false)
def isIntD : PyData → Bool
  | .int _ => true
  | _ => false
def intIn (lo hi : Int) : PyData → Bool
  | .int i => decide (lo ≤ i) && decide (i ≤ hi)
  | _ => false
def lowC (c : Nat) : Bool := decide (97 ≤ c) && decide (c ≤ 122)
def isNameD : PyData → Bool
  | .str x => (decide (1 ≤ x.length) && decide (x.length ≤ 8)) && x.cps.toList.all lowC
  | _ => false
def ltD : PyData → PyData → Bool
  | .int i, .int j => decide (i < j)
  | .str x, .str y => decide (x.cps.toList < y.cps.toList)
  | _, _ => false
def ascD (ds : List PyData) : Bool := (ds.zip ds.tail).all fun p => ltD p.1 p.2
def placesD (n : Int) : PyData → Bool
  | .tuple ds => ds.all (intIn 0 (n - 1)) && ascD ds
  | _ => false
def stepD (n : Int) : PyData → Bool
  | .tuple [a, b, c] => isNameD a && (!isNilD b && (!isNilD c && (placesD n b && placesD n c)))
  | _ => false
def firstD : PyData → PyData
  | .tuple (a :: _) => a
  | _ => .none
def netD : PyData → Bool
  | .tuple [.int n, .tuple ds] => (decide (2 ≤ n) && decide (n ≤ 30)) && ((decide (1 ≤ ds.length) && decide (ds.length ≤ 40)) && (ds.all (stepD n) && ascD (ds.map firstD)))
  | _ => false
theorem acc_mapN {α : Type} {vs : List V} {l : List α} {f : α → Bool} (hl : vs.length = l.length) (h : ∀ (j : Nat) (v : V), vs[j]? = some v → ∃ a, l[j]? = some a ∧ v = .bl (f a)) : vs = (l.map f).map V.bl := by
  refine List.ext_getElem? fun j => ?_
  by_cases hj : j < vs.length
  · obtain ⟨d, h1, h2⟩ := h j _ (List.getElem?_eq_getElem hj)
    rw [List.getElem?_eq_getElem hj, h2, List.getElem?_map, List.getElem?_map, h1]
    rfl
  · rw [List.getElem?_eq_none (by omega), List.getElem?_eq_none (by simp; omega)]
theorem all_mapN {α : Type} {l : List α} {f : α → Bool} : (l.map f).all id = l.all f := by simp [List.all_map]
theorem low_a (c : Nat) : (!decide ((⟨#[c]⟩ : Str).cps.toList < ("a" : Str).cps.toList)) = decide (97 ≤ c) := by
  have h : (⟨#[c]⟩ : Str).cps.toList < ("a" : Str).cps.toList ↔ c < 97 := by
    show ([c] : List Nat) < [97] ↔ c < 97
    simp [List.cons_lt_cons_iff]
  by_cases hc : c < 97
  · rw [decide_eq_true (h.mpr hc), decide_eq_false (by omega)]; rfl
  · rw [decide_eq_false (fun z => hc (h.mp z)), decide_eq_true (by omega)]; rfl
theorem low_z (c : Nat) : (!decide (("z" : Str).cps.toList < (⟨#[c]⟩ : Str).cps.toList)) = decide (c ≤ 122) := by
  have h : ("z" : Str).cps.toList < (⟨#[c]⟩ : Str).cps.toList ↔ 122 < c := by
    show ([122] : List Nat) < [c] ↔ 122 < c
    simp [List.cons_lt_cons_iff]
  by_cases hc : 122 < c
  · rw [decide_eq_true (h.mpr hc), decide_eq_false (by omega)]; rfl
  · rw [decide_eq_false (fun z => hc (h.mp z)), decide_eq_true (by omega)]; rfl
/-- <: of ints, of texts -/
def rLtS : R2 := fun x y H Q => match x, y with
  | .int i, .int j => Q (.bl (decide (i < j))) H
  | .str i, .str j => Q (.bl (decide (i.cps.toList < j.cps.toList))) H
  | _, _ => False
theorem op_ltS {X : Cx} : OpR X (compareOp .Lt) rLtS := by
  intro pins s σ H x y v u Q I rx ry h
  cases x <;> cases y <;> first
    | exact h.elim
    | exact op_lt pins s σ H _ _ v u Q I rx ry ⟨_, _, rfl, rfl, h⟩
    | exact op_lt_str pins s σ H _ _ v u Q I rx ry ⟨_, _, rfl, rfl, h⟩
theorem gTup2_mono {K : PySem.W.Frag} {i j : Nat} : ∀ x σ H (q q' : St → Hp → Prop), gTup K 2 (gCons (gName i) (gCons (gName j) gNil)) x σ H q → (∀ σ H, q σ H → q' σ H) → gTup K 2 (gCons (gName i) (gCons (gName j) gNil)) x σ H q' :=
  fun _ _ _ _ _ ⟨a, xs, h1, h2, h3, v, r, h4, v2, r2, h5, h6, q⟩ k => ⟨a, xs, h1, h2, h3, v, r, h4, v2, r2, h5, h6, k _ _ q⟩
section
variable {X : Cx} {x : Str} {i : Int} {pos : Pos}
theorem pe_gint (hm : ∃ t, X.mg x = some (.int i t)) (hg : Gl X x := by rfl) (hd : (x == ("__debug__" : Str)) = false := by decide) : PE X (.Name x pos) (tC (.int i)) := by
  obtain ⟨t, hm⟩ := hm
  exact pe_glob hg hm ⟨t, rfl⟩ hd
end
end L2

set_option Elab.async false
set_option linter.all false
set_option maxRecDepth 100000
set_option maxHeartbeats 4000000
/-! Defs that may raise; == of a text and anything. -/
namespace L2
open PySem PySem.Spec PyProof.Rows PySem.KX
section
variable {X : Cx} {k j : Nat} {ps : List Str} {sp : Sp} {x : Str} {p pos : Pos} {e : Expr} {es : List Expr} {t : TA} {E : XK}
theorem pe_ownX (O : Own X.prog X.w X.K X.mg X.base (L2.CX X.prog X.w) x k ps sp) (hr : RoomG j X.A) (hx : Passes (L2.CX X.prog X.w) X E) (ha : PA X (e :: es) t) (hk : k ≤ j := by decide) (hg : Gl X x := by rfl) (hdb : (x == ("__debug__" : Str)) = false := by decide)
    (he : starEach (e :: es) X.env = (false, eval e X.env) :: starEach es X.env := by rfl) (hpl : (backTo pos (starEach es X.env)).any (·.1) = false := by rfl) : PE X (.Call (.Name x p) (e :: es) [] pos) (tCall sp [] E t) := by
  obtain ⟨f, fd, F, hm, hkp, hb⟩ := O.ex
  exact pe_callG F (hr.mono hk) hg hm hkp hb .nil hx ha hdb he hpl
end
/-- in a def's own body: what it may let out -/
theorem takesE {P : Program} {w : World} {K : PySem.W.Frag} {mg : Str → Option Value} {base : Heap} {N : List Str} {qual : Str} {scope : Scope} {f : Addr} {cdv : Value} {A : Around} {outer : List Env} {s : Shared} {H : Hp} {E : XK} :
    Takes (cxOf (L2.CX P w) P w K mg base N qual scope f cdv A outer s H E) (fun cls d _ H => E cls d H) := takes_of rfl rfl rfl rfl
theorem passE {P : Program} {w : World} {K : PySem.W.Frag} {mg : Str → Option Value} {base : Heap} {N : List Str} {qual : Str} {scope : Scope} {f : Addr} {cdv : Value} {A : Around} {outer : List Env} {s : Shared} {H : Hp} {E : XK} :
    Passes (L2.CX P w) (cxOf (L2.CX P w) P w K mg base N qual scope f cdv A outer s H E) E := passes_call takesE fun _ _ _ _ h => h
end L2

set_option Elab.async false
set_option linter.all false
set_option maxRecDepth 100000
set_option maxHeartbeats 4000000
/-! a text == x, whatever x. -/
namespace PySem
namespace KX
open SeqAt PySem.W PySem.Calls PyProof.Rows
theorem strD_declines (b : Str) (u : Tok) (p : Addr) (c : Value) (es : Array DictEntry) (k : Nat) (d1 : Option Addr) (z1 : Array (Option Value)) :
    Meets (Builtin.«str.__eq__» ⟨[.str b u, .ref p], []⟩) (fun _ R s => s.heap.get? p = some { cls := c, dict := d1, data := .dict es k, slots := z1 } ∧ R (.ok (.ret .notImplemented)) s) :=
  .of_wp fun prog w A R s hh => by
    obtain ⟨hp, g, d, tk, os⟩ := s
    obtain ⟨e1, hh⟩ := hh
    wp_walk using wpAny_loadPart' e1, wpAny_load e1
    exact ⟨_, rfl, hh⟩
theorem dictS_declines (p : Addr) (es : Array DictEntry) (k : Nat) (d1 : Option Addr) (z1 : Array (Option Value)) (b : Str) (u : Tok) :
    Meets (Builtin.«dict.__eq__» ⟨[.ref p, .str b u], []⟩) (fun _ R s => s.heap.get? p = some { cls := .type "dict", dict := d1, data := .dict es k, slots := z1 } ∧ R (.ok (.ret .notImplemented)) s) :=
  .of_wp fun prog w A R s hh => by
    obtain ⟨hp, g, d, tk, os⟩ := s
    obtain ⟨e1, hh⟩ := hh
    have f1 := F.sub_str_dict
    wp_walk using wpAny_loadPart' e1
    exact ⟨_, rfl, hh⟩
theorem rcStrDict {A : Around} {s : Shared} {p : Addr} {o : Obj} {es : Array DictEntry} {ep : Nat} (b : Str) (u : Tok) (ho : s.heap.get? p = some o) (hx : o.cls = .type "dict") (hd : o.data = .dict es ep) (hu : A.units < cLine) : RcAt A s (.str b u) (.ref p) false := fun prog w E Q h => by
  obtain ⟨c1, d1, t1, z1⟩ := o
  simp only at hx hd
  subst hx
  subst hd
  exact rc_eq_decline_or (k := false) (typeIs_str s b u) ⟨_, ho, rfl⟩ (by decide) F.sub_dict_str F.slot_str_eq F.slot_dict_eq_refl
    (fun _ hq => call_meets F.slot_str_eq (typeIs_str s b u) F.entry_str_eq (F.args_str_eq_2 _ _) (strD_declines b u p (.type "dict") es ep d1 z1) ⟨ho, hq⟩)
    (fun _ hq => call_meets F.slot_dict_eq_refl ⟨_, ho, rfl⟩ F.entry_dict_eq (F.args_dict_eq_2 _ _) (dictS_declines p es ep d1 z1 b u) ⟨ho, hq⟩)
    (fun _ hq => wpAny_of_eq (rfl : isSame (.str b u) (.ref p) = pure false) hq) (.inr hu) h
end KX
end PySem
namespace L2
open PySem PySem.Spec PyProof.Rows PySem.KX SeqAt
def isStrD (a : Str) : PyData → Bool
  | .str x => a == x
  | _ => false
def rEqStr (K : PySem.W.Frag) : R2 := fun x y H Q => ∃ a d, x = .str a ∧ Dq K H y d ∧ Q (.bl (isStrD a d)) H
theorem op_eqStr {X : Cx} (hu : X.A.units + 64 < cLine) : OpR X (compareOp .Eq) (rEqStr X.K) := by
  intro pins s σ H x y v u Q I rx ry h
  obtain ⟨a, d, rfl, hd, q⟩ := h
  obtain ⟨t, rfl⟩ := rx
  have hu1 : X.A.units < cLine := by omega
  have fin : ∀ {b : Bool}, RcAt X.A s (.str a t) u b → isStrD a d = b → wpAny (model X.prog X.w) X.A (compareOp .Eq (.str a t) u) (EP X pins σ Q) X.xe s := fun {b} rc e => rc X.prog X.w X.xe _ ⟨.bl b, H, I, rfl, e ▸ q⟩
  cases hd with
  | non =>
    cases ry
    exact fin (.str_none a t) rfl
  | bl b =>
    cases ry
    exact fin (.str_bool a t b) rfl
  | int i =>
    obtain ⟨t2, rfl⟩ := ry
    exact fin (.str_int a t i t2) rfl
  | str x =>
    obtain ⟨t2, rfl⟩ := ry
    exact fin (.str_str a t x t2) rfl
  | lst hs ha =>
    cases ry
    obtain ⟨its, rv, ⟨o, n, ho, hc, _, hd⟩, _⟩ := I.list hs
    exact fin (.str_list a t ⟨o, ho, hc, n, hd⟩ hu1) rfl
  | tup hs ha =>
    cases ry
    obtain ⟨its, rv, ⟨o, ho, hc, n, hd⟩, _⟩ := I.tuple hs
    exact fin (.str_tuple a t ⟨o, ho, hc, n, hd⟩ hu1) rfl
  | emp e =>
    cases ry
    obtain ⟨hz, hsm, vs, rel, o, es, ep, ho, hx, hd, hk, hp, _⟩ := dk_of I.hok e
    exact fin (rcStrDict a t ho hx.1 hd hu1) rfl
end L2

set_option Elab.async false
set_option linter.all false
set_option maxRecDepth 100000
set_option maxHeartbeats 4000000
/-! try: body, several except x as n clauses (n in slot i in each). -/
namespace L2
open PySem PySem.Spec PyProof.Rows PySem.KX
/-- what the clauses wish of an exception of the body, one after the other; slot i is the name's -/
def wManyN (K : PySem.W.Frag) (i : Nat) (Wout : WX) (D : Ends) : List (Value × (Addr → Value → Option Addr → TS)) → WX
  | [] => Wout
  | (c, ts) :: r => fun cls d σ H => ∃ b, PySem.W.exmOne K cls c = some b ∧
      (b = true → ∀ a, H a = none → ts a cls d { nx := fun σ' H' => D.nx (σ'.set i none) H', rt := D.rt, bk := fun σ' H' => D.bk (σ'.set i none) H', ct := fun σ' H' => D.ct (σ'.set i none) H' } (σ.set i (some (.ref a))) H) ∧ (b = false → wManyN K i Wout D r cls d σ H)
inductive HdsN (X : Cx) (n : Str) : List ExceptHandler → List (Value × (Addr → Value → Option Addr → TS)) → Prop
  | nil : HdsN X n [] []
  | cons {x : Str} {c : Value} {ts : Addr → Value → Option Addr → TS} {b₀ : Stmt} {suite : List Stmt} {np pos' : Pos} {hds : List ExceptHandler} {l : List (Value × (Addr → Value → Option Addr → TS))} (hc : Names X x c)
      (hsu : ∀ (a : Addr) (oe : Obj) (cls : Value) (d : Option Addr) (pn : List (Addr × Obj)), Zc cls d oe → (∃ vs, oe.data = .fields vs) → PSs (X.suite a ((a, oe) :: pn)) (b₀ :: suite) (ts a cls d)) (r : HdsN X n hds l) :
      HdsN X n (.ExceptHandler (some (.Name x np)) (some n) (b₀ :: suite) pos' :: hds) ((c, ts) :: l)
section
variable {X : Cx} {n : Str} {i : Nat} {body : List Stmt} {h₀ : ExceptHandler} {hds : List ExceptHandler} {l : List (Value × (Addr → Value → Option Addr → TS))} {pos : Pos} {tb : WX → TS} {Wout : WX}
theorem ps_try_asm (hs : X.stack = X.env :: X.outer) (hf : X.env.frame = some X.env.locals) (hN : X.N.Nodup) (hi : X.N[i]? = some n) (hln : X.env.kindOf n = some .local) (tk : Takes X Wout)
    (hb : ∀ (W : WX) (pn : List (Addr × Obj)) (xe : Value → Shared → Prop), Takes (X.tr pn xe) W → PassesOwn (model X.prog X.w) X.A X.env xe → PSs (X.tr pn xe) body (tb W))
    (hh : HdsN X n (h₀ :: hds) l) : PS X (.Try body (h₀ :: hds) [] [] pos) (fun D σ H => tb (wManyN X.K i Wout D l) D σ H) := by
  refine ⟨fun pins s σ H D I h => ?_⟩
  have ok := I.ok
  have hfr : X.A.frames = some (X.env :: X.outer) := by rw [ok.frames, hs]
  have hloc : Loc X.env.scope n := .inl hln
  refine wpAny_Try_except ?_
  refine wpAny_mono ((hb (wManyN X.K i Wout D l) (X.pn ++ pins) (fun e s₁ => wpAny (model X.prog X.w) X.A (noteFrame e X.env) (fun _ s₂ => wpAny (model X.prog X.w) X.A (setFlight e none) (fun _ s₃ =>
    wpAny (model X.prog X.w) X.A (handleBy e X.env (h₀ :: hds)) (SP X pins D) X.xe s₃) X.xe s₂) X.xe s₁) (fun u s' xx => ?_) PassesOwn.looking).run [] s σ H D (I.toTry _) h) (fun f s1 hsp => ?_) (fun e s1 he => he)
  · obtain ⟨a, B, sI, pins', σ', H', cls, d, rfl, J', nb, up, sky, na, os, ag, w⟩ := xx
    have J : Inv X pins σ' H' sI := J'.ofTry ok
    have sky' : Sky B (X.env :: X.outer) a (Zc cls d) X.env.locals s'.heap := by rw [← hs]; exact sky
    show wpAny (model X.prog X.w) X.A (noteFrame (.ref a) X.env) _ _ _
    refine Sky.land Zc.steady hfr hf sky' fun h3 fl3 up3 => ?_
    have J3 : Inv X pins σ' H' { s' with heap := h3 } := J.landed nb fl3.1 (up.trans up3) os ag
    obtain ⟨oe3, vs3, he3, hz3, hd3⟩ := fl3.there
    have notFr : ∀ {h : Heap} {o : Obj} {vs : Array Value}, h.FunFrames B (X.env :: X.outer) → h.get? a = some o → o.data = .fields vs → a ∉ frs (X.env :: X.outer) := fun {h o vs} ff e dd hm => by
      obtain ⟨_, o', e', hnf⟩ := ff.mem hm
      rw [e] at e'; cases e'
      exact hnf _ dd
    have nfr := notFr fl3.2.2.1 he3 hd3
    have nL : a ≠ X.env.locals := fun z => nfr (List.mem_filterMap.mpr ⟨X.env, List.mem_cons_self, by rw [hf, z]⟩)
    have nF : a ∉ X.fs := fun hm => by
      obtain ⟨e, he, q⟩ := List.mem_filterMap.mp hm
      exact nfr (List.mem_filterMap.mpr ⟨e, List.mem_cons_of_mem _ he, q⟩)
    have S3 := J3.suite he3 hd3 na nL nF
    have go : ∀ {hds' : List ExceptHandler} {l' : List (Value × (Addr → Value → Option Addr → TS))}, HdsN X n hds' l' → wManyN X.K i Wout D l' cls d σ' H' →
        wpAny (model X.prog X.w) X.A (handleBy (.ref a) X.env hds') (SP X pins D) X.xe { s' with heap := h3 } := by
      intro hds' l' hk
      induction hk with
      | nil =>
        intro w
        refine wpAny_handleBy_nil ?_
        obtain ⟨k1, k2, k3, oe, vs, T, oT, ts', he, hz, hd, h1, hr⟩ := id fl3
        unfold PySem.passOn
        refine wpAny_bind (wpAny_field he hd h1 ?_)
        rw [if_neg (show ¬ ((Value.ref T == Value.none) = true) from by simp)]
        have fin : wpAny (model X.prog X.w) X.A (setFlight (.ref a) X.env.frame) (fun _ s4 => wpAny (model X.prog X.w) X.A (throw (.ref a) : Sem Flow) (SP X pins D) X.xe s4) X.xe { s' with heap := h3 } := by
          rw [hf]
          refine HandSPX.setFlight_upZ fl3 fun h4 hh4 up4 => wpAny_throw (tk _ _ ?_)
          exact ⟨a, B, sI, pins, σ', H', cls, d, rfl, J, nb, (up.trans up3).trans up4, .inr (.inr (by rw [hs]; exact hh4)), na, os, ag, w⟩
        first
          | exact wpAny_bind (wpAny_pure (wpAny_bind fin))
          | exact wpAny_bind fin
      | @cons x c ts b₀ suite np pos' hds2 l2 hc hsu r ih =>
        intro w
        obtain ⟨b, hb1, hyes, hno⟩ := w
        refine wpAny_handleBy_cons (codeAny_handlers_test ?_) (by intro q; cases q)
        have LT : PySem.W.Looks (model X.prog X.w) h3 (typeOf (.ref a)) cls := fun A Q E s k q => wpAny_typeOf_ref (k _ _ he3) (by rw [hz3.1]; exact q)
        have LM := PySem.W.exm_one (M := model X.prog X.w) (J3.kIn) LT hb1
        have test : ∀ {Q : Value → Shared → Prop} {E : Value → Shared → Prop}, Q c { s' with heap := h3 } → wpAny (model X.prog X.w) (X.A.mark (some (.ref a))) (eval (.Name x np) X.env) Q E { s' with heap := h3 } := fun {Q E} q => by
          obtain ⟨hg, hdbg, hm | ⟨hm, hv, hnn⟩⟩ := hc
          · exact ld_glob (X := X.suite a ((a, oe3) :: (X.pn ++ pins))) S3 hg hm q hdbg
          · exact ld_blt (X := X.suite a ((a, oe3) :: (X.pn ++ pins))) S3 hg hm hv q hnn hdbg
        refine test (LM.here ?_)
        cases b with
        | true =>
          refine codeAny_handlers_suite_as ?_
          refine HandSPX.lands_againZ fl3 fun h4 fl4 up4 => ?_
          have J4 : Inv X pins σ' H' { s' with heap := h4 } := J.landed nb fl4.1 ((up.trans up3).trans up4) os ag
          obtain ⟨oe4, vs4, he4, hz4, hd4⟩ := fl4.there
          have S4 := J4.suite he4 hd4 na nL nF
          refine store_ok (X := X.suite a ((a, oe4) :: (X.pn ++ pins))) (v := .ref a) S4 hN hi hloc rfl (fun s5 S5 => ?_) (.inr hln)
          refine wpAny_mono ((hsu a oe4 cls d (X.pn ++ pins) hz4 ⟨_, hd4⟩).run [] s5 _ H' _ S5 (hyes rfl a na)) (fun f s6 hsp => ?_) (fun _ _ z => False.elim z)
          have end_ : ∀ {σ6 : St} {H6 : Hp} {Q : Shared → Prop}, Inv (X.suite a ((a, oe4) :: (X.pn ++ pins))) [] σ6 H6 s6 → (∀ s7, Inv X pins (σ6.set i none) H6 s7 → Q s7) →
              wpAny (model X.prog X.w) X.A (do bindName X.env n .none; unbindBehindTheSuite X.env n pos') (fun _ s7 => Q s7) X.xe s6 := fun {σ6 H6 Q} S6 hq => gone_ok (S6.unsuite ok) hN hi hln hq
          cases f with
          | next =>
            obtain ⟨σ6, H6, S6, q6⟩ := hsp
            exact end_ S6 fun s7 J7 => ⟨_, _, J7, q6⟩
          | brk =>
            obtain ⟨σ6, H6, S6, q6⟩ := hsp
            exact end_ S6 fun s7 J7 => ⟨_, _, J7, q6⟩
          | cont =>
            obtain ⟨σ6, H6, S6, q6⟩ := hsp
            exact end_ S6 fun s7 J7 => ⟨_, _, J7, q6⟩
          | ret u =>
            obtain ⟨v6, σ6, H6, S6, r6, q6⟩ := hsp
            exact end_ S6 fun s7 J7 => ⟨_, _, _, J7, r6, q6⟩
        | false =>
          show wpAny _ X.A (handleBy (.ref a) X.env hds2) _ _ _
          exact ih (hno rfl)
    exact go hh w
  · cases f with
    | next =>
      obtain ⟨σ', H', J', q⟩ := hsp
      exact wpAny_execs_nil ⟨σ', H', J'.ofTry ok, q⟩
    | brk =>
      obtain ⟨σ', H', J', q⟩ := hsp
      exact ⟨σ', H', J'.ofTry ok, q⟩
    | cont =>
      obtain ⟨σ', H', J', q⟩ := hsp
      exact ⟨σ', H', J'.ofTry ok, q⟩
    | ret u =>
      obtain ⟨v, σ', H', J', r, q⟩ := hsp
      exact ⟨v, σ', H', J'.ofTry ok, r, q⟩
end
end L2

set_option Elab.async false
set_option linter.all false
set_option maxRecDepth 100000
set_option maxHeartbeats 4000000
/-! The end of a law with lambdas, no repr under way. -/
namespace LamX
open PySem PySem.Spec PyProof.Rows L2
theorem law_callTG {P : Program} {w : World} {K : PySem.W.Frag} {mg mb : Str → Option Value} {CX : CXT} {k : Nat} {fa a : Addr} {cs : List (Addr × Addr)} {fd : FuncData} {x : Str} {sp : Sp} {s₁ : Shared} {vs : List Value} {ns : List Int}
    (KX : K.In s₁.heap) (hns : s₁.heap.Ns mainGlobals mg) (hb : s₁.heap.Ns builtinsNs mb) (hbb : ∀ x : Str, x ≠ "__name__" → mb x = bootBuiltins x) (hlim : s₁.heap.NoLimit) (hg : s₁.gens = #[])
    (hT : ∀ p ∈ cs, s₁.heap.get? p.2 = some { cls := .none, data := .fields #[] }) (nT : ∀ p ∈ cs, K.lookup p.2 = none) (C : ∀ p ∈ cs, PySem.W.CodeHd s₁.heap p.1 p.2)
    (hbm : ∃ (bm : Addr) (ob : Obj), mg "__builtins__" = some (.ref bm) ∧ bm ≠ builtinsNs ∧ s₁.heap.get? bm = some ob ∧ ob.cls = .type "module" ∧ ob.dict = some builtinsNs ∧ ob.data = .plain)
    (ha : s₁.heap.get? a = some { cls := .type "list", data := .seq vs.toArray }) (hi : IntsAre vs ns) (hl : ns.length ≤ sizeLine) (hr : Room k callerA)
    (F : ∀ base : Heap, K.In base → base.Ns mainGlobals mg → (∀ p ∈ cs, TabB base mg p.1 p.2) → FnG P w K mg base CX k fa fd [x] sp) (hbind : ∀ (s : Shared) (u : Value), BindsTo s fd ⟨[u], []⟩ [(x, u)])
    (hsp : ∀ H : Hp, (∀ p ∈ cs, H p.2 = some (.tbl #[])) → SqL K H a (ns.map V.int) → sp [.ref a] H (fun v _ => v = .bl true) fun _ _ _ => False)
    (hCX : ∀ H e s', CX [] H s₁ (fun _ _ _ => False) e s' → False) :
    codeAny (model P w) callerA (.call (.ref fa) ⟨[.ref a], []⟩) (fun r s' => r = .ok (.ret (.bool true)) ∧ OldK s₁.heap s'.heap ∧ s'.os = s₁.os ∧ AllBare s'.gens) s₁ := by
  have rv := vals_ints hi
  have lenV := hi.length
  have isT : ∀ b : Addr, b ∈ cs.map (·.2) → s₁.heap.get? b = some { cls := .none, data := .fields #[] } := fun b hb => by
    obtain ⟨p, hp, e⟩ := List.mem_map.mp hb
    rw [← e]
    exact hT p hp
  have aT : a ∉ cs.map (·.2) := fun z => by
    have q := isT a z
    rw [ha] at q
    have z' : Data.seq vs.toArray _ = Data.fields #[] := congrArg Obj.data (Option.some.inj q)
    cases z'
  have memT : ∀ p ∈ cs, p.2 ∈ cs.map (·.2) := fun p hp => List.mem_map.mpr ⟨p, hp, rfl⟩
  -- from an abstract heap in which nothing but the script and the tables may be tracked
  have core : ∀ H : Hp, (∀ p ∈ cs, H p.2 = some (.tbl #[])) → (∀ b, H b = none ∨ b ∈ cs.map (·.2) ∨ ∃ o xs, H b = some (.frz o (.lst xs))) → SqL K H a (ns.map V.int) → HOk P w H s₁.heap → (∀ b, H b ≠ none → b = a ∨ b ∈ cs.map (·.2)) → (H a ≠ none → K.lookup a = none) →
      codeAny (model P w) callerA (.call (.ref fa) ⟨[.ref a], []⟩) (fun r s' => r = .ok (.ret (.bool true)) ∧ OldK s₁.heap s'.heap ∧ s'.os = s₁.os ∧ AllBare s'.gens) s₁ := by
    intro H hH hO hS hok hA hK
    have base_of : ∀ {b : Addr} {o : Obj}, s₁.heap.get? b = some o → H b = none → (hidT s₁.heap H).get? b = some o := fun e n => hidT_get e n
    have noD : ∀ {b : Addr} {o : Obj}, s₁.heap.get? b = some o → (∀ vs n, o.data ≠ .seq vs n) → o.data ≠ .fields #[] → H b = none := fun {b o} e h1 h2 => by
      cases q : H b with
      | none => rfl
      | some u =>
        rcases hA b (by rw [q]; simp) with e' | e'
        · rw [e', ha] at e
          cases e
          exact (h1 _ _ rfl).elim
        · rw [isT b e'] at e
          cases e
          exact (h2 rfl).elim
    have noA : ∀ {b : Addr} {o : Obj} {es : Array DictEntry} {ep : Nat}, s₁.heap.get? b = some o → o.data = .dict es ep → H b = none := fun {b o es ep} e d => by
      refine noD e (fun vs n z => ?_) fun z => ?_
      · rw [d] at z
        cases z
      · rw [d] at z
        cases z
    have nsK : ∀ {b : Addr} {m : Str → Option Value}, s₁.heap.Ns b m → (hidT s₁.heap H).Ns b m := fun {b m} ⟨o, es, ep, e, d, r⟩ => ⟨o, es, ep, base_of e (noA e d), d, r⟩
    have hKb : K.In (hidT s₁.heap H) := fun b o e => base_of (KX b o e) (by
      cases q : H b with
      | none => rfl
      | some u =>
        rcases hA b (by rw [q]; simp) with e' | e'
        · rw [e'] at e q
          rw [hK (by rw [q]; simp)] at e
          cases e
        · obtain ⟨p, hp, ep⟩ := List.mem_map.mp e'
          rw [← ep, nT p hp] at e
          cases e)
    have hM : L2.Mod K mg (hidT s₁.heap H) := ⟨hKb, nsK hns, ⟨mb, nsK hb, hbb⟩, let ⟨mc, h1, h2⟩ := hlim; ⟨mc, nsK h1, h2⟩⟩
    have TB : ∀ p ∈ cs, TabB (hidT s₁.heap H) mg p.1 p.2 := fun p hp => by
      have hTp := hT p hp
      refine ⟨?_, ?_, fun z => ?_⟩
      · obtain ⟨o, us, file, tf, flags, tg, inF, text, tt, e1, r1, r2, r3, r4, r5, r6, r7, r8, hne⟩ := C p hp
        refine ⟨o, us, file, tf, flags, tg, inF, text, tt, base_of e1 (noD e1 (fun vs n z => ?_) fun z => ?_), r1, r2, r3, r4, r5, r6, r7, r8, hne⟩
        · rw [r2] at z
          cases z
        · rw [r2] at z
          cases z
          simp at r3
      · obtain ⟨bm, ob, b1, b2, b3, b4, b5, b6⟩ := hbm
        have nG : bm ≠ mainGlobals := fun q => by
          obtain ⟨o, es, ep, e, hd, _⟩ := hns
          rw [q, e] at b3
          cases b3
          rw [hd] at b6
          cases b6
        have nP : bm ≠ p.2 := fun q => by
          rw [q, hTp] at b3
          cases b3
          cases b6
        refine ⟨bm, ob, b1, b2, nG, nP, base_of b3 (noD b3 (fun vs n z => ?_) fun z => ?_), b4, b5, b6⟩
        · rw [b6] at z
          cases z
        · rw [b6] at z
          cases z
      · obtain ⟨o, es, ep, e, hd, _⟩ := hns
        rw [z, hTp] at e
        cases e
        cases hd
    have e0 : Env0 P w K mg (hidT s₁.heap H) callerA [] s₁ H := ⟨rfl, hM, fun b o e => of_hidT e, Nat.le_of_eq (hidT_size _ _), trivial, fun b hb => absurd (show b ∈ ([] : List Addr) from hb) (by simp), hok, .of_eq hg⟩
    refine codeAny_mono ((F _ hKb (nsK hns) TB).run callerA [] s₁ H ⟨[.ref a], []⟩ [.ref a] [.ref a] _ _ ⟨hr, rfl⟩ e0 (hbind s₁ (.ref a)) (.cons rfl .nil) (hsp H hH hS)) fun r s' h => ?_
    cases r with
    | error e => exact (hCX H e s' h).elim
    | ok fl =>
      cases fl with
      | next => exact False.elim h
      | brk => exact False.elim h
      | cont => exact False.elim h
      | ret u =>
        obtain ⟨v, H', os, bare, un, hok', r', q⟩ := h
        have q' : v = .bl true := q
        subst q'
        obtain rfl : u = Value.bool true := r'
        have key : ∀ b o, b ∉ cs.map (·.2) → s₁.heap.get? b = some o → s'.heap.get? b = some o := fun b o nb e => by
          cases q : H b with
          | none => exact un.keep b o e q (by intro z; exact absurd (show b ∈ ([] : List Addr) from z) (by simp)) (by simp)
          | some u =>
            rcases hO b with z | z | ⟨ob, xs, z⟩
            · rw [q] at z; cases z
            · exact absurd z nb
            · have z2 := un.frzs b ob _ z
              obtain ⟨e1, _⟩ := hok b _ z
              obtain ⟨e2, _⟩ := hok' b _ z2
              rw [e] at e1; cases e1
              exact e2
        have grown : ∀ p ∈ cs, ∃ more : Array Value, s'.heap.get? p.2 = some { cls := .none, data := .fields more } := fun p hp => by
          obtain ⟨more, z⟩ := un.tbls p.2 #[] (hH p hp)
          exact ⟨_, hok' p.2 _ z⟩
        refine ⟨rfl, ⟨fun b o e => ?_, fun b o e => ?_⟩, os, bare⟩
        · by_cases hb : b ∈ cs.map (·.2)
          · obtain ⟨p, hp, ep⟩ := List.mem_map.mp hb
            obtain ⟨more, hm⟩ := grown p hp
            rw [← ep] at e ⊢
            rw [hT p hp] at e
            cases e
            exact .inr (.inl ⟨((C p hp).tab (hT p hp)).isCodeTable, rfl, #[], more, rfl, by rw [Array.empty_append]; exact hm⟩)
          · exact .inl (key b o hb e)
        · by_cases hb : b ∈ cs.map (·.2)
          · obtain ⟨p, hp, ep⟩ := List.mem_map.mp hb
            obtain ⟨more, hm⟩ := grown p hp
            rw [← ep]
            exact ⟨_, hm⟩
          · exact ⟨o, key b o hb e⟩
  cases hk : K.lookup a with
  | some o =>
    have e := KX a o hk
    rw [ha] at e
    cases e
    refine core (fun b => if b ∈ cs.map (·.2) then some (.tbl #[]) else none) (fun p hp => if_pos (memT p hp)) (fun b => ?_) (.inr ⟨_, vs.toArray, _, hk, rfl, rfl, rfl, by rw [List.size_toArray, lenV]; exact hl, by simpa using rv⟩) (fun b u z => ?_) (fun b z => ?_) fun z => absurd (show (if a ∈ cs.map (·.2) then some (HO.tbl #[]) else none) = none from if_neg aT) z
    · by_cases hb : b ∈ cs.map (·.2)
      · exact .inr (.inl hb)
      · exact .inl (if_neg hb)
    · by_cases hb : b ∈ cs.map (·.2)
      · have z' := (if_pos hb).symm.trans z
        cases z'
        exact isT b hb
      · have z' := (if_neg hb).symm.trans z
        cases z'
    · by_cases hb : b ∈ cs.map (·.2)
      · exact .inr hb
      · exact absurd (if_neg hb) z
  | none =>
    refine core (fun b => if b = a then some (.frz { cls := .type "list", data := .seq vs.toArray } (.lst (ns.map V.int))) else if b ∈ cs.map (·.2) then some (.tbl #[]) else none) (fun p hp => (if_neg (show ¬ p.2 = a from fun z => aT (by rw [← z]; exact memT p hp))).trans (if_pos (memT p hp))) (fun b => ?_)
      (.inl (.inr ⟨{ cls := .type "list", data := .seq vs.toArray }, if_pos rfl⟩)) (fun b u z => ?_) (fun b z => ?_) fun _ => hk
    · by_cases hb : b = a
      · exact .inr (.inr ⟨_, _, if_pos hb⟩)
      · by_cases hb2 : b ∈ cs.map (·.2)
        · exact .inr (.inl hb2)
        · exact .inl ((if_neg hb).trans (if_neg hb2))
    · by_cases hb : b = a
      · have z' := (if_pos hb).symm.trans z
        cases z'
        rw [hb]
        exact ⟨ha, by rw [List.length_map]; exact hl, vs, _, rv, ha⟩
      · have z1 := (if_neg hb).symm.trans z
        by_cases hb2 : b ∈ cs.map (·.2)
        · have z' := (if_pos hb2).symm.trans z1
          cases z'
          exact isT b hb2
        · have z' := (if_neg hb2).symm.trans z1
          cases z'
    · by_cases hb : b = a
      · exact .inl hb
      · by_cases hb2 : b ∈ cs.map (·.2)
        · exact .inr hb2
        · exact absurd ((if_neg hb).trans (if_neg hb2)) z
def LawAtG (l : PySem.W.OpenLaw) (w : World) (K : PySem.W.Frag) (CX : CXT) (k n : Nat) (x : Str) (mg : Str → Option Value) (fa : Addr) (h : Heap) : Prop :=
  ∃ (fd : FuncData) (cs : List (Addr × Addr)) (sp : Sp), (∀ p ∈ cs, h.get? p.2 = some { cls := .none, data := .fields #[] }) ∧ (∀ p ∈ cs, K.lookup p.2 = none) ∧ (∀ p ∈ cs, PySem.W.CodeHd h p.1 p.2) ∧ (∀ (s : Shared) (u : Value), BindsTo s fd ⟨[u], []⟩ [(x, u)]) ∧
    (∀ (H : Hp) (a : Addr) (ns : List Int), ns.length ≤ n → (∀ z ∈ ns, Builtin.Int.intBits z ≤ 1048576) → (∀ p ∈ cs, H p.2 = some (.tbl #[])) → SqL K H a (ns.map V.int) → sp [.ref a] H (fun v _ => v = .bl true) fun _ _ _ => False) ∧
    ∀ base : Heap, K.In base → base.Ns mainGlobals mg → (∀ p ∈ cs, TabB base mg p.1 p.2) → FnG l.prog w K mg base CX k fa fd [x] sp
theorem walk_ofTG {l : PySem.W.OpenLaw} {n k : Nat} {q : Program} {loose : List Str} {XP : (Str → Option Value) → Heap → Prop} {YP : World → Heap → Prop} {d : DefRec} {K : Params → PySem.W.Frag} {CX : World → CXT} {x : Str}
    (hn : l.most = some n) (hn2 : n ≤ sizeLine) (hdf : d.params.defaults = []) (hr : Room k callerA) (hY : ∀ (w : World) (h : Heap), YP w h → (K w.params).In h)
    (F : ∀ (w : World) (mg : Str → Option Value) (fa : Addr) (h : Heap), YP w h → (K w.params).In h → h.Ns mainGlobals mg → mg d.name = some (.ref fa) → LawAtG l w (K w.params) (CX w) k n x mg fa h)
    (hCX : ∀ (w : World) (H : Hp) (s : Shared) (e : Value) (s' : Shared), CX w [] H s (fun _ _ _ => False) e s' → False) :
    PySem.W.WalkO q loose XP YP l.row.toRowW d [] (fun f vs => PySem.call f vs) := by
  refine Att.attach_callB hn hdf fun w s₀ s₁ mg mb fa o pm cd doc a vs ns G Y ho hd hcd hmg hobj hints hlen hbits hg => ?_
  have KX := hY w _ Y
  obtain ⟨fd, cs, sp, hT, nT, C, hb, hsp, hF⟩ := F w mg fa _ Y KX G.T.g hmg
  exact law_callTG KX G.T.g G.T.b G.T.builtins G.T.nolimit hg hT nT C G.T.bmain hobj hints (Nat.le_trans hlen hn2) hr hF hb (fun H hH hS => hsp H a ns hlen hbits hH hS) fun H e s' => hCX w H s₁ e s'
end LamX

set_option Elab.async false
set_option linter.all false
set_option maxRecDepth 100000
set_option maxHeartbeats 4000000
/-! Lambdas handed to a def, no repr under way. -/
namespace LamX
open PySem PySem.Spec PyProof.Rows L2
section
variable {X : Cx} {pins : List (Addr × Obj)} {σ : L2.St} {H HZ : Hp} {s s1 : Shared}
theorem pe_actG {CXg : CXT} {Eg : XK} {Ng : List Str} {qg : Str} {sg : Scope} {g f c' : Addr} {cdg pm ctv : Value} {params : Arguments} {body : Expr} {scope : Scope} {k i : Nat} {a : Str} {pn : List (Addr × Obj)} {xe : Value → Shared → Prop} {W : WX} {E : XK} {tb : TE} {p1 p2 : Pos}
    (I : Inv X pins σ H s) (L : LamS X.env.scope scope) (hf : s.heap.get? f = some (PySem.W.kla_obj "<lambda>" (X.env.qual ++ "<lambda>") params body scope (cloFrom X.env.cells scope.names []) pm c' ctv)) (hfn : H f = none) (hfr : f ∉ frs X.stack)
    (hbind : bindArgs (PySem.W.kla_fn "<lambda>" (X.env.qual ++ "<lambda>") params body scope (cloFrom X.env.cells scope.names []) pm (.ref c') ctv) ⟨[], []⟩ = pure [])
    (tk : Takes ((cxOf CXg X.prog X.w X.K X.mg X.base Ng qg sg g cdg X.A X.stack s H Eg).tr pn xe) W) (hW : ∀ cls d σ' H', E cls d H' → W cls d σ' H') (hr : RoomG (k + 1) (X.A.deeper (envOfC qg sg s.heap.objs.size g cdg)))
    (hbody : ∀ (A : Around) (outer : List Env) (s : Shared) (H : Hp), RoomG k (A.deeper (lamEnv X scope s.heap.objs.size f c')) → PE (lamCx X A outer s H E scope f c') body tb)
    (hN : Ng[i]? = some a) (hv : Vis sg a) (hd : (a == ("__debug__" : Str)) = false := by decide) (hcd : (a == ("__classdict__" : Str)) = false := by decide) :
    PE ((cxOf CXg X.prog X.w X.K X.mg X.base Ng qg sg g cdg X.A X.stack s H Eg).tr pn xe) (.Call (.Name a p1) [] [] p2)
      (fun σZ HZ Q => σZ[i]? = some (some (.ref f)) ∧ HZ c' = some (CodeO c' (X.env.qual ++ "<lambda>")) ∧ tb σ HZ Q) := by
  refine ⟨fun pinsZ sZ σZ HZ Q IZ h => ?_⟩
  obtain ⟨hs, hc, ht⟩ := h
  refine wpAny_Call_Name_kw (thn ((pe_var (pos := p1) (i := i) hN hv hd hcd).run pinsZ sZ σZ HZ (fun v H1 => v = .ref f ∧ H1 = HZ) IZ ⟨.ref f, hs, rfl, rfl⟩) fun u s1 ⟨v, H1, I1, r1, q1⟩ => ?_)
  obtain ⟨ev, eH⟩ := q1
  subst ev
  rw [eH] at I1
  obtain rfl : u = Value.ref f := r1
  have of1 : s1.heap.get? f = some (PySem.W.kla_obj "<lambda>" (X.env.qual ++ "<lambda>") params body scope (cloFrom X.env.cells scope.names []) pm c' ctv) := I1.base.keep f _ hf hfn hfr (fun z => nomatch (show f ∈ ([] : List Addr) from z))
  refine PySem.W.callWith_F0 ⟨_, _, _, _, of1⟩ ?_
  have un : Un (frs X.stack) [] H HZ s.heap s1.heap := I1.base
  obtain ⟨⟨oc, vs, t, hoc, hdc, hvc⟩, _, _⟩ := I1.hok c' _ hc
  have rc : codeAny (model X.prog X.w) (X.A.deeper (envOfC qg sg s.heap.objs.size g cdg)) (.call (.ref f) ⟨[], []⟩) (CR (L2.CX X.prog X.w) (envOfC qg sg s.heap.objs.size g cdg :: X.stack) X.prog X.w HZ s1 Q E) s1 := by
    refine PySem.W.kla_callFunE hr.r.depth of1 rfl L.co L.gen rfl ⟨c', oc, vs, t, rfl, hoc, hdc, hvc⟩ ?_
    rw [hbind]
    refine wpAny_pure (wpAny_newFunctionEnv (fun y hy => (L.own y hy).2) (fun y hy => absurd hy (by simp)) (fun h₁ hns hsb => ⟨I1.nolimit.fresh _ hsb, ?_⟩) L.kind)
    show codeAny _ _ (.expr body (lamEnv X scope s1.heap.objs.size f c')) _ _
    have kp : ∀ b o, s1.heap.get? b = some o → h₁.get? b = some o := fun b o e => hsb.extBut b o (Nat.ne_of_lt (Heap.lt_size e)) (Heap.get?_push_of_some _ e)
    have J : Inv (lamCx X (X.A.deeper (envOfC qg sg s.heap.objs.size g cdg)) (envOfC qg sg s.heap.objs.size g cdg :: X.stack) s1 HZ E scope f c') [] σ HZ { s1 with heap := h₁, toks := s1.toks + ([] : List (Str × Value)).length } :=
      lam_start2 I L I1.env0 hr.r.hd un hns kp
    refine PySem.W.kla_codeExpr (wpAny_mono ((hbody _ _ s1 HZ (hr.deeper _)).run [] _ _ HZ Q J ht) (fun v s' hq => ?_) fun e s' hq => hq)
    obtain ⟨w', H', J', rv, q⟩ := hq
    exact ⟨w', H', J'.os, J'.bare, J'.base, J'.hok, rv, q⟩
  have hx : Passes (L2.CX X.prog X.w) ((cxOf CXg X.prog X.w X.K X.mg X.base Ng qg sg g cdg X.A X.stack s H Eg).tr pn xe) E := passes_call tk hW
  refine wpAny_call (codeAny_mono rc fun r s' hq => ?_)
  cases r with
  | error e => exact hx pinsZ σZ HZ s1 e s' I1 hq
  | ok fl =>
    cases fl with
    | ret u => exact I1.after hq
    | next => exact False.elim hq
    | brk => exact False.elim hq
    | cont => exact False.elim hq
end
section
variable {X : Cx}
theorem pe_lamcallG {T : List (Addr × Str)} {TT : (XK → Hp → VK → Prop) → Hp → VK → Prop} {x a : Str} {g c P : Addr} {k : Nat} {pg : Arguments} {bg : List Stmt} {sg : Scope} {dV kV doc pm cdv ct oc : Value} {an od : Option Addr} {osl : Array (Option Value)} {Ng : List Str}
    {params : Arguments} {body : Expr} {scope : Scope} {t : XK → TE} {p lpos pos : Pos} (hg : Gl X x) (hm : X.mg x = some (.ref g)) (hk : PySem.W.keepIn X.K (.ref g) = true)
    (lk : X.K.lookup g = some ⟨oc, od, .func (PySem.W.fnOf x x pg bg sg dV kV doc pm an cdv ct), osl⟩) (hcg : PySem.W.codeIn X.K cdv x = true) (hb : L2.Binds X.K (PySem.W.fnOf x x pg bg sg dV kV doc pm an cdv ct) [a] []) (Sg : FnScope Ng [a] sg) (hNg : Ng[0]? = some a) (hva : Vis sg a)
    (hG : GivesTo X Ng x sg g cdv bg a (X.env.qual ++ "<lambda>") TT)
    (TB : TabB X.base X.mg c P) (hcode : X.env.code = .ref c) (hmT : (P, X.env.qual ++ "<lambda>") ∈ T) (hu : ∀ p ∈ T, p.1 = P → p.2 = X.env.qual ++ "<lambda>") (hr : RoomG (k + 2) X.A) (L : LamS X.env.scope scope) (hdef : defaultsOf params X.env = ([], []))
    (hbind : ∀ (q : Str) (cl : List (Str × Addr)) (pm cv ctv : Value), bindArgs (PySem.W.kla_fn "<lambda>" q params body scope cl pm cv ctv) ⟨[], []⟩ = pure [])
    (hbody : ∀ (A : Around) (outer : List Env) (s : Shared) (H : Hp) (E : XK) (f c' : Addr), RoomG k (A.deeper (lamEnv X scope s.heap.objs.size f c')) → PE (lamCx X A outer s H E scope f c') body (t E))
    (hdb : (x == ("__debug__" : Str)) = false := by decide) (hd : (a == ("__debug__" : Str)) = false := by decide) (hcd : (a == ("__classdict__" : Str)) = false := by decide) :
    PE X (.Call (.Name x p) [.Lambda params body scope lpos] [] pos) (tLam T TT t) := by
  refine ⟨fun pins s σ H Q I h => ?_⟩
  obtain ⟨hT, h⟩ := h
  refine wpAny_Call_Name_kw (ld_glob I hg hm ?_ hdb)
  refine PySem.W.callWith_K (h₀ := X.base) I.ok.mod.kin hk ?_ (by rfl) (by rfl)
  show wpAny _ _ (spliced ((false, eval (.Lambda params body scope lpos) X.env) :: backTo pos (starEach [] X.env))) _ _ s
  refine Calls.spliced_cons (lam_make2 I TB hcode hmT hu hT hdef (L.has I.ok) fun f c' pm' ctv H1 s' I1 eN T1 hf hfn hfr hco => ?_)
  refine Calls.spliced_nil ⟨I1.kIn, ?_⟩
  have rc : codeAny (model X.prog X.w) X.A (.call (.ref g) ⟨[.ref f], []⟩) (CR C8.CX0 X.stack X.prog X.w H1 s' Q C8.E0) s' := by
    refine run_ofS (N := Ng) (ps := [a]) (us := [.ref f]) (vs := [.ref f]) lk hcg Sg hr.r I1.env0 (hb s' [.ref f] I1.kIn rfl) (.cons rfl .nil) rfl fun hr' => ?_
    obtain ⟨t', ht', hq'⟩ := hG f c' s' H1 Q (fun E H' Q' => t E σ H' Q') (fun W pn xe E p1 p2 tk hW => pe_actG (i := 0) I1 L hf hfn hfr (hbind _ _ _ _ _) tk hW ⟨hr', hr.g⟩ (fun A outer s H hr2 => hbody A outer s H E f c' hr2) hNg hva hd hcd) hco (h H1 eN T1)
    exact ⟨t', ht'.nox, hq'⟩
  refine wpAny_call (codeAny_mono rc fun r s2 hq => ?_)
  cases r with
  | error e => exact (show False from hq).elim
  | ok fl =>
    cases fl with
    | ret u => exact I1.after hq
    | next => exact False.elim hq
    | brk => exact False.elim hq
    | cont => exact False.elim hq
end
end LamX

set_option Elab.async false
set_option linter.all false
set_option maxRecDepth 100000
set_option maxHeartbeats 4000000
/-! repr of any data; isinstance of the exception that a suite holds. -/
namespace L2
open PySem PySem.Spec PyProof.Rows PySem.KX
section
variable {X : Cx}
/-- repr(x) -/
def rReprW (K : PySem.W.Frag) : List V → Hp → VK → Prop := fun xs H Q => ∃ (v : V) (d : PyData), xs = [v] ∧ ((d.hasDict = false ∧ Dq K H v d) ∨ Dn K H v d) ∧ d.showable = true ∧ d.depth ≤ 60 ∧ d.shown.length ≤ sizeLine ∧ Q (.str d.shown) H
theorem call_reprW (hu : X.A.units + 64 < cLine) (hg : X.A.guards = some []) : CallR X (.builtin "repr") (rReprW X.K) := by
  intro pins s σ H xs us Q I r h
  obtain ⟨v, d, rfl, hd, h1, h3, h4, q⟩ := h
  have hd' : Dq X.K H v d := by
    rcases hd with ⟨_, hd⟩ | hd
    · exact hd
    · exact Dn.dq _ _ hd
  have rf : ∀ a, v = .ref a → wpAny (model X.prog X.w) X.A (call (.builtin "repr") us) (EP X pins σ Q) X.xe s := fun a e => by
    subst e
    exact call_reprQ hu hg pins s σ H _ us Q I r ⟨a, d, rfl, hd, h1, h3, h4, q⟩
  cases hd' with
  | non =>
    obtain ⟨u, rfl, ru⟩ := vals1 r
    cases ru
    exact PySem.P.repr_of_none ⟨.str _, H, I.kept (t' := s.toks + 1) fun _ _ e => e, ⟨_, rfl⟩, q⟩
  | bl b =>
    obtain ⟨u, rfl, ru⟩ := vals1 r
    cases ru
    exact PySem.P.repr_of_bool ⟨.str _, H, I.kept (t' := s.toks + 1) fun _ _ e => e, ⟨_, rfl⟩, q⟩
  | int i =>
    obtain ⟨u, rfl, t, rfl⟩ := vals1 r
    exact PySem.P.repr_of_int (of_decide_eq_true h1) ⟨.str _, H, I.kept (t' := s.toks + 1) fun _ _ e => e, ⟨_, rfl⟩, q⟩
  | str x =>
    obtain ⟨u, rfl, t, rfl⟩ := vals1 r
    exact PySem.P.repr_of_str ⟨.str _, H, I.kept (t' := s.toks + 1) fun _ _ e => e, ⟨_, rfl⟩, q⟩ h4
  | lst hs ha => exact rf _ rfl
  | tup hs ha => exact rf _ rfl
  | emp h => exact rf _ rfl
/-- isinstance(e, c), e the exception that the suite holds: class cls, dict d -/
def rIsX (K : PySem.W.Frag) (a : Addr) (cls : Value) (d : Option Addr) : List V → Hp → VK → Prop := fun xs H Q => ∃ (c : V) (u : Value) (b : Bool) (D : Addr), xs = [.ref a, c] ∧ ClsV c u ∧ cls = .ref D ∧ d = none ∧ XI K D ∧ PySem.W.kitOne K (.ref D) u = some b ∧ Q (.bl b) H
theorem call_isX {a : Addr} {oe : Obj} {cls : Value} {d : Option Addr} {pn : List (Addr × Obj)} (hz : Zc cls d oe) (hf : ∃ vs, oe.data = .fields vs) : CallR (X.suite a ((a, oe) :: pn)) (.builtin "isinstance") (rIsX X.K a cls d) := by
  intro pins s σ H xs us Q I r h
  obtain ⟨c, u, b, D, rfl, k, rfl, rfl, T, e, q⟩ := h
  obtain ⟨u1, u2, rfl, r1, r2⟩ := vals2 r
  have e2 := k.eq r2
  subst e2
  obtain rfl : u1 = Value.ref a := r1
  obtain ⟨hget, _⟩ := I.pin (a, oe) (List.mem_append.mpr (.inl List.mem_cons_self))
  obtain ⟨vs, hv⟩ := hf
  have J : PySem.W.InstAt s.heap a oe D none := by
    obtain ⟨oc, od, oda, osl⟩ := oe
    obtain ⟨h1, h2⟩ := hz
    dsimp only at h1 h2 hv
    subst h1 h2 hv
    exact ⟨hget, rfl, rfl, trivial⟩
  exact PySem.W.kia_one (PySem.W.kitx_exc (od := none) T.cl T.ga T.gg T.ex T.ca T.cn T.ct T.mo) I.kIn J e (fun z => nomatch z) fun tk => ⟨.bl b, H, I.tok tk, rfl, q⟩
/-- bs.count(k), bs bools -/
def eqb (k : Bool) (v : Value) : Bool := match v with
  | .bool b => b == k
  | _ => false
theorem vals_bl : ∀ {bs : List Bool} {us : List Value}, Vals (bs.map V.bl) us → us = bs.map Value.bool
  | [], _, h => by cases h; rfl
  | b :: r, _, h => by
    cases h with
    | cons h1 t =>
      cases h1
      rw [vals_bl t]
      rfl
theorem countb {k : Bool} : ∀ bs : List Bool, (bs.map Value.bool).countP (eqb k) = bs.count k
  | [] => rfl
  | b :: r => by
    have ih := countb (k := k) r
    rw [List.map_cons, List.countP_cons, List.count_cons, ih] <;> rfl
def rCntB (K : PySem.W.Frag) : V → List V → Hp → VK → Prop := fun x xs H Q => ∃ (p : Addr) (bs : List Bool) (k : Bool), x = .ref p ∧ xs = [.bl k] ∧ SqL K H p (bs.map V.bl) ∧ Q (.int (bs.count k : Nat)) H
theorem mt_bcount : MtR X "list.count" (rCntB X.K) := by
  intro pins s σ H x xs v us Q I rx rxs h
  obtain ⟨p, bs, k, rfl, rfl, hs, q⟩ := h
  cases rx
  obtain ⟨u, rfl, ru⟩ := rxs.one
  cases ru
  obtain ⟨its, rv, ⟨⟨cls, dd, data, sl⟩, n, ho, hc, hdn, hd⟩, hlen⟩ := I.list hs
  simp only at hc hd
  subst hc hd
  have hi := vals_bl rv
  subst hi
  refine call_meets PySem.F.slot_list_count ⟨_, ho, rfl⟩ PySem.F.entry_list_count (PySem.F.args_list_count_2 _ _)
    (SeqAt.list_countAt p (bs.map Value.bool).toArray n dd sl (.bool k) (eqb k)) ⟨ho, fun y hy => ?_, ?_⟩
  · obtain ⟨b, _, rfl⟩ := List.mem_map.mp (List.mem_toArray.mp hy)
    exact SeqAt.EqAt.bool_bool b k
  · refine ⟨.int (bs.count k : Nat), H, I.tok _, ⟨s.toks, ?_⟩, q⟩
    show Value.int ((((bs.map Value.bool).toArray.toList.countP (eqb k) : Nat) : Int)) s.toks = Value.int ((bs.count k : Nat) : Int) s.toks
    rw [show (bs.map Value.bool).toArray.toList = bs.map Value.bool from rfl, countb]
end
end L2

set_option Elab.async false
set_option linter.all false
set_option maxRecDepth 100000
set_option maxHeartbeats 4000000
/-! Own exceptions that keep a copy of any data. -/
namespace L2
open PySem PySem.Spec PyProof.Rows PySem.KX
/-- lists, tuples stay -/
def KeptQ (H H' : Hp) : Prop := ∀ b, (∀ xs, H b = some (.lst xs) → H' b = some (.lst xs)) ∧ (∀ xs, H b = some (.tup xs) → H' b = some (.tup xs)) ∧ (∀ o u, H b = some (.frz o u) → H' b = some (.frz o u)) ∧ (H b = some (.dK []) → H' b = some (.dK []))
theorem keptQ_ext {H H' : Hp} {b : Addr} {g : Heap → Prop} (e : H b = some (.ext g)) : (∀ xs, H b = some (.lst xs) → H' b = some (.lst xs)) ∧ (∀ xs, H b = some (.tup xs) → H' b = some (.tup xs)) ∧ (∀ o u, H b = some (.frz o u) → H' b = some (.frz o u)) ∧ (H b = some (.dK []) → H' b = some (.dK [])) := by
  rw [e]
  exact ⟨(fun _ z => nomatch z), (fun _ z => nomatch z), (fun _ _ z => nomatch z), (fun z => nomatch z)⟩
mutual
theorem Dq.keep {K : PySem.W.Frag} {H H' : Hp} (e : KeptQ H H') : ∀ (d : PyData) (v : V), Dq K H v d → Dq K H' v d
  | .none, _, h => by cases h; exact .non
  | .bool b, _, h => by cases h; exact .bl b
  | .int i, _, h => by cases h; exact .int i
  | .str x, _, h => by cases h; exact .str x
  | .list ds, _, h => by
    cases h with
    | lst hs ha =>
      refine .lst ?_ (DqAll.keep e ds _ ha)
      rcases hs with (hs | ⟨o, hs⟩) | hs
      · exact .inl (.inl ((e _).1 _ hs))
      · exact .inl (.inr ⟨o, (e _).2.2.1 _ _ hs⟩)
      · exact .inr hs
  | .tuple ds, _, h => by
    cases h with
    | tup hs ha =>
      refine .tup ?_ (DqAll.keep e ds _ ha)
      rcases hs with (hs | ⟨o, hs⟩) | hs
      · exact .inl (.inl ((e _).2.1 _ hs))
      · exact .inl (.inr ⟨o, (e _).2.2.1 _ _ hs⟩)
      · exact .inr hs
  | .dict _, _, h => by
    cases h with
    | emp h => exact .emp ((e _).2.2.2 h)
theorem DqAll.keep {K : PySem.W.Frag} {H H' : Hp} (e : KeptQ H H') : ∀ (ds : List PyData) (vs : List V), DqAll K H vs ds → DqAll K H' vs ds
  | [], _, h => by cases h; exact .nil
  | d :: ds, _, h => by
    cases h with
    | cons h1 h2 => exact .cons (Dq.keep e d _ h1) (DqAll.keep e ds _ h2)
end
/-- C.__init__(self, v): the one field is a copy of v -/
def spIniQ (K : PySem.W.Frag) (C : Addr) (f : Str) : Sp := fun vs H Q _ => ∃ (a : Addr) (v : V) (d : PyData), vs = [.ref a, v] ∧ H a = some (exo a C none) ∧ Dq K (hide [a] H) v d ∧ d.depth ≤ 10 ∧ smQ d = true ∧
  ∀ (H' : Hp) (dx : Addr) (v' : V), (∀ b o, b ≠ a → H b = some o → H' b = some o) → H dx = none → H' a = some (exo a C (some dx)) → H' dx = some (exd dx [(f, v')]) → Dq K H' v' d → Q .non H'
/-- what a caller knows of an own exception class that keeps a copy of its one argument -/
structure ErrQ (P : Program) (w : World) (K : PySem.W.Frag) (mg : Str → Option Value) (base : Heap) (x : Str) (C : Addr) (f : Str) (Bi newId initId : String) (bm : List Value) : Prop where
  B : XB Bi newId initId bm
  T : XCls K C newId bm
  xi : XI K C
  xc : XfC K C
  hno : PySem.W.findIn K (.ref C) f = some none
  g : mg x = some (.ref C)
  ini : ∃ fI fd, PySem.W.findIn K (.ref C) "__init__" = some (some (.ref fI)) ∧ PySem.W.typeIn K (.ref fI) = some (.type "function") ∧ FnOk P w K mg base CX0 12 fI fd ["self", f] (spIniQ K C f) ∧ Binds K fd ["self", f] []
/-- C(e) as a value -/
def tErrVQ (K : PySem.W.Frag) (C : Addr) (f : Str) (te : TE) : TE := fun σ H Q => te σ H fun v H1 => ∃ d, Dq K H1 v d ∧ d.depth ≤ 10 ∧ smQ d = true ∧
  ∀ (a dx : Addr) (v' : V) (H' : Hp), Same H1 H' → H1 a = none → H' a = some (exo a C (some dx)) → H' dx = some (exd dx [(f, v')]) → Dq K H' v' d → Q (.ref a) H'
/-- raise C(e) -/
def tErrXQ (K : PySem.W.Frag) (C : Addr) (f : Str) (te : TE) : St → Hp → XK → Prop := fun σ H Q => te σ H fun v H1 => ∃ d, Dq K H1 v d ∧ d.depth ≤ 10 ∧ smQ d = true ∧
  ∀ (dx : Addr) (v' : V) (H' : Hp), Same H1 H' → H1 dx = none → H' dx = some (.xd [(f, v')]) → Dq K H' v' d → Q (.ref C) (some dx) H'
section
variable {X : Cx} {e : Expr} {te : TE} {f : Str} {p pos : Pos} {Bi newId initId : String} {bm : List Value} {x : Str} {C : Addr} {j : Nat}
theorem PMk.imp2 {t t' : St → Hp → XK → Prop} (h : PMk X e t) (k : ∀ σ H Q, t' σ H Q → t σ H Q) : PMk X e t' := fun pins s σ H Q I q => h pins s σ H Q I (k σ H Q q)
theorem ini_hQ {H1 : Hp} {K : PySem.W.Frag} {a : Addr} {v : V} {d : PyData} {o : HO} (n : H1 a = none) (h : Dq K H1 v d) : Dq K (hide [a] (upd H1 a o)) v d := by
  rw [hide_upd, hide_new n, hide_nil]
  exact h
theorem ini_sameQ {H1 H' : Hp} {a : Addr} {o : HO} (n : H1 a = none) (k : ∀ b o', b ≠ a → upd H1 a o b = some o' → H' b = some o') : Same H1 H' := fun b o' q => by
  have hb : b ≠ a := ne_of_none q n
  exact k b o' hb (by rw [upd_ne hb]; exact q)
theorem pe_errQ (E : ErrQ X.prog X.w X.K X.mg X.base x C f Bi newId initId bm) (hr : RoomG j X.A) (he : PE X e te) (hj : 13 ≤ j := by decide) (hg : Gl X x := by rfl)
    (hdb : (x == ("__debug__" : Str)) = false := by decide) (hs : starEach [e] X.env = (false, eval e X.env) :: starEach [] X.env := by rfl) (hpl : (backTo pos (starEach [] X.env)).any (·.1) = false := by rfl) :
    PE X (.Call (.Name x p) [e] [] pos) (tErrVQ X.K C f te) := by
  obtain ⟨fI, fd, iC, tI, F1, hb⟩ := E.ini
  refine (pe_oexX E.B E.T iC tI F1 (hr.r.mono hj) hb pass0 E.g (pa_cons he.up pa_nil hs) hg hdb hs hpl).imp fun σ H Q h => ?_
  refine ⟨_, h, fun v H1 ⟨d, hd, h1, h2, k⟩ => ⟨by show 1 ≤ 1000; omega, fun a na => ?_⟩⟩
  refine ⟨a, v, d, rfl, upd_same, ini_hQ na hd, h1, h2, fun H' dx v' kp _ ea ed hv => ⟨rfl, ?_⟩⟩
  exact k a dx v' H' (ini_sameQ na kp) na ea ed hv
theorem pmk_errQ (E : ErrQ X.prog X.w X.K X.mg X.base x C f Bi newId initId bm) (hr : RoomG j X.A) (he : PE X e te) (hj : 13 ≤ j := by decide) (hg : Gl X x := by rfl)
    (hdb : (x == ("__debug__" : Str)) = false := by decide) (hs : starEach [e] X.env = (false, eval e X.env) :: starEach [] X.env := by rfl) (hpl : (backTo pos (starEach [] X.env)).any (·.1) = false := by rfl) :
    PMk X (.Call (.Name x p) [e] [] pos) (tErrXQ X.K C f te) := by
  obtain ⟨fI, fd, iC, tI, F1, hb⟩ := E.ini
  refine PMk.imp2 (pmk_oexX E.B E.T iC tI F1 (hr.r.mono hj) hb pass0 E.g (pa_cons he.up pa_nil hs) hg hdb hs hpl) fun σ H Q h => ?_
  refine ⟨_, h, fun v H1 ⟨d, hd, h1, h2, k⟩ => ⟨by show 1 ≤ 1000; omega, fun a na => ?_⟩⟩
  refine ⟨a, v, d, rfl, upd_same, ini_hQ na hd, h1, h2, fun H' dx v' kp nx ea ed hv => ⟨rfl, dx, [(f, v')], ea, ed, ?_, ?_⟩⟩
  · by_cases hd : dx = a
    · rw [hd, upd_same] at nx; cases nx
    · rw [upd_ne hd] at nx; exact nx
  · have ndx : dx ≠ a := fun hd => by rw [hd, upd_same] at nx; cases nx
    have n1 : H1 dx = none := by rw [upd_ne ndx] at nx; exact nx
    have s1 := ini_sameQ na kp
    refine k dx v' _ (fun b o q => ?_) n1 upd_same (Dq.keep (fun b => ?_) _ _ hv)
    · have hb1 : b ≠ dx := ne_of_none q n1
      have hb2 : b ≠ a := ne_of_none q na
      rw [upd_ne hb1]
      unfold del
      rw [if_neg hb2]
      exact s1 b o q
    · by_cases hb1 : b = dx
      · subst hb1
        exact keptQ_ext ed
      · by_cases hb2 : b = a
        · subst hb2
          exact keptQ_ext ea
        · rw [upd_ne hb1]
          unfold del
          rw [if_neg hb2]
          exact ⟨fun _ z => z, fun _ z => z, fun _ _ z => z, fun z => z⟩
end
end L2

set_option Elab.async false
set_option linter.all false
set_option maxRecDepth 100000
set_option maxHeartbeats 4000000
/-! set(t), sorted(set) of ints. -/
namespace L2
open PySem PySem.Spec PyProof.Rows PySem.KX
section
variable {X : Cx}
/-- set(t), t a tuple of ints -/
def rSetTI (K : PySem.W.Frag) (w : World) : List V → Hp → VK → Prop := fun xs H Q => ∃ (t : Addr) (ns : List Int), xs = [.ref t] ∧ SqT K H t (ns.map V.int) ∧ ns.length ≤ 60 ∧ ∀ (p : Addr) (c : Nat) (H' : Hp), Same H H' → H p = none → H' p = some (SetO w p (fun j => decide (j ∈ ns)) c) → c ≤ ns.length → Q (.ref p) H'
theorem call_setTI (hc : X.calm = true) : CallR X (.type "set") (rSetTI X.K X.w) := by
  intro pins s σ H xs us Q I r h
  obtain ⟨t, ns, rfl, ht, hn, q⟩ := h
  rw [Vals.ref1 r]
  obtain ⟨its, rv, hl, _⟩ := I.tuple ht
  have hi := ints_of_vals rv
  refine call_set_tupI ns (I.ok.hd hc) hl (by simpa using hi) (by have : scanBound = scanBound := rfl; show ns.length + 1 < scanBound; first | (unfold scanBound; omega) | omega) fun h' tk c R hcn k => ?_
  have hf : H s.heap.objs.size = none := I.hok.fresh (Nat.le_refl _)
  exact ⟨.ref s.heap.objs.size, upd H s.heap.objs.size (SetO X.w s.heap.objs.size (fun j => decide (j ∈ ns)) c), I.laid (t' := tk) k (Nat.le_refl _) (setO_new R), rfl, q _ c _ ((Same.refl _).new hf) hf upd_same hcn⟩
/-- sorted(S), S a set of ints -/
def rSortTI (w : World) : List V → Hp → VK → Prop := fun xs H Q => ∃ (a : Addr) (S : Int → Bool) (n : Nat), xs = [.ref a] ∧ H a = some (SetO w a S n) ∧ n < 64 ∧ ∀ (ns : List Int) (p : Addr) (H' : Hp), ns.Pairwise (· < ·) → (∀ k : Int, k ∈ ns ↔ S k = true) → ns.length = n → Same H H' → H p = none → H' p = some (.lst (ns.map V.int)) → Q (.ref p) H'
theorem call_sortTI (hc : X.calm = true) : CallR X (.builtin "sorted") (rSortTI X.w) := (cr_sortedSet hc).imp fun xs H Q ⟨a, S, n, e, h1, h2, k⟩ =>
  ⟨a, S, n, e, h1, h2, fun ns p q1 q2 q3 q4 => k ns p _ q1 q2 q3 ((Same.refl _).new q4) q4 upd_same⟩
end
/-- the same ints, ascending, each once -/
structure Tidy (ns ms : List Int) : Prop where
  asc : ms.Pairwise (· < ·)
  mem : ∀ k : Int, k ∈ ms ↔ k ∈ ns
theorem tidy_eq : ∀ {as bs : List Int}, as.Pairwise (· < ·) → bs.Pairwise (· < ·) → (∀ k : Int, k ∈ as ↔ k ∈ bs) → as = bs
  | [], [], _, _, _ => rfl
  | [], b :: bs, _, _, h => absurd ((h b).mpr List.mem_cons_self) (by simp)
  | a :: as, [], _, _, h => absurd ((h a).mp List.mem_cons_self) (by simp)
  | a :: as, b :: bs, h1, h2, h => by
    obtain ⟨a1, a2⟩ := List.pairwise_cons.mp h1
    obtain ⟨b1, b2⟩ := List.pairwise_cons.mp h2
    have e : a = b := by
      have m1 : a ∈ b :: bs := (h a).mp List.mem_cons_self
      have m2 : b ∈ a :: as := (h b).mpr List.mem_cons_self
      rcases List.mem_cons.mp m1 with z | z
      · exact z
      · rcases List.mem_cons.mp m2 with y | y
        · exact y.symm
        · have := b1 a z
          have := a1 b y
          omega
    subst e
    congr 1
    refine tidy_eq a2 b2 fun k => ⟨fun hk => ?_, fun hk => ?_⟩
    · rcases List.mem_cons.mp ((h k).mp (List.mem_cons_of_mem _ hk)) with z | z
      · have := a1 k hk
        omega
      · exact z
    · rcases List.mem_cons.mp ((h k).mpr (List.mem_cons_of_mem _ hk)) with z | z
      · have := b1 k hk
        omega
      · exact z
theorem Tidy.eq {ns ms ms' : List Int} (h : Tidy ns ms) (h' : Tidy ns ms') : ms = ms' := tidy_eq h.asc h'.asc fun k => (h.mem k).trans (h'.mem k).symm
end L2

set_option Elab.async false
set_option linter.all false
set_option maxRecDepth 100000
set_option maxHeartbeats 4000000
/-! Defs with *rest, no repr under way. -/
namespace L2
open PySem PySem.Spec PyProof.Rows
def FnRG (P : Program) (w : World) (K : PySem.W.Frag) (mg : Str → Option Value) (base : Heap) (CX : CXT) (k : Nat) (f : Addr) (sp : Sp) : Prop :=
  ∀ (A : Around) (outer : List Env) (s : Shared) (H : Hp) (us : List Value) (vs : List V) (Q : VK) (E : XK), RoomG k A → Env0 P w K mg base A outer s H → Vals vs us → sp vs H Q E →
    codeAny (model P w) A (.call (.ref f) ⟨us, []⟩) (CR CX outer P w H s Q E) s
section
variable {X : Cx} {pins : List (Addr × Obj)} {σ : St} {H : Hp} {s : Shared}
theorem run_fnRG {CX : CXT} {k : Nat} {f : Addr} {sp : Sp} {E : XK} {Q : VK} {us : List Value} {vs : List V} (F : FnRG X.prog X.w X.K X.mg X.base CX k f sp) (hr : RoomG k X.A) (hx : Passes CX X E) (I : Inv X pins σ H s) (r : Vals vs us) (h : sp vs H Q E) :
    codeAny (model X.prog X.w) X.A (.call (.ref f) ⟨us, []⟩) (fun r s' => match r with | .ok (.ret v) => EP X pins σ Q v s' | .ok _ => False | .error e => X.xe e s') s := by
  refine codeAny_mono (F X.A X.stack s H us vs Q E hr I.env0 r h) fun r s' hq => ?_
  cases r with
  | error e => exact hx pins σ H s e s' I hq
  | ok fl =>
    cases fl with
    | ret u => exact I.after hq
    | next => exact False.elim hq
    | brk => exact False.elim hq
    | cont => exact False.elim hq

end
end L2
namespace StX
open PySem PySem.Spec PyProof.Rows L2
section
variable {CX : CXT} {P : Program} {w : World} {K : PySem.W.Frag} {mg : Str → Option Value} {base : Heap} {k : Nat} {f : Addr} {name qual : Str} {params : Arguments} {body : List Stmt} {scope : Scope} {dV kV doc pm cdv ct oc : Value} {an od : Option Addr}
  {osl : Array (Option Value)} {N ps : List Str} {sp : Sp}
theorem run_bndG {A : Around} {outer : List Env} {s : Shared} {H : Hp} {args : Args} {Q : VK} {E : XK} {G : List V → Hp → Prop} (lk : K.lookup f = some ⟨oc, od, .func (PySem.W.fnOf name qual params body scope dV kV doc pm an cdv ct), osl⟩) (hcd : PySem.W.codeIn K cdv qual = true)
    (S : FnScope N ps scope) (hr : RoomG (k + 1) A) (e0 : Env0 P w K mg base A outer s H) (hb : Bnd CX P w K mg base (PySem.W.fnOf name qual params body scope dV kV doc pm an cdv ct) args ps A outer s H E G)
    (hbody : ∀ (s2 : Shared) (H2 : Hp) (vs : List V), G vs H2 → RoomG k (A.deeper (envOfC qual scope s2.heap.objs.size f cdv)) →
      ∃ t, PSs (cxOf CX P w K mg base N qual scope f cdv A outer s2 H2 E) body t ∧ t { nx := fun _ H' => Q .non H', rt := Q } (start N vs) H2) : codeAny (model P w) A (.call (.ref f) args) (CR CX outer P w H s Q E) s := by
  have KX : K.In s.heap := e0.mod.kin.keeps fun b o e => (e0.bs b o e).1
  refine codeAny_call_function hr.r.depth (KX _ _ lk) rfl S.co S.gen rfl (PySem.W.codeRec_of KX hcd) ?_
  refine hb _ _ _ fun s2 H2 vs us e2 un ho hx r hl g => ?_
  have lim : s2.heap.NoLimit := e0.mod.nolimit.keeps fun b o e => (e2.bs b o e).1
  have hkind : ∀ y ∈ ps.zip us, scope.names.lookup y.1 = some .local ∨ (scope.names.lookup y.1 = some .cell ∧ ((cellsFrom (s2.heap.objs.size + 1) scope.names []).lookup y.1).isSome = true) := fun y hy => by
    rcases S.par y.1 (List.of_mem_zip hy).1 with q | q
    · exact .inl q
    · exact .inr ⟨q, PySem.W.cellsFrom_some _ _ _ (.inl q)⟩
  refine wpAny_newFunctionEnv_cells (s := s2) S.kind hkind fun env he s1 x => ?_
  subst he
  refine ⟨lim.keeps x.toInCall.keep, codeAny_func ?_⟩
  obtain ⟨t, ht, hq⟩ := hbody s2 H2 vs g (hr.deeper _)
  have I : Inv (cxOf CX P w K mg base N qual scope f cdv A outer s2 H2 E) [] (start N vs) H2 s1 := inv_start S hr.r.hd e2 hl r x
  refine wpAny_mono (ht.run [] s1 _ _ _ I hq) (fun fl s' hs => ?_) fun e s' hs => ?_
  · have fin : ∀ {σ' : L2.St} {H' : Hp} {v' : V} {u' : Value}, Inv (cxOf CX P w K mg base N qual scope f cdv A outer s2 H2 E) [] σ' H' s' → RelV v' u' → Q v' H' → CE outer P w H s Q u' s' :=
      fun {σ' H' v' u'} J rv' q => ⟨v', H', J.os.trans ho, J.bare, un.trans J.base, J.hok, rv', q⟩
    cases fl with
    | ret u' =>
      obtain ⟨v', σ', H', J, rv', q⟩ := hs
      exact fin J rv' q
    | next =>
      obtain ⟨σ', H', J, q⟩ := hs
      exact fin (v' := V.non) (u' := Value.none) J rfl q
    | brk =>
      obtain ⟨_, _, _, q⟩ := hs
      exact False.elim q
    | cont =>
      obtain ⟨_, _, _, q⟩ := hs
      exact False.elim q
  · exact wpAny_mono hs (fun _ s'' z => hx e s'' z) fun e' s'' z => hx e' s'' z

theorem fn_starG {pv : Str} (lk : K.lookup f = some ⟨oc, od, .func (PySem.W.fnOf name qual params body scope dV kV doc pm an cdv ct), osl⟩) (hcd : PySem.W.codeIn K cdv qual = true) (S : FnScope N (ps ++ [pv]) scope) (hCX : CXUp CX)
    (hb : ∀ us rest : List Value, us.length = ps.length → bindArgs (PySem.W.fnOf name qual params body scope dV kV doc pm an cdv ct) ⟨us ++ rest, []⟩ = (newTuple rest >>= fun t => pure (ps.zip us ++ [(pv, t)])))
    (hbody : ∀ (A : Around) (outer : List Env) (s : Shared) (H : Hp) (vs : List V) (Q : VK) (E : XK), RoomG k (A.deeper (envOfC qual scope s.heap.objs.size f cdv)) → sp vs H Q E →
      ∃ t, PSs (cxOf CX P w K mg base N qual scope f cdv A outer s H E) body t ∧ t { nx := fun _ H' => Q .non H', rt := Q } (start N vs) H) :
    FnRG P w K mg base CX (k + 1) f (fun vs H Q E => ∃ ws rest, vs = ws ++ rest ∧ ws.length = ps.length ∧ rest.length ≤ sizeLine ∧ ∀ p, H p = Option.none → sp (ws ++ [V.ref p]) (upd H p (.tup rest)) Q E) := by
  intro A outer s H us vs Q E hr e0 r hsp
  obtain ⟨ws, rest, ev, hl, hz, hq⟩ := hsp
  subst ev
  obtain ⟨u1, u2, eu, r1, r2⟩ := vals_split r
  subst eu
  have hn : H s.heap.objs.size = Option.none := e0.hok.fresh (Nat.le_refl _)
  have hl1 : u1.length = ps.length := by rw [← r1.length]; exact hl
  have hl2 : u2.length ≤ sizeLine := by rw [← r2.length]; exact hz
  refine run_bndG lk hcd S hr e0 (G := fun xs H2 => ∃ p, H p = Option.none ∧ xs = ws ++ [V.ref p] ∧ H2 = upd H p (.tup rest)) (fun A' Ex Q' h => ?_) fun s2 H2 xs ⟨p, hp, ex, eH⟩ hr' => ?_
  · rw [hb u1 u2 hl1]
    refine wpAny_bind (wpAny_newTuple (wpAny_pure ?_) hl2)
    have new : ObjOk P w (upd H s.heap.objs.size (.tup rest)) (s.heap.push ({ cls := .type "tuple", data := .seq u2.toArray } : Obj)) s.heap.objs.size (.tup rest) := ⟨hz, u2, r2, ⟨_, Heap.get?_push_size _ rfl, rfl, _, rfl⟩⟩
    have un := un_laid (fs := frs outer) (s := s) (o := ({ cls := .type "tuple", data := .seq u2.toArray } : Obj)) (u := .tup rest) hn
    have z := h _ _ (ws ++ [V.ref s.heap.objs.size]) (u1 ++ [Value.ref s.heap.objs.size]) (env0_laid e0 new) un rfl (fun e s' => hCX outer s H _ _ E e s' un (fun b o q => Heap.get?_push_of_some _ q) rfl) (r1.append (.cons rfl .nil))
      (by rw [List.length_append, List.length_append, hl] <;> rfl) ⟨_, hn, rfl, rfl⟩
    rw [List.zip_append hl1.symm] at z
    exact z
  · subst ex eH
    exact hbody A outer s2 _ _ Q E hr' (hq p hp)

end
section
variable {X : Cx} {CX : CXT} {k : Nat} {f : Addr} {sp : Sp} {E : XK} {x : Str} {p pos : Pos} {e : Expr} {es : List Expr} {t : TA}
theorem pe_callRG (F : FnRG X.prog X.w X.K X.mg X.base CX k f sp) (hr : RoomG k X.A) (hk : PySem.W.keepIn X.K (.ref f) = true) (hg : Gl X x) (hm : X.mg x = some (.ref f)) (hx : Passes CX X E) (ha : PA X (e :: es) t) (hd : (x == ("__debug__" : Str)) = false := by decide)
    (he : starEach (e :: es) X.env = (false, eval e X.env) :: starEach es X.env := by rfl) (hpl : (backTo pos (starEach es X.env)).any (·.1) = false := by rfl) :
    PE X (.Call (.Name x p) (e :: es) [] pos) (fun σ H Q => t σ H fun vs H1 => sp vs H1 Q E) := by
  refine ⟨fun pins s σ H Q I h => ?_⟩
  refine wpAny_Call_Name_kw (ld_glob I hg hm ?_ hd)
  refine PySem.W.callWith_K (h₀ := X.base) I.ok.mod.kin hk (thn (ha.run pos pins s σ H _ I h) fun us s1 ⟨vs, H1, I1, r, q⟩ => ⟨I1.kIn, ?_⟩) he hpl
  exact wpAny_call (run_fnRG F hr hx I1 r q)
end
end StX

set_option Elab.async false
set_option linter.all false
set_option maxRecDepth 100000
set_option maxHeartbeats 4000000
/-! sorted(xs), a list of data of one shape. -/
namespace L2
open PySem PySem.Spec PyProof.Rows PySem.KX
open PySem.W (AllAlike Sortable dataLe EachIs)
section
variable {X : Cx}
/-- the items beside their data, in order -/
abbrev sortQ (ys : List V) (ds : List PyData) : List (V × PyData) := (ys.zip ds).mergeSort (dataLe false Prod.snd)
def rSortQ (K : PySem.W.Frag) : List V → Hp → VK → Prop := fun xs H Q => ∃ (a : Addr) (ys : List V) (ds : List PyData), xs = [.ref a] ∧ SqL K H a ys ∧ DqAll K H ys ds ∧ AllAlike ds ∧ Sortable ds ∧ ds.length ≤ 100000 ∧ (∀ d ∈ ds, d.depth ≤ 50) ∧
  ∀ (p : Addr) (H' : Hp), Same H H' → H p = none → H' p = some (.lst ((sortQ ys ds).map Prod.fst)) → Q (.ref p) H'
theorem zip_snd : ∀ {ys : List V} {ds : List PyData}, ys.length = ds.length → (ys.zip ds).map Prod.snd = ds
  | [], [], _ => rfl
  | [], d :: ds, h => nomatch h
  | y :: ys, [], h => nomatch h
  | y :: ys, d :: ds, h => by
    show d :: (ys.zip ds).map Prod.snd = d :: ds
    rw [zip_snd (by simpa using h)]
theorem each_rel : ∀ {ys : List V} {us : List Value} {ds : List PyData}, Vals ys us → ys.length = ds.length → EachIs (fun (u : Value) (p : V × PyData) => RelV p.1 u) us (ys.zip ds)
  | [], _, [], h, _ => by cases h; exact .nil
  | [], _, d :: ds, _, h => nomatch h
  | y :: ys, _, [], _, h => nomatch h
  | y :: ys, _, d :: ds, h, hl => by
    cases h with
    | cons h1 t => exact .cons h1 (each_rel t (by simpa using hl))
theorem each_reads {pins : List (Addr × Obj)} {σ : St} {H : Hp} {s : Shared} (I : Inv X pins σ H s) : ∀ {ys : List V} {us : List Value} {ds : List PyData}, Vals ys us → DqAll X.K H ys ds → EachIs (fun (u : Value) (p : V × PyData) => ∃ as, Reads s.heap u p.2 as) us (ys.zip ds)
  | [], _, _, h, hd => by cases h; cases hd; exact .nil
  | y :: ys, _, _, h, hd => by
    cases h with
    | cons h1 t =>
      cases hd with
      | cons d1 dt => exact .cons (Dq.reads I _ _ _ d1 h1) (each_reads I t dt)
theorem each_vals : ∀ {out : List Value} {bs : List (V × PyData)}, EachIs (fun (u : Value) (p : V × PyData) => RelV p.1 u) out bs → Vals (bs.map Prod.fst) out
  | _, _, .nil => .nil
  | _, _, .cons h t => .cons h (each_vals t)
theorem call_sortedQ (hu : X.A.units + 64 < cLine) : CallR X (.builtin "sorted") (rSortQ X.K) := by
  intro pins s σ H xs us Q I r h
  obtain ⟨a, ys, ds, rfl, hs, hd, hal, hk, hL, hdep, q⟩ := h
  obtain ⟨its, rv, hl, _⟩ := I.list hs
  rw [Vals.ref1 r]
  have hlen := hd.length
  have hz := zip_snd hlen
  refine PySem.W.sorted_data (enc := Prod.snd) hl.isList (each_rel rv hlen) (each_reads I rv hd) (by rw [hz]; exact hal) (by rw [hz]; exact hk) (by rw [List.length_zip, sizeLine_eq]; omega) (fun b hb => ?_) fun out h1 h2 => ?_
  · have hm : b.2 ∈ ds := by
      rw [← hz]
      exact List.mem_map.mpr ⟨b, hb, rfl⟩
    have := hdep _ hm
    omega
  · obtain ⟨ep, he'⟩ := sortedAll_at s.heap its out.toArray
    have hv := each_vals h2
    have hlen2 : ((sortQ ys ds).map Prod.fst).length ≤ sizeLine := by
      rw [hv.length, h1, List.length_zip, sizeLine_eq]
      omega
    have hn : H (s.heap.objs.size + 1) = none := I.hok.fresh (Nat.le_succ _)
    exact ⟨.ref _, upd H (s.heap.objs.size + 1) (.lst ((sortQ ys ds).map Prod.fst)), I.laid (t' := s.toks) (fun _ _ => sortedAll_old) (Nat.le_succ _) ⟨hlen2, out, ep, hv, he'⟩, rfl, q _ _ ((Same.refl _).new hn) hn upd_same⟩
end
end L2

set_option Elab.async false
set_option linter.all false
set_option maxRecDepth 100000
set_option maxHeartbeats 4000000
/-! Comprehensions with a condition, over any walk. -/
namespace L2
open PySem PySem.Spec PyProof.Rows PySem.KX
def tUpT (t : TT) : TT := fun σ H Q => ∃ Q0 : Bool → Hp → Prop, t σ H Q0 ∧ ∀ b H', Q0 b H' → Q b H'
theorem PT.up {X : Cx} {e : Expr} {t : TT} (h : PT X e t) : PT X e (tUpT t) :=
  ⟨fun pins s σ H Q I ⟨Q0, h0, k⟩ => wpAny_mono (h.run pins s σ H Q0 I h0) (fun b s1 ⟨H1, I1, q1⟩ => ⟨H1, I1, k b H1 q1⟩) fun _ _ z => z⟩
/-- the places below n that pass -/
abbrev pas (p : Nat → Bool) (n : Nat) : List Nat := (List.range n).filter p
theorem pas_yes {p : Nat → Bool} {n : Nat} (h : p n = true) : pas p (n + 1) = pas p n ++ [n] := by
  unfold pas
  rw [List.range_succ, List.filter_append, List.filter_cons_of_pos h, List.filter_nil]
theorem pas_no {p : Nat → Bool} {n : Nat} (h : p n = false) : pas p (n + 1) = pas p n := by
  unfold pas
  rw [List.range_succ, List.filter_append, List.filter_cons_of_neg (by rw [h]; decide), List.filter_nil, List.append_nil]
theorem pas_len {p : Nat → Bool} {n : Nat} : (pas p n).length ≤ n := by
  have := List.length_filter_le p (List.range n)
  rw [List.length_range] at this
  exact this
def AccF (R : Nat → V → Hp → Prop) (p : Nat → Bool) (D : Addr) (H1 : Hp) (n : Nat) (H' : Hp) : Prop := ∃ acc, H' D = some (.lst acc) ∧ Same H1 H' ∧ acc.length = (pas p n).length ∧ ∀ (i : Nat) (v : V), acc[i]? = some v → ∃ j, (pas p n)[i]? = some j ∧ R j v (hide [D] H')
theorem AccF.start {R : Nat → V → Hp → Prop} {p : Nat → Bool} {D : Addr} {H1 : Hp} (hD : H1 D = none) : AccF R p D H1 0 (upd H1 D (.lst [])) := ⟨[], upd_same, (Same.refl H1).new hD, rfl, fun j v h => nomatch h⟩
theorem AccF.skip {R : Nat → V → Hp → Prop} {p : Nat → Bool} {D : Addr} {H1 H' H4 : Hp} {n : Nat} (st : ∀ j v H H', Same H H' → R j v H → R j v H') (q : AccF R p D H1 n H') (s : Same H' H4) (hp : p n = false) : AccF R p D H1 (n + 1) H4 := by
  obtain ⟨acc, h1, h2, h3, h4⟩ := q
  refine ⟨acc, s _ _ h1, h2.trans s, by rw [pas_no hp]; exact h3, fun i v h => ?_⟩
  obtain ⟨j, e, r⟩ := h4 i v h
  exact ⟨j, by rw [pas_no hp]; exact e, st _ _ _ _ (hide_same s) r⟩
theorem AccF.snoc {R : Nat → V → Hp → Prop} {p : Nat → Bool} {D : Addr} {H1 H' H4 : Hp} {n : Nat} {y : V} (st : ∀ j v H H', Same H H' → R j v H → R j v H') (hD : H1 D = none) (hn : n < 1000000) (q : AccF R p D H1 n H') (s : Same H' H4) (hp : p n = true) (r : R n y (hide [D] H4)) :
    ∃ acc, H4 D = some (.lst acc) ∧ acc.length < sizeLine ∧ AccF R p D H1 (n + 1) (upd H4 D (.lst (acc ++ [y]))) := by
  obtain ⟨acc, h1, h2, h3, h4⟩ := q
  have hl := pas_len (p := p) (n := n)
  refine ⟨acc, s _ _ h1, by rw [sizeLine_eq]; omega, acc ++ [y], upd_same, fun b o e => ?_, by rw [pas_yes hp]; simp [h3], fun i v h => ?_⟩
  · rw [upd_ne (ne_of_none e hD)]
    exact s _ _ (h2 _ _ e)
  · rw [hide_upd, pas_yes hp]
    by_cases hi : i < acc.length
    · rw [List.getElem?_append_left hi] at h
      obtain ⟨j, e, r2⟩ := h4 i v h
      exact ⟨j, by rw [List.getElem?_append_left (by omega)]; exact e, st _ _ _ _ (hide_same s) r2⟩
    · rw [List.getElem?_append_right (by omega)] at h
      have e : i = acc.length := by
        have := (List.getElem?_eq_some_iff.mp h).1
        simp at this
        omega
      subst e
      have e2 : v = y := by
        rw [Nat.sub_self] at h
        simpa using h.symm
      subst e2
      exact ⟨n, by rw [List.getElem?_append_right (by omega), h3, Nat.sub_self]; rfl, r⟩
theorem lc_itF {J : It} {n : Nat} {G : Hp → Prop} {Y : Nat → Hp → V → Hp → Prop} (w : Walk J n G Y) {g : TG} {tt : TT} {t : TE} {vs : List Nat} {σ : St} {H1 : Hp} {D : Addr} {Qd : Hp → Prop} (p : Nat → Bool) (R : Nat → V → Hp → Prop) (st : ∀ j v H H', Same H H' → R j v H → R j v H') (hD : H1 D = none) (hx : n ≤ 1000000)
    (hG : ∀ H', Same H1 H' → G H')
    (hs : ∀ j x H' H2, j < n → Same H1 H' → H' D ≠ none → Y j H' x H2 → g x (wipe σ vs) H2 fun σ3 H3 => wipe σ3 vs = wipe σ vs ∧ tt σ3 H3 fun b H4 => b = p j ∧ Same H' H4 ∧ (b = true → t σ3 H4 fun y H5 => Same H' H5 ∧ R j y (hide [D] H5)))
    (hg : ∀ x σ H (q q' : St → Hp → Prop), g x σ H q → (∀ σ H, q σ H → q' σ H) → g x σ H q')
    (hd : ∀ H' acc, Same H1 H' → H' D = some (.lst acc) → acc.length = (pas p n).length → (∀ (i : Nat) (v : V), acc[i]? = some v → ∃ j, (pas p n)[i]? = some j ∧ R j v H') → Qd H') :
    ∃ W : Nat → Nat → Hp → Prop, (∃ m, W 0 m (upd H1 D (.lst []))) ∧ ∀ i m H, W i m H →
      (J.stop i H ∧ Qd H) ∨ (J.go i H ∧ ∃ Nx : Hp → Prop, (∀ H', Nx H' → ∃ m', m' < m ∧ W (i + 1) m' H') ∧ ∀ x H', J.yld i H x H' → g x (wipe σ vs) H' fun σ2 H2 => wipe σ2 vs = wipe σ vs ∧ tUpT tt σ2 H2 fun b H3 =>
        if b = true then tUp t σ2 H3 fun y H4 => ∃ acc, H4 D = some (.lst acc) ∧ acc.length < sizeLine ∧ Nx (upd H4 D (.lst (acc ++ [y]))) else Nx H3) := by
  refine lc_it w (tt := tUpT tt) (te := tUp t) (fun i H' => AccF R p D H1 i H') (AccF.start hD) (fun i H' _ ⟨_, _, s, _⟩ => hG _ s) (fun i x H' H2 hi q y => ?_) (fun H' ⟨acc, h1, h2, h3, h4⟩ => hd H' acc h2 h1 h3 fun j v h => ?_)
  · have hs2 := q
    obtain ⟨a0, e0, s, _⟩ := hs2
    have th : H' D ≠ none := by rw [e0]; exact fun z => nomatch z
    refine hg _ _ _ _ _ (hs i x H' H2 hi s th y) fun σ2 H3 ⟨w, h⟩ => ⟨w, _, h, fun b H4 ⟨eb, s4, k⟩ => ?_⟩
    cases b with
    | true =>
      rw [if_pos rfl]
      exact ⟨_, k rfl, fun y H5 ⟨s5, r⟩ => AccF.snoc st hD (by omega) q s5 eb.symm r⟩
    | false =>
      rw [if_neg (by decide)]
      exact AccF.skip st q s4 eb.symm
  · obtain ⟨j', e, r⟩ := h4 j v h
    exact ⟨j', e, st _ _ _ _ hide_sub r⟩
end L2

set_option Elab.async false
set_option linter.all false
set_option maxRecDepth 100000
set_option maxHeartbeats 4000000
/-! not in a range; new lists that lie past the first places. -/
namespace L2
open PySem PySem.Spec PyProof.Rows PySem.KX
section
variable {X : Cx}
def rNotInRng : R2 := fun x y H Q => ∃ i a lo hi, x = V.int i ∧ y = V.ref a ∧ H a = some (.rng lo hi) ∧ Q (.bl (!decide (lo ≤ i ∧ i < hi))) H
theorem op_notIn_rng : OpR X (compareOp .NotIn) rNotInRng := by
  intro pins s σ H x y v u Q I rx ry h
  obtain ⟨i, a, lo, hi, rfl, rfl, ha, q⟩ := h
  obtain ⟨k, rfl⟩ := rx
  obtain rfl : u = Value.ref a := ry
  obtain ⟨t1, t2, t3, ho⟩ := I.hok a _ ha
  show wpAny _ _ (do return Value.bool (!(← contains (Value.ref a) (Value.int i k)))) _ _ s
  refine wpAny_bind (wpAny_contains_slot (T := "range") ⟨_, ho, rfl⟩ F.slot_range_contains (call_meets F.slot_range_contains ⟨_, ho, rfl⟩ F.entry_range_contains (F.args_range_contains_2 _ _) (q_contains a lo hi i t1 t2 t3 k)
    ⟨ho, wpAny_truthy_bool (wpAny_pure ⟨.bl _, H, I, rfl, ?_⟩)⟩))
  rw [place1]
  exact q
/-- range(a, b) as a value -/
def rRngS : List V → Hp → VK → Prop := fun vs H Q => ∃ i j, vs = [V.int i, V.int j] ∧ ∀ p H', Same H H' → H p = none → H' p = some (.rng i j) → Q (.ref p) H'
theorem call_rngS : CallR X (.type "range") rRngS := cr_range2.imp fun xs H Q ⟨i, j, e, k⟩ => ⟨i, j, e, fun p n => k p _ ((Same.refl _).new n) n upd_same⟩
/-- [e, ..], not at the place of sys.modules -/
def tLstN (t : TA) : TE := fun σ H Q => t σ H fun xs H1 => xs.length ≤ 1000000 ∧ ∀ p H', (p == sysModules) = false → Same H1 H' → H1 p = none → H' p = some (.lst xs) → Q (.ref p) H'
theorem pe_lstN {es : List Expr} {t : TA} {pos : Pos} (h : PA X es t) : PE X (.List es pos) (tLstN t) := by
  refine ⟨fun pins s σ H Q I hq => ?_⟩
  refine wpAny_List_spliced (thn (h.run pos pins s σ H _ I hq) fun us s1 ⟨xs, H1, I1, r, z, q⟩ => ⟨by rw [← r.length]; exact small_size z, ?_⟩)
  have hf : H1 s1.heap.objs.size = none := I1.hok.fresh (Nat.le_refl _)
  have hb := I1.big
  refine ⟨.ref s1.heap.objs.size, upd H1 s1.heap.objs.size (.lst xs), I1.laid (t' := s1.toks) (fun b u e => Heap.get?_push_of_some _ e) (Nat.le_refl _) ?_, rfl, q _ _ ?_ ((Same.refl _).new hf) hf upd_same⟩
  · exact ⟨small_size z, us, 0, r, Heap.get?_push_size _ rfl⟩
  · exact beq_eq_false_iff_ne.mpr (Nat.ne_of_gt hb)
end
end L2

set_option Elab.async false
set_option linter.all false
set_option maxRecDepth 100000
set_option maxHeartbeats 4000000
/-! set(a list of ints). -/
namespace L2
open PySem PySem.Spec PyProof.Rows
section
variable {P : Program} {w : World} {A : Around} {E : Value → Shared → Prop} {s : Shared} {a : Addr}
set_option maxRecDepth 100000 in
set_option maxHeartbeats 3200000 in
theorem call_set_lstI {l : Addr} {items : Array Value} (ns : List Int) {Q : Value → Shared → Prop} (hh : A.handled = none) (hl : s.heap.IsList l items) (hit : IntsAre items.toList ns) (hb : ns.length + 1 < scanBound)
    (h : ∀ (h' : Heap) (tk c : Nat), SetR w h' s.heap.objs.size (fun j => decide (j ∈ ns)) c → c ≤ ns.length → (∀ b o, s.heap.get? b = some o → h'.get? b = some o) → Q (.ref s.heap.objs.size) { s with heap := h', toks := tk }) :
    wpAny (model P w) A (call (.type "set") [.ref l]) Q E s := by
  have hisz : items.size = ns.length := by
    have q := IntsAre.length hit
    rw [Array.length_toList] at q
    exact q
  obtain ⟨c, tl, hmro⟩ := F.called_set.mro
  have hmade := F.called_set.made
  have hsub := F.called_set.sub
  refine wpAny_call (codeAny_of_tree ?_)
  show wpAny _ _ (callAny (.type "set") _) _ _ _
  refine wpAny_pure ⟨Code.quiet_builtin _ (by decide +kernel), codeAny_builtin F.entry_type_call ?_⟩
  rw [Around.under_plain (weight_type_call_type "set" [.ref l] []) rfl]
  have h1 := F.called_set.notType
  have h2 := F.called_set.canCreate
  have hct := F.typeCall_set_1 (.ref l)
  repeat (any_goals (first | assumption | wp_step))

  refine codeAny_mono (code_set_led1 (.ref l) (E := E) (Q₁ := fun obj s₁ => obj = .ref s.heap.objs.size ∧ s₁ = { s with heap := s.heap.push { cls := .type "set", dict := none, data := .set #[] 0 (.fresh 0 0 (!w.params.followText "set-order")) } }) ⟨rfl, rfl⟩) fun r s₁ hr => ?_
  cases r with
  | error e => exact hr
  | ok fl =>
    cases fl with
    | ret obj =>
      obtain ⟨rfl, rfl⟩ := hr
      have hS : (s.heap.push { cls := .type "set", dict := none, data := .set #[] 0 (.fresh 0 0 (!w.params.followText "set-order")) }).get? s.heap.objs.size = some { cls := .type "set", dict := none, data := .set #[] 0 (.fresh 0 0 (!w.params.followText "set-order")) } := Heap.get?_push_size _ rfl
      have hT : Shared.TypeIs { s with heap := s.heap.push { cls := .type "set", dict := none, data := .set #[] 0 (.fresh 0 0 (!w.params.followText "set-order")) } } (.ref s.heap.objs.size) "set" := ⟨_, hS, rfl⟩
      have hli := F.called_set.init.lookup
      have hbi := F.called_set.init.bind (.ref s.heap.objs.size)
      repeat (any_goals (first | assumption | wp_step))

      refine codeAny_mono (codeAny_call_builtin (R := wants (fun r s₂ => r = .none ∧ ∃ h' tk c, s₂ = { s with heap := h', toks := tk } ∧ SetR w h' s.heap.objs.size (fun j => decide (j ∈ ns)) c ∧ c ≤ ns.length ∧
          (∀ b o, s.heap.get? b = some o → h'.get? b = some o)) E) F.called_set.init.plain F.entry_set_init (check_set_init_1 hT ?_)) fun r₂ s₂ hr₂ => ?_
      · obtain ⟨ol, hol, hcl, nl, hdl⟩ := hl
        obtain ⟨ocls, odict, odata, oslots⟩ := ol
        simp only at hcl hdl
        subst hcl; subst hdl
        have hol' : (s.heap.push { cls := .type "set", dict := none, data := .set #[] 0 (.fresh 0 0 (!w.params.followText "set-order")) }).get? l = some { cls := .type "list", dict := odict, data := .seq items nl, slots := oslots } := Heap.get?_push_of_some _ hol
        have hsls := F.sub_list_set
        have hslf := F.sub_list_frozenset
        have hne : (Value.type "list" == Value.type "dict") = false := by decide
        have hl1 : (s.heap.push { cls := .type "set", dict := none, data := .set #[] 0 (.fresh 0 0 (!w.params.followText "set-order")) }).IsList l items := ⟨_, hol', rfl, nl, rfl⟩
        unfold Builtin.«set.__init__» noKeywords Builtin.Frozenset.updateFrom
        generalize hPI : pyIter = PI
        wp_walk
        subst hPI

        refine wpAny_pyIter_list hl1 ?_
        refine wpAny_bind (wpAny_runValue ?_)
        have hlS : l < s.heap.objs.size := Heap.lt_size hol
        have hh3 : A.in1.in1.in1.handled = none := by simp [hh]
        have hz1 : (s.heap.push { cls := .type "set", dict := none, data := .set #[] 0 (.fresh 0 0 (!w.params.followText "set-order")) }).objs.size = s.heap.objs.size + 1 := Heap.size_push ..
        have hneI : l ≠ (s.heap.push { cls := .type "set", dict := none, data := .set #[] 0 (.fresh 0 0 (!w.params.followText "set-order")) }).objs.size := by
          rw [Heap.size_push]; exact Nat.ne_of_lt (Nat.lt_succ_of_lt hlS)
        have hSf : s.heap.objs.size ∉ [(s.heap.push { cls := .type "set", dict := none, data := .set #[] 0 (.fresh 0 0 (!w.params.followText "set-order")) }).objs.size, l] := by
          rw [Heap.size_push]; simp only [List.mem_cons, List.mem_singleton, List.not_mem_nil, or_false, not_or]
          exact ⟨Nat.ne_of_lt (Nat.lt_succ_self _), Nat.ne_of_gt hlS⟩
        have hval : ∀ (i : Nat) (v : Value), items[i]? = some v → ∃ k t, ns[i]? = some k ∧ v = .int k t := fun i v hv => by
          have hi : i < ns.length := by rw [← hisz]; exact (Array.getElem?_eq_some_iff.mp hv).1
          obtain ⟨t, e⟩ := PyProof.Rows.IntsAre.int_at hit i v (by rw [Array.getElem?_toList]; exact hv)
          refine ⟨ns[i], t, List.getElem?_eq_getElem hi, ?_⟩
          rw [e, List.getD_eq_getElem?_getD, List.getElem?_eq_getElem hi] <;> rfl
        refine set_update_ints ((Walks.list hh3 _ l hneI items).toS) s.heap.objs.size
          hSf ns hisz hb hval (items.size - 0) 0 _ (by omega) (Nat.zero_le _)
          ⟨⟨_, Heap.get?_push_size _ rfl, rfl, rfl⟩, (hl1.push _)⟩ ?hS0 ?hR
        case hS0 =>
          have hget : ((s.heap.push { cls := .type "set", dict := none, data := .set #[] 0 (.fresh 0 0 (!w.params.followText "set-order")) }).push { cls := .type "list_iterator", data := .fields #[.ref l, .int 0 0] }).get? s.heap.objs.size
              = some { cls := .type "set", dict := none, data := .set #[] 0 (.fresh 0 0 (!w.params.followText "set-order")) } := Heap.get?_push_of_some _ hS
          exact ⟨0, Nat.le_refl 0, setR_new_at hget⟩
        case hR =>
          intro s' c' hm hc' hS'
          obtain ⟨h', g2, d', tk', os'⟩ := s'
          have eg : g2 = s.gens := hm.gens
          have ed : d' = s.drawn := hm.drawn
          have eo : os' = s.os := hm.os
          subst eg; subst ed; subst eo
          show wpAny _ _ _ _ _ _
          refine wpAny_pure ?_
          show wpAny _ _ (ret Value.none) _ _ _
          rw [hisz] at hc'
          refine wpAny_pure ⟨rfl, h', tk', c', rfl, hS', hc', fun b o e => ?_⟩
          have hb0 : b < s.heap.objs.size := Heap.lt_size e
          have hb1 : b ≠ s.heap.objs.size := Nat.ne_of_lt hb0
          have hb2 : b ≠ (s.heap.push { cls := .type "set", dict := none, data := .set #[] 0 (.fresh 0 0 (!w.params.followText "set-order")) }).objs.size := by
            rw [Heap.size_push]; exact Nat.ne_of_lt (Nat.lt_succ_of_lt hb0)
          exact hm.heap b o (by simp only [List.mem_cons, List.mem_singleton, List.not_mem_nil, or_false, not_or]; exact ⟨hb1, hb2⟩) (Heap.get?_push_of_some _ (Heap.get?_push_of_some _ e))

      · cases r₂ with
        | error e => exact hr₂
        | ok fl₂ =>
          cases fl₂ with
          | ret r =>
            obtain ⟨rfl, h', tk, c', rfl, hS', hc', hk'⟩ := hr₂
            repeat (any_goals (first | assumption | wp_step))
            exact h _ _ _ hS' hc' hk'
          | _ => exact hr₂.elim
    | _ => exact hr.elim

end
end L2

set_option Elab.async false
set_option linter.all false
set_option maxRecDepth 100000
set_option maxHeartbeats 4000000
/-! set(a list of texts). -/
namespace L2
open PySem PySem.Spec PyProof.Rows
def keyOfS (e : Int × Value) : Str := match e.2 with | .str k _ => k | _ => ⟨#[]⟩
def GoodS (P : Program) (w : World) (e : Int × Value) : Prop := ∃ k tk, e.2 = Value.str k tk ∧ e.1 = (strKind P w).hash k
def SetRS (P : Program) (w : World) (h : Heap) (a : Addr) (S : Str → Bool) (n : Nat) : Prop :=
  ∃ o es ep t, h.get? a = some o ∧ o.ExactSet ∧ o.data = .set es ep t ∧ (∀ e ∈ es.toList, GoodS P w e) ∧ (es.toList.map keyOfS).Nodup ∧ (∀ k, S k = true ↔ k ∈ es.toList.map keyOfS) ∧
    es.size < scanBound ∧ t.fits es.size = true ∧ es.size = n ∧ Ris t.place.toList ∧ (w.params.followText "set-order" = true ∨ t.led = true)
section
variable {P : Program} {w : World} {h h' : Heap} {a : Addr} {S : Str → Bool} {n : Nat}

theorem SetRS.at (R : SetRS P w h a S n) (k : ∀ o, h.get? a = some o → h'.get? a = some o) : SetRS P w h' a S n := by
  obtain ⟨o, es, ep, t, ho, r⟩ := R
  exact ⟨o, es, ep, t, k o ho, r⟩
theorem SetRS.lt (R : SetRS P w h a S n) : a < h.objs.size := by
  obtain ⟨o, es, ep, t, ho, r⟩ := R
  exact Heap.lt_size ho
theorem SetRS.congr {S' : Str → Bool} (R : SetRS P w h a S n) (e : ∀ k, S' k = S k) : SetRS P w h a S' n := by
  have q : S' = S := funext e
  rw [q]; exact R
theorem goodS_elems {l : List (Int × Value)} (g : ∀ e ∈ l, GoodS P w e) : ElemsOf (strKind P w) l := fun e he => by
  obtain ⟨k, tk, h1, h2⟩ := g e he
  exact ⟨⟨k, by rw [h1]; exact strKind_is P w k tk, h2⟩, by rw [h1] <;> rfl⟩
theorem goodS_is {e : Int × Value} (g : GoodS P w e) (k : Str) : (strKind P w).is k e.2 = true ↔ keyOfS e = k := by
  obtain ⟨k0, tk, h1, _⟩ := g
  unfold keyOfS
  rw [h1]
  show ((k0 == k) = true) ↔ k0 = k
  exact beq_iff_eq
theorem goodS_mem {l : List (Int × Value)} (g : ∀ e ∈ l, GoodS P w e) (k : Str) : k ∈ l.map keyOfS ↔ ∃ e ∈ l, (strKind P w).is k e.2 = true := by
  rw [List.mem_map]
  constructor
  · rintro ⟨e, he, q⟩
    exact ⟨e, he, (goodS_is (g e he) k).2 q⟩
  · rintro ⟨e, he, q⟩
    exact ⟨e, he, (goodS_is (g e he) k).1 q⟩
end
section
variable {P : Program} {w : World} {A : Around} {E : Value → Shared → Prop} {s : Shared} {a : Addr} {S : Str → Bool} {n : Nat}
theorem setRS_add_tail {g : Bool → Sem Unit} (hg : ∀ (b : Bool) (s₁ : Shared) (Q' : Unit → Shared → Prop), Q' () s₁ → wpAny (model P w) A (g b) Q' E s₁)
    {o : Obj} {es : Array (Int × Value)} {ep : Nat} {t : SetTable} (ho : s.heap.get? a = some o) (hex : o.ExactSet) (hd : o.data = .set es ep t)
    {es1 : Array (Int × Value)} {t2 : SetTable} {S' : Str → Bool} (g1 : ∀ e ∈ es1.toList, GoodS P w e) (nd1 : (es1.toList.map keyOfS).Nodup) (m1 : ∀ k, S' k = true ↔ k ∈ es1.toList.map keyOfS)
    (hb1 : es1.size < scanBound) (hf2 : t2.fits es1.size = true) (hr : Ris t2.place.toList) (hl : w.params.followText "set-order" = true ∨ t2.led = true) {wasDummy : Bool} {R : Option Bool → Shared → Prop}
    (hR : ∀ h', Heap.SameBut a s.heap h' → SetRS P w h' a S' es1.size → R (some true) { s with heap := h' }) :
    wpAny (model P w) A (do
        storeSet a es1 t2
        if (!wasDummy && t2.tooFull) = true then do
            g (relayAll t2 es1 (SetTable.grown es1.size)).2.2
            storeSet a (relayAll t2 es1 (SetTable.grown es1.size)).1 (relayAll t2 es1 (SetTable.grown es1.size)).2.1
            pure (some true)
          else pure (some true)) R E s := by
  refine wpAny_bind (wpAny_storeSet_of ho hd ?_ (fits_of_scanBound hb1))
  have ho1 := store_at (es' := es1) (t' := t2) ho hd
  have sb1 := Heap.SameBut.update s.heap a (Obj.putSet es1 t2)
  split
  · have pm := relayAll_perm t2 es1 (SetTable.grown es1.size)
    have hf3 := relayAll_fits t2 es1 (SetTable.grown es1.size)
    have hr3 := relayAll_ris t2 es1 (SetTable.grown es1.size)
    have hl3 := relayAll_led t2 es1 (SetTable.grown es1.size)
    generalize relayAll t2 es1 (SetTable.grown es1.size) = Z at pm hf3 hr3 hl3 ⊢
    obtain ⟨es2, t3, gave⟩ := Z
    dsimp only at pm hf3 hr3 hl3 ⊢
    have hsz : es2.size = es1.size := by rw [← Array.length_toList, pm.length_eq, Array.length_toList]
    have hb2 : es2.size < scanBound := by rw [hsz]; exact hb1
    refine wpAny_bind (hg _ _ _ ?_)
    refine wpAny_bind (wpAny_storeSet_of ho1 rfl ?_ (fits_of_scanBound hb2))
    have ho2 := store_at (es' := es2) (t' := t3) ho1 rfl
    refine wpAny_pure (hR _ (sb1.trans (Heap.SameBut.update _ a _)) ?_)
    exact ⟨_, es2, _, t3, ho2, hex, rfl, fun e he => g1 e (pm.mem_iff.mp he), (pm.map keyOfS).nodup_iff.mpr nd1, fun k => (m1 k).trans (pm.map keyOfS).mem_iff.symm, hb2, hf3, hsz, hr3,
      hl.imp id fun z => by rw [hl3]; exact z⟩
  · exact wpAny_pure (hR _ sb1 ⟨_, es1, _, t2, ho1, hex, rfl, g1, nd1, m1, hb1, hf2, rfl, hr, hl⟩)

theorem setRS_add_hashed {k : Str} {tk : Tok} {Q : Bool → Shared → Prop} (R : SetRS P w s.heap a S n) (room : n + 1 < scanBound)
    (hQ : ∀ h', Heap.SameBut a s.heap h' → SetRS P w h' a (fun j => S j || decide (j = k)) (if S k = true then n else n + 1) → Q (!S k) { s with heap := h' }) :
    wpAny (model P w) A (setAddHashed a (.str k tk) ((strKind P w).hash k)) Q E s := by
  obtain ⟨o, es, ep, t, ho, hex, hd, g, nd, hm, hb, hf, hn, hr, hl⟩ := R
  have hkey : (strKind P w).is k (.str k tk) = true := strKind_is P w k tk
  have hsc : (Value.str k tk).scannable = true := rfl
  have hel : ElemsOf (strKind P w) es.toList := goodS_elems g
  unfold setAddHashed setAddHashedIn
  refine wpAny_holding (wpAny_bind (wpAny_setState_of ho hd hf ?_))
  dsimp only
  rw [byScan_of hsc hb hel]
  simp only [↓reduceIte]
  unfold setAddByScan
  refine wpAny_bind ?_
  refine wpAny_bind (wpAny_rule ?_)
  refine wpAny_bind (wpAny_setScan_of hkey ho hd hf hel ?_)
  cases hfi : List.findIdx? (fun e => (strKind P w).is k e.2) es.toList with
  | some j =>
    dsimp only
    obtain ⟨hj, pj, _⟩ := List.findIdx?_eq_some_iff_getElem.mp hfi
    have hSk : S k = true := (hm k).2 ((goodS_mem (P := P) (w := w) g k).2 ⟨es.toList[j], List.getElem_mem hj, pj⟩)
    refine wpAny_pure (wpAny_pure ?_)
    have q := hQ s.heap (Heap.SameBut.refl a s.heap) ⟨o, es, ep, t, ho, hex, hd, g, nd, fun i => by
      rw [Bool.or_eq_true, decide_eq_true_eq, ← hm i]
      exact ⟨fun z => z.elim id (fun e => e ▸ hSk), .inl⟩, hb, hf, by rw [if_pos hSk]; exact hn, hr, hl⟩
    rw [hSk] at q
    exact q
  | none =>
    dsimp only
    have hnk : k ∉ es.toList.map keyOfS := fun z => by
      obtain ⟨e, he, q⟩ := (goodS_mem (P := P) (w := w) g k).1 z
      have c := List.findIdx?_eq_none_iff.mp hfi e he
      rw [q] at c
      cases c
    have hSk : S k = false := by
      cases q : S k with
      | false => rfl
      | true => exact absurd ((hm k).1 q) hnk
    have hgw : ∀ (b : Bool) {s₁ : Shared} {Q' : Unit → Shared → Prop}, Q' () s₁ → wpAny (model P w) A (match b with | true => rule "set.scan.the-table-gave-way" | false => pure ()) Q' E s₁ :=
      fun b s₁ Q' q => by cases b <;> first | exact wpAny_pure q | exact wpAny_rule q
    have pm := layNew_perm t es ((strKind P w).hash k) (.str k tk)
    have hf1 := layNew_fits t es ((strKind P w).hash k) (.str k tk)
    have hr1 := layNew_ris t es ((strKind P w).hash k) (.str k tk) hr
    have hl1 := layNew_led t es ((strKind P w).hash k) (.str k tk)
    generalize layNew t es ((strKind P w).hash k) (.str k tk) = Z at pm hf1 hr1 hl1 ⊢
    obtain ⟨es1, t1, wasDummy, gave⟩ := Z
    dsimp only at pm hf1 hr1 hl1 ⊢
    rw [Array.toList_push] at pm
    have pc : es1.toList.Perm (((strKind P w).hash k, Value.str k tk) :: es.toList) := pm.trans (List.perm_append_singleton _ _)
    have pk : (es1.toList.map keyOfS).Perm (k :: es.toList.map keyOfS) := pc.map keyOfS
    have g1 : ∀ e ∈ es1.toList, GoodS P w e := fun e he => by
      rcases List.mem_cons.mp (pc.mem_iff.mp he) with z | z
      · rw [z]; exact ⟨k, tk, rfl, rfl⟩
      · exact g e z
    have nd1 : (es1.toList.map keyOfS).Nodup := pk.nodup_iff.mpr (List.nodup_cons.mpr ⟨hnk, nd⟩)
    have m1 : ∀ i, (S i || decide (i = k)) = true ↔ i ∈ es1.toList.map keyOfS := fun i => by
      rw [Bool.or_eq_true, decide_eq_true_eq, hm i, pk.mem_iff, List.mem_cons]
      exact Or.comm
    have hsz : es1.size = n + 1 := by rw [← Array.length_toList, pc.length_eq, List.length_cons, Array.length_toList, hn]
    have hb1 : es1.size < scanBound := by rw [hsz]; exact room
    have hled : w.params.followText "set-order" = true ∨ t1.led = true := hl.imp id fun z => by rw [hl1]; exact z
    have fin : ∀ h', Heap.SameBut a s.heap h' → SetRS P w h' a (fun j => S j || decide (j = k)) es1.size → Q true { s with heap := h' } := fun h' sb r => by
      have q := hQ h' sb
      rw [hSk] at q
      rw [hsz] at r
      exact q r
    refine wpAny_bind (hgw _ ?_)
    split
    · refine wpAny_bind ?_
      rw [hashByValue_scannable 8 hsc]
      refine wpAny_pure ?_
      refine setRS_add_tail ?_ ho hex hd g1 nd1 m1 hb1 ?_ ?_ ?_ ?_
      · intro b s₁ Q' q; cases b <;> first | exact wpAny_pure q | exact wpAny_rule q
      · first | (split <;> first | exact hf1 | exact SetTable.fits_plain_off hf1) | exact hf1
      · first | (split <;> exact hr1) | exact hr1
      · first | (split <;> exact hled) | exact hled
      · intro h' sb r; dsimp only; exact wpAny_pure (fin h' sb r)
    · refine wpAny_bind (wpAny_pure ?_)
      simp only [↓reduceIte]
      refine setRS_add_tail ?_ ho hex hd g1 nd1 m1 hb1 hf1 hr1 hled ?_
      · intro b s₁ Q' q; cases b <;> first | exact wpAny_pure q | exact wpAny_rule q
      · intro h' sb r; dsimp only; exact wpAny_pure (fin h' sb r)

end
theorem setRS_new_at {P : Program} {w : World} {h : Heap} {a : Addr} {ns : List Str} (ho : h.get? a = some { cls := .type "set", dict := none, data := .set #[] 0 (.fresh 0 0 (!w.params.followText "set-order")) }) : SetRS P w h a (fun j => decide (j ∈ ns.take 0)) 0 :=
  ⟨_, #[], 0, _, ho, ⟨rfl, rfl, rfl⟩, rfl, (fun e he => by simp at he), (by simp), (fun k => by simp), (by decide), (by rfl), rfl, List.Pairwise.nil, by
    show _ ∨ (!w.params.followText "set-order") = true
    cases w.params.followText "set-order"
    · exact .inr rfl
    · exact .inl rfl⟩
section
variable {P : Program} {w : World} {A : Around} {E : Value → Shared → Prop} {s : Shared}
theorem set_update_strs {I : Addr} {fp wr : List Addr} {G : Array GenState → Array GenState → Prop} {n : Nat} {Pv : Nat → Value → Prop} {St : Nat → Shared → Prop} {R : Result → Shared → Prop}
    (W : WalksS P w A.in1 I fp wr G n Pv St) (S : Addr) (hSf : S ∉ fp) (ns : List Str) (hn : n = ns.length) (hb : ns.length + 1 < scanBound) (hval : ∀ i v, Pv i v → ∃ k t, ns[i]? = some k ∧ v = .str k t) :
    ∀ (k i : Nat) (s : Shared), n - i = k → i ≤ n → St i s → (∃ c, c ≤ i ∧ SetRS P w s.heap S (fun j => decide (j ∈ ns.take i)) c) →
      (∀ s' c, Moved (S :: wr) G s s' → c ≤ n → SetRS P w s'.heap S (fun j => decide (j ∈ ns)) c → R (.ok (.ret .none)) s') →
      codeAny (model P w) A (.builtin "set.update.loop" ⟨[.ref S, .ref I], []⟩) R s := by
  have hSw : S ∉ wr := fun h => hSf (W.sub _ h)
  have hsub : ∀ b ∈ wr, b ∈ S :: wr := fun b hb => List.mem_cons_of_mem _ hb
  intro k
  induction k with
  | zero =>
    intro i s hk' hi hst ⟨c, hc, hS⟩ hR
    have hin : i = n := by omega
    subst hin
    refine codeAny_builtin F.entry_set_update_loop ?_
    rw [Around.under_plainId F.plain_set_update_loop _]
    show wpAny _ A.in1 (pyNext (.ref I) >>= _) _ _ s
    refine wpAny_bind (W.done s _ _ hst fun s' hm => ?_)
    show wpAny _ A.in1 (ret Value.none) _ _ s'
    have e : ns.take i = ns := List.take_of_length_le (by omega)
    rw [e] at hS
    exact wpAny_pure (hR s' c (hm.mono hsub) hc (hS.at fun o e => hm.heap S o hSw e))
  | succ k ih =>
    intro i s hk' hi hst ⟨c, hc, hS⟩ hR
    have hlt : i < n := by omega
    refine codeAny_builtin F.entry_set_update_loop ?_
    rw [Around.under_plainId F.plain_set_update_loop _]
    show wpAny _ A.in1 (pyNext (.ref I) >>= _) _ _ s
    refine wpAny_bind (W.item i s _ _ hlt hst fun v s' hP hst' hm => ?_)
    obtain ⟨z, t, hz, rfl⟩ := hval i v hP
    have hS' : SetRS P w s'.heap S (fun j => decide (j ∈ ns.take i)) c := hS.at fun o e => hm.heap S o hSw e
    show wpAny _ A.in1 (holding [Value.str z t] (setAdd S (.str z t)) >>= _) _ _ s'
    refine wpAny_bind (wpAny_holding ?_)
    unfold setAdd
    refine wpAny_holding ?_
    refine wpAny_bind ((strKind P w).pyHash (k := z) (strKind_is _ _ _ _) ?_)
    refine setRS_add_hashed (s := { s' with toks := s'.toks + 1 }) hS' (by omega) fun h' hsb hS2 => ?_
    have hS3 : SetRS P w h' S (fun j => decide (j ∈ ns.take (i + 1))) (if decide (z ∈ ns.take i) = true then c else c + 1) := hS2.congr fun j => by
      rw [List.take_add_one, hz]
      simp [List.mem_append]
    have hc3 : (if decide (z ∈ ns.take i) = true then c else c + 1) ≤ i + 1 := by
      split <;> omega
    refine wpAny_pure ⟨plainId_quiet F.plain_set_update_loop _, ih (i + 1) _ (by omega) hlt (W.frame _ s' _ _ hst' (Nat.le_succ _) fun b hb o e => ?_) ⟨_, hc3, hS3⟩ fun s'' c2 hm'' hc'' hS'' => ?_⟩
    · rw [hsb.2 b (fun h : b = S => hSf (by rw [← h]; exact hb))]; exact e
    · refine hR s'' c2 (Moved.trans W.gtrans ((hm.mono hsub).then_heap (Nat.le_succ _) fun b o hb e => ?_) hm'') hc'' hS''
      rw [hsb.2 b (fun h : b = S => hb (by rw [h]; exact List.mem_cons_self))]; exact e

theorem strs_get : ∀ {us : List Value} {ns : List Str} {i : Nat} {v : Value}, StrsAre us ns → us[i]? = some v → ∃ k t, ns[i]? = some k ∧ v = .str k t
  | _, _, i, v, .nil, e => by simp at e
  | _, _, 0, v, .cons x t r, e => by
    simp at e
    subst e
    exact ⟨_, _, rfl, rfl⟩
  | _, _, i + 1, v, .cons x t r, e => by
    obtain ⟨k, t, h1, h2⟩ := strs_get (i := i) (v := v) r (by simpa using e)
    exact ⟨k, t, by simpa using h1, h2⟩
set_option maxRecDepth 100000 in
set_option maxHeartbeats 3200000 in
theorem call_set_lstS {l : Addr} {items : Array Value} (ns : List Str) {Q : Value → Shared → Prop} (hh : A.handled = none) (hl : s.heap.IsList l items) (hit : StrsAre items.toList ns) (hb : ns.length + 1 < scanBound)
    (h : ∀ (h' : Heap) (tk c : Nat), SetRS P w h' s.heap.objs.size (fun j => decide (j ∈ ns)) c → c ≤ ns.length → (∀ b o, s.heap.get? b = some o → h'.get? b = some o) → Q (.ref s.heap.objs.size) { s with heap := h', toks := tk }) :
    wpAny (model P w) A (call (.type "set") [.ref l]) Q E s := by
  have hisz : items.size = ns.length := by
    have q := hit.length
    rw [Array.length_toList] at q
    exact q
  obtain ⟨c, tl, hmro⟩ := F.called_set.mro
  have hmade := F.called_set.made
  have hsub := F.called_set.sub
  refine wpAny_call (codeAny_of_tree ?_)
  show wpAny _ _ (callAny (.type "set") _) _ _ _
  refine wpAny_pure ⟨Code.quiet_builtin _ (by decide +kernel), codeAny_builtin F.entry_type_call ?_⟩
  rw [Around.under_plain (weight_type_call_type "set" [.ref l] []) rfl]
  have h1 := F.called_set.notType
  have h2 := F.called_set.canCreate
  have hct := F.typeCall_set_1 (.ref l)
  repeat (any_goals (first | assumption | wp_step))

  refine codeAny_mono (code_set_led1 (.ref l) (E := E) (Q₁ := fun obj s₁ => obj = .ref s.heap.objs.size ∧ s₁ = { s with heap := s.heap.push { cls := .type "set", dict := none, data := .set #[] 0 (.fresh 0 0 (!w.params.followText "set-order")) } }) ⟨rfl, rfl⟩) fun r s₁ hr => ?_
  cases r with
  | error e => exact hr
  | ok fl =>
    cases fl with
    | ret obj =>
      obtain ⟨rfl, rfl⟩ := hr
      have hS : (s.heap.push { cls := .type "set", dict := none, data := .set #[] 0 (.fresh 0 0 (!w.params.followText "set-order")) }).get? s.heap.objs.size = some { cls := .type "set", dict := none, data := .set #[] 0 (.fresh 0 0 (!w.params.followText "set-order")) } := Heap.get?_push_size _ rfl
      have hT : Shared.TypeIs { s with heap := s.heap.push { cls := .type "set", dict := none, data := .set #[] 0 (.fresh 0 0 (!w.params.followText "set-order")) } } (.ref s.heap.objs.size) "set" := ⟨_, hS, rfl⟩
      have hli := F.called_set.init.lookup
      have hbi := F.called_set.init.bind (.ref s.heap.objs.size)
      repeat (any_goals (first | assumption | wp_step))

      refine codeAny_mono (codeAny_call_builtin (R := wants (fun r s₂ => r = .none ∧ ∃ h' tk c, s₂ = { s with heap := h', toks := tk } ∧ SetRS P w h' s.heap.objs.size (fun j => decide (j ∈ ns)) c ∧ c ≤ ns.length ∧
          (∀ b o, s.heap.get? b = some o → h'.get? b = some o)) E) F.called_set.init.plain F.entry_set_init (check_set_init_1 hT ?_)) fun r₂ s₂ hr₂ => ?_
      · obtain ⟨ol, hol, hcl, nl, hdl⟩ := hl
        obtain ⟨ocls, odict, odata, oslots⟩ := ol
        simp only at hcl hdl
        subst hcl; subst hdl
        have hol' : (s.heap.push { cls := .type "set", dict := none, data := .set #[] 0 (.fresh 0 0 (!w.params.followText "set-order")) }).get? l = some { cls := .type "list", dict := odict, data := .seq items nl, slots := oslots } := Heap.get?_push_of_some _ hol
        have hsls := F.sub_list_set
        have hslf := F.sub_list_frozenset
        have hne : (Value.type "list" == Value.type "dict") = false := by decide
        have hl1 : (s.heap.push { cls := .type "set", dict := none, data := .set #[] 0 (.fresh 0 0 (!w.params.followText "set-order")) }).IsList l items := ⟨_, hol', rfl, nl, rfl⟩
        unfold Builtin.«set.__init__» noKeywords Builtin.Frozenset.updateFrom
        generalize hPI : pyIter = PI
        wp_walk
        subst hPI

        refine wpAny_pyIter_list hl1 ?_
        refine wpAny_bind (wpAny_runValue ?_)
        have hlS : l < s.heap.objs.size := Heap.lt_size hol
        have hh3 : A.in1.in1.in1.handled = none := by simp [hh]
        have hz1 : (s.heap.push { cls := .type "set", dict := none, data := .set #[] 0 (.fresh 0 0 (!w.params.followText "set-order")) }).objs.size = s.heap.objs.size + 1 := Heap.size_push ..
        have hneI : l ≠ (s.heap.push { cls := .type "set", dict := none, data := .set #[] 0 (.fresh 0 0 (!w.params.followText "set-order")) }).objs.size := by
          rw [Heap.size_push]; exact Nat.ne_of_lt (Nat.lt_succ_of_lt hlS)
        have hSf : s.heap.objs.size ∉ [(s.heap.push { cls := .type "set", dict := none, data := .set #[] 0 (.fresh 0 0 (!w.params.followText "set-order")) }).objs.size, l] := by
          rw [Heap.size_push]; simp only [List.mem_cons, List.mem_singleton, List.not_mem_nil, or_false, not_or]
          exact ⟨Nat.ne_of_lt (Nat.lt_succ_self _), Nat.ne_of_gt hlS⟩
        have hval : ∀ (i : Nat) (v : Value), items[i]? = some v → ∃ k t, ns[i]? = some k ∧ v = .str k t := fun i v hv => by
          exact strs_get hit (by rw [Array.getElem?_toList]; exact hv)
        refine set_update_strs ((Walks.list hh3 _ l hneI items).toS) s.heap.objs.size
          hSf ns hisz hb hval (items.size - 0) 0 _ (by omega) (Nat.zero_le _)
          ⟨⟨_, Heap.get?_push_size _ rfl, rfl, rfl⟩, (hl1.push _)⟩ ?hS0 ?hR
        case hS0 =>
          have hget : ((s.heap.push { cls := .type "set", dict := none, data := .set #[] 0 (.fresh 0 0 (!w.params.followText "set-order")) }).push { cls := .type "list_iterator", data := .fields #[.ref l, .int 0 0] }).get? s.heap.objs.size
              = some { cls := .type "set", dict := none, data := .set #[] 0 (.fresh 0 0 (!w.params.followText "set-order")) } := Heap.get?_push_of_some _ hS
          exact ⟨0, Nat.le_refl 0, setRS_new_at hget⟩
        case hR =>
          intro s' c' hm hc' hS'
          obtain ⟨h', g2, d', tk', os'⟩ := s'
          have eg : g2 = s.gens := hm.gens
          have ed : d' = s.drawn := hm.drawn
          have eo : os' = s.os := hm.os
          subst eg; subst ed; subst eo
          show wpAny _ _ _ _ _ _
          refine wpAny_pure ?_
          show wpAny _ _ (ret Value.none) _ _ _
          rw [hisz] at hc'
          refine wpAny_pure ⟨rfl, h', tk', c', rfl, hS', hc', fun b o e => ?_⟩
          have hb0 : b < s.heap.objs.size := Heap.lt_size e
          have hb1 : b ≠ s.heap.objs.size := Nat.ne_of_lt hb0
          have hb2 : b ≠ (s.heap.push { cls := .type "set", dict := none, data := .set #[] 0 (.fresh 0 0 (!w.params.followText "set-order")) }).objs.size := by
            rw [Heap.size_push]; exact Nat.ne_of_lt (Nat.lt_succ_of_lt hb0)
          exact hm.heap b o (by simp only [List.mem_cons, List.mem_singleton, List.not_mem_nil, or_false, not_or]; exact ⟨hb1, hb2⟩) (Heap.get?_push_of_some _ (Heap.get?_push_of_some _ e))

      · cases r₂ with
        | error e => exact hr₂
        | ok fl₂ =>
          cases fl₂ with
          | ret r =>
            obtain ⟨rfl, h', tk, c', rfl, hS', hc', hk'⟩ := hr₂
            repeat (any_goals (first | assumption | wp_step))
            exact h _ _ _ hS' hc' hk'
          | _ => exact hr₂.elim
    | _ => exact hr.elim

end
end L2

set_option Elab.async false
set_option linter.all false
set_option maxRecDepth 100000
set_option maxHeartbeats 4000000
/-! set(xs), sorted(set(xs)), xs a list of ints or of texts. -/
namespace L2
open PySem PySem.Spec PyProof.Rows PySem.KX
section
variable {P : Program} {w : World} {A : Around} {E : Value → Shared → Prop} {s : Shared} {a : Addr}
def txtOf : Value → Str
  | .str x _ => x
  | _ => ⟨#[]⟩
theorem strs_all : ∀ l : List Value, (∀ v ∈ l, ∃ k tk, v = Value.str k tk) → StrsAre l (l.map txtOf)
  | [], _ => .nil
  | v :: l, h => by
    obtain ⟨k, tk, rfl⟩ := h v List.mem_cons_self
    exact .cons k tk (strs_all l fun u hu => h u (List.mem_cons_of_mem _ hu))
theorem sorted_setS {S : Str → Bool} {n : Nat} {Q : Value → Shared → Prop} (R : SetRS P w s.heap a S n) (hh : A.handled = none) (h64 : n < 64)
    (hQ : ∀ s' p (out : List Value) (c : Nat) (ys : List Str), (∀ b o, s.heap.get? b = some o → s'.heap.get? b = some o) → s'.gens = s.gens → s'.os = s.os → s.heap.objs.size ≤ p →
      s'.heap.get? p = some (seqObj "list" out.toArray c) → StrsAre out ys → ys.Nodup → sortedS ys = true → (∀ k, k ∈ ys ↔ S k = true) → ys.length = n → Q (.ref p) s') :
    wpAny (model P w) A (call (.builtin "sorted") [.ref a]) Q E s := by
  obtain ⟨o, es, ep, t, ho, hex, hd, g, nd, hm, hb, hf, hn, hr, hl⟩ := R
  refine Calls.call_function_entry kind_sorted plain_sorted entry_sorted (args_sorted1 _) ?_
  unfold Builtin.«sorted»
  refine wpAny_bind (m := checkCount "sorted" 1 1 _) (wpAny_pure ?_)
  refine wpAny_bind (collect_set (A := A.in1) hh ⟨o, ho, hex.1, hd⟩ hf hb hr hl fun s1 vs k1 hz g1 o1 pm => ?_)
  have hvl : vs.length = n := by rw [pm.length_eq, List.length_map, Array.length_toList]; exact hn
  have hS : StrsAre vs (vs.map txtOf) := strs_all vs fun v hv => by
    obtain ⟨e, he, q⟩ := List.mem_map.mp (pm.mem_iff.mp hv)
    obtain ⟨k, tk, h1, _⟩ := g e he
    exact ⟨k, tk, by rw [← q]; exact h1⟩
  have pk : (vs.map txtOf).Perm (es.toList.map keyOfS) := by
    have q := pm.map txtOf
    rw [List.map_map] at q
    exact q
  refine wpAny_bind (wpAny_newList ?_ (by rw [hvl, sizeLine_eq]; omega))
  have hoL : (s1.heap.push (seqObj "list" vs.toArray 0)).get? s1.heap.objs.size = some (seqObj "list" vs.toArray 0) := Heap.get?_push_size _ rfl
  refine wpAny_bind (wpAny_holding (wpAny_call_entry slot_list_sort ⟨_, hoL, rfl⟩ entry_list_sort
    (list_sort_treeK strKind_oneLt hoL hS.keysOf (fun v₁ v₂ rest e => keyKind_strs (by rw [← e]; exact hS)) (by rw [hvl]; exact h64) fun st' hp hs => ⟨_, rfl, ?_⟩) (args_list_sort _)))
  obtain ⟨ys, y1, y2, y3⟩ := sorted_out_str hS hp hs
  obtain ⟨c, hc⟩ := sortedHeap_at (vs := vs) (out := (arrOf st').map (·.2)) hoL
  have pn : ys.Perm (es.toList.map keyOfS) := y2.trans pk
  refine wpAny_pure ⟨_, rfl, hQ _ s1.heap.objs.size ((arrOf st').map (·.2)).toList c ys (fun b u e => ?_) g1 o1 hz (by rw [Array.toArray_toList]; exact hc) y1 (pn.nodup_iff.mpr nd) y3 (fun k => by rw [pn.mem_iff, ← hm k]) ?_⟩
  · have q := k1 b u e
    have hlt := Heap.lt_size q
    show (sortedHeap (s1.heap.push (seqObj "list" vs.toArray 0)) s1.heap.objs.size vs ((arrOf st').map (·.2))).get? b = some u
    rw [sortedHeap_old (Nat.ne_of_lt hlt) (by rw [size_push']; exact Nat.lt_succ_of_lt hlt)]
    exact Heap.get?_push_of_some _ q
  · rw [pn.length_eq, List.length_map, Array.length_toList]; exact hn
end
/-- the set of texts at a -/
def SetSO (P : Program) (w : World) (a : Addr) (S : Str → Bool) (n : Nat) : HO := .ext fun h => SetRS P w h a S n
section
variable {X : Cx}
theorem setSO_new {w : World} {P : Program} {H : Hp} {h : Heap} {a : Addr} {S : Str → Bool} {n : Nat} (R : SetRS P w h a S n) : ObjOk P w H h a (SetSO P w a S n) := by
  have ⟨o, _, _, _, ho, _⟩ := R
  exact ⟨R, ⟨o, ho⟩, fun h1 h2 p k => SetRS.at p k⟩
/-- set(l), l a list of ints -/
def rSetLI (K : PySem.W.Frag) (w : World) : List V → Hp → VK → Prop := fun xs H Q => ∃ (t : Addr) (ns : List Int), xs = [.ref t] ∧ SqL K H t (ns.map V.int) ∧ ns.length ≤ 60 ∧ ∀ (p : Addr) (c : Nat) (H' : Hp), Same H H' → H p = none → H' p = some (SetO w p (fun j => decide (j ∈ ns)) c) → c ≤ ns.length → Q (.ref p) H'
theorem call_setLI (hc : X.calm = true) : CallR X (.type "set") (rSetLI X.K X.w) := by
  intro pins s σ H xs us Q I r h
  obtain ⟨t, ns, rfl, ht, hn, q⟩ := h
  rw [Vals.ref1 r]
  obtain ⟨its, rv, pl, _⟩ := I.list ht
  have hi := ints_of_vals rv
  refine call_set_lstI ns (I.ok.hd hc) pl.isList (by simpa using hi) (by have : scanBound = scanBound := rfl; show ns.length + 1 < scanBound; first | (unfold scanBound; omega) | omega) fun h' tk c R hcn k => ?_
  have hf : H s.heap.objs.size = none := I.hok.fresh (Nat.le_refl _)
  exact ⟨.ref s.heap.objs.size, upd H s.heap.objs.size (SetO X.w s.heap.objs.size (fun j => decide (j ∈ ns)) c), I.laid (t' := tk) k (Nat.le_refl _) (setO_new R), rfl, q _ c _ ((Same.refl _).new hf) hf upd_same hcn⟩
/-- set(l), l a list of texts -/
def rSetLS (K : PySem.W.Frag) (P : Program) (w : World) : List V → Hp → VK → Prop := fun xs H Q => ∃ (t : Addr) (ns : List Str), xs = [.ref t] ∧ SqL K H t (ns.map V.str) ∧ ns.length ≤ 60 ∧ ∀ (p : Addr) (c : Nat) (H' : Hp), Same H H' → H p = none → H' p = some (SetSO P w p (fun j => decide (j ∈ ns)) c) → c ≤ ns.length → Q (.ref p) H'
theorem call_setLS (hc : X.calm = true) : CallR X (.type "set") (rSetLS X.K X.prog X.w) := by
  intro pins s σ H xs us Q I r h
  obtain ⟨t, ns, rfl, ht, hn, q⟩ := h
  rw [Vals.ref1 r]
  obtain ⟨its, rv, pl, _⟩ := I.list ht
  have hi := rv.strs
  refine call_set_lstS ns (I.ok.hd hc) pl.isList (by simpa using hi) (by have : scanBound = scanBound := rfl; show ns.length + 1 < scanBound; first | (unfold scanBound; omega) | omega) fun h' tk c R hcn k => ?_
  have hf : H s.heap.objs.size = none := I.hok.fresh (Nat.le_refl _)
  exact ⟨.ref s.heap.objs.size, upd H s.heap.objs.size (SetSO X.prog X.w s.heap.objs.size (fun j => decide (j ∈ ns)) c), I.laid (t' := tk) k (Nat.le_refl _) (setSO_new R), rfl, q _ c _ ((Same.refl _).new hf) hf upd_same hcn⟩
/-- sorted(S), S a set of texts -/
def rSortLS (P : Program) (w : World) : List V → Hp → VK → Prop := fun xs H Q => ∃ (a : Addr) (S : Str → Bool) (n : Nat), xs = [.ref a] ∧ H a = some (SetSO P w a S n) ∧ n < 64 ∧
  ∀ (ys : List Str) (p : Addr) (H' : Hp), ys.Nodup → sortedS ys = true → (∀ k : Str, k ∈ ys ↔ S k = true) → ys.length = n → Same H H' → H p = none → H' p = some (.lst (ys.map V.str)) → Q (.ref p) H'
theorem call_sortLS (hc : X.calm = true) : CallR X (.builtin "sorted") (rSortLS X.prog X.w) := by
  intro pins s σ H xs us Q I r h
  obtain ⟨a, S, n, rfl, ha, hn, q⟩ := h
  rw [Vals.ref1 r]
  refine sorted_setS (I.hok a _ ha).1 (I.ok.hd hc) hn fun s' p out c ys k g o hz ho h1 h2 h3 h4 h5 => ?_
  have hf : H p = none := I.hok.fresh hz
  have hlen : (ys.map V.str).length ≤ sizeLine := by rw [List.length_map, h5, sizeLine_eq]; omega
  have J : Inv X pins σ (upd H p (.lst (ys.map V.str))) { s with heap := s'.heap, gens := s'.gens, drawn := s'.drawn, toks := s'.toks } :=
    I.call (ch := []) (Un.laid k hz hf) (I.hok.laid k hz ⟨hlen, out, c, vals_of_strs h1, ho⟩) (by rw [g]; exact I.bare) (fun _ z => nomatch z)
  have e : s' = { s with heap := s'.heap, gens := s'.gens, drawn := s'.drawn, toks := s'.toks } := by
    cases s'
    cases s
    cases o
    rfl
  rw [e]
  exact ⟨.ref p, _, J, rfl, q ys p _ h2 h3 h4 h5 ((Same.refl _).new hf) hf upd_same⟩
end
end L2

set_option Elab.async false
set_option linter.all false
set_option maxRecDepth 100000
set_option maxHeartbeats 4000000
/-! Words drawn one after the other: the mathematics. -/
namespace L2
open PySem
theorem nodup_le {α : Type} [DecidableEq α] : ∀ {l m : List α}, l.Nodup → (∀ x ∈ l, x ∈ m) → l.length ≤ m.length
  | [], _, _, _ => Nat.zero_le _
  | a :: l, m, h, k => by
    obtain ⟨h1, h2⟩ := List.nodup_cons.mp h
    have ha : a ∈ m := k a List.mem_cons_self
    have := nodup_le (l := l) (m := m.erase a) h2 fun x hx => by
      have hne : x ≠ a := fun z => h1 (z ▸ hx)
      exact (List.mem_erase_of_ne hne).mpr (k x (List.mem_cons_of_mem _ hx))
    rw [List.length_erase_of_mem ha] at this
    have := List.length_pos_of_mem ha
    simp only [List.length_cons]
    omega
/-- the text of these codes -/
abbrev wT (l : List Nat) : Str := ⟨l.toArray⟩
theorem wT_inj {l m : List Nat} (h : wT l = wT m) : l = m := by
  have := congrArg (fun z : Str => z.cps.toList) h
  simpa using this
theorem wT_len (l : List Nat) : (wT l).length = l.length := by
  show l.toArray.size = _
  simp
theorem wT_eta (x : Str) : x = wT x.cps.toList := by
  cases x
  simp
theorem wT_app (l m : List Nat) : wT l ++ wT m = wT (l ++ m) := by
  show (⟨l.toArray ++ m.toArray⟩ : Str) = _
  simp
abbrev lowL (c : Nat) : Bool := decide (97 ≤ c) && decide (c ≤ 122)
theorem lowL_iff {c : Nat} : lowL c = true ↔ 97 ≤ c ∧ c ≤ 122 := by simp
/-- the letter that is j places on -/
def onC (c j : Nat) : Nat := 97 + (c - 97 + j) % 26
theorem onC_low (c j : Nat) : 97 ≤ onC c j ∧ onC c j ≤ 122 := by
  unfold onC
  have := Nat.mod_lt (c - 97 + j) (show 0 < 26 by decide)
  omega
theorem onC_zero {c : Nat} (h : 97 ≤ c ∧ c ≤ 122) : onC c 0 = c := by
  unfold onC
  rw [Nat.mod_eq_of_lt (by omega)]
  omega
theorem onC_succ (c j : Nat) : onC (onC c j) 1 = onC c (j + 1) := by
  unfold onC
  have h1 : 97 + (c - 97 + j) % 26 - 97 = (c - 97 + j) % 26 := by omega
  rw [h1, Nat.mod_add_mod]
  congr 1
theorem onC_inj {c i j : Nat} (hi : i < 26) (hj : j < 26) (h : onC c i = onC c j) : i = j := by
  unfold onC at h
  omega
/-- a word that is put on while it is taken: it is free, or all before it are taken -/
def TryW (fs : List Str) (c : Nat) (r : List Nat) (t : Nat) (d : Nat) : Prop := wT (d :: r) ∉ fs ∨ (d = onC c t ∧ ∀ j, j < t → wT (onC c j :: r) ∈ fs)
theorem TryW.start {fs : List Str} {c : Nat} {r : List Nat} (h : 97 ≤ c ∧ c ≤ 122) : TryW fs c r 0 c := .inr ⟨(onC_zero h).symm, fun j hj => absurd hj (Nat.not_lt_zero _)⟩
theorem TryW.free {fs : List Str} {c : Nat} {r : List Nat} {t d : Nat} (h : TryW fs c r t d) (n : wT (d :: r) ∉ fs) : TryW fs c r (t + 1) d := .inl n
theorem TryW.on {fs : List Str} {c : Nat} {r : List Nat} {t d : Nat} (h : TryW fs c r t d) (y : wT (d :: r) ∈ fs) : TryW fs c r (t + 1) (onC d 1) := by
  rcases h with h | ⟨rfl, h⟩
  · exact absurd y h
  · refine .inr ⟨onC_succ c t, fun j hj => ?_⟩
    by_cases e : j = t
    · subst e
      exact y
    · exact h j (by omega)
theorem TryW.done {fs : List Str} {c : Nat} {r : List Nat} {t d : Nat} (h : TryW fs c r t d) (h1 : fs.length < t) (h2 : t ≤ 26) : wT (d :: r) ∉ fs := by
  rcases h with h | ⟨_, h⟩
  · exact h
  · exfalso
    have hn : ((List.range t).map fun j => wT (onC c j :: r)).Nodup := by
      refine List.Pairwise.map _ ?_ (List.nodup_iff_pairwise_ne.mp List.nodup_range |>.imp_of_mem fun {a b} ha hb hab => ?_) (S := fun a b => a ≠ b) (R := fun a b => wT (onC c a :: r) ≠ wT (onC c b :: r))
      · intro a b h
        exact h
      · intro e
        have e2 := (List.cons.inj (wT_inj e)).1
        have a1 := List.mem_range.mp ha
        have b1 := List.mem_range.mp hb
        exact hab (onC_inj (by omega) (by omega) e2)
    have := nodup_le hn fun x hx => by
      obtain ⟨j, hj, rfl⟩ := List.mem_map.mp hx
      exact h j (List.mem_range.mp hj)
    simp at this
    omega
end L2

set_option Elab.async false
set_option linter.all false
set_option maxRecDepth 100000
set_option maxHeartbeats 4000000
/-! set of a long list of few ints. -/
namespace L2
open PySem PySem.Spec PyProof.Rows PySem.KX
section
variable {X : Cx}
theorem setR_few {w : World} {h : Heap} {a : Addr} {S : Int → Bool} {n b : Nat} (R : SetR w h a S n) (hb : ∀ k : Int, S k = true → 0 ≤ k ∧ k < (b : Int)) : n ≤ b := by
  obtain ⟨o, es, ep, t, ho, hex, hd, g, nd, hm, _, _, hn, _⟩ := R
  have hl : (es.toList.map keyOf).length = n := by rw [List.length_map, Array.length_toList]; exact hn
  rw [← hl]
  have q := nodup_le (m := (List.range b).map fun i : Nat => (i : Int)) nd fun k hk => by
    obtain ⟨h0, h1⟩ := hb k ((hm k).mpr hk)
    exact List.mem_map.mpr ⟨k.toNat, List.mem_range.mpr (by omega), by omega⟩
  simpa using q
def rSetLB (K : PySem.W.Frag) (w : World) : List V → Hp → VK → Prop := fun xs H Q => ∃ (t : Addr) (ns : List Int) (b : Nat), xs = [.ref t] ∧ SqL K H t (ns.map V.int) ∧ ns.length ≤ 4000 ∧ (∀ k ∈ ns, 0 ≤ k ∧ k < (b : Int)) ∧ ∀ (p : Addr) (c : Nat) (H' : Hp), Same H H' → H p = none → H' p = some (SetO w p (fun j => decide (j ∈ ns)) c) → c ≤ b → Q (.ref p) H'
theorem call_setLB (hc : X.calm = true) : CallR X (.type "set") (rSetLB X.K X.w) := by
  intro pins s σ H xs us Q I r h
  obtain ⟨t, ns, b, rfl, ht, hn, hin, q⟩ := h
  rw [Vals.ref1 r]
  obtain ⟨its, rv, pl, _⟩ := I.list ht
  have hi := ints_of_vals rv
  refine call_set_lstI ns (I.ok.hd hc) pl.isList (by simpa using hi) (by show ns.length + 1 < scanBound; unfold scanBound; omega) fun h' tk c R hcn k => ?_
  have hf : H s.heap.objs.size = none := I.hok.fresh (Nat.le_refl _)
  exact ⟨.ref s.heap.objs.size, upd H s.heap.objs.size (SetO X.w s.heap.objs.size (fun j => decide (j ∈ ns)) c), I.laid (t' := tk) k (Nat.le_refl _) (setO_new R), rfl, q _ c _ ((Same.refl _).new hf) hf upd_same (setR_few R fun k hk => hin k (of_decide_eq_true hk))⟩
end
end L2

set_option Elab.async false
set_option linter.all false
set_option maxRecDepth 100000
set_option maxHeartbeats 4000000
/-! sorted of tuples of ints and texts: each begins with a text, and two that begin with the same one have items of the same kinds. -/
namespace L2
open PySem PySem.Spec PyProof.Rows PySem.KX
open PySem.W (dataLt alike alikeAll keyToks keyToksAll)
/-- an item as data -/
def kD : Key → PyData
  | .inl i => .int i
  | .inr x => .str x
abbrev RowK := List Key
def rowDt (r : RowK) : PyData := .tuple (r.map kD)
def rowLt (a b : RowK) : Bool := dataLt (rowDt a) (rowDt b)
/-- these two can be compared -/
def RowCmp (a b : RowK) : Prop := ∃ x r y q, a = .inr x :: r ∧ b = .inr y :: q ∧ (x = y → alikeAll (r.map kD) (q.map kD) = true)
theorem rowLt_swo {α : Type} (k : α → RowK) : SrtO.Swo fun x y => rowLt (k x) (k y) := by
  refine ⟨fun x y h => ?_, fun x y z h1 h2 => ?_⟩
  · cases c : rowLt (k y) (k x) with
    | false => rfl
    | true =>
      have := PyProof.Rows.lex_trans (O := itemOrd) _ _ _ h c
      rw [PyProof.Rows.lex_irrefl] at this
      cases this
  · cases c : rowLt (k z) (k x) with
    | false => rfl
    | true =>
      exfalso
      cases c1 : rowLt (k x) (k y) with
      | true =>
        have := PyProof.Rows.lex_trans (O := itemOrd) _ _ _ c c1
        have h2' : PyProof.Rows.lexLt itemOrd (keyToks (rowDt (k z))) (keyToks (rowDt (k y))) = false := h2
        rw [this] at h2'
        cases h2'
      | false =>
        have e := PyProof.Rows.lex_total (O := itemOrd) _ _ c1 h1
        have h2' : PyProof.Rows.lexLt itemOrd (keyToks (rowDt (k z))) (keyToks (rowDt (k y))) = false := h2
        rw [← e] at h2'
        have c' : PyProof.Rows.lexLt itemOrd (keyToks (rowDt (k z))) (keyToks (rowDt (k x))) = true := c
        rw [h2'] at c'
        cases c'
/-! ### at a heap -/
abbrev KVals (r : RowK) (us : List Value) : Prop := Paired (fun (k : Key) (u : Value) => RelV (kV k) u) r us
def RowAt (h : Heap) (v : Value) (r : RowK) : Prop := ∃ t o us n, v = .ref t ∧ h.get? t = some o ∧ o.cls = .type "tuple" ∧ o.data = .seq us n ∧ KVals r us.toList
theorem RowAt.keeps {h h' : Heap} {v : Value} {r : RowK} (k : ∀ b o, h.get? b = some o → o.cls = .type "tuple" → h'.get? b = some o) (x : RowAt h v r) : RowAt h' v r := by
  obtain ⟨t, o, us, n, e, ho, hc, hd, hr⟩ := x
  exact ⟨t, o, us, n, e, k _ _ ho hc, hc, hd, hr⟩
theorem kvals_reads {h : Heap} : ∀ {r : RowK} {us : List Value}, KVals r us → ∃ as, ReadsAll h us (r.map kD) as
  | _, _, .nil => ⟨_, .nil⟩
  | .inl i :: _, _, .cons (b := u) hx t => by
    obtain ⟨tk, rfl⟩ := hx
    obtain ⟨as, ha⟩ := kvals_reads (h := h) t
    exact ⟨_, .cons (.int i tk) ha⟩
  | .inr x :: _, _, .cons (b := u) hx t => by
    obtain ⟨tk, rfl⟩ := hx
    obtain ⟨as, ha⟩ := kvals_reads (h := h) t
    exact ⟨_, .cons (.str x tk) ha⟩
theorem depth_keys : ∀ r : RowK, PyData.depthAll (r.map kD) = 0
  | [] => by simp [PyData.depthAll]
  | .inl i :: r => by simp [PyData.depthAll, kD, PyData.depth, depth_keys r]
  | .inr x :: r => by simp [PyData.depthAll, kD, PyData.depth, depth_keys r]
section
variable {prog : Program} {w : World} {A : Around} {E : Value → Shared → Prop} {s : Shared}
theorem rows_cmp {vs : List Value} {k : Value → RowK} (hu : A.units < cLine) (hp : ∀ v ∈ vs, RowAt s.heap v (k v)) (hc : ∀ v ∈ vs, ∀ u ∈ vs, RowCmp (k v) (k u)) : SrtO.Cmp prog w A s (tuples' true) (fun p => p.1 ∈ vs) (SrtO.lt2 fun v u => rowLt (k v) (k u)) := by
  intro p q hm hm'
  have h1 := hp _ hm
  have h2 := hp _ hm'
  have h3 := hc _ hm _ hm'
  show wpAny (model prog w) A (keyLt' (tuples' true) p.1 q.1) (fun r s' => s' = s ∧ r = rowLt (k p.1) (k q.1)) (fun _ _ => False) s
  generalize k p.1 = a at h1 h3 ⊢
  generalize k q.1 = b at h2 h3 ⊢
  obtain ⟨x, r, y, q', rfl, rfl, hal⟩ := h3
  obtain ⟨t, o, us, n, e, ho, hcl, hd, hr⟩ := h1
  obtain ⟨t', o', us', n', e', ho', hcl', hd', hr'⟩ := h2
  rw [e, e']
  refine PySem.W.kat_lt ho hd ho' hd' ?_
  have hl1 : us.size = r.length + 1 := by have := hr.length; simpa using this.symm
  have hl2 : us'.size = q'.length + 1 := by have := hr'.length; simpa using this.symm
  generalize us.toList = xs at hr
  generalize us'.toList = ys at hr'
  cases hr with
  | @cons _ u _ ur hx tr =>
    cases hr' with
    | @cons _ u' _ ur' hx' tr' =>
      obtain ⟨tk, rfl⟩ := hx
      obtain ⟨tk', rfl⟩ := hx'
      obtain ⟨as, ra⟩ := kvals_reads (h := s.heap) tr
      obtain ⟨bs, rb⟩ := kvals_reads (h := s.heap) tr'
      rw [List.zip_cons_cons]
      have al0 : alike (.str x) (.str y) = true := by simp [alike]
      have d0 : A.units + min (PyData.str x).depth (PyData.str y).depth < cLine := by simp only [PyData.depth]; omega
      refine PySem.W.kat_cons (PySem.W.eqAt_alike (.str x) (.str y) A s _ _ _ _ (.str x tk) (.str y tk') al0 d0 prog w _ _ ?_)
      have er : rowLt (.inr x :: r) (.inr y :: q') = PyProof.Rows.lexLt itemOrd (keyToksAll (.str x :: r.map kD)) (keyToksAll (.str y :: q'.map kD)) := PySem.W.dataLt_tuple _ _
      cases hxy : PyData.eqv (.str x) (.str y) with
      | true =>
        have exy : x = y := by
          have : decide (x = y) = true := hxy
          exact of_decide_eq_true this
        refine PySem.W.kat_yes (PySem.W.katLex_alike (r.map kD) (q'.map kD) 1 _ _ _ _ ra rb (hal exy) (by rw [depth_keys, depth_keys]; omega) (fun _ hi => absurd hi (by decide)) ?_ ⟨rfl, ?_⟩)
        · rw [hl1, hl2, List.length_map, List.length_map]
          simp
        · rw [er, PySem.W.dataLt_all_yes al0 hxy]
      | false =>
        refine PySem.W.kat_no (PySem.W.oneLt_alike (fun _ xs z => by cases z) (.str x tk) (.str y tk') al0 (by intro z; cases z) d0 ⟨rfl, ?_⟩)
        rw [er, PySem.W.dataLt_all_no al0 hxy]
theorem row_firsts : ∀ {vs : List Value} {k : Value → RowK} {h : Heap}, (∀ v ∈ vs, RowAt h v (k v)) → (∀ v ∈ vs, ∃ x r, k v = .inr x :: r) → ∃ fs, PySem.W.KatTups h vs fs ∧ fs.length = vs.length ∧ ∀ f ∈ fs, ∃ x t, f = Value.str x t
  | [], _, _, _, _ => ⟨[], PySem.W.KatTups.nil, rfl, fun f hf => nomatch hf⟩
  | v :: vs, k, h, hp, hs => by
    obtain ⟨fs, h1, h2, h3⟩ := row_firsts (vs := vs) (k := k) (h := h) (fun u hu => hp u (List.mem_cons_of_mem _ hu)) fun u hu => hs u (List.mem_cons_of_mem _ hu)
    obtain ⟨t, o, us, n, rfl, ho, hc, hd, hr⟩ := hp v List.mem_cons_self
    obtain ⟨x, r, e⟩ := hs _ List.mem_cons_self
    rw [e] at hr
    obtain ⟨us⟩ := us
    have hr' : KVals (.inr x :: r) us := hr
    cases us with
    | nil => cases hr'
    | cons u ur =>
      cases hr' with
      | cons hx tr =>
        obtain ⟨tk, rfl⟩ := hx
        refine ⟨.str x tk :: fs, PySem.W.KatTups.cons ho hc hd rfl h1, by simp [h2], fun f hf => ?_⟩
        rcases List.mem_cons.mp hf with z | z
        · exact ⟨x, tk, z⟩
        · exact h3 f z
theorem rows_sortableO {a : Addr} {vs : List Value} {k : Value → RowK} (hu : A.units < cLine) (h0 : 0 < vs.length) (hp : ∀ v ∈ vs, RowAt s.heap v (k v)) (hc : ∀ v ∈ vs, ∀ u ∈ vs, RowCmp (k v) (k u)) (ha : ∀ o, s.heap.get? a = some o → o.cls ≠ .type "tuple") :
    SrtO.SortableO prog w A s a vs fun v u => rowLt (k v) (k u) := by
  intro h' keep
  have hp' : ∀ v ∈ vs, RowAt h' v (k v) := fun v hm => (hp v hm).keeps fun b o e c => keep b o (fun z => by subst z; exact ha o e c) e
  obtain ⟨fs, h1, h2, h3⟩ := row_firsts hp' fun v hm => by
    obtain ⟨x, r, _, _, e, _⟩ := hc v hm v hm
    exact ⟨x, r, e⟩
  refine ⟨tuples' true, fun Q E hq => ?_, rows_cmp (s := { s with heap := h' }) hu hp' hc⟩
  refine PySem.W.kat_kind (T := .type "str") h1 (by omega) (fun f hm => ?_) (by rfl) ?_
  · obtain ⟨x, t, rfl⟩ := h3 f hm
    exact PySem.W.Looks.now
  · have e : (Value.type "str" != Value.type "tuple") = true := by first | decide +kernel | rfl | decide
    rw [e]
    exact hq
end
end L2
namespace L2
open PySem PySem.Spec PyProof.Rows PySem.KX
/-- v is a tuple of these items -/
def IsRow (H : Hp) (v : V) (r : RowK) : Prop := ∃ t, v = .ref t ∧ H t = some (.tup (r.map kV))
theorem IsRow.same {H H' : Hp} {v : V} {r : RowK} (s : Same H H') (h : IsRow H v r) : IsRow H' v r := by
  obtain ⟨t, e, ht⟩ := h
  exact ⟨t, e, s _ _ ht⟩
theorem IsRow.uniq {H : Hp} {v : V} {r q : RowK} (h : IsRow H v r) (k : IsRow H v q) : r = q := by
  obtain ⟨t, rfl, h1⟩ := h
  obtain ⟨u, e, h2⟩ := k
  cases e
  rw [h1] at h2
  exact kVs_inj (HO.tup.inj (Option.some.inj h2))
abbrev RowsAt (H : Hp) : List V → List RowK → Prop := Paired (IsRow H)
theorem RowsAt.same {H H' : Hp} (s : Same H H') : ∀ {vs : List V} {rs : List RowK}, RowsAt H vs rs → RowsAt H' vs rs
  | _, _, .nil => .nil
  | _, _, .cons h t => .cons (h.same s) (RowsAt.same s t)
open Classical in
noncomputable def rowOf (H : Hp) (v : V) : RowK := if h : ∃ r, IsRow H v r then h.choose else []
theorem rowOf_is {H : Hp} {v : V} {r : RowK} (h : IsRow H v r) : rowOf H v = r := by
  unfold rowOf
  rw [dif_pos ⟨r, h⟩]
  exact (Exists.choose_spec (⟨r, h⟩ : ∃ r, IsRow H v r)).uniq h
theorem rowsOf {H : Hp} : ∀ {vs : List V} {rs : List RowK}, RowsAt H vs rs → vs.map (rowOf H) = rs
  | _, _, .nil => rfl
  | _, _, .cons h t => by rw [List.map_cons, rowOf_is h, rowsOf t]
theorem rows_mem {H : Hp} : ∀ {vs : List V} {rs : List RowK}, RowsAt H vs rs → ∀ v ∈ vs, ∃ r ∈ rs, IsRow H v r
  | _, _, .nil, v, h => absurd h List.not_mem_nil
  | _, _, .cons h t, v, hv => by
    rcases List.mem_cons.mp hv with rfl | z
    · exact ⟨_, List.mem_cons_self, h⟩
    · obtain ⟨r, h1, h2⟩ := rows_mem t v z
      exact ⟨r, List.mem_cons_of_mem _ h1, h2⟩
theorem rows_of {H : Hp} : ∀ {vs : List V}, (∀ v ∈ vs, ∃ r, IsRow H v r) → RowsAt H vs (vs.map (rowOf H))
  | [], _ => .nil
  | v :: r, h => by
    obtain ⟨q, hq⟩ := h v List.mem_cons_self
    exact .cons (by rw [rowOf_is hq]; exact hq) (rows_of fun u hu => h u (List.mem_cons_of_mem _ hu))
/-- the rows, sorted -/
def rowLe (a b : RowK) : Bool := !rowLt b a
def sortRows (rs : List RowK) : List RowK := rs.mergeSort rowLe
def tokK : Key → Int ⊕ List Nat
  | .inl i => .inl i
  | .inr x => .inr x.cps.toList
theorem toks_kD : ∀ k : Key, PySem.W.keyToks (kD k) = [tokK k]
  | .inl i => by simp [kD, PySem.W.keyToks, tokK]
  | .inr x => by simp [kD, PySem.W.keyToks, tokK]
theorem tokK_inj : ∀ {a b : Key}, tokK a = tokK b → a = b
  | .inl i, .inl j, h => by cases h; rfl
  | .inl i, .inr y, h => by cases h
  | .inr x, .inl j, h => by cases h
  | .inr x, .inr y, h => by rw [PySem.W.str_of_cps (Sum.inr.inj h)]
theorem kDs_toks : ∀ {a b : RowK}, PySem.W.keyToksAll (a.map kD) = PySem.W.keyToksAll (b.map kD) → a = b
  | [], [], _ => rfl
  | [], y :: q, h => by
    rw [List.map_cons, PySem.W.toks_all_cons] at h
    simp [PySem.W.keyToksAll] at h
  | x :: r, [], h => by
    rw [List.map_cons, PySem.W.toks_all_cons] at h
    simp [PySem.W.keyToksAll] at h
  | x :: r, y :: q, h => by
    rw [List.map_cons, List.map_cons, PySem.W.toks_all_cons, PySem.W.toks_all_cons, toks_kD, toks_kD] at h
    have h := (List.cons.inj h).2
    rw [List.singleton_append, List.singleton_append] at h
    obtain ⟨h1, h2⟩ := List.cons.inj h
    rw [tokK_inj h1, kDs_toks h2]
theorem rowLt_anti {a b : RowK} (h : rowLt a b = false) (k : rowLt b a = false) : a = b := by
  have e := PyProof.Rows.lex_total (O := itemOrd) _ _ h k
  refine kDs_toks ?_
  have e2 : PySem.W.keyToks (.tuple (a.map kD)) = PySem.W.keyToks (.tuple (b.map kD)) := e
  simpa only [PySem.W.keyToks] using e2
theorem rowLe_total (a b : RowK) : (rowLe a b || rowLe b a) = true := by
  unfold rowLe
  cases c : rowLt b a with
  | false => rfl
  | true =>
    have := (rowLt_swo (fun r : RowK => r)).asym _ _ c
    rw [this]
    rfl
theorem rowLe_trans (a b c : RowK) (h : rowLe a b = true) (k : rowLe b c = true) : rowLe a c = true := by
  unfold rowLe at *
  simp only [Bool.not_eq_true'] at *
  exact (rowLt_swo (fun r : RowK => r)).tr _ _ _ h k
theorem sortRows_perm (rs : List RowK) : (sortRows rs).Perm rs := List.mergeSort_perm _ _
theorem sortRows_sorted (rs : List RowK) : (sortRows rs).Pairwise fun a b => rowLe a b = true := List.pairwise_mergeSort (fun a b c => rowLe_trans a b c) rowLe_total rs
/-- there is just one such list -/
theorem sorted_uniq {as bs : List RowK} (h1 : as.Pairwise fun a b => rowLe a b = true) (h2 : bs.Pairwise fun a b => rowLe a b = true) (p : as.Perm bs) : as = bs :=
  p.eq_of_pairwise (fun a b _ _ h k => by
    unfold rowLe at h k
    simp only [Bool.not_eq_true'] at h k
    exact rowLt_anti k h) h1 h2
theorem sortRows_congr {as bs : List RowK} (p : as.Perm bs) : sortRows as = sortRows bs :=
  sorted_uniq (sortRows_sorted as) (sortRows_sorted bs) ((sortRows_perm as).trans (p.trans (sortRows_perm bs).symm))
/-- sorted(xs), xs a list of such tuples -/
def rSortRow (K : PySem.W.Frag) : List V → Hp → VK → Prop := fun vs H Q => ∃ (a : Addr) (xs : List V) (rs : List RowK), vs = [V.ref a] ∧ SqL K H a xs ∧ RowsAt H xs rs ∧ (∀ r ∈ rs, ∀ q ∈ rs, RowCmp r q) ∧
  ∀ ys p H', Same H H' → H p = none → H' p = some (.lst ys) → RowsAt H' ys (sortRows rs) → Q (.ref p) H'
section
variable {X : Cx}
theorem call_sortRow (hu : X.A.units + 64 < cLine) : CallR X (.builtin "sorted") (rSortRow X.K) := by
  intro pins s σ H vs us Q I r h
  obtain ⟨a, xs, rs, rfl, hs, hx, hc, q⟩ := h
  obtain ⟨its, rv, hl, hz⟩ := I.list hs
  rw [Vals.ref1 r]
  have hmem := rows_mem hx
  obtain ⟨e1, e2⟩ := refs_back rv fun x m => by
    obtain ⟨_, _, t, e, _⟩ := hmem x m
    exact ⟨t, e⟩
  have hk : ∀ v ∈ its, RowAt s.heap v (rowOf H (backV v)) ∧ rowOf H (backV v) ∈ rs := fun v hv => by
    obtain ⟨t, rfl⟩ := e2 v hv
    have hm : V.ref t ∈ xs := by rw [e1]; exact List.mem_map.mpr ⟨_, hv, rfl⟩
    obtain ⟨row, hrm, hr⟩ := hmem _ hm
    have er : rowOf H (backV (.ref t)) = row := rowOf_is hr
    rw [er]
    refine ⟨?_, hrm⟩
    obtain ⟨t', e, ht⟩ := hr
    cases e
    obtain ⟨_, its2, r2, o, ho, hcl, n, hd⟩ := I.hok _ _ ht
    refine ⟨t, o, its2.toArray, n, rfl, ho, hcl, hd, ?_⟩
    have go : ∀ {ks : RowK} {us : List Value}, Vals (ks.map kV) us → KVals ks us := fun {ks us} => by
      intro r2
      induction ks generalizing us with
      | nil => cases r2; exact .nil
      | cons k ks ih =>
        cases r2 with
        | cons h t => exact .cons h (ih t)
    exact go r2
  have hA : X.A.in1.in1.units < cLine := by
    show X.A.units + 1 + 1 < cLine
    omega
  refine SrtO.sorted_ord (rowLt_swo fun u => rowOf H (backV u)) hl.isList (by rw [← rv.length]; exact hz) (fun h2 h₁ a' ha kk => ?_) fun out h1 h2 => ?_
  · refine rows_sortableO (s := { s with heap := h₁ }) hA (by omega) (fun v hm => (hk v hm).1.keeps fun b o e _ => (kk b o e).2) (fun v hv u hu' => hc _ (hk v hv).2 _ (hk u hu').2) fun o e => ?_
    have e' : some o = some (seqObj "list" its.toArray 0) := e.symm.trans ha
    cases e'
    intro c
    exact absurd (Value.type.inj c) (by decide)
  · have h3 : ∀ u ∈ out, ∃ a, u = Value.ref a := fun u hu => e2 u (h2.perm.mem_iff.mp hu)
    obtain ⟨n, hn⟩ := sortedAll_at s.heap its out.toArray
    have hsub : ∀ u ∈ out, u ∈ its := fun u hu => h2.perm.mem_iff.mp hu
    have hrows : RowsAt H (out.map backV) ((out.map backV).map (rowOf H)) := rows_of fun v hv => by
      obtain ⟨u, hu, rfl⟩ := List.mem_map.mp hv
      obtain ⟨t, rfl⟩ := h3 u hu
      have hm : V.ref t ∈ xs := by rw [e1]; exact List.mem_map.mpr ⟨_, hsub _ hu, rfl⟩
      obtain ⟨row, _, hr⟩ := hmem _ hm
      exact ⟨row, hr⟩
    have hsrt : (out.map backV).map (rowOf H) = sortRows rs := by
      refine sorted_uniq ?_ (sortRows_sorted rs) ?_
      · rw [List.map_map, List.pairwise_map]
        exact h1.imp fun {a b} hab => by
          unfold rowLe
          show (!rowLt (rowOf H (backV b)) (rowOf H (backV a))) = true
          have hab' : rowLt (rowOf H (backV b)) (rowOf H (backV a)) = false := hab
          rw [hab']
          rfl
      · have p1 : ((out.map backV).map (rowOf H)).Perm ((its.map backV).map (rowOf H)) := (h2.perm.map backV).map (rowOf H)
        rw [← e1, rowsOf hx] at p1
        exact p1.trans (sortRows_perm rs).symm
    have hnf : H (s.heap.objs.size + 1) = none := I.hok.fresh (Nat.le_succ _)
    have hlen : (out.map backV).length ≤ sizeLine := by
      rw [List.length_map, h2.perm.length_eq, ← rv.length]
      exact hz
    rw [hsrt] at hrows
    have sm : Same H (upd H (s.heap.objs.size + 1) (.lst (out.map backV))) := (Same.refl _).new hnf
    exact ⟨.ref _, upd H (s.heap.objs.size + 1) (.lst (out.map backV)), I.laid (t' := s.toks) (fun _ _ => sortedAll_old) (Nat.le_succ _) ⟨hlen, out, n, vals_back h3, hn⟩, rfl, q _ _ _ sm hnf upd_same (hrows.same sm)⟩
end
end L2

set_option Elab.async false
set_option linter.all false
set_option maxRecDepth 100000
set_option maxHeartbeats 4000000
/-! Dicts whose keys are ints: in, not in, update, a display with one pair. -/
namespace L2
open PySem PySem.Spec PyProof.Rows PySem.KX
section
variable {X : Cx}
def rInDK : R2 := fun x y H Q => ∃ a kvs k, y = V.ref a ∧ x = kV k ∧ H a = some (.dK kvs) ∧ Q (.bl (valV kvs k).isSome) H
theorem op_in_dK (hu : X.A.units + 64 < cLine) : OpR X (compareOp .In) rInDK := by
  intro pins s σ H x y v u Q I rx ry h
  obtain ⟨a, kvs, k, rfl, rfl, ha, q⟩ := h
  obtain rfl : u = Value.ref a := ry
  exact d_in (by omega) I (.inl ⟨kvs, k, .inl ha, rfl, rfl⟩) rx fun s3 I3 => ⟨.bl _, H, I3, rfl, q⟩
def rNotInDK : R2 := fun x y H Q => ∃ a kvs k, y = V.ref a ∧ x = kV k ∧ H a = some (.dK kvs) ∧ Q (.bl (!(valV kvs k).isSome)) H
theorem op_notIn_dK (hu : X.A.units + 64 < cLine) : OpR X (compareOp .NotIn) rNotInDK := by
  intro pins s σ H x y v u Q I rx ry h
  obtain ⟨a, kvs, k, rfl, rfl, ha, q⟩ := h
  obtain rfl : u = Value.ref a := ry
  exact d_notIn (by omega) I (.inl ⟨kvs, k, .inl ha, rfl, rfl⟩) rx fun s3 I3 => ⟨.bl _, H, I3, rfl, q⟩
def rDUpd : V → List V → Hp → VK → Prop := fun x vs H Q => ∃ d o kvs more, x = .ref d ∧ vs = [.ref o] ∧ H d = some (.dK kvs) ∧ H o = some (.dK more) ∧ d ≠ o ∧ kvs.length + more.length ≤ 16000000 ∧ Q .non (upd H d (.dK (mergeK kvs more)))
theorem mt_dupdate : MtR X "dict.update" rDUpd := by
  intro pins s σ H x vs v us Q I rx rv h
  obtain ⟨d, o, kvs, more, rfl, rfl, hd, ho, hne, hl, q⟩ := h
  obtain rfl : v = Value.ref d := rx
  obtain ⟨u, rfl, ru⟩ := rv.one
  obtain rfl : u = Value.ref o := ru
  obtain ⟨z1, s1, vs1, rel1, dd1⟩ := dk_of I.hok hd
  obtain ⟨z2, s2, vs2, rel2, dd2⟩ := dk_of I.hok ho
  have l1 : kvs.length = vs1.length := Paired.length rel1
  have l2 : more.length = vs2.length := Paired.length rel2
  refine call_meetsIn PySem.F.slot_dict_update dd1.typeIs PySem.F.entry_dict_update (PySem.F.args_dict_update_2 _ _) (meets_dict_update (mixKind X.prog X.w) d o hne s2) ⟨vs1, vs2, dd1, dd2, by rw [← l1, ← l2, sizeLine_eq]; omega, fun h' dd' _ hs => ?_⟩
  have hz : (mergeK kvs more).length ≤ sizeLine := by
    have h1 := length_mergeK more kvs
    rw [sizeLine_eq]; omega
  have he : ∃ q, h'.get? d = some q := let ⟨q, _, _, hq, _⟩ := dd'; ⟨q, hq⟩
  exact ⟨.non, _, d_write I (t' := s.toks) (by rw [hd]; exact True.intro) hs he (dk_new hz s1 (rel2.merge rel1) dd'), rfl, q⟩
/-- {x: True} -/
theorem pe_dct1 {e1 e2 : Expr} {pos : Pos} {i : Nat} (h1 : PE X e1 (aVar i)) (h2 : PE X e2 (tC (.bl true))) : PE X (.Dict [some e1] [e2] pos) (fun σ H Q => ∃ k : Int, σ[i]? = some (some (.int k)) ∧ ∀ p H', Same H H' → H p = none → H' p = some (.dK [(.inl k, .bl true)]) → Q (.ref p) H') :=
  (pe_disp (pps_cons h1 h2 pps_nil) rfl rfl (by simp) (by simp)).imp fun σ H Q ⟨k, hk, q⟩ => fun p n => by
    have e : aVar i σ (upd H p (.dK [])) = fun Q => Q (.int k) (upd H p (.dK [])) := by
      funext Q
      unfold aVar
      rw [hk]
    show aVar i σ (upd H p (.dK [])) _
    rw [e]
    exact ⟨upd_same, [(.inl k, .bl true)], rfl, by simp, q p _ (by rw [upd_upd]; exact (Same.refl _).new n) n (by rw [upd_upd]; exact upd_same)⟩
end
/-! the keys of a dict -/
theorem valV_merge (j : Key) : ∀ (more kvs : List (Key × V)), (valV (mergeK kvs more) j).isSome = ((valV kvs j).isSome || (valV more j).isSome)
  | [], kvs => by show (valV kvs j).isSome = _; simp [valV_nil]
  | p :: r, kvs => by
    show (valV (mergeK (putK kvs p.1 p.2) r) j).isSome = _
    rw [valV_merge j r, valV_put]
    by_cases e : j = p.1
    · rw [if_pos e, valV_pos e.symm]
      simp
    · rw [if_neg e, valV_neg (fun z => e z.symm)]
end L2

set_option Elab.async false
set_option linter.all false
set_option maxRecDepth 100000
set_option maxHeartbeats 4000000
/-! enumerate over a tuple. -/
namespace EnT
open PySem PySem.Spec PyProof.Rows L2
theorem new_meets (t : Addr) (items : Array Value) :
    Meets (Builtin.«enumerate.__new__» ⟨[.type "enumerate", .ref t], []⟩) (fun _ R s => s.heap.IsTuple t items ∧
      R (.ok (.ret (.ref (s.heap.push { cls := .type "tuple_iterator", data := .fields #[.ref t, .int 0 0] }).objs.size))) { s with heap := (s.heap.push { cls := .type "tuple_iterator", data := .fields #[.ref t, .int 0 0] }).push { cls := .type "enumerate", data := .fields #[.none, .bool false, .ref s.heap.objs.size, rawInt 0, .none, .none] } }) :=
  .of_wp fun prog w A R s h => by
    obtain ⟨hp, g, d, tk, os⟩ := s
    obtain ⟨h1, h⟩ := h
    have hsub := sub_enumerate
    have go : ∀ {A' : Around} {E : Value → Shared → Prop} {Q : Value → Shared → Prop}, Q (.ref hp.objs.size) ⟨hp.push { cls := .type "tuple_iterator", data := .fields #[.ref t, .int 0 0] }, g, d, tk, os⟩ → wpAny (model prog w) A' (pyIter (.ref t)) Q E ⟨hp, g, d, tk, os⟩ :=
      fun q => (begins_tuple t items).iter prog w _ _ ⟨hp, g, d, tk, os⟩ _ h1 q
    wp_walk using go
    refine wpAny_stack_any fun st => wpAny_pure ?_
    split
    · rename_i c _ _ _ _ _
      cases (c == Value.type "enumerate") <;> (wp_walk using go; exact ⟨_, rfl, h⟩)
    · wp_walk using go
      exact ⟨_, rfl, h⟩
section
variable {prog : Program} {w : World} {A : Around} {E : Value → Shared → Prop} {s : Shared}
theorem call_new {t : Addr} {items : Array Value} {Q : Value → Shared → Prop} (hT : s.heap.IsTuple t items)
    (h : ∀ h', IsEnum h' (s.heap.objs.size + 1) s.heap.objs.size 0 .none → h'.IsTupleIter s.heap.objs.size t 0 → (∀ b o, s.heap.get? b = some o → h'.get? b = some o) → Q (.ref (s.heap.objs.size + 1)) { s with heap := h' }) :
    wpAny (model prog w) A (call (.type "enumerate") [.ref t]) Q E s := by
  refine callType_new F.called_enumerate (by decide) (F.typeCall_enumerate_1 _) (F.newCall_enumerate_1 _) (fun obj => F.args_object_init_2 obj _) F.entry_enumerate_new (new_meets t items) ⟨hT, ?_⟩
  have size1 : (s.heap.push { cls := .type "tuple_iterator", data := .fields #[.ref t, .int 0 0] }).objs.size = s.heap.objs.size + 1 := Heap.size_push ..
  have at1 := Heap.get?_push_size (s.heap.push { cls := .type "tuple_iterator", data := .fields #[.ref t, .int 0 0] }) (o := { cls := .type "enumerate", data := .fields #[.none, .bool false, .ref s.heap.objs.size, rawInt 0, .none, .none] }) rfl
  show _ ∧ _
  rw [size1] at at1 ⊢
  exact ⟨⟨_, at1, rfl⟩, h _ at1 ⟨_, Heap.get?_push_of_some _ (Heap.get?_push_size _ rfl), rfl, rfl⟩ fun b o x => Heap.get?_push_of_some _ (Heap.get?_push_of_some _ x)⟩
end
/-- the items of the tuple at a with their places, in new pairs -/
def ItT (K : PySem.W.Frag) (a : Addr) : It :=
  ⟨fun i H => ∃ (xs : List V) (x : V), SqT K H a xs ∧ xs[i]? = some x, fun i H v H' => ∃ T x, v = .ref T ∧ H T = none ∧ H' = upd H T (.tup [.int (i : Nat), x]) ∧ ∀ xs, SqT K H a xs → xs[i]? = some x, fun i H => ∃ xs : List V, SqT K H a xs ∧ xs.length = i⟩
theorem turn {P : Program} {w : World} {K : PySem.W.Frag} {elts : List Expr} {kk : Nat} {tpos : Pos} (a e it : Addr) :
    Turn P w K (.Tuple elts kk tpos) (ItT K a) [e, it] e (fun i h => (∃ old, IsEnum h e it ((i : Nat) : Int) old) ∧ h.IsTupleIter it a i ∧ e ≠ it) where
  mem := by simp
  obj := fun i h st b hb => by
    obtain ⟨⟨old, he⟩, ⟨o, ho, hc, hd⟩, _⟩ := st
    rcases (show b = e ∨ b = it by simpa using hb) with rfl | rfl
    · exact ⟨_, he, fun v q => nomatch q⟩
    · exact ⟨o, ho, fun v q => by rw [hd] at q; cases q⟩
  keep := fun i h h' st k => ⟨⟨st.1.choose, k e (by simp) _ st.1.choose_spec⟩, st.2.1.at fun o q => k it (by simp) o q, st.2.2⟩
  item := by
    intro X hP hw hK hc i pins s σ H E I hf st hg
    subst hP hw hK
    obtain ⟨⟨old, he⟩, hit, hne⟩ := st
    obtain ⟨xs, x, hq, hx⟩ := hg
    obtain ⟨its, rv, p, hz⟩ := I.tuple hq
    obtain ⟨u, hu, ru⟩ := rv.get hx
    have hel : e < s.heap.objs.size := Heap.lt_size he
    have hil : it < s.heap.objs.size := by obtain ⟨_, q, _⟩ := hit; exact Heap.lt_size q
    have ha1 : a ≠ it := fun z => by
      obtain ⟨o, h1, h2, _⟩ := id p
      obtain ⟨o', h1', h2', _⟩ := id hit
      rw [z, h1'] at h1
      cases h1
      rw [h2'] at h2
      exact absurd (Value.type.inj h2) (by decide)
    have ha2 : e ≠ a := fun z => by
      obtain ⟨o, h1, h2, _⟩ := id p
      have h1' := he
      unfold IsEnum at h1'
      rw [z, h1] at h1'
      cases h1'
      exact absurd (Value.type.inj h2) (by decide)
    have hlt : i < its.toArray.size := by
      rw [List.size_toArray]
      exact (List.getElem?_eq_some_iff.mp hu).1
    refine wpAny_pyNext_enum_itemD (Draws.tuple (A := X.A.in1) (I.ok.hd hc) it a ha1 its.toArray) he ⟨hit, p⟩ hlt hne (by simp [hne, ha2]) fun y h' tk hy ho st' hT hsz hk => ?_
    have ey : y = u := by
      have h2 : its.toArray[i]? = some u := by simpa using hu
      exact Option.some.inj (hy.symm.trans h2)
    subst ey
    refine ⟨_, rfl, wpAny_letOwnedTupleGo_enum (s := { s with heap := h', toks := tk + 1 }) ho fun h'' he' sb => ?_⟩
    have hT2 : h''.get? s.heap.objs.size = some { cls := .type "tuple", data := .seq #[.int i tk, y] } := (sb.2 _ (Nat.ne_of_gt hel)).trans hT
    have new : ObjOk X.prog X.w (upd H s.heap.objs.size (.tup [.int (i : Nat), x])) h'' s.heap.objs.size (.tup [.int (i : Nat), x]) :=
      ⟨by show 2 ≤ sizeLine; decide, [.int i tk, y], .cons ⟨_, rfl⟩ (.cons ru .nil), ⟨_, hT2, rfl, _, rfl⟩⟩
    have I1 : Inv X pins σ (upd H s.heap.objs.size (.tup [.int (i : Nat), x])) { s with heap := h'', toks := tk + 1 } :=
      I.turnedNew (ch := [e, it]) (fun b ob hb q => (sb.2 b (fun z => hb (by simp [z]))).trans (hk b ob (fun z => hb (by simp [z])) (fun z => hb (by simp [z])) q)) hf (Nat.le_refl _) new
    refine ⟨.ref s.heap.objs.size, _, I1, rfl, ⟨_, x, rfl, I.hok.fresh (Nat.le_refl _), rfl, fun ys hy2 => ?_⟩, ⟨⟨y, ?_⟩, st'.1.at fun o q => (sb.2 it (Ne.symm hne)).trans q, hne⟩, fun b hb => ?_⟩
    · rw [I.tuple_inj hy2 hq]
      exact hx
    · rw [show ((i + 1 : Nat) : Int) = (i : Int) + 1 by omega]
      exact he'
    · have hb' : b < s.heap.objs.size := by
        rcases (show b = e ∨ b = it by simpa using hb) with rfl | rfl
        · exact hel
        · exact hil
      rw [upd_ne (Nat.ne_of_lt hb')]
      exact (hf b hb).1
  done := by
    intro X hP hw hK hc i pins s σ H E I hf st hg
    subst hP hw hK
    obtain ⟨⟨old, he⟩, hit, hne⟩ := st
    obtain ⟨xs, hq, hx⟩ := hg
    obtain ⟨its, rv, p, hz⟩ := I.tuple hq
    obtain ⟨f0, f1, f2, f3, f4, f5⟩ := hf it (by simp)
    have hl := rv.length
    have ha1 : a ≠ it := fun z => by
      obtain ⟨o, h1, h2, _⟩ := id p
      obtain ⟨o', h1', h2', _⟩ := id hit
      rw [z, h1'] at h1
      cases h1
      rw [h2'] at h2
      exact absurd (Value.type.inj h2) (by decide)
    have ei : its.toArray.size = i := by
      rw [List.size_toArray]
      omega
    exact wpAny_pyNext_enum_endD (Draws.tuple (A := X.A.in1) (I.ok.hd hc) it a ha1 its.toArray) he ⟨by rw [ei]; exact hit, p⟩ fun h' eb => ⟨rfl, I.turned (t' := s.toks) (fun b o hb q => eb b o hb q) f0 f1 f3 f4 f5⟩
  self := fun A i s Q E st h => wpAny_pyIter_enum st.1.choose_spec h
def iEnumT (K : PySem.W.Frag) (ta : TA) : TI := fun σ H R => ta σ H fun vs H1 => ∃ a xs, vs = [.ref a] ∧ SqT K H1 a xs ∧ R (ItT K a) H1
theorem pi_enumT {X : Cx} {e : Expr} {ta : TA} {p pos tpos : Pos} {elts : List Expr} {kk : Nat} (hg : Gl X "enumerate") (hm : X.mg "enumerate" = none) (ha : PA X [e] ta) (hs : starEach [e] X.env = [(false, eval e X.env)] := by rfl) :
    PI X (.Tuple elts kk tpos) (.Call (.Name "enumerate" p) [e] [] pos) (iEnumT X.K ta) := by
  refine ⟨fun pins s σ H R I h => ?_⟩
  refine Call_ (ld_blt I hg hm boot_enumerate (PyProof.Rows.callWith_type1 (thn (ha.run pos pins s σ H _ I h) fun us s1 ⟨vs, H1, I1, r1, a, xs, ex, hq, q⟩ => ?_) hs rfl))
  subst ex
  obtain ⟨u, rfl, ru⟩ := r1.one
  cases ru
  obtain ⟨its, rv, p', hz⟩ := I1.tuple hq
  refine call_new p' fun h' he hit hk => wpAny_pyIter_enum he ?_
  have I2 : Inv X pins σ H1 { s1 with heap := h' } := I1.kept (t' := s1.toks) hk
  refine ⟨s1.heap.objs.size + 1, [s1.heap.objs.size + 1, s1.heap.objs.size], _, _, H1, rfl, I2, turn a (s1.heap.objs.size + 1) s1.heap.objs.size, ⟨⟨.none, he⟩, hit, Nat.succ_ne_self _⟩, fun b hb => ?_, q⟩
  have le : s1.heap.objs.size ≤ b := by
    rcases (show b = s1.heap.objs.size + 1 ∨ b = s1.heap.objs.size by simpa using hb) with rfl | rfl <;> omega
  exact I1.fpOk le (I1.hok.fresh le)
theorem walk {K : PySem.W.Frag} {a : Addr} {xs : List V} : Walk (ItT K a) xs.length (fun H => SqT K H a xs) (YPair (fun i => some (.int (i : Nat))) (fun i => xs[i]?)) := by
  constructor
  · intro i H hi h
    exact ⟨xs, xs[i], h, by simp [hi]⟩
  · intro H h
    exact ⟨xs, h, rfl⟩
  · rintro i H x H' hi h ⟨T, y, e1, e2, e3, k⟩
    exact ⟨T, .int (i : Nat), y, e1, e2, e3, rfl, k xs h⟩
end EnT

set_option Elab.async false
set_option linter.all false
set_option maxRecDepth 100000
set_option maxHeartbeats 4000000
/-! a, b = a list. -/
namespace L2
open PySem PySem.Spec PyProof.Rows PySem.KX
/-- (a, b, ..) = a list of that length -/
def gUnp (K : PySem.W.Frag) (n : Nat) (t : TGs) : TG := fun v σ H Q => ∃ a xs, v = .ref a ∧ SqL K H a xs ∧ xs.length = n ∧ t xs σ H Q
theorem pg_unp {X : Cx} {pos : Pos} {es : List Expr} {k : Nat} {t : TGs} {n : Nat} (hc : X.calm = true) (h : PGs X es t)
    (hn : (assignEach es X.env).length = n := by rfl) (hst : (assignEach es X.env).findIdx? (·.1) = none := by rfl) : PG X (.Tuple es k pos) (gUnp X.K n t) := by
  refine ⟨fun pins s σ H v u Q I r hw => ?_⟩
  obtain ⟨a, xs, e1, hq, hl, hw⟩ := hw
  subst e1
  cases r
  obtain ⟨its, rv, ht, hz⟩ := I.list hq
  have hsz : its.toArray.size = n := by simp [← hl, rv.length]
  rw [assign_Tuple]
  refine wpAny_bind (wpAny_standAt ?_)
  unfold unpack
  rw [hn, hst, ← hsz]
  refine wpAny_bind (wpAny_holding (PySem.W.kun_itemsOf (I.ok.hd hc) ht.isList fun h' hx => ?_))
  have I1 : Inv X pins σ H { s with heap := h' } := I.kept (t' := s.toks) fun b o e => hx b o (Nat.ne_of_lt (Heap.lt_size e)) e
  exact h.run pins _ σ H xs _ Q I1 (by simpa using rv) hw
end L2

set_option Elab.async false
set_option linter.all false
set_option maxRecDepth 100000
set_option maxHeartbeats 4000000
/-! Rows that ascend: the mathematics. -/
namespace L2
open PySem PySem.Spec PyProof.Rows PySem.KX
theorem asc_eq {α : Type} {R : α → α → Prop} (irr : ∀ a, ¬ R a a) (tr : ∀ a b c, R a b → R b c → R a c) : ∀ {as bs : List α}, as.Pairwise R → bs.Pairwise R → (∀ k, k ∈ as ↔ k ∈ bs) → as = bs
  | [], [], _, _, _ => rfl
  | [], b :: bs, _, _, h => absurd ((h b).mpr List.mem_cons_self) (by simp)
  | a :: as, [], _, _, h => absurd ((h a).mp List.mem_cons_self) (by simp)
  | a :: as, b :: bs, h1, h2, h => by
    obtain ⟨a1, a2⟩ := List.pairwise_cons.mp h1
    obtain ⟨b1, b2⟩ := List.pairwise_cons.mp h2
    have e : a = b := by
      rcases List.mem_cons.mp ((h a).mp List.mem_cons_self) with z | z
      · exact z
      · rcases List.mem_cons.mp ((h b).mpr List.mem_cons_self) with y | y
        · exact y.symm
        · exact absurd (tr _ _ _ (b1 a z) (a1 b y)) (irr _)
    subst e
    congr 1
    refine asc_eq irr tr a2 b2 fun k => ⟨fun hk => ?_, fun hk => ?_⟩
    · rcases List.mem_cons.mp ((h k).mp (List.mem_cons_of_mem _ hk)) with z | z
      · exact absurd (z ▸ a1 k hk) (irr _)
      · exact z
    · rcases List.mem_cons.mp ((h k).mpr (List.mem_cons_of_mem _ hk)) with z | z
      · exact absurd (z ▸ b1 k hk) (irr _)
      · exact z
theorem ascD_cons {d e : PyData} {r : List PyData} : ascD (d :: e :: r) = (ltD d e && ascD (e :: r)) := rfl
theorem asc_pair {α : Type} {R : α → α → Prop} {f : α → PyData} (h : ∀ a b, ltD (f a) (f b) = true ↔ R a b) (tr : ∀ a b c, R a b → R b c → R a c) : ∀ l : List α, ascD (l.map f) = true ↔ l.Pairwise R
  | [] => by simp [ascD]
  | [a] => by simp [ascD]
  | a :: b :: r => by
    have ih := asc_pair h tr (b :: r)
    rw [List.map_cons, List.map_cons, ascD_cons, Bool.and_eq_true, h, ← List.map_cons, ih]
    constructor
    · rintro ⟨h1, h2⟩
      refine List.pairwise_cons.mpr ⟨fun x hx => ?_, h2⟩
      rcases List.mem_cons.mp hx with z | z
      · rw [z]; exact h1
      · exact tr _ _ _ h1 ((List.pairwise_cons.mp h2).1 x z)
    · intro h1
      obtain ⟨h2, h3⟩ := List.pairwise_cons.mp h1
      exact ⟨h2 b List.mem_cons_self, h3⟩
abbrev ltT (x y : Str) : Prop := x.cps.toList < y.cps.toList
theorem ltT_irr (x : Str) : ¬ ltT x x := List.lt_irrefl _
theorem ltT_tr (x y z : Str) (h : ltT x y) (k : ltT y z) : ltT x z := List.lt_trans h k
theorem asc_ints (ns : List Int) : ascD (ns.map PyData.int) = true ↔ ns.Pairwise (· < ·) := asc_pair (f := PyData.int) (fun a b => by show decide (a < b) = true ↔ a < b; simp) (fun a b c h k => by omega) ns
theorem asc_strs (xs : List Str) : ascD (xs.map PyData.str) = true ↔ xs.Pairwise ltT := asc_pair (f := PyData.str) (fun a b => by show decide (ltT a b) = true ↔ ltT a b; simp) ltT_tr xs
theorem eqvAll_map {α : Type} {f : α → PyData} (inj : ∀ a b, PyData.eqv (f a) (f b) = true ↔ a = b) : ∀ xs ys : List α, PyData.eqvAll (xs.map f) (ys.map f) = true ↔ xs = ys
  | [], [] => by simp [PyData.eqvAll]
  | [], y :: ys => by simp [PyData.eqvAll]
  | x :: xs, [] => by simp [PyData.eqvAll]
  | x :: xs, y :: ys => by
    simp only [List.map_cons, PyData.eqvAll, Bool.and_eq_true, inj, eqvAll_map inj xs ys, List.cons.injEq]
theorem eqv_ints {ns ms : List Int} : PyData.eqv (.list (ns.map .int)) (.list (ms.map .int)) = true ↔ ns = ms := by
  show PyData.eqvAll _ _ = true ↔ _
  exact eqvAll_map (fun a b => by show (a == b) = true ↔ a = b; simp) ns ms
theorem eqv_strs {ns ms : List Str} : PyData.eqv (.list (ns.map .str)) (.list (ms.map .str)) = true ↔ ns = ms := by
  show PyData.eqvAll _ _ = true ↔ _
  exact eqvAll_map (fun a b => by show (a == b) = true ↔ a = b; simp) ns ms
/-- equal to its own ascending row exactly if it ascends -/
theorem eqv_tidy {ns ms : List Int} (t : Tidy ns ms) : PyData.eqv (.list (ns.map .int)) (.list (ms.map .int)) = ascD (ns.map .int) := by
  refine Bool.eq_iff_iff.mpr ?_
  rw [eqv_ints, asc_ints]
  constructor
  · intro h
    rw [h]
    exact t.asc
  · intro h
    exact tidy_eq h t.asc fun k => (t.mem k).symm
theorem ltT_tri {x y : Str} (h : ¬ ltT y x) (n : x ≠ y) : ltT x y := by
  have h1 : x.cps.toList ≤ y.cps.toList := h
  rcases List.le_iff_lt_or_eq.mp h1 with z | z
  · exact z
  · exfalso
    apply n
    cases x
    cases y
    simp at z
    rw [z]
theorem rising_le : ∀ (p : Str) (ys : List Str), risingS p ys = true → ∀ y ∈ ys, ¬ ltT y p
  | p, [], _, y, hy => nomatch hy
  | p, x :: r, h, y, hy => by
    have h' : (!ltCps x.cps.toList p.cps.toList && risingS x r) = true := h
    rw [Bool.and_eq_true, ltCps_eq] at h'
    have hx : ¬ ltT x p := by
      have := h'.1
      simpa using this
    rcases List.mem_cons.mp hy with z | z
    · rw [z]; exact hx
    · have := rising_le x r h'.2 y z
      intro c
      by_cases e : x = y
      · exact hx (e ▸ c)
      · exact hx (ltT_tr _ _ _ (ltT_tri this e) c)
theorem sorted_pair : ∀ ys : List Str, sortedS ys = true → ys.Nodup → ys.Pairwise ltT
  | [], _, _ => List.Pairwise.nil
  | y :: r, h, nd => by
    obtain ⟨n1, n2⟩ := List.nodup_cons.mp nd
    have hr : sortedS r = true := by
      cases r with
      | nil => rfl
      | cons z t =>
        have h' : (!ltCps z.cps.toList y.cps.toList && risingS z t) = true := h
        rw [Bool.and_eq_true] at h'
        exact h'.2
    exact List.pairwise_cons.mpr ⟨fun z hz => ltT_tri (rising_le y r h z hz) fun e => n1 (e ▸ hz), sorted_pair r hr n2⟩
theorem eqv_sorted {xs ys : List Str} (h1 : sortedS ys = true) (h2 : ys.Nodup) (h3 : ∀ k, k ∈ ys ↔ k ∈ xs) : PyData.eqv (.list (xs.map .str)) (.list (ys.map .str)) = ascD (xs.map .str) := by
  refine Bool.eq_iff_iff.mpr ?_
  rw [eqv_strs, asc_strs]
  constructor
  · intro h
    rw [h]
    exact sorted_pair ys h1 h2
  · intro h
    exact asc_eq ltT_irr ltT_tr h (sorted_pair ys h1 h2) fun k => (h3 k).symm
/-- rows of at most 60, all the way down -/
def sm60 : PyData → Bool
  | .list xs => decide (xs.length ≤ 60) && sm60All xs
  | .tuple xs => decide (xs.length ≤ 60) && sm60All xs
  | _ => true
where sm60All : List PyData → Bool
  | [] => true
  | x :: xs => sm60 x && sm60All xs
theorem sm60_tup {ds : List PyData} (h : sm60 (.tuple ds) = true) : ds.length ≤ 60 ∧ ∀ d ∈ ds, sm60 d = true := by
  have h' : (decide (ds.length ≤ 60) && sm60.sm60All ds) = true := by simpa [sm60] using h
  rw [Bool.and_eq_true, decide_eq_true_eq] at h'
  refine ⟨h'.1, ?_⟩
  have := h'.2
  clear h h'
  induction ds with
  | nil => intro d hd; exact nomatch hd
  | cons x r ih =>
    have h2 : (sm60 x && sm60.sm60All r) = true := by simpa [sm60.sm60All] using this
    rw [Bool.and_eq_true] at h2
    intro d hd
    rcases List.mem_cons.mp hd with z | z
    · rw [z]; exact h2.1
    · exact ih h2.2 d z
end L2

set_option Elab.async false
set_option linter.all false
set_option maxRecDepth 100000
set_option maxHeartbeats 4000000
/-! tuple(x), list(x), told by what is new. -/
namespace L2
open PySem PySem.Spec PyProof.Rows PySem.KX
section
variable {X : Cx}
/-- tuple(l), l a list -/
def rTupLS (K : PySem.W.Frag) : List V → Hp → VK → Prop := fun vs H Q => ∃ (l : Addr) (ys : List V), vs = [.ref l] ∧ SqL K H l ys ∧ ∀ p H', Same H H' → H p = none → H' p = some (.tup ys) → Q (.ref p) H'
theorem call_tupLS : CallR X (.type "tuple") (rTupLS X.K) := call_tupleA.imp fun xs H Q ⟨l, ys, e, h1, k⟩ => by
  subst e
  exact .inl ⟨ys, h1, fun p n => k p _ ((Same.refl _).new n) n upd_same⟩
/-- list(x), x a list or a tuple -/
def rLstS (K : PySem.W.Frag) : List V → Hp → VK → Prop := fun vs H Q => ∃ (l : Addr) (ys : List V), vs = [.ref l] ∧ (SqL K H l ys ∨ SqT K H l ys) ∧ ∀ p H', Same H H' → H p = none → H' p = some (.lst ys) → Q (.ref p) H'
theorem call_lstS : CallR X (.type "list") (rLstS X.K) := call_listA.imp fun xs H Q ⟨l, ys, e, h1, k⟩ => by
  subst e
  exact ⟨ys, h1, fun p n => k p _ ((Same.refl _).new n) n upd_same⟩
end
end L2

set_option Elab.async false
set_option linter.all false
set_option maxRecDepth 100000
set_option maxHeartbeats 4000000
/-! bools among ints, str(x), bool(x); x[::-1] of texts and tuples; upper of plain letters. -/
namespace L2
open PySem PySem.Spec PyProof.Rows PySem.KX
section
variable {X : Cx}
/-- an int or a bool as a number -/
def numV : V → Option Int
  | .int i => some i
  | .bl b => some (if b = true then 1 else 0)
  | _ => none
/-- x + i -/
def rAddB : R2 := fun x y H Q => ∃ a j : Int, numV x = some a ∧ y = .int j ∧ Q (.int (a + j)) H
theorem op_addB : OpR X (binaryOp .Add) rAddB := by
  intro pins s σ H x y v u Q I rx ry h
  obtain ⟨a, j, e, rfl, q⟩ := h
  obtain ⟨t2, rfl⟩ := ry
  cases x with
  | int i =>
    cases e
    exact op_add pins s σ H _ _ v _ Q I rx (show RelV (.int j) (.int j t2) from ⟨t2, rfl⟩) ⟨_, _, rfl, rfl, q⟩
  | bl b =>
    cases e
    cases rx
    exact IntBool.add_bool_int ⟨.int _, H, I.tok _, ⟨_, rfl⟩, q⟩
  | _ => cases e
/-- x - i -/
def rSubB : R2 := fun x y H Q => ∃ a j : Int, numV x = some a ∧ y = .int j ∧ Q (.int (a - j)) H
theorem op_subB : OpR X (binaryOp .Sub) rSubB := by
  intro pins s σ H x y v u Q I rx ry h
  obtain ⟨a, j, e, rfl, q⟩ := h
  obtain ⟨t2, rfl⟩ := ry
  cases x with
  | int i =>
    cases e
    exact op_sub pins s σ H _ _ v _ Q I rx (show RelV (.int j) (.int j t2) from ⟨t2, rfl⟩) ⟨_, _, rfl, rfl, q⟩
  | bl b =>
    cases e
    cases rx
    exact IntBool.sub_bool_int ⟨.int _, H, I.tok _, ⟨_, rfl⟩, q⟩
  | _ => cases e
/-- i - x -/
def rSubR : R2 := fun x y H Q => ∃ a j : Int, x = .int j ∧ numV y = some a ∧ Q (.int (j - a)) H
theorem op_subR : OpR X (binaryOp .Sub) rSubR := by
  intro pins s σ H x y v u Q I rx ry h
  obtain ⟨a, j, rfl, e, q⟩ := h
  cases y with
  | int i =>
    cases e
    exact op_sub pins s σ H _ _ v u Q I rx ry ⟨_, _, rfl, rfl, q⟩
  | bl b =>
    cases e
    cases ry
    obtain ⟨t2, rfl⟩ := rx
    exact IntBool.sub_int_bool ⟨.int _, H, I.tok _, ⟨_, rfl⟩, q⟩
  | _ => cases e
/-- bool(x), x an int or a bool -/
def rBoolN : List V → Hp → VK → Prop := fun xs H Q => ∃ (x : V) (a : Int), xs = [x] ∧ numV x = some a ∧ ∀ b : Bool, Q (.bl b) H
theorem call_boolN : CallR X (.type "bool") rBoolN := call_bool1.imp fun xs H Q ⟨x, a, e, h, k⟩ => by
  subst e
  cases x with
  | int i => exact .inl ⟨i, rfl, k _⟩
  | bl b => exact .inr ⟨b, rfl, k _⟩
  | _ => cases h
/-- z[::-1]: the same signs -/
def tRevS (te : TE) : TE := fun σ H Q => te σ H fun x H1 => ∃ z, x = .str z ∧ z.length ≤ sizeLine ∧ ∀ y : Str, y.length = z.length → (∀ c ∈ y.cps.toList, c ∈ z.cps.toList) → Q (.str y) H1
theorem rev_signs (z : Str) : ((Builtin.Str.strSliceIndices none none (-1) z.length).filterMap (z.cps[·]?)) = (List.range z.length).map fun k => z.cps.getD (z.length - 1 - k) 0 := by
  rw [picked_rev, filterMap_get, List.map_map]
  · rfl
  · intro i hi
    obtain ⟨k, hk, rfl⟩ := List.mem_map.mp hi
    have hk' : k < z.length := List.mem_range.mp hk
    show z.length - 1 - k < z.length
    omega
theorem pe_revS {e : Expr} {te : TE} {k : Nat} {p1 p2 p3 pos : Pos} (he : PE X e te) : PE X (.Subscript e (.Slice none none (some (.UnaryOp .USub (.Constant (.int 1) k p1) p2)) p3) pos) (tRevS te) := by
  refine ⟨fun pins s σ H Q I h => ?_⟩
  refine Subscript_ (thn (he.run pins s σ H _ I h) fun v s1 ⟨x, H1, I1, r1, q1⟩ => ?_)
  obtain ⟨z, ex, hx, q⟩ := q1
  subst ex
  obtain ⟨t, rfl⟩ := r1
  have hst : PO X (some (.UnaryOp .USub (.Constant (.int 1) k p1) p2)) (tPart (tUn (rU fun i => .int (-i)) (tC (.int 1)))) := po_some (pe_un un_neg pe_int)
  refine wpAny_Slice (thn (po_none.run pins s1 σ H1 (fun o H2 => o = none ∧ H2 = H1) I1 ⟨rfl, rfl⟩) fun vl s2 ⟨l, H2, I2, pl, el, e2⟩ => ?_)
  subst el e2
  refine thn (po_none.run pins s2 σ H2 (fun o H3 => o = none ∧ H3 = H2) I2 ⟨rfl, rfl⟩) fun vu s3 ⟨u, H3, I3, pu, eu, e3⟩ => ?_
  subst eu e3
  refine thn (hst.run pins s3 σ H3 (fun o H4 => o = some (-1) ∧ H4 = H3) I3 ⟨1, rfl, -1, rfl, rfl, rfl⟩) fun vs s4 ⟨o, H4, I4, ps, eo, e4⟩ => ?_
  subst eo e4
  have I5 : Inv X pins σ H4 { s4 with heap := s4.heap.push { cls := .type "slice", data := .fields #[vl, vu, vs] } } := I4.kept (t' := s4.toks) fun b ob q => Heap.get?_push_of_some _ q
  show wpAny (model X.prog X.w) X.A (subscriptTail e (.Slice none none (some (.UnaryOp .USub (.Constant (.int 1) k p1) p2)) p3) (.str z t) (.ref s4.heap.objs.size)) (EP X pins σ Q) X.xe { s4 with heap := s4.heap.push { cls := .type "slice", data := .fields #[vl, vu, vs] } }
  cases pl
  cases pu
  cases ps with
  | int i tk =>
    refine tail_any (ops := [.str z t, .ref s4.heap.objs.size]) (typeIs_str _ _ _) (F.slot_str_getitem.lookup) ?_ (by with_unfolding_all rfl)
    refine wpAny_getItem_str_slice (l := none) (u := none) (st := some (-1, tk)) ⟨_, Heap.get?_push_size _ rfl, rfl, rfl⟩ rfl ?_
    show Made.post (if ((-1 : Int) == 1 && (Builtin.Str.strSliceIndices none none (-1) z.length).length == z.length) = true then Made.val (.str z t)
      else Made.str ⟨((Builtin.Str.strSliceIndices none none (-1) z.length).filterMap (z.cps[·]?)).toArray⟩) (EP X pins σ Q) _
    rw [if_neg (by simp), rev_signs]
    have hl : (⟨((List.range z.length).map fun k => z.cps.getD (z.length - 1 - k) 0).toArray⟩ : Str).length = z.length := by
      show Array.size _ = _
      simp
    refine ⟨by rw [hl]; exact hx, .str _, H4, I5.tok _, ⟨_, rfl⟩, q _ hl fun c hc => ?_⟩
    have hc' : c ∈ (List.range z.length).map fun k => z.cps.getD (z.length - 1 - k) 0 := by simpa using hc
    obtain ⟨k, hk, rfl⟩ := List.mem_map.mp hc'
    have hk' := List.mem_range.mp hk
    have hlt : z.length - 1 - k < z.cps.size := by show z.length - 1 - k < z.length; omega
    rw [Array.mem_toList_iff]
    simp [Array.getD, hlt]
/-- t[::-1] -/
theorem back_pick (xs : Array Value) : ((List.range xs.size).filterMap fun (m : Nat) => xs[(((xs.size : Int) - 1) + (m : Int) * (-1)).toNat]?) = xs.toList.reverse := by
  have key : ∀ k, k ≤ xs.size → ((List.range k).filterMap fun (m : Nat) => xs[(((xs.size : Int) - 1) + (m : Int) * (-1)).toNat]?) = xs.toList.reverse.take k := by
    intro k
    induction k with
    | zero => intro _; rfl
    | succ k ih =>
      intro hk
      rw [List.range_succ, List.filterMap_append, ih (by omega), List.take_add_one]
      congr 1
      have e : (((xs.size : Int) - 1) + (k : Int) * (-1)).toNat = xs.size - 1 - k := by omega
      rw [List.filterMap_cons, e, List.filterMap_nil]
      have h1 : xs.size - 1 - k < xs.size := by omega
      have h2 : xs.toList.reverse[k]? = some xs[xs.size - 1 - k] := by
        rw [List.getElem?_reverse (by simp; omega)]
        simp
      rw [h2, Array.getElem?_eq_getElem h1]
      rfl
  rw [key xs.size (Nat.le_refl _), List.take_of_length_le (by simp)]
theorem getItem_tuple_back {prog : Program} {w : World} {A : Around} {E : Value → Shared → Prop} {s : Shared} {t sl : Addr} {items : Array Value} {i : Tok} {Q : Value → Shared → Prop} (ht : IsTup s.heap t items) (hs : s.heap.IsSliceOf sl .none .none (.int (-1) i))
    (h : Q (.ref s.heap.objs.size) { s with heap := s.heap.push { cls := .type "tuple", data := .seq items.toList.reverse.toArray } })
    (hsz : items.size ≤ sizeLine) : wpAny (model prog w) A (getItem (.ref t) (.ref sl)) Q E s := by
  have htake : sizeOk (.seq items.toList.reverse.toArray) := by
    show items.toList.reverse.toArray.size ≤ sizeLine
    simpa using hsz
  obtain ⟨os, hos, hcs, hds⟩ := id hs
  have hTs : s.TypeIs (.ref sl) "slice" := ⟨os, hos, hcs⟩
  unfold getItem
  try with_reducible refine wpAny_holding ?_
  first | refine wpAny_bind (wpAny_pure ?_) | skip
  refine wpAny_bind (wpAny_sequenceKey ht.typeIs (by decide) ?_)
  refine wpAny_bind (wpAny_callSpecial?_slot (name := Str.ofString "__getitem__") ht.typeIs PyProof.Rows.slot_tuple_getitem
    (wpAny_call_entry PyProof.Rows.slot_tuple_getitem ht.typeIs entry_tuple_getitem ?_ (args_tuple_getitem _ _)))
  show wpAny _ _ (Builtin.Tuple.tupleItemsOf (.ref t) >>= _) _ _ s
  refine wpAny_bind (tupleItemsOf_ ht ?_)
  refine wpAny_bind (wpAny_typeOf hTs ?_)
  rw [if_pos (by decide)]
  have app : ∀ {Q' : Int × Int × Nat → Shared → Prop}, Q' ((items.size : Int) - 1, -1, items.size) s → wpAny (model prog w) A.in1 (Builtin.Slice.sliceApplied (.ref sl) (pure (items.size : Int))) Q' E s := fun {Q'} q => by
    unfold Builtin.Slice.sliceApplied Builtin.Slice.sliceFields
    refine wpAny_bind (wpAny_bind (wpAny_field hos hds (x := .none) rfl (wpAny_bind (wpAny_field hos hds (x := .none) rfl (wpAny_bind (wpAny_field hos hds (x := .int (-1) i) rfl (wpAny_pure ?_)))))))
    refine wpAny_bind (slicePart_int ?_)
    show wpAny _ _ (if ((-1 : Int) == 0) = true then _ else _) _ _ s
    rw [if_neg (by decide)]
    refine wpAny_bind (slicePart_none (wpAny_bind (slicePart_none (wpAny_bind (wpAny_pure ?_)))))
    have e1 : Builtin.Slice.sliceAdjust none none (-1) (items.size : Int) = ((items.size : Int) - 1, -1) := by
      unfold Builtin.Slice.sliceAdjust
      rfl
    have e2 : Builtin.Slice.slicePlaces ((items.size : Int) - 1) (-1) (-1) = items.size := by
      unfold Builtin.Slice.slicePlaces
      simp
      try omega
    show wpAny _ _ (match Builtin.Slice.sliceAdjust none none (-1) (items.size : Int) with | (lo, hi) => pure (lo, (-1 : Int), Builtin.Slice.slicePlaces lo hi (-1))) _ _ s
    rw [e1]
    show wpAny _ _ (pure ((items.size : Int) - 1, (-1 : Int), Builtin.Slice.slicePlaces ((items.size : Int) - 1) (-1) (-1))) _ _ s
    rw [e2]
    exact wpAny_pure q
  refine wpAny_bind (app ?_)
  show wpAny _ _ (if ((((items.size : Int) - 1) == 0 && (-1 : Int) == 1 && items.size == items.size)) = true then _ else _) _ _ s
  rw [if_neg (by simp), back_pick]
  first
    | exact wpAny_bind (m := Builtin.Tuple.tupleExact _) (wpAny_newObj_type (wpAny_pure ⟨_, rfl, wpAny_pure h⟩) htake)
    | exact wpAny_bind (m := Builtin.Tuple.tupleExact _) (wpAny_newObj_type (wpAny_bind (wpAny_pure (wpAny_pure ⟨_, rfl, wpAny_pure h⟩))) htake)
    | exact wpAny_bind (wpAny_bind (m := Builtin.Tuple.tupleExact _) (wpAny_newObj_type (wpAny_pure (wpAny_pure ⟨_, rfl, wpAny_pure h⟩)) htake))
    | exact wpAny_bind (wpAny_bind (m := Builtin.Tuple.tupleExact _) (wpAny_newObj_type (wpAny_pure ⟨_, rfl, wpAny_pure h⟩) htake))
def tRevT (K : PySem.W.Frag) (te : TE) : TE := fun σ H Q => te σ H fun x H1 => ∃ a xs, x = .ref a ∧ SqT K H1 a xs ∧ ∀ p H', Same H1 H' → H1 p = none → H' p = some (.tup xs.reverse) → Q (.ref p) H'
theorem pe_revT {e : Expr} {te : TE} {k : Nat} {p1 p2 p3 pos : Pos} (he : PE X e te) : PE X (.Subscript e (.Slice none none (some (.UnaryOp .USub (.Constant (.int 1) k p1) p2)) p3) pos) (tRevT X.K te) := by
  refine ⟨fun pins s σ H Q I h => ?_⟩
  refine Subscript_ (thn (he.run pins s σ H _ I h) fun v s1 ⟨x, H1, I1, r1, q1⟩ => ?_)
  obtain ⟨a, xs, ex, hx, q⟩ := q1
  subst ex
  cases r1
  have hst : PO X (some (.UnaryOp .USub (.Constant (.int 1) k p1) p2)) (tPart (tUn (rU fun i => .int (-i)) (tC (.int 1)))) := po_some (pe_un un_neg pe_int)
  refine wpAny_Slice (thn (po_none.run pins s1 σ H1 (fun o H2 => o = none ∧ H2 = H1) I1 ⟨rfl, rfl⟩) fun vl s2 ⟨l, H2, I2, pl, el, e2⟩ => ?_)
  subst el e2
  refine thn (po_none.run pins s2 σ H2 (fun o H3 => o = none ∧ H3 = H2) I2 ⟨rfl, rfl⟩) fun vu s3 ⟨u, H3, I3, pu, eu, e3⟩ => ?_
  subst eu e3
  refine thn (hst.run pins s3 σ H3 (fun o H4 => o = some (-1) ∧ H4 = H3) I3 ⟨1, rfl, -1, rfl, rfl, rfl⟩) fun vs s4 ⟨o, H4, I4, ps, eo, e4⟩ => ?_
  subst eo e4
  have I5 : Inv X pins σ H4 { s4 with heap := s4.heap.push { cls := .type "slice", data := .fields #[vl, vu, vs] } } := I4.kept (t' := s4.toks) fun b ob q => Heap.get?_push_of_some _ q
  obtain ⟨its, r, ht, hz⟩ := I5.tuple hx
  have hlen := r.length
  show wpAny (model X.prog X.w) X.A (subscriptTail e (.Slice none none (some (.UnaryOp .USub (.Constant (.int 1) k p1) p2)) p3) (.ref a) (.ref s4.heap.objs.size)) (EP X pins σ Q) X.xe { s4 with heap := s4.heap.push { cls := .type "slice", data := .fields #[vl, vu, vs] } }
  cases pl
  cases pu
  cases ps with
  | int i tk =>
    refine tail_any (ops := [.ref a, .ref s4.heap.objs.size]) ht.typeIs (PyProof.Rows.slot_tuple_getitem.lookup) ?_ (by with_unfolding_all rfl)
    refine getItem_tuple_back ht (Heap.IsSliceOf.new _ _ _ _) ?_ (by rw [List.size_toArray]; omega)
    have hf := I5.hok.fresh (Nat.le_refl _)
    refine ⟨.ref _, _, I5.laid (t' := s4.toks) (o := .tup xs.reverse) (fun b ob q => Heap.get?_push_of_some _ q) (Nat.le_refl _) ?_, rfl, q _ _ ((Same.refl _).new hf) hf upd_same⟩
    exact ⟨by rw [List.length_reverse]; exact hz, _, r.reverse, IsTup.new _ _⟩
/-- str(x), x an int or a bool -/
def rStrN : List V → Hp → VK → Prop := fun xs H Q => ∃ (x : V) (a : Int), xs = [x] ∧ numV x = some a ∧ a.natAbs.log2 < 1920 ∧ (∀ i : Int, x = .int i → Q (.str (toString i)) H) ∧ (∀ b : Bool, x = .bl b → Q (.str (if b = true then "True" else "False")) H)
theorem call_strN : CallR X (.type "str") rStrN := by
  intro pins s σ H xs us Q I r h
  obtain ⟨x, a, rfl, e, hl, k1, k2⟩ := h
  cases x with
  | int i =>
    cases e
    exact call_str_int pins s σ H _ us Q I r ⟨_, rfl, hl, k1 _ rfl⟩
  | bl b =>
    obtain ⟨u, rfl, ru⟩ := vals1 r
    cases ru
    exact PySem.P.str_of_bool ⟨.str _, H, I.tok _, ⟨_, rfl⟩, k2 b rfl⟩
  | _ => cases e
/-- upper of plain signs: as many plain signs -/
def rUpA : V → List V → Hp → VK → Prop := fun x xs H Q => ∃ a : Str, x = .str a ∧ xs = [] ∧ a.length ≤ 100000 ∧ (∀ c ∈ a.cps.toList, c < 128) ∧ ∀ y : Str, y.length = a.length → (∀ c ∈ y.cps.toList, c < 128) → Q (.str y) H
theorem mt_upA : MtR X "str.upper" rUpA := by
  intro pins s σ H x xs v us Q I rx rs h
  obtain ⟨a, e1, e2, hl, ha, q⟩ := h
  refine mt_upper pins s σ H x xs v us Q I rx rs ⟨a, e1, e2, by omega, ?_⟩
  rw [upper_ascii ha]
  refine q _ ?_ fun c hc => ?_
  · show Array.size _ = Array.size _
    simp
  · have hc' : c ∈ a.cps.toList.map up1 := by simpa using hc
    obtain ⟨c0, h0, rfl⟩ := List.mem_map.mp hc'
    have := ha c0 h0
    unfold up1
    split <;> omega
end
end L2

set_option Elab.async false
set_option linter.all false
set_option maxRecDepth 100000
set_option maxHeartbeats 4000000
/-! Data of moderate size, bent. -/
namespace L2
open PySem PySem.Spec PyProof.Rows PySem.KX
section
variable {X : Cx}
/-- list(t), a new list not at the place of sys.modules -/
def rLstN (K : PySem.W.Frag) : List V → Hp → VK → Prop := fun vs H Q => ∃ (t : Addr) (ys : List V), vs = [.ref t] ∧ SqT K H t ys ∧ ∀ p H', (p == sysModules) = false → Same H H' → H p = none → H' p = some (.lst ys) → Q (.ref p) H'
theorem call_lstN : CallR X (.type "list") (rLstN X.K) := by
  intro pins s σ H xs us Q I r h
  obtain ⟨p, ys, rfl, hq, q⟩ := h
  obtain ⟨u, rfl, rx⟩ := vals1 r
  cases rx
  obtain ⟨its, r', pl, hz⟩ := I.tuple hq
  have hlen := r'.length
  obtain ⟨o, ho, hc, n, hd⟩ := pl
  have hf : H s.heap.objs.size = none := I.hok.fresh (Nat.le_refl _)
  refine call_list_seq p (.inr rfl) ho hc hd (fun h' c' kp e => ?_) (by simp only [List.size_toArray] <;> omega)
  have nb : (s.heap.objs.size == sysModules) = false := beq_eq_false_iff_ne.mpr (Nat.ne_of_gt I.big)
  have ob : ObjOk X.prog X.w (upd H s.heap.objs.size (.lst ys)) h' s.heap.objs.size (.lst ys) := ⟨hz, its, c', r', e⟩
  exact ⟨.ref s.heap.objs.size, _, I.laid (t' := s.toks) kp (Nat.le_refl _) ob, rfl, q _ _ nb ((Same.refl _).new hf) hf upd_same⟩
end
/-- a tuple is not the list at p -/
theorem sqT_hide {K : PySem.W.Frag} {H : Hp} {p r : Addr} {xs ys : List V} (h : SqT K H r ys) (hp : H p = some (.lst xs)) : SqT K (hide [p] H) r ys := by
  rcases h with (h | ⟨o, h⟩) | h
  · refine .inl (.inl ?_)
    rw [hide_in (fun z => by rw [List.mem_singleton.mp z, hp] at h; cases h)]
    exact h
  · refine .inl (.inr ⟨o, ?_⟩)
    rw [hide_in (fun z => by rw [List.mem_singleton.mp z, hp] at h; cases h)]
    exact h
  · exact .inr h
section
variable {K : PySem.W.Frag} {H : Hp}
theorem DnAll.length : ∀ {vs : List V} {ds : List PyData}, DnAll K H vs ds → vs.length = ds.length
  | _, _, .nil => rfl
  | _, _, .cons _ t => by simp [DnAll.length t]
theorem DnAll.get : ∀ {vs : List V} {ds : List PyData} {i : Nat} {v : V}, DnAll K H vs ds → vs[i]? = some v → ∃ d, ds[i]? = some d ∧ Dn K H v d
  | _, _, i, v, .nil, e => by simp at e
  | _, _, 0, v, .cons h _, e => by
    simp at e
    subst e
    exact ⟨_, rfl, h⟩
  | _, _, i + 1, v, .cons _ t, e => by
    obtain ⟨d, h1, h2⟩ := DnAll.get (i := i) (v := v) t (by simpa using e)
    exact ⟨d, by simpa using h1, h2⟩
theorem DnAll.append : ∀ {vs us : List V} {ds es : List PyData}, DnAll K H vs ds → DnAll K H us es → DnAll K H (vs ++ us) (ds ++ es)
  | _, _, _, _, .nil, h => h
  | _, _, _, _, .cons h t, k => .cons h (DnAll.append t k)
theorem DnAll.take : ∀ {vs : List V} {ds : List PyData} (n : Nat), DnAll K H vs ds → DnAll K H (vs.take n) (ds.take n)
  | _, _, 0, _ => by simpa using DnAll.nil
  | _, _, n + 1, .nil => by simpa using DnAll.nil
  | _, _, n + 1, .cons h t => .cons h (DnAll.take n t)
theorem DnAll.drop : ∀ {vs : List V} {ds : List PyData} (n : Nat), DnAll K H vs ds → DnAll K H (vs.drop n) (ds.drop n)
  | _, _, 0, h => by simpa using h
  | _, _, n + 1, .nil => by simpa using DnAll.nil
  | _, _, n + 1, .cons _ t => DnAll.drop n t
theorem DnAll.reverse : ∀ {vs : List V} {ds : List PyData}, DnAll K H vs ds → DnAll K H vs.reverse ds.reverse
  | _, _, .nil => .nil
  | _, _, .cons h t => by
    rw [List.reverse_cons, List.reverse_cons]
    exact DnAll.append (DnAll.reverse t) (.cons h .nil)
end
theorem cutV_to (xs : List V) (k : Nat) : cutV xs none (some (k : Int)) = xs.take k := by
  unfold cutV
  rw [HT.sIx_none, HT.sIx_nat, List.drop_zero, Nat.sub_zero]
  exact List.take_eq_take_iff.mpr (by omega)
theorem cutV_from (xs : List V) (k : Nat) : cutV xs (some (k : Int)) none = xs.drop k := by
  unfold cutV
  rw [HT.sIx_none, HT.sIx_nat, List.take_of_length_le (by simp)]
  by_cases h : k ≤ xs.length
  · rw [Nat.min_eq_left h]
  · rw [Nat.min_eq_right (by omega), List.drop_length, List.drop_of_length_le (by omega)]
theorem cutV_init (xs : List V) : cutV xs none (some (-1)) = xs.take (xs.length - 1) := by
  unfold cutV
  have e : HT.sIx xs.length xs.length (some (-1)) = xs.length - 1 := by
    unfold HT.sIx
    dsimp only
    rw [if_pos (show (-1 : Int) < 0 by decide)]
    omega
  rw [HT.sIx_none, e, List.drop_zero, Nat.sub_zero]
/-- 10 ** 30 -/
def bigN : Nat := 10 ^ 30
mutual
/-- moderate after k bends -/
def okB (k : Nat) : PyData → Bool
  | .none => true
  | .bool _ => true
  | .int i => decide (i.natAbs ≤ (k + 1) * bigN)
  | .str x => decide (x.length ≤ 40 * (k + 1)) && x.cps.toList.all fun c => decide (c < 128)
  | .list xs => decide (xs.length ≤ 50 + k) && okBAll k xs
  | .tuple xs => decide (xs.length ≤ 50 + k) && okBAll k xs
  | .dict [] => true
  | .dict _ => false
def okBAll (k : Nat) : List PyData → Bool
  | [] => true
  | x :: xs => okB k x && okBAll k xs
end
theorem okBAll_iff {k : Nat} : ∀ {ds : List PyData}, okBAll k ds = true ↔ ∀ d ∈ ds, okB k d = true
  | [] => by simp [okBAll]
  | x :: r => by simp [okBAll, okBAll_iff (ds := r)]
mutual
theorem okB_up {k : Nat} : ∀ d : PyData, okB k d = true → okB (k + 1) d = true
  | .none, _ => by simp [okB]
  | .bool _, _ => by simp [okB]
  | .int i, h => by
    simp only [okB, decide_eq_true_eq] at h ⊢
    exact Nat.le_trans h (Nat.mul_le_mul_right _ (by omega))
  | .str x, h => by
    simp only [okB, Bool.and_eq_true, decide_eq_true_eq] at h ⊢
    exact ⟨by omega, h.2⟩
  | .list xs, h => by
    simp only [okB, Bool.and_eq_true, decide_eq_true_eq] at h ⊢
    exact ⟨by omega, okBAll_up xs h.2⟩
  | .tuple xs, h => by
    simp only [okB, Bool.and_eq_true, decide_eq_true_eq] at h ⊢
    exact ⟨by omega, okBAll_up xs h.2⟩
  | .dict [], _ => by simp [okB]
  | .dict (_ :: _), h => by simp [okB] at h
theorem okBAll_up {k : Nat} : ∀ ds : List PyData, okBAll k ds = true → okBAll (k + 1) ds = true
  | [], _ => by simp [okBAll]
  | x :: r, h => by
    simp only [okBAll, Bool.and_eq_true] at h ⊢
    exact ⟨okB_up x h.1, okBAll_up r h.2⟩
end
structure Md (k W D : Nat) (d : PyData) : Prop where
  ok : okB k d = true
  wt : d.weight ≤ W
  dp : d.depth ≤ D
theorem weight_app : ∀ as bs : List PyData, PyData.weightAll (as ++ bs) = PyData.weightAll as + PyData.weightAll bs
  | [], bs => by simp [PyData.weightAll]
  | a :: as, bs => by
    simp only [List.cons_append, PyData.weightAll, weight_app as bs]
    omega
theorem weight_cut (n : Nat) (as : List PyData) : PyData.weightAll (as.take n) + PyData.weightAll (as.drop n) = PyData.weightAll as := by
  rw [← weight_app, List.take_append_drop]
theorem weight_rev : ∀ as : List PyData, PyData.weightAll as.reverse = PyData.weightAll as
  | [] => rfl
  | a :: as => by
    rw [List.reverse_cons, weight_app, weight_rev as]
    simp only [PyData.weightAll]
    omega
theorem weight_mem {d : PyData} : ∀ {ds : List PyData}, d ∈ ds → d.weight + 1 ≤ PyData.weightAll ds
  | x :: r, h => by
    simp only [PyData.weightAll]
    rcases List.mem_cons.mp h with z | z
    · subst z
      omega
    · have := weight_mem z
      omega
theorem depth_le {M : Nat} : ∀ {ds : List PyData}, (∀ d ∈ ds, d.depth ≤ M) → PyData.depthAll ds ≤ M
  | [], _ => by simp [PyData.depthAll]
  | x :: r, h => by
    have h1 := h x List.mem_cons_self
    have h2 := depth_le fun d hd => h d (List.mem_cons_of_mem x hd)
    simp only [PyData.depthAll]
    omega
theorem depth_mem_le {d : PyData} : ∀ {ds : List PyData}, d ∈ ds → d.depth ≤ PyData.depthAll ds
  | x :: r, h => by
    simp only [PyData.depthAll]
    rcases List.mem_cons.mp h with z | z
    · subst z
      omega
    · have := depth_mem_le z
      omega
/-- a tuple of parts -/
theorem Md.tup {k W D : Nat} {ds : List PyData} (h1 : ds.length ≤ 50 + k) (h2 : ∀ d ∈ ds, okB k d = true) (h3 : PyData.weightAll ds ≤ W) (h4 : ∀ d ∈ ds, d.depth + 1 ≤ D) (h5 : 1 ≤ D) : Md k W D (.tuple ds) := by
  refine ⟨?_, h3, ?_⟩
  · simp only [okB, Bool.and_eq_true, decide_eq_true_eq]
    exact ⟨h1, okBAll_iff.mpr h2⟩
  · have := depth_le (M := D - 1) (ds := ds) fun d hd => by have := h4 d hd; omega
    simp only [PyData.depth]
    omega
theorem Md.lst {k W D : Nat} {ds : List PyData} (h1 : ds.length ≤ 50 + k) (h2 : ∀ d ∈ ds, okB k d = true) (h3 : PyData.weightAll ds ≤ W) (h4 : ∀ d ∈ ds, d.depth + 1 ≤ D) (h5 : 1 ≤ D) : Md k W D (.list ds) := by
  obtain ⟨a, b, c⟩ := Md.tup h1 h2 h3 h4 h5
  exact ⟨by simpa only [okB] using a, b, by simpa only [PyData.depth] using c⟩
theorem Md.parts {k W D : Nat} {ds : List PyData} (h : Md k W D (.tuple ds)) : ds.length ≤ 50 + k ∧ (∀ d ∈ ds, okB k d = true) ∧ PyData.weightAll ds ≤ W ∧ (∀ d ∈ ds, d.depth + 1 ≤ D) ∧ 1 ≤ D := by
  obtain ⟨a, b, c⟩ := h
  simp only [okB, Bool.and_eq_true, decide_eq_true_eq] at a
  simp only [PyData.depth] at c
  exact ⟨a.1, okBAll_iff.mp a.2, b, fun d hd => by have := depth_mem_le hd; omega, by omega⟩
theorem Md.mono {k W W' D D' : Nat} {d : PyData} (h : Md k W D d) (h1 : W ≤ W') (h2 : D ≤ D') : Md k W' D' d := ⟨h.ok, Nat.le_trans h.wt h1, Nat.le_trans h.dp h2⟩
theorem Md.up {k W D : Nat} {d : PyData} (h : Md k W D d) : Md (k + 1) W D d := ⟨okB_up _ h.ok, h.wt, h.dp⟩
mutual
theorem okB_sm {k : Nat} (hk : k ≤ 8) : ∀ d : PyData, okB k d = true → smQ d = true ∧ sm60 d = true ∧ d.showable = true ∧ PyData.leavesShort 64 d = true
  | .none, _ => by simp [smQ, sm60, PyData.showable, PyData.leavesShort]
  | .bool _, _ => by simp [smQ, sm60, PyData.showable, PyData.leavesShort]
  | .int i, h => by
    simp only [okB, decide_eq_true_eq] at h
    have h2 : i.natAbs < 10 ^ 31 := Nat.lt_of_le_of_lt (Nat.le_trans h (Nat.mul_le_mul_right bigN (show k + 1 ≤ 9 by omega))) (by decide +kernel)
    refine ⟨by simp [smQ], by simp [sm60], ?_, ?_⟩
    · simp only [PyData.showable, decide_eq_true_eq]
      have : i.natAbs < 2 ^ 1920 := Nat.lt_of_lt_of_le h2 (by decide +kernel)
      by_cases h0 : i.natAbs = 0
      · rw [h0]; decide +kernel
      · exact (Nat.log2_lt h0).mpr this
    · simp only [PyData.leavesShort, decide_eq_true_eq]
      have e := int_text_length_le10 (k := 31) (by decide) h2
      show (Str.ofString (toString i)).length ≤ 64
      rw [PySem.ofString_length]
      omega
  | .str x, h => by
    simp only [okB, Bool.and_eq_true, decide_eq_true_eq] at h
    refine ⟨by simp only [smQ, decide_eq_true_eq]; omega, by simp [sm60], by simp [PyData.showable], ?_⟩
    simp only [PyData.leavesShort]
    refine List.all_eq_true.mpr fun c hc => ?_
    have := of_decide_eq_true (List.all_eq_true.mp h.2 c hc)
    exact decide_eq_true (by omega)
  | .list xs, h => by
    simp only [okB, Bool.and_eq_true, decide_eq_true_eq] at h
    obtain ⟨a, b, c, d⟩ := okBAll_sm hk xs h.2
    refine ⟨by simp only [smQ, a, Bool.and_true, decide_eq_true_eq]; omega, by simp only [sm60, b, Bool.and_true, decide_eq_true_eq]; omega, by simpa only [PyData.showable] using c, by simpa only [PyData.leavesShort] using d⟩
  | .tuple xs, h => by
    simp only [okB, Bool.and_eq_true, decide_eq_true_eq] at h
    obtain ⟨a, b, c, d⟩ := okBAll_sm hk xs h.2
    refine ⟨by simp only [smQ, a, Bool.and_true, decide_eq_true_eq]; omega, by simp only [sm60, b, Bool.and_true, decide_eq_true_eq]; omega, by simpa only [PyData.showable] using c, by simpa only [PyData.leavesShort] using d⟩
  | .dict [], _ => by simp [smQ, sm60, PyData.showable, PyData.leavesShort, PyData.showableKv, PyData.leavesShortKv]
  | .dict (_ :: _), h => by simp [okB] at h
theorem okBAll_sm {k : Nat} (hk : k ≤ 8) : ∀ ds : List PyData, okBAll k ds = true → smQAll ds = true ∧ sm60.sm60All ds = true ∧ PyData.showableAll ds = true ∧ PyData.leavesShortAll 64 ds = true
  | [], _ => by simp [smQAll, sm60.sm60All, PyData.showableAll, PyData.leavesShortAll]
  | x :: r, h => by
    simp only [okBAll, Bool.and_eq_true] at h
    obtain ⟨a, b, c, d⟩ := okB_sm hk x h.1
    obtain ⟨a', b', c', d'⟩ := okBAll_sm hk r h.2
    simp only [smQAll, sm60.sm60All, PyData.showableAll, PyData.leavesShortAll, a, b, c, d, a', b', c', d', Bool.and_self, and_self]
end
theorem Md.shown {k W D : Nat} {d : PyData} (h : Md k W D d) (hk : k ≤ 8) (hW : W ≤ 200000) : d.shown.length ≤ sizeLine := by
  have h1 := PyData.shown_le 64 (by decide) d (okB_sm hk d h.ok).2.2.2
  have := h.wt
  rw [sizeLine_eq]
  omega
end L2

set_option Elab.async false
set_option linter.all false
set_option maxRecDepth 100000
set_option maxHeartbeats 4000000
namespace K11
open PySem L2 PySem.KX
def top (i : Nat) : Stmt := PySem.Challenge.pw_caseflow_k11_siphons_and_traps_judged.main.body.getD i (.Pass ⟨0, 0, 0, 0⟩)
abbrev sis_integer : Stmt := top 8
theorem scis_integer : FnScope ["value"] ["value"] (defScope sis_integer) := ⟨rfl, rfl, rfl, by decide +kernel, rfl, by decide +kernel, by decide +kernel⟩
abbrev sis_integer_within : Stmt := top 9
theorem scis_integer_within : FnScope ["value", "least", "most"] ["value", "least", "most"] (defScope sis_integer_within) := ⟨rfl, rfl, rfl, by decide +kernel, rfl, by decide +kernel, by decide +kernel⟩
abbrev sis_name : Stmt := top 10
theorem scis_name : FnScope ["value", "letter"] ["value"] (defScope sis_name) := ⟨rfl, rfl, rfl, by decide +kernel, rfl, by decide +kernel, by decide +kernel⟩
abbrev sascends : Stmt := top 11
theorem scascends : FnScope ["values", "one", "other"] ["values"] (defScope sascends) := ⟨rfl, rfl, rfl, by decide +kernel, rfl, by decide +kernel, by decide +kernel⟩
structure TxtA (mg : Str → Option Value) : Prop where
  isinstance : mg "isinstance" = none
  int : mg "int" = none
  bool : mg "bool" = none
  str : mg "str" = none
  tuple : mg "tuple" = none
  len : mg "len" = none
  all : mg "all" = none
  zip : mg "zip" = none
  g_MAX_LETTERS : ∃ t, mg "MAX_LETTERS" = some (.int 8 t)
  g_MAX_PLACES : ∃ t, mg "MAX_PLACES" = some (.int 30 t)
  g_MAX_STEPS : ∃ t, mg "MAX_STEPS" = some (.int 40 t)
section
variable {P : Program} {w : World} {K : PySem.W.Frag} {mg : Str → Option Value} {base : Heap}
/-- a test of data that makes nothing -/
def spT (K : PySem.W.Frag) (p : PyData → Bool) : Sp := fun vs H Q _ => ∃ (v : V) (d : PyData), vs = [v] ∧ Wd K H v d ∧ Q (.bl (p d)) H
/-- a test of data that may make something -/
def spN (K : PySem.W.Frag) (p : PyData → Bool) : Sp := fun vs H Q _ => ∃ (v : V) (d : PyData), vs = [v] ∧ Wd K H v d ∧ ∀ H', Same H H' → Q (.bl (p d)) H'
def spWithin (K : PySem.W.Frag) : Sp := fun vs H Q _ => ∃ (v : V) (d : PyData) (lo hi : Int), vs = [v, .int lo, .int hi] ∧ Wd K H v d ∧ Q (.bl (intIn lo hi d)) H
theorem ok_is_integer {f : Addr} {fd : FuncData} (F : Fun K "is_integer" "is_integer" sis_integer f fd) (T : TxtA mg) : FnG P w K mg base CX0 1 f fd ["value"] (spT K isIntD) := by
  have nd := scis_integer.nd
  refine okG F scis_integer (fun vs H Q E h => ?_) (fun cdv A outer s H vs Q E hr h => ?_)
  · obtain ⟨_, _, rfl, _⟩ := h
    rfl
  · obtain ⟨v, d, rfl, hd, k⟩ := h
    refine ⟨_, (pss_one (ps_ret (pe_and (pe_callB call_isiA (by rfl) T.isinstance (by decide +kernel) (pa_cons (av 0) (pa_cons (pe_bltn (v := .ty "int") (u := .type "int") rfl T.int (by decide +kernel) rfl) pa_nil))) (pe_one (pe_not (pe_callB call_isiA (by rfl) T.isinstance (by decide +kernel) (pa_cons (av 0) (pa_cons (pe_bltn (v := .ty "bool") (u := .type "bool") rfl T.bool (by decide +kernel) rfl) pa_nil)))))))), ?_⟩
    refine ⟨_, _, _, _, _, rfl, .ty _, hd.dq.ty, kit_ty (kit_int d), _, rfl, ?_⟩
    cases d with
    | int i => exact ⟨_, _, _, _, _, rfl, .ty _, hd.dq.ty, kit_ty (kit_bool (.int i)), _, rfl, k⟩
    | bool b => exact ⟨_, _, _, _, _, rfl, .ty _, hd.dq.ty, kit_ty (kit_bool (.bool b)), _, rfl, k⟩
    | none => exact k
    | str x => exact k
    | list ds => exact k
    | tuple ds => exact k
    | dict kv => exact k
theorem ok_is_integer_within {f : Addr} {fd : FuncData} (F : Fun K "is_integer_within" "is_integer_within" sis_integer_within f fd) (Ois_integer : Own P w K mg base CX0 "is_integer" 1 ["value"] (spT K isIntD)) : FnG P w K mg base CX0 2 f fd ["value", "least", "most"] (spWithin K) := by
  have nd := scis_integer_within.nd
  refine okG F scis_integer_within (fun vs H Q E h => ?_) (fun cdv A outer s H vs Q E hr h => ?_)
  · obtain ⟨_, _, _, _, rfl, _⟩ := h
    rfl
  · obtain ⟨v, d, lo, hi, rfl, hd, k⟩ := h
    refine ⟨_, (pss_one (ps_ret (pe_and (pe_own Ois_integer hr (pa_cons (av 0) pa_nil) (by decide)) (pe_one (pe_chain op_leA op_leA (av 1) (av 0) (av 2)))))), ?_⟩
    refine ⟨v, d, rfl, hd, _, rfl, ?_⟩
    cases hd.dq with
    | int i =>
      refine ⟨_, rfl, ?_⟩
      have e : intIn lo hi (.int i) = (decide (lo ≤ i) && decide (i ≤ hi)) := rfl
      rw [e] at k
      refine ite2 (fun c => ?_) (fun c => ?_)
      · have c' : decide (lo ≤ i) = true := c
        rw [c'] at k
        exact k
      · have c' : decide (lo ≤ i) = false := Bool.eq_false_iff.mpr c
        rw [c'] at k
        exact k
    | non => exact k
    | bl b => exact k
    | str x => exact k
    | lst h1 h2 => exact k
    | tup h1 h2 => exact k
    | emp h1 => exact k
end
end K11

set_option Elab.async false
set_option linter.all false
set_option maxRecDepth 100000
set_option maxHeartbeats 4000000
namespace K11
open PySem L2 PySem.KX
def CmpD (ds : List PyData) : Prop := (∀ (i : Nat) (d : PyData), ds[i]? = some d → isIntD d = true) ∨ ∀ (i : Nat) (d : PyData), ds[i]? = some d → isStrB d = true
section
variable {P : Program} {w : World} {K : PySem.W.Frag} {mg : Str → Option Value} {base : Heap}
theorem ok_is_name {f : Addr} {fd : FuncData} (F : Fun K "is_name" "is_name" sis_name f fd) (T : TxtA mg) : FnG P w K mg base CX0 1 f fd ["value"] (spN K isNameD) := by
  have nd := scis_name.nd
  refine okG F scis_name (fun vs H Q E h => ?_) (fun cdv A outer s H vs Q E hr h => ?_)
  · obtain ⟨_, _, rfl, _⟩ := h
    rfl
  · obtain ⟨v, d, rfl, hd, k⟩ := h
    refine ⟨_, (pss_cons (ps_if (PW.pt (pw_or (pt_not (pt_valA (pe_callB call_isiA (by rfl) T.isinstance (by decide +kernel) (pa_cons (av 0) (pa_cons (pe_bltn (v := .ty "str") (u := .type "str") rfl T.str (by decide +kernel) rfl) pa_nil))))) (pw_or1 (pt_not (pt_chain op_leA op_leA pe_int (pe_callB call_lenA (by rfl) T.len PySem.boot_len (pa_cons (av 0) pa_nil)) (pe_gint T.g_MAX_LETTERS)))))) (pss_one (ps_ret pe_bl)) pss_nil)
      (pss_one (ps_ret (pe_callB (cr_all rfl) (by rfl) T.all (by decide +kernel) (pa_cons (pe_lc (own := [("letter", 1)]) (by rfl) nd (pi_str (av 0)) (blkOk_by (N := ["value", "letter"]) (sc := defScope sis_name) (by decide +kernel)) (fun _ _ _ _ _ => (pg_name (i := 1) nd rfl (Or.inl rfl))) (fun _ _ _ _ _ => pts_nil) (fun _ _ _ _ _ => PE.up (pe_chain op_le_str op_le_str pe_str (av 1) pe_str))) pa_nil))))), ?_⟩
    refine ⟨_, _, _, _, _, rfl, .ty _, hd.dq.ty, kit_ty (kit_str d), ?_⟩
    have no : isStrB d = false → isNameD d = false := fun e => by
      cases d <;> first | rfl | cases e
    cases hb : isStrB d with
    | false =>
      rw [no hb] at k
      refine (iteT (k _ (Same.refl _)) : if true = true then _ else _)
    | true =>
      refine iteF ?_
      cases hd.dq with
      | str x =>
        have hs : x.length ≤ 100000 := of_decide_eq_true hd.sm
        refine ⟨small_size (by omega), _, rfl, ?_⟩
        have e : isNameD (.str x) = ((decide (1 ≤ x.length) && decide (x.length ≤ 8)) && x.cps.toList.all lowC) := rfl
        rw [e] at k
        refine ite2 (fun c1 => ?_) (fun c1 => ?_)
        · have d1 : decide (1 ≤ x.length) = true := decide_eq_true (by have := of_decide_eq_true c1; omega)
          rw [d1] at k
          refine ⟨_, rfl, ?_⟩
          cases d2 : decide (x.length ≤ 8) with
          | false =>
            rw [d2] at k
            have c2 : decide ((x.length : Int) ≤ 8) = false := decide_eq_false (by have := of_decide_eq_false d2; omega)
            show (if (!decide ((x.length : Int) ≤ 8)) = true then _ else _)
            rw [c2]
            exact iteT (k _ (Same.refl _))
          | true =>
            rw [d2] at k
            have c2 : decide ((x.length : Int) ≤ 8) = true := decide_eq_true (by have := of_decide_eq_true d2; omega)
            show (if (!decide ((x.length : Int) ≤ 8)) = true then _ else _)
            rw [c2]
            refine iteF ⟨x, rfl, fun D hD => ?_⟩
            refine lc_itS walk_str (fun j u _ => ∃ c, x.cps[j]? = some c ∧ u = .bl (lowC c)) (fun _ _ _ _ _ h => h) hD (by have : x.cps.size = x.length := rfl; omega) (fun _ _ => True.intro) (fun j y H' H2 hj s5 hD5 ⟨e2, c, hc, ey⟩ => ?_) gName_mono (fun H' acc s6 hl la hacc => ?_)
            · subst e2
              subst ey
              refine ⟨rfl, _, _, rfl, rfl, _, rfl, ?_⟩
              have e3 : lowC c = (decide (97 ≤ c) && decide (c ≤ 122)) := rfl
              refine ite2 (fun c3 => ?_) (fun c3 => ?_)
              · have c3' : (!decide ((⟨#[c]⟩ : Str).cps.toList < ("a" : Str).cps.toList)) = true := c3
                rw [low_a] at c3'
                refine ⟨_, _, rfl, rfl, Same.refl _, c, hc, ?_⟩
                rw [e3, c3', low_z]
                rfl
              · have c3' : (!decide ((⟨#[c]⟩ : Str).cps.toList < ("a" : Str).cps.toList)) = false := Bool.eq_false_iff.mpr c3
                rw [low_a] at c3'
                refine ⟨Same.refl _, c, hc, ?_⟩
                rw [e3, c3']
                rfl
            · have ea : acc = (x.cps.toList.map lowC).map V.bl := acc_mapN (by simpa using la) fun j u hu => by
                obtain ⟨c, h1, h2⟩ := hacc j u hu
                exact ⟨c, by simpa using h1, h2⟩
              refine ⟨D, x.cps.toList.map lowC, rfl, SqL.of (by rw [← ea]; exact hl), ?_⟩
              rw [all_mapN]
              exact k _ s6
        · have d1 : decide (1 ≤ x.length) = false := decide_eq_false fun z => c1 (decide_eq_true (by omega))
          rw [d1] at k
          exact ⟨_, rfl, iteT (k _ (Same.refl _))⟩
      | _ => cases hb
end
end K11

set_option Elab.async false
set_option linter.all false
set_option maxRecDepth 100000
set_option maxHeartbeats 4000000
namespace K11
open PySem L2 PySem.KX
theorem asc_range (ds : List PyData) : ∀ {acc : List V}, acc.length = min ds.length ds.tail.length → (∀ (j : Nat) (u : V), acc[j]? = some u → ∃ d e, ds[j]? = some d ∧ ds.tail[j]? = some e ∧ u = .bl (ltD d e)) → acc = ((ds.zip ds.tail).map fun p => ltD p.1 p.2).map V.bl := fun {acc} hl h => by
  refine acc_mapN (by rw [List.length_zip]; exact hl) fun j u hu => ?_
  obtain ⟨d, e, h1, h2, h3⟩ := h j u hu
  exact ⟨(d, e), by rw [List.getElem?_zip_eq_some]; exact ⟨h1, h2⟩, h3⟩
section
variable {P : Program} {w : World} {K : PySem.W.Frag} {mg : Str → Option Value} {base : Heap}
def spAsc (K : PySem.W.Frag) : Sp := fun vs H Q _ => ∃ (a : Addr) (xs : List V) (ds : List PyData), vs = [.ref a] ∧ (SqL K H a xs ∨ SqT K H a xs) ∧ DqAll K H xs ds ∧ CmpD ds ∧ ds.length ≤ 100000 ∧ ∀ H', Same H H' → Q (.bl (ascD ds)) H'
theorem lt_of {K : PySem.W.Frag} {H : Hp} {x y : V} {d e : PyData} {Q : VK} (c : (isIntD d = true ∧ isIntD e = true) ∨ (isStrB d = true ∧ isStrB e = true)) (hx : Dq K H x d) (hy : Dq K H y e) (k : Q (.bl (ltD d e)) H) : rLtS x y H Q := by
  rcases c with ⟨c1, c2⟩ | ⟨c1, c2⟩
  · cases hx with
    | int i =>
      cases hy with
      | int j => exact k
      | _ => cases c2
    | _ => cases c1
  · cases hx with
    | str i =>
      cases hy with
      | str j => exact k
      | _ => cases c2
    | _ => cases c1
theorem ok_ascends {f : Addr} {fd : FuncData} (F : Fun K "ascends" "ascends" sascends f fd) (T : TxtA mg) : FnG P w K mg base CX0 1 f fd ["values"] (spAsc K) := by
  have nd := scascends.nd
  refine okG F scascends (fun vs H Q E h => ?_) (fun cdv A outer s H vs Q E hr h => ?_)
  · obtain ⟨_, _, _, rfl, _⟩ := h
    rfl
  · obtain ⟨a, xs, ds, rfl, hq, hd, hc, hn, k⟩ := h
    refine ⟨_, (pss_one (ps_ret (pe_callB (cr_all rfl) (by rfl) T.all (by decide +kernel) (pa_cons (pe_lc (own := [("one", 1), ("other", 2)]) (by rfl) nd (RZ.pi_zipA (by rfl) T.zip (pa_cons (av 0) (pa_cons (pe_slice (sl_listS.or sl_tupS) (av 0) (po_some pe_int) po_none) pa_nil))) (blkOk_by (N := ["values", "one", "other"]) (sc := defScope sascends) (by decide +kernel)) (fun _ _ _ _ _ => (show PG _ _ (gTup K 2 (gCons (gName 1) (gCons (gName 2) gNil))) from (pg_tup rfl (pgs_cons (pg_name (i := 1) nd rfl (Or.inl rfl)) (pgs_cons (pg_name (i := 2) nd rfl (Or.inl rfl)) pgs_nil))))) (fun _ _ _ _ _ => pts_nil) (fun _ _ _ _ _ => PE.up (pe_cmpA op_ltS (av 1) (av 2)))) pa_nil)))), ?_⟩
    have hlen := hd.length
    have fin : ∀ (H1 : Hp) (s1 : Same H H1) (D : Addr) (H' : Hp) (acc : List V), Same H1 H' → H' D = some (.lst acc) → acc.length = min xs.length xs.tail.length → (∀ (j : Nat) (v : V), acc[j]? = some v → ∃ d e, ds[j]? = some d ∧ ds.tail[j]? = some e ∧ v = .bl (ltD d e)) →
        rAll K [.ref D] H' Q := fun H1 s1 D H' acc s2 hl la hacc => by
      have ea := asc_range ds (acc := acc) (by rw [la, List.length_tail, List.length_tail, hlen]) hacc
      refine ⟨D, (ds.zip ds.tail).map fun p => ltD p.1 p.2, rfl, SqL.of (by rw [← ea]; exact hl), ?_⟩
      rw [all_mapN]
      exact k _ (s1.trans s2)
    have stp : ∀ (H1 H' H2 : Hp) (D : Addr) (j : Nat) (y : V) (σ0 : St), Same H H1 → Same H1 H' → YPair (fun i => xs[i]?) (fun i => xs.tail[i]?) j H' y H2 → σ0.length = 3 → (σ0.set 1 none).set 2 none = σ0 → H' D ≠ none →
        gTup K 2 (gCons (gName 1) (gCons (gName 2) gNil)) y σ0 H2 fun σ3 H3 => (σ3.set 2 none).set 1 none = (σ0.set 2 none).set 1 none ∧ tOp rLtS (aVar 1) (aVar 2) σ3 H3 fun u H4 => Same H' H4 ∧ ∃ d e, ds[j]? = some d ∧ ds.tail[j]? = some e ∧ u = .bl (ltD d e) := by
      rintro H1 H' H2 D j y σ0 s1 s2 ⟨T, x1, y1, rfl, hT, rfl, hx, hy⟩ hσ _ _
      refine tup2 ?_
      obtain ⟨d, hd1, hd2⟩ := hd.get hx
      have hy' : xs[j + 1]? = some y1 := by rw [← List.getElem?_tail]; exact hy
      obtain ⟨e, he1, he2⟩ := hd.get hy'
      have s3 : Same H (upd H' T (.tup [x1, y1])) := (s1.trans s2).new hT
      match σ0, hσ with
      | [o0, o1, o2], _ =>
        refine ⟨rfl, ?_⟩
        refine lt_of (K := K) (d := d) (e := e) (Q := fun u H4 => Same H' H4 ∧ ∃ d e, ds[j]? = some d ∧ ds.tail[j]? = some e ∧ u = .bl (ltD d e)) ?_ (Dq.same s3 _ _ hd2) (Dq.same s3 _ _ he2) ⟨(Same.refl _).new hT, d, e, hd1, by rw [List.getElem?_tail]; exact he1, rfl⟩
        rcases hc with hc | hc
        · exact .inl ⟨hc _ _ hd1, hc _ _ he1⟩
        · exact .inr ⟨hc _ _ hd1, hc _ _ he1⟩
    have hn1 : min xs.length xs.tail.length ≤ 1000000 := by omega
    refine ⟨1, rfl, ?_⟩
    rcases hq with hq | hq
    · refine .inl ⟨a, xs, rfl, hq, fun p H1 s1 n1 l1 => ?_⟩
      rw [cut_tail] at l1
      refine ⟨a, p, xs, xs.tail, rfl, .inl ⟨s1.sqL hq, SqL.of l1, fun D hD => ?_⟩⟩
      refine lc_itS (walk_zip rfl) (fun j u _ => ∃ d e, ds[j]? = some d ∧ ds.tail[j]? = some e ∧ u = .bl (ltD d e)) (fun _ _ _ _ _ h => h) hD hn1 (fun H' s2 => ⟨s2.sqL (s1.sqL hq), s2.sqL (SqL.of l1)⟩) (fun j y H' H2 hj s2 hD2 hy => ?_) gTup2_mono (fun H' acc s2 hl la hacc => fin H1 s1 D H' acc s2 hl la hacc)
      exact stp H1 H' H2 D j y _ s1 s2 hy rfl rfl hD2
    · refine .inr ⟨a, xs, rfl, hq, fun p H1 s1 l1 => ?_⟩
      rw [cut_tail] at l1
      refine ⟨a, p, xs, xs.tail, rfl, .inr ⟨s1.sqT hq, l1, fun D hD => ?_⟩⟩
      refine lc_itS (walk_zipT rfl) (fun j u _ => ∃ d e, ds[j]? = some d ∧ ds.tail[j]? = some e ∧ u = .bl (ltD d e)) (fun _ _ _ _ _ h => h) hD hn1 (fun H' s2 => ⟨s2.sqT (s1.sqT hq), s2.sqT l1⟩) (fun j y H' H2 hj s2 hD2 hy => ?_) gTup2_mono (fun H' acc s2 hl la hacc => fin H1 s1 D H' acc s2 hl la hacc)
      exact stp H1 H' H2 D j y _ s1 s2 hy rfl rfl hD2
end
end K11

set_option Elab.async false
set_option linter.all false
set_option maxRecDepth 100000
set_option maxHeartbeats 4000000
namespace K11
open PySem L2 PySem.KX
abbrev sare_places : Stmt := top 17
theorem scare_places : FnScope ["places", "value", "place"] ["places", "value"] (defScope sare_places) := ⟨rfl, rfl, rfl, by decide +kernel, rfl, by decide +kernel, by decide +kernel⟩
abbrev s_is_step : Stmt := top 18
theorem sc_is_step : FnScope ["places", "value", "name", "inputs", "outputs"] ["places", "value"] (defScope s_is_step) := ⟨rfl, rfl, rfl, by decide +kernel, rfl, by decide +kernel, by decide +kernel⟩
theorem step3 {n : Int} : ∀ {ds : List PyData}, ds.length ≠ 3 → stepD n (.tuple ds) = false
  | [], _ => rfl
  | [_], _ => rfl
  | [_, _], _ => rfl
  | [_, _, _], h => absurd rfl h
  | _ :: _ :: _ :: _ :: _, _ => rfl
theorem len3 {ds : List PyData} (h : ds.length = 3) : ∃ a b c, ds = [a, b, c] := by
  match ds, h with
  | [a, b, c], _ => exact ⟨a, b, c, rfl⟩
theorem dq3 {K : PySem.W.Frag} {H : Hp} {xs : List V} {a b c : PyData} (h : DqAll K H xs [a, b, c]) : ∃ x y z, xs = [x, y, z] ∧ Dq K H x a ∧ Dq K H y b ∧ Dq K H z c := by
  cases h with
  | cons h1 t =>
    cases t with
    | cons h2 t =>
      cases t with
      | cons h3 t =>
        cases t
        exact ⟨_, _, _, rfl, h1, h2, h3⟩
theorem sm3 {a b c : PyData} (h : smQ (.tuple [a, b, c]) = true) : smQ a = true ∧ smQ b = true ∧ smQ c = true := by
  have h2 := (smQ_tup h).2
  exact ⟨smQ_mem (i := 0) h2 rfl, smQ_mem (i := 1) h2 rfl, smQ_mem (i := 2) h2 rfl⟩
section
variable {P : Program} {w : World} {K : PySem.W.Frag} {mg : Str → Option Value} {base : Heap}
def spPlaces (K : PySem.W.Frag) (p : Int → PyData → Bool) : Sp := fun vs H Q _ => ∃ (n : Int) (v : V) (d : PyData), vs = [.int n, v] ∧ Wd K H v d ∧ ∀ H', Same H H' → Q (.bl (p n d)) H'
theorem ok_are_places {f : Addr} {fd : FuncData} (F : Fun K "are_places" "are_places" sare_places f fd) (T : TxtA mg) (Ois_integer_within : Own P w K mg base CX0 "is_integer_within" 2 ["value", "least", "most"] (spWithin K)) (Oascends : Own P w K mg base CX0 "ascends" 1 ["values"] (spAsc K)) :
    FnG P w K mg base CX0 3 f fd ["places", "value"] (spPlaces K placesD) := by
  have nd := scare_places.nd
  refine okG F scare_places (fun vs H Q E h => ?_) (fun cdv A outer s H vs Q E hr h => ?_)
  · obtain ⟨_, _, _, rfl, _⟩ := h
    rfl
  · obtain ⟨n, v, d, rfl, hd, k⟩ := h
    refine ⟨_, (pss_cons (ps_if (pt_not (pt_valA (pe_callB call_isiA (by rfl) T.isinstance (by decide +kernel) (pa_cons (av 1) (pa_cons (pe_bltn (v := .ty "tuple") (u := .type "tuple") rfl T.tuple (by decide +kernel) rfl) pa_nil))))) (pss_one (ps_ret pe_bl)) pss_nil)
      (pss_cons (ps_if (pt_not (pt_valA (pe_callB (cr_all rfl) (by rfl) T.all (by decide +kernel) (pa_cons (pe_lc (own := [("place", 2)]) (by rfl) nd (pi_tup (av 1)) (blkOk_by (N := ["places", "value", "place"]) (sc := defScope sare_places) (by decide +kernel)) (fun _ _ _ _ _ => (pg_name (i := 2) nd rfl (Or.inl rfl))) (fun _ _ _ _ _ => pts_nil) (fun _ _ _ _ _ => PE.up (pe_own Ois_integer_within hr (pa_cons (av 2) (pa_cons pe_int (pa_cons (pe_op op_subA (av 0) pe_int) pa_nil))) (by decide)))) pa_nil)))) (pss_one (ps_ret pe_bl)) pss_nil)
      (pss_one (ps_ret (pe_own Oascends hr (pa_cons (av 1) pa_nil) (by decide)))))), ?_⟩
    refine ⟨_, _, _, _, _, rfl, .ty _, hd.dq.ty, kit_ty (kit_tuple d), ?_⟩
    have no : isTupB d = false → placesD n d = false := fun e => by
      cases d <;> first | rfl | cases e
    cases hb : isTupB d with
    | false =>
      rw [no hb] at k
      refine (iteT (k _ (Same.refl _)) : if true = true then _ else _)
    | true =>
      refine iteF ?_
      obtain ⟨hdq, hsm⟩ := hd
      cases hdq with
      | @tup a xs ds hq ha =>
        have hlen := ha.length
        obtain ⟨hn, hs2⟩ := smQ_tup hsm
        refine ⟨a, rfl, ⟨_, hq⟩, fun D hD => ?_⟩
        refine lc_itS (walk_tup (xs := xs)) (fun j u _ => ∃ d, ds[j]? = some d ∧ u = .bl (intIn 0 (n - 1) d)) (fun _ _ _ _ _ h => h) hD (by omega) (fun H' s5 => s5.sqT hq) (fun j y H' H2 hj s5 hD5 ⟨e2, hy⟩ => ?_) gName_mono (fun H' acc s6 hl la hacc => ?_)
        · subst e2
          obtain ⟨d, h1, h2⟩ := ha.get hy
          exact ⟨rfl, y, d, 0, n - 1, rfl, ⟨Dq.same s5 _ _ h2, smQ_mem hs2 h1⟩, Same.refl _, d, h1, rfl⟩
        · have ea : acc = (ds.map (intIn 0 (n - 1))).map V.bl := acc_mapN (by rw [la, hlen]) hacc
          refine ⟨D, ds.map (intIn 0 (n - 1)), rfl, SqL.of (by rw [← ea]; exact hl), ?_⟩
          rw [all_mapN]
          have e3 : placesD n (.tuple ds) = (ds.all (intIn 0 (n - 1)) && ascD ds) := rfl
          rw [e3] at k
          cases c : ds.all (intIn 0 (n - 1)) with
          | false =>
            rw [c] at k
            refine (iteT (k _ s6) : if true = true then _ else _)
          | true =>
            rw [c] at k
            refine iteF ⟨a, xs, ds, rfl, .inr (s6.sqT hq), DqAll.same s6 _ _ ha, .inl fun i d hi => ?_, hn, fun H2 s7 => k _ (s6.trans s7)⟩
            have := List.all_eq_true.mp c d (List.mem_of_getElem? hi)
            cases d <;> first | rfl | cases this
      | _ => cases hb
theorem ok_is_step {f : Addr} {fd : FuncData} (F : Fun K "_is_step" "_is_step" s_is_step f fd) (T : TxtA mg) (Ois_name : Own P w K mg base CX0 "is_name" 1 ["value"] (spN K isNameD)) (Oare_places : Own P w K mg base CX0 "are_places" 3 ["places", "value"] (spPlaces K placesD)) :
    FnG P w K mg base CX0 4 f fd ["places", "value"] (spPlaces K stepD) := by
  have nd := sc_is_step.nd
  refine okG F sc_is_step (fun vs H Q E h => ?_) (fun cdv A outer s H vs Q E hr h => ?_)
  · obtain ⟨_, _, _, rfl, _⟩ := h
    rfl
  · obtain ⟨n, v, d, rfl, hd, k⟩ := h
    refine ⟨_, (pss_cons (ps_if (PW.pt (pw_or (pt_not (pt_valA (pe_callB call_isiA (by rfl) T.isinstance (by decide +kernel) (pa_cons (av 1) (pa_cons (pe_bltn (v := .ty "tuple") (u := .type "tuple") rfl T.tuple (by decide +kernel) rfl) pa_nil))))) (pw_or1 (pt_cmpA (op_neA hr.units64) (pe_callB call_lenA (by rfl) T.len PySem.boot_len (pa_cons (av 1) pa_nil)) pe_int)))) (pss_one (ps_ret pe_bl)) pss_nil)
      (pss_cons (ps_asg (av 1) (pg_tup rfl (pgs_cons (pg_name (i := 2) nd rfl (Or.inl rfl)) (pgs_cons (pg_name (i := 3) nd rfl (Or.inl rfl)) (pgs_cons (pg_name (i := 4) nd rfl (Or.inl rfl)) pgs_nil)))))
      (pss_cons (ps_if (PW.pt (pw_or (pt_not (pt_valA (pe_own Ois_name hr (pa_cons (av 2) pa_nil) (by decide)))) (pw_or (pt_cmpA (op_eqNil hr.units64) (av 3) (pe_tupS pa_nil)) (pw_or1 (pt_cmpA (op_eqNil hr.units64) (av 4) (pe_tupS pa_nil)))))) (pss_one (ps_ret pe_bl)) pss_nil)
      (pss_one (ps_ret (pe_and (pe_own Oare_places hr (pa_cons (av 0) (pa_cons (av 3) pa_nil)) (by decide)) (pe_one (pe_own Oare_places hr (pa_cons (av 0) (pa_cons (av 4) pa_nil)) (by decide))))))))), ?_⟩
    refine ⟨_, _, _, _, _, rfl, .ty _, hd.dq.ty, kit_ty (kit_tuple d), ?_⟩
    have no : isTupB d = false → stepD n d = false := fun e => by
      cases d <;> first | rfl | cases e
    cases hb : isTupB d with
    | false =>
      rw [no hb] at k
      refine (iteT (iteT (k _ (Same.refl _))) : if true = true then _ else _)
    | true =>
      refine iteF ?_
      obtain ⟨hdq, hsm⟩ := hd
      cases hdq with
      | @tup a xs ds hq ha =>
        have hlen := ha.length
        refine .inr ⟨xs, hq, ?_⟩
        by_cases h3 : ds.length = 3
        · have c : (!decide ((xs.length : Int) = 3)) = false := by rw [decide_eq_true (by omega)]; rfl
          show (if (!decide ((xs.length : Int) = 3)) = true then _ else _)
          rw [c]
          refine iteF ?_
          obtain ⟨da, db, dc, rfl⟩ := len3 h3
          obtain ⟨x, y, z, rfl, hx, hy, hz⟩ := dq3 ha
          obtain ⟨m1, m2, m3⟩ := sm3 hsm
          refine ⟨a, _, rfl, hq, rfl, _, _, rfl, _, _, rfl, _, _, rfl, rfl, ?_⟩
          refine ⟨x, da, rfl, ⟨hx, m1⟩, fun H1 s1 => ?_⟩
          have e3 : stepD n (.tuple [da, db, dc]) = (isNameD da && (!isNilD db && (!isNilD dc && (placesD n db && placesD n dc)))) := rfl
          rw [e3] at k
          cases c1 : isNameD da with
          | false =>
            rw [c1] at k
            refine (iteT (iteT (k _ s1)) : if true = true then _ else _)
          | true =>
            rw [c1] at k
            refine iteF ⟨by simp, fun p H2 s2 n2 l2 => ⟨p, db, rfl, SqT.of l2, Dq.same (s1.trans s2) _ _ hy, ?_⟩⟩
            cases c2 : isNilD db with
            | true =>
              rw [c2] at k
              refine iteT (iteT (k _ (s1.trans s2)))
            | false =>
              rw [c2] at k
              refine iteF ⟨by simp, fun p3 H3 s3 n3 l3 => ⟨p3, dc, rfl, SqT.of l3, Dq.same ((s1.trans s2).trans s3) _ _ hz, ?_⟩⟩
              cases c3 : isNilD dc with
              | true =>
                rw [c3] at k
                refine iteT (k _ ((s1.trans s2).trans s3))
              | false =>
                rw [c3] at k
                have s4 := (s1.trans s2).trans s3
                refine iteF ⟨n, y, db, rfl, ⟨Dq.same s4 _ _ hy, m2⟩, fun H5 s5 => ⟨_, rfl, ?_⟩⟩
                cases c4 : placesD n db with
                | false =>
                  rw [c4] at k
                  exact iteF (k _ (s4.trans s5))
                | true =>
                  rw [c4] at k
                  exact iteT ⟨n, z, dc, rfl, ⟨Dq.same (s4.trans s5) _ _ hz, m3⟩, fun H6 s6 => k _ ((s4.trans s5).trans s6)⟩
        · have c : (!decide ((xs.length : Int) = 3)) = true := by rw [decide_eq_false (by omega)]; rfl
          show (if (!decide ((xs.length : Int) = 3)) = true then _ else _)
          rw [c]
          rw [step3 h3] at k
          exact iteT (k _ (Same.refl _))
      | _ => cases hb
end
end K11

set_option Elab.async false
set_option linter.all false
set_option maxRecDepth 100000
set_option maxHeartbeats 4000000
namespace K11
open PySem L2 PySem.KX
abbrev sis_net : Stmt := top 15
theorem scis_net : FnScope ["value", "places", "steps", "step"] ["value"] (defScope sis_net) := ⟨rfl, rfl, rfl, by decide +kernel, rfl, by decide +kernel, by decide +kernel⟩
theorem net2 : ∀ {ds : List PyData}, ds.length ≠ 2 → netD (.tuple ds) = false
  | [], _ => rfl
  | [d], _ => by cases d <;> rfl
  | [_, _], h => absurd rfl h
  | d :: e :: _ :: _, _ => by cases d <;> first | rfl | (cases e <;> rfl)
theorem len2 {ds : List PyData} (h : ds.length = 2) : ∃ a b, ds = [a, b] := by
  match ds, h with
  | [a, b], _ => exact ⟨a, b, rfl⟩
theorem dq2 {K : PySem.W.Frag} {H : Hp} {xs : List V} {a b : PyData} (h : DqAll K H xs [a, b]) : ∃ x y, xs = [x, y] ∧ Dq K H x a ∧ Dq K H y b := by
  cases h with
  | cons h1 t =>
    cases t with
    | cons h2 t =>
      cases t
      exact ⟨_, _, rfl, h1, h2⟩
theorem sm2 {a b : PyData} (h : smQ (.tuple [a, b]) = true) : smQ a = true ∧ smQ b = true := by
  have h2 := (smQ_tup h).2
  exact ⟨smQ_mem (i := 0) h2 rfl, smQ_mem (i := 1) h2 rfl⟩
theorem step_is {n : Int} {d : PyData} (h : stepD n d = true) : ∃ x b c, d = .tuple [.str x, b, c] := by
  cases d with
  | tuple ds =>
    by_cases h3 : ds.length = 3
    · obtain ⟨a, b, c, rfl⟩ := len3 h3
      have e3 : stepD n (.tuple [a, b, c]) = (isNameD a && (!isNilD b && (!isNilD c && (placesD n b && placesD n c)))) := rfl
      rw [e3] at h
      have h1 := (Bool.and_eq_true_iff.mp h).1
      cases a with
      | str x => exact ⟨x, b, c, rfl⟩
      | _ => cases h1
    · rw [step3 h3] at h
      cases h
  | _ => cases h
section
variable {P : Program} {w : World} {K : PySem.W.Frag} {mg : Str → Option Value} {base : Heap}
theorem ok_is_net {f : Addr} {fd : FuncData} (F : Fun K "is_net" "is_net" sis_net f fd) (T : TxtA mg) (Ois_integer_within : Own P w K mg base CX0 "is_integer_within" 2 ["value", "least", "most"] (spWithin K)) (Oascends : Own P w K mg base CX0 "ascends" 1 ["values"] (spAsc K))
    (O_is_step : Own P w K mg base CX0 "_is_step" 4 ["places", "value"] (spPlaces K stepD)) : FnG P w K mg base CX0 5 f fd ["value"] (spN K netD) := by
  have nd := scis_net.nd
  refine okG F scis_net (fun vs H Q E h => ?_) (fun cdv A outer s H vs Q E hr h => ?_)
  · obtain ⟨_, _, rfl, _⟩ := h
    rfl
  · obtain ⟨v, d, rfl, hd, k⟩ := h
    refine ⟨_, (pss_cons (ps_if (PW.pt (pw_or (pt_not (pt_valA (pe_callB call_isiA (by rfl) T.isinstance (by decide +kernel) (pa_cons (av 0) (pa_cons (pe_bltn (v := .ty "tuple") (u := .type "tuple") rfl T.tuple (by decide +kernel) rfl) pa_nil))))) (pw_or1 (pt_cmpA (op_neA hr.units64) (pe_callB call_lenA (by rfl) T.len PySem.boot_len (pa_cons (av 0) pa_nil)) pe_int)))) (pss_one (ps_ret pe_bl)) pss_nil)
      (pss_cons (ps_asg (av 0) (pg_tup rfl (pgs_cons (pg_name (i := 1) nd rfl (Or.inr rfl)) (pgs_cons (pg_name (i := 2) nd rfl (Or.inl rfl)) pgs_nil))))
      (pss_cons (ps_if (pt_not (pt_valA (pe_own Ois_integer_within hr (pa_cons (av 1) (pa_cons pe_int (pa_cons (pe_gint T.g_MAX_PLACES) pa_nil))) (by decide)))) (pss_one (ps_ret pe_bl)) pss_nil)
      (pss_cons (ps_if (PW.pt (pw_or (pt_not (pt_valA (pe_callB call_isiA (by rfl) T.isinstance (by decide +kernel) (pa_cons (av 2) (pa_cons (pe_bltn (v := .ty "tuple") (u := .type "tuple") rfl T.tuple (by decide +kernel) rfl) pa_nil))))) (pw_or1 (pt_not (pt_chain op_leA op_leA pe_int (pe_callB call_lenA (by rfl) T.len PySem.boot_len (pa_cons (av 2) pa_nil)) (pe_gint T.g_MAX_STEPS)))))) (pss_one (ps_ret pe_bl)) pss_nil)
      (pss_cons (ps_if (pt_not (pt_valA (pe_callB (cr_all rfl) (by rfl) T.all (by decide +kernel) (pa_cons (pe_lc (own := [("step", 3)]) (by rfl) nd (pi_tup (av 2)) (blkOk_by (N := ["value", "places", "steps", "step"]) (sc := defScope sis_net) (by decide +kernel)) (fun _ _ _ _ _ => (pg_name (i := 3) nd rfl (Or.inl rfl))) (fun _ _ _ _ _ => pts_nil) (fun _ _ _ _ _ => PE.up (pe_own O_is_step hr (pa_cons (av 1) (pa_cons (av 3) pa_nil)) (by decide)))) pa_nil)))) (pss_one (ps_ret pe_bl)) pss_nil)
      (pss_one (ps_ret (pe_own Oascends hr (pa_cons (pe_lc (own := [("step", 3)]) (by rfl) nd (pi_tup (av 2)) (blkOk_by (N := ["value", "places", "steps", "step"]) (sc := defScope sis_net) (by decide +kernel)) (fun _ _ _ _ _ => (pg_name (i := 3) nd rfl (Or.inl rfl))) (fun _ _ _ _ _ => pts_nil) (fun _ _ _ _ _ => PE.up (show PE _ _ (tOp (rIxA K) (aVar 3) (tC (.int 0))) from (pe_ixA (av 3) pe_int)))) pa_nil) (by decide))))))))), ?_⟩
    refine ⟨_, _, _, _, _, rfl, .ty _, hd.dq.ty, kit_ty (kit_tuple d), ?_⟩
    have no : isTupB d = false → netD d = false := fun e => by
      cases d <;> first | rfl | cases e
    cases hb : isTupB d with
    | false =>
      rw [no hb] at k
      refine (iteT (iteT (k _ (Same.refl _))) : if true = true then _ else _)
    | true =>
      refine iteF ?_
      obtain ⟨hdq, hsm⟩ := hd
      cases hdq with
      | @tup a xs ds hq ha =>
        have hlen := ha.length
        refine .inr ⟨xs, hq, ?_⟩
        by_cases h2 : ds.length = 2
        · have c : (!decide ((xs.length : Int) = 2)) = false := by rw [decide_eq_true (by omega)]; rfl
          show (if (!decide ((xs.length : Int) = 2)) = true then _ else _)
          rw [c]
          refine iteF ?_
          obtain ⟨da, db, rfl⟩ := len2 h2
          obtain ⟨x, y, rfl, hx, hy⟩ := dq2 ha
          obtain ⟨m1, m2⟩ := sm2 hsm
          refine ⟨a, _, rfl, hq, rfl, _, _, rfl, _, _, rfl, rfl, ?_⟩
          refine ⟨x, da, 2, 30, rfl, ⟨hx, m1⟩, ?_⟩
          cases c1 : intIn 2 30 da with
          | false =>
            have e : netD (.tuple [da, db]) = false := by
              cases da with
              | int n =>
                cases db with
                | tuple es =>
                  show ((decide (2 ≤ n) && decide (n ≤ 30)) && _) = false
                  rw [show (decide (2 ≤ n) && decide (n ≤ 30)) = false from c1]
                  rfl
                | _ => rfl
              | _ => rfl
            rw [e] at k
            refine (iteT (k _ (Same.refl _)) : if true = true then _ else _)
          | true =>
            refine iteF ?_
            cases hx with
            | int n =>
              have c1' : (decide (2 ≤ n) && decide (n ≤ 30)) = true := c1
              refine ⟨_, _, _, _, _, rfl, .ty _, hy.ty, kit_ty (kit_tuple db), ?_⟩
              cases hb2 : isTupB db with
              | false =>
                have e : netD (.tuple [.int n, db]) = false := by cases db <;> first | rfl | cases hb2
                rw [e] at k
                refine (iteT (iteT (k _ (Same.refl _))) : if true = true then _ else _)
              | true =>
                refine iteF ?_
                cases hy with
                | @tup b ys es hyq hya =>
                  have hlen2 := hya.length
                  obtain ⟨hn, hs2⟩ := smQ_tup m2
                  have en : netD (.tuple [.int n, .tuple es]) = ((decide (2 ≤ n) && decide (n ≤ 30)) && ((decide (1 ≤ es.length) && decide (es.length ≤ 40)) && (es.all (stepD n) && ascD (es.map firstD)))) := rfl
                  rw [en, c1'] at k
                  refine .inr ⟨ys, hyq, _, rfl, ?_⟩
                  have fin1 : (decide (1 ≤ es.length) && decide (es.length ≤ 40)) = false → Q (.bl false) H := fun e => by
                    rw [e] at k
                    exact k _ (Same.refl _)
                  refine ite2 (fun d1 => ?_) (fun d1 => ?_)
                  · have g1 : decide (1 ≤ es.length) = true := decide_eq_true (by have := of_decide_eq_true d1; omega)
                    refine ⟨_, rfl, ?_⟩
                    cases g2 : decide (es.length ≤ 40) with
                    | false =>
                      have d2 : decide ((ys.length : Int) ≤ 40) = false := decide_eq_false (by have := of_decide_eq_false g2; omega)
                      show (if (!decide ((ys.length : Int) ≤ 40)) = true then _ else _)
                      rw [d2]
                      exact iteT (fin1 (by rw [g1, g2]; rfl))
                    | true =>
                      have d2 : decide ((ys.length : Int) ≤ 40) = true := decide_eq_true (by have := of_decide_eq_true g2; omega)
                      show (if (!decide ((ys.length : Int) ≤ 40)) = true then _ else _)
                      rw [d2]
                      rw [g1, g2] at k
                      refine iteF ⟨b, rfl, ⟨_, hyq⟩, fun D hD => ?_⟩
                      refine lc_itS (walk_tup (xs := ys)) (fun j u _ => ∃ d, es[j]? = some d ∧ u = .bl (stepD n d)) (fun _ _ _ _ _ h => h) hD (by omega) (fun H' s5 => s5.sqT hyq) (fun j z H' H2 hj s5 hD5 ⟨e2, hz⟩ => ?_) gName_mono (fun H' acc s6 hl la hacc => ?_)
                      · subst e2
                        obtain ⟨d, h1, h2⟩ := hya.get hz
                        exact ⟨rfl, n, z, d, rfl, ⟨Dq.same s5 _ _ h2, smQ_mem hs2 h1⟩, fun H4 s7 => ⟨s7, d, h1, rfl⟩⟩
                      · have ea : acc = (es.map (stepD n)).map V.bl := acc_mapN (by rw [la, hlen2]) hacc
                        refine ⟨D, es.map (stepD n), rfl, SqL.of (by rw [← ea]; exact hl), ?_⟩
                        rw [all_mapN]
                        cases c3 : es.all (stepD n) with
                        | false =>
                          rw [c3] at k
                          refine (iteT (k _ s6) : if true = true then _ else _)
                        | true =>
                          rw [c3] at k
                          have hst : ∀ (j : Nat) (d : PyData), es[j]? = some d → ∃ x b c, d = .tuple [.str x, b, c] := fun j d hj => step_is (List.all_eq_true.mp c3 d (List.mem_of_getElem? hj))
                          refine iteF ⟨b, rfl, ⟨_, s6.sqT hyq⟩, fun D2 hD2 => ?_⟩
                          refine lc_itS (walk_tup (xs := ys)) (fun j u _ => ∃ x, (es.map firstD)[j]? = some (.str x) ∧ u = .str x) (fun _ _ _ _ _ h => h) hD2 (by omega) (fun H' s7 => (s6.trans s7).sqT hyq) (fun j z H' H2 hj s7 hD7 ⟨e2, hz⟩ => ?_) gName_mono (fun H2 acc2 s8 hl2 la2 hacc2 => ?_)
                          · subst e2
                            obtain ⟨d, h1, h2⟩ := hya.get hz
                            obtain ⟨x, bb, cc, rfl⟩ := hst j d h1
                            have h2' := Dq.same (s6.trans s7) _ _ h2
                            cases h2' with
                            | @tup q zs _ hzq hza =>
                              obtain ⟨z1, z2, z3, rfl, hz1, _, _⟩ := dq3 hza
                              cases hz1
                              refine ⟨rfl, .inr ⟨_, .str x, hzq, rfl, Same.refl _, x, ?_, rfl⟩⟩
                              rw [List.getElem?_map, h1]
                              rfl
                          · refine ⟨D2, acc2, es.map firstD, rfl, .inl (SqL.of hl2), dqAll_get _ _ (by simp [la2, hlen2]) (fun j u hu => ?_), .inr (fun j d hj => ?_), by simp; omega, fun H3 s9 => k _ ((s6.trans s8).trans s9)⟩
                            · obtain ⟨x, h1, rfl⟩ := hacc2 j u hu
                              exact ⟨.str x, h1, .str x⟩
                            · rw [List.getElem?_map] at hj
                              cases q : es[j]? with
                              | none => rw [q] at hj; cases hj
                              | some e0 =>
                                rw [q] at hj
                                obtain ⟨x, bb, cc, rfl⟩ := hst j e0 q
                                cases hj
                                rfl
                  · have g1 : decide (1 ≤ es.length) = false := decide_eq_false fun z => d1 (decide_eq_true (by omega))
                    exact ⟨_, rfl, iteT (fin1 (by rw [g1]; rfl))⟩
                | _ => cases hb2
            | _ => cases c1
        · have c : (!decide ((xs.length : Int) = 2)) = true := by rw [decide_eq_false (by omega)]; rfl
          show (if (!decide ((xs.length : Int) = 2)) = true then _ else _)
          rw [c]
          rw [net2 h2] at k
          exact iteT (k _ (Same.refl _))
      | _ => cases hb
end
end K11

set_option Elab.async false
set_option linter.all false
set_option maxRecDepth 100000
set_option maxHeartbeats 4000000
namespace K11
open PySem L2 PySem.KX
abbrev bmVE : List Value := [.type "ValueError", .type "Exception", .type "BaseException", .type "object"]
abbrev FVE := PySem.F.excBase_ValueError
abbrev scheck_net : Stmt := top 16
theorem sccheck_net : FnScope ["net"] ["net"] (defScope scheck_net) := ⟨rfl, rfl, rfl, by decide +kernel, rfl, by decide +kernel, by decide +kernel⟩
theorem net_is {d : PyData} (h : netD d = true) : ∃ n es, d = .tuple [.int n, .tuple es] ∧ es.all (stepD n) = true ∧ es.length ≤ 40 := by
  cases d with
  | tuple ds =>
    by_cases h2 : ds.length = 2
    · obtain ⟨a, b, rfl⟩ := len2 h2
      cases a with
      | int n =>
        cases b with
        | tuple es =>
          have e : netD (.tuple [.int n, .tuple es]) = ((decide (2 ≤ n) && decide (n ≤ 30)) && ((decide (1 ≤ es.length) && decide (es.length ≤ 40)) && (es.all (stepD n) && ascD (es.map firstD)))) := rfl
          rw [e] at h
          simp only [Bool.and_eq_true, decide_eq_true_eq] at h
          exact ⟨n, es, rfl, h.2.2.1, h.2.1.2⟩
        | _ => cases h
      | _ => cases h
    · rw [net2 h2] at h
      cases h
  | _ => cases h
section
variable {P : Program} {w : World} {K : PySem.W.Frag} {mg : Str → Option Value} {base : Heap}
def spChk (K : PySem.W.Frag) (cI : Addr) (p : PyData → Bool) : Sp := fun vs H Q E => ∃ (v : V) (d : PyData), vs = [v] ∧ Wd K H v d ∧ (p d = true → ∀ H', Same H H' → Q .non H') ∧ (p d = false → ∀ H', Same H H' → E (.ref cI) none H')
theorem ok_check_net {f cI : Addr} {fd : FuncData} (F : Fun K "check_net" "check_net" scheck_net f fd) (Ei : ErrM K mg "InvalidNet" cI "ValueError.__new__" bmVE) (tI : PySem.W.typeIn K (.ref cI) = some (.type "type")) (Ois_net : Own P w K mg base CX0 "is_net" 5 ["value"] (spN K netD)) :
    FnG P w K mg base (L2.CX P w) 6 f fd ["net"] (spChk K cI netD) := by
  have nd := sccheck_net.nd
  refine okGX F sccheck_net (fun vs H Q E h => ?_) (fun cdv A outer s H vs Q E hr h => ?_)
  · obtain ⟨_, _, rfl, _⟩ := h
    rfl
  · obtain ⟨v, d, rfl, hd, k1, k2⟩ := h
    refine ⟨_, (pss_one (ps_if (pt_not (pt_valA (pe_own Ois_net hr (pa_cons (av 0) pa_nil) (by decide)))) (pss_one (ps_raise rfl takesE (pmk_own FVE Ei.q Ei.g Ei.k (raises_own Ei.xi.ex tI) rfl))) pss_nil)), ?_⟩
    refine ⟨v, d, rfl, hd, fun H' s' => ?_⟩
    cases c : netD d with
    | true => exact iteF (k1 c _ s')
    | false => refine (iteT (k2 c _ s') : if true = true then _ else _)
end
end K11

set_option Elab.async false
set_option linter.all false
set_option maxRecDepth 100000
set_option maxHeartbeats 4000000
namespace K11
open PySem L2 PySem.KX
structure TxtS (mg : Str → Option Value) : Prop where
  set : mg "set" = none
  sorted : mg "sorted" = none
section
variable {P : Program} {w : World} {K : PySem.W.Frag} {mg : Str → Option Value} {base : Heap}
/-- a row of ints, as values, as data -/
abbrev tupI (ns : List Int) : PyData := .tuple (ns.map PyData.int)
theorem dq_ints : ∀ {ns : List Int} {xs : List V} {K : PySem.W.Frag} {H : Hp}, DqAll K H xs (ns.map PyData.int) → xs = ns.map V.int
  | [], _, _, _, h => by cases h; rfl
  | n :: r, _, _, _, h => by
    cases h with
    | cons h1 t =>
      cases h1
      rw [dq_ints t]
      rfl
theorem ints_dq : ∀ {ns : List Int} {K : PySem.W.Frag} {H : Hp}, DqAll K H (ns.map V.int) (ns.map PyData.int)
  | [], _, _ => .nil
  | n :: r, _, _ => .cons (.int n) ints_dq
end
end K11

set_option Elab.async false
set_option linter.all false
set_option maxRecDepth 100000
set_option maxHeartbeats 4000000
namespace K11
open PySem L2 PySem.KX StX
open PySem.W (AllAlike Sortable dataLe EachIs alike alikeAll)
def insI (k : Int) : List Int → List Int
  | [] => [k]
  | x :: r => if k < x then k :: x :: r else if k = x then x :: r else x :: insI k r
def tidyI (ns : List Int) : List Int := ns.foldr insI []
theorem insI_mem (k : Int) : ∀ (r : List Int) (j : Int), j ∈ insI k r ↔ j = k ∨ j ∈ r
  | [], j => by simp [insI]
  | x :: r, j => by
    unfold insI
    split
    · simp
    · split
      · rename_i h1 h2
        subst h2
        simp
      · rw [List.mem_cons, insI_mem k r j, List.mem_cons]
        constructor
        · rintro (h | h | h)
          · exact .inr (.inl h)
          · exact .inl h
          · exact .inr (.inr h)
        · rintro (h | h | h)
          · exact .inr (.inl h)
          · exact .inl h
          · exact .inr (.inr h)
theorem insI_asc (k : Int) : ∀ (r : List Int), r.Pairwise (· < ·) → (insI k r).Pairwise (· < ·)
  | [], _ => by simp [insI]
  | x :: r, h => by
    obtain ⟨h1, h2⟩ := List.pairwise_cons.mp h
    unfold insI
    split
    · rename_i c
      exact List.pairwise_cons.mpr ⟨fun y hy => by
        rcases List.mem_cons.mp hy with z | z
        · omega
        · have := h1 y z
          omega, h⟩
    · split
      · exact h
      · rename_i c1 c2
        refine List.pairwise_cons.mpr ⟨fun y hy => ?_, insI_asc k r h2⟩
        rcases (insI_mem k r y).mp hy with z | z
        · omega
        · exact h1 y z
theorem tidyI_ok : ∀ ns : List Int, Tidy ns (tidyI ns)
  | [] => ⟨List.Pairwise.nil, fun k => Iff.rfl⟩
  | n :: r => by
    obtain ⟨h1, h2⟩ := tidyI_ok r
    refine ⟨insI_asc n _ h1, fun k => ?_⟩
    show k ∈ insI n (tidyI r) ↔ _
    rw [insI_mem, h2 k, List.mem_cons]
def intOf : PyData → Int
  | .int i => i
  | _ => 0
def tidyD (bs : List PyData) : List PyData := (tidyI (bs.map intOf)).map PyData.int
def putD : PyData → PyData
  | .tuple [a, .tuple bs, .tuple cs] => .tuple [a, .tuple (tidyD bs), .tuple (tidyD cs)]
  | d => d
def makeD (n : Int) (ds : List PyData) : PyData := .tuple [.int n, .tuple ((ds.map putD).mergeSort (dataLe false id))]
/-- what can be put in order is a name with two rows of ints -/
theorem put_is (a : PyData) (ns ms : List Int) : putD (.tuple [a, tupI ns, tupI ms]) = .tuple [a, tupI (tidyI ns), tupI (tidyI ms)] := by
  have e : ∀ l : List Int, (l.map PyData.int).map intOf = l := fun l => by
    rw [List.map_map]
    exact List.map_id l
  show PyData.tuple [a, .tuple (tidyD (ns.map PyData.int)), .tuple (tidyD (ms.map PyData.int))] = _
  unfold tidyD
  rw [e, e]
theorem alike_ints : ∀ ns ms : List Int, alikeAll (ns.map PyData.int) (ms.map PyData.int) = true
  | [], _ => by simp [alikeAll]
  | n :: r, [] => by simp [alikeAll]
  | n :: r, m :: l => by
    show (alike (.int n) (.int m) && alikeAll (r.map PyData.int) (l.map PyData.int)) = true
    rw [alike_ints r l]
    rfl
theorem alike_rows (x y : Str) (ns ms ns' ms' : List Int) : alike (.tuple [.str x, tupI ns, tupI ms]) (.tuple [.str y, tupI ns', tupI ms']) = true := by
  show (alike (.str x) (.str y) && (alikeAll (ns.map PyData.int) (ns'.map PyData.int) && (alikeAll (ms.map PyData.int) (ms'.map PyData.int) && alikeAll [] []))) = true
  rw [alike_ints, alike_ints]
  rfl
end K11

set_option Elab.async false
set_option linter.all false
set_option maxRecDepth 100000
set_option maxHeartbeats 4000000
namespace K11
open PySem L2 PySem.KX StX
open PySem.W (AllAlike Sortable dataLe EachIs alike alikeAll)
theorem DqAll_snoc {K : PySem.W.Frag} {H : Hp} {v : V} {d : PyData} : ∀ {vs : List V} {ds : List PyData}, DqAll K H vs ds → Dq K H v d → DqAll K H (vs ++ [v]) (ds ++ [d])
  | _, _, .nil, h => .cons h .nil
  | _, _, .cons h1 t, h => .cons h1 (DqAll_snoc t h)
theorem smAll_of : ∀ {ds : List PyData}, (∀ d ∈ ds, smQ d = true) → smQAll ds = true
  | [], _ => rfl
  | d :: r, h => by
    simp only [smQAll, Bool.and_eq_true]
    exact ⟨h d List.mem_cons_self, smAll_of fun e he => h e (List.mem_cons_of_mem _ he)⟩
theorem insI_len (k : Int) : ∀ r : List Int, (insI k r).length ≤ r.length + 1
  | [] => by simp [insI]
  | x :: r => by
    unfold insI
    split
    · simp
    · split
      · simp
      · have := insI_len k r
        simp only [List.length_cons]
        omega
theorem tidyI_len : ∀ ns : List Int, (tidyI ns).length ≤ ns.length
  | [] => Nat.le_refl _
  | n :: r => by
    have h := insI_len n (tidyI r)
    have h2 := tidyI_len r
    show (insI n (tidyI r)).length ≤ r.length + 1
    omega
theorem sm_ints (ns : List Int) : smQAll (ns.map PyData.int) = true := smAll_of fun d hd => by
  obtain ⟨i, _, rfl⟩ := List.mem_map.mp hd
  rfl
theorem sm_row {x : Str} {ns ms : List Int} (h1 : x.length ≤ 1000) (h2 : ns.length ≤ 60) (h3 : ms.length ≤ 60) : smQ (.tuple [.str x, tupI ns, tupI ms]) = true := by
  simp only [smQ, smQAll, sm_ints, List.length_map, Bool.and_eq_true, decide_eq_true_eq, Bool.and_true]
  refine ⟨by simp, ?_⟩
  omega
theorem depth_row (x : Str) (ns ms : List Int) : PyData.depth (.tuple [.str x, tupI ns, tupI ms]) ≤ 50 := by
  simp only [PyData.depth, PyData.depthAll, PySem.W.depth_ints]
  omega
theorem dq_pairs {K : PySem.W.Frag} {H : Hp} : ∀ {l : List (V × PyData)}, (∀ p ∈ l, Dq K H p.1 p.2) → DqAll K H (l.map Prod.fst) (l.map Prod.snd)
  | [], _ => .nil
  | p :: r, h => .cons (h p List.mem_cons_self) (dq_pairs fun q hq => h q (List.mem_cons_of_mem _ hq))
theorem dq_zip {K : PySem.W.Frag} {H : Hp} : ∀ {vs : List V} {ds : List PyData}, DqAll K H vs ds → ∀ p ∈ vs.zip ds, Dq K H p.1 p.2
  | _, _, .nil, p, hp => nomatch hp
  | _, _, .cons h t, p, hp => by
    rcases List.mem_cons.mp hp with e | e
    · rw [e]
      exact h
    · exact dq_zip t p e
theorem sortQ_snd {vs : List V} {ds : List PyData} (hl : vs.length = ds.length) : (sortQ vs ds).map Prod.snd = ds.mergeSort (dataLe false id) := by
  have e := List.map_mergeSort (r := dataLe false Prod.snd) (s := dataLe false id) (f := Prod.snd) (l := vs.zip ds) (fun a _ b _ => rfl)
  exact e.trans (by rw [zip_snd hl])
theorem sortQ_dq {K : PySem.W.Frag} {H : Hp} {vs : List V} {ds : List PyData} (h : DqAll K H vs ds) : DqAll K H ((sortQ vs ds).map Prod.fst) (ds.mergeSort (dataLe false id)) := by
  rw [← sortQ_snd h.length]
  exact dq_pairs fun p hp => dq_zip h p (List.mem_mergeSort.mp hp)
section
variable {P : Program} {w : World} {K : PySem.W.Frag} {mg : Str → Option Value} {base : Heap}
end
end K11

set_option Elab.async false
set_option linter.all false
set_option maxRecDepth 100000
set_option maxHeartbeats 4000000
namespace K11
open PySem L2 PySem.KX
abbrev s_law_roll : Stmt := top 29
theorem sc_law_roll : FnScope ["dice", "total", "found", "one", "two"] ["dice", "total"] (defScope s_law_roll) := ⟨rfl, rfl, rfl, by decide +kernel, rfl, by decide +kernel, by decide +kernel⟩
abbrev s_law_dice : Stmt := top 28
theorem sc_law_dice : FnScope ["script", "at", "cell", "great", "seed", "place", "other"] ["script", "at"] (defScope s_law_dice) := ⟨rfl, rfl, rfl, by decide +kernel, rfl, by decide +kernel, by decide +kernel⟩
abbrev s_law_one_of : Stmt := top 30
theorem sc_law_one_of : FnScope ["dice", "items"] ["dice", "items"] (defScope s_law_one_of) := ⟨rfl, rfl, rfl, by decide +kernel, rfl, by decide +kernel, by decide +kernel⟩
structure Txt (mg : Str → Option Value) : Prop where
  len : mg "len" = none
  abs : mg "abs" = none
  int : mg "int" = none
  enumerate : mg "enumerate" = none
section
variable {P : Program} {w : World} {K : PySem.W.Frag} {mg : Str → Option Value} {base : Heap}
def spRoll : Sp := fun vs H Q _ => ∃ (p : Addr) (total g s n : Int), vs = [.ref p, .int total] ∧ H p = some (.lst [.int g, .int s, .int n]) ∧ 0 < total ∧ total < 2 ^ 60 ∧ 0 ≤ g ∧ 0 ≤ s ∧ s < 2 ^ 61 ∧ 0 ≤ n ∧ n < 2 ^ 30 ∧
  ∀ r g' n' : Int, 0 ≤ r → r < total → 0 ≤ g' → n ≤ n' → n' ≤ n + 1 → Q (.int r) (upd H p (.lst [.int g', .int s, .int n']))
theorem ok_roll {f : Addr} {fd : FuncData} (F : Fun K "_law_roll" "_law_roll" s_law_roll f fd) : FnG P w K mg base CX0 1 f fd ["dice", "total"] spRoll := by
  have nd := sc_law_roll.nd
  refine okG F sc_law_roll (fun vs H Q E h => ?_) (fun cdv A outer s H vs Q E hr h => ?_)
  · obtain ⟨p, total, g, s, n, rfl, _⟩ := h
    rfl
  · obtain ⟨p, total, g, s, n, rfl, hp, h1, h2, h3, h4, h5, h6, h7, k⟩ := h
    refine ⟨_, (pss_cons (ps_if (pt_cmpA op_gtA (pe_ixA (av 0) pe_int) pe_int) (pss_cons (ps_set (i := 2) nd rfl (Or.inl rfl) (pe_op op_modA (pe_ixA (av 0) pe_int) (av 1)))
      (pss_cons (ps_asg (pe_op op_fdvA (pe_ixA (av 0) pe_int) (av 1)) (pg_sub (av 0) pe_int set_list))
      (pss_one (ps_ret (av 2))))) pss_nil)
      (pss_cons (ps_asg (pe_op op_addA (pe_ixA (av 0) pe_int) pe_int) (pg_sub (av 0) pe_int set_list))
      (pss_cons (ps_set (i := 3) nd rfl (Or.inl rfl) (pe_op op_modA (pe_op op_powA (pe_op op_addA (pe_ixA (av 0) pe_int) (pe_op op_mulA pe_int (pe_ixA (av 0) pe_int))) pe_int) pe_int))
      (pss_cons (ps_set (i := 4) nd rfl (Or.inl rfl) (pe_op op_modA (pe_op op_powA (pe_op op_addA (pe_op op_addA (av 3) (pe_op op_modA (pe_ixA (av 0) pe_int) pe_int)) (pe_op op_mulA pe_int (pe_ixA (av 0) pe_int))) pe_int) pe_int))
      (pss_one (ps_ret (pe_op op_modA (pe_op op_fdvA (av 4) pe_int) (av 1)))))))), ?_⟩
    have hS : SqL K H p [.int g, .int s, .int n] := SqL.of hp
    refine .inl ⟨_, _, hS, rfl, ?_⟩
    refine ite2 (fun hg => ?_) (fun hg => ?_)
    · refine .inl ⟨_, _, hS, rfl, h1, ?_⟩
      refine .inl ⟨_, _, hS, rfl, wide_div h1 (b := 60) (by omega) (by decide) (by decide), ?_⟩
      refine ⟨p, _, 0, 0, rfl, rfl, hp, rfl, ?_⟩
      exact k (g % total) (g / total) n (Int.emod_nonneg _ (by omega)) (Int.emod_lt_of_pos _ h1) (Int.ediv_nonneg h3 (by omega)) (by omega) (by omega)
    · refine .inl ⟨_, _, hS, rfl, ?_⟩
      refine ⟨p, _, 2, 2, rfl, rfl, hp, rfl, ?_⟩
      have hS1 : SqL K (upd H p (.lst [.int g, .int s, .int (n + 1)])) p [.int g, .int s, .int (n + 1)] := SqL.of upd_same
      refine .inl ⟨_, _, hS1, rfl, ?_⟩
      refine .inl ⟨_, _, hS1, rfl, .inl ⟨by decide, by decide⟩, ?_⟩
      refine ⟨pow_ok (by omega) (by omega) (by decide) (by decide), by decide, ?_⟩
      have b1 := Int.emod_nonneg ((s + 15485863 * (n + 1)) ^ Int.toNat 3) (show (2305843009213693951 : Int) ≠ 0 by decide)
      have b2 := Int.emod_lt_of_pos ((s + 15485863 * (n + 1)) ^ Int.toNat 3) (show (0 : Int) < 2305843009213693951 by decide)
      refine .inl ⟨_, _, hS1, rfl, by decide, ?_⟩
      have b3 := Int.emod_nonneg s (show (1000033 : Int) ≠ 0 by decide)
      have b4 := Int.emod_lt_of_pos s (show (0 : Int) < 1000033 by decide)
      refine .inl ⟨_, _, hS1, rfl, .inl ⟨by decide, by decide⟩, ?_⟩
      refine ⟨pow_ok (by omega) (by omega) (by decide) (by decide), by decide, ?_⟩
      refine ⟨wide_div (by decide) (b := 14) (by decide) (by decide) (by decide), h1, ?_⟩
      exact k _ g (n + 1) (Int.emod_nonneg _ (by omega)) (Int.emod_lt_of_pos _ h1) h3 (by omega) (by omega)
def spDice (K : PySem.W.Frag) : Sp := fun vs H Q _ => ∃ (a : Addr) (ns : List Int) (at' : Nat), vs = [.ref a, .int at'] ∧ SqL K H a (ns.map V.int) ∧ ns.length ≤ 63 ∧ at' < 64 ∧
  ∀ (H' : Hp) (p : Addr) (g s : Int), Same H H' → H p = none → H' p = some (.lst [.int g, .int s, .int 0]) → 0 ≤ g → 0 ≤ s → s < 2 ^ 61 → Q (.ref p) H'
theorem ok_dice {f : Addr} {fd : FuncData} (F : Fun K "_law_dice" "_law_dice" s_law_dice f fd) (T : Txt mg) : FnG P w K mg base CX0 1 f fd ["script", "at"] (spDice K) := by
  have nd := sc_law_dice.nd
  refine okG F sc_law_dice (fun vs H Q E h => ?_) (fun cdv A outer s H vs Q E hr h => ?_)
  · obtain ⟨a, ns, at', rfl, _⟩ := h
    rfl
  · obtain ⟨a, ns, at', rfl, hS, hlen, hat, k⟩ := h
    refine ⟨_, (pss_cut (ps_set (i := 2) nd rfl (Or.inl rfl) (pe_ifExp (pt_cmpA op_ltA (av 1) (pe_callB call_lenA (by rfl) T.len PySem.boot_len (pa_cons (av 0) pa_nil))) (pe_ixA (av 0) (av 1)) (pe_op op_addA (pe_op op_mulA pe_int (av 1)) pe_int)))
      (pss_cons (ps_set (i := 3) nd rfl (Or.inl rfl) (pe_op op_modA (pe_callB call_absA (by rfl) T.abs (by decide +kernel) (pa_cons (av 2) pa_nil)) (pe_op op_powA (pe_op op_powA pe_int pe_int) pe_int)))
      (pss_cons (ps_set (i := 4) nd rfl (Or.inl rfl) (pe_op op_addA (pe_op op_addA (pe_op op_addA (pe_op op_modA (av 3) pe_int) (pe_op op_mulA pe_int (av 1))) (pe_op op_mulA pe_int (pe_callTy call_intA (by rfl) T.int (by decide +kernel) (pa_cons (pe_cmpA op_ltA (av 2) pe_int) pa_nil)))) pe_int))
      (pss_cons (ps_for PassesOwn.never rfl (pi_enum (by rfl) T.enumerate (pa_cons (av 0) pa_nil)) (pg_tup rfl (pgs_cons (pg_name (i := 5) nd rfl (Or.inl rfl)) (pgs_cons (pg_name (i := 6) nd rfl (Or.inl rfl)) pgs_nil))) (pss_one (ps_if (pt_cmpA (op_neA hr.units64) (av 5) (av 1)) (pss_one (ps_set (i := 4) nd rfl (Or.inl rfl) (pe_op op_modA (pe_op op_addA (pe_op op_addA (pe_op op_mulA pe_int (av 4)) (av 6)) (av 5)) pe_int))) pss_nil)))
      (pss_cons (ps_set (i := 4) nd rfl (Or.inl rfl) (pe_op op_modA (pe_op op_powA (av 4) pe_int) pe_int))
      (pss_one (ps_ret (pe_lst (pa_cons (pe_op op_mulA (pe_op op_fdvA (av 3) (pe_op op_powA pe_int pe_int)) (pe_callTy call_intA (by rfl) T.int (by decide +kernel) (pa_cons (pe_cmpA op_geA (av 3) (pe_op op_powA pe_int pe_int)) pa_nil))) (pa_cons (av 4) (pa_cons pe_int pa_nil))))))))))), ?_⟩
    refine ⟨fun σ H' => ∃ cell : Int, σ = [some (.ref a), some (.int at'), some (.int cell), none, none, none, none] ∧ H' = H, ?_, ?_⟩
    · refine .inl ⟨_, hS, ?_⟩
      refine ite2 (fun hc => ?_) (fun hc => ?_)
      · have hc' : at' < ns.length := by
          have := of_decide_eq_true hc
          rw [List.length_map] at this
          omega
        refine .inl ⟨_, _, hS, atI_nat (by rw [List.getElem?_map, List.getElem?_eq_getElem hc']; rfl), ?_⟩
        exact ⟨_, rfl, rfl⟩
      · exact ⟨.inl ⟨by decide, by decide⟩, _, rfl, rfl⟩
    rintro σ H' ⟨cell, rfl, rfl⟩
    refine ⟨pow_ok (by decide) (by decide) (by decide) (by decide), big_bits, big_pos, ?_⟩
    generalize hG : (if cell < 0 then -cell else cell) % ((10 : Int) ^ Int.toNat 60) ^ Int.toNat 13 = great
    have hg0 : 0 ≤ great := by rw [← hG]; exact Int.emod_nonneg _ (by have := big_pos; omega)
    refine ⟨by decide, .inl ⟨by decide, by decide⟩, .inl ⟨by decide, by decide⟩, ?_⟩
    have m1 := Int.emod_nonneg great (show (2305843009213693907 : Int) ≠ 0 by decide)
    have m2 := Int.emod_lt_of_pos great (show (0 : Int) < 2305843009213693907 by decide)
    have m3 : (0 : Int) ≤ (if decide (cell < 0) = true then 1 else 0) ∧ (if decide (cell < 0) = true then (1 : Int) else 0) ≤ 1 := by split <;> decide
    generalize (if decide (cell < 0) = true then (1 : Int) else 0) = neg at m3
    refine ⟨a, _, rfl, hS, for_enum (K := K) (a := a) (xs := ns.map V.int) (fun i σ H2 => ∃ (seed : Int) (pl ot : Option V), σ = [some (.ref a), some (.int at'), some (.int cell), some (.int great), some (.int seed), pl, ot] ∧ 0 ≤ seed ∧ seed < 2 ^ 62 ∧ Same H' H2) ⟨_, _, _, rfl, by omega, by omega, Same.refl _⟩ (fun i σ H2 _ ⟨_, _, _, _, _, _, s5⟩ => s5.seq hS) ?_ ?_⟩
    · rintro i x Tp σ H2 hi ⟨seed, pl, ot, rfl, h1, h2, s5⟩ hT
      obtain ⟨z, hz, rfl⟩ : ∃ z, ns[i]? = some z ∧ x = V.int z := by
        rw [List.getElem?_map] at hi
        cases e : ns[i]? with
        | none => rw [e] at hi; cases hi
        | some z => rw [e] at hi; exact ⟨z, rfl, (Option.some.inj hi).symm⟩
      refine tup2 ?_
      refine ite2 (fun hc => ?_) (fun hc => ?_)
      · refine ⟨.inl ⟨by decide, by decide⟩, by decide, ?_⟩
        have b1 := Int.emod_nonneg (1000003 * seed + z + i) (show (2305843009213693907 : Int) ≠ 0 by decide)
        have b2 := Int.emod_lt_of_pos (1000003 * seed + z + i) (show (0 : Int) < 2305843009213693907 by decide)
        exact ⟨_, _, _, rfl, b1, by omega, s5.new hT⟩
      · exact ⟨_, _, _, rfl, h1, h2, s5.new hT⟩
    · rintro σ H2 ⟨seed, pl, ot, rfl, h1, h2, s5⟩
      refine ⟨pow_ok (by omega) (by omega) (by decide) (by decide), by decide, ?_⟩
      have b1 := Int.emod_nonneg (seed ^ Int.toNat 3) (show (2305843009213693921 : Int) ≠ 0 by decide)
      have b2 := Int.emod_lt_of_pos (seed ^ Int.toNat 3) (show (0 : Int) < 2305843009213693921 by decide)
      refine ⟨pow_ok (by decide) (by decide) (by decide) (by decide), wide_div (by decide) (b := 60) (by decide) (by decide) (by decide), pow_ok (by decide) (by decide) (by decide) (by decide), .inr (by split <;> decide), (by show 3 ≤ sizeLine; decide), fun p hp => ?_⟩
      refine k _ p _ _ (s5.new hp) (s5.free hp) upd_same ?_ b1 (by omega)
      have q0 : 0 ≤ great / (10 : Int) ^ Int.toNat 18 := Int.ediv_nonneg hg0 (by decide)
      split
      · rw [Int.mul_one]; exact q0
      · rw [Int.mul_zero]; exact Int.le_refl _
end
abbrev Dice (g s n : Int) : HO := .lst [.int g, .int s, .int n]
section
variable {P : Program} {w : World} {K : PySem.W.Frag} {mg : Str → Option Value} {base : Heap}
def spOne : Sp := fun vs H Q _ => ∃ (p l : Addr) (xs : List V) (g s n : Int), vs = [.ref p, .ref l] ∧ H p = some (Dice g s n) ∧ H l = some (.lst xs) ∧ l ≠ p ∧ 0 < xs.length ∧ xs.length < 1000 ∧ 0 ≤ g ∧ 0 ≤ s ∧ s < 2 ^ 61 ∧ 0 ≤ n ∧ n < 2 ^ 30 ∧
  ∀ (i : Nat) (v : V) (g' n' : Int), xs[i]? = some v → 0 ≤ g' → n ≤ n' → n' ≤ n + 1 → Q v (upd H p (Dice g' s n'))
theorem ok_one_of {f : Addr} {fd : FuncData} (F : Fun K "_law_one_of" "_law_one_of" s_law_one_of f fd) (T : Txt mg) (O_law_roll : Own P w K mg base CX0 "_law_roll" 1 ["dice", "total"] spRoll) : FnG P w K mg base CX0 2 f fd ["dice", "items"] spOne := by
  have nd := sc_law_one_of.nd
  refine okG F sc_law_one_of (fun vs H Q E h => ?_) (fun cdv A outer s H vs Q E hr h => ?_)
  · obtain ⟨p, l, xs, g, s, n, rfl, _⟩ := h
    rfl
  · obtain ⟨p, l, xs, g, s, n, rfl, hp, hl, hne, h0, h1, h2, h3, h4, h5, h6, k⟩ := h
    refine ⟨_, (pss_one (ps_ret (pe_ixA (av 1) (pe_own O_law_roll hr (pa_cons (av 0) (pa_cons (pe_callB call_lenA (by rfl) T.len PySem.boot_len (pa_cons (av 1) pa_nil)) pa_nil)) (by decide))))), ?_⟩
    refine .inl ⟨xs, SqL.of hl, ?_⟩
    refine ⟨p, _, g, s, n, rfl, hp, by omega, by omega, h2, h3, h4, h5, h6, fun r g' n' r0 r1 g0 n0 n1 => ?_⟩
    obtain ⟨m, rfl⟩ : ∃ m : Nat, r = (m : Int) := ⟨r.toNat, by omega⟩
    have hi : m < xs.length := by omega
    have hx : xs[m]? = some xs[m] := List.getElem?_eq_getElem hi
    refine .inl ⟨xs, xs[m], SqL.of (by rw [upd_ne hne]; exact hl), atI_nat hx, k _ _ g' n' hx g0 n0 n1⟩
end
end K11

set_option Elab.async false
set_option linter.all false
set_option maxRecDepth 100000
set_option maxHeartbeats 4000000
namespace K11
open PySem L2 PySem.KX
/-- what lies beside p stays -/
def Nxt (p : Addr) (H H' : Hp) : Prop := Same (hide [p] H) (hide [p] H')
theorem Nxt.refl {p : Addr} {H : Hp} : Nxt p H H := Same.refl _
theorem Nxt.trans {p : Addr} {H H' H2 : Hp} (a : Nxt p H H') (b : Nxt p H' H2) : Nxt p H H2 := Same.trans a b
theorem Nxt.of {p : Addr} {H H' : Hp} (s : Same H H') : Nxt p H H' := hide_same s
theorem Nxt.upd {p : Addr} {H : Hp} {o : HO} : Nxt p H (upd H p o) := by
  unfold Nxt
  rw [hide_upd]
  exact Same.refl _
theorem Nxt.same {p : Addr} {H1 H H' : Hp} (n : H1 p = none) (s : Same H1 H) (x : Nxt p H H') : Same H1 H' := fun b o e => by
  have hb : b ∉ [p] := fun z => by
    rw [List.mem_singleton.mp z, n] at e
    cases e
  have h := x b o (by rw [hide_in hb]; exact s _ _ e)
  exact (hide_of h).1
theorem new_ne {p q : Addr} {H : Hp} {o : HO} (e : H p = some o) (n : H q = none) : q ≠ p := fun z => by
  rw [z, e] at n
  cases n
theorem erase_perm {α : Type} : ∀ {l : List α} {i : Nat} (h : i < l.length), (l[i] :: l.eraseIdx i).Perm l
  | [], i, h => absurd h (by simp)
  | x :: r, 0, _ => List.Perm.refl _
  | x :: r, i + 1, h => by
    have h2 : i < r.length := by simpa using h
    show (r[i] :: x :: r.eraseIdx i).Perm (x :: r)
    exact (List.Perm.swap x r[i] _).trans (List.Perm.cons x (erase_perm h2))
abbrev s_law_mixed : Stmt := top 31
theorem sc_law_mixed : FnScope ["dice", "items", "left", "turn"] ["dice", "items"] (defScope s_law_mixed) := ⟨rfl, rfl, rfl, by decide +kernel, rfl, by decide +kernel, by decide +kernel⟩
structure TxtX (mg : Str → Option Value) : Prop where
  list : mg "list" = none
  range : mg "range" = none
  len : mg "len" = none
section
variable {P : Program} {w : World} {K : PySem.W.Frag} {mg : Str → Option Value} {base : Heap}
/-- a new list of the same items in some order; nothing changes but the dice at p -/
def spMix (K : PySem.W.Frag) : Sp := fun vs H Q _ => ∃ (p l : Addr) (xs : List V) (g s n : Int), vs = [.ref p, .ref l] ∧ H p = some (Dice g s n) ∧ (SqL K H l xs ∨ SqT K H l xs) ∧ xs.length ≤ 1000 ∧ 0 ≤ g ∧ 0 ≤ s ∧ s < 2 ^ 61 ∧ 0 ≤ n ∧ n + 1000 < 2 ^ 30 ∧
  ∀ (ys : List V) (q : Addr) (H' : Hp) (g' n' : Int), ys.Perm xs → Nxt p H H' → H' p = some (Dice g' s n') → 0 ≤ g' → n ≤ n' → n' ≤ n + xs.length → H q = none → H' q = some (.lst ys) → Q (.ref q) H'
theorem ok_mixed {f : Addr} {fd : FuncData} (F : Fun K "_law_mixed" "_law_mixed" s_law_mixed f fd) (T : TxtX mg) (O_law_roll : Own P w K mg base CX0 "_law_roll" 1 ["dice", "total"] spRoll) : FnG P w K mg base CX0 2 f fd ["dice", "items"] (spMix K) := by
  have nd := sc_law_mixed.nd
  refine okG F sc_law_mixed (fun vs H Q E h => ?_) (fun cdv A outer s H vs Q E hr h => ?_)
  · obtain ⟨_, _, _, _, _, _, rfl, _⟩ := h
    rfl
  · obtain ⟨p, l, xs, g, s, n, rfl, hp, hl, hn, h0, h1, h2, h3, h4, k⟩ := h
    refine ⟨_, (pss_cons (ps_set (i := 2) nd rfl (Or.inr rfl) (pe_callTy call_listA (by rfl) T.list (by decide +kernel) (pa_cons (av 1) pa_nil)))
      (pss_one (ps_ret (pe_lc (own := [("turn", 3)]) (by rfl) nd (pi_range1 (by rfl) T.range (pa_cons (pe_callB call_lenA (by rfl) T.len PySem.boot_len (pa_cons (av 2) pa_nil)) pa_nil)) (blkOk_by (N := ["dice", "items", "left", "turn"]) (sc := defScope s_law_mixed) (by decide +kernel)) (fun _ _ _ _ _ => (pg_name (i := 3) nd rfl (Or.inl rfl))) (fun _ _ _ _ _ => pts_nil)
        (fun _ _ _ _ _ => (show PE _ _ (tBM K "list" rPopAt (aVar 2) (tCons (tCall spRoll [] E0 (tCons (aVar 0) (tCons (tCB (rLenA K) (tCons (aVar 2) tNil)) tNil))) tNil)) from pe_bm PySem.F.plainAttrs_list PySem.F.slot_list_pop PySem.F.type_list_pop mt_popAt (av 2) (pa_cons (pe_own O_law_roll hr (pa_cons (av 0) (pa_cons (pe_callB call_lenA (by rfl) T.len PySem.boot_len (pa_cons (av 2) pa_nil)) pa_nil)) (by decide)) pa_nil))))))), ?_⟩
    refine ⟨xs, hl, fun L nL => ?_⟩
    have hLp : L ≠ p := fun z => by
      rw [z, hp] at nL
      cases nL
    generalize gL : upd H L (.lst xs) = H1
    have s1 : Same H H1 := by rw [← gL]; exact (Same.refl H).new nL
    have lL : H1 L = some (.lst xs) := (congrFun gL L).symm.trans upd_same
    clear gL
    refine .inl ⟨xs, SqL.of lL, _, rfl, by omega, by omega, fun D hD => ?_⟩
    have hDp : D ≠ p := fun z => by
      rw [z, s1 _ _ hp] at hD
      cases hD
    have hDL : D ≠ L := fun z => by
      rw [z, lL] at hD
      cases hD
    refine lc_range (lo := 0) (n := (xs.length : Int).toNat) (fun i H' => ∃ (acc rest : List V) (g' n' : Int), H' D = some (.lst acc) ∧ H' L = some (.lst rest) ∧ (acc ++ rest).Perm xs ∧ acc.length = i ∧ H' p = some (Dice g' s n') ∧ 0 ≤ g' ∧ n ≤ n' ∧ n' ≤ n + i ∧ ∀ b o, b ≠ p → H b = some o → H' b = some o)
      ⟨[], xs, g, n, upd_same, by rw [upd_ne (Ne.symm hDL)]; exact lL, List.Perm.refl _, rfl, by rw [upd_ne (Ne.symm hDp)]; exact s1 _ _ hp, h0, by omega, by omega, fun b o _ e => ((s1.new hD) b o e)⟩ ?_ ?_
    · rintro i H' hi ⟨acc, rest, g', n', hDa, hLa, hpm, hli, hpa, b1, b2, b3, hk⟩
      have hlen : acc.length + rest.length = xs.length := by rw [← hpm.length_eq, List.length_append]
      refine ⟨rfl, .inl ⟨rfl, rest, SqL.of hLa⟩, .inl ⟨rest, SqL.of hLa, p, rest.length, g', s, n', rfl, hpa, by omega, by omega, b1, h1, h2, by omega, by omega, fun r g2 n2 r0 r1 c0 c1 c2 => ?_⟩⟩
      obtain ⟨m, rfl⟩ : ∃ m : Nat, r = (m : Int) := ⟨r.toNat, by omega⟩
      have hm : m < rest.length := by omega
      obtain ⟨j, e1, e2, e3, _⟩ := atI_get (atI_nat (List.getElem?_eq_getElem hm))
      refine ⟨L, rest, m, j, rest[m], rfl, rfl, by rw [upd_ne hLp]; exact hLa, by omega, by omega, e1, e2, ?_⟩
      · refine ⟨acc, by rw [upd_ne hDL, upd_ne hDp]; exact hDa, by rw [sizeLine_eq]; omega, acc ++ [rest[m]], rest.eraseIdx j, g2, n2, upd_same, by rw [upd_ne (Ne.symm hDL), upd_same], ?_, by simp [hli], by rw [upd_ne (Ne.symm hDp), upd_ne (Ne.symm hLp), upd_same], c0, by omega, by omega, fun b o hb e => ?_⟩
        · rw [List.append_assoc]
          refine (List.Perm.append_left acc ?_).trans hpm
          have e4 : rest[j] = rest[m] := Option.some.inj ((List.getElem?_eq_getElem e3).symm.trans e2)
          show (rest[m] :: rest.eraseIdx j).Perm rest
          rw [← e4]
          exact erase_perm e3
        · rw [upd_ne (fun z => by rw [z] at e; have := s1 _ _ e; rw [hD] at this; cases this), upd_ne (fun z => by rw [z, nL] at e; cases e), upd_ne hb]
          exact hk b o hb e
    · rintro H' ⟨acc, rest, g', n', hDa, hLa, hpm, hli, hpa, b1, b2, b3, hk⟩
      have hlen : acc.length + rest.length = xs.length := by rw [← hpm.length_eq, List.length_append]
      have hr0 : rest = [] := List.length_eq_zero_iff.mp (by omega)
      subst hr0
      rw [List.append_nil] at hpm
      refine k acc D H' g' n' hpm (fun b o e => ?_) hpa b1 b2 (by omega) (s1.free hD) hDa
      obtain ⟨e1, e2⟩ := hide_of e
      rw [hide_in e2]
      exact hk b o (fun z => e2 (by rw [z]; exact List.mem_singleton.mpr rfl)) e1
end
end K11

set_option Elab.async false
set_option linter.all false
set_option maxRecDepth 100000
set_option maxHeartbeats 4000000
namespace K11
open PySem L2 PySem.KX
/-! dice that were rolled at most m times -/
def Dc (p : Addr) (m : Int) (H : Hp) : Prop := ∃ g s n : Int, H p = some (Dice g s n) ∧ 0 ≤ g ∧ 0 ≤ s ∧ s < 2 ^ 61 ∧ 0 ≤ n ∧ n ≤ m
theorem Dc.some {p : Addr} {m : Int} {H : Hp} (h : Dc p m H) : H p ≠ none := by
  obtain ⟨g, s, n, h, _⟩ := h
  rw [h]
  exact fun z => nomatch z
theorem Dc.mono {p : Addr} {m k : Int} {H : Hp} (h : Dc p m H) (l : m ≤ k) : Dc p k H := by
  obtain ⟨g, s, n, h, h1, h2, h3, h4, h5⟩ := h
  exact ⟨g, s, n, h, h1, h2, h3, h4, by omega⟩
theorem Dc.same {p : Addr} {m : Int} {H H' : Hp} (h : Dc p m H) (e : Same H H') : Dc p m H' := by
  obtain ⟨g, s, n, h, r⟩ := h
  exact ⟨g, s, n, e _ _ h, r⟩
theorem Dc.upd {p q : Addr} {m : Int} {H : Hp} {o : HO} (h : Dc p m H) (ne : q ≠ p) : Dc p m (upd H q o) := by
  obtain ⟨g, s, n, h, r⟩ := h
  exact ⟨g, s, n, by rw [upd_ne (Ne.symm ne)]; exact h, r⟩
theorem Dc.ne {p q : Addr} {m : Int} {H : Hp} (h : Dc p m H) (n : H q = none) : q ≠ p := fun z => h.some (z ▸ n)
theorem Dc.pos {p : Addr} {m : Int} {H : Hp} (h : Dc p m H) : 0 ≤ m := by
  obtain ⟨g, s, n, h, h1, h2, h3, h4, h5⟩ := h
  omega
theorem nxt_of {p : Addr} {H H' : Hp} (h : ∀ b o, b ≠ p → H b = some o → H' b = some o) : Nxt p H H' := fun b o e => by
  obtain ⟨e1, e2⟩ := hide_of e
  rw [hide_in e2]
  exact h b o (fun z => e2 (by rw [z]; exact List.mem_singleton.mpr rfl)) e1
theorem Nxt.get {p b : Addr} {H H' : Hp} {o : HO} (h : Nxt p H H') (ne : b ≠ p) (e : H b = some o) : H' b = some o := by
  have hb : b ∉ [p] := fun z => ne (List.mem_singleton.mp z)
  exact (hide_of (h b o (by rw [hide_in hb]; exact e))).1
theorem Nxt.of_eq {p : Addr} {H H' : Hp} (h : ∀ b, b ≠ p → H' b = H b) : Nxt p H H' := nxt_of fun b o hb e => by rw [h b hb]; exact e
theorem Nxt.put {p q : Addr} {H H' : Hp} {o : HO} (h : Nxt p H H') (n : H q = none) : Nxt p H (L2.upd H' q o) := nxt_of fun b u hb e => by
  rw [upd_ne (ne_of_none e n)]
  exact h.get hb e
theorem Nxt.free {p q : Addr} {H H' : Hp} (h : Nxt p H H') (ne : q ≠ p) (n : H' q = none) : H q = none := by
  cases e : H q with
  | none => rfl
  | some o =>
    rw [h.get ne e] at n
    cases n
def spRollD : Sp := fun vs H Q _ => ∃ (p : Addr) (m total : Int), vs = [.ref p, .int total] ∧ Dc p m H ∧ m < 2 ^ 30 ∧ 0 < total ∧ total < 2 ^ 60 ∧
  ∀ (r : Int) (H' : Hp), 0 ≤ r → r < total → Dc p (m + 1) H' → (∀ b, b ≠ p → H' b = H b) → Q (.int r) H'
def spOneD : Sp := fun vs H Q _ => ∃ (p l : Addr) (m : Int) (xs : List V), vs = [.ref p, .ref l] ∧ Dc p m H ∧ H l = some (.lst xs) ∧ m < 2 ^ 30 ∧ l ≠ p ∧ 0 < xs.length ∧ xs.length < 1000 ∧
  ∀ (i : Nat) (v : V) (H' : Hp), xs[i]? = some v → Dc p (m + 1) H' → (∀ b, b ≠ p → H' b = H b) → Q v H'
def spMixD (K : PySem.W.Frag) : Sp := fun vs H Q _ => ∃ (p l : Addr) (m : Int) (xs : List V), vs = [.ref p, .ref l] ∧ Dc p m H ∧ m + 1000 < 2 ^ 30 ∧ (SqL K H l xs ∨ SqT K H l xs) ∧ xs.length ≤ 1000 ∧
  ∀ (ys : List V) (q : Addr) (H' : Hp), ys.Perm xs → Nxt p H H' → Dc p (m + xs.length) H' → H q = none → H' q = some (.lst ys) → Q (.ref q) H'
theorem _root_.L2.FnG.imp {P : Program} {w : World} {K : PySem.W.Frag} {mg : Str → Option Value} {base : Heap} {CX : CXT} {k : Nat} {f : Addr} {fd : FuncData} {ps : List Str} {sp sp' : Sp} (F : FnG P w K mg base CX k f fd ps sp) (h : ∀ vs H Q E, sp' vs H Q E → sp vs H Q E) : FnG P w K mg base CX k f fd ps sp' :=
  ⟨fun vs H Q E q => F.len vs H Q E (h _ _ _ _ q), fun A outer s H args us vs Q E hr e b v q => F.run A outer s H args us vs Q E hr e b v (h _ _ _ _ q)⟩
theorem rollD {vs : List V} {H : Hp} {Q : VK} {E : XK} (h : spRollD vs H Q E) : spRoll vs H Q E := by
  obtain ⟨p, m, total, rfl, ⟨g, s, n, h, g0, s0, s1, n0, n1⟩, h1, h2, h3, k⟩ := h
  exact ⟨p, total, g, s, n, rfl, h, h2, h3, g0, s0, s1, n0, by omega, fun r g' n' r0 r1 c0 c1 c2 => k r _ r0 r1 ⟨g', s, n', upd_same, c0, s0, s1, by omega, by omega⟩ fun b hb => upd_ne hb⟩
theorem oneD {vs : List V} {H : Hp} {Q : VK} {E : XK} (h : spOneD vs H Q E) : spOne vs H Q E := by
  obtain ⟨p, l, m, xs, rfl, ⟨g, s, n, h, g0, s0, s1, n0, n1⟩, hl, h1, ne, h2, h3, k⟩ := h
  exact ⟨p, l, xs, g, s, n, rfl, h, hl, ne, h2, h3, g0, s0, s1, n0, by omega, fun i v g' n' e c0 c1 c2 => k i v _ e ⟨g', s, n', upd_same, c0, s0, s1, by omega, by omega⟩ fun b hb => upd_ne hb⟩
theorem mixD {K : PySem.W.Frag} {vs : List V} {H : Hp} {Q : VK} {E : XK} (h : spMixD K vs H Q E) : spMix K vs H Q E := by
  obtain ⟨p, l, m, xs, rfl, ⟨g, s, n, h, g0, s0, s1, n0, n1⟩, h1, hl, h2, k⟩ := h
  exact ⟨p, l, xs, g, s, n, rfl, h, hl, h2, g0, s0, s1, n0, by omega, fun ys q H' g' n' e1 e2 e3 c0 c1 c2 e4 e5 => k ys q H' e1 e2 ⟨g', s, n', e3, c0, s0, s1, by omega, by omega⟩ e4 e5⟩
end K11

set_option Elab.async false
set_option linter.all false
set_option maxRecDepth 100000
set_option maxHeartbeats 4000000
namespace K11
open PySem L2 PySem.KX
abbrev s_law_words : Stmt := top 32
theorem sc_law_words : FnScope ["dice", "total", "letters", "found", "at", "word", "turn"] ["dice", "total"] (defScope s_law_words) := ⟨rfl, rfl, rfl, by decide +kernel, rfl, by decide +kernel, by decide +kernel⟩
abbrev abc : Str := "abcdefghijklmnopqrstuvwxyz"
theorem abc_at : ∀ j : Fin 26, abc.cps.toList[j.val]? = some (97 + j.val) := by decide +kernel
theorem abc_occ : ∀ j : Fin 26, Builtin.Str.occurrences abc ⟨#[97 + j.val]⟩ 0 abc.length 1 = [j.val] := by decide +kernel
theorem abc_get {m : Nat} (h : m < 26) : atI abc.cps.toList (m : Int) = some (97 + m) := atI_nat (abc_at ⟨m, h⟩)
theorem inV_str {x : Str} {fs : List Str} : inV (.str x) (fs.map V.str) = decide (x ∈ fs) := by
  unfold inV
  rw [List.any_map]
  by_cases h : x ∈ fs
  · rw [decide_eq_true h]
    exact List.any_eq_true.mpr ⟨x, h, by simp [eqV]⟩
  · rw [decide_eq_false h]
    refine List.any_eq_false.mpr fun y hy e => h ?_
    have e2 : (y == x) = true := e
    have e3 : y = x := by simpa using e2
    rw [← e3]
    exact hy
theorem flat_strs (fs : List Str) : (fs.map V.str).all flatV = true := by
  rw [List.all_map]
  exact List.all_eq_true.mpr fun _ _ => rfl
/-- a word -/
structure WordL (l : List Nat) : Prop where
  one : 1 ≤ l.length
  eight : l.length ≤ 8
  low : l.all lowL = true
theorem WordL.name {l : List Nat} (h : WordL l) : isNameD (.str (wT l)) = true := by
  show ((decide (1 ≤ (wT l).length) && decide ((wT l).length ≤ 8)) && (wT l).cps.toList.all lowC) = true
  rw [wT_len, decide_eq_true h.one, decide_eq_true h.eight]
  show (l.toArray.toList).all lowC = true
  rw [show l.toArray.toList = l from by simp]
  exact h.low

theorem cut_to (z : Str) (k : Nat) : cutS z none (some (k : Int)) = wT (z.cps.toList.take k) := by
  unfold cutS
  rw [HT.sIx_none, HT.sIx_nat]
  show (⟨((z.cps.toList.drop 0).take (min k z.length - 0)).toArray⟩ : Str) = _
  have : z.cps.toList.length = z.length := by show _ = z.cps.size; simp
  rw [List.drop_zero, Nat.sub_zero, ← this]
  congr 2
  exact List.take_eq_take_iff.mpr (by omega)
theorem cut_from (z : Str) (k : Nat) : cutS z (some (k : Int)) none = wT (z.cps.toList.drop k) := by
  unfold cutS
  rw [HT.sIx_none, HT.sIx_nat]
  have e : z.cps.toList.length = z.length := by show _ = z.cps.size; simp
  show (⟨((z.cps.toList.drop (min k z.length)).take (z.length - min k z.length)).toArray⟩ : Str) = _
  rw [← e, List.take_of_length_le (by simp)]
  by_cases h : k ≤ z.cps.toList.length
  · rw [Nat.min_eq_left h]
  · rw [Nat.min_eq_right (by omega), List.drop_length, List.drop_of_length_le (by omega)]
abbrev WordS (x : Str) : Prop := WordL x.cps.toList
theorem wordS_of {l : List Nat} (h : WordL l) : WordS (wT l) := by
  show WordL (l.toArray.toList)
  simpa using h
theorem WordS.name {x : Str} (h : WordS x) : isNameD (.str x) = true := by
  have := WordL.name h
  rw [← wT_eta x] at this
  exact this
theorem low_ok {l : List Nat} (h : l.all lowL = true) : PyData.strOk (wT l) = true := by
  unfold PyData.strOk
  rw [← Array.all_toList]
  refine List.all_eq_true.mpr fun c hc => ?_
  have := lowL_iff.mp (List.all_eq_true.mp h c (by simpa using hc))
  exact decide_eq_true (by omega)
theorem strs_lay : ∀ fs : List Str, (∀ x ∈ fs, WordS x) → PyData.canLayAll0 (fs.map PyData.str) = true
  | [], _ => by simp [PyData.canLayAll0]
  | x :: r, h => by
    have h1 := low_ok (h x List.mem_cons_self).low
    rw [← wT_eta x] at h1
    simp only [List.map_cons, PyData.canLayAll0, PyData.canLay0, strs_lay r fun y hy => h y (List.mem_cons_of_mem _ hy), Bool.and_true]
    exact h1
theorem strs_depth : ∀ fs : List Str, PyData.depthAll (fs.map PyData.str) = 0
  | [] => by simp [PyData.depthAll]
  | x :: r => by simp [PyData.depthAll, PyData.depth, strs_depth r]
theorem dq_strs {K : PySem.W.Frag} {H : Hp} : ∀ fs : List Str, DqAll K H (fs.map V.str) (fs.map PyData.str)
  | [] => .nil
  | x :: r => .cons (.str x) (dq_strs r)
theorem eqv_nil {ds : List PyData} : PyData.eqv (.list ds) (.list []) = decide (ds = []) := by
  cases ds <;> rfl
structure TxtW (mg : Str → Option Value) : Prop where
  range : mg "range" = none
theorem eqx_trans {p : Addr} {H H' H2 : Hp} (a : ∀ b, b ≠ p → H' b = H b) (c : ∀ b, b ≠ p → H2 b = H' b) : ∀ b, b ≠ p → H2 b = H b := fun b hb => (c b hb).trans (a b hb)
section
variable {P : Program} {w : World} {K : PySem.W.Frag} {mg : Str → Option Value} {base : Heap}
/-- total words, no two equal -/
def spWords : Sp := fun vs H Q _ => ∃ (p : Addr) (m : Int) (total : Nat), vs = [.ref p, .int (total : Nat)] ∧ Dc p m H ∧ total ≤ 26 ∧ m + 1000 < 2 ^ 30 ∧
  ∀ (fs : List Str) (q : Addr) (H' : Hp), fs.length = total → fs.Nodup → (∀ x ∈ fs, WordS x) → Nxt p H H' → Dc p (m + 300) H' → H q = none → H' q = some (.lst (fs.map V.str)) → Q (.ref q) H'
theorem ok_words {f : Addr} {fd : FuncData} (F : Fun K "_law_words" "_law_words" s_law_words f fd) (T : TxtW mg) (O_law_roll : Own P w K mg base CX0 "_law_roll" 1 ["dice", "total"] spRollD) : FnG P w K mg base CX0 2 f fd ["dice", "total"] spWords := by
  have nd := sc_law_words.nd
  refine okG F sc_law_words (fun vs H Q E h => ?_) (fun cdv A outer s H vs Q E hr h => ?_)
  · obtain ⟨_, _, _, rfl, _⟩ := h
    rfl
  · obtain ⟨p, m, total, rfl, hp, ht, hm, k⟩ := h
    refine ⟨_, (pss_cons (ps_par (i := 2) (j := 3) (by rfl) nd rfl rfl (by decide) rfl rfl (pa_cons pe_str (pa_cons (pe_lstS pa_nil) pa_nil)) (by rfl))
      (pss_cons (ps_for PassesOwn.never rfl (pi_range1 (by rfl) T.range (pa_cons (av 1) pa_nil)) (pg_name (i := 4) nd rfl (Or.inl rfl)) (pss_cons (ps_set (i := 5) nd rfl (Or.inl rfl) pe_str)
      (pss_cons (ps_for PassesOwn.never rfl (pi_range1 (by rfl) T.range (pa_cons (pe_ixA (pe_lstS (pa_cons pe_int (pa_cons pe_int (pa_cons pe_int (pa_cons pe_int pa_nil))))) (pe_own O_law_roll hr (pa_cons (av 0) (pa_cons pe_int pa_nil)) (by decide))) pa_nil)) (pg_name (i := 6) nd rfl (Or.inl rfl)) (pss_one (ps_set (i := 5) nd rfl (Or.inl rfl) (pe_op op_addA (av 5) (pe_ixA (av 2) (pe_own O_law_roll hr (pa_cons (av 0) (pa_cons pe_int pa_nil)) (by decide)))))))
      (pss_cut (ps_if (PW.pt (pw_and (pt_cmpA (op_neQ hr.units64) (av 3) (pe_lstS pa_nil)) (pw_and1 (pt_cmpA (op_eqA hr.units64) (pe_own O_law_roll hr (pa_cons (av 0) (pa_cons pe_int pa_nil)) (by decide)) pe_int)))) (pss_one (ps_set (i := 5) nd rfl (Or.inl rfl) (pe_slice sl_str (pe_op op_addA (pe_ixA (av 3) (pe_un un_neg pe_int)) pe_str) po_none (po_some pe_int)))) pss_nil)
      (pss_cons (ps_for PassesOwn.never rfl (pi_range1 (by rfl) T.range (pa_cons (av 1) pa_nil)) (pg_name (i := 6) nd rfl (Or.inl rfl)) (pss_one (ps_if (pt_cmpA op_in_seq (av 5) (av 3)) (pss_one (ps_set (i := 5) nd rfl (Or.inl rfl) (pe_op op_addA (pe_ixA (av 2) (pe_op op_modA (pe_op op_addA (pe_bm PySem.F.plainAttrs_str PySem.F.slot_str_index PySem.F.type_str_index mt_sindex (av 2) (pa_cons (pe_ixA (av 5) pe_int) pa_nil)) pe_int) pe_int)) (pe_slice sl_str (av 5) (po_some pe_int) po_none)))) pss_nil)))
      (pss_cons (ps_for PassesOwn.never rfl (pi_range1 (by rfl) T.range (pa_cons (av 1) pa_nil)) (pg_name (i := 6) nd rfl (Or.inl rfl)) (pss_one (ps_if (pt_cmpA op_in_seq (av 5) (av 3)) (pss_one (ps_set (i := 5) nd rfl (Or.inl rfl) (pe_slice sl_str (pe_op op_addA (av 5) (pe_ixA pe_str (pe_op op_modA (av 6) pe_int))) (po_some (pe_un un_neg pe_int)) po_none))) pss_nil)))
      (pss_one (ps_expr (pe_bm PySem.F.plainAttrs_list PySem.F.slot_list_append PySem.F.type_list_append mt_append (av 3) (pa_cons (av 5) pa_nil))))))))))
      (pss_one (ps_ret (av 3))))), ?_⟩
    refine ⟨by simp, fun q H1 s1 n1 l1 => ?_⟩
    have hqp : q ≠ p := hp.ne n1
    refine ⟨_, _, rfl, ?_⟩
    refine ⟨_, rfl, by omega, by omega, for_range (lo := 0) (n := ((total : Nat) : Int).toNat) (fun i σ H' => ∃ (fs : List Str) (o4 o5 o6 : Option V), σ = [some (.ref p), some (.int (total : Nat)), some (.str abc), some (.ref q), o4, o5, o6] ∧ H' q = some (.lst (fs.map V.str)) ∧ fs.length = i ∧ fs.Nodup ∧ (∀ x ∈ fs, WordS x) ∧ Nxt p H H' ∧ Dc p (m + 10 * i) H')
      ⟨[], _, _, _, rfl, l1, rfl, List.nodup_nil, (fun x hx => nomatch hx), Nxt.of s1, (hp.same s1).mono (by omega)⟩ ?_ ?_⟩
    · rintro i σ H2 hi ⟨fs, o4, o5, o6, rfl, hq, hl, hnd, hw, nx, dc⟩
      have hit : i < total := by omega
      refine ⟨by simp, fun p3 H3 s3 n3 l3 => ?_⟩
      refine ⟨p, _, _, rfl, dc.same s3, by omega, by decide, by decide, fun r H4 r0 r1 dc4 e4 => ?_⟩
      have hp3 : p3 ≠ p := dc.ne n3
      have l3' : H4 p3 = some (.lst [.int 1, .int 2, .int 3, .int 8]) := (e4 p3 hp3).trans l3
      have nx4 : Nxt p H2 H4 := (Nxt.of s3).trans (Nxt.of_eq e4)
      obtain ⟨j, rfl⟩ : ∃ j : Nat, r = (j : Int) := ⟨r.toNat, by omega⟩
      have hj : j < 4 := by omega
      obtain ⟨n, hn, hn1, hn8⟩ : ∃ n : Nat, ([V.int 1, V.int 2, V.int 3, V.int 8] : List V)[j]? = some (V.int n) ∧ 1 ≤ n ∧ n ≤ 8 := by
        match j, hj with
        | 0, _ => exact ⟨1, rfl, by decide, by decide⟩
        | 1, _ => exact ⟨2, rfl, by decide, by decide⟩
        | 2, _ => exact ⟨3, rfl, by decide, by decide⟩
        | 3, _ => exact ⟨8, rfl, by decide, by decide⟩
      refine .inl ⟨_, .int n, SqL.of l3', atI_nat hn, ?_⟩
      refine ⟨_, rfl, by omega, by omega, for_range (lo := 0) (n := ((n : Nat) : Int).toNat) (fun t σ H' => ∃ (l : List Nat) (o6 : Option V), σ = [some (.ref p), some (.int (total : Nat)), some (.str abc), some (.ref q), some (.int (0 + i)), some (.str (wT l)), o6] ∧ l.length = t ∧ l.all lowL = true ∧ Nxt p H2 H' ∧ Dc p (m + 10 * i + 1 + t) H')
        ⟨[], _, rfl, rfl, rfl, nx4, dc4.mono (by omega)⟩ ?_ ?_⟩
      · rintro t σ H5 hti ⟨l, o6, rfl, hll, hlow, nx5, dc5⟩
        refine ⟨p, _, _, rfl, dc5, by omega, by decide, by decide, fun r2 H6 r20 r21 dc6 e6 => ?_⟩
        obtain ⟨c, rfl⟩ : ∃ c : Nat, r2 = (c : Int) := ⟨r2.toNat, by omega⟩
        have hc : c < 26 := by omega
        refine ⟨97 + c, by decide +kernel, abc_get hc, ?_⟩
        refine ⟨small_size (by rw [wT_len]; show l.length + 1 ≤ 1000000; omega), ?_⟩
        refine ⟨l ++ [97 + c], some (.int (0 + (t : Int))), ?_, by simp [hll], by rw [List.all_append, hlow]; simp; omega, nx5.trans (Nxt.of_eq e6), dc6.mono (by omega)⟩
        rw [← wT_app]
        rfl
      · rintro σ H5 ⟨l, o6, rfl, hll, hlow, nx5, dc5⟩
        have hW : WordL l := ⟨by omega, by omega, hlow⟩
        have hq5 : H5 q = some (.lst (fs.map V.str)) := nx5.get hqp hq
        refine ⟨fun σ H' => ∃ (l : List Nat) (o6 : Option V), σ = [some (.ref p), some (.int (total : Nat)), some (.str abc), some (.ref q), some (.int (0 + i)), some (.str (wT l)), o6] ∧ WordL l ∧ Nxt p H2 H' ∧ Dc p (m + 10 * i + 10) H', ?_, ?_⟩
        · refine ⟨by simp, fun p6 H6 s6 n6 l6 => ?_⟩
          refine ⟨.list (fs.map .str), .list [], .lst (SqL.of (s6 _ _ hq5)) (dq_strs fs), .lst (SqL.of l6) .nil, ?_, by decide +kernel, ?_⟩
          · unfold SeqAt.shaped
            simp only [PyData.canLay0, strs_lay fs hw, PyData.depth, strs_depth, Bool.and_eq_true, decide_eq_true_eq]
            exact ⟨trivial, by omega⟩
          have nx6 : Nxt p H2 H6 := nx5.trans (Nxt.of s6)
          have dc6 : Dc p (m + 10 * i + 9) H6 := (dc5.same s6).mono (by omega)
          rw [eqv_nil]
          refine ite2 (fun c => ?_) (fun c => ?_)
          · have hne : fs ≠ [] := fun z => by
              subst z
              exact absurd c (by decide)
            refine ⟨p, _, _, rfl, dc6, by omega, by decide, by decide, fun r2 H7 r20 r21 dc7 e7 => ?_⟩
            refine ite2 (fun c2 => ?_) (fun c2 => ?_)
            · have hq7 : H7 q = some (.lst (fs.map V.str)) := (e7 q hqp).trans (s6 _ _ hq5)
              obtain ⟨y, hy⟩ : ∃ y, fs[fs.length - 1]? = some y := ⟨_, List.getElem?_eq_getElem (by have := List.length_pos_iff.mpr hne; omega)⟩
              have hym : y ∈ fs := List.mem_of_getElem? hy
              have hyw := hw y hym
              refine ⟨1, rfl, .inl ⟨_, .str y, SqL.of hq7, ?_, ?_⟩⟩
              · have hpos := List.length_pos_iff.mpr hne
                unfold atI ixN
                rw [if_neg (by decide), List.length_map, if_pos (by omega)]
                show (fs.map V.str)[(-1 + (fs.length : Int)).toNat]? = _
                rw [show (-1 + (fs.length : Int)).toNat = fs.length - 1 by omega, List.getElem?_map, hy]
                rfl
              · have hyl : y.length = y.cps.toList.length := by show y.cps.size = _; simp
                have h8 := hyw.eight
                have h1 := hyw.one
                have hya : y ++ ("a" : Str) = wT (y.cps.toList ++ [97]) := by
                  have e : ("a" : Str) = wT [97] := by decide +kernel
                  rw [e]
                  conv => lhs; rw [wT_eta y]
                  exact wT_app _ _
                refine ⟨small_size (by show y.length + 1 ≤ 1000000; omega), 8, rfl, _, rfl, ?_, ?_⟩
                · rw [hya, wT_len, List.length_append, sizeLine_eq]
                  show y.cps.toList.length + 1 ≤ _
                  omega
                have hcut : cutS (y ++ ("a" : Str)) none (some 8) = wT ((y.cps.toList ++ [97]).take 8) := by
                  rw [hya]
                  have := cut_to (wT (y.cps.toList ++ [97])) 8
                  exact this
                refine ⟨(y.cps.toList ++ [97]).take 8, o6, ?_, ⟨?_, ?_, ?_⟩, nx6.trans (Nxt.of_eq e7), dc7.mono (by omega)⟩
                · rw [← hcut]
                  rfl
                · rw [List.length_take, List.length_append, List.length_singleton]
                  omega
                · rw [List.length_take]
                  omega
                · refine List.all_eq_true.mpr fun c hc => ?_
                  rcases List.mem_append.mp (List.mem_of_mem_take hc) with z | z
                  · exact List.all_eq_true.mp hyw.low c z
                  · rw [List.mem_singleton.mp z]
                    decide
            · exact ⟨l, _, rfl, hW, nx6.trans (Nxt.of_eq e7), dc7.mono (by omega)⟩
          · exact ⟨l, _, rfl, hW, nx6, dc6.mono (by omega)⟩
        · rintro σ H6 ⟨l, o6, rfl, hW, nx6, dc6⟩
          have hq6 : H6 q = some (.lst (fs.map V.str)) := nx6.get hqp hq
          obtain ⟨c0, r, rfl⟩ : ∃ c0 r, l = c0 :: r := by
            match l, hW.one with
            | c0 :: r, _ => exact ⟨c0, r, rfl⟩
          have hlow := hW.low
          rw [List.all_cons, Bool.and_eq_true] at hlow
          obtain ⟨hc0, hr0⟩ := hlow
          have hlen := hW.eight
          rw [List.length_cons] at hlen
          refine ⟨_, rfl, by omega, by omega, for_range (lo := 0) (n := ((total : Nat) : Int).toNat) (fun t σ H' => ∃ (d : Nat) (o6 : Option V), σ = [some (.ref p), some (.int (total : Nat)), some (.str abc), some (.ref q), some (.int (0 + i)), some (.str (wT (d :: r))), o6] ∧ lowL d = true ∧ TryW fs c0 r t d ∧ H' = H6)
            ⟨c0, _, rfl, hc0, TryW.start (lowL_iff.mp hc0), rfl⟩ ?_ ?_⟩
          · rintro t σ H7 hti ⟨d, o6, rfl, hd, ht, rfl⟩
            refine ⟨q, _, rfl, .inl (SqL.of hq6), rfl, flat_strs fs, ?_⟩
            rw [if_neg (by decide), inV_str]
            refine ite2 (fun c => ?_) (fun c => ?_)
            · have hin : wT (d :: r) ∈ fs := of_decide_eq_true c
              have hd' := lowL_iff.mp hd
              obtain ⟨j, hj, rfl⟩ : ∃ j : Nat, j < 26 ∧ d = 97 + j := ⟨d - 97, by omega, by omega⟩
              refine ⟨rfl, 97 + j, ?_, ?_, abc, ⟨#[97 + j]⟩, j, [], rfl, rfl, abc_occ ⟨j, hj⟩, ?_⟩
              · rw [wT_len, sizeLine_eq]
                simp only [List.length_cons]
                omega
              · exact atI_nat (j := 0) (xs := (97 + j) :: r) (v := 97 + j) rfl
              have e3 : onC (97 + j) 1 = 97 + (j + 1) % 26 := by
                unfold onC
                rw [show 97 + j - 97 + 1 = j + 1 by omega]
              have hlw : (wT ((97 + j) :: r)).length ≤ sizeLine := by
                rw [wT_len, sizeLine_eq]
                simp only [List.length_cons]
                omega
              have hm26 : (j + 1) % 26 < 26 := Nat.mod_lt _ (by decide)
              refine ⟨by decide, 97 + (j + 1) % 26, by decide +kernel, abc_get hm26, 1, rfl, _, rfl, hlw, ?_⟩
              have hcut : cutS (wT ((97 + j) :: r)) (some 1) none = wT r := cut_from (wT ((97 + j) :: r)) 1
              rw [hcut]
              refine ⟨small_size (by rw [wT_len]; show 1 + r.length ≤ 1000000; omega), ?_⟩
              refine ⟨onC (97 + j) 1, some (.int (0 + (t : Int))), ?_, lowL_iff.mpr (onC_low _ _), ht.on hin, rfl⟩
              rw [e3, show (97 + (j + 1) % 26) :: r = [97 + (j + 1) % 26] ++ r from rfl, ← wT_app]
              rfl
            · exact ⟨d, _, rfl, hd, ht.free fun z => c (decide_eq_true z), rfl⟩
          · rintro σ H7 ⟨d, o6, rfl, hd, ht, rfl⟩
            have hfree : wT (d :: r) ∉ fs := ht.done (by omega) (by omega)
            have hWd : WordL (d :: r) := ⟨by simp, by simp only [List.length_cons]; omega, by rw [List.all_cons, hd, hr0]; rfl⟩
            refine ⟨_, rfl, by omega, by omega, for_range (lo := 0) (n := ((total : Nat) : Int).toNat) (fun t σ H' => ∃ (o6 : Option V), σ = [some (.ref p), some (.int (total : Nat)), some (.str abc), some (.ref q), some (.int (0 + i)), some (.str (wT (d :: r))), o6] ∧ H' = H7)
              ⟨_, rfl, rfl⟩ ?_ ?_⟩
            · rintro t σ H8 hti ⟨o6, rfl, rfl⟩
              refine ⟨q, _, rfl, .inl (SqL.of hq6), rfl, flat_strs fs, ?_⟩
              rw [if_neg (by decide), inV_str]
              exact ite2 (fun c => absurd (of_decide_eq_true c) hfree) fun c => ⟨_, rfl, rfl⟩
            · rintro σ H8 ⟨o6, rfl, rfl⟩
              refine ⟨.inl ⟨rfl, _, SqL.of hq6⟩, q, _, _, rfl, rfl, hq6, by rw [List.length_map, sizeLine_eq]; omega, ?_⟩
              refine ⟨fs ++ [wT (d :: r)], _, _, _, rfl, by rw [upd_same, List.map_append]; rfl, by rw [List.length_append, hl]; rfl, ?_, ?_, ?_, ?_⟩
              · refine List.nodup_append.mpr ⟨hnd, by simp, fun x hx y hy => ?_⟩
                rw [List.mem_singleton.mp hy]
                intro z
                exact hfree (z ▸ hx)
              · intro x hx
                rcases List.mem_append.mp hx with z | z
                · exact hw x z
                · rw [List.mem_singleton.mp z]
                  exact wordS_of hWd
              · exact (nx.trans nx6).put n1
              · exact (dc6.upd hqp).mono (by omega)
    · rintro σ H2 ⟨fs, o4, o5, o6, rfl, hq, hl, hnd, hw, nx, dc⟩
      exact k fs q H2 (by omega) hnd hw nx (dc.mono (by omega)) n1 hq
end
end K11

set_option Elab.async false
set_option linter.all false
set_option maxRecDepth 100000
set_option maxHeartbeats 4000000
namespace K11
open PySem L2 PySem.KX
theorem ints_lay : ∀ ns : List Int, PyData.canLayAll0 (ns.map PyData.int) = true
  | [] => by simp [PyData.canLayAll0]
  | n :: r => by simp only [List.map_cons, PyData.canLayAll0, PyData.canLay0, ints_lay r, Bool.and_self]
theorem ints_depth : ∀ ns : List Int, PyData.depthAll (ns.map PyData.int) = 0
  | [] => by simp [PyData.depthAll]
  | n :: r => by simp [PyData.depthAll, PyData.depth, ints_depth r]
theorem ints_shaped (ns : List Int) : SeqAt.shaped (.list (ns.map PyData.int)) = true := by
  unfold SeqAt.shaped
  simp only [PyData.canLay0, ints_lay, PyData.depth, ints_depth, Bool.and_eq_true, decide_eq_true_eq]
  exact ⟨trivial, by omega⟩
theorem strs_shaped {xs : List Str} (h : ∀ x ∈ xs, WordS x) : SeqAt.shaped (.list (xs.map PyData.str)) = true := by
  unfold SeqAt.shaped
  simp only [PyData.canLay0, strs_lay xs h, PyData.depth, strs_depth, Bool.and_eq_true, decide_eq_true_eq]
  exact ⟨trivial, by omega⟩
theorem name_word {x : Str} (h : isNameD (.str x) = true) : WordS x := by
  have h' : ((decide (1 ≤ x.length) && decide (x.length ≤ 8)) && x.cps.toList.all lowC) = true := h
  simp only [Bool.and_eq_true, decide_eq_true_eq] at h'
  have hxl : x.cps.toList.length = x.length := by show _ = x.cps.size; simp
  exact ⟨by omega, by omega, h'.2⟩
/-- a part that is not () and holds places, ascending -/
def partD (n : Int) (d : PyData) : Bool := !isNilD d && placesD n d
theorem step_parts {n : Int} {a b c : PyData} : stepD n (.tuple [a, b, c]) = (isNameD a && (partD n b && partD n c)) := by
  show (isNameD a && (!isNilD b && (!isNilD c && (placesD n b && placesD n c)))) = _
  unfold partD
  cases isNameD a <;> cases isNilD b <;> cases isNilD c <;> cases placesD n b <;> cases placesD n c <;> rfl
def nameOf : PyData → Str
  | .tuple (.str x :: _) => x
  | _ => ⟨#[]⟩
section
variable {P : Program} {w : World} {K : PySem.W.Frag} {mg : Str → Option Value} {base : Heap}
end
end K11

set_option Elab.async false
set_option linter.all false
set_option maxRecDepth 100000
set_option maxHeartbeats 4000000
namespace K11
open PySem L2 PySem.KX StX
open PySem.W (AllAlike Sortable dataLe EachIs alike alikeAll dataLt)
/-! rows of nets -/
abbrev RowN := Str × List Int × List Int
def rowD (r : RowN) : PyData := .tuple [.str r.1, tupI r.2.1, tupI r.2.2]
def netOf (n : Int) (rows : List RowN) : PyData := .tuple [.int n, .tuple (rows.map rowD)]
abbrev ltR (a b : RowN) : Prop := ltT a.1 b.1
theorem ltR_irr (a : RowN) : ¬ ltR a a := ltT_irr _
theorem ltR_tr (a b c : RowN) (h : ltR a b) (k : ltR b c) : ltR a c := ltT_tr _ _ _ h k
theorem dataLt_rows {a b : RowN} (h : a.1 ≠ b.1) : dataLt (rowD a) (rowD b) = decide (ltT a.1 b.1) := by
  show dataLt (.tuple _) (.tuple _) = _
  have hal : alike (PyData.str a.1) (.str b.1) = true := by simp [alike]
  rw [PySem.W.dataLt_tuple, PySem.W.dataLt_cons hal, if_neg (by show ¬ (a.1 == b.1) = true; simpa using h)]
  have e := congrFun (congrFun (PySem.W.dataLe_str (β := Str) id) b.1) a.1
  rw [PySem.W.dataLe_eq] at e
  have e' : (!dataLt (.str a.1) (.str b.1)) = decide (b.1.cps.toList ≤ a.1.cps.toList) := e
  have e2 : decide (b.1.cps.toList ≤ a.1.cps.toList) = !decide (ltT a.1 b.1) := by
    by_cases c : ltT a.1 b.1
    · rw [decide_eq_true c, decide_eq_false (fun z => z c)]
      rfl
    · rw [decide_eq_false c, decide_eq_true (show b.1.cps.toList ≤ a.1.cps.toList from c)]
      rfl
  rw [e2] at e'
  simpa using e'
def leR (a b : RowN) : Bool := !decide (ltT b.1 a.1)
theorem leR_eq {raw : List RowN} (nd : (raw.map (·.1)).Nodup) : ∀ a ∈ raw, ∀ b ∈ raw, leR a b = dataLe false id (rowD a) (rowD b) := fun a ha b hb => by
  rw [PySem.W.dataLe_eq]
  show _ = !dataLt (rowD b) (rowD a)
  by_cases e : a.1 = b.1
  · have : a = b := by
      have inj : ∀ (l : List RowN), (l.map (·.1)).Nodup → a ∈ l → b ∈ l → a = b := by
        intro l
        induction l with
        | nil => intro _ h; exact nomatch h
        | cons x r ih =>
          intro n h1 h2
          rw [List.map_cons] at n
          obtain ⟨n1, n2⟩ := List.nodup_cons.mp n
          rcases List.mem_cons.mp h1 with z | z <;> rcases List.mem_cons.mp h2 with y | y
          · rw [z, y]
          · exact absurd (List.mem_map.mpr ⟨b, y, by rw [← e, z]⟩) n1
          · exact absurd (List.mem_map.mpr ⟨a, z, by rw [e, y]⟩) n1
          · exact ih n2 z y
      exact inj raw nd ha hb
    subst this
    rw [PySem.W.dataLt_self]
    unfold leR
    rw [decide_eq_false (ltT_irr _)]
  · rw [dataLt_rows (Ne.symm e)]
    rfl
/-- rows with distinct names, sorted -/
theorem sort_rows {raw : List RowN} (nd : (raw.map (·.1)).Nodup) : ∃ rows : List RowN, rows.Perm raw ∧ rows.Pairwise ltR ∧ (raw.map rowD).mergeSort (dataLe false id) = rows.map rowD := by
  have e1 := List.map_mergeSort (r := leR) (s := dataLe false id) (f := rowD) (l := raw) (leR_eq nd)
  refine ⟨raw.mergeSort leR, List.mergeSort_perm _ _, ?_, e1.symm⟩
  have tr : ∀ a b c : RowN, leR a b = true → leR b c = true → leR a c = true := fun a b c h1 h2 => by
    unfold leR at h1 h2 ⊢
    rw [Bool.not_eq_true', decide_eq_false_iff_not] at h1 h2 ⊢
    intro h3
    have k1 : a.1.cps.toList ≤ b.1.cps.toList := h1
    have k2 : b.1.cps.toList ≤ c.1.cps.toList := h2
    exact (List.le_trans k1 k2) h3
  have tot : ∀ a b : RowN, (leR a b || leR b a) = true := fun a b => by
    unfold leR
    by_cases c : ltT b.1 a.1
    · have : ¬ ltT a.1 b.1 := fun z => ltT_irr _ (ltT_tr _ _ _ c z)
      rw [decide_eq_false this]
      simp
    · rw [decide_eq_false c]
      rfl
  have pw := List.pairwise_mergeSort tr tot raw
  have nd2 : ((raw.mergeSort leR).map (·.1)).Nodup := ((List.mergeSort_perm raw leR).map _).nodup_iff.mpr nd
  generalize raw.mergeSort leR = l at pw nd2
  clear e1 tr tot
  induction l with
  | nil => exact List.Pairwise.nil
  | cons x r ih =>
    obtain ⟨p1, p2⟩ := List.pairwise_cons.mp pw
    rw [List.map_cons] at nd2
    obtain ⟨n1, n2⟩ := List.nodup_cons.mp nd2
    refine List.pairwise_cons.mpr ⟨fun y hy => ?_, ih p2 n2⟩
    have h := p1 y hy
    unfold leR at h
    rw [Bool.not_eq_true', decide_eq_false_iff_not] at h
    exact ltT_tri h fun e => n1 (List.mem_map.mpr ⟨y, hy, e.symm⟩)
theorem rows_eq {as bs : List RowN} (h1 : as.Pairwise ltR) (h2 : bs.Pairwise ltR) (h : as.Perm bs) : as = bs := asc_eq ltR_irr ltR_tr h1 h2 fun k => h.mem_iff
theorem rows_names {as : List RowN} (h : as.Pairwise ltR) : (as.map (·.1)).Nodup := by
  refine List.Pairwise.map _ (fun a b (z : ltR a b) => ?_) h
  intro e
  have z' : ltT a.1 b.1 := z
  rw [e] at z'
  exact ltT_irr _ z'
/-- a side of a step -/
structure GoodI (n : Int) (l : List Int) : Prop where
  ne : l ≠ []
  asc : l.Pairwise (· < ·)
  inn : ∀ k ∈ l, 0 ≤ k ∧ k < n
theorem GoodI.few {n : Int} {l : List Int} (h : GoodI n l) (hn : n ≤ 30) : l.length ≤ 30 := by
  have nd : l.Nodup := h.asc.imp fun {a b} hab e => absurd hab (by rw [e]; exact Int.lt_irrefl _)
  have := nodup_le (m := (List.range 30).map fun i : Nat => (i : Int)) nd fun x hx => by
    obtain ⟨h0, h1⟩ := h.inn x hx
    exact List.mem_map.mpr ⟨x.toNat, List.mem_range.mpr (by omega), by omega⟩
  simpa using this
structure GoodR (n : Int) (r : RowN) : Prop where
  w : WordS r.1
  i : GoodI n r.2.1
  o : GoodI n r.2.2
structure GoodN (n : Int) (rows : List RowN) : Prop where
  lo : 2 ≤ n
  hi : n ≤ 30
  one : 1 ≤ rows.length
  few : rows.length ≤ 40
  row : ∀ r ∈ rows, GoodR n r
  asc : rows.Pairwise ltR
theorem part_good {n : Int} {l : List Int} (h : GoodI n l) : partD n (tupI l) = true := by
  unfold partD
  have h1 : isNilD (tupI l) = false := by
    cases l with
    | nil => exact absurd rfl h.ne
    | cons x r => rfl
  rw [h1]
  show (!false && ((l.map PyData.int).all (intIn 0 (n - 1)) && ascD (l.map PyData.int))) = true
  rw [(asc_ints l).mpr h.asc]
  have : (l.map PyData.int).all (intIn 0 (n - 1)) = true := by
    rw [List.all_map]
    refine List.all_eq_true.mpr fun k hk => ?_
    obtain ⟨a, b⟩ := h.inn k hk
    show (decide (0 ≤ k) && decide (k ≤ n - 1)) = true
    rw [decide_eq_true a, decide_eq_true (by omega)]
    rfl
  rw [this]
  rfl
theorem net_good {n : Int} {rows : List RowN} (h : GoodN n rows) : netD (netOf n rows) = true := by
  show ((decide (2 ≤ n) && decide (n ≤ 30)) && ((decide (1 ≤ (rows.map rowD).length) && decide ((rows.map rowD).length ≤ 40)) && ((rows.map rowD).all (stepD n) && ascD ((rows.map rowD).map firstD)))) = true
  rw [List.length_map, decide_eq_true h.lo, decide_eq_true h.hi, decide_eq_true h.one, decide_eq_true h.few]
  have h1 : (rows.map rowD).all (stepD n) = true := by
    rw [List.all_map]
    refine List.all_eq_true.mpr fun r hr => ?_
    have g := h.row r hr
    show stepD n (.tuple [.str r.1, tupI r.2.1, tupI r.2.2]) = true
    rw [step_parts, g.w.name, part_good g.i, part_good g.o]
    rfl
  have h2 : (rows.map rowD).map firstD = (rows.map (·.1)).map PyData.str := by
    rw [List.map_map, List.map_map]
    rfl
  rw [h1, h2, (asc_strs _).mpr (List.Pairwise.map _ (fun a b z => z) h.asc)]
  rfl
end K11

set_option Elab.async false
set_option linter.all false
set_option maxRecDepth 100000
set_option maxHeartbeats 4000000
namespace K11
open PySem L2 PySem.KX StX
open PySem.W (AllAlike Sortable dataLe EachIs alike alikeAll)
structure RawI (n : Int) (l : List Int) : Prop where
  one : 1 ≤ l.length
  few : l.length ≤ 3
  inn : ∀ k ∈ l, 0 ≤ k ∧ k < n
theorem RawI.tidy {n : Int} {l ms : List Int} (h : RawI n l) (t : Tidy l ms) (hl : ms.length ≤ 3) : GoodI n ms := by
  refine ⟨fun z => ?_, t.asc, fun k hk => h.inn k ((t.mem k).mp hk)⟩
  subst z
  match l, h.one with
  | x :: r, _ => exact nomatch (t.mem x).mpr List.mem_cons_self
theorem row_dq {K : PySem.W.Frag} {H : Hp} {t a b : Addr} {x : Str} {as bs : List Int} (h : H t = some (.tup [.str x, .ref a, .ref b])) (ha : H a = some (.tup (as.map V.int))) (hb : H b = some (.tup (bs.map V.int))) : Dq K H (.ref t) (rowD (x, as, bs)) :=
  .tup (SqT.of h) (.cons (.str x) (.cons (.tup (SqT.of ha) ints_dq) (.cons (.tup (SqT.of hb) ints_dq) .nil)))
theorem dqAll_snoc {K : PySem.W.Frag} {H : Hp} {vs : List V} {ds : List PyData} {v : V} {d : PyData} (h : DqAll K H vs ds) (k : Dq K H v d) : DqAll K H (vs ++ [v]) (ds ++ [d]) := DqAll_snoc h k
theorem alike_r (a b : RowN) : alike (rowD a) (rowD b) = true := alike_rows _ _ _ _ _ _
section
variable {P : Program} {w : World} {K : PySem.W.Frag} {mg : Str → Option Value} {base : Heap}
end
end K11


set_option Elab.async false
set_option linter.all false
set_option maxRecDepth 100000
set_option maxHeartbeats 4000000
namespace K11
open PySem L2 PySem.KX StX
theorem PI.or {X : Cx} {tg it : Expr} {w w' : TI} (h : PI X tg it w) (h' : PI X tg it w') : PI X tg it (fun σ H R => w σ H R ∨ w' σ H R) :=
  ⟨fun pins s σ H R I q => q.elim (h.run pins s σ H R I) (h'.run pins s σ H R I)⟩
theorem inV_int {k : Int} {ns : List Int} : inV (.int k) (ns.map V.int) = decide (k ∈ ns) := by
  unfold inV
  rw [List.any_map]
  by_cases h : k ∈ ns
  · rw [decide_eq_true h]
    exact List.any_eq_true.mpr ⟨k, h, by simp [eqV]⟩
  · rw [decide_eq_false h]
    refine List.any_eq_false.mpr fun y hy e => h ?_
    have e2 : (y == k) = true := e
    have e3 : y = k := by simpa using e2
    rw [← e3]
    exact hy
theorem flat_ints (ns : List Int) : (ns.map V.int).all flatV = true := by
  rw [List.all_map]
  exact List.all_eq_true.mpr fun _ _ => rfl
/-! ### what can be reached -/
inductive Reach (rows : List RowN) (b : Int) : Int → Prop
  | base : Reach rows b b
  | step {k j : Int} {r : RowN} : Reach rows b k → r ∈ rows → k ∈ r.2.1 → j ∈ r.2.2 → Reach rows b j
def flipR (r : RowN) : RowN := (r.1, r.2.2, r.2.1)
/-- a set that holds b and is closed holds all that can be reached -/
theorem Reach.least {rows : List RowN} {b : Int} {S : Int → Prop} (hb : S b) (hc : ∀ r ∈ rows, ∀ k ∈ r.2.1, S k → ∀ j ∈ r.2.2, S j) : ∀ {k : Int}, Reach rows b k → S k
  | _, .base => hb
  | _, .step h hr hk hj => hc _ hr _ hk (Reach.least hb hc h) _ hj
abbrev inD (kvs : List (Key × V)) (k : Int) : Bool := (valV kvs (.inl k)).isSome
/-- how many of the places below n are not in the dict yet -/
def cntD (n : Nat) (kvs : List (Key × V)) : Nat := ((List.range n).filter fun i : Nat => !inD kvs (i : Int)).length
theorem filter_lt {α : Type} {l : List α} {p q : α → Bool} (h : ∀ x ∈ l, q x = true → p x = true) : (l.filter q).length ≤ (l.filter p).length ∧ ∀ x ∈ l, p x = true → q x = false → (l.filter q).length < (l.filter p).length := by
  induction l with
  | nil => exact ⟨Nat.le_refl _, fun x hx => absurd hx List.not_mem_nil⟩
  | cons y r ih =>
    obtain ⟨i1, i2⟩ := ih fun x hx => h x (List.mem_cons_of_mem _ hx)
    have hy := h y List.mem_cons_self
    refine ⟨?_, fun x hx px qx => ?_⟩
    · simp only [List.filter_cons]
      cases c : q y with
      | true =>
        rw [hy c]
        simp only [if_true, List.length_cons]
        omega
      | false =>
        simp only [Bool.false_eq_true, if_false]
        split
        · rw [List.length_cons]; omega
        · exact i1
    · simp only [List.filter_cons]
      rcases List.mem_cons.mp hx with rfl | z
      · rw [px, qx]
        simp only [Bool.false_eq_true, if_false, if_true, List.length_cons]
        omega
      · have := i2 x z px qx
        cases c : q y with
        | true =>
          rw [hy c]
          simp only [if_true, List.length_cons]
          omega
        | false =>
          simp only [Bool.false_eq_true, if_false]
          split
          · rw [List.length_cons]; omega
          · exact this
theorem cnt_more {n : Nat} {kvs kvs' : List (Key × V)} (h : ∀ k, inD kvs k = true → inD kvs' k = true) : cntD n kvs' ≤ cntD n kvs ∧ ∀ k : Int, 0 ≤ k → k < n → inD kvs k = false → inD kvs' k = true → cntD n kvs' < cntD n kvs := by
  have f := filter_lt (l := List.range n) (p := fun i : Nat => !inD kvs (i : Int)) (q := fun i : Nat => !inD kvs' (i : Int)) fun x _ hx => by
    cases c : inD kvs (x : Int) with
    | false => rfl
    | true => rw [h _ c] at hx; cases hx
  refine ⟨f.1, fun k h0 h1 h2 h3 => f.2 k.toNat (List.mem_range.mpr (by omega)) ?_ ?_⟩
  · rw [Int.toNat_of_nonneg h0, h2]; rfl
  · rw [Int.toNat_of_nonneg h0, h3]; rfl
theorem cnt_le (n : Nat) (kvs : List (Key × V)) : cntD n kvs ≤ n := by
  unfold cntD
  have := List.length_filter_le (fun i : Nat => !inD kvs (i : Int)) (List.range n)
  rw [List.length_range] at this
  exact this
abbrev shave_common : Stmt := top 19
theorem schave_common : FnScope ["places", "others", "place"] ["places", "others"] (defScope shave_common) := ⟨rfl, rfl, rfl, by decide +kernel, rfl, by decide +kernel, by decide +kernel⟩
section
variable {P : Program} {w : World} {K : PySem.W.Frag} {mg : Str → Option Value} {base : Heap}
/-- ints in a tuple, or as the keys of a dict -/
def IntsAt (K : PySem.W.Frag) (H : Hp) (o : Addr) (S : Int → Bool) : Prop := (∃ ms : List Int, SqT K H o (ms.map V.int) ∧ ∀ k, S k = decide (k ∈ ms)) ∨ ∃ kvs, H o = some (.dK kvs) ∧ ∀ k, S k = inD kvs k
theorem IntsAt.same {H H' : Hp} {o : Addr} {S : Int → Bool} (s : Same H H') (h : IntsAt K H o S) : IntsAt K H' o S := by
  rcases h with ⟨ms, h1, h2⟩ | ⟨kvs, h1, h2⟩
  · exact .inl ⟨ms, s.sqT h1, h2⟩
  · exact .inr ⟨kvs, s _ _ h1, h2⟩
def rInB (K : PySem.W.Frag) : R2 := fun x y H Q => rIn K false x y H Q ∨ rInDK x y H Q
def spCommon (K : PySem.W.Frag) : Sp := fun vs H Q _ => ∃ (a o : Addr) (ns : List Int) (S : Int → Bool), vs = [.ref a, .ref o] ∧ SqT K H a (ns.map V.int) ∧ ns.length ≤ 1000 ∧ IntsAt K H o S ∧ ∀ H', Same H H' → Q (.bl (ns.any S)) H'
theorem ok_have_common {f : Addr} {fd : FuncData} (F : Fun K "have_common" "have_common" shave_common f fd) (hany : mg "any" = none) : FnG P w K mg base CX0 1 f fd ["places", "others"] (spCommon K) := by
  have nd := schave_common.nd
  refine okG F schave_common (fun vs H Q E h => ?_) (fun cdv A outer s H vs Q E hr h => ?_)
  · obtain ⟨_, _, _, _, rfl, _⟩ := h
    rfl
  · obtain ⟨a, o, ns, S, rfl, ha, hn, ho, k⟩ := h
    refine ⟨_, (pss_one (ps_ret (pe_callB (cr_any rfl) (by rfl) hany (by decide +kernel) (pa_cons (pe_lc (own := [("place", 2)]) (by rfl) nd (pi_tup (av 0)) (blkOk_by (N := ["places", "others", "place"]) (sc := defScope shave_common) (by decide +kernel)) (fun _ _ _ _ _ => (pg_name (i := 2) nd rfl (Or.inl rfl))) (fun _ _ _ _ _ => pts_nil) (fun _ _ _ _ _ => (show PE _ _ (tUp (tOp (rInB K) (aVar 2) (aVar 1))) from PE.up (pe_cmpA (OpR.or op_in_seq (op_in_dK hr.units64)) (av 2) (av 1))))) pa_nil)))), ?_⟩
    refine ⟨a, rfl, ⟨_, ha⟩, fun D hD => ?_⟩
    refine lc_itS (walk_tup (xs := ns.map V.int)) (fun j u _ => ∃ k, ns[j]? = some k ∧ u = .bl (S k)) (fun _ _ _ _ _ h => h) hD (by rw [List.length_map]; omega) (fun H' s5 => s5.sqT ha) (fun j y H' H2 hj s5 hD5 ⟨e2, hy⟩ => ?_) gName_mono (fun H' acc s6 hl la hacc => ?_)
    · subst e2
      rw [List.getElem?_map] at hy
      cases c : ns[j]? with
      | none => rw [c] at hy; cases hy
      | some k =>
        rw [c] at hy
        cases hy
        refine ⟨rfl, ?_⟩
        rcases ho.same s5 with ⟨ms, h1, h2⟩ | ⟨kvs, h1, h2⟩
        · refine .inl ⟨o, _, rfl, .inr h1, rfl, flat_ints ms, ?_⟩
          rw [if_neg (by decide), inV_int]
          exact ⟨Same.refl _, k, rfl, by rw [h2]⟩
        · exact .inr ⟨o, kvs, .inl k, rfl, rfl, h1, Same.refl _, k, rfl, by rw [h2]⟩
    · have ea : acc = (ns.map S).map V.bl := acc_mapN (by rw [la, List.length_map]) fun j v hj => by
        obtain ⟨k, h1, h2⟩ := hacc j v hj
        exact ⟨k, h1, h2⟩
      refine ⟨D, ns.map S, rfl, SqL.of (by rw [← ea]; exact hl), ?_⟩
      have e : (ns.map S).any id = ns.any S := by rw [List.any_map]; rfl
      rw [e]
      exact k _ s6
end
end K11

set_option Elab.async false
set_option linter.all false
set_option maxRecDepth 100000
set_option maxHeartbeats 4000000
namespace K11
open PySem L2 PySem.KX StX
theorem row_at {K : PySem.W.Frag} {H : Hp} {v : V} {r : RowN} (h : Dq K H v (rowD r)) : ∃ t p q, v = .ref t ∧ SqT K H t [.str r.1, .ref p, .ref q] ∧ SqT K H p (r.2.1.map V.int) ∧ SqT K H q (r.2.2.map V.int) := by
  cases h with
  | @tup t xs ds h1 h2 =>
    cases h2 with
    | cons a1 t1 =>
      cases t1 with
      | cons a2 t2 =>
        cases t2 with
        | cons a3 t3 =>
          cases t3
          cases a1
          cases a2 with
          | @tup p ys _ b1 b2 =>
            cases a3 with
            | @tup q zs _ c1 c2 =>
              have e1 := dq_ints b2
              have e2 := dq_ints c2
              subst e1
              subst e2
              exact ⟨t, p, q, rfl, h1, b1, c1⟩
section
variable {P : Program} {w : World} {K : PySem.W.Frag} {mg : Str → Option Value} {base : Heap}
end
end K11


set_option Elab.async false
set_option linter.all false
set_option maxRecDepth 100000
set_option maxHeartbeats 4000000
namespace K11
open PySem L2 PySem.KX StX
/-! ### the defects as rows -/
theorem net_at {K : PySem.W.Frag} {H : Hp} {v : V} {n : Int} {rows : List RowN} (h : Dq K H v (netOf n rows)) : ∃ na S xs, v = .ref na ∧ SqT K H na [.int n, .ref S] ∧ SqT K H S xs ∧ DqAll K H xs (rows.map rowD) := by
  cases h with
  | @tup na ys ds h1 h2 =>
    cases h2 with
    | cons a1 t1 =>
      cases t1 with
      | cons a2 t2 =>
        cases t2
        cases a1
        cases a2 with
        | @tup S xs _ b1 b2 => exact ⟨na, S, xs, rfl, h1, b1, b2⟩
theorem row_of_map {rows : List RowN} {i : Nat} {d : PyData} (hd : (rows.map rowD)[i]? = some d) : ∃ r, rows[i]? = some r ∧ rowD r = d := by
  rw [List.getElem?_map] at hd
  cases e : rows[i]? with
  | none => rw [e] at hd; cases hd
  | some r => rw [e] at hd; exact ⟨r, rfl, Option.some.inj hd⟩
theorem hid_of {D : Addr} {H : Hp} {b : Addr} {o : HO} (hb : b ≠ D) (e : H b = some o) : hide [D] H b = some o := by
  rw [hide_in (fun z => hb (List.mem_singleton.mp z))]
  exact e
theorem take_filter {α : Type} {l : List α} {p : α → Bool} {i : Nat} {a : α} (h : l[i]? = some a) : (l.take (i + 1)).filter p = (l.take i).filter p ++ if p a = true then [a] else [] := by
  rw [List.take_add_one, h, List.filter_append]
  congr 1
  show [a].filter p = _
  rw [List.filter_cons]
  rfl
section
variable {P : Program} {w : World} {K : PySem.W.Frag} {mg : Str → Option Value} {base : Heap}
end
end K11


set_option Elab.async false
set_option linter.all false
set_option maxRecDepth 100000
set_option maxHeartbeats 4000000
namespace K11
open PySem L2 PySem.KX StX
theorem cut_fromV (xs : List V) (k : Nat) : cutV xs (some (k : Int)) none = xs.drop k := by
  unfold cutV
  rw [HT.sIx_none, HT.sIx_nat]
  rw [List.take_of_length_le (by simp)]
  by_cases h : k ≤ xs.length
  · rw [Nat.min_eq_left h]
  · rw [Nat.min_eq_right (by omega), List.drop_length, List.drop_of_length_le (by omega)]
theorem eqv_intsA : ∀ ns ms : List Int, PyData.eqvAll (ns.map PyData.int) (ms.map PyData.int) = decide (ns = ms)
  | [], [] => rfl
  | [], _ :: _ => rfl
  | _ :: _, [] => rfl
  | n :: ns, m :: ms => by
    have h : PyData.eqv (.int n) (.int m) = decide (n = m) := rfl
    show (PyData.eqv (.int n) (.int m) && PyData.eqvAll (ns.map PyData.int) (ms.map PyData.int)) = _
    rw [h, eqv_intsA ns ms]
    by_cases h1 : n = m <;> by_cases h2 : ns = ms <;> simp [h1, h2]
theorem eqv_tupI (ns ms : List Int) : PyData.eqv (tupI ns) (tupI ms) = decide (ns = ms) := by
  show PyData.eqvAll (ns.map PyData.int) (ms.map PyData.int) = _
  exact eqv_intsA ns ms
theorem dp_ints {K : PySem.W.Frag} {H : Hp} : ∀ ns : List Int, DpAll K H (ns.map V.int) (ns.map PyData.int)
  | [] => .nil
  | n :: r => .cons (.int n) (dp_ints r)
theorem shaped_ints (ns : List Int) : SeqAt.shaped (tupI ns) = true := by
  have := ints_shaped ns
  unfold SeqAt.shaped at this ⊢
  simpa [PyData.canLay0, PyData.depth] using this
theorem sqT_hide {K : PySem.W.Frag} {H : Hp} {L a : Addr} {ys xs : List V} (hL : H L = some (.lst ys)) (h : SqT K H a xs) : SqT K (hide [L] H) a xs := by
  rcases h with (hs | ⟨o, hs⟩) | hs
  · exact .inl (.inl (hid_of (fun z => by rw [z, hL] at hs; cases hs) hs))
  · exact .inl (.inr ⟨o, hid_of (fun z => by rw [z, hL] at hs; cases hs) hs⟩)
  · exact .inr hs
section
variable {P : Program} {w : World} {K : PySem.W.Frag} {mg : Str → Option Value} {base : Heap}
end
end K11


set_option Elab.async false
set_option linter.all false
set_option maxRecDepth 100000
set_option maxHeartbeats 4000000
namespace K11
open PySem L2 PySem.KX StX
open Classical in
open Classical in
theorem bfalse {x : Bool} (h : ¬ (!x) = true) : x = true := by
  cases x with
  | true => rfl
  | false => exact absurd rfl h
section
variable {P : Program} {w : World} {K : PySem.W.Frag} {mg : Str → Option Value} {base : Heap}
end
end K11


set_option Elab.async false
set_option linter.all false
set_option maxRecDepth 100000
set_option maxHeartbeats 4000000
/-! sizes. -/
namespace K11
open PySem L2 PySem.KX StX
structure Nc (D W : Nat) (d : PyData) : Prop where
  sh : d.showable = true
  nd : d.hasDict = false
  dp : d.depth ≤ D
  lv : PyData.leavesShort 64 d = true
  wt : d.weight ≤ W
  sm : smQ d = true
theorem nc_int {i : Int} (h : i.natAbs < 32) : Nc 0 5 (.int i) := by
  refine ⟨?_, by simp [PyData.hasDict], by simp [PyData.depth], ?_, ?_, by simp [smQ]⟩
  · simp only [PyData.showable, decide_eq_true_eq]
    by_cases h0 : i.natAbs = 0
    · rw [h0]; decide +kernel
    · exact (Nat.log2_lt h0).mpr (Nat.lt_of_lt_of_le h (by decide +kernel))
  · simp only [PyData.leavesShort, decide_eq_true_eq]
    have e := int_text_length_le10 (a := i) (k := 2) (by decide) (by omega)
    show (Str.ofString (toString i)).length ≤ 64
    rw [PySem.ofString_length]
    omega
  · simp only [PyData.weight]
    split
    · omega
    · by_cases h0 : i.natAbs = 0
      · rw [h0]; decide +kernel
      · have := (Nat.log2_lt h0).mpr (show i.natAbs < 2 ^ 5 by omega)
        omega
theorem nc_str {x : Str} (h : WordS x) : Nc 0 8 (.str x) := by
  have hl : x.cps.toList.length ≤ 8 := h.eight
  have hl2 : x.cps.size ≤ 8 := by rw [← Array.length_toList]; exact hl
  refine ⟨by simp [PyData.showable], by simp [PyData.hasDict], by simp [PyData.depth], ?_, by simp only [PyData.weight]; exact hl2, ?_⟩
  · simp only [PyData.leavesShort]
    refine List.all_eq_true.mpr fun c hc => ?_
    have := List.all_eq_true.mp h.low c hc
    refine decide_eq_true ?_
    unfold lowL at this
    simp at this
    omega
  · simp only [smQ, decide_eq_true_eq]
    show x.cps.size ≤ 100000
    omega
theorem Nc.tup {D W L : Nat} {ds : List PyData} (h : ∀ d ∈ ds, Nc D W d) (hl : ds.length ≤ L) (hL : L ≤ 100000) : Nc (D + 1) ((W + 1) * L) (.tuple ds) := by
  have go : ∀ es : List PyData, (∀ d ∈ es, Nc D W d) → PyData.showableAll es = true ∧ PyData.hasDictAll es = false ∧ PyData.depthAll es ≤ D ∧ PyData.leavesShortAll 64 es = true ∧ PyData.weightAll es ≤ (W + 1) * es.length ∧ smQAll es = true := fun es => by
    induction es with
    | nil => intro _; simp [PyData.showableAll, PyData.hasDictAll, PyData.depthAll, PyData.leavesShortAll, PyData.weightAll, smQAll]
    | cons d r ih =>
      intro h
      obtain ⟨a1, a2, a3, a4, a5, a6⟩ := ih fun e he => h e (List.mem_cons_of_mem _ he)
      obtain ⟨b1, b2, b3, b4, b5, b6⟩ := h d List.mem_cons_self
      simp only [PyData.showableAll, PyData.hasDictAll, PyData.depthAll, PyData.leavesShortAll, PyData.weightAll, smQAll, a1, a2, a4, a6, b1, b2, b4, b6, Bool.and_self, Bool.or_self, List.length_cons, Nat.mul_succ]
      refine ⟨trivial, trivial, by omega, trivial, by omega, trivial⟩
  obtain ⟨a1, a2, a3, a4, a5, a6⟩ := go ds h
  have h5 : (W + 1) * ds.length ≤ (W + 1) * L := Nat.mul_le_mul_left _ hl
  refine ⟨by simpa only [PyData.showable] using a1, by simpa only [PyData.hasDict] using a2, by simp only [PyData.depth]; omega, by simpa only [PyData.leavesShort] using a4, by simp only [PyData.weight]; omega, ?_⟩
  simp only [smQ, a6, Bool.and_true, decide_eq_true_eq]
  omega
theorem Nc.mono {D D' W W' : Nat} {d : PyData} (h : Nc D W d) (h1 : D ≤ D') (h2 : W ≤ W') : Nc D' W' d := ⟨h.sh, h.nd, by have := h.dp; omega, h.lv, by have := h.wt; omega, h.sm⟩
theorem Nc.shown {D W : Nat} {d : PyData} (h : Nc D W d) (hW : W ≤ 250000) : d.shown.length ≤ sizeLine := by
  have h1 := PyData.shown_le 64 (by decide) d h.lv
  have := h.wt
  rw [sizeLine_eq]
  omega
theorem nc_ints {n : Int} {ns : List Int} (h : GoodI n ns) (hn : n ≤ 30) : Nc 1 180 (tupI ns) := by
  have := Nc.tup (D := 0) (W := 5) (L := 30) (ds := ns.map PyData.int) (fun d hd => by
    obtain ⟨k, hk, rfl⟩ := List.mem_map.mp hd
    have := h.inn k hk
    exact nc_int (by omega)) (by rw [List.length_map]; exact h.few hn) (by decide)
  exact this
theorem nc_row {n : Int} {r : RowN} (h : GoodR n r) (hn : n ≤ 30) : Nc 2 543 (rowD r) := by
  have := Nc.tup (D := 1) (W := 180) (L := 3) (ds := [.str r.1, tupI r.2.1, tupI r.2.2]) (fun d hd => by
    rcases List.mem_cons.mp hd with rfl | hd
    · exact (nc_str h.w).mono (by decide) (by decide)
    · rcases List.mem_cons.mp hd with rfl | hd
      · exact nc_ints h.i hn
      · rw [List.mem_singleton.mp hd]; exact nc_ints h.o hn) (by simp) (by decide)
  exact this
theorem nc_net {n : Int} {rows : List RowN} (h : GoodN n rows) : Nc 4 43522 (netOf n rows) := by
  have h1 : Nc 3 21760 (.tuple (rows.map rowD)) := Nc.tup (D := 2) (W := 543) (L := 40) (fun d hd => by
    obtain ⟨r, hr, rfl⟩ := List.mem_map.mp hd
    exact nc_row (h.row r hr) h.hi) (by rw [List.length_map]; exact h.few) (by decide)
  have h2 := h.lo
  have h3 := h.hi
  exact Nc.tup (D := 3) (W := 21760) (L := 2) (ds := [.int n, .tuple (rows.map rowD)]) (fun d hd => by
    rcases List.mem_cons.mp hd with rfl | hd
    · exact (nc_int (by omega)).mono (by decide) (by decide)
    · rw [List.mem_singleton.mp hd]; exact h1) (by simp) (by decide)
end K11


set_option Elab.async false
set_option linter.all false
set_option maxRecDepth 100000
set_option maxHeartbeats 4000000
/-! what grows: lists of lists of places. -/
namespace K11
open PySem L2 PySem.KX StX
variable {K : PySem.W.Frag}
/-- a list of some places below n, at an address of O -/
def LI (O : Addr → Prop) (M : Nat) (n : Int) (H : Hp) (i : Addr) : Prop := O i ∧ ∃ ns : List Int, H i = some (.lst (ns.map V.int)) ∧ ns ≠ [] ∧ ns.length ≤ M ∧ ∀ k ∈ ns, 0 ≤ k ∧ k < n
/-- a step: its inputs, its outputs -/
def StA (O : Addr → Prop) (M : Nat) (n : Int) (H : Hp) (v : V) : Prop := ∃ a i o, v = .ref a ∧ O a ∧ H a = some (.lst [.ref i, .ref o]) ∧ LI O M n H i ∧ LI O M n H o
theorem LI.go {O O' : Addr → Prop} {M M' : Nat} {n n' : Int} {H H' : Hp} {i : Addr} (h : LI O M n H i) (hm : M ≤ M') (hn : n ≤ n') (ho : ∀ b, O b → O' b) (s : ∀ b o, O b → H b = some o → H' b = some o) : LI O' M' n' H' i := by
  obtain ⟨h0, ns, h1, h2, h3, h4⟩ := h
  exact ⟨ho _ h0, ns, s _ _ h0 h1, h2, by omega, fun k hk => ⟨(h4 k hk).1, by have := (h4 k hk).2; omega⟩⟩
theorem StA.go {O O' : Addr → Prop} {M M' : Nat} {n n' : Int} {H H' : Hp} {v : V} (h : StA O M n H v) (hm : M ≤ M') (hn : n ≤ n') (ho : ∀ b, O b → O' b) (s : ∀ b o, O b → H b = some o → H' b = some o) : StA O' M' n' H' v := by
  obtain ⟨a, i, o, e, h0, h1, h2, h3⟩ := h
  exact ⟨a, i, o, e, ho _ h0, s _ _ h0 h1, h2.go hm hn ho s, h3.go hm hn ho s⟩
theorem ints_layA : ∀ ns : List Int, PyData.canLayAll0 (ns.map PyData.int) = true
  | [] => by simp [PyData.canLayAll0]
  | n :: r => by simp [PyData.canLayAll0, PyData.canLay0, ints_layA r]
theorem ints_depthA : ∀ ns : List Int, PyData.depthAll (ns.map PyData.int) = 0
  | [] => by simp [PyData.depthAll]
  | n :: r => by simp [PyData.depthAll, PyData.depth, ints_depthA r]
theorem StA.dp {O : Addr → Prop} {M : Nat} {n : Int} {H : Hp} {v : V} (h : StA O M n H v) : ∃ d, Dp K H v d ∧ PyData.canLay0 d = true ∧ PyData.depth d ≤ 3 := by
  obtain ⟨a, i, o, rfl, _, h1, ⟨_, ns, h2, _⟩, _, ms, h3, _⟩ := h
  refine ⟨.list [.list (ns.map .int), .list (ms.map .int)], .lst (SqL.of h1) (.cons (.lst (SqL.of h2) (dp_ints ns)) (.cons (.lst (SqL.of h3) (dp_ints ms)) .nil)), ?_, ?_⟩
  · simp [PyData.canLay0, PyData.canLayAll0, ints_layA]
  · simp [PyData.depth, PyData.depthAll, ints_depthA]
theorem stas_dp {O : Addr → Prop} {M : Nat} {n : Int} {H : Hp} : ∀ {xs : List V}, (∀ v ∈ xs, StA O M n H v) → ∃ ds, DpAll K H xs ds ∧ ds.length = xs.length ∧ PyData.canLayAll0 ds = true ∧ PyData.depthAll ds ≤ 3
  | [], _ => ⟨[], .nil, rfl, by simp [PyData.canLayAll0], by simp [PyData.depthAll]⟩
  | v :: r, h => by
    obtain ⟨d, h1, h2, h3⟩ := (h v List.mem_cons_self).dp (K := K)
    obtain ⟨ds, k1, k2, k3, k4⟩ := stas_dp fun u hu => h u (List.mem_cons_of_mem _ hu)
    refine ⟨d :: ds, .cons h1 k1, by simp [k2], by simp [PyData.canLayAll0, h2, k3], ?_⟩
    simp only [PyData.depthAll]
    omega
theorem shaped_of {ds : List PyData} (h1 : PyData.canLayAll0 ds = true) (h2 : PyData.depthAll ds ≤ 3) : SeqAt.shaped (.list ds) = true := by
  unfold SeqAt.shaped
  rw [Bool.and_eq_true]
  refine ⟨by simpa [PyData.canLay0] using h1, decide_eq_true ?_⟩
  simp only [PyData.depth]
  omega
/-- places, steps -/
def GrA (p : Addr) (M : Nat) (H : Hp) (G : Addr) (n : Int) (xs : List V) : Prop := ∃ St, G ≠ p ∧ St ≠ p ∧ H G = some (.lst [.int n, .ref St]) ∧ H St = some (.lst xs) ∧ 2 ≤ n ∧ 1 ≤ xs.length ∧ ∀ v ∈ xs, StA (· ≠ p) M n H v
theorem GrA.nx {p : Addr} {M : Nat} {H H' : Hp} {G : Addr} {n : Int} {xs : List V} (h : GrA p M H G n xs) (s : Nxt p H H') : GrA p M H' G n xs := by
  obtain ⟨St, a, b, c, d, e, f, g⟩ := h
  exact ⟨St, a, b, s.get a c, s.get b d, e, f, fun v hv => (g v hv).go (Nat.le_refl _) (Int.le_refl _) (fun _ h => h) fun b o hb e => s.get hb e⟩
abbrev s_law_fitting : Stmt := top 36
theorem sc_law_fitting : FnScope ["grown"] ["grown"] (defScope s_law_fitting) := ⟨rfl, rfl, rfl, by decide +kernel, rfl, by decide +kernel, by decide +kernel⟩
section
variable {P : Program} {w : World} {mg : Str → Option Value} {base : Heap}
def spFit : Sp := fun vs H Q _ => ∃ (p G : Addr) (M : Nat) (n : Int) (xs : List V), vs = [.ref G] ∧ GrA p M H G n xs ∧ Q (.bl (decide (n < 31 ∧ xs.length < 41))) H
theorem ok_law_fitting {f : Addr} {fd : FuncData} (F : Fun K "_law_fitting" "_law_fitting" s_law_fitting f fd) (hlen : mg "len" = none) : FnG P w K mg base CX0 1 f fd ["grown"] spFit := by
  refine okG F sc_law_fitting (fun vs H Q E h => ?_) (fun cdv A outer s H vs Q E hr h => ?_)
  · obtain ⟨_, _, _, _, _, rfl, _⟩ := h
    rfl
  · obtain ⟨p, G, M, n, xs, rfl, ⟨St, _, _, hG, hS, h2, h1, hv⟩, k⟩ := h
    refine ⟨_, (pss_one (ps_ret (pe_and (pe_cmpA op_ltA (pe_ixA (av 0) pe_int) pe_int) (pe_one (pe_cmpA op_ltA (pe_callB call_lenA (by rfl) hlen PySem.boot_len (pa_cons (pe_ixA (av 0) pe_int) pa_nil)) pe_int))))), ?_⟩
    refine .inl ⟨_, .int n, SqL.of hG, rfl, ?_⟩
    refine ⟨_, rfl, ?_⟩
    refine ite2 (fun c => ?_) (fun c => ?_)
    · have c' : n < 31 := of_decide_eq_true c
      refine .inl ⟨_, .ref St, SqL.of hG, rfl, ?_⟩
      refine .inl ⟨_, SqL.of hS, ?_⟩
      have e : decide ((xs.length : Int) < 41) = decide (n < 31 ∧ xs.length < 41) := by
        by_cases q : xs.length < 41
        · rw [decide_eq_true (show (xs.length : Int) < 41 by omega), decide_eq_true ⟨c', q⟩]
        · rw [decide_eq_false (show ¬ (xs.length : Int) < 41 by omega), decide_eq_false fun z => q z.2]
      rw [← e] at k
      exact k
    · have c' : ¬ n < 31 := fun z => c (decide_eq_true z)
      rw [decide_eq_false fun z => c' z.1] at k
      exact k
end
end K11

set_option Elab.async false
set_option linter.all false
set_option maxRecDepth 100000
set_option maxHeartbeats 4000000
namespace K11
open PySem L2 PySem.KX StX
abbrev s_law_grown : Stmt := top 33
abbrev N_gr : List Str := ["dice", "turns", "total", "steps", "turn", "at", "way", "ins", "outs", "some", "loop", "other", "step", "place"]
theorem sc_law_grown : FnScope N_gr ["dice", "turns"] (defScope s_law_grown) := ⟨rfl, rfl, rfl, by decide +kernel, rfl, by decide +kernel, by decide +kernel⟩
/-- the scope of the outer comprehension -/
abbrev scSome : Scope := { kind := ScopeKind.function, names := [(".0", NameKind.local), ("step", NameKind.local), ("outs", NameKind.cell)], isGenerator := false, isCoroutine := false }
/-- all but the list of steps and the dice stays -/
def Kp (St p : Addr) (H H' : Hp) : Prop := ∀ b o, b ≠ St ∧ b ≠ p → H b = some o → H' b = some o
theorem Kp.refl {St p : Addr} {H : Hp} : Kp St p H H := fun _ _ _ e => e
theorem Kp.trans {St p : Addr} {H H' H2 : Hp} (a : Kp St p H H') (b : Kp St p H' H2) : Kp St p H H2 := fun c o hc e => b c o hc (a c o hc e)
theorem Kp.of {St p : Addr} {H H' : Hp} (s : Same H H') : Kp St p H H' := fun b o _ e => s b o e
theorem Kp.dice {St p : Addr} {H H' : Hp} (e : ∀ b, b ≠ p → H' b = H b) : Kp St p H H' := fun b o hb h => (e b hb.2).trans h
theorem Kp.upd {St p : Addr} {H : Hp} {o : HO} : Kp St p H (L2.upd H St o) := fun b u hb h => by rw [upd_ne hb.1]; exact h
abbrev StB (St p : Addr) (M : Nat) (n : Int) (H : Hp) (v : V) : Prop := StA (fun b => b ≠ St ∧ b ≠ p) M n H v
theorem StA.kp {St p : Addr} {M M' : Nat} {n n' : Int} {H H' : Hp} {v : V} (h : StB St p M n H v) (hm : M ≤ M') (hn : n ≤ n') (k : Kp St p H H') : StB St p M' n' H' v := h.go hm hn (fun _ h => h) k
/-- all of them are steps -/
def AllB (St p : Addr) (M : Nat) (n : Int) (H : Hp) (xs : List V) : Prop := ∀ v ∈ xs, StB St p M n H v
theorem AllB.kp {St p : Addr} {M M' : Nat} {n n' : Int} {H H' : Hp} {xs : List V} (h : AllB St p M n H xs) (hm : M ≤ M') (hn : n ≤ n') (k : Kp St p H H') : AllB St p M' n' H' xs := fun v hv => (h v hv).kp hm hn k
theorem AllB.snoc {St p : Addr} {M : Nat} {n : Int} {H : Hp} {xs : List V} {v : V} (h : AllB St p M n H xs) (k : StB St p M n H v) : AllB St p M n H (xs ++ [v]) := fun u hu => by
  rcases List.mem_append.mp hu with z | z
  · exact h u z
  · rw [List.mem_singleton.mp z]; exact k
theorem AllB.set {St p : Addr} {M : Nat} {n : Int} {H : Hp} {xs : List V} {v : V} {j : Nat} (h : AllB St p M n H xs) (k : StB St p M n H v) : AllB St p M n H (xs.set j v) := fun u hu => by
  rcases List.mem_or_eq_of_mem_set hu with z | z
  · exact h u z
  · rw [z]; exact k
theorem ixN_at {n j : Nat} (hj : j < n) : ixN n (j : Int) = some j := by
  unfold ixN
  rw [if_pos (by omega), if_pos (by omega)]
  simp
/-- where we are -/
structure Cur (St p : Addr) (m : Int) (H0 H7 H : Hp) (xs : List V) : Prop where
  S : H St = some (.lst xs)
  d : Dc p m H
  nx : Nxt p H0 H
  k : Kp St p H7 H
  f : H0 St = none
  ne : St ≠ p
theorem Cur.same {St p : Addr} {m : Int} {H0 H7 H H' : Hp} {xs : List V} (c : Cur St p m H0 H7 H xs) (s : Same H H') : Cur St p m H0 H7 H' xs := ⟨s _ _ c.S, c.d.same s, c.nx.trans (Nxt.of s), c.k.trans (Kp.of s), c.f, c.ne⟩
theorem Cur.put {St p : Addr} {m : Int} {H0 H7 H : Hp} {xs ys : List V} (c : Cur St p m H0 H7 H xs) : Cur St p m H0 H7 (L2.upd H St (.lst ys)) ys := ⟨upd_same, c.d.upd c.ne, c.nx.put c.f, c.k.trans Kp.upd, c.f, c.ne⟩
theorem Cur.dice {St p : Addr} {m m' : Int} {H0 H7 H H' : Hp} {xs : List V} (c : Cur St p m H0 H7 H xs) (e : ∀ b, b ≠ p → H' b = H b) (d : Dc p m' H') : Cur St p m' H0 H7 H' xs := ⟨(e _ c.ne).trans c.S, d, c.nx.trans (Nxt.of_eq e), c.k.trans (Kp.dice e), c.f, c.ne⟩
theorem Cur.off {St p : Addr} {m : Int} {H0 H7 H : Hp} {xs : List V} (c : Cur St p m H0 H7 H xs) {b : Addr} (e : H b = none) : b ≠ St ∧ b ≠ p := ⟨fun z => (by rw [z, c.S] at e; cases e), c.d.ne e⟩
theorem li_one {O : Addr → Prop} {M : Nat} {n k : Int} {H : Hp} {b : Addr} (h0 : O b) (e : H b = some (.lst [.int k])) (hm : 1 ≤ M) (h1 : 0 ≤ k) (h2 : k < n) : LI O M n H b := ⟨h0, [k], e, by simp, by simpa using hm, fun j hj => by rw [List.mem_singleton.mp hj]; exact ⟨h1, h2⟩⟩
theorem li_two {O : Addr → Prop} {M : Nat} {n k l : Int} {H : Hp} {b : Addr} (h0 : O b) (e : H b = some (.lst [.int k, .int l])) (hm : 2 ≤ M) (h1 : 0 ≤ k ∧ k < n) (h2 : 0 ≤ l ∧ l < n) : LI O M n H b := ⟨h0, [k, l], e, by simp, by simpa using hm, fun j hj => by
  rcases List.mem_cons.mp hj with rfl | z
  · exact h1
  · rw [List.mem_singleton.mp z]; exact h2⟩
abbrev LIB (St p : Addr) := LI (fun b => b ≠ St ∧ b ≠ p)
theorem LI.kp {St p : Addr} {M M' : Nat} {n n' : Int} {H H' : Hp} {b : Addr} (h : LIB St p M n H b) (hm : M ≤ M') (hn : n ≤ n') (k : Kp St p H H') : LIB St p M' n' H' b := h.go hm hn (fun _ h => h) k
section
variable {P : Program} {w : World} {K : PySem.W.Frag} {mg : Str → Option Value} {base : Heap}
def GS (p : Addr) (m : Int) (H0 : Hp) (St : Addr) (turns : Int) (i : Nat) (σ : L2.St) (H' : Hp) : Prop := ∃ (n : Int) (xs : List V) (o4 o5 o6 o7 o8 o9 o10 o11 o12 o13 : Option V), σ = [some (.ref p), some (.int turns), some (.int n), some (.ref St), o4, o5, o6, o7, o8, o9, o10, o11, o12, o13] ∧ H' St = some (.lst xs) ∧ Nxt p H0 H' ∧ Dc p (m + 4 * i) H' ∧ 2 ≤ n ∧ n ≤ 2 + 4 * i ∧ 1 ≤ xs.length ∧ xs.length ≤ 1 + 3 * i ∧ (3 * (xs.length : Int) ≤ n + 1 + 5 * i) ∧ ∀ v ∈ xs, StB St p (2 ^ i) n H' v
theorem GS.mk {p : Addr} {m m' : Int} {H0 H7 Hx : Hp} {St : Addr} {turns : Int} {i : Nat} {n : Int} {ys : List V} {o4 o5 o6 o7 o8 o9 o10 o11 o12 o13 : Option V} (c : Cur St p m' H0 H7 Hx ys) (hd : m' ≤ m + 4 * (i + 1)) (h1 : 2 ≤ n) (h2 : n ≤ 2 + 4 * (i + 1)) (h3 : 1 ≤ ys.length) (h4 : ys.length ≤ 1 + 3 * (i + 1)) (h : AllB St p (2 ^ (i + 1)) n Hx ys) (h5 : 3 * (ys.length : Int) ≤ n + 1 + 5 * (i + 1) := by first | omega | (simp; omega)) :
    GS p m H0 St turns (i + 1) [some (.ref p), some (.int turns), some (.int n), some (.ref St), o4, o5, o6, o7, o8, o9, o10, o11, o12, o13] Hx := ⟨n, ys, _, _, _, _, _, _, _, _, _, _, rfl, c.S, c.nx, c.d.mono (by omega), h1, by omega, h3, by omega, by omega, h⟩
theorem LI.copy {St p : Addr} {M : Nat} {n : Int} {H : Hp} {b : Addr} (h : LIB St p M n H b) : ∃ ns : List Int, H b = some (.lst (ns.map V.int)) ∧ ns ≠ [] ∧ ns.length ≤ M ∧ (∀ k ∈ ns, 0 ≤ k ∧ k < n) ∧ ∀ (H' : Hp) (c : Addr), c ≠ St ∧ c ≠ p → H' c = some (.lst (ns.map V.int)) → LIB St p M n H' c := by
  obtain ⟨h0, ns, h1, h2, h3, h4⟩ := h
  exact ⟨ns, h1, h2, h3, h4, fun H' c hc e => ⟨hc, ns, e, h2, h3, h4⟩⟩
def spGrown : Sp := fun vs H Q _ => ∃ (p : Addr) (m : Int) (t : Nat), vs = [.ref p, .int t] ∧ Dc p m H ∧ m + 1000 < 2 ^ 30 ∧ t ≤ 9 ∧
  ∀ (G : Addr) (n : Int) (xs : List V) (H' : Hp), Nxt p H H' → Dc p (m + 40) H' → GrA p 512 H' G n xs → n ≤ 2 + 4 * t → xs.length ≤ 1 + 3 * t → 3 * (xs.length : Int) ≤ n + 1 + 5 * t → Q (.ref G) H'
theorem ok_law_grown {f : Addr} {fd : FuncData} (Fu : Fun K "_law_grown" "_law_grown" s_law_grown f fd) (TX : TxtX mg) (O_law_roll : Own P w K mg base CX0 "_law_roll" 1 ["dice", "total"] spRollD) (O_law_one_of : Own P w K mg base CX0 "_law_one_of" 2 ["dice", "items"] spOneD) : FnG P w K mg base CX0 3 f fd ["dice", "turns"] spGrown := by
  have nd := sc_law_grown.nd
  refine okG Fu sc_law_grown (fun vs H Q E h => ?_) (fun cdv A outer s H vs Q E hr h => ?_)
  · obtain ⟨_, _, _, rfl, _⟩ := h
    rfl
  · obtain ⟨p, m, turns, rfl, hp, hm, ht, k⟩ := h
    refine ⟨_, (pss_cons (ps_par (i := 2) (j := 3) (by rfl) nd rfl rfl (by decide) rfl rfl (pa_cons pe_int (pa_cons (pe_lstS (pa_cons (pe_lstS (pa_cons (pe_lstS (pa_cons pe_int pa_nil)) (pa_cons (pe_lstS (pa_cons pe_int pa_nil)) pa_nil))) pa_nil)) pa_nil)) (by rfl))
      (pss_cons (ps_for PassesOwn.never rfl (pi_range1 (by rfl) TX.range (pa_cons (av 1) pa_nil)) (pg_name (i := 4) nd rfl (by first | exact Or.inl rfl | exact Or.inr rfl)) (pss_cons (ps_par (i := 5) (j := 6) (by rfl) nd rfl rfl (by decide) rfl rfl (pa_cons (pe_own O_law_roll hr (pa_cons (av 0) (pa_cons (pe_callB call_lenA (by rfl) TX.len PySem.boot_len (pa_cons (av 3) pa_nil)) pa_nil)) (by decide)) (pa_cons (pe_own O_law_roll hr (pa_cons (av 0) (pa_cons pe_int pa_nil)) (by decide)) pa_nil)) (by rfl))
      (pss_cons (ps_asg (pe_ixA (av 3) (av 5)) (pg_unp rfl (pgs_cons (pg_name (i := 7) nd rfl (by first | exact Or.inl rfl | exact Or.inr rfl)) (pgs_cons (pg_name (i := 8) nd rfl (by first | exact Or.inl rfl | exact Or.inr rfl)) pgs_nil))))
      (pss_one (ps_if (pt_cmpA op_ltA (av 6) pe_int) (pss_cons (ps_asg (pe_lstS (pa_cons (av 7) (pa_cons (pe_lstS (pa_cons (av 2) pa_nil)) pa_nil))) (pg_sub (av 3) (av 5) set_list))
      (pss_cons (ps_expr (pe_appS (av 3) (pe_lstS (pa_cons (pe_lstS (pa_cons (av 2) pa_nil)) (pa_cons (av 8) pa_nil)))))
      (pss_one (ps_set (i := 2) nd rfl (by first | exact Or.inl rfl | exact Or.inr rfl) (pe_op op_addA (av 2) pe_int))))) (pss_one (ps_if (pt_cmpA (op_eqA hr.units64) (av 6) pe_int) (pss_one (ps_expr (pe_appS (av 3) (pe_lstS (pa_cons (pe_callTy call_lstS (by rfl) TX.list (by decide +kernel) (pa_cons (av 7) pa_nil)) (pa_cons (pe_callTy call_lstS (by rfl) TX.list (by decide +kernel) (pa_cons (av 8) pa_nil)) pa_nil)))))) (pss_one (ps_if (pt_cmpA (op_eqA hr.units64) (av 6) pe_int) (pss_cons (ps_asg (pe_lstS (pa_cons (av 7) (pa_cons (pe_lstS (pa_cons (av 2) (pa_cons (pe_op op_addA (av 2) pe_int) pa_nil))) pa_nil))) (pg_sub (av 3) (av 5) set_list))
      (pss_cons (ps_expr (pe_appS (av 3) (pe_lstS (pa_cons (pe_lstS (pa_cons (pe_op op_addA (av 2) pe_int) (pa_cons (pe_op op_addA (av 2) pe_int) pa_nil))) (pa_cons (av 8) pa_nil)))))
      (pss_cons (ps_expr (pe_appS (av 3) (pe_lstS (pa_cons (pe_lstS (pa_cons (av 2) pa_nil)) (pa_cons (pe_lstS (pa_cons (pe_op op_addA (av 2) pe_int) pa_nil)) pa_nil)))))
      (pss_cons (ps_expr (pe_appS (av 3) (pe_lstS (pa_cons (pe_lstS (pa_cons (pe_op op_addA (av 2) pe_int) pa_nil)) (pa_cons (pe_lstS (pa_cons (pe_op op_addA (av 2) pe_int) pa_nil)) pa_nil)))))
      (pss_one (ps_set (i := 2) nd rfl (by first | exact Or.inl rfl | exact Or.inr rfl) (pe_op op_addA (av 2) pe_int))))))) (pss_one (ps_if (pt_cmpA (op_eqA hr.units64) (av 6) pe_int) (pss_cons (ps_setLc (i := 9) (own := [("step", 12)]) (by rfl) nd rfl rfl (sw_true rfl rfl rfl (by decide +kernel)) (pi_list (av 3)) (blkOk_by (N := N_gr) (sc := defScope s_law_grown) (by decide +kernel)) (fun _ _ _ _ _ => (pg_name (i := 12) nd rfl (by first | exact Or.inl rfl | exact Or.inr rfl))) (fun _ _ _ _ _ => (pts_one (show PT _ _ (aTest (tOp (rIn K true) (tC (.int 0)) (tOp (rIxA K) (aVar 12) (tC (.int 0))))) from pt_cmpA op_notIn_seq pe_int (pe_ixA (av 12) pe_int)))) (fun _ _ _ _ _ => (av 12)))
      (pss_one (ps_if (pt_cmpA (op_neA hr.units64) (av 9) (pe_lstS pa_nil)) (pss_cons (ps_set (i := 10) nd rfl (by first | exact Or.inl rfl | exact Or.inr rfl) (pe_ixA (pe_own O_law_one_of hr (pa_cons (av 0) (pa_cons (av 9) pa_nil)) (by decide)) pe_int))
      (pss_one (ps_if (pt_cmpA (op_eqA hr.units64) (pe_own O_law_roll hr (pa_cons (av 0) (pa_cons pe_int pa_nil)) (by decide)) pe_int) (pss_one (ps_expr (pe_appS (av 3) (pe_lstS (pa_cons (pe_callTy call_lstS (by rfl) TX.list (by decide +kernel) (pa_cons (av 10) pa_nil)) (pa_cons (pe_callTy call_lstS (by rfl) TX.list (by decide +kernel) (pa_cons (av 10) pa_nil)) pa_nil)))))) (pss_cons (ps_expr (pe_appS (av 3) (pe_lstS (pa_cons (pe_callTy call_lstS (by rfl) TX.list (by decide +kernel) (pa_cons (av 10) pa_nil)) (pa_cons (pe_lstS (pa_cons (av 2) pa_nil)) pa_nil)))))
      (pss_cons (ps_expr (pe_appS (av 3) (pe_lstS (pa_cons (pe_lstS (pa_cons (av 2) pa_nil)) (pa_cons (pe_callTy call_lstS (by rfl) TX.list (by decide +kernel) (pa_cons (av 10) pa_nil)) pa_nil)))))
      (pss_one (ps_set (i := 2) nd rfl (by first | exact Or.inl rfl | exact Or.inr rfl) (pe_op op_addA (av 2) pe_int)))))))) pss_nil))) (pss_cons (ps_setLc (i := 9) (own := [("step", 12)]) (by rfl) nd rfl rfl (sw_true rfl rfl rfl (by decide +kernel)) (pi_list (av 3)) (blkOk_by (N := N_gr) (sc := defScope s_law_grown) (by decide +kernel)) (fun _ _ _ _ _ => (pg_name (i := 12) nd rfl (by first | exact Or.inl rfl | exact Or.inr rfl))) (fun _ _ _ _ _ => (pts_one (show PT _ _ (aTest (tOp (rEqA K) _ (tLstS tNil))) from pt_cmpA (op_eqA hr.units64) (pe_lc (own := [("place", 13)]) (by rfl) nd (show PI _ _ _ (iList K (tOp (rIxA K) (aVar 12) (tC (.int 0)))) from pi_list (pe_ixA (av 12) pe_int)) (blkOk_by (N := N_gr) (sc := scSome) (by decide +kernel)) (fun _ _ _ _ _ => (pg_name (i := 13) nd rfl (by first | exact Or.inl rfl | exact Or.inr rfl))) (fun _ _ _ _ _ => (pts_one (show PT _ _ (aTest (tOp (rIn K true) (aVar 13) (aVar 8))) from pt_cmpA op_notIn_seq (av 13) (av 8)))) (fun _ _ _ _ _ => pe_int)) (pe_lstS pa_nil)))) (fun _ _ _ _ _ => (av 12)))
      (pss_one (ps_if (pt_cmpA (op_neA hr.units64) (av 9) (pe_lstS pa_nil)) (pss_cons (ps_set (i := 11) nd rfl (by first | exact Or.inl rfl | exact Or.inr rfl) (pe_own O_law_one_of hr (pa_cons (av 0) (pa_cons (av 9) pa_nil)) (by decide)))
      (pss_one (ps_expr (pe_appS (av 3) (pe_lstS (pa_cons (pe_callTy call_lstS (by rfl) TX.list (by decide +kernel) (pa_cons (av 7) pa_nil)) (pa_cons (pe_op op_addS (pe_lc (own := [("place", 13)]) (by rfl) nd (pi_list (av 8)) (blkOk_by (N := N_gr) (sc := defScope s_law_grown) (by decide +kernel)) (fun _ _ _ _ _ => (pg_name (i := 13) nd rfl (by first | exact Or.inl rfl | exact Or.inr rfl))) (fun _ _ _ _ _ => (pts_one (show PT _ _ (aTest (tOp (rIn K true) (aVar 13) (tOp (rIxA K) (aVar 11) (tC (.int 0))))) from pt_cmpA op_notIn_seq (av 13) (pe_ixA (av 11) pe_int)))) (fun _ _ _ _ _ => (av 13))) (pe_callTy call_lstS (by rfl) TX.list (by decide +kernel) (pa_cons (pe_ixA (av 11) pe_int) pa_nil))) pa_nil))))))) pss_nil))))))))))))))
      (pss_one (ps_ret (pe_lstS (pa_cons (av 2) (pa_cons (av 3) pa_nil))))))), ?_⟩
    refine ⟨by simp, fun i0 H1 s1 n1 l1 => ?_⟩
    refine ⟨by simp, fun o0 H2 s2 n2 l2 => ?_⟩
    refine ⟨by simp, fun a0 H3 s3 n3 l3 => ?_⟩
    refine ⟨by simp, fun St H4 s4 n4 l4 => ?_⟩
    have hSp : St ≠ p := (hp.same ((s1.trans s2).trans s3)).ne n4
    have hi0p : i0 ≠ p := hp.ne n1
    have ho0p : o0 ≠ p := (hp.same s1).ne n2
    have ha0p : a0 ≠ p := (hp.same (s1.trans s2)).ne n3
    have ne0 : ∀ {b : Addr} {o : HO}, H3 b = some o → b ≠ St := fun {b o} e z => by rw [z, n4] at e; cases e
    have hfr : H St = none := ((s1.trans s2).trans s3).free n4
    have s14 := ((s1.trans s2).trans s3).trans s4
    refine ⟨_, _, rfl, ?_⟩
    refine ⟨_, rfl, by omega, by omega, for_range (lo := 0) (n := ((turns : Nat) : Int).toNat) (GS p m H St turns)
      ⟨2, _, _, _, _, _, _, _, _, _, _, _, rfl, l4, Nxt.of s14, (hp.same s14).mono (by omega), by omega, by omega, by simp, by simp, by simp, fun v hv => ?_⟩ ?_ ?_⟩
    · rw [List.mem_singleton.mp hv]
      exact ⟨a0, i0, o0, rfl, ⟨ne0 l3, ha0p⟩, s4 _ _ l3, ⟨⟨ne0 (s3 _ _ (s2 _ _ l1)), hi0p⟩, [0], s4 _ _ (s3 _ _ (s2 _ _ l1)), by simp, by simp, fun k hk => by rw [List.mem_singleton.mp hk]; omega⟩,
        ⟨ne0 (s3 _ _ l2), ho0p⟩, [1], s4 _ _ (s3 _ _ l2), by simp, by simp, fun k hk => by rw [List.mem_singleton.mp hk]; omega⟩
    · rintro i σ H5 hi ⟨n, xs, o4, o5, o6, o7, o8, o9, o10, o11, o12, o13, rfl, hS, nx, dc, hn2, hn, hl1, hl, hl3, hv⟩
      have hit : i < 9 := by omega
      -- at, way
      refine .inl ⟨xs, SqL.of hS, ?_⟩
      refine ⟨p, _, _, rfl, dc, by omega, by omega, by omega, fun r H6 r0 r1 dc6 e6 => ?_⟩
      refine ⟨p, _, _, rfl, dc6, by omega, by omega, by omega, fun r2 H7 r20 r21 dc7 e7 => ?_⟩
      refine ⟨_, _, rfl, ?_⟩
      have e57 : ∀ b, b ≠ p → H7 b = H5 b := fun b hb => (e7 b hb).trans (e6 b hb)
      have hS7 : H7 St = some (.lst xs) := (e57 St hSp).trans hS
      have nx7 : Nxt p H H7 := nx.trans (Nxt.of_eq e57)
      obtain ⟨j, rfl⟩ : ∃ j : Nat, r = (j : Int) := ⟨r.toNat, by omega⟩
      have hj : j < xs.length := by omega
      have hv7 : ∀ v ∈ xs, StB St p (2 ^ i) n H7 v := fun v h => (hv v h).kp (Nat.le_refl _) (Int.le_refl _) (Kp.dice e57)
      obtain ⟨a, I, O, hav, ha, hac, hI, hO⟩ := hv7 xs[j] (List.getElem_mem hj)
      have hat : xs[j]? = some (.ref a) := by rw [List.getElem?_eq_getElem hj, hav]
      refine .inl ⟨_, .ref a, SqL.of hS7, atI_nat hat, ?_⟩
      refine ⟨a, _, rfl, SqL.of hac, rfl, _, _, rfl, _, _, rfl, rfl, ?_⟩
      have M1 : 2 ^ i ≤ 2 ^ (i + 1) := Nat.pow_le_pow_right (by decide) (by omega)
      have M2 : 1 ≤ 2 ^ i := Nat.one_le_two_pow
      have M3 : 2 ^ (i + 1) = 2 ^ i + 2 ^ i := by rw [Nat.pow_succ]; omega
      have cur : Cur St p (m + 4 * i + 2) H H7 H7 xs := ⟨hS7, dc7.mono (by omega), nx7, Kp.refl, hfr, hSp⟩
      refine ite2 (fun c => ?_) (fun c => ?_)
      · -- a sequence
        refine ⟨by simp, fun t1 H8 s8 n8 l8 => ?_⟩
        refine ⟨by simp, fun b1 H9 s9 n9 l9 => ?_⟩
        have c8 := cur.same s8
        have c9 := c8.same s9
        refine ⟨St, xs, _, j, rfl, rfl, c9.S, ixN_at hj, ?_⟩
        have c10 := c9.put (ys := xs.set j (.ref b1))
        have k10 : Kp St p H9 (upd H9 St (.lst (xs.set j (.ref b1)))) := Kp.upd
        generalize upd H9 St (.lst (xs.set j (.ref b1))) = H10 at c10 k10 ⊢
        refine ⟨St, _, rfl, c10.S, ?_⟩
        refine ⟨by simp, fun t2 H11 s11 n11 l11 => ?_⟩
        refine ⟨by simp, fun b2 H12 s12 n12 l12 => ?_⟩
        have c11 := c10.same s11
        have c12 := c11.same s12
        refine ⟨_, c12.S, by rw [List.length_set]; omega, ?_⟩
        have c13 := c12.put (ys := xs.set j (.ref b1) ++ [.ref b2])
        have k912 : Kp St p H9 H12 := (k10.trans (Kp.of s11)).trans (Kp.of s12)
        have h1 : StB St p (2 ^ (i + 1)) (n + 1) H12 (.ref b1) := ⟨b1, I, t1, rfl, c8.off n9, k912 _ _ (c8.off n9) l9, hI.kp M1 (by omega) c12.k, li_one (cur.off n8) (k912 _ _ (cur.off n8) (s9 _ _ l8)) (by omega) (by omega) (by omega)⟩
        have h2 : StB St p (2 ^ (i + 1)) (n + 1) H12 (.ref b2) := ⟨b2, t2, O, rfl, c11.off n12, l12, li_one (c10.off n11) (s12 _ _ l11) (by omega) (by omega) (by omega), hO.kp M1 (by omega) c12.k⟩
        have hall : AllB St p (2 ^ (i + 1)) (n + 1) H12 (xs.set j (.ref b1) ++ [.ref b2]) := AllB.snoc (AllB.set (AllB.kp hv7 M1 (by omega) c12.k) h1) h2
        exact ⟨n + 1, _, _, _, _, _, _, _, _, _, _, _, rfl, c13.S, c13.nx, c13.d.mono (by omega), by omega, by omega, by simp, by simp; omega, by simp; omega, hall.kp (Nat.le_refl _) (Int.le_refl _) Kp.upd⟩
      obtain ⟨ins, eI, neI, leI, inI, cpI⟩ := hI.copy
      obtain ⟨outs, eO, neO, leO, inO, cpO⟩ := hO.copy
      refine ite2 (fun c2 => ?_) (fun c2 => ?_)
      · -- a choice
        refine ⟨St, _, rfl, cur.S, ?_⟩
        refine ⟨I, _, rfl, .inl (SqL.of eI), fun t1 H8 s8 n8 l8 => ?_⟩
        refine ⟨O, _, rfl, .inl (SqL.of (s8 _ _ eO)), fun t2 H9 s9 n9 l9 => ?_⟩
        refine ⟨by simp, fun b1 H10 s10 n10 l10 => ?_⟩
        have c8 := cur.same s8
        have c9 := c8.same s9
        have c10 := c9.same s10
        refine ⟨_, c10.S, by omega, ?_⟩
        have c13 := c10.put (ys := xs ++ [.ref b1])
        have h1 : StB St p (2 ^ i) n H10 (.ref b1) := ⟨b1, t1, t2, rfl, c9.off n10, l10, cpI _ _ (cur.off n8) (s10 _ _ (s9 _ _ l8)), cpO _ _ (c8.off n9) (s10 _ _ l9)⟩
        have hall : AllB St p (2 ^ i) n H10 (xs ++ [.ref b1]) := AllB.snoc (AllB.kp hv7 (Nat.le_refl _) (Int.le_refl _) c10.k) h1
        exact GS.mk c13 (by omega) hn2 (by omega) (by simp) (by simp; omega) (hall.kp M1 (Int.le_refl _) Kp.upd)
      refine ite2 (fun c3 => ?_) (fun c3 => ?_)
      · -- two branches
        refine ⟨by simp, fun t1 H8 s8 n8 l8 => ?_⟩
        refine ⟨by simp, fun b1 H9 s9 n9 l9 => ?_⟩
        have c8 := cur.same s8
        have c9 := c8.same s9
        refine ⟨St, xs, _, j, rfl, rfl, c9.S, ixN_at hj, ?_⟩
        have h1 : StB St p (2 ^ (i + 1)) (n + 4) H9 (.ref b1) := ⟨b1, I, t1, rfl, c8.off n9, l9, hI.kp M1 (by omega) c9.k, li_two (cur.off n8) (s9 _ _ l8) (by omega) (by omega) (by omega)⟩
        have c10 := c9.put (ys := xs.set j (.ref b1))
        have a10 : AllB St p (2 ^ (i + 1)) (n + 4) (upd H9 St (.lst (xs.set j (.ref b1)))) (xs.set j (.ref b1)) := (AllB.set (AllB.kp hv7 M1 (by omega) c9.k) h1).kp (Nat.le_refl _) (Int.le_refl _) Kp.upd
        have z10 : (xs.set j (.ref b1)).length = xs.length := List.length_set
        generalize upd H9 St (.lst (xs.set j (.ref b1))) = H10 at c10 a10 ⊢
        generalize xs.set j (.ref b1) = ys at c10 a10 z10
        refine ⟨St, _, rfl, c10.S, ?_⟩
        refine ⟨by simp, fun t2 H11 s11 n11 l11 => ?_⟩
        refine ⟨by simp, fun b2 H12 s12 n12 l12 => ?_⟩
        have c11 := c10.same s11
        have c12 := c11.same s12
        refine ⟨_, c12.S, by omega, ?_⟩
        have h2 : StB St p (2 ^ (i + 1)) (n + 4) H12 (.ref b2) := ⟨b2, t2, O, rfl, c11.off n12, l12, li_two (c10.off n11) (s12 _ _ l11) (by omega) (by omega) (by omega), hO.kp M1 (by omega) c12.k⟩
        have c13 := c12.put (ys := ys ++ [.ref b2])
        have a13 : AllB St p (2 ^ (i + 1)) (n + 4) (upd H12 St (.lst (ys ++ [.ref b2]))) (ys ++ [.ref b2]) := (AllB.snoc (a10.kp (Nat.le_refl _) (Int.le_refl _) ((Kp.of s11).trans (Kp.of s12))) h2).kp (Nat.le_refl _) (Int.le_refl _) Kp.upd
        have z13 : (ys ++ [V.ref b2]).length = xs.length + 1 := by rw [List.length_append, z10]; rfl
        generalize upd H12 St (.lst (ys ++ [.ref b2])) = H13 at c13 a13 ⊢
        generalize ys ++ [.ref b2] = zs at c13 a13 z13
        refine ⟨St, _, rfl, c13.S, ?_⟩
        refine ⟨by simp, fun t3 H14 s14' n14 l14 => ?_⟩
        refine ⟨by simp, fun t4 H15 s15 n15 l15 => ?_⟩
        refine ⟨by simp, fun b3 H16 s16 n16 l16 => ?_⟩
        have c14 := c13.same s14'
        have c15 := c14.same s15
        have c16 := c15.same s16
        refine ⟨_, c16.S, by omega, ?_⟩
        have h3 : StB St p (2 ^ (i + 1)) (n + 4) H16 (.ref b3) := ⟨b3, t3, t4, rfl, c15.off n16, l16, li_one (c13.off n14) (s16 _ _ (s15 _ _ l14)) (by omega) (by omega) (by omega), li_one (c14.off n15) (s16 _ _ l15) (by omega) (by omega) (by omega)⟩
        have c17 := c16.put (ys := zs ++ [.ref b3])
        have a17 : AllB St p (2 ^ (i + 1)) (n + 4) (upd H16 St (.lst (zs ++ [.ref b3]))) (zs ++ [.ref b3]) := (AllB.snoc (a13.kp (Nat.le_refl _) (Int.le_refl _) (((Kp.of s14').trans (Kp.of s15)).trans (Kp.of s16))) h3).kp (Nat.le_refl _) (Int.le_refl _) Kp.upd
        have z17 : (zs ++ [V.ref b3]).length = xs.length + 2 := by rw [List.length_append, z13]; rfl
        generalize upd H16 St (.lst (zs ++ [.ref b3])) = H17 at c17 a17 ⊢
        generalize zs ++ [.ref b3] = us at c17 a17 z17
        refine ⟨St, _, rfl, c17.S, ?_⟩
        refine ⟨by simp, fun t5 H18 s18 n18 l18 => ?_⟩
        refine ⟨by simp, fun t6 H19 s19 n19 l19 => ?_⟩
        refine ⟨by simp, fun b4 H20 s20 n20 l20 => ?_⟩
        have c18 := c17.same s18
        have c19 := c18.same s19
        have c20 := c19.same s20
        refine ⟨_, c20.S, by omega, ?_⟩
        have h4 : StB St p (2 ^ (i + 1)) (n + 4) H20 (.ref b4) := ⟨b4, t5, t6, rfl, c19.off n20, l20, li_one (c17.off n18) (s20 _ _ (s19 _ _ l18)) (by omega) (by omega) (by omega), li_one (c18.off n19) (s20 _ _ l19) (by omega) (by omega) (by omega)⟩
        have c21 := c20.put (ys := us ++ [.ref b4])
        have a21 : AllB St p (2 ^ (i + 1)) (n + 4) (upd H20 St (.lst (us ++ [.ref b4]))) (us ++ [.ref b4]) := (AllB.snoc (a17.kp (Nat.le_refl _) (Int.le_refl _) (((Kp.of s18).trans (Kp.of s19)).trans (Kp.of s20))) h4).kp (Nat.le_refl _) (Int.le_refl _) Kp.upd
        have z21 : (us ++ [V.ref b4]).length = xs.length + 3 := by rw [List.length_append, z17]; rfl
        exact GS.mk c21 (by omega) (by omega) (by omega) (by omega) (by omega) a21
      refine ite2 (fun c4 => ?_) (fun c4 => ?_)
      · -- a loop
        refine ⟨St, rfl, ⟨_, SqL.of cur.S⟩, fun D hD => ?_⟩
        have hDo := cur.off hD
        refine lc_it (walk_list (xs := xs)) (fun t H' => ∃ c : List V, H' D = some (.lst c) ∧ (∀ v ∈ c, v ∈ xs) ∧ c.length ≤ t ∧ ∀ b o, H7 b = some o → H' b = some o)
          ⟨[], upd_same, (fun v h => nomatch h), by simp, fun b o e => by rw [upd_ne (ne_of_none e hD)]; exact e⟩ (fun t H' _ ⟨_, _, _, _, kp⟩ => SqL.of (kp _ _ cur.S)) ?_ ?_
        · rintro t y H8 H9 ht ⟨c, hc, hcm, hcl, kp⟩ ⟨rfl, hy⟩
          obtain ⟨a2, I2, O2, rfl, ha2, hac2, ⟨hI2, ns2, hn2', _⟩, _⟩ := hv7 y (List.mem_of_getElem? hy)
          refine ⟨rfl, ?_⟩
          refine .inl ⟨_, .ref I2, SqL.of (kp _ _ hac2), rfl, ?_⟩
          refine ⟨I2, _, rfl, .inl (SqL.of (kp _ _ hn2')), rfl, flat_ints _, ?_⟩
          refine ite2 (fun c5 => ?_) (fun c5 => ?_)
          · refine ⟨c, hc, by rw [sizeLine_eq]; omega, c ++ [.ref a2], upd_same, fun v hv => ?_, by simp; omega, fun b o e => ?_⟩
            · rcases List.mem_append.mp hv with z | z
              · exact hcm v z
              · rw [List.mem_singleton.mp z]; exact List.mem_of_getElem? hy
            · rw [upd_ne (ne_of_none e hD)]
              exact kp _ _ e
          · exact ⟨c, hc, hcm, by omega, kp⟩
        · rintro H8 ⟨c, hc, hcm, hcl, kp⟩
          have s8 : Same H7 H8 := fun b o e => kp b o e
          have c8 := cur.same s8
          have hcB : ∀ v ∈ c, StB St p (2 ^ i) n H8 v := fun v h => (hv7 v (hcm v h)).kp (Nat.le_refl _) (Int.le_refl _) c8.k
          have hc25 : c.length ≤ 25 := by omega
          refine ⟨by simp, fun e1 H9 s9 n9 l9 => ?_⟩
          have c9 := c8.same s9
          have hcB9 : ∀ v ∈ c, StB St p (2 ^ i) n H9 v := fun v h => (hcB v h).kp (Nat.le_refl _) (Int.le_refl _) (Kp.of s9)
          obtain ⟨ds, hds, hdl, hlay, hdep⟩ := stas_dp (K := K) hcB9
          refine ⟨.list ds, .list [], .lst (SqL.of (s9 _ _ hc)) hds, .lst (SqL.of l9) .nil, shaped_of hlay hdep, by decide +kernel, ?_⟩
          rw [eqv_nil]
          refine ite2 (fun c6 => ?_) (fun c6 => ?_)
          · have hc0 : 0 < c.length := by
              rw [← hdl]
              cases ds with
              | nil => exact absurd c6 (by decide)
              | cons _ _ => simp
            refine ⟨p, D, _, c, rfl, c9.d, s9 _ _ hc, by omega, hDo.2, by omega, by omega, fun t v H10 hv10 dc10 e10 => ?_⟩
            have c10 := c9.dice e10 dc10
            obtain ⟨a2, I2, O2, rfl, ha2, hac2, hI2, hO2⟩ := (hcB9 v (List.mem_of_getElem? hv10)).kp (Nat.le_refl _) (Int.le_refl _) (Kp.dice e10)
            obtain ⟨ns2, eI2, _, _, _, cpI2⟩ := hI2.copy
            refine .inl ⟨_, .ref I2, SqL.of hac2, rfl, ?_⟩
            refine ⟨p, _, _, rfl, c10.d, by omega, by decide, by decide, fun r3 H11 r30 r31 dc11 e11 => ?_⟩
            have c11 := c10.dice e11 dc11
            have eI3 : H11 I2 = some (.lst (ns2.map V.int)) := (e11 I2 hI2.1.2).trans eI2
            refine ite2 (fun c7 => ?_) (fun c7 => ?_)
            · refine ⟨St, _, rfl, c11.S, ?_⟩
              refine ⟨I2, _, rfl, .inl (SqL.of eI3), fun t1 H12 s12 n12 l12 => ?_⟩
              refine ⟨I2, _, rfl, .inl (SqL.of (s12 _ _ eI3)), fun t2 H13 s13 n13 l13 => ?_⟩
              refine ⟨by simp, fun b1 H14 s14 n14 l14 => ?_⟩
              have c12 := c11.same s12
              have c13 := c12.same s13
              have c14 := c13.same s14
              refine ⟨_, c14.S, by omega, ?_⟩
              have h1 : StB St p (2 ^ i) n H14 (.ref b1) := ⟨b1, t1, t2, rfl, c13.off n14, l14, cpI2 _ _ (c11.off n12) (s14 _ _ (s13 _ _ l12)), cpI2 _ _ (c12.off n13) (s14 _ _ l13)⟩
              have hall : AllB St p (2 ^ i) n H14 (xs ++ [.ref b1]) := AllB.snoc (AllB.kp hv7 (Nat.le_refl _) (Int.le_refl _) c14.k) h1
              exact GS.mk (c14.put (ys := xs ++ [.ref b1])) (by omega) hn2 (by omega) (by simp) (by simp; omega) (hall.kp M1 (Int.le_refl _) Kp.upd)
            · refine ⟨St, _, rfl, c11.S, ?_⟩
              refine ⟨I2, _, rfl, .inl (SqL.of eI3), fun t1 H12 s12 n12 l12 => ?_⟩
              refine ⟨by simp, fun t2 H13 s13 n13 l13 => ?_⟩
              refine ⟨by simp, fun b1 H14 s14 n14 l14 => ?_⟩
              have c12 := c11.same s12
              have c13 := c12.same s13
              have c14 := c13.same s14
              refine ⟨_, c14.S, by omega, ?_⟩
              have h1 : StB St p (2 ^ (i + 1)) (n + 1) H14 (.ref b1) := ⟨b1, t1, t2, rfl, c13.off n14, l14, (cpI2 _ _ (c11.off n12) (s14 _ _ (s13 _ _ l12))).kp M1 (by omega) Kp.refl, li_one (c12.off n13) (s14 _ _ l13) (by omega) (by omega) (by omega)⟩
              have c15 := c14.put (ys := xs ++ [.ref b1])
              have a15 : AllB St p (2 ^ (i + 1)) (n + 1) (upd H14 St (.lst (xs ++ [.ref b1]))) (xs ++ [.ref b1]) := (AllB.snoc (AllB.kp hv7 M1 (by omega) c14.k) h1).kp (Nat.le_refl _) (Int.le_refl _) Kp.upd
              have z15 : (xs ++ [V.ref b1]).length = xs.length + 1 := by simp
              have eI5 : upd H14 St (.lst (xs ++ [.ref b1])) I2 = some (.lst (ns2.map V.int)) := by rw [upd_ne hI2.1.1]; exact s14 _ _ (s13 _ _ (s12 _ _ eI3))
              generalize upd H14 St (.lst (xs ++ [.ref b1])) = H15 at c15 a15 eI5 ⊢
              generalize xs ++ [.ref b1] = ys at c15 a15 z15
              refine ⟨St, _, rfl, c15.S, ?_⟩
              refine ⟨by simp, fun t3 H16 s16 n16 l16 => ?_⟩
              refine ⟨I2, _, rfl, .inl (SqL.of (s16 _ _ eI5)), fun t4 H17 s17 n17 l17 => ?_⟩
              refine ⟨by simp, fun b2 H18 s18 n18 l18 => ?_⟩
              have c16 := c15.same s16
              have c17 := c16.same s17
              have c18 := c17.same s18
              refine ⟨_, c18.S, by omega, ?_⟩
              have h2 : StB St p (2 ^ (i + 1)) (n + 1) H18 (.ref b2) := ⟨b2, t3, t4, rfl, c17.off n18, l18, li_one (c15.off n16) (s18 _ _ (s17 _ _ l16)) (by omega) (by omega) (by omega), (cpI2 _ _ (c16.off n17) (s18 _ _ l17)).kp M1 (by omega) Kp.refl⟩
              exact GS.mk (c18.put (ys := ys ++ [.ref b2])) (by omega) (by omega) (by omega) (by simp) (by simp; omega) ((AllB.snoc (a15.kp (Nat.le_refl _) (Int.le_refl _) (((Kp.of s16).trans (Kp.of s17)).trans (Kp.of s18))) h2).kp (Nat.le_refl _) (Int.le_refl _) Kp.upd)
          · exact GS.mk c9 (by omega) hn2 (by omega) hl1 (by omega) (AllB.kp hv7 M1 (Int.le_refl _) c9.k)
      · -- two steps at once
        refine ⟨St, rfl, ⟨_, SqL.of cur.S⟩, fun D hD => ?_⟩
        have hDo := cur.off hD
        have M8 : 2 ^ i ≤ 2 ^ 8 := Nat.pow_le_pow_right (by decide) (by omega)
        refine lc_it (walk_list (xs := xs)) (fun t H' => ∃ c : List V, H' D = some (.lst c) ∧ (∀ v ∈ c, v ∈ xs) ∧ c.length ≤ t ∧ ∀ b o, H7 b = some o → H' b = some o)
          ⟨[], upd_same, (fun v h => nomatch h), by simp, fun b o e => by rw [upd_ne (ne_of_none e hD)]; exact e⟩ (fun t H' _ ⟨_, _, _, _, kp⟩ => SqL.of (kp _ _ cur.S)) ?_ ?_
        · rintro t y H8 H9 ht ⟨c, hc, hcm, hcl, kp⟩ ⟨rfl, hy⟩
          obtain ⟨a2, I2, O2, rfl, ha2, hac2, ⟨hI2, ns2, hn2', _, hl2, _⟩, _⟩ := hv7 y (List.mem_of_getElem? hy)
          refine ⟨rfl, ?_⟩
          refine .inl ⟨_, .ref I2, SqL.of (kp _ _ hac2), rfl, ?_⟩
          refine ⟨I2, rfl, ⟨_, SqL.of (kp _ _ hn2')⟩, fun D2 hD2 => ?_⟩
          refine lc_it (walk_list (xs := ns2.map V.int)) (fun t H' => H' D2 = some (.lst ((((ns2.take t).filter fun k => !decide (k ∈ outs)).map fun _ => (1 : Int)).map V.int)) ∧ ∀ b o, H9 b = some o → H' b = some o)
            ⟨upd_same, fun b o e => by rw [upd_ne (ne_of_none e hD2)]; exact e⟩ (fun t H' _ ⟨_, kp2⟩ => SqL.of (kp2 _ _ (kp _ _ hn2'))) ?_ ?_
          · rintro t2 z H10 H11 ht2 ⟨hD10, kp2⟩ ⟨rfl, hz⟩
            rw [List.getElem?_map] at hz
            cases q2 : ns2[t2]? with
            | none => rw [q2] at hz; cases hz
            | some z' =>
              rw [q2] at hz
              cases hz
              rw [List.length_map] at ht2
              refine ⟨rfl, O, _, rfl, .inl (SqL.of (kp2 _ _ (kp _ _ eO))), rfl, flat_ints _, ?_⟩
              rw [if_pos rfl, inV_int]
              refine ite2 (fun c5 => ?_) (fun c5 => ?_)
              · refine ⟨_, hD10, ?_, ?_, fun b o e => ?_⟩
                · rw [List.length_map, List.length_map, sizeLine_eq]
                  have := List.length_filter_le (fun k => !decide (k ∈ outs)) (ns2.take t2)
                  rw [List.length_take] at this
                  omega
                · rw [upd_same, take_filter q2, if_pos c5, List.map_append, List.map_append]
                  rfl
                · rw [upd_ne (ne_of_none e hD2)]
                  exact kp2 b o e
              · refine ⟨?_, kp2⟩
                rw [take_filter q2, if_neg c5, List.append_nil]
                exact hD10
          · rintro H10 ⟨hD10, kp2⟩
            refine ⟨by simp, fun p9 H11 s11 n11 l11 => ?_⟩
            have kp11 : ∀ b o, H7 b = some o → H11 b = some o := fun b o e => s11 _ _ (kp2 _ _ (kp _ _ e))
            have hc11 := s11 _ _ (kp2 _ _ hc)
            refine ⟨.list _, .list [], .lst (SqL.of (s11 _ _ hD10)) (dp_ints _), .lst (SqL.of l11) .nil, ints_shaped _, by decide +kernel, ?_⟩
            refine ite2 (fun c5 => ?_) (fun c5 => ?_)
            · refine ⟨c, hc11, by rw [sizeLine_eq]; omega, c ++ [.ref a2], upd_same, fun v hv => ?_, by simp; omega, fun b o e => ?_⟩
              · rcases List.mem_append.mp hv with z | z
                · exact hcm v z
                · rw [List.mem_singleton.mp z]; exact List.mem_of_getElem? hy
              · rw [upd_ne (ne_of_none e hD)]
                exact kp11 _ _ e
            · exact ⟨c, hc11, hcm, by omega, kp11⟩
        · rintro H8 ⟨c, hc, hcm, hcl, kp⟩
          have s8 : Same H7 H8 := fun b o e => kp b o e
          have c8 := cur.same s8
          have hcB : ∀ v ∈ c, StB St p (2 ^ i) n H8 v := fun v h => (hv7 v (hcm v h)).kp (Nat.le_refl _) (Int.le_refl _) c8.k
          have hc25 : c.length ≤ 25 := by omega
          refine ⟨by simp, fun e1 H9 s9 n9 l9 => ?_⟩
          have c9 := c8.same s9
          have hcB9 : ∀ v ∈ c, StB St p (2 ^ i) n H9 v := fun v h => (hcB v h).kp (Nat.le_refl _) (Int.le_refl _) (Kp.of s9)
          obtain ⟨ds, hds, hdl, hlay, hdep⟩ := stas_dp (K := K) hcB9
          refine ⟨.list ds, .list [], .lst (SqL.of (s9 _ _ hc)) hds, .lst (SqL.of l9) .nil, shaped_of hlay hdep, by decide +kernel, ?_⟩
          rw [eqv_nil]
          refine ite2 (fun c6 => ?_) (fun c6 => ?_)
          · have hc0 : 0 < c.length := by
              rw [← hdl]
              cases ds with
              | nil => exact absurd c6 (by decide)
              | cons _ _ => simp
            refine ⟨p, D, _, c, rfl, c9.d, s9 _ _ hc, by omega, hDo.2, by omega, by omega, fun t v H10 hv10 dc10 e10 => ?_⟩
            have c10 := c9.dice e10 dc10
            obtain ⟨a2, I2, O2, rfl, ha2, hac2, hI2, hO2⟩ := (hcB9 v (List.mem_of_getElem? hv10)).kp (Nat.le_refl _) (Int.le_refl _) (Kp.dice e10)
            obtain ⟨ns2, eI2, _, leI2, _, _⟩ := hI2.copy
            obtain ⟨ms2, eO2, neO2, leO2, inO2, _⟩ := hO2.copy
            have eI10 : H10 I = some (.lst (ins.map V.int)) := c10.k _ _ hI.1 eI
            have eO10 : H10 O = some (.lst (outs.map V.int)) := c10.k _ _ hO.1 eO
            refine ⟨St, _, rfl, c10.S, ?_⟩
            refine ⟨I, _, rfl, .inl (SqL.of eI10), fun t1 H11 s11 n11 l11 => ?_⟩
            have c11 := c10.same s11
            refine ⟨O, rfl, ⟨_, SqL.of (s11 _ _ eO10)⟩, fun D3 hD3 => ?_⟩
            refine lc_it (walk_list (xs := outs.map V.int)) (fun t H' => H' D3 = some (.lst (((outs.take t).filter fun k => !decide (k ∈ ns2)).map V.int)) ∧ ∀ b o, H11 b = some o → H' b = some o)
              ⟨upd_same, fun b o e => by rw [upd_ne (ne_of_none e hD3)]; exact e⟩ (fun t H' _ ⟨_, kp2⟩ => SqL.of (kp2 _ _ (s11 _ _ eO10))) ?_ ?_
            · rintro t2 z H12 H13 ht2 ⟨hD12, kp2⟩ ⟨rfl, hz⟩
              rw [List.getElem?_map] at hz
              cases q2 : outs[t2]? with
              | none => rw [q2] at hz; cases hz
              | some z' =>
                rw [q2] at hz
                cases hz
                rw [List.length_map] at ht2
                refine ⟨rfl, .inl ⟨_, .ref I2, SqL.of (kp2 _ _ (s11 _ _ hac2)), rfl, ?_⟩⟩
                refine ⟨I2, _, rfl, .inl (SqL.of (kp2 _ _ (s11 _ _ eI2))), rfl, flat_ints _, ?_⟩
                rw [if_pos rfl, inV_int]
                refine ite2 (fun c5 => ?_) (fun c5 => ?_)
                · refine ⟨_, hD12, ?_, ?_, fun b o e => ?_⟩
                  · rw [List.length_map, sizeLine_eq]
                    have := List.length_filter_le (fun k => !decide (k ∈ ns2)) (outs.take t2)
                    rw [List.length_take] at this
                    omega
                  · rw [upd_same, take_filter q2, if_pos c5, List.map_append]
                    rfl
                  · rw [upd_ne (ne_of_none e hD3)]
                    exact kp2 b o e
                · refine ⟨?_, kp2⟩
                  rw [take_filter q2, if_neg c5, List.append_nil]
                  exact hD12
            · rintro H12 ⟨hD12, kp2⟩
              rw [List.length_map, List.take_length] at hD12
              have s12 : Same H11 H12 := fun b o e => kp2 b o e
              have c12 := c11.same s12
              refine .inl ⟨_, .ref O2, SqL.of (s12 _ _ (s11 _ _ hac2)), rfl, ?_⟩
              refine ⟨O2, _, rfl, .inl (SqL.of (s12 _ _ (s11 _ _ eO2))), fun t2 H13 s13 n13 l13 => ?_⟩
              have c13 := c12.same s13
              have hfl := List.length_filter_le (fun k => !decide (k ∈ ns2)) outs
              refine .inl ⟨_, _, s13 _ _ hD12, l13, by rw [List.length_map, List.length_map]; omega, fun t3 H14 s14 n14 l14 => ?_⟩
              have c14 := c13.same s14
              refine ⟨by simp, fun b1 H15 s15 n15 l15 => ?_⟩
              have c15 := c14.same s15
              refine ⟨_, c15.S, by omega, ?_⟩
              rw [← List.map_append] at l14
              have h1 : StB St p (2 ^ (i + 1)) n H15 (.ref b1) := by
                refine ⟨b1, t1, t3, rfl, c14.off n15, l15, (cpI _ _ (c10.off n11) (s15 _ _ (s14 _ _ (s13 _ _ (s12 _ _ l11))))).kp M1 (Int.le_refl _) Kp.refl, c13.off n14, _, s15 _ _ l14, ?_, ?_, fun k hk => ?_⟩
                · intro z
                  exact neO2 (List.append_eq_nil_iff.mp z).2
                · rw [List.length_append]
                  omega
                · rcases List.mem_append.mp hk with z | z
                  · exact inO k (List.mem_filter.mp z).1
                  · exact inO2 k z
              have hall : AllB St p (2 ^ (i + 1)) n H15 (xs ++ [.ref b1]) := AllB.snoc (AllB.kp hv7 M1 (Int.le_refl _) c15.k) h1
              exact GS.mk (c15.put (ys := xs ++ [.ref b1])) (by omega) hn2 (by omega) (by simp) (by simp; omega) (hall.kp (Nat.le_refl _) (Int.le_refl _) Kp.upd)
          · exact GS.mk c9 (by omega) hn2 (by omega) hl1 (by omega) (AllB.kp hv7 M1 (Int.le_refl _) c9.k)
    · rintro σ H5 ⟨n, xs, o4, o5, o6, o7, o8, o9, o10, o11, o12, o13, rfl, hS, nx, dc, hn2, hn, hl1, hl, hl3, hv⟩
      have et : ((turns : Nat) : Int).toNat = turns := by omega
      rw [et] at dc hn hl hl3 hv
      refine ⟨by simp, fun G H6 s6 n6 l6 => ?_⟩
      have M8 : 2 ^ turns ≤ 2 ^ 9 := Nat.pow_le_pow_right (by decide) ht
      refine k G n xs H6 (nx.trans (Nxt.of s6)) ((dc.same s6).mono (by omega)) ⟨St, dc.ne n6, hSp, l6, s6 _ _ hS, hn2, hl1, fun v h => (hv v h).go (by omega) (Int.le_refl _) (fun _ q => q.2) fun b o _ e => s6 b o e⟩ (by omega) (by omega) (by omega)

end
end K11

set_option Elab.async false
set_option linter.all false
set_option maxRecDepth 100000
set_option maxHeartbeats 4000000
namespace K11
open PySem L2 PySem.KX StX
abbrev s_law_spoilt : Stmt := top 34
abbrev N_sp : List Str := ["dice", "grown", "total", "steps", "step", "way", "place", "gone", "one", "other"]
theorem sc_law_spoilt : FnScope N_sp ["dice", "grown"] (defScope s_law_spoilt) := ⟨rfl, rfl, rfl, by decide +kernel, rfl, by decide +kernel, by decide +kernel⟩
theorem ints_ne_refs {ns : List Int} {xs : List V} (h0 : xs ≠ []) (h : ∀ v ∈ xs, ∃ a, v = .ref a) : ns.map V.int ≠ xs := fun z => by
  cases xs with
  | nil => exact h0 rfl
  | cons v r =>
    obtain ⟨a, rfl⟩ := h v List.mem_cons_self
    cases ns with
    | nil => cases z
    | cons n t => cases z
theorem erase_map {α β : Type} (f : α → β) : ∀ (l : List α) (i : Nat), (l.map f).eraseIdx i = (l.eraseIdx i).map f
  | [], _ => rfl
  | _ :: _, 0 => rfl
  | a :: l, i + 1 => by
    show f a :: (l.map f).eraseIdx i = f a :: (l.eraseIdx i).map f
    rw [erase_map f l i]
/-- one list of places is another one now -/
theorem StA.mut {O : Addr → Prop} {M M' : Nat} {n : Int} {H H' : Hp} {v : V} {j : Addr} {ns ms : List Int} (h : StA O M n H v) (hj : H j = some (.lst (ns.map V.int))) (hj' : H' j = some (.lst (ms.map V.int))) (h1 : ms ≠ []) (h2 : ms.length ≤ M') (h3 : ∀ k ∈ ms, 0 ≤ k ∧ k < n) (hm : M ≤ M') (e : ∀ b, b ≠ j → H' b = H b) : StA O M' n H' v := by
  obtain ⟨a, i, o, rfl, ha, hac, hi, ho⟩ := h
  have aj : a ≠ j := fun z => by
    rw [z, hj] at hac
    exact ints_ne_refs (xs := [.ref i, .ref o]) (by simp) (fun v hv => by
      rcases List.mem_cons.mp hv with rfl | q
      · exact ⟨_, rfl⟩
      · exact ⟨_, List.mem_singleton.mp q⟩) (HO.lst.inj (Option.some.inj hac))
  have li : ∀ {b : Addr}, LI O M n H b → LI O M' n H' b := fun {b} hb => by
    obtain ⟨h0, ks, k1, k2, k3, k4⟩ := hb
    by_cases q : b = j
    · subst q
      exact ⟨h0, ms, hj', h1, h2, h3⟩
    · exact ⟨h0, ks, (e b q).trans k1, k2, by omega, k4⟩
  exact ⟨a, i, o, rfl, ha, (e a aj).trans hac, li hi, li ho⟩
section
variable {P : Program} {w : World} {K : PySem.W.Frag} {mg : Str → Option Value} {base : Heap}
/-- fresh since H0, not the dice, not the list of steps -/
abbrev Fr (p S2 : Addr) (H0 : Hp) (b : Addr) : Prop := b ≠ p ∧ H0 b = none ∧ b ≠ S2
structure SI (p S2 : Addr) (H0 : Hp) (n : Int) (xs : List V) (M : Nat) (m : Int) (H : Hp) : Prop where
  S : H S2 = some (.lst xs)
  nx : Nxt p H0 H
  d : Dc p m H
  all : ∀ v ∈ xs, StA (Fr p S2 H0) M n H v
theorem SI.mut {p S2 j : Addr} {H0 H H' : Hp} {n m : Int} {xs : List V} {M M' : Nat} {ns ms : List Int} (h : SI p S2 H0 n xs M m H) (f : Fr p S2 H0 j) (ej : H j = some (.lst (ns.map V.int))) (ej' : H' j = some (.lst (ms.map V.int))) (h1 : ms ≠ []) (h2 : ms.length ≤ M') (h3 : ∀ k ∈ ms, 0 ≤ k ∧ k < n) (hm : M ≤ M') (e : ∀ b, b ≠ j → H' b = H b) : SI p S2 H0 n xs M' m H' := by
  refine ⟨(e _ (Ne.symm f.2.2)).trans h.S, nxt_of fun b o hb q => ?_, ?_, fun v hv => (h.all v hv).mut ej ej' h1 h2 h3 hm e⟩
  · rw [e b (ne_of_none q f.2.1)]
    exact h.nx.get hb q
  · obtain ⟨g, u, k, q, r⟩ := h.d
    exact ⟨g, u, k, (e p (Ne.symm f.1)).trans q, r⟩
theorem SI.same {p S2 : Addr} {H0 H H' : Hp} {n m : Int} {xs : List V} {M : Nat} (h : SI p S2 H0 n xs M m H) (s : Same H H') : SI p S2 H0 n xs M m H' := ⟨s _ _ h.S, h.nx.trans (Nxt.of s), h.d.same s, fun v hv => (h.all v hv).go (Nat.le_refl _) (Int.le_refl _) (fun _ q => q) fun b o _ e => s b o e⟩
theorem SI.dice {p S2 : Addr} {H0 H H' : Hp} {n m m' : Int} {xs : List V} {M : Nat} (h : SI p S2 H0 n xs M m H) (h0 : S2 ≠ p) (e : ∀ b, b ≠ p → H' b = H b) (d : Dc p m' H') : SI p S2 H0 n xs M m' H' := ⟨(e _ h0).trans h.S, h.nx.trans (Nxt.of_eq e), d, fun v hv => (h.all v hv).go (Nat.le_refl _) (Int.le_refl _) (fun _ q => q) fun b o hb q => (e b hb.1).trans q⟩
theorem SI.up {p S2 : Addr} {H0 H : Hp} {n m m' : Int} {xs : List V} {M M' : Nat} (h : SI p S2 H0 n xs M m H) (h1 : M ≤ M') (h2 : m ≤ m') : SI p S2 H0 n xs M' m' H := ⟨h.S, h.nx, h.d.mono h2, fun v hv => (h.all v hv).go h1 (Int.le_refl _) (fun _ q => q) fun b o _ e => e⟩
def spSpoilt : Sp := fun vs H Q _ => ∃ (p G : Addr) (m : Int) (M : Nat) (n : Int) (xs : List V), vs = [.ref p, .ref G] ∧ Dc p m H ∧ m + 1000 < 2 ^ 30 ∧ GrA p M H G n xs ∧ M ≤ 3000 ∧ n ≤ 34 ∧ xs.length ≤ 40 ∧
  ∀ (G' : Addr) (ys : List V) (H' : Hp), Nxt p H H' → Dc p (m + 40) H' → GrA p (M + 50) H' G' n ys → ys.length = xs.length → Q (.ref G') H'
theorem ok_law_spoilt {f : Addr} {fd : FuncData} (Fu : Fun K "_law_spoilt" "_law_spoilt" s_law_spoilt f fd) (TX : TxtX mg) (O_law_roll : Own P w K mg base CX0 "_law_roll" 1 ["dice", "total"] spRollD) (O_law_one_of : Own P w K mg base CX0 "_law_one_of" 2 ["dice", "items"] spOneD) : FnG P w K mg base CX0 3 f fd ["dice", "grown"] spSpoilt := by
  have nd := sc_law_spoilt.nd
  refine okG Fu sc_law_spoilt (fun vs H Q E h => ?_) (fun cdv A outer s H vs Q E hr h => ?_)
  · obtain ⟨_, _, _, _, _, _, rfl, _⟩ := h
    rfl
  · obtain ⟨p, G, m, M, n, xs0, rfl, hp, hm, hG, hM, hn, hl0, k⟩ := h
    refine ⟨_, (pss_cons (ps_asg (av 1) (pg_unp rfl (pgs_cons (pg_name (i := 2) nd rfl (by first | exact Or.inl rfl | exact Or.inr rfl)) (pgs_cons (pg_name (i := 3) nd rfl (by first | exact Or.inl rfl | exact Or.inr rfl)) pgs_nil))))
      (pss_cons (ps_setLc (i := 3) (own := [("step", 4)]) (by rfl) nd rfl rfl (sw_true rfl rfl rfl (by decide +kernel)) (pi_list (av 3)) (blkOk_by (N := N_sp) (sc := defScope s_law_spoilt) (by decide +kernel)) (fun _ _ _ _ _ => (pg_name (i := 4) nd rfl (by first | exact Or.inl rfl | exact Or.inr rfl))) (fun _ _ _ _ _ => pts_nil) (fun _ _ _ _ _ => (show PE _ _ (tLstS (tCons (tCB (rLstS K) (tCons (tOp (rIxA K) (aVar 4) (tC (.int 0))) tNil)) (tCons (tCB (rLstS K) (tCons (tOp (rIxA K) (aVar 4) (tC (.int 1))) tNil)) tNil))) from pe_lstS (pa_cons (pe_callTy call_lstS (by rfl) TX.list (by decide +kernel) (pa_cons (pe_ixA (av 4) pe_int) pa_nil)) (pa_cons (pe_callTy call_lstS (by rfl) TX.list (by decide +kernel) (pa_cons (pe_ixA (av 4) pe_int) pa_nil)) pa_nil)))))
      (pss_cons (ps_set (i := 4) nd rfl (by first | exact Or.inl rfl | exact Or.inr rfl) (pe_own O_law_one_of hr (pa_cons (av 0) (pa_cons (av 3) pa_nil)) (by decide)))
      (pss_cons (ps_asg (pe_tupS (pa_cons (pe_own O_law_roll hr (pa_cons (av 0) (pa_cons pe_int pa_nil)) (by decide)) (pa_cons (pe_op op_addA pe_int (pe_own O_law_roll hr (pa_cons (av 0) (pa_cons (pe_op op_subA (av 2) pe_int) pa_nil)) (by decide))) pa_nil))) (pg_tup rfl (pgs_cons (pg_name (i := 5) nd rfl (by first | exact Or.inl rfl | exact Or.inr rfl)) (pgs_cons (pg_name (i := 6) nd rfl (by first | exact Or.inl rfl | exact Or.inr rfl)) pgs_nil))))
      (pss_cut (ps_if (PW.pt (pw_and (pt_cmpA (op_eqA hr.units64) (av 5) pe_int) (pw_and1 (pt_cmpA op_notIn_seq (av 6) (pe_ixA (av 4) pe_int))))) (pss_one (ps_expr (pe_appS (pe_ixA (av 4) pe_int) (av 6)))) pss_nil)
      (pss_cut (ps_if (PW.pt (pw_and (pt_cmpA (op_eqA hr.units64) (av 5) pe_int) (pw_and1 (pt_cmpA op_gtA (pe_callB call_lenA (by rfl) TX.len PySem.boot_len (pa_cons (pe_ixA (av 4) pe_int) pa_nil)) pe_int)))) (pss_one (ps_expr (pe_bm PySem.F.plainAttrs_list PySem.F.slot_list_pop PySem.F.type_list_pop mt_popAt (pe_ixA (av 4) pe_int) (pa_cons (pe_own O_law_roll hr (pa_cons (av 0) (pa_cons (pe_callB call_lenA (by rfl) TX.len PySem.boot_len (pa_cons (pe_ixA (av 4) pe_int) pa_nil)) pa_nil)) (by decide)) pa_nil)))) pss_nil)
      (pss_cut (ps_if (PW.pt (pw_and (pt_cmpA (op_eqA hr.units64) (av 5) pe_int) (pw_and1 (pt_cmpA op_notIn_seq (av 6) (pe_ixA (av 4) pe_int))))) (pss_cons (ps_set (i := 7) nd rfl (by first | exact Or.inl rfl | exact Or.inr rfl) (pe_own O_law_roll hr (pa_cons (av 0) (pa_cons (pe_callB call_lenA (by rfl) TX.len PySem.boot_len (pa_cons (pe_ixA (av 4) pe_int) pa_nil)) pa_nil)) (by decide)))
      (pss_cons (ps_expr (pe_bm PySem.F.plainAttrs_list PySem.F.slot_list_pop PySem.F.type_list_pop mt_popAt (pe_ixA (av 4) pe_int) (pa_cons (av 7) pa_nil)))
      (pss_one (ps_expr (pe_appS (pe_ixA (av 4) pe_int) (av 6)))))) pss_nil)
      (pss_cut (ps_if (PW.pt (pw_and (pt_cmpA (op_eqA hr.units64) (av 5) pe_int) (pw_and1 (pt_cmpA op_gtA (av 6) pe_int)))) (pss_one (ps_if (pt_cmpA (op_eqA hr.units64) (pe_lc (own := [("one", 8)]) (by rfl) nd (pi_list (av 3)) (blkOk_by (N := N_sp) (sc := defScope s_law_spoilt) (by decide +kernel)) (fun _ _ _ _ _ => (pg_name (i := 8) nd rfl (by first | exact Or.inl rfl | exact Or.inr rfl))) (fun _ _ _ _ _ => (pts_one (show PT _ _ (aTest (tOp (rIn K false) (aVar 6) (tOp (rIxA K) (aVar 8) (tC (.int 0))))) from pt_cmpA op_in_seq (av 6) (pe_ixA (av 8) pe_int)))) (fun _ _ _ _ _ => pe_int)) (pe_lstS pa_nil)) (pss_one (ps_for PassesOwn.never rfl (pi_list (pe_lc (own := [("other", 9)]) (by rfl) nd (pi_list (av 3)) (blkOk_by (N := N_sp) (sc := defScope s_law_spoilt) (by decide +kernel)) (fun _ _ _ _ _ => (pg_name (i := 9) nd rfl (by first | exact Or.inl rfl | exact Or.inr rfl))) (fun _ _ _ _ _ => (pts_one (show PT _ _ (aTest (tOp (rEqA K) (tOp (rIxA K) (aVar 9) (tC (.int 0))) (tOp (rIxA K) (aVar 4) (tC (.int 0))))) from pt_cmpA (op_eqA hr.units64) (pe_ixA (av 9) pe_int) (pe_ixA (av 4) pe_int)))) (fun _ _ _ _ _ => (av 9)))) (pg_name (i := 8) nd rfl (by first | exact Or.inl rfl | exact Or.inr rfl)) (pss_one (ps_expr (pe_appS (pe_ixA (av 8) pe_int) (av 6)))))) pss_nil)) pss_nil)
      (pss_one (ps_ret (pe_lstS (pa_cons (av 2) (pa_cons (av 3) pa_nil))))))))))))), ?_⟩
    obtain ⟨St, hGp, hSp, eG, eS, h2, h1, hv⟩ := hG
    refine ⟨G, _, rfl, SqL.of eG, rfl, _, _, rfl, _, _, rfl, rfl, ?_⟩
    refine ⟨St, rfl, ⟨_, SqL.of eS⟩, fun S2 hS2 => ?_⟩
    have hS2p : S2 ≠ p := hp.ne hS2
    refine lc_it (walk_list (xs := xs0)) (fun t H' => ∃ c : List V, H' S2 = some (.lst c) ∧ (∀ v ∈ c, StA (Fr p S2 H) M n H' v) ∧ c.length = t ∧ ∀ b o, H b = some o → H' b = some o)
      ⟨[], upd_same, (fun v h => nomatch h), rfl, fun b o e => by rw [upd_ne (ne_of_none e hS2)]; exact e⟩ (fun t H' _ ⟨_, _, _, _, kp⟩ => SqL.of (kp _ _ eS)) ?_ ?_
    · rintro t y H2 H3 ht ⟨c, hc, hcm, hcl, kp⟩ ⟨rfl, hy⟩
      obtain ⟨a, I, O, rfl, ha, hac, ⟨hIp, ns, eI, neI, leI, inI⟩, hOp, ms, eO, neO, leO, inO⟩ := hv y (List.mem_of_getElem? hy)
      refine ⟨rfl, ?_⟩
      refine .inl ⟨_, .ref I, SqL.of (kp _ _ hac), rfl, ?_⟩
      refine ⟨I, _, rfl, .inl (SqL.of (kp _ _ eI)), fun t1 H4 s4 n4 l4 => ?_⟩
      refine .inl ⟨_, .ref O, SqL.of (s4 _ _ (kp _ _ hac)), rfl, ?_⟩
      refine ⟨O, _, rfl, .inl (SqL.of (s4 _ _ (kp _ _ eO))), fun t2 H5 s5 n5 l5 => ?_⟩
      refine ⟨by simp, fun b1 H6 s6 n6 l6 => ?_⟩
      have s3 : Same H H3 := fun b o e => kp b o e
      have fr : ∀ {Hx : Hp} {b : Addr}, Same H3 Hx → Hx b = none → Fr p S2 H b := fun {Hx b} s e => ⟨(hp.same (s3.trans s)).ne e, (s3.trans s).free e, fun z => by
        rw [z, s _ _ hc] at e
        cases e⟩
      have f1 := fr (Same.refl _) n4
      have f2 := fr s4 n5
      have f3 := fr (s4.trans s5) n6
      have hc6 := s6 _ _ (s5 _ _ (s4 _ _ hc))
      have s36 := (s4.trans s5).trans s6
      refine ⟨c, hc6, by rw [sizeLine_eq]; omega, c ++ [.ref b1], upd_same, fun v hv => ?_, by simp [hcl], fun b o e => ?_⟩
      · have st : StA (Fr p S2 H) M n H6 v := by
          rcases List.mem_append.mp hv with z | z
          · exact (hcm v z).go (Nat.le_refl _) (Int.le_refl _) (fun _ q => q) fun b o _ e => s36 b o e
          · rw [List.mem_singleton.mp z]
            exact ⟨b1, t1, t2, rfl, f3, l6, ⟨f1, ns, s6 _ _ (s5 _ _ l4), neI, leI, inI⟩, f2, ms, s6 _ _ l5, neO, leO, inO⟩
        exact st.go (Nat.le_refl _) (Int.le_refl _) (fun _ q => q) fun b o hb e => by rw [upd_ne hb.2.2]; exact e
      · rw [upd_ne (ne_of_none e hS2)]
        exact s36 _ _ (kp _ _ e)
    rintro H2 ⟨xs, hc, hcm, hcl, kp⟩
    have s2 : Same H H2 := fun b o e => kp b o e
    refine ⟨p, S2, m, xs, rfl, hp.same s2, hc, by omega, hS2p, by omega, by omega, fun t v0 H3 hv0 dc3 e3 => ?_⟩
    refine ⟨p, _, _, rfl, dc3, by omega, by decide, by decide, fun way H4 w0 w1 dc4 e4 => ?_⟩
    refine ⟨p, _, _, rfl, dc4, by omega, by omega, by omega, fun r H5 r0 r1 dc5 e5 => ?_⟩
    refine ⟨by simp, fun T H6 s6 n6 l6 => ?_⟩
    refine ⟨T, _, rfl, SqT.of l6, rfl, _, _, rfl, _, _, rfl, rfl, ?_⟩
    have I0 : SI p S2 H n xs M m H2 := ⟨hc, Nxt.of s2, hp.same s2, hcm⟩
    have I6 : SI p S2 H n xs M (m + 3) H6 := ((((I0.dice hS2p e3 dc3).dice hS2p e4 dc4).dice hS2p e5 dc5).same s6).up (Nat.le_refl _) (by omega)
    have hv0m : v0 ∈ xs := List.mem_of_getElem? hv0
    have hpl : 0 ≤ 1 + r ∧ 1 + r < n := by omega
    generalize 1 + r = place at hpl ⊢
    -- way 0
    refine ⟨fun σ H' => ∃ o7 o8 o9 : Option V, σ = [some (.ref p), some (.ref G), some (.int n), some (.ref S2), some v0, some (.int way), some (.int place), o7, o8, o9] ∧ SI p S2 H n xs (M + 1) (m + 3) H', ?_, ?_⟩
    · refine ite2 (fun c => ?_) (fun c => ?_)
      · obtain ⟨a, I, O, rfl, ha, hac, hI, hOf, ms, eO, neO, leO, inO⟩ := I6.all v0 hv0m
        refine .inl ⟨_, .ref O, SqL.of hac, rfl, ?_⟩
        refine ⟨O, _, rfl, .inl (SqL.of eO), rfl, flat_ints _, ?_⟩
        refine ite2 (fun c2 => ?_) (fun c2 => ?_)
        · refine .inl ⟨_, .ref O, SqL.of hac, rfl, ?_⟩
          refine ⟨O, _, rfl, eO, _, eO, by rw [List.length_map]; omega, ?_⟩
          exact ⟨_, _, _, rfl, I6.mut (ms := ms ++ [place]) hOf eO (by rw [upd_same, List.map_append]; rfl) (by simp) (by simp; omega) (fun k hk => by
            rcases List.mem_append.mp hk with z | z
            · exact inO k z
            · rw [List.mem_singleton.mp z]; exact hpl) (by omega) fun b hb => upd_ne hb⟩
        · exact ⟨_, _, _, rfl, I6.up (by omega) (Int.le_refl _)⟩
      · exact ⟨_, _, _, rfl, I6.up (by omega) (Int.le_refl _)⟩
    rintro σ H7 ⟨o7, o8, o9, rfl, I7⟩
    -- way 1
    refine ⟨fun σ H' => ∃ o7 o8 o9 : Option V, σ = [some (.ref p), some (.ref G), some (.int n), some (.ref S2), some v0, some (.int way), some (.int place), o7, o8, o9] ∧ SI p S2 H n xs (M + 1) (m + 4) H', ?_, ?_⟩
    · refine ite2 (fun c => ?_) (fun c => ?_)
      · obtain ⟨a, I, O, rfl, ha, hac, hI, hOf, ms, eO, neO, leO, inO⟩ := I7.all v0 hv0m
        refine .inl ⟨_, .ref O, SqL.of hac, rfl, ?_⟩
        refine .inl ⟨_, SqL.of eO, ?_⟩
        refine ite2 (fun c2 => ?_) (fun c2 => ?_)
        · have hml : 1 < ms.length := by
            have := of_decide_eq_true c2
            rw [List.length_map] at this
            omega
          refine .inl ⟨_, .ref O, SqL.of hac, rfl, .inl ⟨rfl, _, SqL.of eO⟩, ?_⟩
          refine .inl ⟨_, .ref O, SqL.of hac, rfl, ?_⟩
          refine .inl ⟨_, SqL.of eO, ?_⟩
          refine ⟨p, _, _, rfl, I7.d, by omega, by rw [List.length_map]; omega, by rw [List.length_map]; omega, fun r2 H8 r20 r21 dc8 e8 => ?_⟩
          rw [List.length_map] at r21
          obtain ⟨q, rfl⟩ : ∃ q : Nat, r2 = (q : Int) := ⟨r2.toNat, by omega⟩
          have hq : q < (ms.map V.int).length := by rw [List.length_map]; omega
          obtain ⟨j, e1, e2, e3', _⟩ := atI_get (atI_nat (List.getElem?_eq_getElem hq))
          have I8 := I7.dice hS2p e8 dc8
          have eO8 : H8 O = some (.lst (ms.map V.int)) := (e8 O hOf.1).trans eO
          refine ⟨O, _, (q : Int), j, (ms.map V.int)[q], rfl, rfl, eO8, by omega, by omega, e1, e2, ?_⟩
          rw [List.length_map] at e3'
          exact ⟨_, _, _, rfl, (I8.mut (ms := ms.eraseIdx j) hOf eO8 (by rw [upd_same, erase_map]) (fun z => by
            have := congrArg List.length z
            rw [List.length_eraseIdx_of_lt e3'] at this
            simp at this
            omega) (by rw [List.length_eraseIdx_of_lt e3']; omega) (fun k hk => inO k (List.mem_of_mem_eraseIdx hk)) (Nat.le_refl _) fun b hb => upd_ne hb).up (Nat.le_refl _) (by omega)⟩
        · exact ⟨_, _, _, rfl, I7.up (by omega) (by omega)⟩
      · exact ⟨_, _, _, rfl, I7.up (by omega) (by omega)⟩
    rintro σ H8 ⟨o7, o8, o9, rfl, I8⟩
    -- way 2
    refine ⟨fun σ H' => ∃ o7 o8 o9 : Option V, σ = [some (.ref p), some (.ref G), some (.int n), some (.ref S2), some v0, some (.int way), some (.int place), o7, o8, o9] ∧ SI p S2 H n xs (M + 2) (m + 5) H', ?_, ?_⟩
    · refine ite2 (fun c => ?_) (fun c => ?_)
      · obtain ⟨a, I, O, rfl, ha, hac, hI, hOf, ms, eO, neO, leO, inO⟩ := I8.all v0 hv0m
        refine .inl ⟨_, .ref O, SqL.of hac, rfl, ?_⟩
        refine ⟨O, _, rfl, .inl (SqL.of eO), rfl, flat_ints _, ?_⟩
        refine ite2 (fun c2 => ?_) (fun c2 => ?_)
        · have hml : 0 < ms.length := List.length_pos_iff.mpr neO
          refine .inl ⟨_, .ref O, SqL.of hac, rfl, ?_⟩
          refine .inl ⟨_, SqL.of eO, ?_⟩
          refine ⟨p, _, _, rfl, I8.d, by omega, by rw [List.length_map]; omega, by rw [List.length_map]; omega, fun r2 H9 r20 r21 dc9 e9 => ?_⟩
          rw [List.length_map] at r21
          obtain ⟨q, rfl⟩ : ∃ q : Nat, r2 = (q : Int) := ⟨r2.toNat, by omega⟩
          have hq : q < (ms.map V.int).length := by rw [List.length_map]; omega
          obtain ⟨j, e1, e2, e3', _⟩ := atI_get (atI_nat (List.getElem?_eq_getElem hq))
          have I9 := I8.dice hS2p e9 dc9
          have eO9 : H9 O = some (.lst (ms.map V.int)) := (e9 O hOf.1).trans eO
          have hac9 : H9 a = some (.lst [.ref I, .ref O]) := (e9 a ha.1).trans hac
          refine .inl ⟨_, .ref O, SqL.of hac9, rfl, .inl ⟨rfl, _, SqL.of eO9⟩, ?_⟩
          refine ⟨O, _, (q : Int), j, (ms.map V.int)[q], rfl, rfl, eO9, by omega, by omega, e1, e2, ?_⟩
          rw [List.length_map] at e3'
          have haO : a ≠ O := fun z => by
            rw [z, eO9] at hac9
            exact ints_ne_refs (xs := [.ref I, .ref O]) (by simp) (fun v hv => by
              rcases List.mem_cons.mp hv with rfl | q
              · exact ⟨_, rfl⟩
              · exact ⟨_, List.mem_singleton.mp q⟩) (HO.lst.inj (Option.some.inj hac9))
          refine .inl ⟨_, .ref O, SqL.of (by rw [upd_ne haO]; exact hac9), rfl, ?_⟩
          refine ⟨O, _, rfl, upd_same, _, upd_same, by rw [List.length_eraseIdx_of_lt (by rw [List.length_map]; exact e3'), List.length_map]; omega, ?_⟩
          exact ⟨_, _, _, rfl, (I9.mut (ms := ms.eraseIdx j ++ [place]) hOf eO9 (by rw [upd_same, erase_map, List.map_append]; rfl) (by simp) (by rw [List.length_append, List.length_eraseIdx_of_lt e3']; simp; omega) (fun k hk => by
            rcases List.mem_append.mp hk with z | z
            · exact inO k (List.mem_of_mem_eraseIdx z)
            · rw [List.mem_singleton.mp z]; exact hpl) (by omega) fun b hb => by rw [upd_ne hb, upd_ne hb]).up (Nat.le_refl _) (by omega)⟩
        · exact ⟨_, _, _, rfl, I8.up (by omega) (by omega)⟩
      · exact ⟨_, _, _, rfl, I8.up (by omega) (by omega)⟩
    rintro σ H9 ⟨o7, o8, o9, rfl, I9⟩
    -- way 3
    refine ⟨fun σ H' => ∃ o7 o8 o9 : Option V, σ = [some (.ref p), some (.ref G), some (.int n), some (.ref S2), some v0, some (.int way), some (.int place), o7, o8, o9] ∧ SI p S2 H n xs (M + 45) (m + 5) H', ?_, ?_⟩
    · refine ite2 (fun c => ?_) (fun c => ?_)
      · refine ite2 (fun c2 => ?_) (fun c2 => ?_)
        · refine ⟨S2, rfl, ⟨_, SqL.of I9.S⟩, fun D hD => ?_⟩
          have hDp : D ≠ p := I9.d.ne hD
          refine lc_it (walk_list (xs := xs)) (fun t H' => ∃ c : List Int, H' D = some (.lst (c.map V.int)) ∧ c.length ≤ t ∧ ∀ b o, H9 b = some o → H' b = some o)
            ⟨[], upd_same, by simp, fun b o e => by rw [upd_ne (ne_of_none e hD)]; exact e⟩ (fun t H' _ ⟨_, _, _, kp⟩ => SqL.of (kp _ _ I9.S)) ?_ ?_
          · rintro t y Hx H10 ht ⟨c, hc, hcl, kp⟩ ⟨rfl, hy⟩
            obtain ⟨a, I, O, rfl, ha, hac, ⟨hIf, ns, eI, neI, leI, inI⟩, _⟩ := I9.all y (List.mem_of_getElem? hy)
            refine ⟨rfl, ?_⟩
            refine .inl ⟨_, .ref I, SqL.of (kp _ _ hac), rfl, ?_⟩
            refine ⟨I, _, rfl, .inl (SqL.of (kp _ _ eI)), rfl, flat_ints _, ?_⟩
            refine ite2 (fun c3 => ?_) (fun c3 => ?_)
            · refine ⟨_, hc, by rw [List.length_map, sizeLine_eq]; omega, c ++ [1], by rw [upd_same, List.map_append]; rfl, by simp; omega, fun b o e => ?_⟩
              rw [upd_ne (ne_of_none e hD)]
              exact kp _ _ e
            · exact ⟨c, hc, by omega, kp⟩
          rintro H10 ⟨c3, hc3, hcl3, kp3⟩
          refine ⟨by simp, fun e1 H11 s11 n11 l11 => ?_⟩
          have s911 : Same H9 H11 := Same.trans (fun b o e => kp3 b o e) s11
          refine ⟨.list (c3.map .int), .list [], .lst (SqL.of (s11 _ _ hc3)) (dp_ints _), .lst (SqL.of l11) .nil, ints_shaped _, by decide +kernel, ?_⟩
          have I11 := I9.same s911
          refine ite2 (fun c4 => ?_) (fun c4 => ?_)
          · -- the steps of the cluster
            obtain ⟨a0, I0', O0, ev0, ha0, hac0, ⟨hI0f, ns0, eI0, neI0, leI0, inI0⟩, _⟩ := I11.all v0 hv0m
            refine ⟨S2, rfl, ⟨_, SqL.of I11.S⟩, fun D5 hD5 => ?_⟩
            have hD5p : D5 ≠ p := I11.d.ne hD5
            refine lc_it (walk_list (xs := xs)) (fun t H' => ∃ c : List V, H' D5 = some (.lst c) ∧ (∀ v ∈ c, v ∈ xs) ∧ c.length ≤ t ∧ ∀ b o, H11 b = some o → H' b = some o)
              ⟨[], upd_same, (fun v h => nomatch h), by simp, fun b o e => by rw [upd_ne (ne_of_none e hD5)]; exact e⟩ (fun t H' _ ⟨_, _, _, _, kp⟩ => SqL.of (kp _ _ I11.S)) ?_ ?_
            · rintro t y Hx H12 ht ⟨c, hc, hcm, hcl, kp⟩ ⟨rfl, hy⟩
              obtain ⟨a, I, O, rfl, ha, hac, ⟨hIf, ns, eI, neI, leI, inI⟩, _⟩ := I11.all y (List.mem_of_getElem? hy)
              subst ev0
              refine ⟨rfl, ?_⟩
              refine .inl ⟨_, .ref I, SqL.of (kp _ _ hac), rfl, ?_⟩
              refine .inl ⟨_, .ref I0', SqL.of (kp _ _ hac0), rfl, ?_⟩
              refine ⟨.list (ns.map .int), .list (ns0.map .int), .lst (SqL.of (kp _ _ eI)) (dp_ints _), .lst (SqL.of (kp _ _ eI0)) (dp_ints _), ints_shaped _, ints_shaped _, ?_⟩
              refine ite2 (fun c3 => ?_) (fun c3 => ?_)
              · refine ⟨c, hc, by rw [sizeLine_eq]; omega, c ++ [.ref a], upd_same, fun v hv => ?_, by simp; omega, fun b o e => ?_⟩
                · rcases List.mem_append.mp hv with z | z
                  · exact hcm v z
                  · rw [List.mem_singleton.mp z]; exact List.mem_of_getElem? hy
                · rw [upd_ne (ne_of_none e hD5)]
                  exact kp _ _ e
              · exact ⟨c, hc, hcm, by omega, kp⟩
            rintro H12 ⟨c5, hc5, hcm5, hcl5, kp5⟩
            have s12 : Same H11 H12 := fun b o e => kp5 b o e
            have I12 := I11.same s12
            have hD50 : H D5 = none := I11.nx.free hD5p hD5
            refine ⟨D5, rfl, ⟨_, SqL.of hc5⟩, ?_⟩
            refine for_it (walk_list (xs := c5)) (fun i σ H' => ∃ o7 o8 o9 : Option V, σ = [some (.ref p), some (.ref G), some (.int n), some (.ref S2), some v0, some (.int way), some (.int place), o7, o8, o9] ∧ SI p S2 H n xs (M + 2 + i) (m + 5) H' ∧ H' D5 = some (.lst c5))
              ⟨_, _, _, rfl, I12.up (by omega) (by omega), hc5⟩ (fun i σ H' _ ⟨_, _, _, _, _, h⟩ => SqL.of h) ?_ ?_
            · rintro i y σ Hx H13 hi ⟨o7, o8, o9, rfl, I13, hc13⟩ ⟨rfl, hyy⟩
              obtain ⟨a, I, O, rfl, ha, hac, ⟨hIf, ns, eI, neI, leI, inI⟩, _⟩ := I13.all y (hcm5 y (List.mem_of_getElem? hyy))
              refine .inl ⟨_, .ref I, SqL.of hac, rfl, ?_⟩
              refine ⟨I, _, rfl, eI, _, eI, by rw [List.length_map]; omega, ?_⟩
              have hDI : D5 ≠ I := fun z => by
                rw [z, eI] at hc13
                refine ints_ne_refs (xs := c5) (fun q => by rw [q] at hyy; cases hyy) (fun v hv => ?_) (HO.lst.inj (Option.some.inj hc13))
                obtain ⟨x, _, _, e, _⟩ := I13.all v (hcm5 v hv)
                exact ⟨x, e⟩
              refine ⟨_, _, _, rfl, I13.mut (ms := ns ++ [place]) hIf eI (by rw [upd_same, List.map_append]; rfl) (by simp) (by simp; omega) (fun k hk => ?_) (by omega) fun b hb => upd_ne hb, by rw [upd_ne hDI]; exact hc13⟩
              rcases List.mem_append.mp hk with z | z
              · exact inI k z
              · rw [List.mem_singleton.mp z]; exact hpl
            · rintro σ H13 ⟨o7, o8, o9, rfl, I13, hc13⟩
              exact ⟨_, _, _, rfl, I13.up (by omega) (by omega)⟩
          · exact ⟨_, _, _, rfl, I11.up (by omega) (by omega)⟩
        · exact ⟨_, _, _, rfl, I9.up (by omega) (by omega)⟩
      · exact ⟨_, _, _, rfl, I9.up (by omega) (by omega)⟩
    rintro σ H10 ⟨o7, o8, o9, rfl, I10⟩
    refine ⟨by simp, fun G' H11 s11 n11 l11 => ?_⟩
    have I11 := I10.same s11
    exact k G' xs H11 I11.nx (I11.d.mono (by omega)) ⟨S2, I10.d.ne n11, hS2p, l11, I11.S, h2, by omega, fun v hv => (I11.all v hv).go (by omega) (Int.le_refl _) (fun _ q => q.1) fun b o _ e => e⟩ (by omega)

end
end K11

set_option Elab.async false
set_option linter.all false
set_option maxRecDepth 100000
set_option maxHeartbeats 4000000
namespace K11
open PySem L2 PySem.KX StX
abbrev s_law_net : Stmt := top 35
abbrev N_nt : List Str := ["dice", "grown", "total", "steps", "order", "names", "rows", "name", "ins", "outs", "place"]
theorem sc_law_net : FnScope N_nt ["dice", "grown"] (defScope s_law_net) := ⟨rfl, rfl, rfl, by decide +kernel, rfl, by decide +kernel, by decide +kernel⟩
def ordF (os : List Int) (k : Int) : Int := (os[k.toNat]?).getD 0
theorem ordF_at {os : List Int} {n k : Int} (hl : (os.length : Int) = n) (ho : ∀ j ∈ os, 0 ≤ j ∧ j < n) (h0 : 0 ≤ k) (h1 : k < n) : atI (os.map V.int) k = some (.int (ordF os k)) ∧ 0 ≤ ordF os k ∧ ordF os k < n := by
  obtain ⟨j, rfl⟩ : ∃ j : Nat, k = (j : Int) := ⟨k.toNat, by omega⟩
  have hj : j < os.length := by omega
  have e : os[j]? = some os[j] := List.getElem?_eq_getElem hj
  have e2 : ordF os (j : Int) = os[j] := by
    unfold ordF
    rw [Int.toNat_natCast, e]
    rfl
  rw [e2]
  exact ⟨atI_nat (by rw [List.getElem?_map, e]; rfl), (ho _ (List.getElem_mem hj)).1, (ho _ (List.getElem_mem hj)).2⟩
section
variable {P : Program} {w : World} {K : PySem.W.Frag} {mg : Str → Option Value} {base : Heap}
def spNet (K : PySem.W.Frag) : Sp := fun vs H Q _ => ∃ (p G : Addr) (m : Int) (M : Nat) (n : Int) (xs : List V), vs = [.ref p, .ref G] ∧ Dc p m H ∧ m + 3000 < 2 ^ 30 ∧ GrA p M H G n xs ∧ M ≤ 4000 ∧ n ≤ 30 ∧ xs.length ≤ 26 ∧
  ∀ (rows : List RowN) (v : Addr) (ts : List V) (H' : Hp), GoodN n rows → Nxt p H H' → Dc p (m + 500) H' → Dq K (hide [p] H') (.ref v) (netOf n rows) → H' v = some (.tup ts) → Q (.ref v) H'
theorem ok_law_net {f : Addr} {fd : FuncData} (Fu : Fun K "_law_net" "_law_net" s_law_net f fd) (TX : TxtX mg) (TS : TxtS mg) (htup : mg "tuple" = none) (hzip : mg "zip" = none) (O_law_mixed : Own P w K mg base CX0 "_law_mixed" 2 ["dice", "items"] (spMixD K)) (O_law_words : Own P w K mg base CX0 "_law_words" 2 ["dice", "total"] spWords) : FnG P w K mg base CX0 3 f fd ["dice", "grown"] (spNet K) := by
  have nd := sc_law_net.nd
  refine okG Fu sc_law_net (fun vs H Q E h => ?_) (fun cdv A outer s H vs Q E hr h => ?_)
  · obtain ⟨_, _, _, _, _, _, rfl, _⟩ := h
    rfl
  · obtain ⟨p, G, m, M, n, xs, rfl, hp, hm, hG, hM, hn, hl0, k⟩ := h
    refine ⟨_, (pss_cons (ps_asg (av 1) (pg_unp rfl (pgs_cons (pg_name (i := 2) nd rfl (by first | exact Or.inl rfl | exact Or.inr rfl)) (pgs_cons (pg_name (i := 3) nd rfl (by first | exact Or.inl rfl | exact Or.inr rfl)) pgs_nil))))
      (pss_cons (ps_set (i := 4) nd rfl (by first | exact Or.inl rfl | exact Or.inr rfl) (pe_op op_addS (pe_lstS (pa_cons pe_int (pa_cons pe_int pa_nil))) (pe_lc (own := [("place", 10)]) (by rfl) nd (pi_list (pe_own O_law_mixed hr (pa_cons (av 0) (pa_cons (pe_listRg rfl (by rfl) TX.list (prg_1 (by rfl) TX.range (pe_op op_subA (av 2) pe_int))) pa_nil)) (by decide))) (blkOk_by (N := N_nt) (sc := defScope s_law_net) (by decide +kernel)) (fun _ _ _ _ _ => (pg_name (i := 10) nd rfl (by first | exact Or.inl rfl | exact Or.inr rfl))) (fun _ _ _ _ _ => pts_nil) (fun _ _ _ _ _ => (show PE _ _ (tOp (rAddA K) (aVar 10) (tC (.int 2))) from pe_op op_addA (av 10) pe_int)))))
      (pss_cons (ps_set (i := 5) nd rfl (by first | exact Or.inl rfl | exact Or.inr rfl) (pe_own O_law_words hr (pa_cons (av 0) (pa_cons (pe_callB call_lenA (by rfl) TX.len PySem.boot_len (pa_cons (av 3) pa_nil)) pa_nil)) (by decide)))
      (pss_cons (ps_set (i := 6) nd rfl (by first | exact Or.inl rfl | exact Or.inr rfl) (pe_lstS pa_nil))
      (pss_cons (ps_for PassesOwn.never rfl (pi_zip (by rfl) hzip (pa_cons (av 5) (pa_cons (av 3) pa_nil))) (pg_tup rfl (pgs_cons (pg_name (i := 7) nd rfl (by first | exact Or.inl rfl | exact Or.inr rfl)) (pgs_cons (pg_unp rfl (pgs_cons (pg_name (i := 8) nd rfl (by first | exact Or.inl rfl | exact Or.inr rfl)) (pgs_cons (pg_name (i := 9) nd rfl (by first | exact Or.inl rfl | exact Or.inr rfl)) pgs_nil))) pgs_nil))) (pss_cons (ps_par (i := 8) (j := 9) (by rfl) nd rfl rfl (by decide) rfl rfl (pa_cons (pe_lc (own := [("place", 10)]) (by rfl) nd (pi_list (av 8)) (blkOk_by (N := N_nt) (sc := defScope s_law_net) (by decide +kernel)) (fun _ _ _ _ _ => (pg_name (i := 10) nd rfl (by first | exact Or.inl rfl | exact Or.inr rfl))) (fun _ _ _ _ _ => pts_nil) (fun _ _ _ _ _ => (show PE _ _ (tOp (rIxA K) (aVar 4) (aVar 10)) from pe_ixA (av 4) (av 10)))) (pa_cons (pe_lc (own := [("place", 10)]) (by rfl) nd (pi_list (av 9)) (blkOk_by (N := N_nt) (sc := defScope s_law_net) (by decide +kernel)) (fun _ _ _ _ _ => (pg_name (i := 10) nd rfl (by first | exact Or.inl rfl | exact Or.inr rfl))) (fun _ _ _ _ _ => pts_nil) (fun _ _ _ _ _ => (show PE _ _ (tOp (rIxA K) (aVar 4) (aVar 10)) from pe_ixA (av 4) (av 10)))) pa_nil)) (by rfl))
      (pss_one (ps_expr (pe_appS (av 6) (pe_tupS (pa_cons (av 7) (pa_cons (pe_callTy call_tupLS (by rfl) htup (by decide +kernel) (pa_cons (pe_callB (call_sortTI rfl) (by rfl) TS.sorted (by decide +kernel) (pa_cons (pe_callTy (call_setLB rfl) (by rfl) TS.set (by decide +kernel) (pa_cons (av 8) pa_nil)) pa_nil)) pa_nil)) (pa_cons (pe_callTy call_tupLS (by rfl) htup (by decide +kernel) (pa_cons (pe_callB (call_sortTI rfl) (by rfl) TS.sorted (by decide +kernel) (pa_cons (pe_callTy (call_setLB rfl) (by rfl) TS.set (by decide +kernel) (pa_cons (av 9) pa_nil)) pa_nil)) pa_nil)) pa_nil)))))))))
      (pss_one (ps_ret (pe_tupS (pa_cons (av 2) (pa_cons (pe_callTy call_tupLS (by rfl) htup (by decide +kernel) (pa_cons (pe_callB (call_sortedQ hr.units64) (by rfl) TS.sorted (by decide +kernel) (pa_cons (av 6) pa_nil)) pa_nil)) pa_nil)))))))))), ?_⟩
    obtain ⟨St, hGp, hSp, eG, eS, h2, h1, hv⟩ := hG
    refine ⟨G, _, rfl, SqL.of eG, rfl, _, _, rfl, _, _, rfl, rfl, ?_⟩
    refine ⟨by simp, fun q1 H1 s1 n1 l1 => ?_⟩
    refine ⟨n - 2, rfl, RgOk.of_le (by omega) (by omega) (by omega) (by omega), fun q2 hq2 => ?_⟩
    have s2 : Same H1 (upd H1 q2 (.lst (rgV 0 (n - 2)))) := (Same.refl _).new hq2
    have l2 : upd H1 q2 (.lst (rgV 0 (n - 2))) q2 = some (.lst (rgV 0 (n - 2))) := upd_same
    generalize upd H1 q2 (.lst (rgV 0 (n - 2))) = H2 at s2 l2 ⊢
    have dc2 := (hp.same s1).same s2
    refine ⟨p, q2, m, _, rfl, dc2, by omega, .inl (SqL.of l2), by rw [rgV_length]; omega, fun ys q3 H3 hperm nx3 dc3 n3 l3 => ?_⟩
    have hyl : ys.length = (n - 2 - 0).toNat := by rw [hperm.length_eq, rgV_length]
    rw [rgV_length] at dc3
    have hys : ∀ v ∈ ys, ∃ k : Int, v = .int k ∧ 0 ≤ k ∧ k < n - 2 := fun v hv => by
      have hm := hperm.mem_iff.mp hv
      unfold rgV at hm
      obtain ⟨t, ht, rfl⟩ := List.mem_map.mp hm
      have := List.mem_range.mp ht
      exact ⟨_, rfl, by omega, by omega⟩
    have hq1p : q1 ≠ p := hp.ne n1
    have l1' : H3 q1 = some (.lst [.int 0, .int 1]) := nx3.get hq1p (s2 _ _ l1)
    refine ⟨q3, rfl, ⟨_, SqL.of l3⟩, fun D hD => ?_⟩
    refine lc_it (walk_list (xs := ys)) (fun t H' => ∃ c : List Int, H' D = some (.lst (c.map V.int)) ∧ c.length = t ∧ (∀ k ∈ c, 0 ≤ k ∧ k < n) ∧ ∀ b o, H3 b = some o → H' b = some o)
      ⟨[], upd_same, rfl, (fun k h => nomatch h), fun b o e => by rw [upd_ne (ne_of_none e hD)]; exact e⟩ (fun t H' _ ⟨_, _, _, _, kp⟩ => SqL.of (kp _ _ l3)) ?_ ?_
    · rintro t y Hx H4 ht ⟨c, hc, hcl, hcn, kp⟩ ⟨rfl, hy⟩
      obtain ⟨j, rfl, hj0, hj1⟩ := hys y (List.mem_of_getElem? hy)
      refine ⟨rfl, _, hc, by rw [List.length_map, sizeLine_eq]; omega, c ++ [j + 2], by rw [upd_same, List.map_append]; rfl, by simp [hcl], fun k hk => ?_, fun b o e => ?_⟩
      · rcases List.mem_append.mp hk with z | z
        · exact hcn k z
        · rw [List.mem_singleton.mp z]; omega
      · rw [upd_ne (ne_of_none e hD)]
        exact kp _ _ e
    rintro H4 ⟨c, hc, hcl, hcn, kp4⟩
    have s4 : Same H3 H4 := fun b o e => kp4 b o e
    refine .inl ⟨[.int 0, .int 1], c.map V.int, s4 _ _ l1', hc, by simp; omega, fun q4 H5 s5 n5 l5 => ?_⟩
    have hos : ∀ j ∈ (0 : Int) :: 1 :: c, 0 ≤ j ∧ j < n := fun j hj => by
      rcases List.mem_cons.mp hj with rfl | z
      · omega
      · rcases List.mem_cons.mp z with rfl | z
        · omega
        · exact hcn j z
    have holn : (((0 : Int) :: 1 :: c).length : Int) = n := by simp [hcl]; omega
    have l5' : H5 q4 = some (.lst (((0 : Int) :: 1 :: c).map V.int)) := l5
    generalize (0 : Int) :: 1 :: c = os at hos holn l5'
    clear l5
    have nx5 : Nxt p H H5 := ((((Nxt.of s1).trans (Nxt.of s2)).trans nx3).trans (Nxt.of s4)).trans (Nxt.of s5)
    have dc5 : Dc p (m + 40) H5 := ((dc3.same s4).same s5).mono (by omega)
    have hq4p : q4 ≠ p := (dc3.same s4).ne n5
    -- names
    refine .inl ⟨xs, SqL.of (nx5.get hSp eS), ?_⟩
    refine ⟨p, _, xs.length, rfl, dc5, hl0, by omega, fun fs W H6 hfl hfn hfw nx6 dc6 nW lW => ?_⟩
    have nx06 := nx5.trans nx6
    have hWp : W ≠ p := dc5.ne nW
    have l6 : H6 q4 = some (.lst (os.map V.int)) := nx6.get hq4p l5'
    refine ⟨by simp, fun R H7 s7 nR lR => ?_⟩
    have hRp : R ≠ p := dc6.ne nR
    have nx07 := nx06.trans (Nxt.of s7)
    have nRH : H R = none := nx06.free hRp nR
    have l7 := s7 _ _ l6
    have lW7 := s7 _ _ lW
    have eS7 := nx07.get hSp eS
    have ne7 : ∀ {b : Addr} {o : HO}, H6 b = some o → b ≠ R := fun {b o} e z => by rw [z, nR] at e; cases e
    have hv7 : ∀ v ∈ xs, StA (fun b => b ≠ p) M n H7 v := fun v h => (hv v h).go (Nat.le_refl _) (Int.le_refl _) (fun _ q => q) fun b o hb e => nx07.get hb e
    have hvR : ∀ v ∈ xs, StA (fun b => b ≠ p ∧ b ≠ R) M n H7 v := fun v h => by
      have go : ∀ {b : Addr} {o : HO}, b ≠ p → H b = some o → b ≠ R := fun {b o} _ e z => by rw [z, nRH] at e; cases e
      obtain ⟨a, i, o, e, ha, hac, ⟨hi, ns, eI, r1⟩, ho, ms, eO, r2⟩ := hv v h
      exact ⟨a, i, o, e, ⟨ha, go ha hac⟩, nx07.get ha hac, ⟨⟨hi, go hi eI⟩, ns, nx07.get hi eI, r1⟩, ⟨ho, go ho eO⟩, ms, nx07.get ho eO, r2⟩
    refine ⟨W, St, fs.map V.str, xs, rfl, SqL.of lW7, SqL.of eS7, ?_⟩
    refine for_it (walk_zip (n := xs.length) (by simp [hfl])) (fun i σ H' => ∃ (raw : List RowN) (acc : List V) (o7 o8 o9 o10 : Option V), σ = [some (.ref p), some (.ref G), some (.int n), some (.ref St), some (.ref q4), some (.ref W), some (.ref R), o7, o8, o9, o10] ∧ H' R = some (.lst acc) ∧ DqAll K (hide [R, p] H') acc (raw.map rowD) ∧ raw.map (·.1) = fs.take i ∧ (∀ r ∈ raw, GoodR n r) ∧ (∀ b o, b ≠ R → H7 b = some o → H' b = some o))
      ⟨[], [], _, _, _, _, rfl, lR, .nil, by simp, (fun r hr => nomatch hr), fun b o _ e => e⟩ (fun i σ H' _ ⟨_, _, _, _, _, _, _, _, _, _, _, kp⟩ => ⟨SqL.of (kp W _ (ne7 lW) lW7), SqL.of (kp St _ (ne7 (nx06.get hSp eS)) eS7)⟩) ?_ ?_
    · rintro i y σ H8 H9' hi ⟨raw, acc, o7, o8, o9, o10, rfl, hR8, hacc, hnm, hgood, kp⟩ ⟨T, x1, y1, rfl, nT, rfl, e1, hxx⟩
      obtain ⟨x, hx, rfl⟩ : ∃ x, fs[i]? = some x ∧ x1 = .str x := by
        replace e1 : (fs.map V.str)[i]? = some x1 := e1
        rw [List.getElem?_map] at e1
        cases e : fs[i]? with
        | none => rw [e] at e1; cases e1
        | some x => rw [e] at e1; exact ⟨x, rfl, (Option.some.inj e1).symm⟩
      have sT : Same H8 (upd H8 T (.tup [.str x, y1])) := (Same.refl _).new nT
      have lT : upd H8 T (.tup [.str x, y1]) T = some (.tup [.str x, y1]) := upd_same
      generalize upd H8 T (.tup [.str x, y1]) = H9 at sT lT ⊢
      obtain ⟨a, I, O, rfl, ha, hac, ⟨hI, ns, eI, neI, leI, inI⟩, hO, ms, eO, neO, leO, inO⟩ := hvR y1 (List.mem_of_getElem? hxx)
      have kp9 : ∀ b o, b ≠ R → H7 b = some o → H9 b = some o := fun b o hb e => sT _ _ (kp b o hb e)
      refine ⟨T, _, rfl, SqT.of lT, rfl, _, _, rfl, _, _, rfl, a, _, rfl, SqL.of (kp9 _ _ ha.2 hac), rfl, _, _, rfl, _, _, rfl, rfl, rfl, ?_⟩
      have hord9 : H9 q4 = some (.lst (os.map V.int)) := kp9 _ _ (ne7 l6) l7
      have eI9 := kp9 _ _ hI.2 eI
      have eO9 := kp9 _ _ hO.2 eO
      refine ⟨I, rfl, ⟨_, SqL.of eI9⟩, fun D1 hD1 => ?_⟩
      refine lc_it (walk_list (xs := ns.map V.int)) (fun t H' => H' D1 = some (.lst (((ns.take t).map (ordF os)).map V.int)) ∧ ∀ b o, H9 b = some o → H' b = some o)
        ⟨upd_same, fun b o e => by rw [upd_ne (ne_of_none e hD1)]; exact e⟩ (fun t H' _ ⟨_, kp⟩ => SqL.of (kp _ _ eI9)) ?_ ?_
      · rintro t z Hx H10 ht ⟨hD, kp10⟩ ⟨rfl, hz⟩
        rw [List.getElem?_map] at hz
        cases q2 : ns[t]? with
        | none => rw [q2] at hz; cases hz
        | some z' =>
          rw [q2] at hz
          cases hz
          rw [List.length_map] at ht
          obtain ⟨b0, b1⟩ := inI z' (List.mem_of_getElem? q2)
          obtain ⟨o1, o2, o3⟩ := ordF_at holn hos b0 b1
          refine ⟨rfl, .inl ⟨_, _, SqL.of (kp10 _ _ hord9), o1, ?_⟩⟩
          refine ⟨_, hD, by rw [List.length_map, List.length_map, List.length_take, sizeLine_eq]; omega, by rw [upd_same, List.take_add_one, q2, List.map_append, List.map_append]; rfl, fun b o e => ?_⟩
          rw [upd_ne (ne_of_none e hD1)]
          exact kp10 b o e
      rintro H10 ⟨hD1', kp10⟩
      rw [List.length_map, List.take_length] at hD1'
      have s10 : Same H9 H10 := fun b o e => kp10 b o e
      refine ⟨O, rfl, ⟨_, SqL.of (s10 _ _ eO9)⟩, fun D2 hD2 => ?_⟩
      refine lc_it (walk_list (xs := ms.map V.int)) (fun t H' => H' D2 = some (.lst (((ms.take t).map (ordF os)).map V.int)) ∧ ∀ b o, H10 b = some o → H' b = some o)
        ⟨upd_same, fun b o e => by rw [upd_ne (ne_of_none e hD2)]; exact e⟩ (fun t H' _ ⟨_, kp⟩ => SqL.of (kp _ _ (s10 _ _ eO9))) ?_ ?_
      · rintro t z Hx H11 ht ⟨hD, kp11⟩ ⟨rfl, hz⟩
        rw [List.getElem?_map] at hz
        cases q2 : ms[t]? with
        | none => rw [q2] at hz; cases hz
        | some z' =>
          rw [q2] at hz
          cases hz
          rw [List.length_map] at ht
          obtain ⟨b0, b1⟩ := inO z' (List.mem_of_getElem? q2)
          obtain ⟨o1, o2, o3⟩ := ordF_at holn hos b0 b1
          refine ⟨rfl, .inl ⟨_, _, SqL.of (kp11 _ _ (s10 _ _ hord9)), o1, ?_⟩⟩
          refine ⟨_, hD, by rw [List.length_map, List.length_map, List.length_take, sizeLine_eq]; omega, by rw [upd_same, List.take_add_one, q2, List.map_append, List.map_append]; rfl, fun b o e => ?_⟩
          rw [upd_ne (ne_of_none e hD2)]
          exact kp11 b o e
      rintro H11 ⟨hD2', kp11⟩
      rw [List.length_map, List.take_length] at hD2'
      have s11 : Same H10 H11 := fun b o e => kp11 b o e
      have s911 : Same H9 H11 := s10.trans s11
      have hD1'' := s11 _ _ hD1'
      refine ⟨_, _, rfl, ?_⟩
      have hR9 : H9 R = some (.lst acc) := sT _ _ hR8
      have hR11 := s911 _ _ hR9
      refine ⟨R, acc, rfl, hR11, ?_⟩
      have inI' : ∀ k ∈ ns.map (ordF os), 0 ≤ k ∧ k < n := fun k hk => by
        obtain ⟨j, hj, rfl⟩ := List.mem_map.mp hk
        exact (ordF_at holn hos (inI j hj).1 (inI j hj).2).2
      have inO' : ∀ k ∈ ms.map (ordF os), 0 ≤ k ∧ k < n := fun k hk => by
        obtain ⟨j, hj, rfl⟩ := List.mem_map.mp hk
        exact (ordF_at holn hos (inO j hj).1 (inO j hj).2).2
      have nI' : ns.map (ordF os) ≠ [] := fun z => neI (List.map_eq_nil_iff.mp z)
      have nO' : ms.map (ordF os) ≠ [] := fun z => neO (List.map_eq_nil_iff.mp z)
      have lI' : (ns.map (ordF os)).length ≤ 4000 := by rw [List.length_map]; omega
      have lO' : (ms.map (ordF os)).length ≤ 4000 := by rw [List.length_map]; omega
      generalize ns.map (ordF os) = ns' at inI' nI' lI' hD1''
      generalize ms.map (ordF os) = ms' at inO' nO' lO' hD2'
      have en : ((n.toNat : Nat) : Int) = n := by omega
      have hp8 : ∀ {Hx : Hp}, Same H9 Hx → Hx p ≠ none := fun {Hx} s z => by
        obtain ⟨g, u, v, e, _⟩ := dc6
        have := s _ _ (kp9 _ _ (Ne.symm hRp) (s7 _ _ e))
        rw [z] at this
        cases this
      have off : ∀ {Hx : Hp} {b : Addr}, Same H9 Hx → Hx b = none → b ≠ p ∧ b ≠ R := fun {Hx b} s e => ⟨fun z => hp8 s (z ▸ e), fun z => by
        rw [z, s _ _ hR9] at e
        cases e⟩
      refine ⟨D1, ns', n.toNat, rfl, SqL.of hD1'', lI', fun k hk => by rw [en]; exact inI' k hk, fun p12 c12 H12 s12 n12 e12 hc12 => ?_⟩
      refine ⟨p12, _, c12, rfl, e12, by omega, fun ms0 p13 H13 asc0 mem0 len0 s13 n13 l13 => ?_⟩
      refine ⟨p13, _, rfl, SqL.of l13, fun p14 H14 s14 n14 l14 => ?_⟩
      have s1114 := (s12.trans s13).trans s14
      refine ⟨D2, ms', n.toNat, rfl, SqL.of (s1114 _ _ hD2'), lO', fun k hk => by rw [en]; exact inO' k hk, fun p15 c15 H15 s15 n15 e15 hc15 => ?_⟩
      refine ⟨p15, _, c15, rfl, e15, by omega, fun ms1 p16 H16 asc1 mem1 len1 s16 n16 l16 => ?_⟩
      refine ⟨p16, _, rfl, SqL.of l16, fun p17 H17 s17 n17 l17 => ?_⟩
      refine ⟨by simp, fun p18 H18 s18 n18 l18 => ?_⟩
      have s1417 := (s15.trans s16).trans s17
      have s1118 := (s1114.trans s1417).trans s18
      have s918 := s911.trans s1118
      have hal := hacc.length
      have hrl : raw.length ≤ i := by
        have := congrArg List.length hnm
        simp only [List.length_map, List.length_take] at this
        omega
      rw [List.length_map] at hal
      refine ⟨acc, s918 _ _ hR9, by omega, ?_⟩
      have f14 := off (s911.trans (s12.trans s13)) n14
      have f17 := off (s911.trans (s1114.trans (s15.trans s16))) n17
      have f18 := off (s911.trans (s1114.trans s1417)) n18
      have hid : ∀ {H' : Hp} {b : Addr} {o : HO}, b ≠ p ∧ b ≠ R → H' b = some o → hide [R, p] H' b = some o := fun {H' b o} hb e => by
        rw [hide_in (fun z => by
          rcases List.mem_cons.mp z with y | y
          · exact hb.2 y
          · exact hb.1 (List.mem_singleton.mp y))]
        exact e
      have hrow : Dq K (hide [R, p] H18) (.ref p18) (rowD (x, ms0, ms1)) := row_dq (hid f18 l18) (hid f14 (s18 _ _ (s1417 _ _ l14))) (hid f17 (s18 _ _ l17))
      have s2 : Same (hide [R, p] H8) (hide [R, p] H18) := fun b o e => by
        obtain ⟨e1, e2⟩ := hide_of e
        exact hid ⟨fun z => e2 (by rw [z]; simp), fun z => e2 (by rw [z]; simp)⟩ ((sT.trans s918) _ _ e1)
      have ne0 : ms0 ≠ [] := fun z => by
        subst z
        obtain ⟨j, hj⟩ := List.exists_mem_of_ne_nil _ nI'
        exact nomatch (mem0 j).mpr (decide_eq_true hj)
      have g0 : GoodI n ms0 := ⟨ne0, asc0, fun k hk => inI' k (of_decide_eq_true ((mem0 k).mp hk))⟩
      have ne1 : ms1 ≠ [] := fun z => by
        subst z
        obtain ⟨j, hj⟩ := List.exists_mem_of_ne_nil _ nO'
        exact nomatch (mem1 j).mpr (decide_eq_true hj)
      have g1 : GoodI n ms1 := ⟨ne1, asc1, fun k hk => inO' k (of_decide_eq_true ((mem1 k).mp hk))⟩
      refine ⟨raw ++ [(x, ms0, ms1)], acc ++ [.ref p18], _, _, _, _, rfl, upd_same, ?_, ?_, ?_, ?_⟩
      · rw [hide_upd, List.map_append]
        exact dqAll_snoc (DqAll.same s2 _ _ hacc) hrow
      · rw [List.map_append, hnm, List.take_add_one, hx]
        rfl
      · intro r hr
        rcases List.mem_append.mp hr with z | z
        · exact hgood r z
        · rw [List.mem_singleton.mp z]
          exact ⟨hfw x (List.mem_of_getElem? hx), g0, g1⟩
      · intro b o b1 e
        rw [upd_ne b1]
        exact s918 _ _ (kp9 b o b1 e)
    · rintro σ H8 ⟨raw, acc, o7, o8, o9, o10, rfl, hR8, hacc, hnm, hgood, kp⟩
      rw [← hfl, List.take_length] at hnm
      have hlr : raw.length = xs.length := by
        have := congrArg List.length hnm
        simp only [List.length_map] at this
        omega
      have nd' : (raw.map (·.1)).Nodup := by rw [hnm]; exact hfn
      obtain ⟨rows, pm, asc, es⟩ := sort_rows nd'
      have hacc8 : DqAll K H8 acc (raw.map rowD) := DqAll.same hide_sub _ _ hacc
      have hmem : ∀ d ∈ raw.map rowD, ∃ r ∈ raw, d = rowD r := fun d hd => by
        obtain ⟨r, hr, e⟩ := List.mem_map.mp hd
        exact ⟨r, hr, e.symm⟩
      have dc8 : Dc p (m + 440) H8 := by
        obtain ⟨g, u, v, e, q1, q2, q3, q4, q5⟩ := dc6
        exact ⟨g, u, v, kp _ _ (Ne.symm hRp) (s7 _ _ e), q1, q2, q3, q4, by omega⟩
      refine ⟨R, acc, raw.map rowD, rfl, SqL.of hR8, hacc8, fun d hd d' hd' => ?_, .inl fun d hd => ?_, by simp; omega, fun d hd => ?_, fun p9 H9 s9 n9 l9 => ?_⟩
      · obtain ⟨r, _, rfl⟩ := hmem d hd
        obtain ⟨r', _, rfl⟩ := hmem d' hd'
        exact alike_r r r'
      · obtain ⟨r, _, rfl⟩ := hmem d hd
        exact ⟨_, _, rfl⟩
      · obtain ⟨r, _, rfl⟩ := hmem d hd
        exact depth_row _ _ _
      · refine ⟨p9, _, rfl, SqL.of l9, fun p10 H10 s10 n10 l10 => ?_⟩
        refine ⟨by simp, fun p11 H11 s11 n11 l11 => ?_⟩
        have hn10 : p10 ≠ p := (dc8.same s9).ne n10
        have hn11 : p11 ≠ p := (dc8.same (s9.trans s10)).ne n11
        have hid : ∀ {H' : Hp} {b : Addr} {o : HO}, b ≠ p → H' b = some o → hide [p] H' b = some o := fun {H' b o} hb e => by
          rw [hide_in (fun z => hb (List.mem_singleton.mp z))]
          exact e
        have s811 := (s9.trans s10).trans s11
        have s2 : Same (hide [R, p] H8) (hide [p] H11) := fun b o e => by
          obtain ⟨e1, e2⟩ := hide_of e
          exact hid (fun z => e2 (by rw [z]; simp)) (s811 _ _ e1)
        have hdq := sortQ_dq (DqAll.same s2 _ _ hacc)
        rw [es] at hdq
        refine k rows p11 _ H11 ⟨h2, hn, by rw [pm.length_eq]; omega, by rw [pm.length_eq]; omega, fun r hr => hgood r (pm.mem_iff.mp hr), asc⟩ ?_ ((dc8.same s811).mono (by omega)) ?_ l11
        · refine (nxt_of fun b o hb e => ?_ : Nxt p H H8).trans (Nxt.of s811)
          have hbR : b ≠ R := ne_of_none e nRH
          exact kp b o hbR (nx07.get hb e)
        · exact .tup (SqT.of (hid hn11 l11)) (.cons (.int _) (.cons (.tup (SqT.of (hid hn10 (s11 _ _ l10))) hdq) .nil))

end
end K11

set_option Elab.async false
set_option linter.all false
set_option maxRecDepth 100000
set_option maxHeartbeats 4000000
/-! anything in a list of texts; a def held by a variable; a list several times. -/
namespace L2
open PySem PySem.Spec PyProof.Rows PySem.KX SeqAt
theorem eqAt_strRef {A : Around} {s : Shared} {a : Str} {t : Tok} {p : Addr} {k : Bool} (h : RcAt A s (.str a t) (.ref p) k) : EqAt A s (.str a t) (.ref p) k := fun prog w E Q hq => by
  unfold eqBool
  refine wpAny_holding ?_
  refine wpAny_ite_split (fun hab => absurd (eq_of_beq hab) (fun z => nomatch z)) (fun _ => ?_)
  exact wpAny_bind (h prog w E _ (wpAny_truthy_bool hq))
def isStrU (d : PyData) : Value → Bool
  | .str a _ => isStrD a d
  | _ => false
def rNotInW (K : PySem.W.Frag) : R2 := fun x y H Q => ∃ (p : Addr) (ws : List Str) (d : PyData), y = .ref p ∧ SqL K H p (ws.map V.str) ∧ Dq K H x d ∧ Q (.bl (!ws.any fun a => isStrD a d)) H
theorem any_isStrU {d : PyData} : ∀ {ws : List Str} {us : List Value}, Vals (ws.map V.str) us → us.any (isStrU d) = ws.any fun a => isStrD a d
  | [], _, .nil => rfl
  | a :: ws, _, .cons r t => by
    obtain ⟨k, rfl⟩ := r
    rw [List.any_cons, List.any_cons, any_isStrU t]
    rfl
theorem mem_strs : ∀ {ws : List Str} {us : List Value}, Vals (ws.map V.str) us → ∀ u ∈ us, ∃ a t, u = .str a t
  | [], _, .nil => fun u hu => by cases hu
  | a :: ws, _, .cons r t => fun u' hu => by
    rcases List.mem_cons.mp hu with rfl | hu
    · obtain ⟨k, rfl⟩ := r
      exact ⟨a, k, rfl⟩
    · exact mem_strs t u' hu
theorem op_notInW {X : Cx} (hu : X.A.units + 64 < cLine) : OpR X (compareOp .NotIn) (rNotInW X.K) := by
  intro pins s σ H x y v u Q I rx ry h
  obtain ⟨p, ws, d, rfl, hq, hd, q⟩ := h
  cases ry
  obtain ⟨its, r, pl, hz⟩ := I.list hq
  have hu1 : X.A.units < cLine := by omega
  have hu2 : X.A.in1.units < cLine := by
    show X.A.units + 1 < cLine
    omega
  have key : ∀ (a : Str) (t : Tok) (A : Around), A.units < cLine → EqAt A s (.str a t) v (isStrD a d) := fun a t A hA => by
    cases hd with
    | non => cases rx; exact .str_none a t
    | bl b => cases rx; exact .str_bool a t b
    | int i => obtain ⟨t2, rfl⟩ := rx; exact .str_int a t i t2
    | str x => obtain ⟨t2, rfl⟩ := rx; exact .str_str a t x t2
    | lst hs ha =>
      cases rx
      obtain ⟨its, rv, ⟨o, n, ho, hc, _, hd⟩, _⟩ := I.list hs
      exact .str_list a t ⟨o, ho, hc, n, hd⟩ hA
    | tup hs ha =>
      cases rx
      obtain ⟨its, rv, ⟨o, ho, hc, n, hd⟩, _⟩ := I.tuple hs
      exact .str_tuple a t ⟨o, ho, hc, n, hd⟩ hA
    | emp e =>
      cases rx
      obtain ⟨hz, hsm, vs, rel, o, es, ep, ho, hx, hd, hk, hp, _⟩ := dk_of I.hok e
      exact eqAt_strRef (rcStrDict a t ho hx.1 hd hA)
  refine SeqAt.notIn_listAt (isStrU d) pl.isList (fun w hw => ?_) ⟨.bl _, H, I, rfl, ?_⟩
  · obtain ⟨a, t, rfl⟩ := mem_strs r w (by simpa using hw)
    exact key a t _ (by first | exact hu1 | exact hu2)
  · rw [show its.toArray.any (isStrU d) = its.any (isStrU d) by simp, any_isStrU r]
    exact q
/-- a list several times -/
def rRepS : R2 := fun x y H Q => ∃ l k xs, x = .ref l ∧ y = .int k ∧ H l = some (.lst xs) ∧ 0 ≤ k ∧ k ≤ 1000 ∧ xs.length ≤ 1000 ∧ ∀ p H', Same H H' → H p = none → H' p = some (.lst (List.replicate k.toNat xs).flatten) → Q (.ref p) H'
theorem op_repS {X : Cx} : OpR X (binaryOp .Mult) rRepS := op_rep.imp fun x y H Q ⟨l, k, xs, e1, e2, h1, h2, h3, h4, q⟩ => by
  refine ⟨l, k, xs, e1, e2, h1, by omega, by omega, ?_, fun p n => q p _ ((Same.refl _).new n) n upd_same⟩
  have h5 : k.toNat ≤ 1000 := by omega
  have := Nat.mul_le_mul h4 h5
  rw [sizeLine_eq]
  omega
section
variable {X : Cx} {k i : Nat} {f1 f2 : Addr} {fd1 fd2 : FuncData} {ps : List Str} {sp1 sp2 : Sp} {CX : CXT} {x : Str} {p pos : Pos} {e : Expr} {es : List Expr} {t : TA} {E : XK}
/-- one of two defs, held by a variable -/
theorem pe_callV (F1 : FnG X.prog X.w X.K X.mg X.base CX k f1 fd1 ps sp1) (F2 : FnG X.prog X.w X.K X.mg X.base CX k f2 fd2 ps sp2) (hr : RoomG k X.A) (hN : X.N[i]? = some x) (hv : Vis X.env.scope x)
    (hk1 : PySem.W.keepIn X.K (.ref f1) = true) (hk2 : PySem.W.keepIn X.K (.ref f2) = true) (hb1 : Binds X.K fd1 ps []) (hb2 : Binds X.K fd2 ps []) (hx : Passes CX X E) (ha : PA X (e :: es) t) (hd : (x == ("__debug__" : Str)) = false := by decide) (hcd : (x == ("__classdict__" : Str)) = false := by decide)
    (he : starEach (e :: es) X.env = (false, eval e X.env) :: starEach es X.env := by rfl) (hpl : (backTo pos (starEach es X.env)).any (·.1) = false := by rfl) :
    PE X (.Call (.Name x p) (e :: es) [] pos) (fun σ H Q => (σ[i]? = some (some (.ref f1)) ∧ tCall sp1 [] E t σ H Q) ∨ (σ[i]? = some (some (.ref f2)) ∧ tCall sp2 [] E t σ H Q)) := by
  have go : ∀ {f : Addr} {fd : FuncData} {sp : Sp}, FnG X.prog X.w X.K X.mg X.base CX k f fd ps sp → PySem.W.keepIn X.K (.ref f) = true → Binds X.K fd ps [] → PE X (.Call (.Name x p) (e :: es) [] pos) (fun σ H Q => σ[i]? = some (some (.ref f)) ∧ tCall sp [] E t σ H Q) := fun {f fd sp} F hk hb => by
    refine ⟨fun pins s σ H Q I h => ?_⟩
    obtain ⟨hs, h⟩ := h
    refine wpAny_Call_Name_kw (thn ((pe_var (pos := p) (i := i) hN hv hd hcd).run pins s σ H (fun v H1 => v = .ref f ∧ H1 = H) I ⟨.ref f, hs, rfl, rfl⟩) fun u s1 ⟨v, H1, I1, r1, q1⟩ => ?_)
    obtain ⟨ev, eH⟩ := q1
    subst ev
    rw [eH] at I1
    obtain rfl : u = Value.ref f := r1
    refine PySem.W.callWith_K (h₀ := X.base) I1.ok.mod.kin hk (thn (ha.run pos pins s1 σ H _ I1 h) fun us s2 ⟨vs, H2, I2, r, q⟩ => ⟨I2.kIn, ?_⟩) he hpl
    exact run_fnG F hr hb .nil hx I2 r q
  refine ⟨fun pins s σ H Q I h => ?_⟩
  rcases h with h | h
  · exact (go F1 hk1 hb1).run pins s σ H Q I h
  · exact (go F2 hk2 hb2).run pins s σ H Q I h
end
end L2

set_option Elab.async false
set_option linter.all false
set_option maxRecDepth 100000
set_option maxHeartbeats 4000000
/-! A list that is laid aside while an expression runs. -/
namespace L2
open PySem PySem.Spec PyProof.Rows PySem.KX
section
variable {X : Cx} {pins : List (Addr × Obj)} {σ : St} {H H' : Hp} {s s' : Shared} {D : Addr} {xs : List V} {o : Obj}
theorem hide1_ne {b : Addr} (h : b ≠ D) : hide [D] H b = H b := hide_in fun z => h (List.mem_singleton.mp z)
theorem hide1_at : hide [D] H D = none := by
  unfold hide
  rw [if_pos (List.mem_singleton.mpr rfl)]
/-- the list becomes a pin -/
theorem Inv.aside (I : Inv X pins σ H s) (hD : H D = some (.lst xs)) : ∃ (its : List Value) (n : Nat), Vals xs its ∧ xs.length ≤ sizeLine ∧ Inv X ((D, { cls := .type "list", data := .seq its.toArray n }) :: pins) σ (hide [D] H) s := by
  obtain ⟨hz, its, n, r, _, e⟩ := I.lstM hD
  refine ⟨its, n, r, hz, ?_⟩
  have sub : ∀ {b : Addr} {u : HO}, hide [D] H b = some u → b ≠ D ∧ H b = some u := fun {b u} q => by
    by_cases hb : b = D
    · rw [hb, hide1_at] at q; cases q
    · rw [hide1_ne hb] at q; exact ⟨hb, q⟩
  have non : ∀ {b : Addr}, H b = none → hide [D] H b = none := fun {b} q => by
    by_cases hb : b = D
    · rw [hb]; exact hide1_at
    · rw [hide1_ne hb]; exact q
  have big : ∀ {b : Addr} {u : HO}, H b = some u → (∀ ys, u ≠ .lst ys) → hide [D] H b = some u := fun {b u} q n => by
    by_cases hb : b = D
    · rw [hb, hD] at q; cases q; exact absurd rfl (n xs)
    · rw [hide1_ne hb]; exact q
  have nf : D ∉ X.fs := fun hm => by
    obtain ⟨_, ob, ho, _⟩ := I.ok.funs.mem hm
    have := I.base.free D ob ho (I.ok.frf D hm) fun z => I.ok.exfs D z hm
    rw [hD] at this
    cases this
  refine ⟨I.ok, I.os, I.bare, ⟨I.base.keep, I.base.slot, fun b ob q z hx => non (I.base.free b ob q z hx), I.base.there, fun b ys q => big (I.base.tups b ys q) (fun _ z => by cases z), fun b ob u q => big (I.base.frzs b ob u q) (fun _ z => by cases z), fun b ps q => ?_⟩, I.loc, I.cell, non I.free, fun x c q => non (I.freeC x c q), fun p hp => ?_, fun b u q => ?_, I.len⟩
  · obtain ⟨more, q2⟩ := I.base.tbls b ps q
    exact ⟨more, big q2 (fun _ z => by cases z)⟩
  · rcases List.mem_append.mp hp with z | z
    · obtain ⟨h1, h2, h3, h4, h5⟩ := I.pin p (List.mem_append_left _ z)
      exact ⟨h1, non h2, h3, h4, h5⟩
    · rcases List.mem_cons.mp z with rfl | z
      · refine ⟨e, hide1_at, fun q => ?_, nf, (fun v q => by cases q)⟩
        have h1 : D = X.env.locals := q
        rw [h1, I.free] at hD
        cases hD
      · obtain ⟨h1, h2, h3, h4, h5⟩ := I.pin p (List.mem_append_right _ z)
        exact ⟨h1, non h2, h3, h4, h5⟩
  · obtain ⟨hb, q2⟩ := sub q
    exact (I.hok b u q2).stay (fun _ _ _ r => r) (fun c q3 => big q3 (fun _ z => by cases z)) (fun c ys q3 => big q3 (fun _ z => by cases z))
/-- and comes back -/
theorem Inv.again {its : List Value} {n : Nat} (J : Inv X ((D, { cls := .type "list", data := .seq its.toArray n }) :: pins) σ H' s') (nb : ∀ ob, X.s_0.heap.get? D = some ob → X.H_0 D = none → D ∉ X.ex → False) (np : ∀ p ∈ X.pn ++ pins, p.1 ≠ D) (r : Vals xs its) (hz : xs.length ≤ sizeLine) : Inv X pins σ (upd H' D (.lst xs)) s' := by
  obtain ⟨e, nD, nL, nF, nC⟩ := J.pin _ (List.mem_append_right _ List.mem_cons_self)
  have nD' : H' D = none := nD
  have big : ∀ {b : Addr} {u : HO}, H' b = some u → upd H' D (.lst xs) b = some u := fun {b u} q => by rw [upd_ne (ne_of_none q nD')]; exact q
  have non : ∀ {b : Addr}, b ≠ D → H' b = none → upd H' D (.lst xs) b = none := fun {b} h q => by rw [upd_ne h]; exact q
  refine ⟨J.ok, J.os, J.bare, ⟨J.base.keep, J.base.slot, fun b ob q z hx => ?_, J.base.there, fun b ys q => big (J.base.tups b ys q), fun b ob u q => big (J.base.frzs b ob u q), fun b ps q => ?_⟩, J.loc, J.cell, ?_, fun x c q => ?_, fun p hp => ?_, fun b u q => ?_, J.len⟩
  · refine non (fun y => ?_) (J.base.free b ob q z hx)
    subst y
    exact nb ob q z hx
  · obtain ⟨more, q2⟩ := J.base.tbls b ps q
    exact ⟨more, big q2⟩
  · exact non (fun y => nL y.symm) J.free
  · refine non (fun y => ?_) (J.freeC x c q)
    obtain ⟨v, ob, h1, h2⟩ := J.cell x c q
    rw [y, e] at h1
    cases h1
    cases h2
  · have hp' : p ∈ X.pn ++ ((D, { cls := .type "list", data := .seq its.toArray n }) :: pins) := by
      rcases List.mem_append.mp hp with z | z
      · exact List.mem_append_left _ z
      · exact List.mem_append_right _ (List.mem_cons_of_mem _ z)
    obtain ⟨h1, h2, h3, h4, h5⟩ := J.pin p hp'
    exact ⟨h1, non (np p hp) h2, h3, h4, h5⟩
  · by_cases hb : b = D
    · subst hb
      rw [upd_same] at q
      cases q
      exact ⟨hz, its, n, r, e⟩
    · rw [upd_ne hb] at q
      exact (J.hok b u q).stay (fun _ _ _ r => r) (fun c q3 => big q3) (fun c ys q3 => big q3)
end
section
variable {X : Cx} {k j : Nat} {f : Addr} {fd : FuncData} {ps : List Str} {sp : Sp} {CX : CXT} {x : Str} {p pos : Pos} {e : Expr} {es : List Expr} {t : TA} {E : XK}
/-- a call, a list laid aside while it runs -/
def spAs (sp : Sp) : Sp := fun vs H Q E => ∃ (D : Addr) (xs : List V), H D = some (.lst xs) ∧ sp vs (hide [D] H) (fun v H' => H' D = none → Q v (upd H' D (.lst xs))) E
def tAs (sp : Sp) (t : TA) (E : XK) : TE := fun σ H Q => t σ H fun vs H1 => spAs sp vs H1 Q E
theorem pe_callAs (F : FnG X.prog X.w X.K X.mg X.base CX k f fd ps sp) (hr : RoomG k X.A) (hg : Gl X x) (hm : X.mg x = some (.ref f)) (hk : PySem.W.keepIn X.K (.ref f) = true) (hb : Binds X.K fd ps []) (hx : Passes CX X E)
    (ha : PA X (e :: es) t) (hdb : (x == ("__debug__" : Str)) = false := by decide) (he : starEach (e :: es) X.env = (false, eval e X.env) :: starEach es X.env := by rfl) (hpl : (backTo pos (starEach es X.env)).any (·.1) = false := by rfl) :
    PE X (.Call (.Name x p) (e :: es) [] pos) (tAs sp t E) := by
  refine ⟨fun pins s σ H Q I h => ?_⟩
  refine wpAny_Call_Name_kw (ld_glob I hg hm ?_ hdb)
  refine PySem.W.callWith_K (h₀ := X.base) I.ok.mod.kin hk (thn (ha.run pos pins s σ H _ I h) fun us s1 ⟨vs, H1, I1, r, q⟩ => ⟨I1.kIn, ?_⟩) he hpl
  obtain ⟨D, xs, hD, q⟩ := q
  obtain ⟨its, n, rv, hz, J⟩ := I1.aside hD
  have q2 : sp (vs ++ []) (hide [D] H1) (fun v H' => H' D = none → Q v (upd H' D (.lst xs))) E := by rw [List.append_nil]; exact q
  refine thn (run_fnG F hr hb .nil hx J r q2) fun u s' ⟨v, H', J', rv', q'⟩ => ⟨v, _, J'.again (fun ob h1 h2 h3 => ?_) (fun p hp z => ?_) rv hz, rv', q' (J'.pin _ (List.mem_append_right _ List.mem_cons_self)).2.1⟩
  · have := I1.base.free D ob h1 h2 h3
    rw [hD] at this
    cases this
  · have := (I1.pin p hp).2.1
    rw [z, hD] at this
    cases this
theorem pe_ownAs (O : Own X.prog X.w X.K X.mg X.base CX0 x k ps sp) (hr : RoomG j X.A) (ha : PA X (e :: es) t) (hk : k ≤ j := by decide) (hg : Gl X x := by rfl) (hdb : (x == ("__debug__" : Str)) = false := by decide)
    (he : starEach (e :: es) X.env = (false, eval e X.env) :: starEach es X.env := by rfl) (hpl : (backTo pos (starEach es X.env)).any (·.1) = false := by rfl) : PE X (.Call (.Name x p) (e :: es) [] pos) (tAs sp t E0) := by
  obtain ⟨f, fd, F, hm, hkp, hb⟩ := O.ex
  exact pe_callAs F (hr.mono hk) hg hm hkp hb (fun _ _ _ _ _ _ _ z => z.elim) ha hdb he hpl
end
end L2

set_option Elab.async false
set_option linter.all false
set_option maxRecDepth 100000
set_option maxHeartbeats 4000000
/-! The end of a law with lambdas: what is known of the tables of its defs. -/
namespace LamX
open PySem PySem.Spec PyProof.Rows L2
theorem walk_ofTT {l : PySem.W.OpenLaw} {n k : Nat} {q : Program} {loose : List Str} {XP : (Str → Option Value) → Heap → Prop} {YP : World → Heap → Prop} {d : DefRec} {K : Params → PySem.W.Frag} {CX : World → CXT} {x : Str}
    (hn : l.most = some n) (hn2 : n ≤ sizeLine) (hdf : d.params.defaults = []) (hr : Room k callerA) (hY : ∀ (w : World) (h : Heap), YP w h → (K w.params).In h)
    (F : ∀ (w : World) (mg : Str → Option Value) (fa : Addr) (h : Heap), YP w h → (K w.params).In h → h.Ns mainGlobals mg → mg d.name = some (.ref fa) →
      (∀ (y : Str) (e : DefRec) (c P : Addr), (recsOf q).find? (fun e => e.name == y) = some e → PySem.W.tabIn (K w.params) y = some (c, P) → PySem.W.CodeHd h c P ∧ h.get? P = some (PySem.W.tabObj #[])) → LawAtG l w (K w.params) (CX w) k n x mg fa h)
    (hCX : ∀ (w : World) (H : Hp) (s : Shared) (e : Value) (s' : Shared), CX w [] H s (fun _ _ _ => False) e s' → False) :
    PySem.W.WalkO q loose XP YP l.row.toRowW d [] (fun f vs => PySem.call f vs) := by
  refine Att.attach_callB hn hdf fun w s₀ s₁ mg mb fa o pm cd doc a vs ns G Y ho hd hcd hmg hobj hints hlen hbits hg => ?_
  have KX := hY w _ Y
  obtain ⟨fd, cs, sp, hT, nT, C, hb, hsp, hF⟩ := F w mg fa _ Y KX G.T.g hmg fun y e c P h1 h2 => PySem.W.tab_of G.T KX h1 h2
  exact law_callTG KX G.T.g G.T.b G.T.builtins G.T.nolimit hg hT nT C G.T.bmain hobj hints (Nat.le_trans hlen hn2) hr hF hb (fun H hH hS => hsp H a ns hlen hbits hH hS) fun H e s' => hCX w H s₁ e s'
theorem tabIn_of {K : PySem.W.Frag} {x : Str} {f c P : Addr} {oc oc2 : Value} {od od2 : Option Addr} {fd : FuncData} {osl osl2 : Array (Option Value)} {vs : Array Value}
    (h1 : PySem.W.nsIn K mainGlobals x = some (some (.ref f))) (h2 : K.lookup f = some ⟨oc, od, .func fd, osl⟩) (h3 : fd.code = .ref c) (h4 : K.lookup c = some ⟨oc2, od2, .fields vs, osl2⟩) (h5 : vs[11]? = some (.ref P)) : PySem.W.tabIn K x = some (c, P) := by
  unfold PySem.W.tabIn
  rw [h1]
  simp only [h2, h3, h4, h5]
end LamX

set_option Elab.async false
set_option linter.all false
set_option maxRecDepth 100000
set_option maxHeartbeats 4000000
/-! walks over a list or a tuple; keyword-only parameters, no repr under way. -/
namespace L2
open PySem PySem.Spec PyProof.Rows
def SqB (K : PySem.W.Frag) (b : Bool) (H : Hp) (a : Addr) (xs : List V) : Prop := if b = true then SqT K H a xs else SqL K H a xs
def ItB (K : PySem.W.Frag) (b : Bool) (a : Addr) : It := if b = true then Itt K a else Itl K a
theorem SqB.same {K : PySem.W.Frag} {b : Bool} {H H' : Hp} {a : Addr} {xs : List V} (s : Same H H') (h : SqB K b H a xs) : SqB K b H' a xs := by
  cases b with
  | true => exact s.sqT (show SqT K H a xs from h)
  | false => exact s.sqL (show SqL K H a xs from h)
theorem SqB.or {K : PySem.W.Frag} {b : Bool} {H : Hp} {a : Addr} {xs : List V} (h : SqB K b H a xs) : SqL K H a xs ∨ SqT K H a xs := by
  cases b with
  | true => exact .inr h
  | false => exact .inl h
theorem SqB.t {K : PySem.W.Frag} {H : Hp} {a : Addr} {xs : List V} (h : SqT K H a xs) : SqB K true H a xs := h
theorem SqB.l {K : PySem.W.Frag} {H : Hp} {a : Addr} {xs : List V} (h : SqL K H a xs) : SqB K false H a xs := h
theorem walk_seq {K : PySem.W.Frag} {b : Bool} {a : Addr} {xs : List V} : Walk (ItB K b a) xs.length (fun H => SqB K b H a xs) (YAt xs) := by
  cases b with
  | true => exact walk_tup
  | false => exact walk_list
def iSeq (K : PySem.W.Frag) (tl : TE) : TI := fun σ H R => tl σ H fun x H1 => ∃ a b, x = .ref a ∧ (∃ xs, SqB K b H1 a xs) ∧ R (ItB K b a) H1
theorem pi_seq {X : Cx} {tg l : Expr} {tl : TE} (hl : PE X l tl) : PI X tg l (iSeq X.K tl) := by
  refine ⟨fun pins s σ H R I h => ?_⟩
  refine thn (hl.run pins s σ H _ I h) fun v s1 ⟨x, H1, I1, r1, q1⟩ => ?_
  obtain ⟨a, b, e, ⟨xs, hq⟩, q⟩ := q1
  subst e
  cases r1
  cases b with
  | true =>
    obtain ⟨its, rv, p, hz⟩ := I1.tuple (show SqT X.K H1 a xs from hq)
    refine wpAny_pyIter_tuple (show s1.heap.IsTuple a its.toArray from p) ?_
    refine ⟨s1.heap.objs.size, [s1.heap.objs.size], _, _, H1, rfl, I1.kept (t' := s1.toks) fun b o e => Heap.get?_push_of_some _ e, turn_tuple a _, ⟨_, Heap.get?_push_size _ rfl, rfl, rfl⟩, fun b hb => ?_, q⟩
    have e : b = s1.heap.objs.size := by simpa using hb
    subst e
    exact I1.fpOk (Nat.le_refl _) (I1.hok.fresh (Nat.le_refl _))
  | false =>
    obtain ⟨its, rv, p, hz⟩ := I1.list (show SqL X.K H1 a xs from hq)
    refine wpAny_pyIter_list p.isList ?_
    refine ⟨s1.heap.objs.size, [s1.heap.objs.size], _, _, H1, rfl, I1.kept (t' := s1.toks) fun b o e => Heap.get?_push_of_some _ e, turn_list a _, ⟨_, Heap.get?_push_size _ rfl, rfl, rfl⟩, fun b hb => ?_, q⟩
    have e : b = s1.heap.objs.size := by simpa using hb
    subst e
    exact I1.fpOk (Nat.le_refl _) (I1.hok.fresh (Nat.le_refl _))
section
variable {P : Program} {w : World} {K : PySem.W.Frag} {mg : Str → Option Value} {base : Heap} {x qual : Str} {params : Arguments} {body : List Stmt} {scope : Scope} {dvs : List V} {kws : List (Str × V)} {f : Addr} {fd : FuncData}
/-- a def with keyword-only parameters, its promise where no repr is under way -/
theorem FunD.okG {N ps : List Str} {k : Nat} {sp : Sp} (F : FunD K x qual params body scope dvs kws f fd) (S : FnScope N ps scope) (len : ∀ vs H Q E, sp vs H Q E → vs.length = ps.length)
    (hbody : ∀ (cdv : Value) (A : Around) (outer : List Env) (s : Shared) (H : Hp) (vs : List V) (Q : VK) (E : XK), RoomG k (A.deeper (envOfC qual scope s.heap.objs.size f cdv)) → sp vs H Q E →
      ∃ t, PSs (cxOf CX0 P w K mg base N qual scope f cdv A outer s H E).nox body t ∧ t { nx := fun _ H' => Q .non H', rt := Q } (start N vs) H) : FnG P w K mg base CX0 (k + 1) f fd ps sp := by
  obtain ⟨oc, od, dV, kV, doc, pm, an, cdv, ct, osl, rfl, lk, hcd, _, _⟩ := F.ex
  refine fn_ofG lk hcd S len fun A outer s H vs Q E hr hsp => ?_
  obtain ⟨t, h, q⟩ := hbody cdv A outer s H vs Q E hr hsp
  exact ⟨t, h.nox, q⟩
theorem FunD.okGX {N ps : List Str} {k : Nat} {sp : Sp} (F : FunD K x qual params body scope dvs kws f fd) (S : FnScope N ps scope) (len : ∀ vs H Q E, sp vs H Q E → vs.length = ps.length)
    (hbody : ∀ (cdv : Value) (A : Around) (outer : List Env) (s : Shared) (H : Hp) (vs : List V) (Q : VK) (E : XK), RoomG k (A.deeper (envOfC qual scope s.heap.objs.size f cdv)) → sp vs H Q E →
      ∃ t, PSs (cxOf (L2.CX P w) P w K mg base N qual scope f cdv A outer s H E) body t ∧ t { nx := fun _ H' => Q .non H', rt := Q } (start N vs) H) : FnG P w K mg base (L2.CX P w) (k + 1) f fd ps sp := by
  obtain ⟨oc, od, dV, kV, doc, pm, an, cdv, ct, osl, rfl, lk, hcd, _, _⟩ := F.ex
  exact fn_ofG lk hcd S len fun A outer s H vs Q E hr hsp => hbody cdv A outer s H vs Q E hr hsp
end
section
variable {X : Cx} {CX : CXT} {k n : Nat} {f : Addr} {fd : FuncData} {ps ks : List Str} {sp : Sp} {E : XK} {x : Str} {p pos : Pos} {e : Expr} {es : List Expr} {kws : List Keyword} {t tk : TA} {g : List Value → List Value → List Value} {gV : List V → List V → List V}
theorem run_fnNG {pins : List (Addr × Obj)} {σ : St} {H : Hp} {s : Shared} {Q : VK} {us ws : List Value} {vs zs : List V} (F : FnG X.prog X.w X.K X.mg X.base CX k f fd ps sp) (hr : RoomG k X.A) (hb : KBn X.K fd ps n ks g gV) (hx : Passes CX X E)
    (I : Inv X pins σ H s) (r : Vals vs us) (rz : Vals zs ws) (l1 : vs.length = n) (l2 : zs.length = ks.length) (h : sp (gV vs zs) H Q E) : wpAny (model X.prog X.w) X.A (call (.ref f) us (ks.zip ws)) (EP X pins σ Q) X.xe s := by
  have r2 := hb.rel r rz
  refine wpAny_call (codeAny_mono (F.run X.A X.stack s H ⟨us, ks.zip ws⟩ (g us ws) (gV vs zs) Q E hr I.env0 (hb.to s us ws I.kIn (r.length.symm.trans l1) (rz.length.symm.trans l2)) r2 h) fun r s' hq => ?_)
  cases r with
  | error e => exact hx pins σ H s e s' I hq
  | ok fl =>
    cases fl with
    | ret u => exact I.after hq
    | next => exact False.elim hq
    | brk => exact False.elim hq
    | cont => exact False.elim hq
/-- f(e, .., k = v, ..) -/
theorem pe_callNG (F : FnG X.prog X.w X.K X.mg X.base CX k f fd ps sp) (hr : RoomG k X.A) (hg : Gl X x) (hm : X.mg x = some (.ref f)) (hk : PySem.W.keepIn X.K (.ref f) = true) (hb : KBn X.K fd ps n ks g gV) (hx : Passes CX X E)
    (ha : PA X (e :: es) t) (hkw : PK X kws tk) (hall : (backToKw pos (keywordEach kws X.env)).all (·.1.isSome) = true := by rfl) (hks : (backToKw pos (keywordEach kws X.env)).filterMap (·.1) = ks := by rfl)
    (hdb : (x == ("__debug__" : Str)) = false := by decide) (he : starEach (e :: es) X.env = (false, eval e X.env) :: starEach es X.env := by rfl)
    (hpl : ((backTo pos (starEach (e :: es) X.env)).any (·.1) || (backToKw pos (keywordEach kws X.env)).any (·.1.isNone)) = false := by rfl) :
    PE X (.Call (.Name x p) (e :: es) kws pos) (tCallN n ks.length sp gV E t tk) := by
  refine ⟨fun pins s σ H Q I h => ?_⟩
  refine wpAny_Call_Name_kw (ld_glob I hg hm ?_ hdb)
  refine PySem.W.callWith_KW (h₀ := X.base) I.ok.mod.kin hk hall (thn (ha.run pos pins s σ H _ I h) fun us s1 ⟨vs, H1, I1, r, q⟩ => ?_) hpl he
  refine thn (hkw.run pos pins s1 σ H1 _ I1 q) fun ws s2 ⟨zs, H2, I2, rz, l1, l2, q2⟩ => ⟨I2.kIn, ?_⟩
  rw [hks]
  exact run_fnNG F hr hb hx I2 r rz l1 l2 q2
end
theorem passX0 {P : Program} {w : World} {X : Cx} : Passes (L2.CX P w) X E0 := fun pins σ H s e s' I h => by
  obtain ⟨_, _, _, _, _, _, _, _, _, _, _, _, z⟩ := h
  exact z.elim
section
variable {X : Cx} {CX : CXT} {k i : Nat} {f f1 f2 : Addr} {fd fd1 fd2 : FuncData} {ps : List Str} {sp sp1 sp2 : Sp} {dv : List V} {x : Str} {p pos : Pos} {e : Expr} {es : List Expr} {t : TA} {W : WX}
/-- a call in a try's body -/
theorem run_fnSG {pins : List (Addr × Obj)} {σ : St} {H : Hp} {s : Shared} {Q : VK} {us ds : List Value} {vs : List V} {E : XK} (F : FnG X.prog X.w X.K X.mg X.base CX k f fd ps sp) (hr : RoomG k X.A) (hb : Binds X.K fd ps ds) (hd : Vals dv ds) (hx : PassesAt CX X σ E)
    (I : Inv X pins σ H s) (r : Vals vs us) (h : sp (vs ++ dv) H Q E) : wpAny (model X.prog X.w) X.A (call (.ref f) us) (EP X pins σ Q) X.xe s := by
  have r2 : Vals (vs ++ dv) (us ++ ds) := r.append hd
  have hl : (us ++ ds).length = ps.length := by rw [← r2.length]; exact F.len _ _ _ _ h
  refine wpAny_call (codeAny_mono (F.run X.A X.stack s H ⟨us, []⟩ (us ++ ds) (vs ++ dv) Q E hr I.env0 (hb s us I.kIn hl) r2 h) fun r s' hq => ?_)
  cases r with
  | error e => exact hx pins H s e s' I hq
  | ok fl =>
    cases fl with
    | ret u => exact I.after hq
    | next => exact False.elim hq
    | brk => exact False.elim hq
    | cont => exact False.elim hq
def tCallSD (sp : Sp) (dv : List V) (E : L2.St → XK) (t : TA) : TE := fun σ H Q => t σ H fun vs H1 => sp (vs ++ dv) H1 Q (E σ)
/-- one of two defs, held by a variable, called in a try's body -/
theorem pe_callVS (F1 : FnG X.prog X.w X.K X.mg X.base (L2.CX X.prog X.w) k f1 fd1 ps sp1) (F2 : FnG X.prog X.w X.K X.mg X.base (L2.CX X.prog X.w) k f2 fd2 ps sp2) (hr : RoomG k X.A) (hN : X.N[i]? = some x) (hv : Vis X.env.scope x)
    (hk1 : PySem.W.keepIn X.K (.ref f1) = true) (hk2 : PySem.W.keepIn X.K (.ref f2) = true) (hb1 : ∃ ds, Vals dv ds ∧ Binds X.K fd1 ps ds) (hb2 : ∃ ds, Vals dv ds ∧ Binds X.K fd2 ps ds) (tk : Takes X W) (ha : PA X (e :: es) t) (hd : (x == ("__debug__" : Str)) = false := by decide) (hcd : (x == ("__classdict__" : Str)) = false := by decide)
    (he : starEach (e :: es) X.env = (false, eval e X.env) :: starEach es X.env := by rfl) (hpl : (backTo pos (starEach es X.env)).any (·.1) = false := by rfl) :
    PE X (.Call (.Name x p) (e :: es) [] pos) (fun σ H Q => (σ[i]? = some (some (.ref f1)) ∧ tCallSD sp1 dv (WE W) t σ H Q) ∨ (σ[i]? = some (some (.ref f2)) ∧ tCallSD sp2 dv (WE W) t σ H Q)) := by
  have go : ∀ {f : Addr} {fd : FuncData} {sp : Sp}, FnG X.prog X.w X.K X.mg X.base (L2.CX X.prog X.w) k f fd ps sp → PySem.W.keepIn X.K (.ref f) = true → (∃ ds, Vals dv ds ∧ Binds X.K fd ps ds) → PE X (.Call (.Name x p) (e :: es) [] pos) (fun σ H Q => σ[i]? = some (some (.ref f)) ∧ tCallSD sp dv (WE W) t σ H Q) := fun {f fd sp} F hk hb => by
    obtain ⟨ds, hvd, hb⟩ := hb
    refine ⟨fun pins s σ H Q I h => ?_⟩
    obtain ⟨hs, h⟩ := h
    refine wpAny_Call_Name_kw (thn ((pe_var (pos := p) (i := i) hN hv hd hcd).run pins s σ H (fun v H1 => v = .ref f ∧ H1 = H) I ⟨.ref f, hs, rfl, rfl⟩) fun u s1 ⟨v, H1, I1, r1, q1⟩ => ?_)
    obtain ⟨ev, eH⟩ := q1
    subst ev
    rw [eH] at I1
    obtain rfl : u = Value.ref f := r1
    refine PySem.W.callWith_K (h₀ := X.base) I1.ok.mod.kin hk (thn (ha.run pos pins s1 σ H _ I1 h) fun us s2 ⟨vs, H2, I2, r, q⟩ => ⟨I2.kIn, ?_⟩) he hpl
    exact run_fnSG F hr hb hvd (passAt tk σ) I2 r q
  refine ⟨fun pins s σ H Q I h => ?_⟩
  rcases h with h | h
  · exact (go F1 hk1 hb1).run pins s σ H Q I h
  · exact (go F2 hk2 hb2).run pins s σ H Q I h
end
/-- a def with one keyword-only parameter behind two others: how it is called -/
structure OwnD (P : Program) (w : World) (K : PySem.W.Frag) (mg : Str → Option Value) (base : Heap) (CX : CXT) (x : Str) (k : Nat) (ps : List Str) (n : Nat) (ks : List Str) (dv : List V) (sp : Sp) : Prop where
  ex : ∃ f fd, FnG P w K mg base CX k f fd ps sp ∧ mg x = some (.ref f) ∧ PySem.W.keepIn K (.ref f) = true ∧ (∃ ds, Vals dv ds ∧ Binds K fd ps ds) ∧ KBn K fd ps n ks (fun us ws => us ++ ws) (fun vs zs => vs ++ zs)
section
variable {X : Cx} {CX : CXT} {k j n : Nat} {ps ks : List Str} {dv : List V} {sp : Sp} {E : XK} {x : Str} {p pos : Pos} {e : Expr} {es : List Expr} {kws : List Keyword} {t tk : TA}
theorem pe_ownD (O : OwnD X.prog X.w X.K X.mg X.base CX x k ps n ks dv sp) (hr : RoomG j X.A) (hx : Passes CX X E) (ha : PA X (e :: es) t) (hk : k ≤ j := by decide) (hg : Gl X x := by rfl) (hdb : (x == ("__debug__" : Str)) = false := by decide)
    (he : starEach (e :: es) X.env = (false, eval e X.env) :: starEach es X.env := by rfl) (hpl : (backTo pos (starEach es X.env)).any (·.1) = false := by rfl) : PE X (.Call (.Name x p) (e :: es) [] pos) (tCall sp dv E t) := by
  obtain ⟨f, fd, F, hm, hkp, ⟨ds, hv, hb⟩, _⟩ := O.ex
  exact pe_callG F (hr.mono hk) hg hm hkp hb hv hx ha hdb he hpl
theorem pe_ownKw (O : OwnD X.prog X.w X.K X.mg X.base CX x k ps n ks dv sp) (hr : RoomG j X.A) (hx : Passes CX X E) (ha : PA X (e :: es) t) (hkw : PK X kws tk) (hk : k ≤ j := by decide) (hg : Gl X x := by rfl)
    (hall : (backToKw pos (keywordEach kws X.env)).all (·.1.isSome) = true := by rfl) (hks : (backToKw pos (keywordEach kws X.env)).filterMap (·.1) = ks := by rfl)
    (hdb : (x == ("__debug__" : Str)) = false := by decide) (he : starEach (e :: es) X.env = (false, eval e X.env) :: starEach es X.env := by rfl)
    (hpl : ((backTo pos (starEach (e :: es) X.env)).any (·.1) || (backToKw pos (keywordEach kws X.env)).any (·.1.isNone)) = false := by rfl) :
    PE X (.Call (.Name x p) (e :: es) kws pos) (tCallN n ks.length sp (fun vs zs => vs ++ zs) E t tk) := by
  obtain ⟨f, fd, F, hm, hkp, _, hb⟩ := O.ex
  exact pe_callNG F (hr.mono hk) hg hm hkp hb hx ha hkw hall hks hdb he hpl
end
theorem takeFlt {α : Type} {l : List α} {p : α → Bool} {i : Nat} {a : α} (h : l[i]? = some a) : (l.take (i + 1)).filter p = (l.take i).filter p ++ if p a = true then [a] else [] := by
  rw [List.take_add_one, h, List.filter_append]
  congr 1
  simp only [Option.toList_some, List.filter_cons, List.filter_nil]
/-- [x for x in xs if p x], xs ints that stand -/
theorem lc_filt {J : It} {ns : List Int} {G : Hp → Prop} (wk : Walk J (ns.map V.int).length G (YAt (ns.map V.int))) {g : TG} {tt : TT} {te : TE} {vs : List Nat} {σ : L2.St} {H1 : Hp} {D : Addr} {Qd : Hp → Prop} (p : Int → Bool) (hD : H1 D = none) (hG : ∀ H', Same H1 H' → G H') (hl : ns.length ≤ 1000000)
    (hs : ∀ (k : Int) (H3 : Hp), k ∈ ns → Same H1 H3 → H3 D ≠ none → ∀ (R : V → Hp → Prop) (S : Hp → Prop), (∀ H4, Same H3 H4 → p k = true → R (.int k) H4) → (∀ H4, Same H3 H4 → p k = false → S H4) →
      g (.int k) (wipe σ vs) H3 fun σ2 H2 => wipe σ2 vs = wipe σ vs ∧ tt σ2 H2 fun b H3 => if b = true then te σ2 H3 R else S H3)
    (hd : ∀ H', Same H1 H' → H' D = some (.lst ((ns.filter p).map V.int)) → Qd H') :
    ∃ W : Nat → Nat → Hp → Prop, (∃ m, W 0 m (upd H1 D (.lst []))) ∧ ∀ i m H, W i m H →
      (J.stop i H ∧ Qd H) ∨ (J.go i H ∧ ∃ Nx : Hp → Prop, (∀ H', Nx H' → ∃ m', m' < m ∧ W (i + 1) m' H') ∧ ∀ x H', J.yld i H x H' → g x (wipe σ vs) H' fun σ2 H2 => wipe σ2 vs = wipe σ vs ∧ tt σ2 H2 fun b H3 =>
        if b = true then te σ2 H3 fun y H4 => ∃ acc, H4 D = some (.lst acc) ∧ acc.length < sizeLine ∧ Nx (upd H4 D (.lst (acc ++ [y]))) else Nx H3) := by
  refine lc_it wk (fun i H' => H' D = some (.lst (((ns.take i).filter p).map V.int)) ∧ ∀ b o, H1 b = some o → H' b = some o)
    ⟨upd_same, fun b o e => by rw [upd_ne (ne_of_none e hD)]; exact e⟩ (fun i H' _ ⟨_, kp⟩ => hG _ fun b o e => kp b o e) ?_ ?_
  · rintro i x H2 H3 hi ⟨hD2, kp⟩ ⟨rfl, hx2⟩
    rw [List.getElem?_map] at hx2
    cases c : ns[i]? with
    | none => rw [c] at hx2; cases hx2
    | some k =>
      rw [c] at hx2
      cases hx2
      rw [List.length_map] at hi
      refine hs k H3 (List.mem_of_getElem? c) (fun b o e => kp b o e) (by rw [hD2]; exact fun z => nomatch z) _ _ (fun H4 s4 pk => ?_) fun H4 s4 pk => ?_
      · refine ⟨_, s4 _ _ hD2, ?_, ?_, fun b o e => ?_⟩
        · rw [List.length_map, sizeLine_eq]
          have := List.length_filter_le p (ns.take i)
          rw [List.length_take] at this
          omega
        · rw [upd_same, takeFlt c, if_pos pk, List.map_append]
          rfl
        · rw [upd_ne (ne_of_none e hD)]
          exact s4 _ _ (kp _ _ e)
      · refine ⟨?_, fun b o e => s4 _ _ (kp _ _ e)⟩
        rw [takeFlt c, if_neg (by rw [pk]; decide), List.append_nil]
        exact s4 _ _ hD2
  · rintro H2 ⟨hD2, kp⟩
    rw [List.length_map, List.take_length] at hD2
    exact hd H2 (fun b o e => kp b o e) hD2
theorem lc_itL {J : It} {n : Nat} {G : Hp → Prop} {Y : Nat → Hp → V → Hp → Prop} (w : Walk J n G Y) {g : TG} {t : TE} {vs : List Nat} {σ : St} {H1 : Hp} {D : Addr} {Qd : Hp → Prop} (R : Nat → V → Hp → Prop) (st : ∀ j v H H', Same H H' → R j v H → R j v H') (hD : H1 D = none) (hx : n ≤ 1000000)
    (hG : ∀ H', Same H1 H' → G H')
    (hs : ∀ j x H' H2, j < n → Same H1 H' → (∃ acc, H' D = some (.lst acc)) → Y j H' x H2 → g x (wipe σ vs) H2 fun σ3 H3 => wipe σ3 vs = wipe σ vs ∧ t σ3 H3 fun y H4 => Same H' H4 ∧ R j y (hide [D] H4))
    (hg : ∀ x σ H (q q' : St → Hp → Prop), g x σ H q → (∀ σ H, q σ H → q' σ H) → g x σ H q')
    (hd : ∀ H' acc, Same H1 H' → H' D = some (.lst acc) → acc.length = n → (∀ j v, acc[j]? = some v → R j v H') → Qd H') :
    ∃ W : Nat → Nat → Hp → Prop, (∃ m, W 0 m (upd H1 D (.lst []))) ∧ ∀ i m H, W i m H →
      (J.stop i H ∧ Qd H) ∨ (J.go i H ∧ ∃ Nx : Hp → Prop, (∀ H', Nx H' → ∃ m', m' < m ∧ W (i + 1) m' H') ∧ ∀ x H', J.yld i H x H' → g x (wipe σ vs) H' fun σ2 H2 => wipe σ2 vs = wipe σ vs ∧ tYes σ2 H2 fun b H3 =>
        if b = true then tUp t σ2 H3 fun y H4 => ∃ acc, H4 D = some (.lst acc) ∧ acc.length < sizeLine ∧ Nx (upd H4 D (.lst (acc ++ [y]))) else Nx H3) := by
  refine lc_it w (te := tUp t) (fun i H' => Acc R D H1 i H') (Acc.start hD) (fun i H' _ ⟨_, _, s, _⟩ => hG _ s) (fun i x H' H2 hi p y => ?_) (fun H' ⟨acc, h1, h2, h3, h4⟩ => hd H' acc h2 h1 h3 fun j v h => st _ _ _ _ hide_sub (h4 j v h))
  have hs2 := p
  obtain ⟨_, _, s, _⟩ := hs2
  refine hg _ _ _ _ _ (hs i x H' H2 hi s (let ⟨acc, h, _⟩ := p; ⟨acc, h⟩) y) fun σ2 H3 ⟨w, q⟩ => ⟨w, ?_⟩
  unfold tYes
  dsimp only
  rw [if_pos rfl]
  exact ⟨_, q, fun y H4 ⟨s4, r⟩ => Acc.snoc st hD (by omega) p s4 r⟩
end L2

set_option Elab.async false
set_option linter.all false
set_option maxRecDepth 100000
set_option maxHeartbeats 4000000
/-! siphons and traps. -/
namespace K11
open PySem L2 PySem.KX StX
/-- a step puts a token on k and takes none of ps -/
def fedB (rows : List RowN) (ps : List Int) (k : Int) : Bool := rows.any fun r => decide (k ∈ r.2.2) && !(r.2.1.any fun j => decide (j ∈ ps))
def passL (rows : List RowN) (ps : List Int) : List Int := ps.filter fun k => !fedB rows ps k
def sipN (rows : List RowN) : Nat → List Int → List Int
  | 0, ps => ps
  | n + 1, ps => if passL rows ps = ps then ps else sipN rows n (passL rows ps)
/-- what is left behind all passes -/
def sipL (rows : List RowN) (ps : List Int) : List Int := sipN rows ps.length ps
theorem pass_le (rows : List RowN) (ps : List Int) : (passL rows ps).length ≤ ps.length := List.length_filter_le _ _
theorem pass_lt {rows : List RowN} {ps : List Int} (h : passL rows ps ≠ ps) : (passL rows ps).length < ps.length := by
  rcases Nat.lt_or_ge (passL rows ps).length ps.length with c | c
  · exact c
  · exact absurd ((List.filter_sublist).eq_of_length_le c) h
theorem sipN_more {rows : List RowN} : ∀ {n : Nat} {ps : List Int}, ps.length ≤ n → sipN rows n ps = sipL rows ps
  | 0, ps, h => by
    have : ps = [] := List.length_eq_zero_iff.mp (by omega)
    subst this
    rfl
  | n + 1, ps, h => by
    unfold sipL
    cases e : ps.length with
    | zero =>
      have : ps = [] := List.length_eq_zero_iff.mp e
      subst this
      rfl
    | succ m =>
      show (if passL rows ps = ps then ps else sipN rows n (passL rows ps)) = (if passL rows ps = ps then ps else sipN rows m (passL rows ps))
      by_cases c : passL rows ps = ps
      · rw [if_pos c, if_pos c]
      · rw [if_neg c, if_neg c]
        have := pass_lt c
        rw [sipN_more (n := n) (by omega), sipN_more (n := m) (by omega)]
theorem sip_stop {rows : List RowN} {ps : List Int} (h : passL rows ps = ps) : sipL rows ps = ps := by
  unfold sipL
  cases ps.length with
  | zero => rfl
  | succ m => exact if_pos h
theorem sip_on {rows : List RowN} {ps : List Int} (h : passL rows ps ≠ ps) : sipL rows ps = sipL rows (passL rows ps) := by
  have l := pass_lt h
  show sipN rows ps.length ps = _
  obtain ⟨m, e⟩ : ∃ m, ps.length = m + 1 := ⟨ps.length - 1, by omega⟩
  rw [e]
  show (if passL rows ps = ps then ps else sipN rows m (passL rows ps)) = _
  rw [if_neg h]
  exact sipN_more (by omega)
theorem sip_fix {rows : List RowN} {ps : List Int} : sipL rows ps = ps ↔ passL rows ps = ps := by
  refine ⟨fun h => ?_, sip_stop⟩
  by_cases c : passL rows ps = ps
  · exact c
  · have l := pass_lt c
    have : ∀ (n : Nat) (qs : List Int), (sipN rows n qs).length ≤ qs.length := fun n => by
      induction n with
      | zero => intro qs; exact Nat.le_refl _
      | succ n ih =>
        intro qs
        show (if passL rows qs = qs then qs else sipN rows n (passL rows qs)).length ≤ _
        split
        · exact Nat.le_refl _
        · exact Nat.le_trans (ih _) (pass_le _ _)
    have e := sip_on c
    have l2 := this (passL rows ps).length (passL rows ps)
    rw [h] at e
    have : ps.length ≤ (passL rows ps).length := by
      conv => lhs; rw [e]
      exact l2
    omega
abbrev N_fd : List Str := ["steps", "places", "place", "_", "inputs", "outputs"]
abbrev s_is_fed : Stmt := top 25
theorem sc_is_fed : FnScope N_fd ["steps", "places", "place"] (defScope s_is_fed) := ⟨rfl, rfl, rfl, by decide +kernel, rfl, by decide +kernel, by decide +kernel⟩
abbrev N_sw : List Str := ["steps", "places", "tried", "left", "place"]
abbrev ssiphon_within : Stmt := top 23
theorem scsiphon_within : FnScope N_sw ["steps", "places"] (defScope ssiphon_within) := ⟨rfl, rfl, rfl, by decide +kernel, rfl, by decide +kernel, by decide +kernel⟩
abbrev N_tw : List Str := ["steps", "places", "name", "inputs", "outputs"]
abbrev strap_within : Stmt := top 24
theorem sctrap_within : FnScope N_tw ["steps", "places"] (defScope strap_within) := ⟨rfl, rfl, rfl, by decide +kernel, rfl, by decide +kernel, by decide +kernel⟩
/-- a row of steps at an address -/
structure StepsAt (K : PySem.W.Frag) (H : Hp) (S : Addr) (rows : List RowN) : Prop where
  ex : ∃ b xs, SqB K b H S xs ∧ DqAll K H xs (rows.map rowD)
  few : rows.length ≤ 100
  ins : ∀ r ∈ rows, r.2.1.length ≤ 100 ∧ r.2.2.length ≤ 100
theorem StepsAt.same {K : PySem.W.Frag} {H H' : Hp} {S : Addr} {rows : List RowN} (s : Same H H') (h : StepsAt K H S rows) : StepsAt K H' S rows := by
  obtain ⟨⟨b, xs, h1, h2⟩, h3, h4⟩ := h
  exact ⟨⟨b, xs, h1.same s, DqAll.same s _ _ h2⟩, h3, h4⟩
section
variable {P : Program} {w : World} {K : PySem.W.Frag} {mg : Str → Option Value} {base : Heap}
def spFed (K : PySem.W.Frag) : Sp := fun vs H Q _ => ∃ (S a : Addr) (rows : List RowN) (ps : List Int) (k : Int), vs = [.ref S, .ref a, .int k] ∧ StepsAt K H S rows ∧ SqT K H a (ps.map V.int) ∧ ∀ H', Same H H' → Q (.bl (fedB rows ps k)) H'
theorem ok_is_fed {f : Addr} {fd : FuncData} (F : Fun K "_is_fed" "_is_fed" s_is_fed f fd) (hany : mg "any" = none) (Ohave_common : Own P w K mg base CX0 "have_common" 1 ["places", "others"] (spCommon K)) : FnG P w K mg base CX0 2 f fd ["steps", "places", "place"] (spFed K) := by
  have nd := sc_is_fed.nd
  refine okG F sc_is_fed (fun vs H Q E h => ?_) (fun cdv A outer s H vs Q E hr h => ?_)
  · obtain ⟨_, _, _, _, _, rfl, _⟩ := h
    rfl
  · obtain ⟨S, a, rows, ps, k, rfl, ⟨⟨b, xs, hS, hx⟩, few, ins⟩, ha, q⟩ := h
    refine ⟨_, (pss_one (ps_ret (pe_callB (cr_any rfl) (by rfl) hany (by decide +kernel) (pa_cons (pe_lc (own := [("_", 3), ("inputs", 4), ("outputs", 5)]) (by rfl) nd (pi_seq (av 0)) (blkOk_by (N := N_fd) (sc := defScope s_is_fed) (by decide +kernel))
      (fun _ _ _ _ _ => (show PG _ _ (gTup K 3 (gCons (gName 3) (gCons (gName 4) (gCons (gName 5) gNil)))) from pg_tup rfl (pgs_cons (pg_name (i := 3) nd rfl (Or.inl rfl)) (pgs_cons (pg_name (i := 4) nd rfl (Or.inl rfl)) (pgs_cons (pg_name (i := 5) nd rfl (Or.inl rfl)) pgs_nil)))))
      (fun _ _ _ _ _ => pts_nil) (fun _ _ _ _ _ => PE.up (show PE _ _ (tAndV (tOp (rIn K false) (aVar 2) (aVar 5)) (tNotV (tCall (spCommon K) [] E0 (tCons (aVar 4) (tCons (aVar 1) tNil))))) from pe_and (pe_cmpA op_in_seq (av 2) (av 5)) (pe_one (pe_not (pe_own Ohave_common hr (pa_cons (av 4) (pa_cons (av 1) pa_nil)) (by decide))))))) pa_nil)))), ?_⟩
    have hxl := hx.length
    rw [List.length_map] at hxl
    refine ⟨S, b, rfl, ⟨_, hS⟩, fun D hD => ?_⟩
    refine lc_itS (walk_seq (xs := xs)) (fun j u _ => ∃ r, rows[j]? = some r ∧ u = .bl (decide (k ∈ r.2.2) && !(r.2.1.any fun j => decide (j ∈ ps)))) (fun _ _ _ _ _ h => h) hD (by omega) (fun H' s5 => hS.same s5) (fun j y H' H2 hj s5 hD5 ⟨e2, hy⟩ => ?_) ?_ (fun H' acc s6 hl la hacc => ?_)
    · subst e2
      obtain ⟨d, hd, hdq⟩ := hx.get hy
      obtain ⟨r, hr1, rfl⟩ := row_of_map hd
      obtain ⟨tt, p1, q1, rfl, htt, hp1, hq1⟩ := row_at hdq
      refine ⟨tt, _, rfl, s5.sqT htt, rfl, _, _, rfl, _, _, rfl, _, _, rfl, rfl, ?_⟩
      refine ⟨rfl, q1, _, rfl, .inr (s5.sqT hq1), rfl, flat_ints _, _, rfl, ?_⟩
      rw [if_neg (show ¬ ((false : Bool) = true) by decide), inV_int]
      refine ite2 (fun c => ?_) (fun c => ?_)
      · have hl := ins r (List.mem_of_getElem? hr1)
        refine ⟨p1, a, r.2.1, fun j => decide (j ∈ ps), rfl, s5.sqT hp1, by omega, .inl ⟨ps, s5.sqT ha, fun _ => rfl⟩, fun H3 s3 => ⟨_, rfl, s3, r, hr1, ?_⟩⟩
        rw [c]
        rfl
      · refine ⟨Same.refl _, r, hr1, ?_⟩
        rw [Bool.eq_false_iff.mpr c]
        rfl
    · intro x σ H1 q1 q2 h1 h2
      obtain ⟨tt, ys, e1, e2, e3, h1⟩ := h1
      exact ⟨tt, ys, e1, e2, e3, by
        obtain ⟨a1, a2, a3, b1, b2, b3, c1, c2, c3, c4, h1⟩ := h1
        exact ⟨a1, a2, a3, b1, b2, b3, c1, c2, c3, c4, h2 _ _ h1⟩⟩
    · have ea : acc = (rows.map fun r => decide (k ∈ r.2.2) && !(r.2.1.any fun j => decide (j ∈ ps))).map V.bl := acc_mapN (by rw [la]; omega) fun j v hj => hacc j v hj
      refine ⟨D, _, rfl, SqL.of (by rw [← ea]; exact hl), ?_⟩
      have e : (rows.map fun r => decide (k ∈ r.2.2) && !(r.2.1.any fun j => decide (j ∈ ps))).any id = fedB rows ps k := by rw [List.any_map]; rfl
      rw [e]
      exact q _ s6
end
end K11

set_option Elab.async false
set_option linter.all false
set_option maxRecDepth 100000
set_option maxHeartbeats 4000000
namespace K11
open PySem L2 PySem.KX StX
theorem filter_drop {α : Type} {l : List α} {p : α → Bool} {i : Nat} {a : α} (h : l[i]? = some a) (c : p a = false) : (l.take (i + 1)).filter p = (l.take i).filter p := by
  rw [take_filter h, c, if_neg (by decide), List.append_nil]
section
variable {P : Program} {w : World} {K : PySem.W.Frag} {mg : Str → Option Value} {base : Heap}
def spSip (K : PySem.W.Frag) (g : List RowN → List RowN) : Sp := fun vs H Q _ => ∃ (S a : Addr) (rows : List RowN) (ps : List Int), vs = [.ref S, .ref a] ∧ StepsAt K H S rows ∧ SqT K H a (ps.map V.int) ∧ ps.length ≤ 1000 ∧ ∀ b H', Same H H' → SqT K H' b ((sipL (g rows) ps).map V.int) → Q (.ref b) H'
/-- the loop's word; m: what is left to go -/
def WS (K : PySem.W.Frag) (H : Hp) (S a : Addr) (rows : List RowN) (ps : List Int) (m : Nat) (σ : L2.St) (H' : Hp) : Prop := ∃ (t : V) (l : Addr) (qs : List Int) (o4 : Option V), σ = [some (.ref S), some (.ref a), some t, some (.ref l), o4] ∧ Same H H' ∧ SqT K H' l (qs.map V.int) ∧ sipL rows qs = sipL rows ps ∧ qs.length ≤ 1000 ∧
  ((t = .non ∧ m = qs.length + 1) ∨ ∃ (ta : Addr) (ts : List Int), t = .ref ta ∧ SqT K H' ta (ts.map V.int) ∧ qs = passL rows ts ∧ m = ts.length)
theorem ok_siphon_within {f : Addr} {fd : FuncData} (F : Fun K "siphon_within" "siphon_within" ssiphon_within f fd) (htup : mg "tuple" = none) (O_fed : Own P w K mg base CX0 "_is_fed" 2 ["steps", "places", "place"] (spFed K)) : FnG P w K mg base CX0 3 f fd ["steps", "places"] (spSip K id) := by
  have nd := scsiphon_within.nd
  refine okG F scsiphon_within (fun vs H Q E h => ?_) (fun cdv A outer s H vs Q E hr h => ?_)
  · obtain ⟨_, _, _, _, rfl, _⟩ := h
    rfl
  · obtain ⟨S, a, rows, ps, rfl, hS, ha, hl, q⟩ := h
    refine ⟨_, (pss_cons (ps_set (i := 2) nd rfl (by first | exact Or.inl rfl | exact Or.inr rfl) pe_non)
      (pss_cons (ps_set (i := 3) nd rfl (Or.inl rfl) (av 1))
      (pss_cons (ps_while PassesOwn.never (pt_cmpA (op_neA hr.units64) (av 3) (av 2)) (pss_cons (ps_set (i := 2) nd rfl (by first | exact Or.inl rfl | exact Or.inr rfl) (av 3))
      (pss_one (ps_set (i := 3) nd rfl (Or.inl rfl) (pe_callTy call_tupLS (by rfl) htup (by decide +kernel) (pa_cons (pe_lc (own := [("place", 4)]) (by rfl) nd (pi_tup (av 2)) (blkOk_by (N := N_sw) (sc := defScope ssiphon_within) (by decide +kernel)) (fun _ _ _ _ _ => (pg_name (i := 4) nd rfl (Or.inl rfl)))
        (fun _ _ _ _ _ => (pts_one (show PT _ _ (tNot (aTest (tCall (spFed K) [] E0 (tCons (aVar 0) (tCons (aVar 2) (tCons (aVar 4) tNil)))))) from pt_not (pt_valA (pe_own O_fed hr (pa_cons (av 0) (pa_cons (av 2) (pa_cons (av 4) pa_nil))) (by decide)))))) (fun _ _ _ _ _ => (av 4))) pa_nil))))))
      (pss_one (ps_ret (av 3)))))), ?_⟩
    refine ⟨WS K H S a rows ps, ⟨_, .non, a, ps, none, rfl, Same.refl _, ha, rfl, hl, .inl ⟨rfl, rfl⟩⟩, ?_⟩
    rintro m σ H1 ⟨t, l, qs, o4, rfl, s1, hq, hsip, hlq, ht⟩
    have hN : ∀ (m : Nat) (σ' : L2.St) (H' : Hp), qs.length < m → passL rows qs = passL rows qs → sipL rows (passL rows qs) = sipL rows ps → (∃ (b : Addr) (o4 : Option V), σ' = [some (.ref S), some (.ref a), some (.ref l), some (.ref b), o4] ∧ Same H1 H' ∧ SqT K H' b ((passL rows qs).map V.int)) →
        ∃ m', m' < m ∧ WS K H S a rows ps m' σ' H' := fun m σ' H' hm _ hp ⟨b, o4, e, s, hb⟩ =>
      ⟨_, hm, .ref l, b, passL rows qs, o4, e, s1.trans s, hb, hp, Nat.le_trans (pass_le _ _) hlq, .inr ⟨l, qs, rfl, s.sqT hq, rfl, rfl⟩⟩
    have hpass : sipL rows (passL rows qs) = sipL rows ps := by
      by_cases c : passL rows qs = qs
      · rw [c]; exact hsip
      · rw [← sip_on c]; exact hsip
    -- the body of the loop, whatever was tried before
    have body : ∀ (m : Nat), qs.length < m → ∃ N : L2.St → Hp → Prop, (∀ (σ' : L2.St) (H' : Hp), N σ' H' → ∃ m', m' < m ∧ WS K H S a rows ps m' σ' H') ∧
        ∀ (D : Addr) (H2 : Hp), Same H1 H2 → H2 D = some (.lst ((passL rows qs).map V.int)) → ∀ (o : V), ∀ p H', Same H2 H' → H2 p = none → H' p = some (.tup ((passL rows qs).map V.int)) → N [some (.ref S), some (.ref a), some (.ref l), some (.ref p), o4] H' := fun m hm =>
      ⟨fun σ' H' => ∃ (b : Addr) (o4 : Option V), σ' = [some (.ref S), some (.ref a), some (.ref l), some (.ref b), o4] ∧ Same H1 H' ∧ SqT K H' b ((passL rows qs).map V.int), fun σ' H' h => hN m σ' H' hm rfl hpass h,
        fun D H2 s2 _ _ p H' s3 _ l3 => ⟨p, _, rfl, s2.trans s3, SqT.of l3⟩⟩
    rcases ht with ⟨rfl, rfl⟩ | ⟨ta, ts, rfl, hta, hqs, rfl⟩
    · refine ⟨tupI qs, .none, .tup hq (dp_ints _), .non, shaped_ints _, by decide +kernel, ?_⟩
      have e : PyData.eqv (tupI qs) .none = false := rfl
      refine ite2 (fun _ => ?_) (fun z => absurd (show (!PyData.eqv (tupI qs) .none) = true by rw [e]; rfl) z)
      obtain ⟨N, n1, n2⟩ := body (qs.length + 1) (by omega)
      refine ⟨N, n1, ?_⟩
      refine ⟨l, rfl, ⟨_, hq⟩, fun D hD => ?_⟩
      refine lc_it (walk_tup (xs := qs.map V.int)) (fun i H' => H' D = some (.lst (((qs.take i).filter fun k => !fedB rows qs k).map V.int)) ∧ ∀ b o, H1 b = some o → H' b = some o)
        ⟨upd_same, fun b o e => by rw [upd_ne (ne_of_none e hD)]; exact e⟩ (fun i H' _ ⟨_, kp⟩ => Same.sqT (fun b o e => kp b o e) hq) ?_ ?_
      · rintro i x H2 H3 hi ⟨hD2, kp⟩ ⟨rfl, hx2⟩
        rw [List.getElem?_map] at hx2
        cases c : qs[i]? with
        | none => rw [c] at hx2; cases hx2
        | some k =>
          rw [c] at hx2
          cases hx2
          have s3 : Same H1 H3 := fun b o e => kp b o e
          refine ⟨rfl, S, l, rows, qs, k, rfl, hS.same (s1.trans s3), s3.sqT hq, fun H4 s4 => ?_⟩
          rw [List.length_map] at hi
          refine ite2 (fun cf => ?_) (fun cf => ?_)
          · refine ⟨_, s4 _ _ hD2, ?_, ?_, fun b o e => ?_⟩
            · rw [List.length_map, sizeLine_eq]
              have := List.length_filter_le (fun k => !fedB rows qs k) (qs.take i)
              rw [List.length_take] at this
              omega
            · rw [upd_same, take_filter c, if_pos cf, List.map_append]
              rfl
            · rw [upd_ne (ne_of_none e hD)]
              exact s4 _ _ (kp _ _ e)
          · refine ⟨?_, fun b o e => s4 _ _ (kp _ _ e)⟩
            rw [take_filter c, if_neg cf, List.append_nil]
            exact s4 _ _ hD2
      · rintro H2 ⟨hD2, kp⟩
        rw [List.length_map, List.take_length] at hD2
        refine ⟨D, _, rfl, SqL.of hD2, fun p H3 s3 n3 l3 => ?_⟩
        exact n2 D H2 (fun b o e => kp b o e) hD2 .non p H3 s3 n3 l3
    · refine ⟨tupI qs, tupI ts, .tup hq (dp_ints _), .tup hta (dp_ints _), shaped_ints _, shaped_ints _, ?_⟩
      rw [eqv_tupI]
      refine ite2 (fun c => ?_) (fun c => ?_)
      · have ne : qs ≠ ts := fun z => by rw [decide_eq_true z] at c; exact absurd c (by decide)
        have hlt : qs.length < ts.length := by
          rw [hqs]
          exact pass_lt (by rw [← hqs]; exact ne)
        obtain ⟨N, n1, n2⟩ := body ts.length hlt
        refine ⟨N, n1, ?_⟩
        refine ⟨l, rfl, ⟨_, hq⟩, fun D hD => ?_⟩
        refine lc_it (walk_tup (xs := qs.map V.int)) (fun i H' => H' D = some (.lst (((qs.take i).filter fun k => !fedB rows qs k).map V.int)) ∧ ∀ b o, H1 b = some o → H' b = some o)
          ⟨upd_same, fun b o e => by rw [upd_ne (ne_of_none e hD)]; exact e⟩ (fun i H' _ ⟨_, kp⟩ => Same.sqT (fun b o e => kp b o e) hq) ?_ ?_
        · rintro i x H2 H3 hi ⟨hD2, kp⟩ ⟨rfl, hx2⟩
          rw [List.getElem?_map] at hx2
          cases c : qs[i]? with
          | none => rw [c] at hx2; cases hx2
          | some k =>
            rw [c] at hx2
            cases hx2
            have s3 : Same H1 H3 := fun b o e => kp b o e
            refine ⟨rfl, S, l, rows, qs, k, rfl, hS.same (s1.trans s3), s3.sqT hq, fun H4 s4 => ?_⟩
            rw [List.length_map] at hi
            refine ite2 (fun cf => ?_) (fun cf => ?_)
            · refine ⟨_, s4 _ _ hD2, ?_, ?_, fun b o e => ?_⟩
              · rw [List.length_map, sizeLine_eq]
                have := List.length_filter_le (fun k => !fedB rows qs k) (qs.take i)
                rw [List.length_take] at this
                omega
              · rw [upd_same, take_filter c, if_pos cf, List.map_append]
                rfl
              · rw [upd_ne (ne_of_none e hD)]
                exact s4 _ _ (kp _ _ e)
            · refine ⟨?_, fun b o e => s4 _ _ (kp _ _ e)⟩
              rw [take_filter c, if_neg cf, List.append_nil]
              exact s4 _ _ hD2
        · rintro H2 ⟨hD2, kp⟩
          rw [List.length_map, List.take_length] at hD2
          refine ⟨D, _, rfl, SqL.of hD2, fun p H3 s3 n3 l3 => ?_⟩
          exact n2 D H2 (fun b o e => kp b o e) hD2 .non p H3 s3 n3 l3
      · have eq : qs = ts := by
          by_cases z : qs = ts
          · exact z
          · exact absurd (show (!decide (qs = ts)) = true by rw [decide_eq_false z]; rfl) c
        have fix : passL rows qs = qs := by
          conv => lhs; rw [eq]
          exact hqs.symm
        refine q l H1 s1 ?_
        show SqT K H1 l ((sipL rows ps).map V.int)
        rw [← hsip, sip_stop fix]
        exact hq
end
end K11

set_option Elab.async false
set_option linter.all false
set_option maxRecDepth 100000
set_option maxHeartbeats 4000000
namespace K11
open PySem L2 PySem.KX StX
/-- the closing step -/
def clR : RowN := ("", [1], [0])
def stepsOf (rows : List RowN) (b : Bool) : List RowN := rows ++ if b = true then [clR] else []
/-- what the value says: an ascending row of places of which no pass takes one -/
def sipD (n : Int) (rows : List RowN) (e : PyData) : Bool := placesD n e && match e with
  | .tuple ds => decide (passL rows (ds.map intOf) = ds.map intOf)
  | _ => false
theorem ints_in {lo hi : Int} : ∀ {ds : List PyData}, ds.all (intIn lo hi) = true → ∃ ns : List Int, ds = ns.map PyData.int ∧ ∀ k ∈ ns, lo ≤ k ∧ k ≤ hi
  | [], _ => ⟨[], rfl, fun k hk => absurd hk List.not_mem_nil⟩
  | d :: ds, h => by
    rw [List.all_cons, Bool.and_eq_true] at h
    obtain ⟨ns, rfl, h2⟩ := ints_in h.2
    cases d with
    | int i =>
      have e4 : intIn lo hi (.int i) = (decide (lo ≤ i) && decide (i ≤ hi)) := rfl
      have h1 := h.1
      rw [e4, Bool.and_eq_true, decide_eq_true_eq, decide_eq_true_eq] at h1
      refine ⟨i :: ns, rfl, fun k hk => ?_⟩
      rcases List.mem_cons.mp hk with rfl | z
      · exact h1
      · exact h2 k z
    | _ => cases h.1
theorem places_is {n : Int} {e : PyData} (h : placesD n e = true) : ∃ ps : List Int, e = tupI ps ∧ (∀ k ∈ ps, 0 ≤ k ∧ k ≤ n - 1) ∧ ascD (ps.map PyData.int) = true := by
  cases e with
  | tuple ds =>
    have e3 : placesD n (.tuple ds) = (ds.all (intIn 0 (n - 1)) && ascD ds) := rfl
    rw [e3, Bool.and_eq_true] at h
    obtain ⟨ns, rfl, h2⟩ := ints_in h.1
    exact ⟨ns, rfl, h2, h.2⟩
  | _ => cases h
theorem asc_few {n : Int} {ps : List Int} (hn : n ≤ 30) (hin : ∀ k ∈ ps, 0 ≤ k ∧ k ≤ n - 1) (h : ascD (ps.map PyData.int) = true) : ps.length ≤ 1000 := by
  have nd : ps.Nodup := ((asc_ints ps).mp h).imp fun {a b} hab e => absurd hab (by rw [e]; exact Int.lt_irrefl _)
  have := nodup_le (m := (List.range 30).map fun i : Nat => (i : Int)) nd fun x hx => by
    obtain ⟨h0, h1⟩ := hin x hx
    exact List.mem_map.mpr ⟨x.toNat, List.mem_range.mpr (by omega), by omega⟩
  simp only [List.length_map, List.length_range] at this
  omega
theorem intOf_ints : ∀ ps : List Int, (ps.map PyData.int).map intOf = ps
  | [] => rfl
  | p :: ps => by
    rw [List.map_cons, List.map_cons, intOf_ints ps]
    rfl
theorem stepsOf_ok {n : Int} {rows : List RowN} (h : GoodN n rows) (b : Bool) : (stepsOf rows b).length ≤ 41 ∧ ∀ r ∈ stepsOf rows b, r.2.1.length ≤ 100 ∧ r.2.2.length ≤ 100 := by
  have f := h.few
  refine ⟨?_, fun r hr => ?_⟩
  · unfold stepsOf
    cases b <;> simp <;> omega
  · unfold stepsOf at hr
    rcases List.mem_append.mp hr with z | z
    · have g := h.row r z
      have a := g.i.few h.hi
      have c := g.o.few h.hi
      omega
    · cases b with
      | false => simp at z
      | true =>
        rw [if_pos rfl] at z
        rw [List.mem_singleton.mp z]
        exact ⟨by decide, by decide⟩
abbrev sclosed_steps : Stmt := top 2
theorem scclosed_steps : FnScope ["net"] ["net"] (defScope sclosed_steps) := ⟨rfl, rfl, rfl, by decide +kernel, rfl, by decide +kernel, by decide +kernel⟩
abbrev s_steps : Stmt := top 26
theorem sc_steps : FnScope ["net", "closed"] ["net", "closed"] (defScope s_steps) := ⟨rfl, rfl, rfl, by decide +kernel, rfl, by decide +kernel, by decide +kernel⟩
abbrev sis_siphon : Stmt := top 21
theorem scis_siphon : FnScope ["net", "value", "closed"] ["net", "value", "closed"] (defScope sis_siphon) := ⟨rfl, rfl, rfl, by decide +kernel, rfl, by decide +kernel, by decide +kernel⟩
abbrev sis_trap : Stmt := top 22
theorem scis_trap : FnScope ["net", "value", "closed"] ["net", "value", "closed"] (defScope sis_trap) := ⟨rfl, rfl, rfl, by decide +kernel, rfl, by decide +kernel, by decide +kernel⟩
/-- the constant CLOSING as it stands -/
structure ClsK (K : PySem.W.Frag) (mg : Str → Option Value) (t0 : Addr) : Prop where
  g : mg "CLOSING" = some (.ref t0)
  at' : ∀ H : Hp, Dq K H (.ref t0) (rowD clR)
section
variable {P : Program} {w : World} {K : PySem.W.Frag} {mg : Str → Option Value} {base : Heap}
theorem ok_trap_within {f : Addr} {fd : FuncData} (F : Fun K "trap_within" "trap_within" strap_within f fd) (O_sip : Own P w K mg base CX0 "siphon_within" 3 ["steps", "places"] (spSip K id)) : FnG P w K mg base CX0 4 f fd ["steps", "places"] (spSip K (List.map flipR)) := by
  have nd := sctrap_within.nd
  refine okG F sctrap_within (fun vs H Q E h => ?_) (fun cdv A outer s H vs Q E hr h => ?_)
  · obtain ⟨_, _, _, _, rfl, _⟩ := h
    rfl
  · obtain ⟨S, a, rows, ps, rfl, ⟨⟨b, xs, hS, hx⟩, few, ins⟩, ha, hl, q⟩ := h
    refine ⟨_, (pss_one (ps_ret (pe_own O_sip hr (pa_cons (pe_lc (own := [("name", 2), ("inputs", 3), ("outputs", 4)]) (by rfl) nd (pi_seq (av 0)) (blkOk_by (N := N_tw) (sc := defScope strap_within) (by decide +kernel))
      (fun _ _ _ _ _ => (show PG _ _ (gTup K 3 (gCons (gName 2) (gCons (gName 3) (gCons (gName 4) gNil)))) from pg_tup rfl (pgs_cons (pg_name (i := 2) nd rfl (Or.inl rfl)) (pgs_cons (pg_name (i := 3) nd rfl (Or.inl rfl)) (pgs_cons (pg_name (i := 4) nd rfl (Or.inl rfl)) pgs_nil)))))
      (fun _ _ _ _ _ => pts_nil) (fun _ _ _ _ _ => PE.up (pe_tupS (pa_cons (av 2) (pa_cons (av 4) (pa_cons (av 3) pa_nil)))))) (pa_cons (av 1) pa_nil)) (by decide)))), ?_⟩
    have hxl := hx.length
    rw [List.length_map] at hxl
    refine ⟨S, b, rfl, ⟨_, hS⟩, fun D hD => ?_⟩
    refine lc_itS (walk_seq (xs := xs)) (fun j u H' => ∃ r, rows[j]? = some r ∧ Dq K H' u (rowD (flipR r))) (fun _ _ _ _ s ⟨r, h1, h2⟩ => ⟨r, h1, Dq.same s _ _ h2⟩) hD (by omega) (fun H' s5 => hS.same s5) (fun j y H' H2 hj s5 hD5 ⟨e2, hy⟩ => ?_) ?_ (fun H' acc s6 hl2 la hacc => ?_)
    · subst e2
      obtain ⟨d, hd, hdq⟩ := hx.get hy
      obtain ⟨r, hr1, rfl⟩ := row_of_map hd
      obtain ⟨tt, p1, q1, rfl, htt, hp1, hq1⟩ := row_at hdq
      refine ⟨tt, _, rfl, s5.sqT htt, rfl, _, _, rfl, _, _, rfl, _, _, rfl, rfl, rfl, ?_⟩
      refine ⟨by simp, fun p H3 s3 n3 l3 => ⟨s3, r, hr1, ?_⟩⟩
      have sh : Same H (hide [D] H3) := fun b o e => hid_of (ne_of_none e hD) (s3 _ _ (s5 _ _ e))
      have pD : p ≠ D := fun z => hD5 (z ▸ n3)
      exact .tup (SqT.of (hid_of pD l3)) (.cons (.str _) (.cons (.tup (sh.sqT hq1) (ints_dq)) (.cons (.tup (sh.sqT hp1) ints_dq) .nil)))
    · intro x σ H1 q1 q2 h1 h2
      obtain ⟨tt, ys, e1, e2, e3, h1⟩ := h1
      exact ⟨tt, ys, e1, e2, e3, by
        obtain ⟨a1, a2, a3, b1, b2, b3, c1, c2, c3, c4, h1⟩ := h1
        exact ⟨a1, a2, a3, b1, b2, b3, c1, c2, c3, c4, h2 _ _ h1⟩⟩
    · refine ⟨D, a, rows.map flipR, ps, rfl, ⟨⟨false, acc, SqL.of hl2, dqAll_get _ _ (by simp only [List.length_map]; omega) fun j v hj => ?_⟩, by rw [List.length_map]; exact few, fun r hr2 => ?_⟩, s6.sqT ha, hl, fun b H2 s2 hb => q b H2 (s6.trans s2) hb⟩
      · obtain ⟨r, h1, h2⟩ := hacc j v hj
        exact ⟨_, by rw [List.getElem?_map, List.getElem?_map, h1]; rfl, h2⟩
      · obtain ⟨r0, h1, rfl⟩ := List.mem_map.mp hr2
        exact ⟨(ins r0 h1).2, (ins r0 h1).1⟩
def spClosed (K : PySem.W.Frag) : Sp := fun vs H Q _ => ∃ (v : V) (n : Int) (rows : List RowN), vs = [v] ∧ Dq K H v (netOf n rows) ∧ GoodN n rows ∧ ∀ a H', Same H H' → StepsAt K H' a (stepsOf rows true) → Q (.ref a) H'
theorem ok_closed_steps {f t0 : Addr} {fd : FuncData} (F : Fun K "closed_steps" "closed_steps" sclosed_steps f fd) (C : ClsK K mg t0) : FnG P w K mg base CX0 1 f fd ["net"] (spClosed K) := by
  have nd := scclosed_steps.nd
  refine okG F scclosed_steps (fun vs H Q E h => ?_) (fun cdv A outer s H vs Q E hr h => ?_)
  · obtain ⟨_, _, _, rfl, _⟩ := h
    rfl
  · obtain ⟨v, n, rows, rfl, hv, hg, q⟩ := h
    refine ⟨_, (pss_one (ps_ret (pe_op op_addS (pe_ixA (av 0) pe_int) (pe_tupS (pa_cons (pe_gref C.g) pa_nil))))), ?_⟩
    obtain ⟨na, S, xs, rfl, hna, hS, hx⟩ := net_at hv
    have hxl := hx.length
    rw [List.length_map] at hxl
    have hfew := hg.few
    refine .inr ⟨_, .ref S, hna, rfl, ?_⟩
    refine ⟨by simp, fun p H1 s1 n1 l1 => ?_⟩
    refine .inr ⟨xs, _, s1.sqT hS, SqT.of l1, by simp; omega, fun r H2 s2 h2 => q r H2 (s1.trans s2) ⟨⟨true, _, h2, ?_⟩, ?_, (stepsOf_ok hg true).2⟩⟩
    · have e : (stepsOf rows true).map rowD = rows.map rowD ++ [rowD clR] := by unfold stepsOf; rw [if_pos rfl, List.map_append]; rfl
      rw [e]
      exact DqAll_snoc (DqAll.same (s1.trans s2) _ _ hx) (C.at' H2)
    · have := (stepsOf_ok hg true).1
      omega
def spStepsC (K : PySem.W.Frag) : Sp := fun vs H Q _ => ∃ (v : V) (n : Int) (rows : List RowN) (b : Bool), vs = [v, .bl b] ∧ Dq K H v (netOf n rows) ∧ GoodN n rows ∧ ∀ a H', Same H H' → StepsAt K H' a (stepsOf rows b) → Q (.ref a) H'
theorem ok_steps {f : Addr} {fd : FuncData} (F : Fun K "_steps" "_steps" s_steps f fd) (O_cl : Own P w K mg base CX0 "closed_steps" 1 ["net"] (spClosed K)) : FnG P w K mg base CX0 2 f fd ["net", "closed"] (spStepsC K) := by
  have nd := sc_steps.nd
  refine okG F sc_steps (fun vs H Q E h => ?_) (fun cdv A outer s H vs Q E hr h => ?_)
  · obtain ⟨_, _, _, _, rfl, _⟩ := h
    rfl
  · obtain ⟨v, n, rows, b, rfl, hv, hg, q⟩ := h
    refine ⟨_, (pss_one (ps_ret (pe_ifExp (pt_valA (av 1)) (pe_own O_cl hr (pa_cons (av 0) pa_nil) (by decide)) (pe_ixA (av 0) pe_int)))), ?_⟩
    dsimp only [tRet, tIf, aTest, aVar, L2.start]
    cases b with
    | true =>
      refine ite2 (fun _ => ?_) (fun z => absurd rfl z)
      exact ⟨v, n, rows, rfl, hv, hg, q⟩
    | false =>
      obtain ⟨na, S, xs, rfl, hna, hS, hx⟩ := net_at hv
      refine ite2 (fun z => nomatch z) (fun _ => ?_)
      refine .inr ⟨_, .ref S, hna, rfl, q S H (Same.refl H) ⟨⟨true, xs, hS, ?_⟩, ?_, (stepsOf_ok hg false).2⟩⟩
      · have e : stepsOf rows false = rows := by unfold stepsOf; rw [if_neg (by decide), List.append_nil]
        rw [e]
        exact hx
      · have := (stepsOf_ok hg false).1
        omega
def spJudge (K : PySem.W.Frag) (cI : Addr) (g : List RowN → List RowN) : Sp := fun vs H Q E => ∃ (v u : V) (b : Bool) (d e : PyData), vs = [v, u, .bl b] ∧ Wd K H v d ∧ Wd K H u e ∧
  ((∃ n rows, d = netOf n rows ∧ GoodN n rows ∧ ∀ H', Same H H' → Q (.bl (sipD n (g (stepsOf rows b)) e)) H') ∨ (netD d = false ∧ ∀ H', Same H H' → E (.ref cI) none H'))
theorem ok_is_siphon {f cI : Addr} {fd : FuncData} {x qual : Str} {params : Arguments} {dvs : List V} {kws : List (Str × V)} (F : FunD K x qual params (defBody sis_siphon) (defScope sis_siphon) dvs kws f fd) (Ocheck_net : Own P w K mg base (L2.CX P w) "check_net" 6 ["net"] (spChk K cI netD)) (Oare_places : Own P w K mg base CX0 "are_places" 3 ["places", "value"] (spPlaces K placesD)) (O_steps : Own P w K mg base CX0 "_steps" 2 ["net", "closed"] (spStepsC K))
    (O_in : Own P w K mg base CX0 "siphon_within" 3 ["steps", "places"] (spSip K id)) : FnG P w K mg base (L2.CX P w) 7 f fd ["net", "value", "closed"] (spJudge K cI id) := by
  have nd := scis_siphon.nd
  refine FunD.okGX F scis_siphon (fun vs H Q E h => ?_) (fun cdv A outer s H vs Q E hr h => ?_)
  · obtain ⟨_, _, _, _, _, rfl, _⟩ := h
    rfl
  · obtain ⟨v, u, b, d, e, rfl, hd, he, q⟩ := h
    refine ⟨_, (pss_cons (ps_expr (pe_ownX Ocheck_net hr passE (pa_cons (av 0) pa_nil) (by decide)))
      (pss_one (ps_ret (pe_and (pe_own Oare_places hr (pa_cons (pe_ixA (av 0) pe_int) (pa_cons (av 1) pa_nil)) (by decide)) (pe_one (pe_cmpA (op_eqA hr.units64) (pe_own O_in hr (pa_cons (pe_own O_steps hr (pa_cons (av 0) (pa_cons (av 2) pa_nil)) (by decide)) (pa_cons (av 1) pa_nil)) (by decide)) (av 1))))))), ?_⟩
    refine ⟨v, d, rfl, hd, fun c H1 s1 => ?_, fun c H1 s1 => ?_⟩
    · rcases q with ⟨n, rows, rfl, hg, q⟩ | ⟨hn, q⟩
      · obtain ⟨na, S, xs, rfl, hna, hS, hx⟩ := net_at (hd.same s1).dq
        refine .inr ⟨_, .int n, hna, rfl, ?_⟩
        refine ⟨n, u, e, rfl, he.same s1, fun H2 s2 => ⟨_, rfl, ?_⟩⟩
        have s02 := s1.trans s2
        cases cp : placesD n e with
        | false =>
          refine (iteF ?_ : if false = true then _ else _)
          have := q H2 s02
          unfold sipD at this
          rw [cp] at this
          exact this
        | true =>
          refine (iteT ?_ : if true = true then _ else _)
          obtain ⟨ps, rfl, hin, hasc⟩ := places_is cp
          have heq := (he.same s02).dq
          have hdq := (hd.same s02).dq
          cases heq with
          | @tup ua us _ hu1 hu2 =>
            have eu := dq_ints hu2
            subst eu
            refine ⟨_, n, rows, b, rfl, hdq, hg, fun a2 H3 s3 hst => ?_⟩
            have hlen : ps.length ≤ 1000 := by
              exact asc_few hg.hi hin hasc
            refine ⟨a2, ua, stepsOf rows b, ps, rfl, hst, s3.sqT hu1, hlen, fun b2 H4 s4 hb2 => ?_⟩
            refine ⟨tupI (sipL (id (stepsOf rows b)) ps), tupI ps, .tup hb2 (dp_ints _), .tup ((s3.trans s4).sqT hu1) (dp_ints _), shaped_ints _, shaped_ints _, ?_⟩
            rw [eqv_tupI]
            have := q H4 (s02.trans (s3.trans s4))
            unfold sipD at this
            rw [cp] at this
            have e5 : (match tupI ps with | .tuple ds => decide (passL (id (stepsOf rows b)) (ds.map intOf) = ds.map intOf) | _ => false) = decide (sipL (id (stepsOf rows b)) ps = ps) := by
              show decide (passL _ ((ps.map PyData.int).map intOf) = (ps.map PyData.int).map intOf) = _
              rw [intOf_ints]
              exact decide_eq_decide.mpr sip_fix.symm
            rw [e5] at this
            exact this
      · rw [hn] at c
        cases c
    · rcases q with ⟨n, rows, rfl, hg, q⟩ | ⟨hn, q⟩
      · rw [net_good hg] at c
        cases c
      · exact q _ s1
theorem ok_is_trap {f cI : Addr} {fd : FuncData} {x qual : Str} {params : Arguments} {dvs : List V} {kws : List (Str × V)} (F : FunD K x qual params (defBody sis_trap) (defScope sis_trap) dvs kws f fd) (Ocheck_net : Own P w K mg base (L2.CX P w) "check_net" 6 ["net"] (spChk K cI netD)) (Oare_places : Own P w K mg base CX0 "are_places" 3 ["places", "value"] (spPlaces K placesD)) (O_steps : Own P w K mg base CX0 "_steps" 2 ["net", "closed"] (spStepsC K))
    (O_in : Own P w K mg base CX0 "trap_within" 4 ["steps", "places"] (spSip K (List.map flipR))) : FnG P w K mg base (L2.CX P w) 7 f fd ["net", "value", "closed"] (spJudge K cI (List.map flipR)) := by
  have nd := scis_trap.nd
  refine FunD.okGX F scis_trap (fun vs H Q E h => ?_) (fun cdv A outer s H vs Q E hr h => ?_)
  · obtain ⟨_, _, _, _, _, rfl, _⟩ := h
    rfl
  · obtain ⟨v, u, b, d, e, rfl, hd, he, q⟩ := h
    refine ⟨_, (pss_cons (ps_expr (pe_ownX Ocheck_net hr passE (pa_cons (av 0) pa_nil) (by decide)))
      (pss_one (ps_ret (pe_and (pe_own Oare_places hr (pa_cons (pe_ixA (av 0) pe_int) (pa_cons (av 1) pa_nil)) (by decide)) (pe_one (pe_cmpA (op_eqA hr.units64) (pe_own O_in hr (pa_cons (pe_own O_steps hr (pa_cons (av 0) (pa_cons (av 2) pa_nil)) (by decide)) (pa_cons (av 1) pa_nil)) (by decide)) (av 1))))))), ?_⟩
    refine ⟨v, d, rfl, hd, fun c H1 s1 => ?_, fun c H1 s1 => ?_⟩
    · rcases q with ⟨n, rows, rfl, hg, q⟩ | ⟨hn, q⟩
      · obtain ⟨na, S, xs, rfl, hna, hS, hx⟩ := net_at (hd.same s1).dq
        refine .inr ⟨_, .int n, hna, rfl, ?_⟩
        refine ⟨n, u, e, rfl, he.same s1, fun H2 s2 => ⟨_, rfl, ?_⟩⟩
        have s02 := s1.trans s2
        cases cp : placesD n e with
        | false =>
          refine (iteF ?_ : if false = true then _ else _)
          have := q H2 s02
          unfold sipD at this
          rw [cp] at this
          exact this
        | true =>
          refine (iteT ?_ : if true = true then _ else _)
          obtain ⟨ps, rfl, hin, hasc⟩ := places_is cp
          have heq := (he.same s02).dq
          have hdq := (hd.same s02).dq
          cases heq with
          | @tup ua us _ hu1 hu2 =>
            have eu := dq_ints hu2
            subst eu
            refine ⟨_, n, rows, b, rfl, hdq, hg, fun a2 H3 s3 hst => ?_⟩
            have hlen : ps.length ≤ 1000 := by
              exact asc_few hg.hi hin hasc
            refine ⟨a2, ua, stepsOf rows b, ps, rfl, hst, s3.sqT hu1, hlen, fun b2 H4 s4 hb2 => ?_⟩
            refine ⟨tupI (sipL ((List.map flipR) (stepsOf rows b)) ps), tupI ps, .tup hb2 (dp_ints _), .tup ((s3.trans s4).sqT hu1) (dp_ints _), shaped_ints _, shaped_ints _, ?_⟩
            rw [eqv_tupI]
            have := q H4 (s02.trans (s3.trans s4))
            unfold sipD at this
            rw [cp] at this
            have e5 : (match tupI ps with | .tuple ds => decide (passL ((List.map flipR) (stepsOf rows b)) (ds.map intOf) = ds.map intOf) | _ => false) = decide (sipL ((List.map flipR) (stepsOf rows b)) ps = ps) := by
              show decide (passL _ ((ps.map PyData.int).map intOf) = (ps.map PyData.int).map intOf) = _
              rw [intOf_ints]
              exact decide_eq_decide.mpr sip_fix.symm
            rw [e5] at this
            exact this
      · rw [hn] at c
        cases c
    · rcases q with ⟨n, rows, rfl, hg, q⟩ | ⟨hn, q⟩
      · rw [net_good hg] at c
        cases c
      · exact q _ s1
end
end K11

set_option Elab.async false
set_option linter.all false
set_option maxRecDepth 100000
set_option maxHeartbeats 4000000
namespace K11
open PySem L2 PySem.KX StX
abbrev s_law_told : Stmt := top 44
theorem sc_law_told : FnScope ["net", "value", "is_closed"] ["net", "value", "is_closed"] (defScope s_law_told) := ⟨rfl, rfl, rfl, by decide +kernel, rfl, by decide +kernel, by decide +kernel⟩
abbrev N_st : List Str := ["net", "is_closed", "found", "name", "ins", "outs"]
abbrev s_law_steps : Stmt := top 41
theorem sc_law_steps : FnScope N_st ["net", "is_closed"] (defScope s_law_steps) := ⟨rfl, rfl, rfl, by decide +kernel, rfl, by decide +kernel, by decide +kernel⟩
/-- inputs, outputs -/
def pairD (r : RowN) : PyData := .tuple [tupI r.2.1, tupI r.2.2]
theorem pair_at {K : PySem.W.Frag} {H : Hp} {v : V} {r : RowN} (h : Dq K H v (pairD r)) : ∃ t p q, v = .ref t ∧ SqT K H t [.ref p, .ref q] ∧ SqT K H p (r.2.1.map V.int) ∧ SqT K H q (r.2.2.map V.int) := by
  cases h with
  | @tup t xs ds h1 h2 =>
    cases h2 with
    | cons a2 t2 =>
      cases t2 with
      | cons a3 t3 =>
        cases t3
        cases a2 with
        | @tup p ys _ b1 b2 =>
          cases a3 with
          | @tup q zs _ c1 c2 =>
            have e1 := dq_ints b2
            have e2 := dq_ints c2
            subst e1
            subst e2
            exact ⟨t, p, q, rfl, h1, b1, c1⟩
theorem DqAll_app {K : PySem.W.Frag} {H : Hp} : ∀ {vs us : List V} {ds es : List PyData}, DqAll K H vs ds → DqAll K H us es → DqAll K H (vs ++ us) (ds ++ es)
  | _, _, _, _, .nil, k => k
  | _, _, _, _, .cons h t, k => .cons h (DqAll_app t k)
structure PairsAt (K : PySem.W.Frag) (H : Hp) (L : Addr) (rows : List RowN) : Prop where
  ex : ∃ xs, SqL K H L xs ∧ DqAll K H xs (rows.map pairD)
  few : rows.length ≤ 100
  ins : ∀ r ∈ rows, r.2.1.length ≤ 100 ∧ r.2.2.length ≤ 100
theorem PairsAt.same {K : PySem.W.Frag} {H H' : Hp} {S : Addr} {rows : List RowN} (s : Same H H') (h : PairsAt K H S rows) : PairsAt K H' S rows := by
  obtain ⟨⟨xs, h1, h2⟩, h3, h4⟩ := h
  exact ⟨⟨xs, s.sqL h1, DqAll.same s _ _ h2⟩, h3, h4⟩
section
variable {P : Program} {w : World} {K : PySem.W.Frag} {mg : Str → Option Value} {base : Heap}
def spTold (K : PySem.W.Frag) : Sp := fun vs H Q _ => ∃ (v u : V) (b : Bool) (n : Int) (rows : List RowN) (e : PyData), vs = [v, u, .bl b] ∧ Wd K H v (netOf n rows) ∧ GoodN n rows ∧ Wd K H u e ∧
  ∀ a H', Same H H' → H a = none → H' a = some (.tup [.bl (sipD n (stepsOf rows b) e), .bl (sipD n ((stepsOf rows b).map flipR) e)]) → Q (.ref a) H'
theorem ok_law_told {f cI : Addr} {fd : FuncData} (F : Fun K "_law_told" "_law_told" s_law_told f fd) (O_s : OwnD P w K mg base (L2.CX P w) "is_siphon" 7 ["net", "value", "closed"] 2 ["closed"] [.bl false] (spJudge K cI id)) (O_t : OwnD P w K mg base (L2.CX P w) "is_trap" 7 ["net", "value", "closed"] 2 ["closed"] [.bl false] (spJudge K cI (List.map flipR))) :
    FnG P w K mg base CX0 8 f fd ["net", "value", "is_closed"] (spTold K) := by
  have nd := sc_law_told.nd
  refine okG F sc_law_told (fun vs H Q E h => ?_) (fun cdv A outer s H vs Q E hr h => ?_)
  · obtain ⟨_, _, _, _, _, _, rfl, _⟩ := h
    rfl
  · obtain ⟨v, u, b, n, rows, e, rfl, hv, hg, he, q⟩ := h
    refine ⟨_, (pss_cons (ps_if (pt_valA (av 2)) (pss_one (ps_ret (pe_tupS (pa_cons (pe_ownKw O_s hr passX0 (pa_cons (av 0) (pa_cons (av 1) pa_nil)) (pk_cons pe_bl pk_nil) (by decide)) (pa_cons (pe_ownKw O_t hr passX0 (pa_cons (av 0) (pa_cons (av 1) pa_nil)) (pk_cons pe_bl pk_nil) (by decide)) pa_nil))))) pss_nil)
      (pss_cons (ps_if (pt_cmpA (op_neA hr.units64) (pe_ownD O_s hr passX0 (pa_cons (av 0) (pa_cons (av 1) pa_nil)) (by decide)) (pe_ownKw O_s hr passX0 (pa_cons (av 0) (pa_cons (av 1) pa_nil)) (pk_cons pe_bl pk_nil) (by decide))) (pss_one (ps_ret pe_non)) pss_nil)
      (pss_one (ps_ret (pe_tupS (pa_cons (pe_ownD O_s hr passX0 (pa_cons (av 0) (pa_cons (av 1) pa_nil)) (by decide)) (pa_cons (pe_ownD O_t hr passX0 (pa_cons (av 0) (pa_cons (av 1) pa_nil)) (by decide)) pa_nil))))))), ?_⟩
    dsimp only [tSeq, tIfS, aTest, aVar, L2.start]
    cases b with
    | true =>
      refine ite2 (fun _ => ?_) (fun z => absurd rfl z)
      refine ⟨rfl, rfl, v, u, true, _, e, rfl, hv, he, .inl ⟨n, rows, rfl, hg, fun H1 s1 => ?_⟩⟩
      refine ⟨rfl, rfl, v, u, true, _, e, rfl, hv.same s1, he.same s1, .inl ⟨n, rows, rfl, hg, fun H2 s2 => ?_⟩⟩
      exact ⟨by simp, fun a H3 s3 n3 l3 => q a H3 ((s1.trans s2).trans s3) ((s1.trans s2).free n3) l3⟩
    | false =>
      refine ite2 (fun z => nomatch z) (fun _ => ?_)
      refine ⟨v, u, false, _, e, rfl, hv, he, .inl ⟨n, rows, rfl, hg, fun H1 s1 => ?_⟩⟩
      refine ⟨rfl, rfl, v, u, false, _, e, rfl, hv.same s1, he.same s1, .inl ⟨n, rows, rfl, hg, fun H2 s2 => ?_⟩⟩
      refine ite2 (fun z => ?_) (fun _ => ?_)
      · simp at z
      have s12 := s1.trans s2
      refine ⟨v, u, false, _, e, rfl, hv.same s12, he.same s12, .inl ⟨n, rows, rfl, hg, fun H3 s3 => ?_⟩⟩
      refine ⟨v, u, false, _, e, rfl, hv.same (s12.trans s3), he.same (s12.trans s3), .inl ⟨n, rows, rfl, hg, fun H4 s4 => ?_⟩⟩
      exact ⟨by simp, fun a H5 s5 n5 l5 => q a H5 (((s12.trans s3).trans s4).trans s5) (((s12.trans s3).trans s4).free n5) l5⟩
def spPairs (K : PySem.W.Frag) : Sp := fun vs H Q _ => ∃ (v : V) (b : Bool) (n : Int) (rows : List RowN), vs = [v, .bl b] ∧ Dq K H v (netOf n rows) ∧ GoodN n rows ∧ ∀ a H', Same H H' → PairsAt K H' a (stepsOf rows b) → Q (.ref a) H'
theorem ok_law_steps {f : Addr} {fd : FuncData} (F : Fun K "_law_steps" "_law_steps" s_law_steps f fd) (hint : mg "int" = none) : FnG P w K mg base CX0 1 f fd ["net", "is_closed"] (spPairs K) := by
  have nd := sc_law_steps.nd
  refine okG F sc_law_steps (fun vs H Q E h => ?_) (fun cdv A outer s H vs Q E hr h => ?_)
  · obtain ⟨_, _, _, _, rfl, _⟩ := h
    rfl
  · obtain ⟨v, b, n, rows, rfl, hv, hg, q⟩ := h
    refine ⟨_, (pss_cons (ps_setLc (i := 2) (own := [("name", 3), ("ins", 4), ("outs", 5)]) (by rfl) nd rfl rfl (sw_true rfl rfl rfl (by decide +kernel)) (pi_tup (pe_ixA (av 0) pe_int)) (blkOk_by (N := N_st) (sc := defScope s_law_steps) (by decide +kernel)) (fun _ _ _ _ _ => (show PG _ _ (gTup K 3 (gCons (gName 3) (gCons (gName 4) (gCons (gName 5) gNil)))) from pg_tup rfl (pgs_cons (pg_name (i := 3) nd rfl (Or.inl rfl)) (pgs_cons (pg_name (i := 4) nd rfl (Or.inl rfl)) (pgs_cons (pg_name (i := 5) nd rfl (Or.inl rfl)) pgs_nil)))))
        (fun _ _ _ _ _ => pts_nil) (fun _ _ _ _ _ => PE.up (pe_tupS (pa_cons (av 4) (pa_cons (av 5) pa_nil)))))
      (pss_one (ps_ret (pe_op op_addS (av 2) (pe_op op_repS (pe_lstS (pa_cons (pe_tupS (pa_cons (pe_tupS (pa_cons pe_int pa_nil)) (pa_cons (pe_tupS (pa_cons pe_int pa_nil)) pa_nil))) pa_nil)) (pe_callTy call_intA (by rfl) hint (by decide +kernel) (pa_cons (av 1) pa_nil))))))), ?_⟩
    obtain ⟨na, S, xs, rfl, hna, hS, hx⟩ := net_at hv
    have hxl := hx.length
    rw [List.length_map] at hxl
    have hfew := hg.few
    refine .inr ⟨_, .ref S, hna, rfl, ?_⟩
    refine ⟨S, rfl, ⟨_, hS⟩, fun D hD => ?_⟩
    refine lc_itS (walk_tup (xs := xs)) (fun j u H' => ∃ r, rows[j]? = some r ∧ Dq K H' u (pairD r)) (fun _ _ _ _ s ⟨r, h1, h2⟩ => ⟨r, h1, Dq.same s _ _ h2⟩) hD (by omega) (fun H' s5 => s5.sqT hS) (fun j y H' H2 hj s5 hD5 ⟨e2, hy⟩ => ?_) ?_ (fun H' acc s6 hl2 la hacc => ?_)
    · subst e2
      obtain ⟨d, hd, hdq⟩ := hx.get hy
      obtain ⟨r, hr1, rfl⟩ := row_of_map hd
      obtain ⟨tt, p1, q1, rfl, htt, hp1, hq1⟩ := row_at hdq
      refine ⟨tt, _, rfl, s5.sqT htt, rfl, _, _, rfl, _, _, rfl, _, _, rfl, rfl, rfl, ?_⟩
      refine ⟨by simp, fun p H3 s3 n3 l3 => ⟨s3, r, hr1, ?_⟩⟩
      have sh : Same H (hide [D] H3) := fun b o e => hid_of (ne_of_none e hD) (s3 _ _ (s5 _ _ e))
      have pD : p ≠ D := fun z => hD5 (z ▸ n3)
      exact .tup (SqT.of (hid_of pD l3)) (.cons (.tup (sh.sqT hp1) ints_dq) (.cons (.tup (sh.sqT hq1) ints_dq) .nil))
    · intro x σ H1 q1 q2 h1 h2
      obtain ⟨tt, ys, e1, e2, e3, h1⟩ := h1
      exact ⟨tt, ys, e1, e2, e3, by
        obtain ⟨a1, a2, a3, b1, b2, b3, c1, c2, c3, c4, h1⟩ := h1
        exact ⟨a1, a2, a3, b1, b2, b3, c1, c2, c3, c4, h2 _ _ h1⟩⟩
    · have hacc2 : DqAll K H' acc (rows.map pairD) := dqAll_get _ _ (by simp only [List.length_map]; omega) fun j v hj => by
        obtain ⟨r, h1, h2⟩ := hacc j v hj
        exact ⟨_, by rw [List.getElem?_map, h1]; rfl, h2⟩
      refine ⟨by simp, fun t1 H1 s1 n1 l1 => ?_⟩
      refine ⟨by simp, fun t2 H2 s2 n2 l2 => ?_⟩
      refine ⟨by simp, fun t3 H3 s3 n3 l3 => ?_⟩
      refine ⟨by simp, fun L H4 s4 n4 l4 => ?_⟩
      have s14 := ((s1.trans s2).trans s3).trans s4
      have cl : Dq K H4 (.ref t3) (pairD clR) := .tup (SqT.of (s4 _ _ l3)) (.cons (.tup (SqT.of (s4 _ _ (s3 _ _ (s2 _ _ l1)))) (.cons (.int _) .nil)) (.cons (.tup (SqT.of (s4 _ _ (s3 _ _ l2))) (.cons (.int _) .nil)) .nil))
      have big := stepsOf_ok hg b
      have fin : ∀ (xs2 : List V) (L2' : Addr) (H5 : Hp), Same H4 H5 → H5 L2' = some (.lst xs2) → DqAll K H5 xs2 (if b = true then [pairD clR] else []) → xs2.length ≤ 1 → rAddS K (.ref D) (.ref L2') H5 Q := fun xs2 L2' H5 s5 l5 d5 e5 => by
        refine .inl ⟨acc, xs2, s5 _ _ (s14 _ _ hl2), l5, by omega, fun p H6 s6' n6 l6 => ?_⟩
        refine q p H6 (s6.trans (s14.trans (s5.trans s6'))) ⟨⟨_, SqL.of l6, ?_⟩, by omega, big.2⟩
        have e : (stepsOf rows b).map pairD = rows.map pairD ++ (if b = true then [pairD clR] else []) := by
          unfold stepsOf
          rw [List.map_append]
          cases b <;> rfl
        rw [e]
        exact DqAll_app (DqAll.same (s14.trans (s5.trans s6')) _ _ hacc2) (DqAll.same s6' _ _ d5)
      refine ⟨L, if b then 1 else 0, [.ref t3], rfl, rfl, l4, by cases b <;> decide, by cases b <;> decide, by simp, fun p H5 s5 n5 l5 => ?_⟩
      cases b with
      | true => exact fin [.ref t3] p H5 s5 l5 (.cons (Dq.same s5 _ _ cl) .nil) (by simp)
      | false => exact fin [] p H5 s5 l5 .nil (by decide)
end
end K11

set_option Elab.async false
set_option linter.all false
set_option maxRecDepth 100000
set_option maxHeartbeats 4000000
namespace K11
open PySem L2 PySem.KX StX
abbrev N_ke : List Str := ["steps", "places", "is_siphon_asked", "ins", "outs", "first", "second", "place"]
abbrev s_law_keeps : Stmt := top 42
theorem sc_law_keeps : FnScope N_ke ["steps", "places", "is_siphon_asked"] (defScope s_law_keeps) := ⟨rfl, rfl, rfl, by decide +kernel, rfl, by decide +kernel, by decide +kernel⟩
/-- the law's own reading of one step -/
def keepR (ps : List Int) (b : Bool) (r : RowN) : Bool :=
  let f := (if b = true then r.2.1 else r.2.2).filter fun k => decide (k ∈ ps)
  let s := (if b = true then r.2.2 else r.2.1).filter fun k => decide (k ∈ ps)
  !(!decide (s = []) && decide (f = []))
def keepsB (rows : List RowN) (ps : List Int) (b : Bool) : Bool := rows.all (keepR ps b)
theorem filter_nil_any {ns ps : List Int} : (ns.filter fun k => decide (k ∈ ps)) = [] ↔ (ns.any fun j => decide (j ∈ ps)) = false := by
  rw [List.filter_eq_nil_iff, List.any_eq_false]
theorem pass_all {rows : List RowN} {ps : List Int} : passL rows ps = ps ↔ ∀ k ∈ ps, fedB rows ps k = false := by
  unfold passL
  rw [List.filter_eq_self]
  refine ⟨fun h k hk => ?_, fun h k hk => ?_⟩
  · have := h k hk
    simpa using this
  · rw [h k hk]; rfl
/-- the law reads the same as the program's passes -/
theorem keeps_sip (rows : List RowN) (ps : List Int) : keepsB rows ps true = decide (passL rows ps = ps) := by
  rw [Bool.eq_iff_iff, decide_eq_true_eq, pass_all]
  unfold keepsB
  rw [List.all_eq_true]
  refine ⟨fun h k hk => ?_, fun h r hr => ?_⟩
  · cases c : fedB rows ps k with
    | false => rfl
    | true =>
      obtain ⟨r, hr, h2⟩ := List.any_eq_true.mp c
      rw [Bool.and_eq_true, decide_eq_true_eq, Bool.not_eq_true'] at h2
      have h3 := h r hr
      have f0 := filter_nil_any.mpr h2.2
      have s0 : ¬ (r.2.2.filter fun k => decide (k ∈ ps)) = [] := fun z => by
        have : k ∈ r.2.2.filter fun k => decide (k ∈ ps) := List.mem_filter.mpr ⟨h2.1, decide_eq_true hk⟩
        rw [z] at this
        exact absurd this List.not_mem_nil
      have e : keepR ps true r = !(!decide ((r.2.2.filter fun k => decide (k ∈ ps)) = []) && decide ((r.2.1.filter fun k => decide (k ∈ ps)) = [])) := rfl
      rw [e, f0, decide_eq_false s0] at h3
      exact absurd h3 (by decide)
  · have e : keepR ps true r = !(!decide ((r.2.2.filter fun k => decide (k ∈ ps)) = []) && decide ((r.2.1.filter fun k => decide (k ∈ ps)) = [])) := rfl
    rw [e]
    by_cases s0 : (r.2.2.filter fun k => decide (k ∈ ps)) = []
    · rw [decide_eq_true s0]; rfl
    · by_cases f0 : (r.2.1.filter fun k => decide (k ∈ ps)) = []
      · obtain ⟨k, hk⟩ := List.exists_mem_of_ne_nil _ s0
        have hk2 := List.mem_filter.mp hk
        have hf := h k (of_decide_eq_true hk2.2)
        have := (List.any_eq_false.mp hf) r hr
        rw [decide_eq_true hk2.1, filter_nil_any.mp f0] at this
        exact absurd rfl this
      · rw [decide_eq_false f0]; simp
theorem keeps_trap (rows : List RowN) (ps : List Int) : keepsB rows ps false = decide (passL (rows.map flipR) ps = ps) := by
  rw [← keeps_sip]
  unfold keepsB
  rw [List.all_map]
  rfl
section
variable {P : Program} {w : World} {K : PySem.W.Frag} {mg : Str → Option Value} {base : Heap}
def spKeeps (K : PySem.W.Frag) : Sp := fun vs H Q _ => ∃ (S a : Addr) (b : Bool) (rows : List RowN) (ps : List Int), vs = [.ref S, .ref a, .bl b] ∧ PairsAt K H S rows ∧ SqT K H a (ps.map V.int) ∧ ∀ H', Same H H' → Q (.bl (keepsB rows ps b)) H'
theorem ok_law_keeps {f : Addr} {fd : FuncData} (F : Fun K "_law_keeps" "_law_keeps" s_law_keeps f fd) : FnG P w K mg base CX0 1 f fd ["steps", "places", "is_siphon_asked"] (spKeeps K) := by
  have nd := sc_law_keeps.nd
  refine okG F sc_law_keeps (fun vs H Q E h => ?_) (fun cdv A outer s H vs Q E hr h => ?_)
  · obtain ⟨_, _, _, _, _, rfl, _⟩ := h
    rfl
  · obtain ⟨S, a, b, rows, ps, rfl, ⟨⟨xs, hS, hx⟩, few, ins⟩, ha, q⟩ := h
    refine ⟨_, (pss_cons (ps_for PassesOwn.never rfl (pi_list (av 0)) (pg_tup rfl (pgs_cons (pg_name (i := 3) nd rfl (Or.inl rfl)) (pgs_cons (pg_name (i := 4) nd rfl (Or.inl rfl)) pgs_nil))) (pss_cons (ps_setLc (i := 5) (own := [("place", 7)]) (by rfl) nd rfl rfl (sw_true rfl rfl rfl (by decide +kernel)) (pi_tup (av 3)) (blkOk_by (N := N_ke) (sc := defScope s_law_keeps) (by decide +kernel)) (fun _ _ _ _ _ => (pg_name (i := 7) nd rfl (Or.inl rfl))) (fun _ _ _ _ _ => (pts_one (show PT _ _ (aTest (tOp (rIn K false) (aVar 7) (aVar 1))) from pt_cmpA op_in_seq (av 7) (av 1)))) (fun _ _ _ _ _ => (av 7)))
      (pss_cons (ps_setLc (i := 6) (own := [("place", 7)]) (by rfl) nd rfl rfl (sw_true rfl rfl rfl (by decide +kernel)) (pi_tup (av 4)) (blkOk_by (N := N_ke) (sc := defScope s_law_keeps) (by decide +kernel)) (fun _ _ _ _ _ => (pg_name (i := 7) nd rfl (Or.inl rfl))) (fun _ _ _ _ _ => (pts_one (show PT _ _ (aTest (tOp (rIn K false) (aVar 7) (aVar 1))) from pt_cmpA op_in_seq (av 7) (av 1)))) (fun _ _ _ _ _ => (av 7)))
      (pss_cut (ps_if (pt_not (pt_valA (av 2))) (pss_one (ps_par (i := 5) (j := 6) (by rfl) nd rfl rfl (by decide) rfl rfl (pa_cons (av 6) (pa_cons (av 5) pa_nil)) (by rfl))) pss_nil)
      (pss_one (ps_if (PW.pt (pw_and (pt_cmpA (op_neA hr.units64) (av 6) (pe_lstS pa_nil)) (pw_and1 (pt_cmpA (op_eqA hr.units64) (av 5) (pe_lstS pa_nil))))) (pss_one (ps_ret pe_bl)) pss_nil))))))
      (pss_one (ps_ret pe_bl))), ?_⟩
    have hxl := hx.length
    rw [List.length_map] at hxl
    refine ⟨S, rfl, ⟨_, hS⟩, ?_⟩
    refine for_it (walk_list (xs := xs)) (fun i σ H' => (∃ o3 o4 o5 o6 o7 : Option V, σ = [some (.ref S), some (.ref a), some (.bl b), o3, o4, o5, o6, o7]) ∧ Same H H' ∧ ∀ (j : Nat) (r : RowN), j < i → rows[j]? = some r → keepR ps b r = true)
      ⟨⟨_, _, _, _, _, rfl⟩, Same.refl _, fun j r hj _ => absurd hj (Nat.not_lt_zero _)⟩ (fun i σ H' _ ⟨_, s, _⟩ => s.sqL hS) ?_ ?_
    · rintro i x σ H1 H2 hi ⟨⟨o3, o4, o5, o6, o7, rfl⟩, s1, hall⟩ ⟨rfl, hx2⟩
      obtain ⟨d, hd, hdq⟩ := hx.get hx2
      obtain ⟨r, hr1, rfl⟩ : ∃ r, rows[i]? = some r ∧ pairD r = d := by
        rw [List.getElem?_map] at hd
        cases e : rows[i]? with
        | none => rw [e] at hd; cases hd
        | some r => rw [e] at hd; exact ⟨r, rfl, Option.some.inj hd⟩
      obtain ⟨tt, p1, q1, rfl, htt, hp1, hq1⟩ := pair_at (Dq.same s1 _ _ hdq)
      have hlen := ins r (List.mem_of_getElem? hr1)
      refine ⟨tt, _, rfl, htt, rfl, _, _, rfl, _, _, rfl, rfl, ?_⟩
      refine ⟨p1, rfl, ⟨_, hp1⟩, fun D hD => ?_⟩
      refine lc_filt (walk_tup (K := K) (a := p1)) (fun k => decide (k ∈ ps)) hD (fun H' s' => s'.sqT hp1) (by omega) (fun k H3 hk s3 _ R S' h1 h2 => ?_) (fun H3 s3 l3 => ?_)
      · refine ⟨rfl, a, _, rfl, .inr ((s1.trans s3).sqT ha), rfl, flat_ints _, ?_⟩
        rw [if_neg (show ¬ ((false : Bool) = true) by decide), inV_int]
        exact ite2 (fun c => h1 _ (Same.refl _) c) (fun c => h2 _ (Same.refl _) (Bool.eq_false_iff.mpr c))
      refine ⟨q1, rfl, ⟨_, s3.sqT hq1⟩, fun D2 hD2 => ?_⟩
      refine lc_filt (walk_tup (K := K) (a := q1)) (fun k => decide (k ∈ ps)) hD2 (fun H' s' => (s3.trans s').sqT hq1) (by omega) (fun k H4 hk s4 _ R S' h1 h2 => ?_) (fun H4 s4 l4 => ?_)
      · refine ⟨rfl, a, _, rfl, .inr (((s1.trans s3).trans s4).sqT ha), rfl, flat_ints _, ?_⟩
        rw [if_neg (show ¬ ((false : Bool) = true) by decide), inV_int]
        exact ite2 (fun c => h1 _ (Same.refl _) c) (fun c => h2 _ (Same.refl _) (Bool.eq_false_iff.mpr c))
      have s14 := (s1.trans s3).trans s4
      have l34 := s4 _ _ l3
      -- behind the exchange
      refine ⟨fun σ H' => H' = H4 ∧ ∃ (A B : Addr) (fs ss : List Int) (o7 : Option V), σ = [some (.ref S), some (.ref a), some (.bl b), some (.ref p1), some (.ref q1), some (.ref A), some (.ref B), o7] ∧ H4 A = some (.lst (fs.map V.int)) ∧ H4 B = some (.lst (ss.map V.int)) ∧ keepR ps b r = !(!decide (ss = []) && decide (fs = [])), ?_, ?_⟩
      · cases b with
        | true => exact ⟨rfl, D, D2, _, _, _, rfl, l34, l4, rfl⟩
        | false => exact ⟨_, _, rfl, rfl, D2, D, _, _, _, rfl, l4, l34, rfl⟩
      rintro σ H5 ⟨rfl, A', B', fs, ss, o7', rfl, lA, lB, ek⟩
      refine ⟨by simp, fun e1 H6 s6 n6 l6 => ?_⟩
      refine ⟨.list (ss.map .int), .list [], .lst (SqL.of (s6 _ _ lB)) (dp_ints _), .lst (SqL.of l6) .nil, ints_shaped _, by decide +kernel, ?_⟩
      have en : ∀ l : List Int, PyData.eqv (.list (l.map .int)) (.list []) = decide (l = []) := fun l => by cases l <;> rfl
      rw [en]
      have hnext : ∀ H7, Same H H7 → keepR ps b r = true → (∃ o3 o4 o5 o6 o7 : Option V, [some (.ref S), some (.ref a), some (.bl b), some (.ref p1), some (.ref q1), some (.ref A'), some (.ref B'), o7'] = [some (V.ref S), some (.ref a), some (.bl b), o3, o4, o5, o6, o7]) ∧ Same H H7 ∧ ∀ (j : Nat) (r : RowN), j < i + 1 → rows[j]? = some r → keepR ps b r = true := fun H7 s7 hk =>
        ⟨⟨_, _, _, _, _, rfl⟩, s7, fun j r' hj hr' => by
          by_cases e : j = i
          · subst e
            rw [hr1] at hr'
            cases hr'
            exact hk
          · exact hall j r' (by omega) hr'⟩
      refine ite2 (fun c => ?_) (fun c => ?_)
      · refine ⟨by simp, fun e2 H7 s7 n7 l7 => ?_⟩
        refine ⟨.list (fs.map .int), .list [], .lst (SqL.of (s7 _ _ (s6 _ _ lA))) (dp_ints _), .lst (SqL.of l7) .nil, ints_shaped _, by decide +kernel, ?_⟩
        rw [en]
        have s07 := (s14.trans s6).trans s7
        refine ite2 (fun c2 => ?_) (fun c2 => ?_)
        · have e0 : keepsB rows ps b = false := by
            cases e : keepsB rows ps b with
            | false => rfl
            | true =>
              have := List.all_eq_true.mp e r (List.mem_of_getElem? hr1)
              rw [ek, c, c2] at this
              exact absurd this (by decide)
          have := q H7 s07
          rw [e0] at this
          exact this
        · exact hnext H7 s07 (by rw [ek, Bool.eq_false_iff.mpr c2, Bool.and_false]; rfl)
      · exact hnext H6 (s14.trans s6) (by rw [ek, Bool.eq_false_iff.mpr c]; rfl)
    · rintro σ H1 ⟨_, s1, hall⟩
      have e0 : keepsB rows ps b = true := List.all_eq_true.mpr fun r hr => by
        obtain ⟨j, hj⟩ := List.mem_iff_getElem?.mp hr
        exact hall j r (by rw [hxl]; exact (List.getElem?_eq_some_iff.mp hj).1) hj
      have := q H1 s1
      rw [e0] at this
      exact this
end
end K11

set_option Elab.async false
set_option linter.all false
set_option maxRecDepth 100000
set_option maxHeartbeats 4000000
namespace K11
open PySem L2 PySem.KX StX
abbrev N_se : List Str := ["total", "found", "place", "row"]
abbrev s_law_sets : Stmt := top 43
theorem sc_law_sets : FnScope N_se ["total"] (defScope s_law_sets) := ⟨rfl, rfl, rfl, by decide +kernel, rfl, by decide +kernel, by decide +kernel⟩
/-- an ascending row of places below i -/
def AscI (i : Int) (ps : List Int) : Prop := ps.Pairwise (· < ·) ∧ ∀ k ∈ ps, 0 ≤ k ∧ k < i
theorem AscI.more {i : Int} {ps : List Int} (h : AscI i ps) : AscI (i + 1) ps := ⟨h.1, fun k hk => ⟨(h.2 k hk).1, by have := (h.2 k hk).2; omega⟩⟩
theorem AscI.snoc {i : Int} {ps : List Int} (h : AscI i ps) (hi : 0 ≤ i) : AscI (i + 1) (ps ++ [i]) := by
  refine ⟨List.pairwise_append.mpr ⟨h.1, by simp, fun a ha b hb => ?_⟩, fun k hk => ?_⟩
  · rw [List.mem_singleton.mp hb]; exact (h.2 a ha).2
  · rcases List.mem_append.mp hk with z | z
    · exact h.more.2 k z
    · rw [List.mem_singleton.mp z]; omega
theorem AscI.few {i : Int} {ps : List Int} (h : AscI i ps) (hi : i ≤ 30) : ps.length ≤ 30 := by
  have nd : ps.Nodup := h.1.imp fun {a b} hab e => absurd hab (by rw [e]; exact Int.lt_irrefl _)
  have := nodup_le (m := (List.range 30).map fun i : Nat => (i : Int)) nd fun x hx => by
    obtain ⟨h0, h1⟩ := h.2 x hx
    exact List.mem_map.mpr ⟨x.toNat, List.mem_range.mpr (by omega), by omega⟩
  simpa using this
section
variable {P : Program} {w : World} {K : PySem.W.Frag} {mg : Str → Option Value} {base : Heap}
def spSets (K : PySem.W.Frag) : Sp := fun vs H Q _ => ∃ n : Nat, vs = [.int n] ∧ n ≤ 7 ∧ ∀ (L : Addr) (xs : List V) (pss : List (List Int)) (H' : Hp), Same H H' → H' L = some (.lst xs) → DqAll K H' xs (pss.map tupI) → (∀ ps ∈ pss, AscI n ps) → Q (.ref L) H'
theorem ok_law_sets {f : Addr} {fd : FuncData} (F : Fun K "_law_sets" "_law_sets" s_law_sets f fd) (hrange : mg "range" = none) : FnG P w K mg base CX0 1 f fd ["total"] (spSets K) := by
  have nd := sc_law_sets.nd
  refine okG F sc_law_sets (fun vs H Q E h => ?_) (fun cdv A outer s H vs Q E hr h => ?_)
  · obtain ⟨_, rfl, _⟩ := h
    rfl
  · obtain ⟨n, rfl, hn, q⟩ := h
    refine ⟨_, (pss_cons (ps_set (i := 1) nd rfl (Or.inl rfl) (pe_lstS (pa_cons (pe_tupS pa_nil) pa_nil)))
      (pss_cons (ps_for PassesOwn.never rfl (pi_range1 (by rfl) hrange (pa_cons (av 0) pa_nil)) (pg_name (i := 2) nd rfl (by first | exact Or.inl rfl | exact Or.inr rfl)) (pss_one (ps_set (i := 1) nd rfl (Or.inl rfl) (pe_op op_addS (av 1) (pe_lc (own := [("row", 3)]) (by rfl) nd (pi_list (av 1)) (blkOk_by (N := N_se) (sc := defScope s_law_sets) (by decide +kernel)) (fun _ _ _ _ _ => (pg_name (i := 3) nd rfl (Or.inl rfl))) (fun _ _ _ _ _ => pts_nil)
        (fun _ _ _ _ _ => PE.up (show PE _ _ (tOp (rAddS K) (aVar 3) (tTupS (tCons (aVar 2) tNil))) from pe_op op_addS (av 3) (pe_tupS (pa_cons (av 2) pa_nil)))))))))
      (pss_one (ps_ret (av 1))))), ?_⟩
    refine ⟨by simp, fun t0 H1 s1 n1 l1 => ?_⟩
    refine ⟨by simp, fun L0 H2 s2 n2 l2 => ?_⟩
    refine ⟨_, rfl, by omega, by omega, for_range (lo := 0) (n := ((n : Nat) : Int).toNat) (fun i σ H' => ∃ (L : Addr) (xs : List V) (pss : List (List Int)) (o2 o3 : Option V), σ = [some (.int (n : Nat)), some (.ref L), o2, o3] ∧ Same H H' ∧ H' L = some (.lst xs) ∧ DqAll K H' xs (pss.map tupI) ∧ pss.length = 2 ^ i ∧ ∀ ps ∈ pss, AscI i ps)
      ⟨L0, _, [[]], _, _, rfl, s1.trans s2, l2, .cons (.tup (SqT.of (s2 _ _ l1)) .nil) .nil, rfl, fun ps hps => ?_⟩ ?_ ?_⟩
    · rw [List.mem_singleton.mp hps]
      exact ⟨List.Pairwise.nil, fun k hk => absurd hk List.not_mem_nil⟩
    · rintro i σ H3 hi ⟨L, xs, pss, o2, o3, rfl, s3, l3, hx, hl, hp⟩
      have hxl := hx.length
      rw [List.length_map] at hxl
      have h2 : 2 ^ i ≤ 2 ^ 7 := Nat.pow_le_pow_right (by decide) (by omega)
      refine ⟨L, rfl, ⟨_, SqL.of l3⟩, fun D hD => ?_⟩
      refine lc_itL (walk_list (xs := xs)) (fun j u H' => ∃ ps, pss[j]? = some ps ∧ Dq K H' u (tupI (ps ++ [(i : Int)]))) (fun _ _ _ _ s ⟨r, h1, h2⟩ => ⟨r, h1, Dq.same s _ _ h2⟩) hD (by omega) (fun H' s5 => s5.sqL (SqL.of l3)) (fun j y H' H4 hj s5 ⟨ac5, hD5⟩ ⟨e2, hy⟩ => ?_) gName_mono (fun H' acc s6 hl2 la hacc => ?_)
      · subst e2
        obtain ⟨d, hd, hdq⟩ := hx.get hy
        obtain ⟨ps, hps, rfl⟩ : ∃ ps, pss[j]? = some ps ∧ tupI ps = d := by
          rw [List.getElem?_map] at hd
          cases e : pss[j]? with
          | none => rw [e] at hd; cases hd
          | some r => rw [e] at hd; exact ⟨r, rfl, Option.some.inj hd⟩
        have fw := (hp ps (List.mem_of_getElem? hps)).few (by omega)
        cases hdq with
        | @tup ta us _ hu1 hu2 =>
          have eu := dq_ints hu2
          subst eu
          refine ⟨rfl, ?_⟩
          refine ⟨by simp, fun t1 H5 s6 n6 l6 => ?_⟩
          refine .inr ⟨ps.map V.int, _, s6.sqT (s5.sqT hu1), SqT.of l6, by simp; omega, fun r H6 s7 hr7 => ⟨s6.trans s7, ps, hps, ?_⟩⟩
          have hD6 := s7 _ _ (s6 _ _ hD5)
          refine .tup (sqT_hide hD6 hr7) ?_
          have e : (0 : Int) + (i : Nat) = (i : Int) := by omega
          have := ints_dq (K := K) (H := hide [D] H6) (ns := ps ++ [(i : Int)])
          rw [List.map_append] at this
          simpa [e] using this
      · have hacc2 : DqAll K H' acc ((pss.map fun ps => ps ++ [(i : Int)]).map tupI) := dqAll_get _ _ (by simp only [List.length_map]; omega) fun j v hj => by
          obtain ⟨r, h1, h2⟩ := hacc j v hj
          exact ⟨_, by rw [List.getElem?_map, List.getElem?_map, h1]; rfl, h2⟩
        refine .inl ⟨xs, acc, s6 _ _ l3, hl2, by omega, fun p H5 s7 n7 l7 => ?_⟩
        refine ⟨p, xs ++ acc, pss ++ pss.map fun ps => ps ++ [(i : Int)], _, _, rfl, s3.trans (s6.trans s7), l7, ?_, ?_, fun ps hps => ?_⟩
        · rw [List.map_append]
          exact DqAll_app (DqAll.same (s6.trans s7) _ _ hx) (DqAll.same s7 _ _ hacc2)
        · rw [List.length_append, List.length_map, hl, Nat.pow_succ]; omega
        · have e : ((i + 1 : Nat) : Int) = (i : Int) + 1 := by omega
          rw [e]
          rcases List.mem_append.mp hps with z | z
          · exact (hp ps z).more
          · obtain ⟨ps0, h0, rfl⟩ := List.mem_map.mp z
            exact (hp ps0 h0).snoc (by omega)
    · rintro σ H3 ⟨L, xs, pss, o2, o3, rfl, s3, l3, hx, hl, hp⟩
      have e : ((((n : Nat) : Int).toNat : Nat) : Int) = (n : Int) := by omega
      rw [e] at hp
      exact q L xs pss H3 s3 l3 hx hp
end
end K11

set_option Elab.async false
set_option linter.all false
set_option maxRecDepth 100000
set_option maxHeartbeats 4000000
namespace K11
open PySem L2 PySem.KX StX
abbrev s_law_others : Stmt := top 45
theorem sc_law_others : FnScope ["dice", "net", "place", "found"] ["dice", "net"] (defScope s_law_others) := ⟨rfl, rfl, rfl, by decide +kernel, rfl, by decide +kernel, by decide +kernel⟩
abbrev s_law_refused : Stmt := top 46
theorem sc_law_refused : FnScope ["net", "method"] ["net"] (defScope s_law_refused) := ⟨rfl, rfl, rfl, by decide +kernel, rfl, by decide +kernel, by decide +kernel⟩
/-- the other values -/
def othD (n k : Int) : List PyData := [.list [.int k], .tuple [.int k, .int k], .tuple [.int n], .tuple [.int (-1)], .tuple [.int k, .none], .tuple [.bool true], .tuple [.bool false], .tuple [.str "0"], .none, .int k, .dict []] ++ [.str "", .list [], .tuple [.int (n - 1), .int 0], .tuple [.tuple [.int k]]]
theorem oth_no {n k : Int} (hn : 2 ≤ n) (d : PyData) (h : d ∈ othD n k) : placesD n d = false ∧ smQ d = true := by
  have e3 : ∀ ds : List PyData, placesD n (.tuple ds) = (ds.all (intIn 0 (n - 1)) && ascD ds) := fun _ => rfl
  have ei : ∀ i : Int, intIn 0 (n - 1) (.int i) = (decide (0 ≤ i) && decide (i ≤ n - 1)) := fun _ => rfl
  simp only [othD, List.cons_append, List.nil_append, List.mem_cons, List.not_mem_nil, or_false] at h
  rcases h with rfl | rfl | rfl | rfl | rfl | rfl | rfl | rfl | rfl | rfl | rfl | rfl | rfl | rfl | rfl
  · exact ⟨rfl, by simp [smQ, smQAll]⟩
  · refine ⟨?_, by simp [smQ, smQAll]⟩
    have : ascD [.int k, .int k] = false := by
      cases c : ascD [PyData.int k, PyData.int k] with
      | false => rfl
      | true =>
        have := (asc_ints [k, k]).mp c
        simp at this
    rw [e3, this, Bool.and_false]
  · refine ⟨?_, by simp [smQ, smQAll]⟩
    rw [e3]
    simp [ei]
    intro; omega
  · refine ⟨?_, by simp [smQ, smQAll]⟩
    rw [e3]
    simp [ei]
  · exact ⟨by rw [e3]; simp [show intIn 0 (n - 1) .none = false from rfl], by simp [smQ, smQAll]⟩
  · exact ⟨by rw [e3]; simp [show intIn 0 (n - 1) (.bool true) = false from rfl], by simp [smQ, smQAll]⟩
  · exact ⟨by rw [e3]; simp [show intIn 0 (n - 1) (.bool false) = false from rfl], by simp [smQ, smQAll]⟩
  · exact ⟨by rw [e3]; simp [show intIn 0 (n - 1) (.str "0") = false from rfl], by decide +kernel⟩
  · exact ⟨rfl, rfl⟩
  · exact ⟨rfl, rfl⟩
  · exact ⟨rfl, by decide +kernel⟩
  · exact ⟨rfl, by decide +kernel⟩
  · exact ⟨rfl, by decide +kernel⟩
  · refine ⟨?_, by simp [smQ, smQAll]⟩
    have : ascD [.int (n - 1), .int 0] = false := by
      cases c : ascD [PyData.int (n - 1), PyData.int 0] with
      | false => rfl
      | true =>
        have := (asc_ints [n - 1, 0]).mp c
        simp at this
        omega
    rw [e3, this, Bool.and_false]
  · exact ⟨by rw [e3]; simp [show intIn 0 (n - 1) (.tuple [.int k]) = false from rfl], by simp [smQ, smQAll]⟩
section
variable {P : Program} {w : World} {K : PySem.W.Frag} {mg : Str → Option Value} {base : Heap}
def spOth (K : PySem.W.Frag) : Sp := fun vs H Q _ => ∃ (p : Addr) (v : V) (m n : Int) (rows : List RowN), vs = [.ref p, v] ∧ Dc p m H ∧ m + 10 < 2 ^ 30 ∧ Dq K (hide [p] H) v (netOf n rows) ∧ GoodN n rows ∧
  ∀ (L : Addr) (xs : List V) (k : Int) (H' : Hp), Nxt p H H' → Dc p (m + 1) H' → L ≠ p → H' L = some (.lst xs) → DqAll K (hide [p] H') xs (othD n k) → Q (.ref L) H'
theorem ok_law_others {f : Addr} {fd : FuncData} (F : Fun K "_law_others" "_law_others" s_law_others f fd) (O_roll : Own P w K mg base CX0 "_law_roll" 1 ["dice", "total"] spRollD) : FnG P w K mg base CX0 2 f fd ["dice", "net"] (spOth K) := by
  have nd := sc_law_others.nd
  refine okG F sc_law_others (fun vs H Q E h => ?_) (fun cdv A outer s H vs Q E hr h => ?_)
  · obtain ⟨_, _, _, _, _, rfl, _⟩ := h
    rfl
  · obtain ⟨p, v, m, n, rows, rfl, dc, hm, hv, hg, q⟩ := h
    refine ⟨_, (pss_cons (ps_set (i := 2) nd rfl (Or.inl rfl) (pe_own O_roll hr (pa_cons (av 0) (pa_cons (pe_ixA (av 1) pe_int) pa_nil)) (by decide)))
      (pss_cons (ps_set (i := 3) nd rfl (Or.inl rfl) (pe_lstS (pa_cons (pe_lstS (pa_cons (av 2) pa_nil)) (pa_cons (pe_tupS (pa_cons (av 2) (pa_cons (av 2) pa_nil))) (pa_cons (pe_tupS (pa_cons (pe_ixA (av 1) pe_int) pa_nil)) (pa_cons (pe_tupS (pa_cons (pe_un un_neg pe_int) pa_nil)) (pa_cons (pe_tupS (pa_cons (av 2) (pa_cons pe_non pa_nil))) (pa_cons (pe_tupS (pa_cons pe_bl pa_nil)) (pa_cons (pe_tupS (pa_cons pe_bl pa_nil)) (pa_cons (pe_tupS (pa_cons pe_str pa_nil)) (pa_cons pe_non (pa_cons (av 2) (pa_cons pe_dnewK pa_nil)))))))))))))
      (pss_one (ps_ret (pe_op op_addS (av 3) (pe_lstS (pa_cons pe_str (pa_cons (pe_lstS pa_nil) (pa_cons (pe_tupS (pa_cons (pe_op op_subA (pe_ixA (av 1) pe_int) pe_int) (pa_cons pe_int pa_nil))) (pa_cons (pe_tupS (pa_cons (pe_tupS (pa_cons (av 2) pa_nil)) pa_nil)) pa_nil)))))))))), ?_⟩
    obtain ⟨na, S, xs, rfl, hna, _, _⟩ := net_at hv
    have hna0 := hide_sub.sqT hna
    have n2 := hg.lo
    have n30 := hg.hi
    refine .inr ⟨_, .int n, hna0, rfl, ?_⟩
    refine ⟨p, m, n, rfl, dc, by omega, by omega, by omega, fun k H1 k0 k1 dc1 e1 => ?_⟩
    have nx1 : Nxt p H H1 := Nxt.of_eq e1
    have hna1 : SqT K H1 na [.int n, .ref S] := hide_sub.sqT (Same.sqT (show Same (hide [p] H) (hide [p] H1) from nx1) hna)
    have at1 : ∀ {H' : Hp}, Same H1 H' → SqT K H' na [.int n, .ref S] := fun s => s.sqT hna1
    refine ⟨by simp, fun a1 Ha sa na1 la => ?_⟩
    refine ⟨by simp, fun a2 Hb sb na2 lb => ?_⟩
    refine .inr ⟨_, .int n, at1 (sa.trans sb), rfl, ?_⟩
    refine ⟨by simp, fun a3 Hc sc na3 lc => ?_⟩
    refine ⟨1, rfl, ?_⟩
    refine ⟨by simp, fun a4 Hd sd na4 ld => ?_⟩
    refine ⟨by simp, fun a5 He se na5 le => ?_⟩
    refine ⟨by simp, fun a6 Hf sf na6 lf => ?_⟩
    refine ⟨by simp, fun a7 Hg sg na7 lg => ?_⟩
    refine ⟨by simp, fun a8 Hh sh na8 lh => ?_⟩
    intro D nD
    have si : Same Hh (upd Hh D (.dK [])) := (Same.refl _).new nD
    have li : upd Hh D (.dK []) D = some (.dK []) := upd_same
    generalize upd Hh D (.dK []) = Hi at si li
    refine ⟨by simp, fun F1 Hj sj nF lF => ?_⟩
    have s8 : Same H1 Hh := sa.trans (sb.trans (sc.trans (sd.trans (se.trans (sf.trans (sg.trans sh))))))
    have s1j : Same H1 Hj := s8.trans (si.trans sj)
    refine ⟨by simp, fun b1 Hk sk nb1 lb1 => ?_⟩
    refine .inr ⟨_, .int n, at1 (s1j.trans sk), rfl, ?_⟩
    refine ⟨by simp, fun b2 Hl sl nb2 lb2 => ?_⟩
    refine ⟨by simp, fun b3 Hm sm nb3 lb3 => ?_⟩
    refine ⟨by simp, fun b4 Hn sn nb4 lb4 => ?_⟩
    refine ⟨by simp, fun F2 Ho so nF2 lF2 => ?_⟩
    have skn : Same Hj Hn := sk.trans (sl.trans (sm.trans sn))
    refine .inl ⟨_, _, (skn.trans so) _ _ lF, lF2, by simp, fun L Hp' sp nL lL => ?_⟩
    have sjp : Same Hj Hp' := skn.trans (so.trans sp)
    have s1p : Same H1 Hp' := s1j.trans sjp
    have off : ∀ {b : Addr} {H' : Hp}, Same H1 H' → H' b = none → b ≠ p := fun s n => (dc1.same s).ne n
    have put : ∀ {b : Addr} {o : HO} {H' : Hp}, b ≠ p → Same H' Hp' → H' b = some o → hide [p] Hp' b = some o := fun hb s e => hid_of hb (s _ _ e)
    have pa1 := off (Same.refl _) na1
    have pa2 := off sa na2
    have pa3 := off (sa.trans sb) na3
    have pa4 := off (sa.trans (sb.trans sc)) na4
    have pa5 := off (sa.trans (sb.trans (sc.trans sd))) na5
    have pa6 := off (sa.trans (sb.trans (sc.trans (sd.trans se)))) na6
    have pa7 := off (sa.trans (sb.trans (sc.trans (sd.trans (se.trans sf))))) na7
    have pa8 := off (sa.trans (sb.trans (sc.trans (sd.trans (se.trans (sf.trans sg)))))) na8
    have pD := off s8 nD
    have pb1 := off s1j nb1
    have pb2 := off (s1j.trans sk) nb2
    have pb3 := off (s1j.trans (sk.trans sl)) nb3
    have pb4 := off (s1j.trans (sk.trans (sl.trans sm))) nb4
    have pL := off (s1j.trans (skn.trans so)) nL
    have fi := si.trans (sj.trans sjp)
    refine q L _ k Hp' (nx1.trans (Nxt.of s1p)) (dc1.same s1p) pL lL ?_
    have c : ∀ {b : Addr} {xs : List V} {H' : Hp}, b ≠ p → Same H' Hp' → H' b = some (.tup xs) → SqT K (hide [p] Hp') b xs := fun hb s e => SqT.of (put hb s e)
    exact .cons (.lst (SqL.of (put pa1 (sb.trans (sc.trans (sd.trans (se.trans (sf.trans (sg.trans (sh.trans fi))))))) la)) (.cons (.int _) .nil))
      (.cons (.tup (c pa2 (sc.trans (sd.trans (se.trans (sf.trans (sg.trans (sh.trans fi)))))) lb) (.cons (.int _) (.cons (.int _) .nil)))
      (.cons (.tup (c pa3 (sd.trans (se.trans (sf.trans (sg.trans (sh.trans fi))))) lc) (.cons (.int _) .nil))
      (.cons (.tup (c pa4 (se.trans (sf.trans (sg.trans (sh.trans fi)))) ld) (.cons (.int _) .nil))
      (.cons (.tup (c pa5 (sf.trans (sg.trans (sh.trans fi))) le) (.cons (.int _) (.cons .non .nil)))
      (.cons (.tup (c pa6 (sg.trans (sh.trans fi)) lf) (.cons (.bl _) .nil))
      (.cons (.tup (c pa7 (sh.trans fi) lg) (.cons (.bl _) .nil))
      (.cons (.tup (c pa8 fi lh) (.cons (.str _) .nil))
      (.cons .non (.cons (.int _) (.cons (.emp (put pD (sj.trans sjp) li))
      (.cons (.str _) (.cons (.lst (SqL.of (put pb1 (sl.trans (sm.trans (sn.trans (so.trans sp)))) lb1)) .nil)
      (.cons (.tup (c pb2 (sm.trans (sn.trans (so.trans sp))) lb2) (.cons (.int _) (.cons (.int _) .nil)))
      (.cons (.tup (c pb4 (so.trans sp) lb4) (.cons (.tup (c pb3 (sn.trans (so.trans sp)) lb3) (.cons (.int _) .nil)) .nil)) .nil))))))))))))))
end
end K11

set_option Elab.async false
set_option linter.all false
set_option maxRecDepth 100000
set_option maxHeartbeats 4000000
namespace K11
open PySem L2 PySem.KX StX
/-- the try's body, from what is wanted of an exception -/
abbrev tTry (K : PySem.W.Frag) (cI f1 f2 : Addr) (W : WX) : TS := tSeq (tDrop fun σ H Q => (σ[1]? = some (some (.ref f1)) ∧ tCallSD (spJudge K cI id) [.bl false] (WE W) (tCons (aVar 0) (tCons (tTupS tNil) tNil)) σ H Q) ∨ (σ[1]? = some (some (.ref f2)) ∧ tCallSD (spJudge K cI (List.map flipR)) [.bl false] (WE W) (tCons (aVar 0) (tCons (tTupS tNil) tNil)) σ H Q)) (tRet (tC (.bl false)))
section
variable {P : Program} {w : World} {K : PySem.W.Frag} {mg : Str → Option Value} {base : Heap}
def spRef (K : PySem.W.Frag) : Sp := fun vs H Q _ => ∃ (v : V) (d : PyData), vs = [v] ∧ Wd K H v d ∧ netD d = false ∧ ∀ H', Same H H' → Q (.bl true) H'
theorem ok_law_refused {f cI : Addr} {fd : FuncData} (F : Fun K "_law_refused" "_law_refused" s_law_refused f fd) (gI : mg "InvalidNet" = some (.ref cI)) (eII : PySem.W.exmOne K (.ref cI) (.ref cI) = some true)
    (O_s : OwnD P w K mg base (L2.CX P w) "is_siphon" 7 ["net", "value", "closed"] 2 ["closed"] [.bl false] (spJudge K cI id)) (O_t : OwnD P w K mg base (L2.CX P w) "is_trap" 7 ["net", "value", "closed"] 2 ["closed"] [.bl false] (spJudge K cI (List.map flipR))) : FnG P w K mg base CX0 8 f fd ["net"] (spRef K) := by
  have nd := sc_law_refused.nd
  obtain ⟨f1, fd1, F1, m1, k1, b1, _⟩ := O_s.ex
  obtain ⟨f2, fd2, F2, m2, k2, b2, _⟩ := O_t.ex
  refine okG F sc_law_refused (fun vs H Q E h => ?_) (fun cdv A outer s H vs Q E hr h => ?_)
  · obtain ⟨_, _, rfl, _⟩ := h
    rfl
  · obtain ⟨v, d, rfl, hd, hn, q⟩ := h
    refine ⟨_, (pss_cons (ps_for PassesOwn.never rfl (pi_list (pe_lstS (pa_cons (pe_gref m1) (pa_cons (pe_gref m2) pa_nil)))) (pg_name (i := 1) nd rfl (Or.inl rfl)) (pss_one (ps_try_only (Wout := fun _ _ _ _ => False) (tb := tTry K cI f1 f2) rfl rfl ⟨rfl, by decide, .inl gI⟩ takes0
      (fun W pn xe tk _ => pss_cons (ps_expr (pe_callVS (i := 1) F1 F2 hr rfl (Or.inl rfl) k1 k2 b1 b2 tk (pa_cons (av 0) (pa_cons (pe_tupS pa_nil) pa_nil)))) (pss_one (ps_ret pe_bl)))
      (fun a oe cls d pn hz hf => pss_one ps_pass))))
      (pss_one (ps_ret pe_bl))), ?_⟩
    refine ⟨by simp, fun L H1 s1 n1 l1 => ?_⟩
    refine ⟨L, rfl, ⟨_, SqL.of l1⟩, ?_⟩
    refine for_it (g := gName 1) (tb := fun D σ H => tTry K cI f1 f2 (wOnly K (.ref cI) (fun _ _ _ => tNext) (fun _ _ _ _ => False) D) D σ H) (walk_list (xs := [.ref f1, .ref f2])) (fun _ σ H' => (∃ o, σ = [some v, o]) ∧ Same H1 H') ⟨⟨_, rfl⟩, Same.refl _⟩ (fun _ _ H' _ ⟨_, s⟩ => s.sqL (SqL.of l1)) ?_ ?_
    · rintro i x σ H2 H3 hi ⟨⟨o, rfl⟩, s2⟩ ⟨rfl, hx⟩
      have hx3 := List.mem_of_getElem? hx
      simp only [List.mem_cons, List.not_mem_nil, or_false] at hx3
      have s12 := s1.trans s2
      rcases hx3 with rfl | rfl
      · refine .inl ⟨rfl, ?_⟩
        refine ⟨by simp, fun a H4 s4 n4 l4 => ?_⟩
        refine ⟨v, .ref a, false, d, .tuple [], rfl, hd.same (s12.trans s4), ⟨.tup (SqT.of l4) .nil, by decide +kernel⟩, .inr ⟨hn, fun H5 s5 => ?_⟩⟩
        refine ⟨true, eII, fun _ a na => ?_, fun z => nomatch z⟩
        exact ⟨⟨_, rfl⟩, s2.trans (s4.trans s5)⟩
      · refine .inr ⟨rfl, ?_⟩
        refine ⟨by simp, fun a H4 s4 n4 l4 => ?_⟩
        refine ⟨v, .ref a, false, d, .tuple [], rfl, hd.same (s12.trans s4), ⟨.tup (SqT.of l4) .nil, by decide +kernel⟩, .inr ⟨hn, fun H5 s5 => ?_⟩⟩
        refine ⟨true, eII, fun _ a na => ?_, fun z => nomatch z⟩
        exact ⟨⟨_, rfl⟩, s2.trans (s4.trans s5)⟩
    · rintro σ H2 ⟨⟨o, rfl⟩, s2⟩
      exact q H2 (s1.trans s2)
end
end K11

set_option Elab.async false
set_option linter.all false
set_option maxRecDepth 100000
set_option maxHeartbeats 4000000
namespace K11
open PySem L2 PySem.KX StX
abbrev N_wi : List Str := ["dice", "total", "found", "name", "sides", "side", "some"]
abbrev s_law_wild : Stmt := top 37
theorem sc_law_wild : FnScope N_wi ["dice"] (defScope s_law_wild) := ⟨rfl, rfl, rfl, by decide +kernel, rfl, by decide +kernel, by decide +kernel⟩
theorem cut_first {xs : List V} {j : Nat} : cutV xs none (some (j : Int)) = xs.take j := by
  unfold cutV
  rw [HT.sIx_none, HT.sIx_nat, List.drop_zero, Nat.sub_zero]
  rcases Nat.le_total j xs.length with h | h
  · rw [Nat.min_eq_left h]
  · rw [Nat.min_eq_right h, List.take_of_length_le (Nat.le_refl _), List.take_of_length_le h]
theorem rg_nodup (n : Int) : (((List.range n.toNat).map fun i : Nat => (i : Int))).Nodup := by
  refine List.Pairwise.map _ ?_ List.nodup_range
  intro a b h e
  exact h (by omega)
def ivV : V → Int
  | .int i => i
  | _ => 0
theorem iv_ints : ∀ ns : List Int, (ns.map V.int).map ivV = ns
  | [] => rfl
  | n :: r => by rw [List.map_cons, List.map_cons, iv_ints r]; rfl
/-- some of the places, sorted: a good side -/
theorem good_side {n : Int} {ys : List V} {j : Nat} {ns ms : List Int} (hp : ys.Perm (rgV 0 n)) (hj : 1 ≤ j) (hn : 2 ≤ n) (e : ys.take j = ns.map V.int) (pm : ms.Perm ns) (asc : ms.Pairwise (· ≤ ·)) : GoodI n ms := by
  have hrg : rgV 0 n = ((List.range n.toNat).map fun i : Nat => (i : Int)).map V.int := by
    unfold rgV
    rw [List.map_map]
    simp
  obtain ⟨zs, hz⟩ : ∃ zs : List Int, ys = zs.map V.int := by
    have : ∀ v ∈ ys, ∃ k : Int, v = .int k := fun v hv => by
      have := hp.mem_iff.mp hv
      rw [hrg] at this
      obtain ⟨k, _, rfl⟩ := List.mem_map.mp this
      exact ⟨k, rfl⟩
    clear e hp
    induction ys with
    | nil => exact ⟨[], rfl⟩
    | cons v r ih =>
      obtain ⟨k, rfl⟩ := this v List.mem_cons_self
      obtain ⟨zs, rfl⟩ := ih fun u hu => this u (List.mem_cons_of_mem _ hu)
      exact ⟨k :: zs, rfl⟩
  have inj2 : ∀ as bs : List Int, as.map V.int = bs.map V.int → as = bs := fun as bs h => by
    rw [← iv_ints as, h, iv_ints]
  subst hz
  rw [← List.map_take] at e
  have en := inj2 _ _ e
  have hl : zs.length = n.toNat := by
    have := hp.length_eq
    rw [List.length_map, rgV_length] at this
    omega
  have pz : zs.Perm ((List.range n.toNat).map fun i : Nat => (i : Int)) := by
    rw [hrg] at hp
    have := hp.map ivV
    rw [iv_ints, iv_ints] at this
    exact this
  have nz : zs.Nodup := pz.nodup_iff.mpr (rg_nodup n)
  have nms : ms.Nodup := pm.nodup_iff.mpr (en ▸ (List.take_sublist _ _).nodup nz)
  refine ⟨fun z => ?_, ?_, fun k hk => ?_⟩
  · subst z
    have := pm.length_eq
    rw [← en, List.length_take] at this
    simp at this
    omega
  · exact List.Pairwise.imp₂ (fun a b h1 h2 => by have : a ≠ b := h2; omega) asc nms
  · have h1 := pm.mem_iff.mp hk
    rw [← en] at h1
    have h2 := pz.mem_iff.mp (List.mem_of_mem_take h1)
    obtain ⟨i, hi, rfl⟩ := List.mem_map.mp h2
    have := List.mem_range.mp hi
    omega
end K11

set_option Elab.async false
set_option linter.all false
set_option maxRecDepth 100000
set_option maxHeartbeats 4000000
namespace K11
open PySem L2 PySem.KX StX
section
variable {P : Program} {w : World} {K : PySem.W.Frag} {mg : Str → Option Value} {base : Heap}
def spSmall (K : PySem.W.Frag) (c e : Int) : Sp := fun vs H Q _ => ∃ (p : Addr) (m : Int), vs = [.ref p] ∧ Dc p m H ∧ m + e < 2 ^ 30 ∧
  ∀ (n : Int) (rows : List RowN) (v : Addr) (ts : List V) (H' : Hp), GoodN n rows → n ≤ 7 → Nxt p H H' → Dc p (m + c) H' → Dq K (hide [p] H') (.ref v) (netOf n rows) → H' v = some (.tup ts) → Q (.ref v) H'
theorem ok_law_wild {f : Addr} {fd : FuncData} (F : Fun K "_law_wild" "_law_wild" s_law_wild f fd) (T : TxtA mg) (S : TxtS mg) (TX : TxtX mg) (hmin : mg "min" = none) (O_roll : Own P w K mg base CX0 "_law_roll" 1 ["dice", "total"] spRollD) (O_words : Own P w K mg base CX0 "_law_words" 2 ["dice", "total"] spWords) (O_mixed : Own P w K mg base CX0 "_law_mixed" 2 ["dice", "items"] (spMixD K)) :
    FnG P w K mg base CX0 3 f fd ["dice"] (spSmall K 1000 20000) := by
  have nd := sc_law_wild.nd
  refine okG F sc_law_wild (fun vs H Q E h => ?_) (fun cdv A outer s H vs Q E hr h => ?_)
  · obtain ⟨_, _, rfl, _⟩ := h
    rfl
  · obtain ⟨p, m, rfl, hp, hm, k⟩ := h
    refine ⟨_, (pss_cons (ps_par (i := 1) (j := 2) (by rfl) nd rfl rfl (by decide) rfl rfl (pa_cons (pe_op op_addA pe_int (pe_own O_roll hr (pa_cons (av 0) (pa_cons pe_int pa_nil)) (by decide))) (pa_cons (pe_lstS pa_nil) pa_nil)) (by rfl))
      (pss_cons (ps_for PassesOwn.never rfl (pi_list (pe_own O_words hr (pa_cons (av 0) (pa_cons (pe_op op_addA pe_int (pe_own O_roll hr (pa_cons (av 0) (pa_cons pe_int pa_nil)) (by decide))) pa_nil)) (by decide))) (pg_name (i := 3) nd rfl (Or.inl rfl)) (pss_cons (ps_set (i := 4) nd rfl (Or.inl rfl) (pe_lstS pa_nil))
      (pss_cons (ps_for PassesOwn.never rfl (pi_range1 (by rfl) TX.range (pa_cons pe_int pa_nil)) (pg_name (i := 5) nd rfl (Or.inl rfl)) (pss_cons (ps_set (i := 6) nd rfl (Or.inl rfl) (pe_callB cr_sorted (by rfl) S.sorted (by decide +kernel) (pa_cons (pe_slice sl_listS (pe_own O_mixed hr (pa_cons (av 0) (pa_cons (pe_listRg rfl (by rfl) TX.list (prg_1 (by rfl) TX.range (av 1))) pa_nil)) (by decide)) po_none (po_some (pe_op op_addA pe_int (pe_own O_roll hr (pa_cons (av 0) (pa_cons (pe_callB (call_minA rfl) (by rfl) hmin (by decide +kernel) (pa_cons pe_int (pa_cons (av 1) pa_nil))) pa_nil)) (by decide))))) pa_nil)))
      (pss_one (ps_expr (pe_appS (av 4) (pe_callTy call_tupLS (by rfl) T.tuple (by decide +kernel) (pa_cons (av 6) pa_nil)))))))
      (pss_one (ps_expr (pe_appS (av 2) (pe_tupS (pa_cons (av 3) (pa_cons (pe_ixA (av 4) pe_int) (pa_cons (pe_ixA (av 4) pe_int) pa_nil))))))))))
      (pss_one (ps_ret (pe_tupS (pa_cons (av 1) (pa_cons (pe_callTy call_tupLS (by rfl) T.tuple (by decide +kernel) (pa_cons (pe_callB (call_sortedQ hr.units64) (by rfl) S.sorted (by decide +kernel) (pa_cons (av 2) pa_nil)) pa_nil)) pa_nil))))))), ?_⟩
    refine ⟨p, m, 6, rfl, hp, by omega, by decide, by decide, fun r H1 r0 r1 dc1 e1 => ?_⟩
    have nx1 : Nxt p H H1 := Nxt.of_eq e1
    refine ⟨by simp, fun R H2 s2 n2 l2 => ?_⟩
    have hRp : R ≠ p := dc1.ne n2
    have dc2 := dc1.same s2
    have nx2 := nx1.trans (Nxt.of s2)
    have nR : H R = none := nx1.free hRp n2
    refine ⟨_, _, rfl, ?_⟩
    refine ⟨p, _, _, rfl, dc2, by omega, by decide, by decide, fun r2 H3 r20 r21 dc3 e3 => ?_⟩
    obtain ⟨j, rfl⟩ : ∃ j : Nat, r2 = (j : Int) := ⟨r2.toNat, by omega⟩
    have nx3 := nx2.trans (Nxt.of_eq e3)
    have l3 : H3 R = some (.lst []) := (e3 R hRp).trans l2
    refine ⟨p, _, 1 + j, by rw [show (1 + (j : Int)) = ((1 + j : Nat) : Int) by omega]; rfl, dc3, by omega, by omega, fun fs W H7 hfl hfn hfw nx7 dc7 nW lW => ?_⟩
    have hWp : W ≠ p := dc3.ne nW
    have nx07 := nx3.trans nx7
    have hR7 : H7 R = some (.lst []) := nx7.get hRp l3
    have hWR : W ≠ R := fun z => by rw [z, l3] at nW; cases nW
    refine ⟨W, rfl, ⟨_, SqL.of lW⟩, ?_⟩
    refine for_list (K := K) (a := W) (xs := fs.map V.str) (fun i σ H' => ∃ (raw : List RowN) (acc : List V) (o3 o4 o5 o6 : Option V), σ = [some (.ref p), some (.int (2 + r)), some (.ref R), o3, o4, o5, o6] ∧ H' R = some (.lst acc) ∧ DqAll K (hide [R, p] H') acc (raw.map rowD) ∧ raw.map (·.1) = fs.take i ∧ (∀ q ∈ raw, GoodR (2 + r) q) ∧ (∀ b o, b ≠ p → b ≠ R → H7 b = some o → H' b = some o) ∧ Dc p (m + 302 + 20 * i) H')
      ⟨[], [], _, _, _, _, rfl, hR7, .nil, by simp, (fun r hr => nomatch hr), fun b o _ _ e => e, dc7.mono (by omega)⟩ (fun i σ H' _ ⟨_, _, _, _, _, _, _, _, _, _, _, kp, _⟩ => SqL.of (kp W _ hWp hWR lW)) ?_ ?_
    · rintro i z σ H8 hi ⟨raw, acc, o3, o4, o5, o6, rfl, hR8, hacc, hnm, hgood, kp, dc8⟩
      obtain ⟨x, hx, rfl⟩ : ∃ x, fs[i]? = some x ∧ z = .str x := by
        rw [List.getElem?_map] at hi
        cases e : fs[i]? with
        | none => rw [e] at hi; cases hi
        | some x => rw [e] at hi; exact ⟨x, rfl, (Option.some.inj hi).symm⟩
      have hil : i < fs.length := (List.getElem?_eq_some_iff.mp hx).1
      refine ⟨by simp, fun D H9 s9 n9 l9 => ?_⟩
      have hDp : D ≠ p := dc8.ne n9
      have hDR : D ≠ R := fun z => by rw [z, hR8] at n9; cases n9
      have dc9 := dc8.same s9
      refine ⟨2, rfl, by decide, by decide, ?_⟩
      refine for_range (lo := 0) (n := (2 : Int).toNat) (fun t σ H' => ∃ (ac2 : List V) (o5 o6 : Option V), σ = [some (.ref p), some (.int (2 + r)), some (.ref R), some (.str x), some (.ref D), o5, o6] ∧ H' D = some (.lst ac2) ∧ ac2.length = t ∧ (∀ (j : Nat) (v : V), ac2[j]? = some v → ∃ (q : Addr) (ns : List Int), v = .ref q ∧ q ≠ p ∧ q ≠ D ∧ q ≠ R ∧ H' q = some (.tup (ns.map V.int)) ∧ GoodI (2 + r) ns) ∧ (∀ b o, b ≠ p → b ≠ D → H9 b = some o → H' b = some o) ∧ Dc p (m + 302 + 20 * i + 9 * t) H')
        ⟨[], _, _, rfl, l9, rfl, (fun j v e => nomatch e), (fun b o _ _ e => e), dc9.mono (by omega)⟩ ?_ ?_
      · rintro t σ H10 htt ⟨ac2, o5, o6, rfl, hD10, hl10, hq10, kp10, dc10⟩
        have ht2 : t < 2 := htt
        refine ⟨2 + r, rfl, RgOk.of_le (by omega) (by omega) (by omega) (by omega), fun q2 hq2 => ?_⟩
        have s11 : Same H10 (upd H10 q2 (.lst (rgV 0 (2 + r)))) := (Same.refl _).new hq2
        have l11 : upd H10 q2 (.lst (rgV 0 (2 + r))) q2 = some (.lst (rgV 0 (2 + r))) := upd_same
        generalize upd H10 q2 (.lst (rgV 0 (2 + r))) = H11 at s11 l11 ⊢
        have dc11 := dc10.same s11
        refine ⟨p, q2, _, _, rfl, dc11, by omega, .inl (SqL.of l11), by rw [rgV_length]; omega, fun ys q3 H12 hperm nx12 dc12 n12 l12 => ?_⟩
        have hyl : ys.length = (2 + r - 0).toNat := by rw [hperm.length_eq, rgV_length]
        rw [rgV_length] at dc12
        have hq3p : q3 ≠ p := dc11.ne n12
        refine ⟨p, _, (if 2 + r < 3 then 2 + r else 3), rfl, dc12, by omega, by split <;> omega, by split <;> omega, fun r3 H13 r30 r31 dc13 e13 => ?_⟩
        obtain ⟨j3, rfl⟩ : ∃ j3 : Nat, r3 = (j3 : Int) := ⟨r3.toNat, by omega⟩
        have l13 : H13 q3 = some (.lst ys) := (e13 q3 hq3p).trans l12
        refine ⟨_, rfl, q3, ys, rfl, SqL.of l13, fun q4 H14 s14 n14 l14 => ?_⟩
        have ecut : cutV ys none (some (1 + (j3 : Int))) = ys.take (1 + j3) := by
          rw [show (1 + (j3 : Int)) = ((1 + j3 : Nat) : Int) by omega]
          exact cut_first
        rw [ecut] at l14
        obtain ⟨ns, hns⟩ : ∃ ns : List Int, ys.take (1 + j3) = ns.map V.int := by
          refine ⟨(ys.take (1 + j3)).map ivV, ?_⟩
          have : ∀ v ∈ ys.take (1 + j3), ∃ k : Int, v = .int k := fun v hv => by
            have := hperm.mem_iff.mp (List.mem_of_mem_take hv)
            unfold rgV at this
            obtain ⟨k, _, rfl⟩ := List.mem_map.mp this
            exact ⟨_, rfl⟩
          generalize ys.take (1 + j3) = zs at this
          induction zs with
          | nil => rfl
          | cons v r ih =>
            obtain ⟨k, rfl⟩ := this v List.mem_cons_self
            rw [List.map_cons, List.map_cons, ← ih fun u hu => this u (List.mem_cons_of_mem _ hu)]
            rfl
        have hnl : ns.length ≤ 7 := by
          have := congrArg List.length hns
          simp only [List.length_take, List.length_map] at this
          omega
        rw [hns] at l14
        refine ⟨q4, ns, rfl, SqL.of l14, by omega, fun ms q5 pm asc n15 => ?_⟩
        have s15 : Same H14 (upd H14 q5 (.lst (ms.map V.int))) := (Same.refl _).new n15
        have l15 : upd H14 q5 (.lst (ms.map V.int)) q5 = some (.lst (ms.map V.int)) := upd_same
        generalize upd H14 q5 (.lst (ms.map V.int)) = H15 at s15 l15 ⊢
        have dc15 := (dc13.same s14).same s15
        have keep : ∀ b o, b ≠ p → H10 b = some o → H15 b = some o := fun b o hb e => s15 _ _ (s14 _ _ ((e13 b hb).trans (nx12.get hb (s11 _ _ e))))
        refine ⟨D, ac2, rfl, keep D _ hDp hD10, ?_⟩
        refine ⟨q5, _, rfl, SqL.of l15, fun q6 H16 s16 n16 l16 => ?_⟩
        have hq6p : q6 ≠ p := dc15.ne n16
        have hD15 := keep D _ hDp hD10
        have hq6D : q6 ≠ D := fun z => by rw [z, hD15] at n16; cases n16
        have hR10 : H10 R = some (.lst acc) := kp10 R _ hRp (Ne.symm hDR) (s9 _ _ hR8)
        have hq6R : q6 ≠ R := fun z => by rw [z, keep R _ hRp hR10] at n16; cases n16
        have gs := good_side hperm (j := 1 + j3) (by omega) (by omega) hns pm asc
        refine ⟨ac2, s16 _ _ hD15, by omega, ac2 ++ [.ref q6], _, _, rfl, upd_same, by simp [hl10], fun j v e => ?_, fun b o b1 b2 e => ?_, ?_⟩
        · by_cases hj : j < ac2.length
          · rw [List.getElem?_append_left hj] at e
            obtain ⟨q, ns', rfl, h1, hqD, hqR, h2, h3⟩ := hq10 j v e
            exact ⟨q, ns', rfl, h1, hqD, hqR, by rw [upd_ne hqD]; exact s16 _ _ (keep q _ h1 h2), h3⟩
          · rw [List.getElem?_append_right (by omega)] at e
            have e3 : j - ac2.length = 0 := by
              have := (List.getElem?_eq_some_iff.mp e).1
              simp at this
              omega
            rw [e3] at e
            cases e
            exact ⟨q6, ms, rfl, hq6p, hq6D, hq6R, by rw [upd_ne hq6D]; exact l16, gs⟩
        · rw [upd_ne b2]
          exact s16 _ _ (keep b o b1 (kp10 b o b1 b2 e))
        · refine ((dc15.same s16).upd hDp).mono ?_
          have : (2 + r - 0).toNat ≤ 7 := by omega
          omega
      · rintro σ H10 ⟨ac2, o5, o6, rfl, hD10, hl10, hq10, kp10, dc10⟩
        have hl2 : ac2.length = 2 := hl10
        have dc10' : Dc p (m + 302 + 20 * i + 18) H10 := dc10.mono (by simp)
        obtain ⟨v0, v1, rfl⟩ : ∃ v0 v1, ac2 = [v0, v1] := by
          match ac2, hl2 with
          | [v0, v1], _ => exact ⟨v0, v1, rfl⟩
        obtain ⟨q0, ns0, rfl, h01, h0D, h0R, h02, g0⟩ := hq10 0 v0 rfl
        obtain ⟨q1, ns1, rfl, h11, h1D, h1R, h12, g1⟩ := hq10 1 v1 rfl
        have kp8 : ∀ b o, b ≠ p → H8 b = some o → H10 b = some o := fun b o hb e => kp10 b o hb (ne_of_none e n9) (s9 _ _ e)
        have hR10 := kp8 R _ hRp hR8
        refine ⟨R, acc, rfl, hR10, ?_⟩
        refine .inl ⟨_, .ref q0, SqL.of hD10, rfl, ?_⟩
        refine .inl ⟨_, .ref q1, SqL.of hD10, rfl, ?_⟩
        refine ⟨by simp, fun p16 H16 s16 n16 l16 => ?_⟩
        have hal : acc.length = i := by
          have := hacc.length
          have h2 := congrArg List.length hnm
          simp only [List.length_map, List.length_take] at h2 this
          omega
        have hp16 : p16 ≠ p := dc10'.ne n16
        have hp16R : p16 ≠ R := fun z => by rw [z, hR10] at n16; cases n16
        have hid : ∀ {H' : Hp} {b : Addr} {o : HO}, b ≠ p → b ≠ R → H' b = some o → hide [R, p] H' b = some o := fun {H' b o} hb hb2 e => by
          rw [hide_in (fun z => by
            rcases List.mem_cons.mp z with y | y
            · exact hb2 y
            · exact hb (List.mem_singleton.mp y))]
          exact e
        have hrow : Dq K (hide [R, p] H16) (.ref p16) (rowD (x, ns0, ns1)) := row_dq (hid hp16 hp16R l16) (hid h01 h0R (s16 _ _ h02)) (hid h11 h1R (s16 _ _ h12))
        have s2 : Same (hide [R, p] H8) (hide [R, p] H16) := fun b o e => by
          obtain ⟨e1, e2⟩ := hide_of e
          have b1 : b ≠ p := fun z => e2 (by rw [z]; simp)
          have b2 : b ≠ R := fun z => e2 (by rw [z]; simp)
          exact hid b1 b2 (s16 _ _ (kp8 b o b1 e1))
        refine ⟨acc, s16 _ _ hR10, by omega, raw ++ [(x, ns0, ns1)], acc ++ [.ref p16], _, _, _, _, rfl, upd_same, ?_, ?_, ?_, ?_, ((dc10'.same s16).upd hRp).mono (by omega)⟩
        · rw [hide_upd, List.map_append]
          exact dqAll_snoc (DqAll.same s2 _ _ hacc) hrow
        · rw [List.map_append, hnm, List.take_add_one, hx]
          rfl
        · intro q hq
          rcases List.mem_append.mp hq with z | z
          · exact hgood q z
          · rw [List.mem_singleton.mp z]
            exact ⟨hfw x (List.mem_of_getElem? hx), g0, g1⟩
        · intro b o b1 b2 e
          rw [upd_ne b2]
          exact s16 _ _ (kp8 b o b1 (kp b o b1 b2 e))
    · rintro σ H8 ⟨raw, acc, o3, o4, o5, o6, rfl, hR8, hacc, hnm, hgood, kp, dc8⟩
      rw [List.length_map, List.take_length] at hnm
      rw [List.length_map] at dc8
      have hlr : raw.length = 1 + j := by
        have := congrArg List.length hnm
        simp only [List.length_map] at this
        omega
      have nd' : (raw.map (·.1)).Nodup := by rw [hnm]; exact hfn
      obtain ⟨rows, pm, asc, es⟩ := sort_rows nd'
      have hacc8 : DqAll K H8 acc (raw.map rowD) := DqAll.same hide_sub _ _ hacc
      have hmem : ∀ d ∈ raw.map rowD, ∃ r ∈ raw, d = rowD r := fun d hd => by
        obtain ⟨r, hr, e⟩ := List.mem_map.mp hd
        exact ⟨r, hr, e.symm⟩
      refine ⟨R, acc, raw.map rowD, rfl, SqL.of hR8, hacc8, fun d hd d' hd' => ?_, .inl fun d hd => ?_, by simp; omega, fun d hd => ?_, fun p9 H9 s9 n9 l9 => ?_⟩
      · obtain ⟨r, _, rfl⟩ := hmem d hd
        obtain ⟨r', _, rfl⟩ := hmem d' hd'
        exact alike_r r r'
      · obtain ⟨r, _, rfl⟩ := hmem d hd
        exact ⟨_, _, rfl⟩
      · obtain ⟨r, _, rfl⟩ := hmem d hd
        exact depth_row _ _ _
      · refine ⟨p9, _, rfl, SqL.of l9, fun p10 H10 s10 n10 l10 => ?_⟩
        refine ⟨by simp, fun p11 H11 s11 n11 l11 => ?_⟩
        have hn10 : p10 ≠ p := (dc8.same s9).ne n10
        have hn11 : p11 ≠ p := (dc8.same (s9.trans s10)).ne n11
        have hid : ∀ {H' : Hp} {b : Addr} {o : HO}, b ≠ p → H' b = some o → hide [p] H' b = some o := fun {H' b o} hb e => hid_of hb e
        have s811 := (s9.trans s10).trans s11
        have s2 : Same (hide [R, p] H8) (hide [p] H11) := fun b o e => by
          obtain ⟨e1, e2⟩ := hide_of e
          exact hid (fun z => e2 (by rw [z]; simp)) (s811 _ _ e1)
        have hdq := sortQ_dq (DqAll.same s2 _ _ hacc)
        rw [es] at hdq
        refine k (2 + r) rows p11 _ H11 ⟨by omega, by omega, by rw [pm.length_eq]; omega, by rw [pm.length_eq]; omega, fun r hr => hgood r (pm.mem_iff.mp hr), asc⟩ (by omega) ?_ ((dc8.same s811).mono (by omega)) ?_ l11
        · refine (nxt_of fun b o hb e => ?_ : Nxt p H H8).trans (Nxt.of s811)
          have hbR : b ≠ R := ne_of_none e nR
          exact kp b o hb hbR (nx07.get hb e)
        · exact .tup (SqT.of (hid hn11 l11)) (.cons (.int _) (.cons (.tup (SqT.of (hid hn10 (s11 _ _ l10))) hdq) .nil))
end
end K11

set_option Elab.async false
set_option linter.all false
set_option maxRecDepth 100000
set_option maxHeartbeats 4000000
namespace K11
open PySem L2 PySem.KX StX
abbrev s_law_case : Stmt := top 38
theorem sc_law_case : FnScope ["dice", "way", "grown"] ["dice"] (defScope s_law_case) := ⟨rfl, rfl, rfl, by decide +kernel, rfl, by decide +kernel, by decide +kernel⟩
abbrev s_law_small : Stmt := top 40
theorem sc_law_small : FnScope ["dice", "turn", "net"] ["dice"] (defScope s_law_small) := ⟨rfl, rfl, rfl, by decide +kernel, rfl, by decide +kernel, by decide +kernel⟩
section
variable {P : Program} {w : World} {K : PySem.W.Frag} {mg : Str → Option Value} {base : Heap}
def spCase (K : PySem.W.Frag) : Sp := fun vs H Q _ => ∃ (p : Addr) (m : Int), vs = [.ref p] ∧ Dc p m H ∧ m + 50000 < 2 ^ 30 ∧
  ∀ (n : Int) (rows : List RowN) (v : Addr) (ts : List V) (H' : Hp), GoodN n rows → Nxt p H H' → Dc p (m + 3000) H' → Dq K (hide [p] H') (.ref v) (netOf n rows) → H' v = some (.tup ts) → Q (.ref v) H'
theorem ok_law_case {f : Addr} {fd : FuncData} (F : Fun K "_law_case" "_law_case" s_law_case f fd) (O_roll : Own P w K mg base CX0 "_law_roll" 1 ["dice", "total"] spRollD) (O_wild : Own P w K mg base CX0 "_law_wild" 3 ["dice"] (spSmall K 1000 20000)) (O_grown : Own P w K mg base CX0 "_law_grown" 3 ["dice", "turns"] spGrown)
    (O_spoilt : Own P w K mg base CX0 "_law_spoilt" 3 ["dice", "grown"] spSpoilt) (O_fit : Own P w K mg base CX0 "_law_fitting" 1 ["grown"] spFit) (O_net : Own P w K mg base CX0 "_law_net" 3 ["dice", "grown"] (spNet K)) : FnG P w K mg base CX0 4 f fd ["dice"] (spCase K) := by
  have nd := sc_law_case.nd
  refine okG F sc_law_case (fun vs H Q E h => ?_) (fun cdv A outer s H vs Q E hr h => ?_)
  · obtain ⟨_, _, rfl, _⟩ := h
    rfl
  · obtain ⟨p, m, rfl, hp, hm, k⟩ := h
    refine ⟨_, (pss_cons (ps_set (i := 1) nd rfl (Or.inl rfl) (pe_own O_roll hr (pa_cons (av 0) (pa_cons pe_int pa_nil)) (by decide)))
      (pss_cons (ps_if (pt_cmpA (op_eqA hr.units64) (av 1) pe_int) (pss_one (ps_ret (pe_own O_wild hr (pa_cons (av 0) pa_nil) (by decide)))) pss_nil)
      (pss_cons (ps_set (i := 2) nd rfl (Or.inl rfl) (pe_own O_grown hr (pa_cons (av 0) (pa_cons (pe_op op_addA pe_int (pe_own O_roll hr (pa_cons (av 0) (pa_cons pe_int pa_nil)) (by decide))) pa_nil)) (by decide)))
      (pss_cut (ps_if (pt_cmpA (op_eqA hr.units64) (av 1) pe_int) (pss_one (ps_set (i := 2) nd rfl (Or.inl rfl) (pe_own O_spoilt hr (pa_cons (av 0) (pa_cons (av 2) pa_nil)) (by decide)))) pss_nil)
      (pss_one (ps_ret (pe_ifExp (pt_valA (pe_own O_fit hr (pa_cons (av 2) pa_nil) (by decide))) (pe_own O_net hr (pa_cons (av 0) (pa_cons (av 2) pa_nil)) (by decide)) (pe_own O_wild hr (pa_cons (av 0) pa_nil) (by decide))))))))), ?_⟩
    have wild : ∀ {m' : Int} {H1 : Hp}, Nxt p H H1 → Dc p m' H1 → m' ≤ m + 1000 → spSmall K 1000 20000 [.ref p] H1 Q E0 := fun {m' H1} nx dc hm' =>
      ⟨p, _, rfl, dc, by omega, fun n rows v ts H' hg _ nx' dc' dq l => k n rows v ts H' hg (nx.trans nx') (dc'.mono (by omega)) dq l⟩
    refine ⟨p, m, 3, rfl, hp, by omega, by decide, by decide, fun r H1 r0 r1 dc1 e1 => ?_⟩
    have nx1 : Nxt p H H1 := Nxt.of_eq e1
    refine ite2 (fun c => ?_) (fun c => ?_)
    · exact wild nx1 dc1 (by omega)
    refine ⟨p, _, 7, rfl, dc1, by omega, by decide, by decide, fun r2 H2 r20 r21 dc2 e2 => ?_⟩
    obtain ⟨j, rfl⟩ : ∃ j : Nat, r2 = (j : Int) := ⟨r2.toNat, by omega⟩
    have nx2 := nx1.trans (Nxt.of_eq e2)
    refine ⟨p, _, 2 + j, by rw [show (2 + (j : Int)) = ((2 + j : Nat) : Int) by omega]; rfl, dc2, by omega, by omega, fun G n xs H3 nx3 dc3 g3 hn3 hl3 hb3 => ?_⟩
    have nx03 := nx2.trans nx3
    have hn34 : n ≤ 34 := by omega
    have hl25 : xs.length ≤ 25 := by omega
    refine ⟨fun σ H' => ∃ (G : Addr) (M : Nat) (ys : List V), σ = [some (.ref p), some (.int r), some (.ref G)] ∧ GrA p M H' G n ys ∧ M ≤ 3000 ∧ ys.length = xs.length ∧ Nxt p H H' ∧ Dc p (m + 200) H', ?_, ?_⟩
    · refine ite2 (fun c1 => ?_) (fun c1 => ?_)
      · refine ⟨p, G, _, _, n, xs, rfl, dc3, by omega, g3, by omega, hn34, by omega, fun G' ys H4 nx4 dc4 g4 hl4 => ?_⟩
        exact ⟨G', _, ys, rfl, g4, by omega, hl4, nx03.trans nx4, dc4.mono (by omega)⟩
      · exact ⟨G, _, xs, rfl, g3, by omega, rfl, nx03, dc3.mono (by omega)⟩
    · rintro σ H4 ⟨G', M, ys, rfl, g4, hM, hl4, nx4, dc4⟩
      refine ⟨p, G', M, n, ys, rfl, g4, ?_⟩
      refine ite2 (fun cf => ?_) (fun cf => ?_)
      · have cf2 := of_decide_eq_true cf
        refine ⟨p, G', _, M, n, ys, rfl, dc4, by omega, g4, by omega, by omega, by omega, fun rows v ts H5 hg nx5 dc5 dq5 l5 => ?_⟩
        exact k n rows v ts H5 hg (nx4.trans nx5) (dc5.mono (by omega)) dq5 l5
      · exact wild nx4 dc4 (by omega)
theorem ok_law_small {f : Addr} {fd : FuncData} (F : Fun K "_law_small" "_law_small" s_law_small f fd) (hrange : mg "range" = none) (O_case : Own P w K mg base CX0 "_law_case" 4 ["dice"] (spCase K)) (O_wild : Own P w K mg base CX0 "_law_wild" 3 ["dice"] (spSmall K 1000 20000)) : FnG P w K mg base CX0 5 f fd ["dice"] (spSmall K 20000 100000) := by
  have nd := sc_law_small.nd
  refine okG F sc_law_small (fun vs H Q E h => ?_) (fun cdv A outer s H vs Q E hr h => ?_)
  · obtain ⟨_, _, rfl, _⟩ := h
    rfl
  · obtain ⟨p, m, rfl, hp, hm, k⟩ := h
    refine ⟨_, (pss_cons (ps_for PassesOwn.never rfl (pi_range1 (by rfl) hrange (pa_cons pe_int pa_nil)) (pg_name (i := 1) nd rfl (Or.inl rfl)) (pss_cons (ps_set (i := 2) nd rfl (Or.inl rfl) (pe_own O_case hr (pa_cons (av 0) pa_nil) (by decide)))
      (pss_one (ps_if (pt_cmpA op_ltA (pe_ixA (av 2) pe_int) pe_int) (pss_one (ps_ret (av 2))) pss_nil))))
      (pss_one (ps_ret (pe_own O_wild hr (pa_cons (av 0) pa_nil) (by decide))))), ?_⟩
    refine ⟨6, rfl, by decide, by decide, for_range (lo := 0) (n := (6 : Int).toNat) (fun i σ H' => (∃ o1 o2 : Option V, σ = [some (.ref p), o1, o2]) ∧ Nxt p H H' ∧ Dc p (m + 3000 * i) H') ⟨⟨_, _, rfl⟩, Nxt.refl, hp.mono (by omega)⟩ ?_ ?_⟩
    · rintro i σ H1 hi ⟨⟨o1, o2, rfl⟩, nx1, dc1⟩
      have hi6 : i < 6 := hi
      refine ⟨p, _, rfl, dc1, by omega, fun n rows v ts H2 hg nx2 dc2 dq2 l2 => ?_⟩
      have nx12 := nx1.trans nx2
      obtain ⟨na, S, xs, e, hna, hS, hx⟩ := net_at (Dq.same hide_sub _ _ dq2)
      cases e
      refine .inr ⟨_, .int n, hna, rfl, ?_⟩
      refine ite2 (fun c => ?_) (fun c => ?_)
      · have c2 := of_decide_eq_true c
        exact k n rows v ts H2 hg (by omega) nx12 (dc2.mono (by omega)) dq2 l2
      · exact ⟨⟨_, _, rfl⟩, nx12, dc2.mono (by omega)⟩
    · rintro σ H1 ⟨⟨o1, o2, rfl⟩, nx1, dc1⟩
      refine ⟨p, _, rfl, dc1.mono (show m + 3000 * ((6 : Int).toNat : Int) ≤ m + 18000 by have : ((6 : Int).toNat : Int) = 6 := rfl; omega), by omega, fun n rows v ts H2 hg h7 nx2 dc2 dq2 l2 => ?_⟩
      exact k n rows v ts H2 hg h7 (nx1.trans nx2) (dc2.mono (by omega)) dq2 l2
end
end K11

set_option Elab.async false
set_option linter.all false
set_option maxRecDepth 100000
set_option maxHeartbeats 4000000
namespace K11
open PySem L2 PySem.KX StX
abbrev N_lw : List Str := ["script", "at", "dice", "net", "is_closed", "steps", "places", "due", "value"]
abbrev slaw : Stmt := top 47
theorem sclaw : FnScope N_lw ["script"] (defScope slaw) := ⟨rfl, rfl, rfl, by decide +kernel, rfl, by decide +kernel, by decide +kernel⟩
theorem bools_show (x y : Bool) : (PyData.tuple [.bool x, .bool y]).hasDict = false ∧ (PyData.tuple [.bool x, .bool y]).showable = true ∧ (PyData.tuple [.bool x, .bool y]).depth ≤ 60 ∧ (PyData.tuple [.bool x, .bool y]).shown.length ≤ sizeLine := by
  refine ⟨by simp [PyData.hasDict, PyData.hasDictAll], by simp [PyData.showable, PyData.showableAll], by simp [PyData.depth, PyData.depthAll], ?_⟩
  rw [sizeLine_eq]
  refine Nat.le_trans (?_ : _ ≤ 100) (by decide)
  cases x <;> cases y <;> decide +kernel
theorem bools_dp {K : PySem.W.Frag} {H : Hp} {a : Addr} {x y : Bool} (h : H a = some (.tup [.bl x, .bl y])) : Dq K H (.ref a) (.tuple [.bool x, .bool y]) := .tup (SqT.of h) (.cons (.bl _) (.cons (.bl _) .nil))
/-- of a row of places the program says what the law reads -/
theorem told_is {n : Int} {rows : List RowN} {ps : List Int} (hn : n ≤ 30) (h : AscI n ps) (b : Bool) : sipD n (id (stepsOf rows b)) (tupI ps) = keepsB (stepsOf rows b) ps true ∧ sipD n ((stepsOf rows b).map flipR) (tupI ps) = keepsB (stepsOf rows b) ps false := by
  have hp : placesD n (tupI ps) = true := by
    have e3 : placesD n (tupI ps) = ((ps.map PyData.int).all (intIn 0 (n - 1)) && ascD (ps.map PyData.int)) := rfl
    rw [e3, Bool.and_eq_true]
    refine ⟨List.all_eq_true.mpr fun d hd => ?_, (asc_ints ps).mpr h.1⟩
    obtain ⟨k, hk, rfl⟩ := List.mem_map.mp hd
    have := h.2 k hk
    have e4 : intIn 0 (n - 1) (.int k) = (decide (0 ≤ k) && decide (k ≤ n - 1)) := rfl
    rw [e4, Bool.and_eq_true, decide_eq_true_eq, decide_eq_true_eq]
    omega
  have e : ∀ rr : List RowN, sipD n rr (tupI ps) = decide (passL rr ps = ps) := fun rr => by
    unfold sipD
    rw [hp, Bool.true_and]
    show decide (passL rr ((ps.map PyData.int).map intOf) = (ps.map PyData.int).map intOf) = _
    rw [intOf_ints]
  rw [e, e, keeps_sip, keeps_trap]
  exact ⟨rfl, rfl⟩
theorem no_places {n : Int} {rr : List RowN} {e : PyData} (h : placesD n e = false) : sipD n rr e = false := by
  unfold sipD
  rw [h]
  rfl
theorem smq_all : ∀ ps : List Int, smQAll (ps.map PyData.int) = true
  | [] => rfl
  | k :: r => by
    rw [List.map_cons]
    simp only [smQAll, smQ, smq_all r, Bool.and_self]
theorem smq_ints {ps : List Int} (h : ps.length ≤ 100000) : smQ (tupI ps) = true := by
  unfold tupI
  simp only [smQ, smq_all, Bool.and_true, decide_eq_true_eq, List.length_map]
  exact h
def wrongD (n : Int) (rows : List RowN) : List PyData := [.none, .tuple [], .tuple (rows.map rowD), .list [.int n, .tuple (rows.map rowD)], .tuple [.int n, .tuple []], .tuple [.bool true, .tuple (rows.map rowD)]]
theorem wrong_no {n : Int} {rows : List RowN} (hg : GoodN n rows) (d : PyData) (h : d ∈ wrongD n rows) : netD d = false ∧ smQ d = true := by
  have sn := (nc_net hg).sm
  have sr : smQ (.tuple (rows.map rowD)) = true := by
    have : smQ (.tuple [.int n, .tuple (rows.map rowD)]) = true := sn
    simp only [smQ, smQAll, Bool.and_eq_true] at this ⊢
    exact this.2.2.1
  have sr2 := sr
  simp only [smQ, Bool.and_eq_true, decide_eq_true_eq] at sr2
  simp only [wrongD, List.mem_cons, List.not_mem_nil, or_false] at h
  rcases h with rfl | rfl | rfl | rfl | rfl | rfl
  · exact ⟨rfl, rfl⟩
  · exact ⟨rfl, by decide +kernel⟩
  · refine ⟨?_, sr⟩
    by_cases h2 : (rows.map rowD).length = 2
    · obtain ⟨a, b, e⟩ := len2 h2
      rw [e]
      cases hr : rows with
      | nil => rw [hr] at e; cases e
      | cons r l =>
        rw [hr, List.map_cons] at e
        injection e with e1 e2
        rw [← e1]
        cases b <;> rfl
    · exact net2 h2
  · refine ⟨rfl, ?_⟩
    have := hg.few
    simp [smQ, smQAll, sr2]
    omega
  · refine ⟨?_, by simp [smQ, smQAll]⟩
    show ((decide (2 ≤ n) && decide (n ≤ 30)) && ((decide (1 ≤ 0) && decide (0 ≤ 40)) && _)) = false
    rw [show (decide (1 ≤ 0)) = false from rfl]
    simp
  · refine ⟨?_, ?_⟩
    · cases hr : rows.map rowD <;> rfl
    · have := hg.few
      simp [smQ, smQAll, sr2]
      omega
section
variable {P : Program} {w : World} {K : PySem.W.Frag} {mg : Str → Option Value} {base : Heap}
def spLaw (K : PySem.W.Frag) : Sp := fun vs H Q _ => ∃ (a : Addr) (ns : List Int), vs = [.ref a] ∧ SqL K H a (ns.map V.int) ∧ ns.length ≤ 63 ∧ ∀ H', Same H H' → Q (.bl true) H'
theorem ok_law {f cI : Addr} {fd : FuncData} (F : Fun K "law" "law" slaw f fd) (TX : TxtX mg) (hmax : mg "max" = none) (hmin : mg "min" = none) (hrep : mg "repr" = none)
    (O_dice : Own P w K mg base CX0 "_law_dice" 1 ["script", "at"] (spDice K)) (O_one : Own P w K mg base CX0 "_law_one_of" 2 ["dice", "items"] spOneD) (O_small : Own P w K mg base CX0 "_law_small" 5 ["dice"] (spSmall K 20000 100000)) (O_steps : Own P w K mg base CX0 "_law_steps" 1 ["net", "is_closed"] (spPairs K))
    (O_sets : Own P w K mg base CX0 "_law_sets" 1 ["total"] (spSets K)) (O_keeps : Own P w K mg base CX0 "_law_keeps" 1 ["steps", "places", "is_siphon_asked"] (spKeeps K)) (O_told : Own P w K mg base CX0 "_law_told" 8 ["net", "value", "is_closed"] (spTold K)) (O_oth : Own P w K mg base CX0 "_law_others" 2 ["dice", "net"] (spOth K)) (O_ref : Own P w K mg base CX0 "_law_refused" 8 ["net"] (spRef K)) :
    FnG P w K mg base CX0 9 f fd ["script"] (spLaw K) := by
  have nd := sclaw.nd
  refine okG F sclaw (fun vs H Q E h => ?_) (fun cdv A outer s H vs Q E hr h => ?_)
  · obtain ⟨_, _, rfl, _⟩ := h
    rfl
  · obtain ⟨a, ns, rfl, hS, hlen, hQ⟩ := h
    have hrg : (A.deeper (PyProof.Rows.envOfC "law" (defScope slaw) s.heap.objs.size f cdv)).guards = some [] := hr.g
    refine ⟨_, (pss_cons (ps_for PassesOwn.never rfl (pi_range1 (by rfl) TX.range (pa_cons (pe_callB (call_maxA rfl) (by rfl) hmax (by decide +kernel) (pa_cons pe_int (pa_cons (pe_callB (call_minA rfl) (by rfl) hmin (by decide +kernel) (pa_cons pe_int (pa_cons (pe_callB call_lenA (by rfl) TX.len PySem.boot_len (pa_cons (av 0) pa_nil)) pa_nil))) pa_nil))) pa_nil)) (pg_name (i := 1) nd rfl (Or.inl rfl)) (pss_cons (ps_set (i := 2) nd rfl (Or.inl rfl) (pe_own O_dice hr (pa_cons (av 0) (pa_cons (av 1) pa_nil)) (by decide)))
      (pss_cons (ps_set (i := 3) nd rfl (Or.inl rfl) (pe_own O_small hr (pa_cons (av 2) pa_nil) (by decide)))
      (pss_cons (ps_for PassesOwn.never rfl (pi_list (pe_lstS (pa_cons pe_bl (pa_cons pe_bl pa_nil)))) (pg_name (i := 4) nd rfl (Or.inl rfl)) (pss_cons (ps_set (i := 5) nd rfl (Or.inl rfl) (pe_own O_steps hr (pa_cons (av 3) (pa_cons (av 4) pa_nil)) (by decide)))
      (pss_cons (ps_for PassesOwn.never rfl (pi_list (pe_own O_sets hr (pa_cons (pe_ixA (av 3) pe_int) pa_nil) (by decide))) (pg_name (i := 6) nd rfl (Or.inl rfl)) (pss_cons (ps_set (i := 7) nd rfl (Or.inl rfl) (pe_tupS (pa_cons (pe_own O_keeps hr (pa_cons (av 5) (pa_cons (av 6) (pa_cons pe_bl pa_nil))) (by decide)) (pa_cons (pe_own O_keeps hr (pa_cons (av 5) (pa_cons (av 6) (pa_cons pe_bl pa_nil))) (by decide)) pa_nil))))
      (pss_one (ps_if (pt_cmpA (op_neA hr.units64) (pe_callB (call_reprW hr.units64 hrg) (by rfl) hrep (by decide +kernel) (pa_cons (pe_own O_told hr (pa_cons (av 3) (pa_cons (av 6) (pa_cons (av 4) pa_nil))) (by decide)) pa_nil)) (pe_callB (call_reprW hr.units64 hrg) (by rfl) hrep (by decide +kernel) (pa_cons (av 7) pa_nil))) (pss_one (ps_ret pe_bl)) pss_nil))))
      (pss_one (ps_for PassesOwn.never rfl (pi_list (pe_own O_oth hr (pa_cons (av 2) (pa_cons (av 3) pa_nil)) (by decide))) (pg_name (i := 8) nd rfl (Or.inl rfl)) (pss_one (ps_if (pt_cmpA (op_neA hr.units64) (pe_own O_told hr (pa_cons (av 3) (pa_cons (av 8) (pa_cons (av 4) pa_nil))) (by decide)) (pe_tupS (pa_cons pe_bl (pa_cons pe_bl pa_nil)))) (pss_one (ps_ret pe_bl)) pss_nil)))))))
      (pss_one (ps_if (pt_not (pt_valA (pe_own O_ref hr (pa_cons (pe_own O_one hr (pa_cons (av 2) (pa_cons (pe_lstS (pa_cons pe_non (pa_cons (pe_tupS pa_nil) (pa_cons (pe_ixA (av 3) pe_int) (pa_cons (pe_callTy call_lstS (by rfl) TX.list (by decide +kernel) (pa_cons (av 3) pa_nil)) (pa_cons (pe_tupS (pa_cons (pe_ixA (av 3) pe_int) (pa_cons (pe_tupS pa_nil) pa_nil))) (pa_cons (pe_tupS (pa_cons pe_bl (pa_cons (pe_ixA (av 3) pe_int) pa_nil))) pa_nil))))))) pa_nil)) (by decide)) pa_nil) (by decide)))) (pss_one (ps_ret pe_bl)) pss_nil))))))
      (pss_one (ps_ret pe_bl))), ?_⟩
    refine .inl ⟨_, hS, ?_⟩
    refine ⟨_, rfl, ?_, ?_, for_range (fun i σ H' => (∃ o1 o2 o3 o4 o5 o6 o7 o8 : Option V, σ = [some (.ref a), o1, o2, o3, o4, o5, o6, o7, o8]) ∧ Same H H') ⟨⟨_, _, _, _, _, _, _, _, rfl⟩, Same.refl H⟩ ?_ ?_⟩
    · split <;> split <;> omega
    · split <;> split <;> omega
    · rintro i σ H1 hi ⟨⟨o1, o2, o3, o4, o5, o6, o7, o8, rfl⟩, s1⟩
      have hi12 : i < 12 := by
        revert hi
        split <;> split <;> omega
      have hS1 : SqL K H1 a (ns.map V.int) := s1.sqL hS
      refine ⟨a, ns, i, by simp, hS1, hlen, by omega, fun H2 p g sd s2 n2 l2 g0 s0 s61 => ?_⟩
      have dc2 : Dc p 0 H2 := ⟨g, sd, 0, l2, g0, s0, s61, by omega, by omega⟩
      refine ⟨p, 0, rfl, dc2, by decide, fun n rows v ts H3 hg hn7 nx3 dc3 dq3 l3 => ?_⟩
      have hg30 := hg.hi
      have hg2 := hg.lo
      have smn := (nc_net hg).sm
      have base3 : ∀ {H' : Hp}, Nxt p H2 H' → Same H1 H' := fun nx b o e => nx.get (ne_of_none e n2) (s2 _ _ e)
      -- what stands of the net
      have netq : ∀ {H' : Hp}, Nxt p H3 H' → Dq K (hide [p] H') (.ref v) (netOf n rows) := fun nx => Dq.same nx _ _ dq3
      refine ⟨by simp, fun L H4 s4 n4 l4 => ?_⟩
      have hLp : L ≠ p := dc3.ne n4
      refine ⟨L, rfl, ⟨_, SqL.of l4⟩, ?_⟩
      refine for_it (walk_list (xs := [.bl false, .bl true])) (fun j σ H' => (∃ o4 o5 o6 o7 o8 : Option V, σ = [some (.ref a), some (.int (0 + (i : Nat))), some (.ref p), some (.ref v), o4, o5, o6, o7, o8]) ∧ Nxt p H4 H' ∧ Dc p (20000 + 2 * j) H')
        ⟨⟨_, _, _, _, _, rfl⟩, Nxt.refl, (dc3.same s4).mono (by omega)⟩ (fun j σ H' _ ⟨_, nx, _⟩ => SqL.of (nx.get hLp l4)) ?_ ?_
      · rintro j x σ H5' H5 hj ⟨⟨o4, o5, o6, o7, o8, rfl⟩, nx5, dc5⟩ ⟨rfl, hx⟩
        obtain ⟨b, rfl⟩ : ∃ b : Bool, x = .bl b := by
          have := List.mem_of_getElem? hx
          simp only [List.mem_cons, List.not_mem_nil, or_false] at this
          rcases this with rfl | rfl
          · exact ⟨_, rfl⟩
          · exact ⟨_, rfl⟩
        have hj2 : j < 2 := hj
        have nx35 : Nxt p H3 H5 := (Nxt.of s4).trans nx5
        have dq5 : Dq K H5 (.ref v) (netOf n rows) := Dq.same hide_sub _ _ (netq nx35)
        refine ⟨.ref v, b, n, rows, rfl, dq5, hg, fun S H6 s6 hS6 => ?_⟩
        obtain ⟨na, Sn, xsn, e, hna, _, _⟩ := net_at dq5
        cases e
        refine .inr ⟨_, .int n, s6.sqT hna, rfl, ?_⟩
        refine ⟨n.toNat, by rw [show (n : Int) = ((n.toNat : Nat) : Int) by omega]; rfl, by omega, fun L2' xs pss H7 s7 l7 hx7 hps => ?_⟩
        have en : ((n.toNat : Nat) : Int) = n := by omega
        rw [en] at hps
        refine ⟨L2', rfl, ⟨_, SqL.of l7⟩, ?_⟩
        refine for_it (walk_list (xs := xs)) (fun t σ H' => (∃ o6 o7 : Option V, σ = [some (.ref a), some (.int (0 + (i : Nat))), some (.ref p), some (.ref v), some (.bl b), some (.ref S), o6, o7, o8]) ∧ Same H7 H') ⟨⟨_, _, rfl⟩, Same.refl _⟩ (fun t σ H' _ ⟨_, s⟩ => s.sqL (SqL.of l7)) ?_ ?_
        · rintro t y σ H8' H8 ht ⟨⟨o6, o7, rfl⟩, s8⟩ ⟨rfl, hy⟩
          obtain ⟨d, hd, hdq⟩ := hx7.get hy
          obtain ⟨ps, hpm, rfl⟩ : ∃ ps, ps ∈ pss ∧ tupI ps = d := by
            rw [List.getElem?_map] at hd
            cases e : pss[t]? with
            | none => rw [e] at hd; cases hd
            | some r => rw [e] at hd; exact ⟨r, List.mem_of_getElem? e, Option.some.inj hd⟩
          have hasc := hps ps hpm
          have hfew := hasc.few (by omega)
          have hdq8 := Dq.same s8 _ _ hdq
          cases hdq with
          | @tup ta us _ hu1 hu2 =>
            have eu := dq_ints hu2
            subst eu
            have hu8 := s8.sqT hu1
            refine ⟨S, ta, true, stepsOf rows b, ps, rfl, hS6.same (s7.trans s8), hu8, fun H9 s9 => ?_⟩
            refine ⟨S, ta, false, stepsOf rows b, ps, rfl, hS6.same ((s7.trans s8).trans s9), s9.sqT hu8, fun H10 s10 => ?_⟩
            refine ⟨by simp, fun D H11 s11 n11 l11 => ?_⟩
            have s811 := (s9.trans s10).trans s11
            have dq11 : Dq K H11 (.ref v) (netOf n rows) := Dq.same (((s6.trans s7).trans s8).trans s811) _ _ dq5
            have sm3 : smQ (tupI ps) = true := smq_ints (by omega)
            refine ⟨.ref v, .ref ta, b, n, rows, tupI ps, rfl, ⟨dq11, smn⟩, hg, ⟨Dq.same s811 _ _ hdq8, sm3⟩, fun T1 H12 s12 n12 l12 => ?_⟩
            have ts := told_is (rows := rows) hg30 hasc b
            have sb := bools_show (sipD n (stepsOf rows b) (tupI ps)) (sipD n ((stepsOf rows b).map flipR) (tupI ps))
            have sb2 := bools_show (keepsB (stepsOf rows b) ps true) (keepsB (stepsOf rows b) ps false)
            refine ⟨.ref T1, .tuple [.bool _, .bool _], rfl, .inl ⟨sb.1, bools_dp l12⟩, sb.2.1, sb.2.2.1, sb.2.2.2, ?_⟩
            refine ⟨.ref D, .tuple [.bool _, .bool _], rfl, .inl ⟨sb2.1, bools_dp (s12 _ _ l11)⟩, sb2.2.1, sb2.2.2.1, sb2.2.2.2, ?_⟩
            refine ite2 (fun c => ?_) (fun c => ?_)
            · have t1 : sipD n (stepsOf rows b) (tupI ps) = keepsB (stepsOf rows b) ps true := ts.1
              rw [t1, ts.2] at c
              simp at c
            · exact ⟨⟨_, _, rfl⟩, s8.trans (s811.trans s12)⟩
        · rintro σ H8 ⟨⟨o6, o7, rfl⟩, s8⟩
          have s58 : Same H5 H8 := (s6.trans s7).trans s8
          have nx38 : Nxt p H3 H8 := nx35.trans (Nxt.of s58)
          refine ⟨p, .ref v, _, n, rows, rfl, dc5.same s58, by omega, netq nx38, hg, fun L3 ys k H9 nx9 dc9 hL3p l9 hall => ?_⟩
          refine ⟨L3, rfl, ⟨_, SqL.of l9⟩, ?_⟩
          have nx39 : Nxt p H3 H9 := nx38.trans nx9
          refine for_it (walk_list (xs := ys)) (fun t σ H' => (∃ o8 : Option V, σ = [some (.ref a), some (.int (0 + (i : Nat))), some (.ref p), some (.ref v), some (.bl b), some (.ref S), o6, o7, o8]) ∧ Same H9 H') ⟨⟨_, rfl⟩, Same.refl _⟩ (fun t σ H' _ ⟨_, s⟩ => s.sqL (SqL.of l9)) ?_ ?_
          · rintro t y σ H10' H10 ht ⟨⟨o8, rfl⟩, s10⟩ ⟨rfl, hy⟩
            obtain ⟨d, hd, hdq⟩ := hall.get hy
            have hno := oth_no hg2 d (List.mem_of_getElem? hd)
            have dq10 : Dq K H10 (.ref v) (netOf n rows) := Dq.same (hide_sub.trans s10) _ _ (netq nx39)
            refine ⟨.ref v, y, b, n, rows, d, rfl, ⟨dq10, smn⟩, hg, ⟨Dq.same (hide_sub.trans s10) _ _ hdq, hno.2⟩, fun T1 H12 s12 n12 l12 => ?_⟩
            refine ⟨by simp, fun T2 H13 s13 n13 l13 => ?_⟩
            rw [no_places hno.1, no_places hno.1] at l12
            refine ⟨.tuple [.bool false, .bool false], .tuple [.bool false, .bool false], .tup (SqT.of (s13 _ _ l12)) (.cons (.bl _) (.cons (.bl _) .nil)), .tup (SqT.of l13) (.cons (.bl _) (.cons (.bl _) .nil)), by decide +kernel, by decide +kernel, ?_⟩
            have ee : PyData.eqv (.tuple [.bool false, .bool false]) (.tuple [.bool false, .bool false]) = true := by decide +kernel
            refine ite2 (fun z => absurd z (by rw [ee]; decide)) (fun _ => ?_)
            exact ⟨⟨_, rfl⟩, s10.trans (s12.trans s13)⟩
          · rintro σ H10 ⟨⟨o8, rfl⟩, s10⟩
            have nx810 : Nxt p H8 H10 := nx9.trans (Nxt.of s10)
            exact ⟨⟨_, _, _, _, _, rfl⟩, nx5.trans ((Nxt.of s58).trans nx810), (dc9.same s10).mono (by omega)⟩
      · rintro σ H5 ⟨⟨o4, o5, o6, o7, o8, rfl⟩, nx5, dc5⟩
        have nx35 : Nxt p H3 H5 := (Nxt.of s4).trans nx5
        have dc5' : Dc p 20010 H5 := dc5.mono (by simp)
        have dqh5 := netq nx35
        have dq5 : Dq K H5 (.ref v) (netOf n rows) := Dq.same hide_sub _ _ dqh5
        obtain ⟨na, Sn, xsn, e, hna, hSn, hxn⟩ := net_at dqh5
        cases e
        have hna5 := hide_sub.sqT hna
        have hSn5 := hide_sub.sqT hSn
        refine ⟨by simp, fun a1 H6 s6 n6 l6 => ?_⟩
        refine .inr ⟨_, .ref Sn, s6.sqT hna5, rfl, ?_⟩
        refine ⟨v, _, rfl, .inr (s6.sqT hna5), fun a2 H7 s7 n7 l7 => ?_⟩
        refine .inr ⟨_, .int n, (s6.trans s7).sqT hna5, rfl, ?_⟩
        refine ⟨by simp, fun a3 H8 s8 n8 l8 => ?_⟩
        refine ⟨by simp, fun a4 H9 s9 n9 l9 => ?_⟩
        refine .inr ⟨_, .ref Sn, (((s6.trans s7).trans s8).trans s9).sqT hna5, rfl, ?_⟩
        refine ⟨by simp, fun a5 H10 s10 n10 l10 => ?_⟩
        refine ⟨by simp, fun M H11 s11 n11 l11 => ?_⟩
        have s59 := ((s6.trans s7).trans s8).trans s9
        have s511 := (s59.trans s10).trans s11
        have off : ∀ {b : Addr} {H' : Hp}, Same H5 H' → H' b = none → b ≠ p := fun s n => (dc5'.same s).ne n
        have put : ∀ {b : Addr} {o : HO} {H' : Hp}, b ≠ p → Same H' H11 → H' b = some o → hide [p] H11 b = some o := fun hb s e => hid_of hb (s _ _ e)
        have hall : DqAll K (hide [p] H11) [.non, .ref a1, .ref Sn, .ref a2, .ref a4, .ref a5] (wrongD n rows) := by
          have hh : Same (hide [p] H5) (hide [p] H11) := Nxt.of s511
          have rowsq : Dq K (hide [p] H11) (.ref Sn) (.tuple (rows.map rowD)) := .tup (hh.sqT hSn) (DqAll.same hh _ _ hxn)
          have p1 := off (Same.refl _) n6
          have p2 := off s6 n7
          have p3 := off (s6.trans s7) n8
          have p4 := off ((s6.trans s7).trans s8) n9
          have p5 := off s59 n10
          exact .cons .non (.cons (.tup (SqT.of (put p1 (s7.trans (s8.trans (s9.trans (s10.trans s11)))) l6)) .nil) (.cons rowsq (.cons (.lst (SqL.of (put p2 (s8.trans (s9.trans (s10.trans s11))) l7)) (.cons (.int _) (.cons rowsq .nil)))
            (.cons (.tup (SqT.of (put p4 (s10.trans s11) l9)) (.cons (.int _) (.cons (.tup (SqT.of (put p3 (s9.trans (s10.trans s11)) l8)) .nil) .nil))) (.cons (.tup (SqT.of (put p5 s11 l10)) (.cons (.bl _) (.cons rowsq .nil))) .nil)))))
        have hMp := off (s59.trans s10) n11
        refine ⟨p, M, _, _, rfl, dc5'.same s511, l11, by decide, hMp, by simp, by simp, fun t u H12 ht dc12 e12 => ?_⟩
        obtain ⟨d, hd, hdq⟩ := hall.get ht
        have hno := wrong_no hg d (List.mem_of_getElem? hd)
        have nx12 : Nxt p H11 H12 := Nxt.of_eq e12
        refine ⟨u, d, rfl, ⟨Dq.same (hide_sub : Same (hide [p] H12) H12) _ _ (Dq.same nx12 _ _ hdq), hno.2⟩, hno.1, fun H13 s13 => ?_⟩
        refine ite2 (fun z => absurd z (by decide)) (fun _ => ?_)
        have nxall : Nxt p H2 H13 := nx3.trans (nx35.trans ((Nxt.of s511).trans (nx12.trans (Nxt.of s13))))
        exact ⟨⟨_, _, _, _, _, _, _, _, rfl⟩, s1.trans (base3 nxall)⟩
    · rintro σ H1 ⟨⟨o1, o2, o3, o4, o5, o6, o7, o8, rfl⟩, s1⟩
      exact hQ H1 s1
end
end K11

set_option Elab.async false
set_option linter.all false
set_option maxRecDepth 100000
set_option maxHeartbeats 4000000
namespace K11
open PySem L2 PySem.KX StX PyProof.Rows
def noneB (K : PySem.W.Frag) (ns : List Str) : Bool := ns.all fun n => decide (PySem.W.nsIn K mainGlobals n = some none)
theorem noneB_ok {K : PySem.W.Frag} {ns : List Str} (h : noneB K ns = true) {n : Str} (m : n ∈ ns) : PySem.W.nsIn K mainGlobals n = some none := of_decide_eq_true (List.all_eq_true.mp h n m)
def msgB (K : PySem.W.Frag) (C : Addr) : Bool := PySem.W.excIn K C bmVE "ValueError.__new__" && (PySem.W.keepIn K (.ref C) && (xiB K C && decide (PySem.W.findIn K (.ref C) "__str__" = some (some (.builtin "BaseException.__str__")))))
theorem msgB_ok {K : PySem.W.Frag} {mg : Str → Option Value} {x : Str} {C : Addr} (h : msgB K C = true) (g : mg x = some (.ref C)) : ErrM K mg x C "ValueError.__new__" bmVE := by
  obtain ⟨h1, h⟩ := Bool.and_eq_true_iff.mp h
  obtain ⟨h2, h⟩ := Bool.and_eq_true_iff.mp h
  obtain ⟨h3, h4⟩ := Bool.and_eq_true_iff.mp h
  exact ⟨h1, g, h2, xiB_ok h3, of_decide_eq_true h4⟩
abbrev psJ : List Str := ["net", "value", "closed"]
theorem bindsJ {K : PySem.W.Frag} {x qual : Str} {f : Addr} {fd : FuncData} {st : Stmt} (hst : st = sis_siphon ∨ st = sis_trap) (F : FunD K x qual (defArgs st) (defBody st) (defScope st) [] [("closed", .bl false)] f fd) : ∃ ds, Vals [V.bl false] ds ∧ Binds K fd psJ ds := by
  refine FunD.binds0 (ps := psJ) F 2 (by simp) rfl (fun D doc pm an cdv ct us ks h1 h2 => ?_)
  match us, h1, ks, h2 with
  | [a, b], _, [c], _ =>
    rcases hst with rfl | rfl
    · exact ⟨_, _, _, _, _, _, rfl, rfl, rfl⟩
    · exact ⟨_, _, _, _, _, _, rfl, rfl, rfl⟩
theorem kbnJ {K : PySem.W.Frag} {x qual : Str} {f : Addr} {fd : FuncData} {st : Stmt} (hst : st = sis_siphon ∨ st = sis_trap) (F : FunD K x qual (defArgs st) (defBody st) (defScope st) [] [("closed", .bl false)] f fd) : KBn K fd psJ 2 ["closed"] (fun us ws => us ++ ws) (fun vs zs => vs ++ zs) := by
  obtain ⟨oc, od, dV, kV, doc, pm, an, cdv, ct, osl, rfl, lk, hcd, hD, hK⟩ := F.ex
  rcases hD with ⟨_, rfl⟩ | ⟨e, _⟩
  case inr => exact absurd rfl e
  refine ⟨fun s us ws X l1 l2 => ?_, fun r1 r2 => r1.append r2⟩
  match us, l1, ws, l2 with
  | [a, b], _, [c], _ =>
    rcases hst with rfl | rfl
    · exact .of_eq rfl
    · exact .of_eq rfl
theorem all_mk {l : PySem.W.OpenLaw} {w : World} {K : PySem.W.Frag} {h : Heap} {mg : Str → Option Value} {fa c0 t0 t1 t2 f0 f1 f2 f3 f4 f5 f6 f7 f8 f9 f10 f11 f12 f13 f14 f15 f16 f17 f18 f19 f20 f21 f22 f23 f24 f25 f26 f27 f28 f29 f30 f31 f32 f33 f34 kD14 kD15 : Addr} {tkL tkP tkS tc0 tc1 tc2 : Tok} {odt0 odt1 odt2 : Option Addr} {slt0 slt1 slt2 : Array (Option Value)} {nt0 nt1 nt2 : Nat} (X : K.In h) (G : h.Ns mainGlobals mg) (hfa : mg "law" = some (.ref fa))
    {od0 an0 : Option Addr} {sl0 : Array (Option Value)} {oc0 kV0 dc0 pm0 cd0 ct0 : Value}
    {od1 an1 : Option Addr} {sl1 : Array (Option Value)} {oc1 kV1 dc1 pm1 cd1 ct1 : Value}
    {od2 an2 : Option Addr} {sl2 : Array (Option Value)} {oc2 kV2 dc2 pm2 cd2 ct2 : Value}
    {od3 an3 : Option Addr} {sl3 : Array (Option Value)} {oc3 kV3 dc3 pm3 cd3 ct3 : Value}
    {od4 an4 : Option Addr} {sl4 : Array (Option Value)} {oc4 kV4 dc4 pm4 cd4 ct4 : Value}
    {od5 an5 : Option Addr} {sl5 : Array (Option Value)} {oc5 kV5 dc5 pm5 cd5 ct5 : Value}
    {od6 an6 : Option Addr} {sl6 : Array (Option Value)} {oc6 kV6 dc6 pm6 cd6 ct6 : Value}
    {od7 an7 : Option Addr} {sl7 : Array (Option Value)} {oc7 kV7 dc7 pm7 cd7 ct7 : Value}
    {od8 an8 : Option Addr} {sl8 : Array (Option Value)} {oc8 kV8 dc8 pm8 cd8 ct8 : Value}
    {od9 an9 : Option Addr} {sl9 : Array (Option Value)} {oc9 kV9 dc9 pm9 cd9 ct9 : Value}
    {od10 an10 : Option Addr} {sl10 : Array (Option Value)} {oc10 kV10 dc10 pm10 cd10 ct10 : Value}
    {od11 an11 : Option Addr} {sl11 : Array (Option Value)} {oc11 kV11 dc11 pm11 cd11 ct11 : Value}
    {od12 an12 : Option Addr} {sl12 : Array (Option Value)} {oc12 kV12 dc12 pm12 cd12 ct12 : Value}
    {od13 an13 : Option Addr} {sl13 : Array (Option Value)} {oc13 kV13 dc13 pm13 cd13 ct13 : Value}
    {od14 an14 : Option Addr} {sl14 : Array (Option Value)} {oc14 dc14 pm14 cd14 ct14 : Value}
    {od15 an15 : Option Addr} {sl15 : Array (Option Value)} {oc15 dc15 pm15 cd15 ct15 : Value}
    {od16 an16 : Option Addr} {sl16 : Array (Option Value)} {oc16 kV16 dc16 pm16 cd16 ct16 : Value}
    {od17 an17 : Option Addr} {sl17 : Array (Option Value)} {oc17 kV17 dc17 pm17 cd17 ct17 : Value}
    {od18 an18 : Option Addr} {sl18 : Array (Option Value)} {oc18 kV18 dc18 pm18 cd18 ct18 : Value}
    {od19 an19 : Option Addr} {sl19 : Array (Option Value)} {oc19 kV19 dc19 pm19 cd19 ct19 : Value}
    {od20 an20 : Option Addr} {sl20 : Array (Option Value)} {oc20 kV20 dc20 pm20 cd20 ct20 : Value}
    {od21 an21 : Option Addr} {sl21 : Array (Option Value)} {oc21 kV21 dc21 pm21 cd21 ct21 : Value}
    {od22 an22 : Option Addr} {sl22 : Array (Option Value)} {oc22 kV22 dc22 pm22 cd22 ct22 : Value}
    {od23 an23 : Option Addr} {sl23 : Array (Option Value)} {oc23 kV23 dc23 pm23 cd23 ct23 : Value}
    {od24 an24 : Option Addr} {sl24 : Array (Option Value)} {oc24 kV24 dc24 pm24 cd24 ct24 : Value}
    {od25 an25 : Option Addr} {sl25 : Array (Option Value)} {oc25 kV25 dc25 pm25 cd25 ct25 : Value}
    {od26 an26 : Option Addr} {sl26 : Array (Option Value)} {oc26 kV26 dc26 pm26 cd26 ct26 : Value}
    {od27 an27 : Option Addr} {sl27 : Array (Option Value)} {oc27 kV27 dc27 pm27 cd27 ct27 : Value}
    {od28 an28 : Option Addr} {sl28 : Array (Option Value)} {oc28 kV28 dc28 pm28 cd28 ct28 : Value}
    {od29 an29 : Option Addr} {sl29 : Array (Option Value)} {oc29 kV29 dc29 pm29 cd29 ct29 : Value}
    {od30 an30 : Option Addr} {sl30 : Array (Option Value)} {oc30 kV30 dc30 pm30 cd30 ct30 : Value}
    {od31 an31 : Option Addr} {sl31 : Array (Option Value)} {oc31 kV31 dc31 pm31 cd31 ct31 : Value}
    {od32 an32 : Option Addr} {sl32 : Array (Option Value)} {oc32 kV32 dc32 pm32 cd32 ct32 : Value}
    {od33 an33 : Option Addr} {sl33 : Array (Option Value)} {oc33 kV33 dc33 pm33 cd33 ct33 : Value}
    {od34 an34 : Option Addr} {sl34 : Array (Option Value)} {oc34 kV34 dc34 pm34 cd34 ct34 : Value}
    (aC0 : PySem.W.nsIn K mainGlobals "InvalidNet" = some (some (.ref c0)))
    (aT0 : PySem.W.nsIn K mainGlobals "CLOSING" = some (some (.ref t0))) (lT0 : K.lookup t0 = some ⟨.type "tuple", odt0, .seq #[.str "" tc0, .ref t1, .ref t2] nt0, slt0⟩) (lT1 : K.lookup t1 = some ⟨.type "tuple", odt1, .seq #[.int 1 tc1] nt1, slt1⟩) (lT2 : K.lookup t2 = some ⟨.type "tuple", odt2, .seq #[.int 0 tc2] nt2, slt2⟩)
    (a0 : PySem.W.nsIn K mainGlobals "is_integer" = some (some (.ref f0))) (l0 : K.lookup f0 = some ⟨oc0, od0, .func (PySem.W.fnOf "is_integer" "is_integer" (defArgs sis_integer) (defBody sis_integer) (defScope sis_integer) .none kV0 dc0 pm0 an0 cd0 ct0), sl0⟩) (d0 : PySem.W.codeIn K cd0 "is_integer" = true) (k0 : PySem.W.keepIn K (.ref f0) = true)
    (a1 : PySem.W.nsIn K mainGlobals "is_integer_within" = some (some (.ref f1))) (l1 : K.lookup f1 = some ⟨oc1, od1, .func (PySem.W.fnOf "is_integer_within" "is_integer_within" (defArgs sis_integer_within) (defBody sis_integer_within) (defScope sis_integer_within) .none kV1 dc1 pm1 an1 cd1 ct1), sl1⟩) (d1 : PySem.W.codeIn K cd1 "is_integer_within" = true) (k1 : PySem.W.keepIn K (.ref f1) = true)
    (a2 : PySem.W.nsIn K mainGlobals "is_name" = some (some (.ref f2))) (l2 : K.lookup f2 = some ⟨oc2, od2, .func (PySem.W.fnOf "is_name" "is_name" (defArgs sis_name) (defBody sis_name) (defScope sis_name) .none kV2 dc2 pm2 an2 cd2 ct2), sl2⟩) (d2 : PySem.W.codeIn K cd2 "is_name" = true) (k2 : PySem.W.keepIn K (.ref f2) = true)
    (a3 : PySem.W.nsIn K mainGlobals "ascends" = some (some (.ref f3))) (l3 : K.lookup f3 = some ⟨oc3, od3, .func (PySem.W.fnOf "ascends" "ascends" (defArgs sascends) (defBody sascends) (defScope sascends) .none kV3 dc3 pm3 an3 cd3 ct3), sl3⟩) (d3 : PySem.W.codeIn K cd3 "ascends" = true) (k3 : PySem.W.keepIn K (.ref f3) = true)
    (a4 : PySem.W.nsIn K mainGlobals "are_places" = some (some (.ref f4))) (l4 : K.lookup f4 = some ⟨oc4, od4, .func (PySem.W.fnOf "are_places" "are_places" (defArgs sare_places) (defBody sare_places) (defScope sare_places) .none kV4 dc4 pm4 an4 cd4 ct4), sl4⟩) (d4 : PySem.W.codeIn K cd4 "are_places" = true) (k4 : PySem.W.keepIn K (.ref f4) = true)
    (a5 : PySem.W.nsIn K mainGlobals "_is_step" = some (some (.ref f5))) (l5 : K.lookup f5 = some ⟨oc5, od5, .func (PySem.W.fnOf "_is_step" "_is_step" (defArgs s_is_step) (defBody s_is_step) (defScope s_is_step) .none kV5 dc5 pm5 an5 cd5 ct5), sl5⟩) (d5 : PySem.W.codeIn K cd5 "_is_step" = true) (k5 : PySem.W.keepIn K (.ref f5) = true)
    (a6 : PySem.W.nsIn K mainGlobals "is_net" = some (some (.ref f6))) (l6 : K.lookup f6 = some ⟨oc6, od6, .func (PySem.W.fnOf "is_net" "is_net" (defArgs sis_net) (defBody sis_net) (defScope sis_net) .none kV6 dc6 pm6 an6 cd6 ct6), sl6⟩) (d6 : PySem.W.codeIn K cd6 "is_net" = true) (k6 : PySem.W.keepIn K (.ref f6) = true)
    (a7 : PySem.W.nsIn K mainGlobals "check_net" = some (some (.ref f7))) (l7 : K.lookup f7 = some ⟨oc7, od7, .func (PySem.W.fnOf "check_net" "check_net" (defArgs scheck_net) (defBody scheck_net) (defScope scheck_net) .none kV7 dc7 pm7 an7 cd7 ct7), sl7⟩) (d7 : PySem.W.codeIn K cd7 "check_net" = true) (k7 : PySem.W.keepIn K (.ref f7) = true)
    (a8 : PySem.W.nsIn K mainGlobals "have_common" = some (some (.ref f8))) (l8 : K.lookup f8 = some ⟨oc8, od8, .func (PySem.W.fnOf "have_common" "have_common" (defArgs shave_common) (defBody shave_common) (defScope shave_common) .none kV8 dc8 pm8 an8 cd8 ct8), sl8⟩) (d8 : PySem.W.codeIn K cd8 "have_common" = true) (k8 : PySem.W.keepIn K (.ref f8) = true)
    (a9 : PySem.W.nsIn K mainGlobals "closed_steps" = some (some (.ref f9))) (l9 : K.lookup f9 = some ⟨oc9, od9, .func (PySem.W.fnOf "closed_steps" "closed_steps" (defArgs sclosed_steps) (defBody sclosed_steps) (defScope sclosed_steps) .none kV9 dc9 pm9 an9 cd9 ct9), sl9⟩) (d9 : PySem.W.codeIn K cd9 "closed_steps" = true) (k9 : PySem.W.keepIn K (.ref f9) = true)
    (a10 : PySem.W.nsIn K mainGlobals "_steps" = some (some (.ref f10))) (l10 : K.lookup f10 = some ⟨oc10, od10, .func (PySem.W.fnOf "_steps" "_steps" (defArgs s_steps) (defBody s_steps) (defScope s_steps) .none kV10 dc10 pm10 an10 cd10 ct10), sl10⟩) (d10 : PySem.W.codeIn K cd10 "_steps" = true) (k10 : PySem.W.keepIn K (.ref f10) = true)
    (a11 : PySem.W.nsIn K mainGlobals "_is_fed" = some (some (.ref f11))) (l11 : K.lookup f11 = some ⟨oc11, od11, .func (PySem.W.fnOf "_is_fed" "_is_fed" (defArgs s_is_fed) (defBody s_is_fed) (defScope s_is_fed) .none kV11 dc11 pm11 an11 cd11 ct11), sl11⟩) (d11 : PySem.W.codeIn K cd11 "_is_fed" = true) (k11 : PySem.W.keepIn K (.ref f11) = true)
    (a12 : PySem.W.nsIn K mainGlobals "siphon_within" = some (some (.ref f12))) (l12 : K.lookup f12 = some ⟨oc12, od12, .func (PySem.W.fnOf "siphon_within" "siphon_within" (defArgs ssiphon_within) (defBody ssiphon_within) (defScope ssiphon_within) .none kV12 dc12 pm12 an12 cd12 ct12), sl12⟩) (d12 : PySem.W.codeIn K cd12 "siphon_within" = true) (k12 : PySem.W.keepIn K (.ref f12) = true)
    (a13 : PySem.W.nsIn K mainGlobals "trap_within" = some (some (.ref f13))) (l13 : K.lookup f13 = some ⟨oc13, od13, .func (PySem.W.fnOf "trap_within" "trap_within" (defArgs strap_within) (defBody strap_within) (defScope strap_within) .none kV13 dc13 pm13 an13 cd13 ct13), sl13⟩) (d13 : PySem.W.codeIn K cd13 "trap_within" = true) (k13 : PySem.W.keepIn K (.ref f13) = true)
    (a14 : PySem.W.nsIn K mainGlobals "is_siphon" = some (some (.ref f14))) (l14 : K.lookup f14 = some ⟨oc14, od14, .func (PySem.W.fnOf "is_siphon" "is_siphon" (defArgs sis_siphon) (defBody sis_siphon) (defScope sis_siphon) .none (.ref kD14) dc14 pm14 an14 cd14 ct14), sl14⟩) (d14 : PySem.W.codeIn K cd14 "is_siphon" = true) (k14 : PySem.W.keepIn K (.ref f14) = true)
    (q14 : PySem.W.nsIn K kD14 "closed" = some (some (.bool false)))
    (a15 : PySem.W.nsIn K mainGlobals "is_trap" = some (some (.ref f15))) (l15 : K.lookup f15 = some ⟨oc15, od15, .func (PySem.W.fnOf "is_trap" "is_trap" (defArgs sis_trap) (defBody sis_trap) (defScope sis_trap) .none (.ref kD15) dc15 pm15 an15 cd15 ct15), sl15⟩) (d15 : PySem.W.codeIn K cd15 "is_trap" = true) (k15 : PySem.W.keepIn K (.ref f15) = true)
    (q15 : PySem.W.nsIn K kD15 "closed" = some (some (.bool false)))
    (a16 : PySem.W.nsIn K mainGlobals "_law_dice" = some (some (.ref f16))) (l16 : K.lookup f16 = some ⟨oc16, od16, .func (PySem.W.fnOf "_law_dice" "_law_dice" (defArgs s_law_dice) (defBody s_law_dice) (defScope s_law_dice) .none kV16 dc16 pm16 an16 cd16 ct16), sl16⟩) (d16 : PySem.W.codeIn K cd16 "_law_dice" = true) (k16 : PySem.W.keepIn K (.ref f16) = true)
    (a17 : PySem.W.nsIn K mainGlobals "_law_roll" = some (some (.ref f17))) (l17 : K.lookup f17 = some ⟨oc17, od17, .func (PySem.W.fnOf "_law_roll" "_law_roll" (defArgs s_law_roll) (defBody s_law_roll) (defScope s_law_roll) .none kV17 dc17 pm17 an17 cd17 ct17), sl17⟩) (d17 : PySem.W.codeIn K cd17 "_law_roll" = true) (k17 : PySem.W.keepIn K (.ref f17) = true)
    (a18 : PySem.W.nsIn K mainGlobals "_law_one_of" = some (some (.ref f18))) (l18 : K.lookup f18 = some ⟨oc18, od18, .func (PySem.W.fnOf "_law_one_of" "_law_one_of" (defArgs s_law_one_of) (defBody s_law_one_of) (defScope s_law_one_of) .none kV18 dc18 pm18 an18 cd18 ct18), sl18⟩) (d18 : PySem.W.codeIn K cd18 "_law_one_of" = true) (k18 : PySem.W.keepIn K (.ref f18) = true)
    (a19 : PySem.W.nsIn K mainGlobals "_law_mixed" = some (some (.ref f19))) (l19 : K.lookup f19 = some ⟨oc19, od19, .func (PySem.W.fnOf "_law_mixed" "_law_mixed" (defArgs s_law_mixed) (defBody s_law_mixed) (defScope s_law_mixed) .none kV19 dc19 pm19 an19 cd19 ct19), sl19⟩) (d19 : PySem.W.codeIn K cd19 "_law_mixed" = true) (k19 : PySem.W.keepIn K (.ref f19) = true)
    (a20 : PySem.W.nsIn K mainGlobals "_law_words" = some (some (.ref f20))) (l20 : K.lookup f20 = some ⟨oc20, od20, .func (PySem.W.fnOf "_law_words" "_law_words" (defArgs s_law_words) (defBody s_law_words) (defScope s_law_words) .none kV20 dc20 pm20 an20 cd20 ct20), sl20⟩) (d20 : PySem.W.codeIn K cd20 "_law_words" = true) (k20 : PySem.W.keepIn K (.ref f20) = true)
    (a21 : PySem.W.nsIn K mainGlobals "_law_fitting" = some (some (.ref f21))) (l21 : K.lookup f21 = some ⟨oc21, od21, .func (PySem.W.fnOf "_law_fitting" "_law_fitting" (defArgs s_law_fitting) (defBody s_law_fitting) (defScope s_law_fitting) .none kV21 dc21 pm21 an21 cd21 ct21), sl21⟩) (d21 : PySem.W.codeIn K cd21 "_law_fitting" = true) (k21 : PySem.W.keepIn K (.ref f21) = true)
    (a22 : PySem.W.nsIn K mainGlobals "_law_grown" = some (some (.ref f22))) (l22 : K.lookup f22 = some ⟨oc22, od22, .func (PySem.W.fnOf "_law_grown" "_law_grown" (defArgs s_law_grown) (defBody s_law_grown) (defScope s_law_grown) .none kV22 dc22 pm22 an22 cd22 ct22), sl22⟩) (d22 : PySem.W.codeIn K cd22 "_law_grown" = true) (k22 : PySem.W.keepIn K (.ref f22) = true)
    (a23 : PySem.W.nsIn K mainGlobals "_law_spoilt" = some (some (.ref f23))) (l23 : K.lookup f23 = some ⟨oc23, od23, .func (PySem.W.fnOf "_law_spoilt" "_law_spoilt" (defArgs s_law_spoilt) (defBody s_law_spoilt) (defScope s_law_spoilt) .none kV23 dc23 pm23 an23 cd23 ct23), sl23⟩) (d23 : PySem.W.codeIn K cd23 "_law_spoilt" = true) (k23 : PySem.W.keepIn K (.ref f23) = true)
    (a24 : PySem.W.nsIn K mainGlobals "_law_net" = some (some (.ref f24))) (l24 : K.lookup f24 = some ⟨oc24, od24, .func (PySem.W.fnOf "_law_net" "_law_net" (defArgs s_law_net) (defBody s_law_net) (defScope s_law_net) .none kV24 dc24 pm24 an24 cd24 ct24), sl24⟩) (d24 : PySem.W.codeIn K cd24 "_law_net" = true) (k24 : PySem.W.keepIn K (.ref f24) = true)
    (a25 : PySem.W.nsIn K mainGlobals "_law_wild" = some (some (.ref f25))) (l25 : K.lookup f25 = some ⟨oc25, od25, .func (PySem.W.fnOf "_law_wild" "_law_wild" (defArgs s_law_wild) (defBody s_law_wild) (defScope s_law_wild) .none kV25 dc25 pm25 an25 cd25 ct25), sl25⟩) (d25 : PySem.W.codeIn K cd25 "_law_wild" = true) (k25 : PySem.W.keepIn K (.ref f25) = true)
    (a26 : PySem.W.nsIn K mainGlobals "_law_case" = some (some (.ref f26))) (l26 : K.lookup f26 = some ⟨oc26, od26, .func (PySem.W.fnOf "_law_case" "_law_case" (defArgs s_law_case) (defBody s_law_case) (defScope s_law_case) .none kV26 dc26 pm26 an26 cd26 ct26), sl26⟩) (d26 : PySem.W.codeIn K cd26 "_law_case" = true) (k26 : PySem.W.keepIn K (.ref f26) = true)
    (a27 : PySem.W.nsIn K mainGlobals "_law_small" = some (some (.ref f27))) (l27 : K.lookup f27 = some ⟨oc27, od27, .func (PySem.W.fnOf "_law_small" "_law_small" (defArgs s_law_small) (defBody s_law_small) (defScope s_law_small) .none kV27 dc27 pm27 an27 cd27 ct27), sl27⟩) (d27 : PySem.W.codeIn K cd27 "_law_small" = true) (k27 : PySem.W.keepIn K (.ref f27) = true)
    (a28 : PySem.W.nsIn K mainGlobals "_law_steps" = some (some (.ref f28))) (l28 : K.lookup f28 = some ⟨oc28, od28, .func (PySem.W.fnOf "_law_steps" "_law_steps" (defArgs s_law_steps) (defBody s_law_steps) (defScope s_law_steps) .none kV28 dc28 pm28 an28 cd28 ct28), sl28⟩) (d28 : PySem.W.codeIn K cd28 "_law_steps" = true) (k28 : PySem.W.keepIn K (.ref f28) = true)
    (a29 : PySem.W.nsIn K mainGlobals "_law_keeps" = some (some (.ref f29))) (l29 : K.lookup f29 = some ⟨oc29, od29, .func (PySem.W.fnOf "_law_keeps" "_law_keeps" (defArgs s_law_keeps) (defBody s_law_keeps) (defScope s_law_keeps) .none kV29 dc29 pm29 an29 cd29 ct29), sl29⟩) (d29 : PySem.W.codeIn K cd29 "_law_keeps" = true) (k29 : PySem.W.keepIn K (.ref f29) = true)
    (a30 : PySem.W.nsIn K mainGlobals "_law_sets" = some (some (.ref f30))) (l30 : K.lookup f30 = some ⟨oc30, od30, .func (PySem.W.fnOf "_law_sets" "_law_sets" (defArgs s_law_sets) (defBody s_law_sets) (defScope s_law_sets) .none kV30 dc30 pm30 an30 cd30 ct30), sl30⟩) (d30 : PySem.W.codeIn K cd30 "_law_sets" = true) (k30 : PySem.W.keepIn K (.ref f30) = true)
    (a31 : PySem.W.nsIn K mainGlobals "_law_told" = some (some (.ref f31))) (l31 : K.lookup f31 = some ⟨oc31, od31, .func (PySem.W.fnOf "_law_told" "_law_told" (defArgs s_law_told) (defBody s_law_told) (defScope s_law_told) .none kV31 dc31 pm31 an31 cd31 ct31), sl31⟩) (d31 : PySem.W.codeIn K cd31 "_law_told" = true) (k31 : PySem.W.keepIn K (.ref f31) = true)
    (a32 : PySem.W.nsIn K mainGlobals "_law_others" = some (some (.ref f32))) (l32 : K.lookup f32 = some ⟨oc32, od32, .func (PySem.W.fnOf "_law_others" "_law_others" (defArgs s_law_others) (defBody s_law_others) (defScope s_law_others) .none kV32 dc32 pm32 an32 cd32 ct32), sl32⟩) (d32 : PySem.W.codeIn K cd32 "_law_others" = true) (k32 : PySem.W.keepIn K (.ref f32) = true)
    (a33 : PySem.W.nsIn K mainGlobals "_law_refused" = some (some (.ref f33))) (l33 : K.lookup f33 = some ⟨oc33, od33, .func (PySem.W.fnOf "_law_refused" "_law_refused" (defArgs s_law_refused) (defBody s_law_refused) (defScope s_law_refused) .none kV33 dc33 pm33 an33 cd33 ct33), sl33⟩) (d33 : PySem.W.codeIn K cd33 "_law_refused" = true) (k33 : PySem.W.keepIn K (.ref f33) = true)
    (a34 : PySem.W.nsIn K mainGlobals "law" = some (some (.ref f34))) (l34 : K.lookup f34 = some ⟨oc34, od34, .func (PySem.W.fnOf "law" "law" (defArgs slaw) (defBody slaw) (defScope slaw) .none kV34 dc34 pm34 an34 cd34 ct34), sl34⟩) (d34 : PySem.W.codeIn K cd34 "law" = true) (k34 : PySem.W.keepIn K (.ref f34) = true)
    (mm0 : msgB K c0 = true)
    (tI : PySem.W.typeIn K (.ref c0) = some (.type "type"))
    (eII : PySem.W.exmOne K (.ref c0) (.ref c0) = some true)
    (nn : noneB K ["isinstance", "int", "bool", "str", "tuple", "len", "all", "any", "zip", "list", "set", "sorted", "range", "max", "min", "repr", "abs", "enumerate"] = true)
    (gL : PySem.W.nsIn K mainGlobals "MAX_LETTERS" = some (some (.int 8 tkL))) (gP : PySem.W.nsIn K mainGlobals "MAX_PLACES" = some (some (.int 30 tkP))) (gS : PySem.W.nsIn K mainGlobals "MAX_STEPS" = some (some (.int 40 tkS)))
    : ∃ fd : FuncData, (∀ (s : Shared) (v : Value), BindsTo s fd ⟨[v], []⟩ [("script", v)]) ∧ ∀ base : Heap, K.In base → base.Ns mainGlobals mg → FnG l.prog w K mg base CX0 9 fa fd ["script"] (spLaw K) := by
  have e := hfa.symm.trans (PySem.W.mg_of X G a34)
  cases e
  have z_isinstance : mg "isinstance" = none := PySem.W.mg_none_of X G (noneB_ok nn (by decide))
  have z_int : mg "int" = none := PySem.W.mg_none_of X G (noneB_ok nn (by decide))
  have z_bool : mg "bool" = none := PySem.W.mg_none_of X G (noneB_ok nn (by decide))
  have z_str : mg "str" = none := PySem.W.mg_none_of X G (noneB_ok nn (by decide))
  have z_tuple : mg "tuple" = none := PySem.W.mg_none_of X G (noneB_ok nn (by decide))
  have z_len : mg "len" = none := PySem.W.mg_none_of X G (noneB_ok nn (by decide))
  have z_all : mg "all" = none := PySem.W.mg_none_of X G (noneB_ok nn (by decide))
  have z_any : mg "any" = none := PySem.W.mg_none_of X G (noneB_ok nn (by decide))
  have z_zip : mg "zip" = none := PySem.W.mg_none_of X G (noneB_ok nn (by decide))
  have z_list : mg "list" = none := PySem.W.mg_none_of X G (noneB_ok nn (by decide))
  have z_set : mg "set" = none := PySem.W.mg_none_of X G (noneB_ok nn (by decide))
  have z_sorted : mg "sorted" = none := PySem.W.mg_none_of X G (noneB_ok nn (by decide))
  have z_range : mg "range" = none := PySem.W.mg_none_of X G (noneB_ok nn (by decide))
  have z_max : mg "max" = none := PySem.W.mg_none_of X G (noneB_ok nn (by decide))
  have z_min : mg "min" = none := PySem.W.mg_none_of X G (noneB_ok nn (by decide))
  have z_repr : mg "repr" = none := PySem.W.mg_none_of X G (noneB_ok nn (by decide))
  have z_abs : mg "abs" = none := PySem.W.mg_none_of X G (noneB_ok nn (by decide))
  have z_enumerate : mg "enumerate" = none := PySem.W.mg_none_of X G (noneB_ok nn (by decide))
  have g0 : mg "InvalidNet" = some (.ref c0) := PySem.W.mg_of X G aC0
  have v0 : Vals [V.str "", .ref t1, .ref t2] [Value.str "" tc0, .ref t1, .ref t2] := .cons ⟨_, rfl⟩ (.cons rfl (.cons rfl .nil))
  have v1 : Vals [V.int 1] [Value.int 1 tc1] := .cons ⟨_, rfl⟩ .nil
  have v2 : Vals [V.int 0] [Value.int 0 tc2] := .cons ⟨_, rfl⟩ .nil
  have CL : ClsK K mg t0 := ⟨PySem.W.mg_of X G aT0, fun H => .tup (.inr ⟨_, _, _, lT0, rfl, rfl, (show 3 ≤ sizeLine by decide), v0⟩) (.cons (.str _) (.cons (.tup (.inr ⟨_, _, _, lT1, rfl, rfl, (show 1 ≤ sizeLine by decide), v1⟩) (.cons (.int _) .nil)) (.cons (.tup (.inr ⟨_, _, _, lT2, rfl, rfl, (show 1 ≤ sizeLine by decide), v2⟩) (.cons (.int _) .nil)) .nil)))⟩
  have F0 := fun_mk (st := sis_integer) l0 d0 k0
  have F1 := fun_mk (st := sis_integer_within) l1 d1 k1
  have F2 := fun_mk (st := sis_name) l2 d2 k2
  have F3 := fun_mk (st := sascends) l3 d3 k3
  have F4 := fun_mk (st := sare_places) l4 d4 k4
  have F5 := fun_mk (st := s_is_step) l5 d5 k5
  have F6 := fun_mk (st := sis_net) l6 d6 k6
  have F7 := fun_mk (st := scheck_net) l7 d7 k7
  have F8 := fun_mk (st := shave_common) l8 d8 k8
  have F9 := fun_mk (st := sclosed_steps) l9 d9 k9
  have F10 := fun_mk (st := s_steps) l10 d10 k10
  have F11 := fun_mk (st := s_is_fed) l11 d11 k11
  have F12 := fun_mk (st := ssiphon_within) l12 d12 k12
  have F13 := fun_mk (st := strap_within) l13 d13 k13
  have F14 : FunD K "is_siphon" "is_siphon" (defArgs sis_siphon) (defBody sis_siphon) (defScope sis_siphon) [] [("closed", .bl false)] f14 _ := ⟨⟨_, _, _, _, _, _, _, _, _, _, rfl, l14, d14, .inl ⟨rfl, rfl⟩, .inr ⟨_, rfl, fun q hq => by rw [List.mem_singleton.mp hq]; exact ⟨_, q14, rfl⟩⟩⟩, k14⟩
  have F15 : FunD K "is_trap" "is_trap" (defArgs sis_trap) (defBody sis_trap) (defScope sis_trap) [] [("closed", .bl false)] f15 _ := ⟨⟨_, _, _, _, _, _, _, _, _, _, rfl, l15, d15, .inl ⟨rfl, rfl⟩, .inr ⟨_, rfl, fun q hq => by rw [List.mem_singleton.mp hq]; exact ⟨_, q15, rfl⟩⟩⟩, k15⟩
  have F16 := fun_mk (st := s_law_dice) l16 d16 k16
  have F17 := fun_mk (st := s_law_roll) l17 d17 k17
  have F18 := fun_mk (st := s_law_one_of) l18 d18 k18
  have F19 := fun_mk (st := s_law_mixed) l19 d19 k19
  have F20 := fun_mk (st := s_law_words) l20 d20 k20
  have F21 := fun_mk (st := s_law_fitting) l21 d21 k21
  have F22 := fun_mk (st := s_law_grown) l22 d22 k22
  have F23 := fun_mk (st := s_law_spoilt) l23 d23 k23
  have F24 := fun_mk (st := s_law_net) l24 d24 k24
  have F25 := fun_mk (st := s_law_wild) l25 d25 k25
  have F26 := fun_mk (st := s_law_case) l26 d26 k26
  have F27 := fun_mk (st := s_law_small) l27 d27 k27
  have F28 := fun_mk (st := s_law_steps) l28 d28 k28
  have F29 := fun_mk (st := s_law_keeps) l29 d29 k29
  have F30 := fun_mk (st := s_law_sets) l30 d30 k30
  have F31 := fun_mk (st := s_law_told) l31 d31 k31
  have F32 := fun_mk (st := s_law_others) l32 d32 k32
  have F33 := fun_mk (st := s_law_refused) l33 d33 k33
  have F34 := fun_mk (st := slaw) l34 d34 k34
  have b0 := F0.binds (ps := ["value"]) fun _ _ _ _ _ _ us hl => match us, hl with | [_], _ => rfl
  have b1 := F1.binds (ps := ["value", "least", "most"]) fun _ _ _ _ _ _ us hl => match us, hl with | [_, _, _], _ => rfl
  have b2 := F2.binds (ps := ["value"]) fun _ _ _ _ _ _ us hl => match us, hl with | [_], _ => rfl
  have b3 := F3.binds (ps := ["values"]) fun _ _ _ _ _ _ us hl => match us, hl with | [_], _ => rfl
  have b4 := F4.binds (ps := ["places", "value"]) fun _ _ _ _ _ _ us hl => match us, hl with | [_, _], _ => rfl
  have b5 := F5.binds (ps := ["places", "value"]) fun _ _ _ _ _ _ us hl => match us, hl with | [_, _], _ => rfl
  have b6 := F6.binds (ps := ["value"]) fun _ _ _ _ _ _ us hl => match us, hl with | [_], _ => rfl
  have b7 := F7.binds (ps := ["net"]) fun _ _ _ _ _ _ us hl => match us, hl with | [_], _ => rfl
  have b8 := F8.binds (ps := ["places", "others"]) fun _ _ _ _ _ _ us hl => match us, hl with | [_, _], _ => rfl
  have b9 := F9.binds (ps := ["net"]) fun _ _ _ _ _ _ us hl => match us, hl with | [_], _ => rfl
  have b10 := F10.binds (ps := ["net", "closed"]) fun _ _ _ _ _ _ us hl => match us, hl with | [_, _], _ => rfl
  have b11 := F11.binds (ps := ["steps", "places", "place"]) fun _ _ _ _ _ _ us hl => match us, hl with | [_, _, _], _ => rfl
  have b12 := F12.binds (ps := ["steps", "places"]) fun _ _ _ _ _ _ us hl => match us, hl with | [_, _], _ => rfl
  have b13 := F13.binds (ps := ["steps", "places"]) fun _ _ _ _ _ _ us hl => match us, hl with | [_, _], _ => rfl
  have b14 := bindsJ (.inl rfl) F14
  have n14 := kbnJ (.inl rfl) F14
  have b15 := bindsJ (.inr rfl) F15
  have n15 := kbnJ (.inr rfl) F15
  have b16 := F16.binds (ps := ["script", "at"]) fun _ _ _ _ _ _ us hl => match us, hl with | [_, _], _ => rfl
  have b17 := F17.binds (ps := ["dice", "total"]) fun _ _ _ _ _ _ us hl => match us, hl with | [_, _], _ => rfl
  have b18 := F18.binds (ps := ["dice", "items"]) fun _ _ _ _ _ _ us hl => match us, hl with | [_, _], _ => rfl
  have b19 := F19.binds (ps := ["dice", "items"]) fun _ _ _ _ _ _ us hl => match us, hl with | [_, _], _ => rfl
  have b20 := F20.binds (ps := ["dice", "total"]) fun _ _ _ _ _ _ us hl => match us, hl with | [_, _], _ => rfl
  have b21 := F21.binds (ps := ["grown"]) fun _ _ _ _ _ _ us hl => match us, hl with | [_], _ => rfl
  have b22 := F22.binds (ps := ["dice", "turns"]) fun _ _ _ _ _ _ us hl => match us, hl with | [_, _], _ => rfl
  have b23 := F23.binds (ps := ["dice", "grown"]) fun _ _ _ _ _ _ us hl => match us, hl with | [_, _], _ => rfl
  have b24 := F24.binds (ps := ["dice", "grown"]) fun _ _ _ _ _ _ us hl => match us, hl with | [_, _], _ => rfl
  have b25 := F25.binds (ps := ["dice"]) fun _ _ _ _ _ _ us hl => match us, hl with | [_], _ => rfl
  have b26 := F26.binds (ps := ["dice"]) fun _ _ _ _ _ _ us hl => match us, hl with | [_], _ => rfl
  have b27 := F27.binds (ps := ["dice"]) fun _ _ _ _ _ _ us hl => match us, hl with | [_], _ => rfl
  have b28 := F28.binds (ps := ["net", "is_closed"]) fun _ _ _ _ _ _ us hl => match us, hl with | [_, _], _ => rfl
  have b29 := F29.binds (ps := ["steps", "places", "is_siphon_asked"]) fun _ _ _ _ _ _ us hl => match us, hl with | [_, _, _], _ => rfl
  have b30 := F30.binds (ps := ["total"]) fun _ _ _ _ _ _ us hl => match us, hl with | [_], _ => rfl
  have b31 := F31.binds (ps := ["net", "value", "is_closed"]) fun _ _ _ _ _ _ us hl => match us, hl with | [_, _, _], _ => rfl
  have b32 := F32.binds (ps := ["dice", "net"]) fun _ _ _ _ _ _ us hl => match us, hl with | [_, _], _ => rfl
  have b33 := F33.binds (ps := ["net"]) fun _ _ _ _ _ _ us hl => match us, hl with | [_], _ => rfl
  have b34 := F34.binds (ps := ["script"]) fun _ _ _ _ _ _ us hl => match us, hl with | [_], _ => rfl
  refine ⟨PySem.W.fnOf "law" "law" (defArgs slaw) (defBody slaw) (defScope slaw) .none kV34 dc34 pm34 an34 cd34 ct34, fun s v => .of_eq rfl, fun base _ _ => ?_⟩
  have TA : TxtA mg := ⟨z_isinstance, z_int, z_bool, z_str, z_tuple, z_len, z_all, z_zip, ⟨_, PySem.W.mg_of X G gL⟩, ⟨_, PySem.W.mg_of X G gP⟩, ⟨_, PySem.W.mg_of X G gS⟩⟩
  have TS : TxtS mg := ⟨z_set, z_sorted⟩
  have TX : TxtX mg := ⟨z_list, z_range, z_len⟩
  have TW : TxtW mg := ⟨z_range⟩
  have TT : Txt mg := ⟨z_len, z_abs, z_int, z_enumerate⟩
  have E0 := msgB_ok mm0 g0
  have Oii : Own l.prog w K mg base CX0 "is_integer" 1 ["value"] (spT K isIntD) := ⟨_, _, ok_is_integer F0 TA, PySem.W.mg_of X G a0, k0, b0⟩
  have Oiw : Own l.prog w K mg base CX0 "is_integer_within" 2 ["value", "least", "most"] (spWithin K) := ⟨_, _, ok_is_integer_within F1 Oii, PySem.W.mg_of X G a1, k1, b1⟩
  have Onm : Own l.prog w K mg base CX0 "is_name" 1 ["value"] (spN K isNameD) := ⟨_, _, ok_is_name F2 TA, PySem.W.mg_of X G a2, k2, b2⟩
  have Oas : Own l.prog w K mg base CX0 "ascends" 1 ["values"] (spAsc K) := ⟨_, _, ok_ascends F3 TA, PySem.W.mg_of X G a3, k3, b3⟩
  have Oap : Own l.prog w K mg base CX0 "are_places" 3 ["places", "value"] (spPlaces K placesD) := ⟨_, _, ok_are_places F4 TA Oiw Oas, PySem.W.mg_of X G a4, k4, b4⟩
  have Ost : Own l.prog w K mg base CX0 "_is_step" 4 ["places", "value"] (spPlaces K stepD) := ⟨_, _, ok_is_step F5 TA Onm Oap, PySem.W.mg_of X G a5, k5, b5⟩
  have Ois : Own l.prog w K mg base CX0 "is_net" 5 ["value"] (spN K netD) := ⟨_, _, ok_is_net F6 TA Oiw Oas Ost, PySem.W.mg_of X G a6, k6, b6⟩
  have Ock : Own l.prog w K mg base (L2.CX l.prog w) "check_net" 6 ["net"] (spChk K c0 netD) := ⟨_, _, ok_check_net F7 E0 tI Ois, PySem.W.mg_of X G a7, k7, b7⟩
  have Ohc : Own l.prog w K mg base CX0 "have_common" 1 ["places", "others"] (spCommon K) := ⟨_, _, ok_have_common F8 z_any, PySem.W.mg_of X G a8, k8, b8⟩
  have Ofd : Own l.prog w K mg base CX0 "_is_fed" 2 ["steps", "places", "place"] (spFed K) := ⟨_, _, ok_is_fed F11 z_any Ohc, PySem.W.mg_of X G a11, k11, b11⟩
  have Osw : Own l.prog w K mg base CX0 "siphon_within" 3 ["steps", "places"] (spSip K id) := ⟨_, _, ok_siphon_within F12 z_tuple Ofd, PySem.W.mg_of X G a12, k12, b12⟩
  have Otw : Own l.prog w K mg base CX0 "trap_within" 4 ["steps", "places"] (spSip K (List.map flipR)) := ⟨_, _, ok_trap_within F13 Osw, PySem.W.mg_of X G a13, k13, b13⟩
  have Ocl : Own l.prog w K mg base CX0 "closed_steps" 1 ["net"] (spClosed K) := ⟨_, _, ok_closed_steps F9 CL, PySem.W.mg_of X G a9, k9, b9⟩
  have Ots : Own l.prog w K mg base CX0 "_steps" 2 ["net", "closed"] (spStepsC K) := ⟨_, _, ok_steps F10 Ocl, PySem.W.mg_of X G a10, k10, b10⟩
  have Dis : OwnD l.prog w K mg base (L2.CX l.prog w) "is_siphon" 7 ["net", "value", "closed"] 2 ["closed"] [.bl false] (spJudge K c0 id) := ⟨_, _, ok_is_siphon F14 Ock Oap Ots Osw, PySem.W.mg_of X G a14, k14, b14, n14⟩
  have Dit : OwnD l.prog w K mg base (L2.CX l.prog w) "is_trap" 7 ["net", "value", "closed"] 2 ["closed"] [.bl false] (spJudge K c0 (List.map flipR)) := ⟨_, _, ok_is_trap F15 Ock Oap Ots Otw, PySem.W.mg_of X G a15, k15, b15, n15⟩
  have Oro : Own l.prog w K mg base CX0 "_law_roll" 1 ["dice", "total"] spRoll := ⟨_, _, ok_roll F17, PySem.W.mg_of X G a17, k17, b17⟩
  have Ord : Own l.prog w K mg base CX0 "_law_roll" 1 ["dice", "total"] spRollD := ⟨_, _, (ok_roll F17).imp fun _ _ _ _ h => rollD h, PySem.W.mg_of X G a17, k17, b17⟩
  have Odi : Own l.prog w K mg base CX0 "_law_dice" 1 ["script", "at"] (spDice K) := ⟨_, _, ok_dice F16 TT, PySem.W.mg_of X G a16, k16, b16⟩
  have Oon : Own l.prog w K mg base CX0 "_law_one_of" 2 ["dice", "items"] spOneD := ⟨_, _, (ok_one_of F18 TT Oro).imp fun _ _ _ _ h => oneD h, PySem.W.mg_of X G a18, k18, b18⟩
  have Omi : Own l.prog w K mg base CX0 "_law_mixed" 2 ["dice", "items"] (spMixD K) := ⟨_, _, (ok_mixed F19 TX Oro).imp fun _ _ _ _ h => mixD h, PySem.W.mg_of X G a19, k19, b19⟩
  have Owo : Own l.prog w K mg base CX0 "_law_words" 2 ["dice", "total"] spWords := ⟨_, _, ok_words F20 TW Ord, PySem.W.mg_of X G a20, k20, b20⟩
  have Ofi : Own l.prog w K mg base CX0 "_law_fitting" 1 ["grown"] spFit := ⟨_, _, ok_law_fitting F21 z_len, PySem.W.mg_of X G a21, k21, b21⟩
  have Ogr : Own l.prog w K mg base CX0 "_law_grown" 3 ["dice", "turns"] spGrown := ⟨_, _, ok_law_grown F22 TX Ord Oon, PySem.W.mg_of X G a22, k22, b22⟩
  have Osp : Own l.prog w K mg base CX0 "_law_spoilt" 3 ["dice", "grown"] spSpoilt := ⟨_, _, ok_law_spoilt F23 TX Ord Oon, PySem.W.mg_of X G a23, k23, b23⟩
  have One : Own l.prog w K mg base CX0 "_law_net" 3 ["dice", "grown"] (spNet K) := ⟨_, _, ok_law_net F24 TX TS z_tuple z_zip Omi Owo, PySem.W.mg_of X G a24, k24, b24⟩
  have Owi : Own l.prog w K mg base CX0 "_law_wild" 3 ["dice"] (spSmall K 1000 20000) := ⟨_, _, ok_law_wild F25 TA TS TX z_min Ord Owo Omi, PySem.W.mg_of X G a25, k25, b25⟩
  have Oca : Own l.prog w K mg base CX0 "_law_case" 4 ["dice"] (spCase K) := ⟨_, _, ok_law_case F26 Ord Owi Ogr Osp Ofi One, PySem.W.mg_of X G a26, k26, b26⟩
  have Osm : Own l.prog w K mg base CX0 "_law_small" 5 ["dice"] (spSmall K 20000 100000) := ⟨_, _, ok_law_small F27 z_range Oca Owi, PySem.W.mg_of X G a27, k27, b27⟩
  have Ols : Own l.prog w K mg base CX0 "_law_steps" 1 ["net", "is_closed"] (spPairs K) := ⟨_, _, ok_law_steps F28 z_int, PySem.W.mg_of X G a28, k28, b28⟩
  have Oke : Own l.prog w K mg base CX0 "_law_keeps" 1 ["steps", "places", "is_siphon_asked"] (spKeeps K) := ⟨_, _, ok_law_keeps F29, PySem.W.mg_of X G a29, k29, b29⟩
  have Ose : Own l.prog w K mg base CX0 "_law_sets" 1 ["total"] (spSets K) := ⟨_, _, ok_law_sets F30 z_range, PySem.W.mg_of X G a30, k30, b30⟩
  have Oto : Own l.prog w K mg base CX0 "_law_told" 8 ["net", "value", "is_closed"] (spTold K) := ⟨_, _, ok_law_told F31 Dis Dit, PySem.W.mg_of X G a31, k31, b31⟩
  have Oot : Own l.prog w K mg base CX0 "_law_others" 2 ["dice", "net"] (spOth K) := ⟨_, _, ok_law_others F32 Ord, PySem.W.mg_of X G a32, k32, b32⟩
  have Orf : Own l.prog w K mg base CX0 "_law_refused" 8 ["net"] (spRef K) := ⟨_, _, ok_law_refused F33 g0 eII Dis Dit, PySem.W.mg_of X G a33, k33, b33⟩
  exact ok_law (cI := c0) F34 TX z_max z_min z_repr Odi Oon Osm Ols Ose Oke Oto Oot Orf
end K11

set_option Elab.async false
set_option linter.all false
open PySem PySem.W PyProof.Rows in
set_option maxRecDepth 100000 in
set_option maxHeartbeats 0 in
theorem PySem.Challenge.cw_caseflow_k11_siphons_and_traps_judged_holds : PySem.Challenge.rw_caseflow_k11_siphons_and_traps_judged.Holds := by
  w_on; o_law; k_head; (case hw => w_witness2)
  k_fill
  refine L2.walk_ofG (l := PySem.Challenge.rw_caseflow_k11_siphons_and_traps_judged) (n := 63) (k := 9) (x := "script") (CX := fun _ => L2.CX0) (sp := fun w => K11.spLaw _) rfl (by decide) rfl ⟨rfl, by decide, by decide⟩ (fun w h Y => PySem.W.kIn_of Y) ?F (fun _ _ a ns hl _ hS => ⟨a, ns, rfl, hS, hl, fun _ _ => rfl⟩) fun _ _ _ _ _ z => z
  case F =>
    intro w mg fa h KX G hmg
    refine' K11.all_mk KX G hmg ?aC0 ?aT0 ?lT0 ?lT1 ?lT2 ?a0 ?l0 ?d0 ?k0 ?a1 ?l1 ?d1 ?k1 ?a2 ?l2 ?d2 ?k2 ?a3 ?l3 ?d3 ?k3 ?a4 ?l4 ?d4 ?k4 ?a5 ?l5 ?d5 ?k5 ?a6 ?l6 ?d6 ?k6 ?a7 ?l7 ?d7 ?k7 ?a8 ?l8 ?d8 ?k8 ?a9 ?l9 ?d9 ?k9 ?a10 ?l10 ?d10 ?k10 ?a11 ?l11 ?d11 ?k11 ?a12 ?l12 ?d12 ?k12 ?a13 ?l13 ?d13 ?k13 ?a14 ?l14 ?d14 ?k14 ?q14 ?a15 ?l15 ?d15 ?k15 ?q15 ?a16 ?l16 ?d16 ?k16 ?a17 ?l17 ?d17 ?k17 ?a18 ?l18 ?d18 ?k18 ?a19 ?l19 ?d19 ?k19 ?a20 ?l20 ?d20 ?k20 ?a21 ?l21 ?d21 ?k21 ?a22 ?l22 ?d22 ?k22 ?a23 ?l23 ?d23 ?k23 ?a24 ?l24 ?d24 ?k24 ?a25 ?l25 ?d25 ?k25 ?a26 ?l26 ?d26 ?k26 ?a27 ?l27 ?d27 ?k27 ?a28 ?l28 ?d28 ?k28 ?a29 ?l29 ?d29 ?k29 ?a30 ?l30 ?d30 ?k30 ?a31 ?l31 ?d31 ?k31 ?a32 ?l32 ?d32 ?k32 ?a33 ?l33 ?d33 ?k33 ?a34 ?l34 ?d34 ?k34 ?mm0 ?tI ?eII ?nn ?gL ?gP ?gS
    (case aC0 => k_is)
    (case aT0 => k_is)
    (case lT0 => k_is)
    (case lT1 => k_is)
    (case lT2 => k_is)
    (case a0 => k_is)
    (case l0 => k_is)
    (case d0 => k_is)
    (case k0 => k_is)
    (case a1 => k_is)
    (case l1 => k_is)
    (case d1 => k_is)
    (case k1 => k_is)
    (case a2 => k_is)
    (case l2 => k_is)
    (case d2 => k_is)
    (case k2 => k_is)
    (case a3 => k_is)
    (case l3 => k_is)
    (case d3 => k_is)
    (case k3 => k_is)
    (case a4 => k_is)
    (case l4 => k_is)
    (case d4 => k_is)
    (case k4 => k_is)
    (case a5 => k_is)
    (case l5 => k_is)
    (case d5 => k_is)
    (case k5 => k_is)
    (case a6 => k_is)
    (case l6 => k_is)
    (case d6 => k_is)
    (case k6 => k_is)
    (case a7 => k_is)
    (case l7 => k_is)
    (case d7 => k_is)
    (case k7 => k_is)
    (case a8 => k_is)
    (case l8 => k_is)
    (case d8 => k_is)
    (case k8 => k_is)
    (case a9 => k_is)
    (case l9 => k_is)
    (case d9 => k_is)
    (case k9 => k_is)
    (case a10 => k_is)
    (case l10 => k_is)
    (case d10 => k_is)
    (case k10 => k_is)
    (case a11 => k_is)
    (case l11 => k_is)
    (case d11 => k_is)
    (case k11 => k_is)
    (case a12 => k_is)
    (case l12 => k_is)
    (case d12 => k_is)
    (case k12 => k_is)
    (case a13 => k_is)
    (case l13 => k_is)
    (case d13 => k_is)
    (case k13 => k_is)
    (case a14 => k_is)
    (case l14 => k_is)
    (case d14 => k_is)
    (case k14 => k_is)
    (case q14 => k_is)
    (case a15 => k_is)
    (case l15 => k_is)
    (case d15 => k_is)
    (case k15 => k_is)
    (case q15 => k_is)
    (case a16 => k_is)
    (case l16 => k_is)
    (case d16 => k_is)
    (case k16 => k_is)
    (case a17 => k_is)
    (case l17 => k_is)
    (case d17 => k_is)
    (case k17 => k_is)
    (case a18 => k_is)
    (case l18 => k_is)
    (case d18 => k_is)
    (case k18 => k_is)
    (case a19 => k_is)
    (case l19 => k_is)
    (case d19 => k_is)
    (case k19 => k_is)
    (case a20 => k_is)
    (case l20 => k_is)
    (case d20 => k_is)
    (case k20 => k_is)
    (case a21 => k_is)
    (case l21 => k_is)
    (case d21 => k_is)
    (case k21 => k_is)
    (case a22 => k_is)
    (case l22 => k_is)
    (case d22 => k_is)
    (case k22 => k_is)
    (case a23 => k_is)
    (case l23 => k_is)
    (case d23 => k_is)
    (case k23 => k_is)
    (case a24 => k_is)
    (case l24 => k_is)
    (case d24 => k_is)
    (case k24 => k_is)
    (case a25 => k_is)
    (case l25 => k_is)
    (case d25 => k_is)
    (case k25 => k_is)
    (case a26 => k_is)
    (case l26 => k_is)
    (case d26 => k_is)
    (case k26 => k_is)
    (case a27 => k_is)
    (case l27 => k_is)
    (case d27 => k_is)
    (case k27 => k_is)
    (case a28 => k_is)
    (case l28 => k_is)
    (case d28 => k_is)
    (case k28 => k_is)
    (case a29 => k_is)
    (case l29 => k_is)
    (case d29 => k_is)
    (case k29 => k_is)
    (case a30 => k_is)
    (case l30 => k_is)
    (case d30 => k_is)
    (case k30 => k_is)
    (case a31 => k_is)
    (case l31 => k_is)
    (case d31 => k_is)
    (case k31 => k_is)
    (case a32 => k_is)
    (case l32 => k_is)
    (case d32 => k_is)
    (case k32 => k_is)
    (case a33 => k_is)
    (case l33 => k_is)
    (case d33 => k_is)
    (case k33 => k_is)
    (case a34 => k_is)
    (case l34 => k_is)
    (case d34 => k_is)
    (case k34 => k_is)
    (case mm0 => kernel_rfl)
    (case tI => k_is)
    (case eII => kernel_rfl)
    (case nn => kernel_rfl)
    (case gL => k_is)
    (case gP => k_is)
    (case gS => k_is)

