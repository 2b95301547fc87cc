import PyProof.Rows.All
import HandS.Words
import HandS.Ends
import Wide.All
import OpenK.AllK
import Wide.FinOn
import HandS.Base
import HandS.Call
import HandS.List
import HandS.Comp
import HandS.ExcInit
import HandS.Flow
import HandS.Iter
import HandS.WordsList
import HandS.Text
import HandS.TupAny
import HandS.TupLe
import HandS.Wide
import HandS.IsInst
import HandS.Deep
import HandS.Style
import HandS.StrMore
import HandS.WordsDict
import PyProof.StrBlock2
import PyProof.Rows.RegStrFacts
import HandS.ExcIs
import HandS.ExcValue
import KE.KExcInit
import KE.KExcIs
import HandS.Zip
import PyProof.StrLawsRepr
import HandS.Dict
import PyProof.StrLawsLast
import PySem.Challenge.RW_mayrest_k98_errors_and_limits
set_option Elab.async false
set_option linter.all false
set_option maxRecDepth 100000
/-! DG: calls that also know that no repr is under way (FnG, RoomG), from the law's call down. -/
namespace DL
open PySem PySem.Spec PyProof.Rows L2
/-- room for so many calls, and no repr around -/
structure RoomG (k : Nat) (A : Around) : Prop where
  r : Room k A
  g : A.guards = some []
theorem RoomG.mono {j k : Nat} {A : Around} (h : RoomG k A) (l : j ≤ k) : RoomG j A := ⟨h.r.mono l, h.g⟩
theorem RoomG.deeper {k : Nat} {A : Around} (h : RoomG (k + 1) A) (env : Env) : RoomG k (A.deeper env) := ⟨h.r.deeper env, h.g⟩
theorem RoomG.in1 {k : Nat} {A : Around} (h : RoomG (k + 1) A) : RoomG k A.in1 := ⟨h.r.in1, h.g⟩
theorem RoomG.make {k : Nat} {A : Around} (h : RoomG (k + 1) A) (C : Addr) (us : List Value) (kw : List (Str × Value)) : RoomG k (A.under (.builtin "type.__call__" ⟨.ref C :: us, kw⟩)) :=
  ⟨h.r.make C us kw, by
    have e : (A.under (.builtin "type.__call__" ⟨.ref C :: us, kw⟩)).guards = A.guards := by
      first | rfl | (simp [Around.under, Code.guards, Code.isGuard, pushGuards, guardIds])
    rw [e]; exact h.g⟩
/-- a def keeps its promise wherever it is called with no repr around -/
structure FnG (P : Program) (w : World) (K : PySem.W.Frag) (mg : Str → Option Value) (base : Heap) (CX : CXT) (k : Nat) (f : Addr) (fd : FuncData) (ps : List Str) (sp : Sp) : Prop where
  len : ∀ vs H Q E, sp vs H Q E → vs.length = ps.length
  run : ∀ (A : Around) (outer : List Env) (s : Shared) (H : Hp) (args : Args) (us : List Value) (vs : List V) (Q : VK) (E : XK),
    RoomG k A → Env0 P w K mg base A outer s H → BindsTo s fd args (ps.zip us) → Vals vs us → sp vs H Q E → codeAny (model P w) A (.call (.ref f) args) (CR CX outer P w H s Q E) s
section
variable {P : Program} {w : World} {K : PySem.W.Frag} {mg : Str → Option Value} {base : Heap} {CX : CXT} {k : Nat} {f : Addr} {fd : FuncData} {ps : List Str} {sp : Sp}
theorem fnG_of (F : FnOk P w K mg base CX k f fd ps sp) : FnG P w K mg base CX k f fd ps sp := ⟨F.len, fun A o s H a us vs Q E hr => F.run A o s H a us vs Q E hr.r⟩
theorem FnG.mono {j : Nat} (F : FnG P w K mg base CX j f fd ps sp) (h : j ≤ k) : FnG P w K mg base CX k f fd ps sp := ⟨F.len, fun A o s H a us vs Q E hr => F.run A o s H a us vs Q E (hr.mono h)⟩
theorem FnG.imp {sp' : Sp} (F : FnG P w K mg base CX k f fd ps sp) (h : ∀ vs H Q E, sp' vs H Q E → sp vs H Q E) : FnG P w K mg base CX k f fd ps sp' :=
  ⟨fun vs H Q E q => F.len _ _ _ _ (h vs H Q E q), fun A o s H a us vs Q E hr e b r q => F.run A o s H a us vs Q E hr e b r (h vs H Q E q)⟩
end
section
variable {X : Cx} {CX : CXT} {k : Nat} {f : Addr} {fd : FuncData} {ps : List Str} {sp : Sp} {dvs : List V} {ds : List Value} {E : XK} {x : Str} {p pos : Pos} {e : Expr} {es : List Expr} {t : TA}
theorem go_fn {pins : List (Addr × Obj)} {σ : L2.St} {H : Hp} {s : Shared} {Q : VK} {us : List Value} {vs : List V} (G : FnG X.prog X.w X.K X.mg X.base CX k f fd ps sp) (hr : RoomG k X.A) (hb : Binds X.K fd ps ds) (hd : Vals dvs ds) (hx : Passes CX X E)
    (I : Inv X pins σ H s) (rv : Vals vs us) (q : sp (vs ++ dvs) H Q E) : wpAny (model X.prog X.w) X.A (call (.ref f) us) (EP X pins σ Q) X.xe s := by
  have rr : Vals (vs ++ dvs) (us ++ ds) := rv.append hd
  have many : (us ++ ds).length = ps.length := rr.length.symm.trans (G.len _ _ _ _ q)
  refine wpAny_call (codeAny_mono (G.run X.A X.stack s H ⟨us, []⟩ (us ++ ds) (vs ++ dvs) Q E hr I.env0 (hb s us I.kIn many) rr q) fun r s' z => ?_)
  rcases r with er | (_ | _ | _ | u)
  · exact hx pins σ H s er s' I z
  · exact z.elim
  · exact z.elim
  · exact z.elim
  · exact I.after z
theorem pg_call (G : FnG X.prog X.w X.K X.mg X.base CX k f fd ps sp) (hr : RoomG k X.A) (hg : Gl X x) (hm : X.mg x = some (.ref f)) (hk : PySem.W.keepIn X.K (.ref f) = true) (hb : Binds X.K fd ps ds) (hd : Vals dvs ds) (hx : Passes CX X E) (ha : PA X (e :: es) t)
    (hdb : (x == ("__debug__" : Str)) = false := by decide) (he : starEach (e :: es) X.env = (false, eval e X.env) :: starEach es X.env := by rfl) (hpl : (backTo pos (starEach es X.env)).any (·.1) = false := by rfl) : PE X (.Call (.Name x p) (e :: es) [] pos) (tCall sp dvs E t) :=
  ⟨fun pins s σ H Q I h => wpAny_Call_Name_kw (ld_glob I hg hm (PySem.W.callWith_K (h₀ := X.base) I.ok.mod.kin hk (thn (ha.run pos pins s σ H _ I h) fun us s1 ⟨vs, H1, I1, rv, q⟩ => ⟨I1.kIn, go_fn G hr hb hd hx I1 rv q⟩) he hpl) hdb)⟩
theorem pg_call0 (G : FnG X.prog X.w X.K X.mg X.base CX k f fd ps sp) (hr : RoomG k X.A) (hg : Gl X x) (hm : X.mg x = some (.ref f)) (hk : PySem.W.keepIn X.K (.ref f) = true) (hb : Binds X.K fd ps ds) (hd : Vals dvs ds) (hx : Passes CX X E)
    (hdb : (x == ("__debug__" : Str)) = false := by decide) : PE X (.Call (.Name x p) [] [] pos) (tCall sp dvs E tNil) :=
  ⟨fun pins s σ H Q I h => wpAny_Call_Name_kw (ld_glob I hg hm (PySem.W.callWith_K0 I.kIn hk (go_fn (us := []) G hr hb hd hx I .nil h)) hdb)⟩
end
section
variable {P : Program} {w : World} {K : PySem.W.Frag} {mg : Str → Option Value} {base : Heap}
/-- a def by its body -/
theorem Fun.okG {CX : CXT} {x qual : Str} {st : Stmt} {f : Addr} {fd : FuncData} {N ps : List Str} {k : Nat} {sp : Sp} (F : Fun K x qual st f fd) (S : FnScope N ps (defScope st)) (len : ∀ vs H Q E, sp vs H Q E → vs.length = ps.length)
    (body : ∀ (cdv : Value) (A : Around) (outer : List Env) (s : Shared) (H : Hp) (vs : List V) (Q : VK) (E : XK), RoomG k (A.deeper (envOfC qual (defScope st) s.heap.objs.size f cdv)) → sp vs H Q E →
      ∃ t, PSs (cxOf CX P w K mg base N qual (defScope st) f cdv A outer s H E) (defBody st) t ∧ t { nx := fun _ H' => Q .non H', rt := Q } (start N vs) H) : FnG P w K mg base CX (k + 1) f fd ps sp := by
  obtain ⟨oc, od, kV, doc, pm, an, cdv, ct, osl, rfl, lk, code⟩ := F.ex
  refine ⟨len, fun A outer s H args us vs Q E hr e0 hb rv hsp => ?_⟩
  have Kin : K.In s.heap := e0.mod.kin.keeps fun b o z => (e0.bs b o z).1
  have nl : s.heap.NoLimit := e0.mod.nolimit.keeps fun b o z => (e0.bs b o z).1
  have places : ∀ y ∈ ps.zip us, (defScope st).names.lookup y.1 = some .local ∨ ((defScope st).names.lookup y.1 = some .cell ∧ ((cellsFrom (s.heap.objs.size + 1) (defScope st).names []).lookup y.1).isSome = true) := fun y hy =>
    (S.par y.1 (List.of_mem_zip (show (y.1, y.2) ∈ ps.zip us from hy)).1).elim .inl fun q => .inr ⟨q, PySem.W.cellsFrom_some _ _ _ (.inl q)⟩
  refine codeAny_call_function hr.r.depth (Kin _ _ lk) rfl S.co S.gen rfl (PySem.W.codeRec_of Kin code) (hb _ _ _ _ (wpAny_newFunctionEnv_cells S.kind places fun env he s1 new => ?_))
  subst he
  obtain ⟨t, ht, hq⟩ := body cdv A outer s H vs Q E (hr.deeper _) hsp
  have J : Inv (cxOf CX P w K mg base N qual (defScope st) f cdv A outer s H E) [] (start N vs) H s1 := inv_start S hr.r.hd e0 (len _ _ _ _ hsp) rv new
  refine ⟨nl.keeps new.toInCall.keep, codeAny_func (wpAny_mono (ht.run [] s1 (start N vs) H _ J hq) (fun fl s' z => ?_) fun _ _ z => z)⟩
  rcases fl with _ | _ | _ | u
  · obtain ⟨σ', H', J', q⟩ := z
    exact ⟨V.non, H', J'.os, J'.bare, J'.base, J'.hok, rfl, q⟩
  · obtain ⟨_, _, _, q⟩ := z
    exact q.elim
  · obtain ⟨_, _, _, q⟩ := z
    exact q.elim
  · obtain ⟨v, σ', H', J', r', q⟩ := z
    exact ⟨v, H', J'.os, J'.bare, J'.base, J'.hok, r', q⟩
end
/-! ### the law's call -/
section
/-- the script as it is handed over: known, unless it is one of the module's own objects -/
def scrO (vs : List Value) : Obj := { cls := .type "list", data := .seq vs.toArray }
def scrH (K : PySem.W.Frag) (a : Addr) (vs : List Value) (ns : List Int) : Hp := fun b => if b = a ∧ K.lookup a = none then some (.frz (scrO vs) (.lst (ns.map V.int))) else none
theorem scrH_some {K : PySem.W.Frag} {a b : Addr} {vs : List Value} {ns : List Int} {u : HO} (h : scrH K a vs ns b = some u) : b = a ∧ K.lookup a = none ∧ u = .frz (scrO vs) (.lst (ns.map V.int)) := by
  unfold scrH at h
  split at h
  · rename_i c
    exact ⟨c.1, c.2, (Option.some.inj h).symm⟩
  · cases h
theorem scrH_ne {K : PySem.W.Frag} {a b : Addr} {vs : List Value} {ns : List Int} (h : b ≠ a) : scrH K a vs ns b = none := if_neg fun z => h z.1
theorem scrH_only {K : PySem.W.Frag} {a : Addr} {vs : List Value} {ns : List Int} : Only (scrH K a vs ns) := fun b => by
  cases e : scrH K a vs ns b with
  | none => exact .inl rfl
  | some u => exact .inr ⟨_, _, congrArg some (scrH_some e).2.2⟩
variable {P : Program} {w : World} {K : PySem.W.Frag} {mg mb : Str → Option Value} {k : Nat} {fa a : Addr} {fd : FuncData} {x : Str} {sp : Sp} {s : Shared} {vs : List Value} {ns : List Int}
theorem scr_ok (ha : s.heap.get? a = some (scrO vs)) (hi : IntsAre vs ns) (hl : ns.length ≤ sizeLine) : HOk P w (scrH K a vs ns) s.heap := fun b u e => by
  obtain ⟨rfl, _, rfl⟩ := scrH_some e
  exact ⟨ha, by rw [List.length_map]; exact hl, vs, _, vals_ints hi, ha⟩
theorem scr_seq (KX : K.In s.heap) (ha : s.heap.get? a = some (scrO vs)) (hi : IntsAre vs ns) (hl : ns.length ≤ sizeLine) : SqL K (scrH K a vs ns) a (ns.map V.int) := by
  cases hk : K.lookup a with
  | none => exact .inl (.inr ⟨scrO vs, if_pos ⟨rfl, hk⟩⟩)
  | some o =>
    have q : o = scrO vs := Option.some.inj ((KX a o hk).symm.trans ha)
    subst q
    exact .inr ⟨_, vs.toArray, _, hk, rfl, rfl, rfl, by rw [List.size_toArray, hi.length]; exact hl, by simpa using vals_ints hi⟩
theorem scr_end {H' : Hp} {s' : Shared} (ha : s.heap.get? a = some (scrO vs)) (un : Un (frs []) [] (scrH K a vs ns) H' s.heap s'.heap) (ok' : HOk P w H' s'.heap) : OldK s.heap s'.heap := OldK.of_keep fun b o e => by
  by_cases hb : b = a
  · subst hb
    cases q : scrH K b vs ns b with
    | none => exact un.keep b o e q (fun z => nomatch z) (fun z => nomatch z)
    | some u =>
      obtain ⟨_, _, rfl⟩ := scrH_some q
      have z := (ok' b _ (un.frzs b _ _ q)).1
      have e' : o = scrO vs := Option.some.inj (e.symm.trans ha)
      rw [e']
      exact z
  · exact un.keep b o e (scrH_ne hb) (fun z => nomatch z) (fun z => nomatch z)
/-- the law's def is called by the row, with no repr around -/
theorem law_goG (KX : K.In s.heap) (hns : s.heap.Ns mainGlobals mg) (hbn : s.heap.Ns builtinsNs mb) (hbb : ∀ x : Str, x ≠ "__name__" → mb x = bootBuiltins x) (nl : s.heap.NoLimit) (hg : s.gens = #[]) (ha : s.heap.get? a = some (scrO vs)) (hi : IntsAre vs ns) (hl : ns.length ≤ sizeLine) (hr : Room k callerA) (hsm : ∃ mm, s.heap.Ns sysModules mm)
    (G : ∀ base : Heap, K.In base → base.Ns mainGlobals mg → (∃ o, base.get? sysModules = some o) → FnG P w K mg base CX0 k fa fd [x] sp) (bind : ∀ (s : Shared) (u : Value), BindsTo s fd ⟨[u], []⟩ [(x, u)]) (hsp : ∀ H : Hp, Only H → SqL K H a (ns.map V.int) → sp [.ref a] H (fun v _ => v = .bl true) E0) :
    codeAny (model P w) callerA (.call (.ref fa) ⟨[.ref a], []⟩) (fun r s' => r = .ok (.ret (.bool true)) ∧ OldK s.heap s'.heap ∧ s'.os = s.os ∧ AllBare s'.gens) s := by
  have low : ∀ {b : Addr} {o : Obj}, s.heap.get? b = some o → scrH K a vs ns b = none → (hidT s.heap (scrH K a vs ns)).get? b = some o := fun e n => hidT_get e n
  have dictNe : ∀ {b : Addr} {o : Obj} {es : Array DictEntry} {ep : Nat}, s.heap.get? b = some o → o.data = .dict es ep → b ≠ a := fun {b o es ep} e q z => by
    rw [z, ha] at e
    have r := (congrArg Obj.data (Option.some.inj e)).trans q
    cases (show Data.seq vs.toArray _ = Data.dict es ep from r)
  have keepNs : ∀ {b : Addr} {m : Str → Option Value}, s.heap.Ns b m → (hidT s.heap (scrH K a vs ns)).Ns b m := fun {b m} ⟨o, es, ep, e, q, r⟩ => ⟨o, es, ep, low e (scrH_ne (dictNe e q)), q, r⟩
  have KB : K.In (hidT s.heap (scrH K a vs ns)) := fun b o e => low (KX b o e) (by
    cases q : scrH K a vs ns b with
    | none => rfl
    | some u =>
      obtain ⟨rfl, n, _⟩ := scrH_some q
      rw [n] at e
      cases e)
  have md : Mod K mg (hidT s.heap (scrH K a vs ns)) := by
    obtain ⟨mc, l1, l2⟩ := nl
    exact ⟨KB, keepNs hns, ⟨mb, keepNs hbn, hbb⟩, ⟨mc, keepNs l1, l2⟩⟩
  have sysL : ∃ o, (hidT s.heap (scrH K a vs ns)).get? sysModules = some o := by
    obtain ⟨mm, q⟩ := hsm
    obtain ⟨o, _, _, z, _⟩ := keepNs q
    exact ⟨o, z⟩
  have start : Env0 P w K mg (hidT s.heap (scrH K a vs ns)) callerA [] s (scrH K a vs ns) :=
    { frames := rfl, mod := md, bs := fun b o e => of_hidT e, bsz := Nat.le_of_eq (hidT_size _ _), funs := trivial, frf := (fun b z => nomatch z), hok := scr_ok ha hi hl, bare := .of_eq hg }
  refine codeAny_mono ((G _ KB (keepNs hns) sysL).run callerA [] s _ ⟨[.ref a], []⟩ [.ref a] [.ref a] _ _ ⟨hr, rfl⟩ start (bind s (.ref a)) (.cons rfl .nil) (hsp _ scrH_only (scr_seq KX ha hi hl))) fun r s' z => ?_
  rcases r with er | (_ | _ | _ | u)
  · exact z.elim
  · exact z.elim
  · exact z.elim
  · exact z.elim
  · obtain ⟨v, H', os, bare, un, ok', rv, q⟩ := z
    have q' : v = .bl true := q
    subst q'
    have e : u = Value.bool true := rv
    subst e
    exact ⟨rfl, scr_end ha un ok', os, bare⟩
end
/-- from the law's promise to the row's walk, with no repr around -/
theorem walkG {l : PySem.W.OpenLaw} {n k : Nat} {q : Program} {loose : List Str} {XP : (Str → Option Value) → Heap → Prop} {YP : World → Heap → Prop} {d : DefRec} {K : Params → PySem.W.Frag} {sp : PySem.W.Frag → Sp} {x : Str}
    (hn : l.most = some n) (hn2 : n ≤ sizeLine) (hdf : d.params.defaults = []) (hr : Room k callerA) (hno : importsNone q = true) (hY : ∀ (w : World) (h : Heap), YP w h → (K w.params).In h)
    (G : ∀ (w : World) (mg : Str → Option Value) (fa : Addr) (h : Heap), (K w.params).In h → h.Ns mainGlobals mg → mg d.name = some (.ref fa) →
      ∃ fd : FuncData, (∀ (s : Shared) (u : Value), BindsTo s fd ⟨[u], []⟩ [(x, u)]) ∧ ∀ base : Heap, (K w.params).In base → base.Ns mainGlobals mg → (∃ o, base.get? sysModules = some o) → FnG l.prog w (K w.params) mg base CX0 k fa fd [x] (sp (K w.params)))
    (hsp : ∀ (K : PySem.W.Frag) (H : Hp) (a : Addr) (ns : List Int), ns.length ≤ n → Only H → SqL K H a (ns.map V.int) → sp K [.ref a] H (fun v _ => v = .bl true) E0) : PySem.W.WalkO q loose XP YP l.row.toRowW d [] (fun f vs => PySem.call f vs) :=
  Att.attach_call hn hdf fun w _ s₁ mg mb fa o pm cd doc a vs ns Gr Y _ _ _ hmg hobj hints hlen hg => by
    have KX := hY w _ Y
    obtain ⟨fd, hb, hF⟩ := G w mg fa _ KX Gr.T.g hmg
    exact law_goG KX Gr.T.g Gr.T.b Gr.T.builtins Gr.T.nolimit hg hobj hints (Nat.le_trans hlen hn2) hr (by obtain ⟨mm, z, _⟩ := (Gr.T.seer hno).mods; exact ⟨mm, z⟩) hF hb fun H hO hS => hsp _ H a ns hlen hO hS
end DL

set_option Elab.async false
set_option linter.all false
set_option maxRecDepth 100000
/-! DL: a layer of data over HandS: values as trees, one state of what may change, and readings that speak of data alone. -/
namespace DL
open PySem PySem.Spec PyProof.Rows L2

/-- data: what a value is, all the way down -/
inductive D where
  | non | bl (b : Bool) | int (i : Int) | str (x : Str) | lst (xs : List D) | tup (xs : List D)
  | dic (ks : List Key) (vs : List D) | ins (C : Addr) (ns : List Str) (vs : List D) | any (v : V) | fz (xs : List D) | exc (C : Addr) (ns : List Str) (vs : List D)

/-- the texts that are spoken of -/
abbrev strLim : Nat := 1000000
def sOk (x : Str) : Bool := decide (x.length ≤ strLim) && x.cps.toList.all (fun c => decide (c < 0x110000))
theorem sOk_len {x : Str} (h : sOk x = true) : x.length ≤ strLim := by
  unfold sOk at h
  rw [Bool.and_eq_true] at h
  exact of_decide_eq_true h.1
theorem sOk_cps {x : Str} (h : sOk x = true) : ∀ c ∈ x.cps.toList, c < 0x110000 := fun c hc => by
  unfold sOk at h
  rw [Bool.and_eq_true] at h
  exact of_decide_eq_true (List.all_eq_true.mp h.2 c hc)
theorem sOk_of {x : Str} (h : x.length ≤ strLim) (k : ∀ c ∈ x.cps.toList, c < 0x110000) : sOk x = true := by
  unfold sOk
  rw [Bool.and_eq_true]
  exact ⟨decide_eq_true h, List.all_eq_true.mpr fun c hc => decide_eq_true (k c hc)⟩
theorem strLim_line : strLim + 2 ≤ sizeLine := by decide
mutual
/-- the value v is the data d, by what stands in F (which never changes) -/
def Rep (K : PySem.W.Frag) (F : Hp) : D → V → Prop
  | .non, v => v = .non
  | .bl b, v => v = .bl b
  | .int i, v => v = .int i
  | .str x, v => v = .str x ∧ sOk x = true
  | .lst ds, v => ∃ a vs, v = .ref a ∧ F a = some (.lst vs) ∧ vs.length ≤ sizeLine ∧ Reps K F ds vs
  | .tup ds, v => ∃ a vs, v = .ref a ∧ SqT K F a vs ∧ vs.length ≤ sizeLine ∧ Reps K F ds vs
  | .dic ks ds, v => ∃ a kvs, v = .ref a ∧ F a = some (.dK kvs) ∧ kvs.length ≤ sizeLine ∧ kvs.map (·.1) = ks ∧ Reps K F ds (kvs.map (·.2))
  | .ins C ns ds, v => ∃ a dx fs, v = .ref a ∧ F a = some (.ins C dx fs) ∧ fs.map (·.1) = ns ∧ Reps K F ds (fs.map (·.2))
  | .any w, v => v = w
  | .fz ds, v => ∃ a vs, v = .ref a ∧ SqL K F a vs ∧ vs.length ≤ sizeLine ∧ Reps K F ds vs
  | .exc C ns ds, v => ∃ a d fs, v = .ref a ∧ F a = some (exo a C d) ∧ (∀ x, d = some x → F x = some (exd x fs)) ∧ (d = none → fs = []) ∧ fs.map (·.1) = ns ∧ Reps K F ds (fs.map (·.2))
def Reps (K : PySem.W.Frag) (F : Hp) : List D → List V → Prop
  | [], vs => vs = []
  | d :: ds, vs => ∃ v r, vs = v :: r ∧ Rep K F d v ∧ Reps K F ds r
end

theorem Same.seqT {K : PySem.W.Frag} {H H' : Hp} {a : Addr} {xs : List V} (e : Same H H') (h : SqT K H a xs) : SqT K H' a xs := by
  rcases h with (h | ⟨o, h⟩) | h
  · exact .inl (.inl (e _ _ h))
  · exact .inl (.inr ⟨o, e _ _ h⟩)
  · exact .inr h
mutual
theorem Rep.mono {K : PySem.W.Frag} {F F' : Hp} (s : Same F F') : ∀ (d : D) (v : V), Rep K F d v → Rep K F' d v
  | .non, _, h => h
  | .bl _, _, h => h
  | .int _, _, h => h
  | .str _, _, h => h
  | .lst ds, _, ⟨a, vs, e, h, l, r⟩ => ⟨a, vs, e, s _ _ h, l, Reps.mono s ds _ r⟩
  | .tup ds, _, ⟨a, vs, e, h, l, r⟩ => ⟨a, vs, e, Same.seqT s h, l, Reps.mono s ds _ r⟩
  | .dic _ ds, _, ⟨a, kvs, e, h, l, k, r⟩ => ⟨a, kvs, e, s _ _ h, l, k, Reps.mono s ds _ r⟩
  | .ins _ _ ds, _, ⟨a, dx, fs, e, h, k, r⟩ => ⟨a, dx, fs, e, s _ _ h, k, Reps.mono s ds _ r⟩
  | .any _, _, h => h
  | .fz ds, _, ⟨a, vs, e, h, l, r⟩ => ⟨a, vs, e, Same.seq s h, l, Reps.mono s ds _ r⟩
  | .exc _ _ ds, _, ⟨a, d, fs, e, h, h2, h3, k, r⟩ => ⟨a, d, fs, e, s _ _ h, fun x ex => s _ _ (h2 x ex), h3, k, Reps.mono s ds _ r⟩
theorem Reps.mono {K : PySem.W.Frag} {F F' : Hp} (s : Same F F') : ∀ (ds : List D) (vs : List V), Reps K F ds vs → Reps K F' ds vs
  | [], _, h => h
  | d :: ds, _, ⟨v, r, e, h, t⟩ => ⟨v, r, e, Rep.mono s d v h, Reps.mono s ds r t⟩
end
theorem Reps.length {K : PySem.W.Frag} {F : Hp} : ∀ {ds : List D} {vs : List V}, Reps K F ds vs → vs.length = ds.length
  | [], _, h => by cases h; rfl
  | d :: ds, _, ⟨v, r, e, _, t⟩ => by subst e; rw [List.length_cons, List.length_cons, Reps.length t]
theorem Reps.nil {K : PySem.W.Frag} {F : Hp} : Reps K F [] [] := rfl
theorem Reps.cons {K : PySem.W.Frag} {F : Hp} {d : D} {ds : List D} {v : V} {vs : List V} (h : Rep K F d v) (t : Reps K F ds vs) : Reps K F (d :: ds) (v :: vs) := ⟨v, vs, rfl, h, t⟩
theorem Reps.get {K : PySem.W.Frag} {F : Hp} : ∀ {ds : List D} {vs : List V} {i : Nat} {d : D}, Reps K F ds vs → ds[i]? = some d → ∃ v, vs[i]? = some v ∧ Rep K F d v
  | [], _, _, _, _, e => by simp at e
  | x :: ds, _, 0, d, ⟨v, r, e, h, _⟩, q => by
    subst e
    have q' : x = d := by simpa using q
    subst q'
    exact ⟨v, rfl, h⟩
  | x :: ds, _, i + 1, d, ⟨v, r, e, _, t⟩, q => by
    subst e
    have q' : ds[i]? = some d := by simpa using q
    obtain ⟨w, h1, h2⟩ := Reps.get t q'
    exact ⟨w, by simpa using h1, h2⟩
theorem Reps.getV {K : PySem.W.Frag} {F : Hp} {ds : List D} {vs : List V} {i : Nat} {v : V} (h : Reps K F ds vs) (e : vs[i]? = some v) : ∃ d, ds[i]? = some d ∧ Rep K F d v := by
  have hl := h.length
  have hi : i < vs.length := (List.getElem?_eq_some_iff.mp e).1
  have hi' : i < ds.length := by omega
  obtain ⟨w, h1, h2⟩ := h.get (List.getElem?_eq_getElem hi')
  rw [e] at h1
  cases h1
  exact ⟨_, List.getElem?_eq_getElem hi', h2⟩
theorem Reps.append {K : PySem.W.Frag} {F : Hp} : ∀ {ds es : List D} {vs ws : List V}, Reps K F ds vs → Reps K F es ws → Reps K F (ds ++ es) (vs ++ ws)
  | [], _, _, _, h, t => by cases h; exact t
  | d :: ds, _, _, _, ⟨v, r, e, h, t⟩, u => by subst e; exact ⟨v, _, rfl, h, Reps.append t u⟩
theorem Reps.one {K : PySem.W.Frag} {F : Hp} {d : D} {v : V} (h : Rep K F d v) : Reps K F [d] [v] := .cons h .nil
theorem Reps.take {K : PySem.W.Frag} {F : Hp} : ∀ {ds : List D} {vs : List V} (n : Nat), Reps K F ds vs → Reps K F (ds.take n) (vs.take n)
  | _, _, 0, _ => by simp; exact .nil
  | [], _, _ + 1, h => by cases h; simp; exact .nil
  | d :: ds, _, n + 1, ⟨v, r, e, h, t⟩ => by subst e; exact .cons h (Reps.take n t)
theorem Reps.drop {K : PySem.W.Frag} {F : Hp} : ∀ {ds : List D} {vs : List V} (n : Nat), Reps K F ds vs → Reps K F (ds.drop n) (vs.drop n)
  | _, _, 0, h => h
  | [], _, _ + 1, h => by cases h; simp; exact .nil
  | d :: ds, _, n + 1, ⟨v, r, e, h, t⟩ => by subst e; exact Reps.drop n t
theorem Reps.set {K : PySem.W.Frag} {F : Hp} {d : D} {v : V} (h : Rep K F d v) : ∀ {ds : List D} {vs : List V} (i : Nat), Reps K F ds vs → Reps K F (ds.set i d) (vs.set i v)
  | [], _, _, t => by cases t; exact .nil
  | _ :: _, _, 0, ⟨w, r, e, _, t⟩ => by subst e; exact .cons h t
  | _ :: _, _, i + 1, ⟨w, r, e, h', t⟩ => by subst e; exact .cons h' (Reps.set h i t)
theorem Reps.reverse {K : PySem.W.Frag} {F : Hp} : ∀ {ds : List D} {vs : List V}, Reps K F ds vs → Reps K F ds.reverse vs.reverse
  | [], _, h => by cases h; exact .nil
  | d :: ds, _, ⟨v, r, e, h, t⟩ => by
    subst e
    rw [List.reverse_cons, List.reverse_cons]
    exact (Reps.reverse t).append (.one h)
theorem Reps.split {K : PySem.W.Frag} {F : Hp} {x : D} : ∀ {pre post : List D} {vs : List V}, Reps K F (pre ++ x :: post) vs → ∃ v, vs[pre.length]? = some v ∧ Rep K F x v := fun h => h.get (by simp)
theorem reps_ints {K : PySem.W.Frag} {F : Hp} : ∀ {ns : List Int} {vs : List V}, Reps K F (ns.map D.int) vs → vs = ns.map V.int
  | [], _, h => by cases h; rfl
  | n :: ns, _, ⟨v, r, e, h, t⟩ => by subst e; cases h; rw [reps_ints t]; rfl
theorem reps_of_ints {K : PySem.W.Frag} {F : Hp} : ∀ (ns : List Int), Reps K F (ns.map D.int) (ns.map V.int)
  | [] => .nil
  | n :: ns => .cons rfl (reps_of_ints ns)
theorem reps_strs {K : PySem.W.Frag} {F : Hp} : ∀ {ns : List Str} {vs : List V}, Reps K F (ns.map D.str) vs → vs = ns.map V.str ∧ ∀ x ∈ ns, sOk x = true
  | [], _, h => by cases h; exact ⟨rfl, by simp⟩
  | n :: ns, _, ⟨v, r, e, h, t⟩ => by
    subst e
    obtain ⟨h1, h2⟩ := h
    obtain ⟨h3, h4⟩ := reps_strs t
    subst h1 h3
    exact ⟨rfl, fun x hx => by rcases List.mem_cons.mp hx with e | hx; · subst e; exact h2
                               · exact h4 x hx⟩
theorem reps_of_strs {K : PySem.W.Frag} {F : Hp} : ∀ (ns : List Str), (∀ x ∈ ns, sOk x = true) → Reps K F (ns.map D.str) (ns.map V.str)
  | [], _ => .nil
  | n :: ns, h => .cons ⟨rfl, h n List.mem_cons_self⟩ (reps_of_strs ns fun x hx => h x (List.mem_cons_of_mem _ hx))
theorem reps_of_bls {K : PySem.W.Frag} {F : Hp} : ∀ (ns : List Bool), Reps K F (ns.map D.bl) (ns.map V.bl)
  | [] => .nil
  | n :: ns => .cons rfl (reps_of_bls ns)
theorem reps_bls {K : PySem.W.Frag} {F : Hp} : ∀ {ns : List Bool} {vs : List V}, Reps K F (ns.map D.bl) vs → vs = ns.map V.bl
  | [], _, h => by cases h; rfl
  | n :: ns, _, ⟨v, r, e, h, t⟩ => by subst e; cases h; rw [reps_bls t]; rfl

/-! ### what may change -/
/-- what a law's defs change: its state, how the heap bears it, where it lies -/
structure Mem where
  S : Type
  M : S → Hp → Prop
  R : S → Addr → Prop
  loc : ∀ s H H', M s H → (∀ a, R s a → H' a = H a) → M s H'
  there : ∀ s H a, M s H → R s a → H a ≠ none
/-- nothing -/
def Mem.nil : Mem := ⟨Unit, fun _ _ => True, fun _ _ => False, fun _ _ _ _ _ => trivial, fun _ _ _ _ h => h.elim⟩

/-- an object that a def has made and alone knows: it may be changed -/
inductive Ob where
  | lst (ds : List D)
  | dic (ks : List Key) (ds : List D)
inductive Sl where
  | no
  | sh (d : D)
  | ow (o : Ob)
def ObAt (K : PySem.W.Frag) (F : Hp) : Ob → HO → Prop
  | .lst ds, o => ∃ vs, o = .lst vs ∧ vs.length ≤ sizeLine ∧ Reps K F ds vs
  | .dic ks ds, o => ∃ kvs : List (Key × V), o = .dK kvs ∧ kvs.length ≤ sizeLine ∧ kvs.map (·.1) = ks ∧ Reps K F ds (kvs.map (·.2))
theorem ObAt.mono {K : PySem.W.Frag} {F F' : Hp} (s : Same F F') {o : Ob} {ho : HO} (h : ObAt K F o ho) : ObAt K F' o ho := by
  cases o with
  | lst ds => obtain ⟨vs, e, l, r⟩ := h; exact ⟨vs, e, l, Reps.mono s _ _ r⟩
  | dic ks ds => obtain ⟨kvs, e, l, k, r⟩ := h; exact ⟨kvs, e, l, k, Reps.mono s _ _ r⟩
/-- .. as data that does not change any more -/
def Ob.d : Ob → D
  | .lst ds => .lst ds
  | .dic ks ds => .dic ks ds
theorem ObAt.rep {K : PySem.W.Frag} {F F' : Hp} {o : Ob} {ho : HO} {a : Addr} (h : ObAt K F o ho) (s : Same F F') (e : F' a = some ho) : Rep K F' o.d (.ref a) := by
  cases o with
  | lst ds => obtain ⟨vs, rfl, l, r⟩ := h; exact ⟨a, vs, rfl, e, l, Reps.mono s _ _ r⟩
  | dic ks ds => obtain ⟨kvs, rfl, l, k, r⟩ := h; exact ⟨a, kvs, rfl, e, l, k, Reps.mono s _ _ r⟩

/-- the slot i owns the object at p -/
def Owns (σ : L2.St) (ρ : List Sl) (i : Nat) (p : Addr) : Prop := (∃ o, ρ[i]? = some (Sl.ow o)) ∧ σ[i]? = some (some (V.ref p))

structure Rel (K : PySem.W.Frag) (m : Mem) (F H : Hp) (σ : L2.St) (ρ : List Sl) (s : m.S) : Prop where
  sub : Same F H
  mem : m.M s H
  reg : ∀ a, m.R s a → F a = none
  len : σ.length = ρ.length
  sh : ∀ (i : Nat) d, ρ[i]? = some (Sl.sh d) → ∃ v, σ[i]? = some (some v) ∧ Rep K F d v
  ow : ∀ (i : Nat) o, ρ[i]? = some (Sl.ow o) → ∃ p ho, σ[i]? = some (some (V.ref p)) ∧ H p = some ho ∧ ObAt K F o ho
  owF : ∀ (i : Nat) p, Owns σ ρ i p → F p = none ∧ ¬ m.R s p
  uq : ∀ (i j : Nat) p, Owns σ ρ i p → Owns σ ρ j p → i = j

/-- from one state to a later one, the slots' values σ the same -/
structure Stp (m : Mem) (F H : Hp) (σ : L2.St) (ρ : List Sl) (s : m.S) (F' H' : Hp) (ρ' : List Sl) (s' : m.S) : Prop where
  ext : Same F F'
  keep : ∀ a o, H a = some o → ¬ m.R s a → H' a = some o
  alive : ∀ a, H a ≠ none → H' a ≠ none
  fresh : ∀ a o, F' a = some o → F a = some o ∨ H a = none ∨ ∃ i, Owns σ ρ i a
  regf : ∀ a, m.R s' a → m.R s a ∨ H a = none
  shr : ∀ (i : Nat) o, ρ'[i]? = some (Sl.ow o) → ρ[i]? = some (Sl.ow o)
theorem Stp.refl {m : Mem} {F H : Hp} {σ : L2.St} {ρ : List Sl} {s : m.S} : Stp m F H σ ρ s F H ρ s :=
  ⟨Same.refl F, fun _ _ h _ => h, fun _ h => h, fun _ _ h => .inl h, fun _ h => .inl h, fun _ _ h => h⟩
theorem Stp.owns {m : Mem} {F H F' H' : Hp} {σ : L2.St} {ρ ρ' : List Sl} {s s' : m.S} (a : Stp m F H σ ρ s F' H' ρ' s') {i : Nat} {p : Addr} (h : Owns σ ρ' i p) : Owns σ ρ i p := by
  obtain ⟨⟨o, e⟩, q⟩ := h
  exact ⟨⟨o, a.shr i o e⟩, q⟩
theorem Stp.trans {m : Mem} {F H F1 H1 F2 H2 : Hp} {σ : L2.St} {ρ ρ1 ρ2 : List Sl} {s s1 s2 : m.S} (a : Stp m F H σ ρ s F1 H1 ρ1 s1) (b : Stp m F1 H1 σ ρ1 s1 F2 H2 ρ2 s2) : Stp m F H σ ρ s F2 H2 ρ2 s2 where
  ext := a.ext.trans b.ext
  keep := fun p o h n => b.keep p o (a.keep p o h n) fun r => by
    rcases a.regf p r with r | r
    · exact n r
    · rw [r] at h; cases h
  alive := fun p h => b.alive p (a.alive p h)
  fresh := fun p o h => by
    rcases b.fresh p o h with h | h | ⟨i, h⟩
    · exact a.fresh p o h
    · refine .inr (.inl ?_)
      cases q : H p with
      | none => rfl
      | some u => exact absurd h (a.alive p (by rw [q]; simp))
    · exact .inr (.inr ⟨i, a.owns h⟩)
  regf := fun p h => by
    rcases b.regf p h with h | h
    · exact a.regf p h
    · refine .inr ?_
      cases q : H p with
      | none => rfl
      | some u => exact absurd h (a.alive p (by rw [q]; simp))
  shr := fun i o h => a.shr i o (b.shr i o h)

/-- new objects alone -/
structure Grow (F H F' H' : Hp) : Prop where
  fF : Same F F'
  hH : Same H H'
  fH : Same F' H'
  fresh : ∀ a o, F' a = some o → F a = some o ∨ H a = none
theorem Grow.refl {F H : Hp} (h : Same F H) : Grow F H F H := ⟨Same.refl _, Same.refl _, h, fun _ _ h => .inl h⟩
theorem same_upd {H : Hp} {p : Addr} {o : HO} (h : H p = none) : Same H (upd H p o) := fun b x e => by
  rw [upd_ne (ne_of_none e h)]
  exact e
theorem Grow.new {F H : Hp} {p : Addr} {o : HO} (h : Same F H) (n : H p = none) : Grow F H (upd F p o) (upd H p o) := by
  have nF : F p = none := h.free n
  refine ⟨same_upd nF, same_upd n, fun b x e => ?_, fun b x e => ?_⟩
  · by_cases hb : b = p
    · subst hb; rw [upd_same] at e ⊢; exact e
    · rw [upd_ne hb] at e ⊢; exact h _ _ e
  · by_cases hb : b = p
    · subst hb; exact .inr n
    · rw [upd_ne hb] at e; exact .inl e
theorem Grow.trans {F H F1 H1 F2 H2 : Hp} (a : Grow F H F1 H1) (b : Grow F1 H1 F2 H2) : Grow F H F2 H2 :=
  ⟨a.fF.trans b.fF, a.hH.trans b.hH, b.fH, fun p o h => by
    rcases b.fresh p o h with h | h
    · exact a.fresh p o h
    · exact .inr (a.hH.free h)⟩
section
variable {K : PySem.W.Frag} {m : Mem} {F H F' H' : Hp} {σ : L2.St} {ρ : List Sl} {s : m.S}
theorem Grow.stp (g : Grow F H F' H') : Stp m F H σ ρ s F' H' ρ s :=
  ⟨g.fF, fun a o h _ => g.hH a o h, fun a h => by
    cases q : H a with
    | none => exact absurd q h
    | some u => rw [g.hH a u q]; simp, fun a o h => (g.fresh a o h).elim .inl fun z => .inr (.inl z), fun _ h => .inl h, fun _ _ h => h⟩
theorem Rel.grow (r : Rel K m F H σ ρ s) (g : Grow F H F' H') : Rel K m F' H' σ ρ s where
  sub := g.fH
  mem := m.loc s H H' r.mem fun a ha => by
    have q := m.there s H a r.mem ha
    cases e : H a with
    | none => exact absurd e q
    | some u => exact g.hH a u e
  reg := fun a ha => by
    cases e : F' a with
    | none => rfl
    | some u =>
      rcases g.fresh a u e with z | z
      · rw [r.reg a ha] at z; cases z
      · exact absurd z (m.there s H a r.mem ha)
  len := r.len
  sh := fun i d e => by
    obtain ⟨v, h1, h2⟩ := r.sh i d e
    exact ⟨v, h1, Rep.mono g.fF _ _ h2⟩
  ow := fun i o e => by
    obtain ⟨p, ho, h1, h2, h3⟩ := r.ow i o e
    exact ⟨p, ho, h1, g.hH _ _ h2, h3.mono g.fF⟩
  owF := fun i p h => by
    obtain ⟨h1, h2⟩ := r.owF i p h
    refine ⟨?_, h2⟩
    cases e : F' p with
    | none => rfl
    | some u =>
      rcases g.fresh p u e with z | z
      · rw [h1] at z; cases z
      · obtain ⟨⟨o, q1⟩, q2⟩ := h
        obtain ⟨p', ho, e1, e2, _⟩ := r.ow i o q1
        rw [q2] at e1; cases e1
        rw [z] at e2; cases e2
  uq := r.uq
/-- an owned object is known, and changes no more -/
theorem Rel.own_at (r : Rel K m F H σ ρ s) {i : Nat} {o : Ob} (e : ρ[i]? = some (Sl.ow o)) : ∃ p ho, σ[i]? = some (some (V.ref p)) ∧ H p = some ho ∧ ObAt K F o ho ∧ F p = none ∧ ¬ m.R s p := by
  obtain ⟨p, ho, h1, h2, h3⟩ := r.ow i o e
  obtain ⟨h4, h5⟩ := r.owF i p ⟨⟨o, e⟩, h1⟩
  exact ⟨p, ho, h1, h2, h3, h4, h5⟩
/-- an object that no slot owns becomes known -/
theorem Rel.adopt (r : Rel K m F H σ ρ s) {p : Addr} {ho : HO} (h : H p = some ho) (n : F p = none) (nr : ¬ m.R s p) (no : ∀ i, ¬ Owns σ ρ i p) : Rel K m (upd F p ho) H σ ρ s where
  sub := fun b x e => by
    by_cases hb : b = p
    · subst hb; rw [upd_same] at e; cases e; exact h
    · rw [upd_ne hb] at e; exact r.sub _ _ e
  mem := r.mem
  reg := fun a ha => by
    have hb : a ≠ p := fun z => nr (z ▸ ha)
    rw [upd_ne hb]; exact r.reg a ha
  len := r.len
  sh := fun i d e => by
    obtain ⟨v, h1, h2⟩ := r.sh i d e
    exact ⟨v, h1, Rep.mono (same_upd n) _ _ h2⟩
  ow := fun i o e => by
    obtain ⟨q, ho', h1, h2, h3⟩ := r.ow i o e
    exact ⟨q, ho', h1, h2, h3.mono (same_upd n)⟩
  owF := fun i q hq => by
    obtain ⟨h1, h2⟩ := r.owF i q hq
    have hb : q ≠ p := fun z => no i (z ▸ hq)
    exact ⟨by rw [upd_ne hb]; exact h1, h2⟩
  uq := r.uq
/-- a slot forgotten, or one that was owned now shared -/
theorem Rel.share (r : Rel K m F H σ ρ s) {i : Nat} {o : Ob} {p : Addr} {ho : HO} (e : ρ[i]? = some (Sl.ow o)) (eσ : σ[i]? = some (some (V.ref p))) (h : H p = some ho) (ob : ObAt K F o ho) :
    Rel K m (upd F p ho) H σ (ρ.set i (.sh o.d)) s ∧ Stp m F H σ ρ s (upd F p ho) H (ρ.set i (.sh o.d)) s ∧ Rep K (upd F p ho) o.d (.ref p) := by
  obtain ⟨n, nr⟩ := r.owF i p ⟨⟨o, e⟩, eσ⟩
  have hi : i < ρ.length := (List.getElem?_eq_some_iff.mp e).1
  have sm : Same F (upd F p ho) := same_upd n
  have rp : Rep K (upd F p ho) o.d (.ref p) := ob.rep sm upd_same
  have back : ∀ j q, Owns σ (ρ.set i (.sh o.d)) j q → j ≠ i ∧ Owns σ ρ j q := fun j q ⟨⟨o', h1⟩, h2⟩ => by
    by_cases hj : i = j
    · subst hj; rw [List.getElem?_set_self hi] at h1; cases h1
    · rw [List.getElem?_set_ne hj] at h1; exact ⟨Ne.symm hj, ⟨o', h1⟩, h2⟩
  refine ⟨⟨fun b x z => ?_, r.mem, fun a ha => ?_, by rw [List.length_set]; exact r.len, fun j d z => ?_, fun j o' z => ?_, fun j q z => ?_, fun j k q h1 h2 => r.uq j k q (back j q h1).2 (back k q h2).2⟩, ?_, rp⟩
  · by_cases hb : b = p
    · subst hb; rw [upd_same] at z; cases z; exact h
    · rw [upd_ne hb] at z; exact r.sub _ _ z
  · have hb : a ≠ p := fun z => nr (z ▸ ha)
    rw [upd_ne hb]; exact r.reg a ha
  · by_cases hj : i = j
    · subst hj
      rw [List.getElem?_set_self hi] at z
      cases z
      exact ⟨_, eσ, rp⟩
    · rw [List.getElem?_set_ne hj] at z
      obtain ⟨v, h1, h2⟩ := r.sh j d z
      exact ⟨v, h1, Rep.mono sm _ _ h2⟩
  · by_cases hj : i = j
    · subst hj
      rw [List.getElem?_set_self hi] at z
      cases z
    · rw [List.getElem?_set_ne hj] at z
      obtain ⟨q, ho', h1, h2, h3⟩ := r.ow j o' z
      exact ⟨q, ho', h1, h2, h3.mono sm⟩
  · obtain ⟨hj, hq⟩ := back j q z
    obtain ⟨h1, h2⟩ := r.owF j q hq
    have hb : q ≠ p := fun w => hj (r.uq j i q hq (by rw [w]; exact ⟨⟨o, e⟩, eσ⟩))
    exact ⟨by rw [upd_ne hb]; exact h1, h2⟩
  · refine ⟨sm, fun _ _ z _ => z, fun _ z => z, fun a x z => ?_, fun _ z => .inl z, fun j o' z => ?_⟩
    · by_cases hb : a = p
      · subst hb; exact .inr (.inr ⟨i, ⟨o, e⟩, eσ⟩)
      · rw [upd_ne hb] at z; exact .inl z
    · by_cases hj : i = j
      · subst hj; rw [List.getElem?_set_self hi] at z; cases z
      · rw [List.getElem?_set_ne hj] at z; exact z
/-- a slot is set to known data -/
theorem Rel.put (r : Rel K m F H σ ρ s) {i : Nat} {d : D} {v : V} (h : Rep K F d v) : Rel K m F H (σ.set i (some v)) (ρ.set i (.sh d)) s := by
  have back : ∀ j q, Owns (σ.set i (some v)) (ρ.set i (.sh d)) j q → Owns σ ρ j q := fun j q ⟨⟨o', h1⟩, h2⟩ => by
    by_cases hj : i = j
    · subst hj
      by_cases hi : i < ρ.length
      · rw [List.getElem?_set_self hi] at h1; cases h1
      · rw [List.getElem?_eq_none (by simpa using hi)] at h1; cases h1
    · rw [List.getElem?_set_ne hj] at h1 h2; exact ⟨⟨o', h1⟩, h2⟩
  refine ⟨r.sub, r.mem, r.reg, by rw [List.length_set, List.length_set]; exact r.len, fun j d' z => ?_, fun j o' z => ?_, fun j q z => r.owF j q (back j q z), fun j k q h1 h2 => r.uq j k q (back j q h1) (back k q h2)⟩
  · by_cases hj : i = j
    · subst hj
      have hi : i < ρ.length := by
        have := (List.getElem?_eq_some_iff.mp z).1
        rw [List.length_set] at this; exact this
      rw [List.getElem?_set_self hi] at z
      cases z
      exact ⟨v, List.getElem?_set_self (by rw [r.len]; exact hi), h⟩
    · rw [List.getElem?_set_ne hj] at z
      obtain ⟨w, h1, h2⟩ := r.sh j d' z
      exact ⟨w, by rw [List.getElem?_set_ne hj]; exact h1, h2⟩
  · by_cases hj : i = j
    · subst hj
      have hi : i < ρ.length := by
        have := (List.getElem?_eq_some_iff.mp z).1
        rw [List.length_set] at this; exact this
      rw [List.getElem?_set_self hi] at z
      cases z
    · rw [List.getElem?_set_ne hj] at z
      obtain ⟨q, ho', h1, h2, h3⟩ := r.ow j o' z
      exact ⟨q, ho', by rw [List.getElem?_set_ne hj]; exact h1, h2, h3⟩
/-- a slot is set to a new object of its own -/
theorem Rel.putO (r : Rel K m F H σ ρ s) {i : Nat} {o : Ob} {p : Addr} {ho : HO} (n : H p = none) (ob : ObAt K F o ho) : Rel K m F (upd H p ho) (σ.set i (some (.ref p))) (ρ.set i (.ow o)) s := by
  have nF : F p = none := r.sub.free n
  have nr : ¬ m.R s p := fun z => m.there s H p r.mem z n
  have other : ∀ j q, i ≠ j → Owns (σ.set i (some (.ref p))) (ρ.set i (.ow o)) j q → Owns σ ρ j q := fun j q hj ⟨⟨o', h1⟩, h2⟩ => by
    rw [List.getElem?_set_ne hj] at h1 h2; exact ⟨⟨o', h1⟩, h2⟩
  have old : ∀ j q, Owns σ ρ j q → q ≠ p := fun j q ⟨⟨o', h1⟩, h2⟩ z => by
    obtain ⟨q', ho', e1, e2, _⟩ := r.ow j o' h1
    rw [h2] at e1; cases e1
    rw [z, n] at e2; cases e2
  have self : ∀ q, Owns (σ.set i (some (.ref p))) (ρ.set i (.ow o)) i q → q = p := fun q ⟨⟨o', h1⟩, h2⟩ => by
    have hi : i < σ.length := by
      have := (List.getElem?_eq_some_iff.mp h2).1
      rw [List.length_set] at this; exact this
    rw [List.getElem?_set_self hi] at h2
    cases h2; rfl
  refine ⟨fun b x e => ?_, m.loc s H _ r.mem fun a ha => upd_ne fun z => nr (z ▸ ha), r.reg, by rw [List.length_set, List.length_set]; exact r.len, fun j d' z => ?_, fun j o' z => ?_, fun j q z => ?_, fun j k q h1 h2 => ?_⟩
  · have hb : b ≠ p := fun z => by subst z; rw [nF] at e; cases e
    rw [upd_ne hb]; exact r.sub _ _ e
  · by_cases hj : i = j
    · subst hj
      have hi : i < ρ.length := by
        have := (List.getElem?_eq_some_iff.mp z).1
        rw [List.length_set] at this; exact this
      rw [List.getElem?_set_self hi] at z
      cases z
    · rw [List.getElem?_set_ne hj] at z
      obtain ⟨w, h1, h2⟩ := r.sh j d' z
      exact ⟨w, by rw [List.getElem?_set_ne hj]; exact h1, h2⟩
  · by_cases hj : i = j
    · subst hj
      have hi : i < ρ.length := by
        have := (List.getElem?_eq_some_iff.mp z).1
        rw [List.length_set] at this; exact this
      rw [List.getElem?_set_self hi] at z
      cases z
      exact ⟨p, ho, List.getElem?_set_self (by rw [r.len]; exact hi), upd_same, ob⟩
    · rw [List.getElem?_set_ne hj] at z
      obtain ⟨q, ho', h1, h2, h3⟩ := r.ow j o' z
      have hq : q ≠ p := old j q ⟨⟨o', z⟩, h1⟩
      exact ⟨q, ho', by rw [List.getElem?_set_ne hj]; exact h1, by rw [upd_ne hq]; exact h2, h3⟩
  · by_cases hj : i = j
    · subst hj
      rw [self q z]; exact ⟨nF, nr⟩
    · exact r.owF j q (other j q hj z)
  · by_cases hj : i = j
    · subst hj
      by_cases hk : i = k
      · exact hk
      · exact absurd (self q h1) (old k q (other k q hk h2))
    · by_cases hk : i = k
      · subst hk
        exact absurd (self q h2) (old j q (other j q hj h1))
      · exact r.uq j k q (other j q hj h1) (other k q hk h2)
/-- an owned object is written -/
theorem Rel.write (r : Rel K m F H σ ρ s) {i : Nat} {o o' : Ob} {p : Addr} {ho : HO} (e : ρ[i]? = some (Sl.ow o)) (eσ : σ[i]? = some (some (V.ref p))) (ob : ObAt K F o' ho) : Rel K m F (upd H p ho) σ (ρ.set i (.ow o')) s := by
  obtain ⟨nF, nr⟩ := r.owF i p ⟨⟨o, e⟩, eσ⟩
  have hi : i < ρ.length := (List.getElem?_eq_some_iff.mp e).1
  have back : ∀ j q, Owns σ (ρ.set i (.ow o')) j q → Owns σ ρ j q := fun j q ⟨⟨u, h1⟩, h2⟩ => by
    by_cases hj : i = j
    · subst hj; exact ⟨⟨o, e⟩, h2⟩
    · rw [List.getElem?_set_ne hj] at h1; exact ⟨⟨u, h1⟩, h2⟩
  refine ⟨fun b x z => ?_, m.loc s H _ r.mem fun a ha => upd_ne fun z => nr (z ▸ ha), r.reg, by rw [List.length_set]; exact r.len, fun j d' z => ?_, fun j u z => ?_, fun j q z => r.owF j q (back j q z), fun j k q h1 h2 => r.uq j k q (back j q h1) (back k q h2)⟩
  · have hb : b ≠ p := fun w => by subst w; rw [nF] at z; cases z
    rw [upd_ne hb]; exact r.sub _ _ z
  · by_cases hj : i = j
    · subst hj; rw [List.getElem?_set_self hi] at z; cases z
    · rw [List.getElem?_set_ne hj] at z; exact r.sh j d' z
  · by_cases hj : i = j
    · subst hj
      rw [List.getElem?_set_self hi] at z
      cases z
      exact ⟨p, ho, eσ, upd_same, ob⟩
    · rw [List.getElem?_set_ne hj] at z
      obtain ⟨q, ho', h1, h2, h3⟩ := r.ow j u z
      have hq : q ≠ p := fun w => hj (r.uq i j p ⟨⟨o, e⟩, eσ⟩ ⟨⟨u, z⟩, by rw [← w]; exact h1⟩)
      exact ⟨q, ho', h1, by rw [upd_ne hq]; exact h2, h3⟩
end
end DL

set_option Elab.async false
set_option linter.all false
set_option maxRecDepth 100000
namespace DL
open PySem PySem.Spec PyProof.Rows L2

/-! ### readings over data -/
abbrev DK (m : Mem) := D → List Sl → m.S → Prop
abbrev DT (m : Mem) := List Sl → m.S → DK m → Prop
abbrev DTT (m : Mem) := List Sl → m.S → (Bool → List Sl → m.S → Prop) → Prop
abbrev DTA (m : Mem) := List Sl → m.S → (List D → List Sl → m.S → Prop) → Prop
def up (K : PySem.W.Frag) (m : Mem) (t : DT m) : TE := fun σ H Q => ∃ F ρ s Qd, Rel K m F H σ ρ s ∧ t ρ s Qd ∧ ∀ d ρ' s' v F' H', Qd d ρ' s' → Rel K m F' H' σ ρ' s' → Stp m F H σ ρ s F' H' ρ' s' → Rep K F' d v → Q v H'
def upT (K : PySem.W.Frag) (m : Mem) (t : DTT m) : TT := fun σ H Q => ∃ F ρ s Qd, Rel K m F H σ ρ s ∧ t ρ s Qd ∧ ∀ b ρ' s' F' H', Qd b ρ' s' → Rel K m F' H' σ ρ' s' → Stp m F H σ ρ s F' H' ρ' s' → Q b H'
def upA (K : PySem.W.Frag) (m : Mem) (t : DTA m) : TA := fun σ H Q => ∃ F ρ s Qd, Rel K m F H σ ρ s ∧ t ρ s Qd ∧ ∀ ds ρ' s' vs F' H', Qd ds ρ' s' → Rel K m F' H' σ ρ' s' → Stp m F H σ ρ s F' H' ρ' s' → Reps K F' ds vs → Q vs H'

section
variable {X : Cx} {e a b c : Expr} {es : List Expr} {pos : Pos}
theorem PE.imp {t t' : TE} (h : PE X e t) (w : ∀ σ H Q, t' σ H Q → t σ H Q) : PE X e t' := ⟨fun pins s σ H Q I q => h.run pins s σ H Q I (w σ H Q q)⟩
theorem PT.imp {t t' : TT} (h : PT X e t) (w : ∀ σ H Q, t' σ H Q → t σ H Q) : PT X e t' := ⟨fun pins s σ H Q I q => h.run pins s σ H Q I (w σ H Q q)⟩
theorem PW.imp {t t' : TT} (h : PW X e t) (w : ∀ σ H Q, t' σ H Q → t σ H Q) : PW X e t' := ⟨fun wh pins s σ H Q I q => h.run wh pins s σ H Q I (w σ H Q q)⟩
theorem PA.imp {t t' : TA} (h : PA X es t) (w : ∀ σ H Q, t' σ H Q → t σ H Q) : PA X es t' := ⟨fun p pins s σ H Q I q => h.run p pins s σ H Q I (w σ H Q q)⟩
theorem PS.imp {st : Stmt} {t t' : TS} (h : PS X st t) (w : ∀ D σ H, t' D σ H → t D σ H) : PS X st t' := ⟨fun pins s σ H D I q => h.run pins s σ H D I (w D σ H q)⟩
theorem PSs.imp {st : List Stmt} {t t' : TS} (h : PSs X st t) (w : ∀ D σ H, t' D σ H → t D σ H) : PSs X st t' := ⟨fun pins s σ H D I q => h.run pins s σ H D I (w D σ H q)⟩
end

/-- a way by a bool -/
def ifB (b : Bool) (x y : Prop) : Prop := match b with
  | true => x
  | false => y
theorem ifB_t {x y : Prop} (h : ifB true x y) : x := h
theorem ifB_f {x y : Prop} (h : ifB false x y) : y := h
theorem ifB2 {b : Bool} {x y : Prop} (h1 : b = true → x) (h2 : b = false → y) : ifB b x y := by
  cases b with
  | true => exact h1 rfl
  | false => exact h2 rfl
theorem ifBd {c : Prop} [Decidable c] {x y : Prop} (h1 : c → x) (h2 : ¬ c → y) : ifB (decide c) x y := ifB2 (fun h => h1 (of_decide_eq_true h)) fun h => h2 (of_decide_eq_false h)
/-! ### names and constants -/
def dVar {m : Mem} (i : Nat) : DT m := fun ρ s Q => match ρ[i]? with
  | some (.sh d) => Q d ρ s
  | some (.ow o) => Q o.d (ρ.set i (.sh o.d)) s
  | _ => False
def dC {m : Mem} (d : D) : DT m := fun ρ s Q => Q d ρ s
section
variable {X : Cx} {m : Mem} {e a b c : Expr} {es : List Expr} {pos : Pos}
theorem up_var {K : PySem.W.Frag} {i : Nat} {σ : L2.St} {H : Hp} {Q : VK} (h : up K m (dVar i) σ H Q) : tVar i σ H Q := by
  obtain ⟨F, ρ, s, Qd, r, ht, hQ⟩ := h
  unfold dVar at ht
  cases e : ρ[i]? with
  | none => rw [e] at ht; exact ht.elim
  | some sl =>
    rw [e] at ht
    cases sl with
    | no => exact ht.elim
    | sh d =>
      obtain ⟨v, h1, h2⟩ := r.sh i d e
      exact ⟨v, h1, hQ d ρ s v F H ht r Stp.refl h2⟩
    | ow o =>
      obtain ⟨p, ho, h1, h2, h3, h4, h5⟩ := r.own_at e
      obtain ⟨r', st, rp⟩ := r.share e h1 h2 h3
      exact ⟨_, h1, hQ _ _ _ _ _ _ ht r' st rp⟩
theorem dv (i : Nat) {x : Str} (hN : X.N[i]? = some x := by rfl) (hv : Vis X.env.scope x := by first | exact Or.inl rfl | exact Or.inr (Or.inl rfl) | exact Or.inr (Or.inr rfl)) (hd : (x == ("__debug__" : Str)) = false := by decide)
    (hcd : (x == ("__classdict__" : Str)) = false := by decide) : PE X (.Name x pos) (up X.K m (dVar i)) := PE.imp (pv i hN hv hd hcd) fun _ _ _ h => up_var h
theorem up_const {K : PySem.W.Frag} {d : D} {v : V} {σ : L2.St} {H : Hp} {Q : VK} (hr : ∀ F, Rep K F d v) (h : up K m (dC d) σ H Q) : tC v σ H Q := by
  obtain ⟨F, ρ, s, Qd, r, ht, hQ⟩ := h
  exact hQ d ρ s v F H ht r Stp.refl (hr F)
theorem de_int {i : Int} {j pos} : PE X (.Constant (.int i) j pos) (up X.K m (dC (.int i))) := PE.imp pe_int fun _ _ _ h => up_const (d := .int i) (fun _ => rfl) h
theorem de_bl {b : Bool} {j pos} : PE X (.Constant (.bool b) j pos) (up X.K m (dC (.bl b))) := PE.imp pe_bl fun _ _ _ h => up_const (d := .bl b) (fun _ => rfl) h
theorem de_non {j pos} : PE X (.Constant .none j pos) (up X.K m (dC .non)) := PE.imp pe_non fun _ _ _ h => up_const (d := .non) (fun _ => rfl) h
theorem de_str {x : Str} {j pos} (hl : sOk x = true := by decide +kernel) : PE X (.Constant (.str x) j pos) (up X.K m (dC (.str x))) := PE.imp pe_str fun _ _ _ h => up_const (d := .str x) (fun _ => ⟨rfl, hl⟩) h
/-- a module's constant -/
theorem de_glob {x : Str} {d : D} {v : V} {u : Value} (hg : Gl X x) (hm : X.mg x = some u) (r : RelV v u) (hr : ∀ F, Rep X.K F d v) (hd : (x == ("__debug__" : Str)) = false := by decide) : PE X (.Name x pos) (up X.K m (dC d)) :=
  PE.imp (pe_glob hg hm r hd) fun _ _ _ h => up_const hr h
/-- a builtin's name as a value -/
theorem de_bltn {x : Str} {v : V} {u : Value} (hg : Gl X x) (hm : X.mg x = none) (hv : bootBuiltins x = some u) (r : RelV v u) (hn : x ≠ "__name__" := by decide) (hd : (x == ("__debug__" : Str)) = false := by decide) : PE X (.Name x pos) (up X.K m (dC (.any v))) :=
  PE.imp (pe_bltn hg hm hv r hn hd) fun _ _ _ h => up_const (d := .any v) (fun _ => rfl) h

/-! ### operations by data -/
def Op2 (K : PySem.W.Frag) (r : R2) (f : D → D → (D → Prop) → Prop) : Prop := ∀ F H dx dy x y Qd Q, Same F H → Rep K F dx x → Rep K F dy y → f dx dy Qd → (∀ d v F' H', Qd d → Grow F H F' H' → Rep K F' d v → Q v H') → r x y H Q
def Op1 (K : PySem.W.Frag) (r : V → Hp → VK → Prop) (f : D → (D → Prop) → Prop) : Prop := ∀ F H dx x Qd Q, Same F H → Rep K F dx x → f dx Qd → (∀ d v F' H', Qd d → Grow F H F' H' → Rep K F' d v → Q v H') → r x H Q
def OpN (K : PySem.W.Frag) (r : List V → Hp → VK → Prop) (f : List D → (D → Prop) → Prop) : Prop := ∀ F H ds vs Qd Q, Same F H → Reps K F ds vs → f ds Qd → (∀ d v F' H', Qd d → Grow F H F' H' → Rep K F' d v → Q v H') → r vs H Q
def OpM (K : PySem.W.Frag) (r : V → List V → Hp → VK → Prop) (f : D → List D → (D → Prop) → Prop) : Prop := ∀ F H dx x ds vs Qd Q, Same F H → Rep K F dx x → Reps K F ds vs → f dx ds Qd → (∀ d v F' H', Qd d → Grow F H F' H' → Rep K F' d v → Q v H') → r x vs H Q
/-- a comparison: its answer is a bool -/
def Cm2 (K : PySem.W.Frag) (r : R2) (f : D → D → (Bool → Prop) → Prop) : Prop := ∀ F H dx dy x y Qd Q, Same F H → Rep K F dx x → Rep K F dy y → f dx dy Qd → (∀ b F' H', Qd b → Grow F H F' H' → Q (.bl b) H') → r x y H Q
def dOp {m : Mem} (f : D → D → (D → Prop) → Prop) (ta tb : DT m) : DT m := fun ρ s Q => ta ρ s fun x ρ1 s1 => tb ρ1 s1 fun y ρ2 s2 => f x y fun d => Q d ρ2 s2
def dUn {m : Mem} (f : D → (D → Prop) → Prop) (ta : DT m) : DT m := fun ρ s Q => ta ρ s fun x ρ1 s1 => f x fun d => Q d ρ1 s1
def dCm {m : Mem} (f : D → D → (Bool → Prop) → Prop) (ta tb : DT m) : DT m := fun ρ s Q => ta ρ s fun x ρ1 s1 => tb ρ1 s1 fun y ρ2 s2 => f x y fun k => Q (.bl k) ρ2 s2
def dCmT {m : Mem} (f : D → D → (Bool → Prop) → Prop) (ta tb : DT m) : DTT m := fun ρ s Q => ta ρ s fun x ρ1 s1 => tb ρ1 s1 fun y ρ2 s2 => f x y fun k => Q k ρ2 s2
/-- two expressions in a row -/
theorem up2 {K : PySem.W.Frag} {ta tb : DT m} {F H : Hp} {σ : L2.St} {ρ : List Sl} {s : m.S} {R : V → V → Hp → Prop} {Qd : D → D → List Sl → m.S → Prop} (r : Rel K m F H σ ρ s) (h : ta ρ s fun x ρ1 s1 => tb ρ1 s1 fun y ρ2 s2 => Qd x y ρ2 s2)
    (hR : ∀ dx dy x y F2 H2 ρ2 s2, Qd dx dy ρ2 s2 → Rel K m F2 H2 σ ρ2 s2 → Stp m F H σ ρ s F2 H2 ρ2 s2 → Rep K F2 dx x → Rep K F2 dy y → R x y H2) : up K m ta σ H fun x H1 => up K m tb σ H1 fun y H2 => R x y H2 :=
  ⟨F, ρ, s, _, r, h, fun dx ρ1 s1 x F1 H1 q1 r1 st1 rx => ⟨F1, ρ1, s1, _, r1, q1, fun dy ρ2 s2 y F2 H2 q2 r2 st2 ry => hR dx dy x y F2 H2 ρ2 s2 q2 r2 (st1.trans st2) (Rep.mono st2.ext _ _ rx) ry⟩⟩
theorem up_op {K : PySem.W.Frag} {r : R2} {f : D → D → (D → Prop) → Prop} {ta tb : DT m} {σ : L2.St} {H : Hp} {Q : VK} (ho : Op2 K r f) (h : up K m (dOp f ta tb) σ H Q) : tOp r (up K m ta) (up K m tb) σ H Q := by
  obtain ⟨F, ρ, s, Qd, rl, ht, hQ⟩ := h
  refine up2 (R := fun x y H2 => r x y H2 Q) rl ht fun dx dy x y F2 H2 ρ2 s2 q r2 st rx ry => ?_
  exact ho F2 H2 dx dy x y _ Q r2.sub rx ry q fun d v F' H' qd g rv => hQ d ρ2 s2 v F' H' qd (r2.grow g) (st.trans g.stp) rv
theorem up_cm {K : PySem.W.Frag} {r : R2} {f : D → D → (Bool → Prop) → Prop} {ta tb : DT m} {σ : L2.St} {H : Hp} {Q : VK} (ho : Cm2 K r f) (h : up K m (dCm f ta tb) σ H Q) : tOp r (up K m ta) (up K m tb) σ H Q := by
  obtain ⟨F, ρ, s, Qd, rl, ht, hQ⟩ := h
  refine up2 (R := fun x y H2 => r x y H2 Q) rl ht fun dx dy x y F2 H2 ρ2 s2 q r2 st rx ry => ?_
  exact ho F2 H2 dx dy x y _ Q r2.sub rx ry q fun b F' H' qd g => hQ (.bl b) ρ2 s2 _ F' H' qd (r2.grow g) (st.trans g.stp) rfl
variable {ta tb tc : DT m}
theorem de_op {op : Operator} {r : R2} {f : D → D → (D → Prop) → Prop} (ho : OpR X (binaryOp op) r) (hf : Op2 X.K r f) (ha : PE X a (up X.K m ta)) (hb : PE X b (up X.K m tb)) : PE X (.BinOp a op b pos) (up X.K m (dOp f ta tb)) :=
  PE.imp (pe_op ho ha hb) fun _ _ _ h => up_op hf h
theorem de_un {op : UnaryOp} {r : V → Hp → VK → Prop} {f : D → (D → Prop) → Prop} (ho : UnR X (unaryOp op) r) (hf : Op1 X.K r f) (ha : PE X a (up X.K m ta)) : PE X (.UnaryOp op a pos) (up X.K m (dUn f ta)) :=
  PE.imp (pe_un ho ha) fun σ H Q h => by
    obtain ⟨F, ρ, s, Qd, rl, ht, hQ⟩ := h
    exact ⟨F, ρ, s, _, rl, ht, fun dx ρ1 s1 x F1 H1 q1 r1 st1 rx => hf F1 H1 dx x _ Q r1.sub rx q1 fun d v F' H' qd g rv => hQ d ρ1 s1 v F' H' qd (r1.grow g) (st1.trans g.stp) rv⟩
theorem de_cmp {op : CmpOp} {r : R2} {f : D → D → (Bool → Prop) → Prop} (ho : OpR X (compareOp op) r) (hf : Cm2 X.K r f) (ha : PE X a (up X.K m ta)) (hb : PE X b (up X.K m tb)) (hm : behindInMarks op b = false := by first | exact nomark _ | rfl) :
    PE X (.Compare a [op] [b] pos) (up X.K m (dCm f ta tb)) := PE.imp (pe_cmpR ho ha hb hm) fun _ _ _ h => up_cm hf h
theorem dt_cmp {op : CmpOp} {r : R2} {f : D → D → (Bool → Prop) → Prop} (ho : OpR X (compareOp op) r) (hf : Cm2 X.K r f) (ha : PE X a (up X.K m ta)) (hb : PE X b (up X.K m tb)) (hm : behindInMarks op b = false := by first | exact nomark _ | rfl) :
    PT X (.Compare a [op] [b] pos) (upT X.K m (dCmT f ta tb)) := PT.imp (pt_cmpR ho ha hb hm) fun σ H Q h => by
  obtain ⟨F, ρ, s, Qd, rl, ht, hQ⟩ := h
  refine up2 (R := fun x y H2 => r x y H2 _) rl ht fun dx dy x y F2 H2 ρ2 s2 q r2 st rx ry => ?_
  exact hf F2 H2 dx dy x y _ _ r2.sub rx ry q fun b F' H' qd g => ⟨b, rfl, hQ b ρ2 s2 F' H' qd (r2.grow g) (st.trans g.stp)⟩
/-- a op1 b op2 c -/
def dCh {m : Mem} (f g : D → D → (Bool → Prop) → Prop) (ta tb tc : DT m) : DT m := fun ρ s Q => ta ρ s fun x ρ1 s1 => tb ρ1 s1 fun y ρ2 s2 => f x y fun k => ifB k (tc ρ2 s2 fun z ρ3 s3 => g y z fun k' => Q (.bl k') ρ3 s3) (Q (.bl false) ρ2 s2)
def dChT {m : Mem} (f g : D → D → (Bool → Prop) → Prop) (ta tb tc : DT m) : DTT m := fun ρ s Q => ta ρ s fun x ρ1 s1 => tb ρ1 s1 fun y ρ2 s2 => f x y fun k => ifB k (tc ρ2 s2 fun z ρ3 s3 => g y z fun k' => Q k' ρ3 s3) (Q false ρ2 s2)
theorem de_chain {op op' : CmpOp} {r r' : R2} {f g : D → D → (Bool → Prop) → Prop} (ho : OpR X (compareOp op) r) (ho' : OpR X (compareOp op') r') (hf : Cm2 X.K r f) (hg : Cm2 X.K r' g)
    (ha : PE X a (up X.K m ta)) (hb : PE X b (up X.K m tb)) (hc : PE X c (up X.K m tc)) (hm : lastMarks [op, op'] [b, c] = false := by with_unfolding_all rfl) : PE X (.Compare a [op, op'] [b, c] pos) (up X.K m (dCh f g ta tb tc)) :=
  PE.imp (pe_chain ho ho' ha hb hc hm) fun σ H Q h => by
    obtain ⟨F, ρ, s, Qd, rl, ht, hQ⟩ := h
    refine up2 (R := fun x y H2 => r x y H2 _) rl ht fun dx dy x y F2 H2 ρ2 s2 q r2 st rx ry => ?_
    refine hf F2 H2 dx dy x y _ _ r2.sub rx ry q fun b F' H' qd gr => ⟨b, rfl, ?_⟩
    cases b with
    | false => exact iteF (hQ (.bl false) ρ2 s2 _ F' H' (ifB_f qd) (r2.grow gr) (st.trans gr.stp) rfl)
    | true =>
      have qd := ifB_t qd
      refine iteT ⟨F', ρ2, s2, _, r2.grow gr, qd, fun dz ρ3 s3 z F3 H3 q3 r3 st3 rz => ?_⟩
      exact hg F3 H3 dy dz y z _ _ r3.sub (Rep.mono (gr.fF.trans st3.ext) _ _ ry) rz q3 fun b' F4 H4 q4 g4 => hQ (.bl b') ρ3 s3 _ F4 H4 q4 (r3.grow g4) ((st.trans gr.stp).trans (st3.trans g4.stp)) rfl
theorem dt_chain {op op' : CmpOp} {r r' : R2} {f g : D → D → (Bool → Prop) → Prop} (ho : OpR X (compareOp op) r) (ho' : OpR X (compareOp op') r') (hf : Cm2 X.K r f) (hg : Cm2 X.K r' g)
    (ha : PE X a (up X.K m ta)) (hb : PE X b (up X.K m tb)) (hc : PE X c (up X.K m tc)) (hm : lastMarks [op, op'] [b, c] = false := by with_unfolding_all rfl) : PT X (.Compare a [op, op'] [b, c] pos) (upT X.K m (dChT f g ta tb tc)) :=
  PT.imp (pt_chain ho ho' ha hb hc hm) fun σ H Q h => by
    obtain ⟨F, ρ, s, Qd, rl, ht, hQ⟩ := h
    refine up2 (R := fun x y H2 => r x y H2 _) rl ht fun dx dy x y F2 H2 ρ2 s2 q r2 st rx ry => ?_
    refine hf F2 H2 dx dy x y _ _ r2.sub rx ry q fun b F' H' qd gr => ⟨b, rfl, ?_⟩
    cases b with
    | false => exact iteF ⟨false, rfl, hQ false ρ2 s2 F' H' (ifB_f qd) (r2.grow gr) (st.trans gr.stp)⟩
    | true =>
      have qd := ifB_t qd
      refine iteT ⟨F', ρ2, s2, _, r2.grow gr, qd, fun dz ρ3 s3 z F3 H3 q3 r3 st3 rz => ?_⟩
      exact hg F3 H3 dy dz y z _ _ r3.sub (Rep.mono (gr.fF.trans st3.ext) _ _ ry) rz q3 fun b' F4 H4 q4 g4 => ⟨b', rfl, hQ b' ρ3 s3 F4 H4 q4 (r3.grow g4) ((st.trans gr.stp).trans (st3.trans g4.stp))⟩

/-! ### tests -/
/-- a value's truth -/
def tru : D → Option Bool
  | .non => some false
  | .bl b => some b
  | .int i => some (i != 0)
  | .str x => some ((x.length : Int) != 0)
  | .lst xs => some (!xs.isEmpty)
  | .tup xs => some (!xs.isEmpty)
  | .dic ks _ => some (!ks.isEmpty)
  | _ => none
theorem reps_empty {K : PySem.W.Frag} {F : Hp} {ds : List D} {vs : List V} (h : Reps K F ds vs) : vs.isEmpty = ds.isEmpty := by
  have := h.length
  cases ds <;> cases vs <;> simp_all
theorem tru_rep {K : PySem.W.Frag} {F H : Hp} {d : D} {v : V} {k : Bool} (h : Rep K F d v) (sub : Same F H) (e : tru d = some k) : TruV K v H k := by
  cases d with
  | non => cases h; exact (Option.some.inj e).symm
  | bl b => cases h; exact (Option.some.inj e).symm
  | int i => cases h; exact (Option.some.inj e).symm
  | str x => obtain ⟨rfl, hl⟩ := h; exact ⟨Nat.le_trans (sOk_len hl) (Nat.le_trans (Nat.le_add_right _ 2) strLim_line), (Option.some.inj e).symm⟩
  | lst xs =>
    obtain ⟨a, vs, rfl, h1, _, r⟩ := h
    exact .inl ⟨vs, .inl (.inl (sub _ _ h1)), by rw [reps_empty r]; exact (Option.some.inj e).symm⟩
  | tup xs =>
    obtain ⟨a, vs, rfl, h1, _, r⟩ := h
    exact .inr (.inl ⟨vs, Same.seqT sub h1, by rw [reps_empty r]; exact (Option.some.inj e).symm⟩)
  | dic ks ds =>
    obtain ⟨a, kvs, rfl, h1, _, r, _⟩ := h
    refine .inr (.inr ⟨kvs, sub _ _ h1, ?_⟩)
    have e' := (Option.some.inj e).symm
    rw [e', ← r]
    cases kvs <;> rfl
  | ins _ _ _ => cases e
  | any _ => cases e
  | fz _ => cases e
  | exc _ _ _ => cases e
def dTr {m : Mem} (ta : DT m) : DTT m := fun ρ s Q => ta ρ s fun x ρ1 s1 => ∃ k, tru x = some k ∧ Q k ρ1 s1
theorem dt_truth (ha : PE X a (up X.K m ta)) (he : ∀ whole, isTrue a X.env whole = (do let v ← whole; standAt a.pos; holding [v] (truthy v)) := by intro _; rfl) : PT X a (upT X.K m (dTr ta)) :=
  PT.imp (pt_truth ha he) fun σ H Q h => by
    obtain ⟨F, ρ, s, Qd, rl, ht, hQ⟩ := h
    exact ⟨F, ρ, s, _, rl, ht, fun dx ρ1 s1 x F1 H1 ⟨k, e, q1⟩ r1 st1 rx => ⟨k, tru_rep rx r1.sub e, hQ k ρ1 s1 F1 H1 q1 r1 st1⟩⟩
variable {tA tB : DTT m} {rest : List Expr}
def dAndT {m : Mem} (t u : DTT m) : DTT m := fun ρ s Q => t ρ s fun k ρ1 s1 => ifB k (u ρ1 s1 Q) (Q false ρ1 s1)
def dOrT {m : Mem} (t u : DTT m) : DTT m := fun ρ s Q => t ρ s fun k ρ1 s1 => ifB k (Q true ρ1 s1) (u ρ1 s1 Q)
def dNotT {m : Mem} (t : DTT m) : DTT m := fun ρ s Q => t ρ s fun k ρ1 s1 => Q (!k) ρ1 s1
theorem dw_and1 (ha : PT X a (upT X.K m tA)) : PW X (.BoolOp .And [a] pos) (upT X.K m tA) := pw_and1 ha
theorem dw_or1 (ha : PT X a (upT X.K m tA)) : PW X (.BoolOp .Or [a] pos) (upT X.K m tA) := pw_or1 ha
theorem dw_and (ha : PT X a (upT X.K m tA)) (hb : PW X (.BoolOp .And (b :: rest) pos) (upT X.K m tB)) : PW X (.BoolOp .And (a :: b :: rest) pos) (upT X.K m (dAndT tA tB)) :=
  PW.imp (pw_and ha hb) fun σ H Q h => by
    obtain ⟨F, ρ, s, Qd, rl, ht, hQ⟩ := h
    refine ⟨F, ρ, s, _, rl, ht, fun k ρ1 s1 F1 H1 q1 r1 st1 => ?_⟩
    cases k with
    | true =>
      have q1 := ifB_t q1
      exact iteT ⟨F1, ρ1, s1, _, r1, q1, fun k ρ2 s2 F2 H2 q2 r2 st2 => hQ k ρ2 s2 F2 H2 q2 r2 (st1.trans st2)⟩
    | false => exact iteF (hQ false ρ1 s1 F1 H1 (ifB_f q1) r1 st1)
theorem dw_or (ha : PT X a (upT X.K m tA)) (hb : PW X (.BoolOp .Or (b :: rest) pos) (upT X.K m tB)) : PW X (.BoolOp .Or (a :: b :: rest) pos) (upT X.K m (dOrT tA tB)) :=
  PW.imp (pw_or ha hb) fun σ H Q h => by
    obtain ⟨F, ρ, s, Qd, rl, ht, hQ⟩ := h
    refine ⟨F, ρ, s, _, rl, ht, fun k ρ1 s1 F1 H1 q1 r1 st1 => ?_⟩
    cases k with
    | false =>
      exact iteF ⟨F1, ρ1, s1, _, r1, ifB_f q1, fun k ρ2 s2 F2 H2 q2 r2 st2 => hQ k ρ2 s2 F2 H2 q2 r2 (st1.trans st2)⟩
    | true => exact iteT (hQ true ρ1 s1 F1 H1 (ifB_t q1) r1 st1)
theorem dt_not (ha : PT X a (upT X.K m tA)) : PT X (.UnaryOp .Not a pos) (upT X.K m (dNotT tA)) :=
  PT.imp (pt_not ha) fun σ H Q h => by
    obtain ⟨F, ρ, s, Qd, rl, ht, hQ⟩ := h
    exact ⟨F, ρ, s, _, rl, ht, fun k ρ1 s1 F1 H1 q1 r1 st1 => hQ (!k) ρ1 s1 F1 H1 q1 r1 st1⟩
/-- a if t else b -/
def dIfE {m : Mem} (t : DTT m) (ta tb : DT m) : DT m := fun ρ s Q => t ρ s fun k ρ1 s1 => ifB k (ta ρ1 s1 Q) (tb ρ1 s1 Q)
theorem de_ifExp (hc : PT X c (upT X.K m tA)) (ha : PE X a (up X.K m ta)) (hb : PE X b (up X.K m tb)) : PE X (.IfExp c a b pos) (up X.K m (dIfE tA ta tb)) :=
  PE.imp (pe_ifExp hc ha hb) fun σ H Q h => by
    obtain ⟨F, ρ, s, Qd, rl, ht, hQ⟩ := h
    refine ⟨F, ρ, s, _, rl, ht, fun k ρ1 s1 F1 H1 q1 r1 st1 => ?_⟩
    cases k with
    | true =>
      have q1 := ifB_t q1
      exact iteT ⟨F1, ρ1, s1, _, r1, q1, fun d ρ2 s2 v F2 H2 q2 r2 st2 rv => hQ d ρ2 s2 v F2 H2 q2 r2 (st1.trans st2) rv⟩
    | false => exact iteF ⟨F1, ρ1, s1, _, r1, ifB_f q1, fun d ρ2 s2 v F2 H2 q2 r2 st2 rv => hQ d ρ2 s2 v F2 H2 q2 r2 (st1.trans st2) rv⟩

/-! ### argument lists, displays, calls -/
def daNil {m : Mem} : DTA m := fun ρ s Q => Q [] ρ s
def daCons {m : Mem} (t : DT m) (u : DTA m) : DTA m := fun ρ s Q => t ρ s fun d ρ1 s1 => u ρ1 s1 fun ds ρ2 s2 => Q (d :: ds) ρ2 s2
theorem da_nil : PA X [] (upA X.K m daNil) := PA.imp pa_nil fun σ H Q h => by
  obtain ⟨F, ρ, s, Qd, rl, ht, hQ⟩ := h
  exact hQ [] ρ s [] F H ht rl Stp.refl .nil
theorem up_cons {K : PySem.W.Frag} {t : DT m} {u : DTA m} {σ : L2.St} {H : Hp} {Q : List V → Hp → Prop} (h : upA K m (daCons t u) σ H Q) : tCons (up K m t) (upA K m u) σ H Q := by
  obtain ⟨F, ρ, s, Qd, rl, ht, hQ⟩ := h
  exact ⟨F, ρ, s, _, rl, ht, fun d ρ1 s1 v F1 H1 q1 r1 st1 rv => ⟨F1, ρ1, s1, _, r1, q1, fun ds ρ2 s2 vs F2 H2 q2 r2 st2 rs => hQ (d :: ds) ρ2 s2 (v :: vs) F2 H2 q2 r2 (st1.trans st2) (.cons (Rep.mono st2.ext _ _ rv) rs)⟩⟩
theorem da_cons {t : DT m} {u : DTA m} (ha : PE X e (up X.K m t)) (hr : PA X es (upA X.K m u)) (hs : starEach (e :: es) X.env = (false, eval e X.env) :: starEach es X.env := by rfl) : PA X (e :: es) (upA X.K m (daCons t u)) :=
  PA.imp (pa_cons ha hr hs) fun _ _ _ h => up_cons h
def dTup {m : Mem} (t : DTA m) : DT m := fun ρ s Q => t ρ s fun ds ρ1 s1 => ds.length ≤ sizeLine ∧ Q (.tup ds) ρ1 s1
def dLst {m : Mem} (t : DTA m) : DT m := fun ρ s Q => t ρ s fun ds ρ1 s1 => ds.length ≤ sizeLine ∧ Q (.lst ds) ρ1 s1
variable {u : DTA m}
theorem de_tup {k : Nat} (h : PA X es (upA X.K m u)) : PE X (.Tuple es k pos) (up X.K m (dTup u)) := PE.imp (pe_tup h) fun σ H Q h => by
  obtain ⟨F, ρ, s, Qd, rl, ht, hQ⟩ := h
  refine ⟨F, ρ, s, _, rl, ht, fun ds ρ1 s1 vs F1 H1 ⟨hl, q1⟩ r1 st1 rs => ⟨by rw [rs.length]; exact hl, fun p np => ?_⟩⟩
  have g : Grow F1 H1 (upd F1 p (.tup vs)) (upd H1 p (.tup vs)) := Grow.new r1.sub np
  exact hQ _ ρ1 s1 _ _ _ q1 (r1.grow g) (st1.trans g.stp) ⟨p, vs, rfl, .inl (.inl upd_same), by rw [rs.length]; exact hl, Reps.mono g.fF _ _ rs⟩
theorem de_lst (h : PA X es (upA X.K m u)) : PE X (.List es pos) (up X.K m (dLst u)) := PE.imp (pe_lst h) fun σ H Q h => by
  obtain ⟨F, ρ, s, Qd, rl, ht, hQ⟩ := h
  refine ⟨F, ρ, s, _, rl, ht, fun ds ρ1 s1 vs F1 H1 ⟨hl, q1⟩ r1 st1 rs => ⟨by rw [rs.length]; exact hl, fun p np => ?_⟩⟩
  have g : Grow F1 H1 (upd F1 p (.lst vs)) (upd H1 p (.lst vs)) := Grow.new r1.sub np
  exact hQ _ ρ1 s1 _ _ _ q1 (r1.grow g) (st1.trans g.stp) ⟨p, vs, rfl, upd_same, by rw [rs.length]; exact hl, Reps.mono g.fF _ _ rs⟩
/-- a call of a builtin by name: by its rule over data -/
def dB {m : Mem} (f : List D → (D → Prop) → Prop) (t : DTA m) : DT m := fun ρ s Q => t ρ s fun ds ρ1 s1 => f ds fun d => Q d ρ1 s1
theorem up_b {K : PySem.W.Frag} {r : List V → Hp → VK → Prop} {f : List D → (D → Prop) → Prop} {σ : L2.St} {H : Hp} {Q : VK} (hf : OpN K r f) (h : up K m (dB f u) σ H Q) : tCB r (upA K m u) σ H Q := by
  obtain ⟨F, ρ, s, Qd, rl, ht, hQ⟩ := h
  exact ⟨F, ρ, s, _, rl, ht, fun ds ρ1 s1 vs F1 H1 q1 r1 st1 rs => hf F1 H1 ds vs _ Q r1.sub rs q1 fun d v F2 H2 q2 g rv => hQ d ρ1 s1 v F2 H2 q2 (r1.grow g) (st1.trans g.stp) rv⟩
variable {x : Str} {p : Pos} {id T : String} {r : List V → Hp → VK → Prop} {f : List D → (D → Prop) → Prop}
theorem de_callB (hc : CallR X (.builtin id) r) (hf : OpN X.K r f) (hg : Gl X x) (hm : X.mg x = none) (hv : bootBuiltins x = some (.builtin id)) (ha : PA X (e :: es) (upA X.K m u)) (hn : x ≠ "__name__" := by decide) (hdb : (x == ("__debug__" : Str)) = false := by decide)
    (he : starEach (e :: es) X.env = (false, eval e X.env) :: starEach es X.env := by rfl) (hpl : (backTo pos (starEach es X.env)).any (·.1) = false := by rfl) : PE X (.Call (.Name x p) (e :: es) [] pos) (up X.K m (dB f u)) :=
  PE.imp (pe_callB hc hg hm hv ha hn hdb he hpl) fun _ _ _ h => up_b hf h
theorem de_callTy (hc : CallR X (.type T) r) (hf : OpN X.K r f) (hg : Gl X x) (hm : X.mg x = none) (hv : bootBuiltins x = some (.type T)) (ha : PA X (e :: es) (upA X.K m u)) (hn : x ≠ "__name__" := by decide) (hdb : (x == ("__debug__" : Str)) = false := by decide)
    (he : starEach (e :: es) X.env = (false, eval e X.env) :: starEach es X.env := by rfl) (hpl : (backTo pos (starEach es X.env)).any (·.1) = false := by rfl) : PE X (.Call (.Name x p) (e :: es) [] pos) (up X.K m (dB f u)) :=
  PE.imp (pe_callTy hc hg hm hv ha hn hdb he hpl) fun _ _ _ h => up_b hf h
/-! ### methods of built-in types -/
def tyD : D → String → Bool
  | .str _, T => T == "str"
  | .lst _, T => T == "list"
  | .dic _ _, T => T == "dict"
  | _, _ => false
theorem tyD_ok {K : PySem.W.Frag} {F H : Hp} {d : D} {v : V} {T : String} (h : Rep K F d v) (sub : Same F H) (e : tyD d T = true) : tyV K T v H := by
  cases d with
  | str x => obtain ⟨rfl, _⟩ := h; exact beq_iff_eq.mp e
  | lst xs => obtain ⟨a, vs, rfl, h1, _, _⟩ := h; exact .inl ⟨beq_iff_eq.mp e, vs, .inl (.inl (sub _ _ h1))⟩
  | dic ks ds => obtain ⟨a, kvs, rfl, h1, _, _⟩ := h; exact .inr (.inr (.inl ⟨beq_iff_eq.mp e, .inl ⟨kvs, sub _ _ h1⟩⟩))
  | _ => exact absurd e (by simp [tyD])
def dMt {m : Mem} (T : String) (f : D → List D → (D → Prop) → Prop) (to : DT m) (t : DTA m) : DT m := fun ρ s Q => to ρ s fun x ρ1 s1 => tyD x T = true ∧ t ρ1 s1 fun ds ρ2 s2 => f x ds fun d => Q d ρ2 s2
def dMt0 {m : Mem} (T : String) (f : D → List D → (D → Prop) → Prop) (to : DT m) : DT m := fun ρ s Q => to ρ s fun x ρ1 s1 => tyD x T = true ∧ f x [] fun d => Q d ρ1 s1
variable {o : Expr} {to : DT m} {name : Str} {apos cpos : Pos} {rM : V → List V → Hp → VK → Prop} {fM : D → List D → (D → Prop) → Prop}
theorem de_m (pa : PlainAttrs T) (slot : Slot T name id) (hty : typeOf (.builtin id) = pure (.type "method_descriptor")) (hm : MtR X id rM) (hf : OpM X.K rM fM) (ho : PE X o (up X.K m to)) (ha : PA X (e :: es) (upA X.K m u))
    (hbase : attributeBase o name X.env (eval o X.env) = eval o X.env := by rfl)
    (hfew : ((backTo cpos (starEach (e :: es) X.env)).all (fun x => !x.1) && (backToKw cpos (keywordEach [] X.env)).all (fun x => x.1.isSome)
      && decide ((e :: es).length + ([] : List Keyword).length + (if ([] : List Keyword).isEmpty then 0 else 1) < 30)) = true := by rfl)
    (hline : (apos.endLine == cpos.line) = true := by rfl) (hs : starEach (e :: es) X.env = (false, eval e X.env) :: starEach es X.env := by rfl) (hplain : (backTo cpos (starEach es X.env)).any (·.1) = false := by rfl) :
    PE X (.Call (.Attribute o name apos) (e :: es) [] cpos) (up X.K m (dMt T fM to u)) := PE.imp (pe_bm pa slot hty hm ho ha hbase hfew hline hs hplain) fun σ H Q h => by
  obtain ⟨F, ρ, s, Qd, rl, ht, hQ⟩ := h
  refine ⟨F, ρ, s, _, rl, ht, fun dx ρ1 s1 x F1 H1 ⟨hT, q1⟩ r1 st1 rx => ⟨tyD_ok rx r1.sub hT, F1, ρ1, s1, _, r1, q1, fun ds ρ2 s2 vs F2 H2 q2 r2 st2 rs => ?_⟩⟩
  exact hf F2 H2 dx x ds vs _ Q r2.sub (Rep.mono st2.ext _ _ rx) rs q2 fun d v F3 H3 q3 g rv => hQ d ρ2 s2 v F3 H3 q3 (r2.grow g) ((st1.trans st2).trans g.stp) rv
theorem de_m0 (pa : PlainAttrs T) (slot : Slot T name id) (hty : typeOf (.builtin id) = pure (.type "method_descriptor")) (hm : MtR X id rM) (hf : OpM X.K rM fM) (ho : PE X o (up X.K m to))
    (hbase : attributeBase o name X.env (eval o X.env) = eval o X.env := by rfl) (hline : (apos.endLine == cpos.line) = true := by rfl) : PE X (.Call (.Attribute o name apos) [] [] cpos) (up X.K m (dMt0 T fM to)) :=
  PE.imp (pe_bm0 pa slot hty hm ho hbase hline) fun σ H Q h => by
    obtain ⟨F, ρ, s, Qd, rl, ht, hQ⟩ := h
    refine ⟨F, ρ, s, _, rl, ht, fun dx ρ1 s1 x F1 H1 ⟨hT, q1⟩ r1 st1 rx => ⟨tyD_ok rx r1.sub hT, ?_⟩⟩
    exact hf F1 H1 dx x [] [] _ Q r1.sub rx .nil q1 fun d v F3 H3 q3 g rv => hQ d ρ1 s1 v F3 H3 q3 (r1.grow g) (st1.trans g.stp) rv
/-! ### subscripts, slices -/
theorem de_ix {r2 : R2} {f2 : D → D → (D → Prop) → Prop} (hr : IxR X r2) (hf : Op2 X.K r2 f2) (ha : PE X a (up X.K m ta)) (hb : PE X b (up X.K m tb)) (hs : PlainIx b := by exact fun _ _ => rfl) : PE X (.Subscript a b pos) (up X.K m (dOp f2 ta tb)) :=
  PE.imp (pe_ix hr ha hb hs) fun _ _ _ h => up_op hf h
abbrev DTO (m : Mem) := List Sl → m.S → (Option Int → List Sl → m.S → Prop) → Prop
def upO (K : PySem.W.Frag) (m : Mem) (t : DTO m) : TO := fun σ H Q => ∃ F ρ s Qd, Rel K m F H σ ρ s ∧ t ρ s Qd ∧ ∀ b ρ' s' F' H', Qd b ρ' s' → Rel K m F' H' σ ρ' s' → Stp m F H σ ρ s F' H' ρ' s' → Q b H'
theorem PO.imp {eo : Option Expr} {t t' : TO} (h : PO X eo t) (w : ∀ σ H Q, t' σ H Q → t σ H Q) : PO X eo t' := ⟨fun pins s σ H Q I q => h.run pins s σ H Q I (w σ H Q q)⟩
def doNone {m : Mem} : DTO m := fun ρ s Q => Q none ρ s
def doSome {m : Mem} (t : DT m) : DTO m := fun ρ s Q => t ρ s fun d ρ1 s1 => ∃ i, d = .int i ∧ Q (some i) ρ1 s1
theorem do_none : PO X none (upO X.K m doNone) := PO.imp po_none fun σ H Q h => by
  obtain ⟨F, ρ, s, Qd, rl, ht, hQ⟩ := h
  exact hQ none ρ s F H ht rl Stp.refl
theorem do_some (he : PE X e (up X.K m ta)) : PO X (some e) (upO X.K m (doSome ta)) := PO.imp (po_some he) fun σ H Q h => by
  obtain ⟨F, ρ, s, Qd, rl, ht, hQ⟩ := h
  refine ⟨F, ρ, s, _, rl, ht, fun d ρ1 s1 x F1 H1 ⟨i, e, q1⟩ r1 st1 rx => ?_⟩
  subst e
  cases rx
  exact ⟨i, rfl, hQ (some i) ρ1 s1 F1 H1 q1 r1 st1⟩
def OpS (K : PySem.W.Frag) (r : V → Option Int → Option Int → Hp → VK → Prop) (f : D → Option Int → Option Int → (D → Prop) → Prop) : Prop := ∀ F H dx x lo hi Qd Q, Same F H → Rep K F dx x → f dx lo hi Qd → (∀ d v F' H', Qd d → Grow F H F' H' → Rep K F' d v → Q v H') → r x lo hi H Q
def dSl {m : Mem} (f : D → Option Int → Option Int → (D → Prop) → Prop) (te : DT m) (tl th : DTO m) : DT m := fun ρ s Q => te ρ s fun x ρ1 s1 => tl ρ1 s1 fun l ρ2 s2 => th ρ2 s2 fun h ρ3 s3 => f x l h fun d => Q d ρ3 s3
theorem de_slice {rs : V → Option Int → Option Int → Hp → VK → Prop} {fs : D → Option Int → Option Int → (D → Prop) → Prop} {lo hi : Option Expr} {tl th : DTO m} {p2 : Pos} (hr : SlR X rs) (hf : OpS X.K rs fs) (he : PE X e (up X.K m ta)) (hl : PO X lo (upO X.K m tl)) (hh : PO X hi (upO X.K m th)) :
    PE X (.Subscript e (.Slice lo hi none p2) pos) (up X.K m (dSl fs ta tl th)) := PE.imp (pe_slice hr he hl hh) fun σ H Q h => by
  obtain ⟨F, ρ, s, Qd, rl, ht, hQ⟩ := h
  refine ⟨F, ρ, s, _, rl, ht, fun dx ρ1 s1 x F1 H1 q1 r1 st1 rx => ⟨F1, ρ1, s1, _, r1, q1, fun l ρ2 s2 F2 H2 q2 r2 st2 => ⟨F2, ρ2, s2, _, r2, q2, fun h ρ3 s3 F3 H3 q3 r3 st3 => ?_⟩⟩⟩
  exact hf F3 H3 dx x l h _ Q r3.sub (Rep.mono (st2.ext.trans st3.ext) _ _ rx) q3 fun d v F4 H4 q4 g rv => hQ d ρ3 s3 v F4 H4 q4 (r3.grow g) ((st1.trans st2).trans (st3.trans g.stp)) rv
/-! ### and, or, not of values by truth -/
def dAndV {m : Mem} (ta tb : DT m) : DT m := fun ρ s Q => ta ρ s fun x ρ1 s1 => ∃ k, tru x = some k ∧ ifB k (tb ρ1 s1 Q) (Q x ρ1 s1)
def dOrV {m : Mem} (ta tb : DT m) : DT m := fun ρ s Q => ta ρ s fun x ρ1 s1 => ∃ k, tru x = some k ∧ ifB k (Q x ρ1 s1) (tb ρ1 s1 Q)
def dNotV {m : Mem} (ta : DT m) : DT m := fun ρ s Q => ta ρ s fun x ρ1 s1 => ∃ k, tru x = some k ∧ Q (.bl (!k)) ρ1 s1
theorem de_one {op} (h : PE X a (up X.K m ta)) : PE X (.BoolOp op [a] pos) (up X.K m ta) := pe_one h
theorem de_and (ha : PE X a (up X.K m ta)) (hb : PE X (.BoolOp .And (b :: rest) pos) (up X.K m tb)) : PE X (.BoolOp .And (a :: b :: rest) pos) (up X.K m (dAndV ta tb)) :=
  PE.imp (pe_andT ha hb) fun σ H Q h => by
    obtain ⟨F, ρ, s, Qd, rl, ht, hQ⟩ := h
    refine ⟨F, ρ, s, _, rl, ht, fun d ρ1 s1 x F1 H1 ⟨k, ek, q1⟩ r1 st1 rx => ⟨k, tru_rep rx r1.sub ek, ?_⟩⟩
    cases k with
    | true =>
      have q1 := ifB_t q1
      exact iteT ⟨F1, ρ1, s1, _, r1, q1, fun d ρ2 s2 v F2 H2 q2 r2 st2 rv => hQ d ρ2 s2 v F2 H2 q2 r2 (st1.trans st2) rv⟩
    | false => exact iteF (hQ d ρ1 s1 x F1 H1 (ifB_f q1) r1 st1 rx)
theorem de_or (ha : PE X a (up X.K m ta)) (hb : PE X (.BoolOp .Or (b :: rest) pos) (up X.K m tb)) : PE X (.BoolOp .Or (a :: b :: rest) pos) (up X.K m (dOrV ta tb)) :=
  PE.imp (pe_orT ha hb) fun σ H Q h => by
    obtain ⟨F, ρ, s, Qd, rl, ht, hQ⟩ := h
    refine ⟨F, ρ, s, _, rl, ht, fun d ρ1 s1 x F1 H1 ⟨k, ek, q1⟩ r1 st1 rx => ⟨k, tru_rep rx r1.sub ek, ?_⟩⟩
    cases k with
    | false => exact iteF ⟨F1, ρ1, s1, _, r1, ifB_f q1, fun d ρ2 s2 v F2 H2 q2 r2 st2 rv => hQ d ρ2 s2 v F2 H2 q2 r2 (st1.trans st2) rv⟩
    | true => exact iteT (hQ d ρ1 s1 x F1 H1 (ifB_t q1) r1 st1 rx)
theorem de_not (ha : PE X a (up X.K m ta)) : PE X (.UnaryOp .Not a pos) (up X.K m (dNotV ta)) :=
  PE.imp (pe_notT ha) fun σ H Q h => by
    obtain ⟨F, ρ, s, Qd, rl, ht, hQ⟩ := h
    exact ⟨F, ρ, s, _, rl, ht, fun d ρ1 s1 x F1 H1 ⟨k, ek, q1⟩ r1 st1 rx => ⟨k, tru_rep rx r1.sub ek, hQ (.bl (!k)) ρ1 s1 _ F1 H1 q1 r1 st1 rfl⟩⟩

/-! ### a def's promise over data, its call -/
abbrev DSp (m : Mem) := List D → m.S → (D → m.S → Prop) → Prop
structure CStp (m : Mem) (F H : Hp) (s : m.S) (F' H' : Hp) (s' : m.S) : Prop where
  ext : Same F F'
  keep : ∀ a o, H a = some o → ¬ m.R s a → H' a = some o
  alive : ∀ a, H a ≠ none → H' a ≠ none
  fresh : ∀ a o, F' a = some o → F a = some o ∨ H a = none
  regf : ∀ a, m.R s' a → m.R s a ∨ H a = none
  sub : Same F' H'
  mem : m.M s' H'
  reg : ∀ a, m.R s' a → F' a = none
def lift (K : PySem.W.Frag) (m : Mem) (n : Nat) (sp : DSp m) : Sp := fun vs H Q _ => vs.length = n ∧ ∃ F ds s Qd, Same F H ∧ m.M s H ∧ (∀ a, m.R s a → F a = none) ∧ Reps K F ds vs ∧ sp ds s Qd ∧
  ∀ d s' v F' H', Qd d s' → CStp m F H s F' H' s' → Rep K F' d v → Q v H'
theorem CStp.stp {F H F' H' : Hp} {s s' : m.S} (c : CStp m F H s F' H' s') {σ : L2.St} {ρ : List Sl} : Stp m F H σ ρ s F' H' ρ s' :=
  ⟨c.ext, c.keep, c.alive, fun a o h => (c.fresh a o h).elim .inl fun z => .inr (.inl z), c.regf, fun _ _ h => h⟩
theorem Rel.call {K : PySem.W.Frag} {F H F' H' : Hp} {σ : L2.St} {ρ : List Sl} {s s' : m.S} (r : Rel K m F H σ ρ s) (c : CStp m F H s F' H' s') : Rel K m F' H' σ ρ s' where
  sub := c.sub
  mem := c.mem
  reg := c.reg
  len := r.len
  sh := fun i d e => by
    obtain ⟨v, h1, h2⟩ := r.sh i d e
    exact ⟨v, h1, Rep.mono c.ext _ _ h2⟩
  ow := fun i o e => by
    obtain ⟨p, ho, h1, h2, h3, h4, h5⟩ := r.own_at e
    exact ⟨p, ho, h1, c.keep p ho h2 h5, h3.mono c.ext⟩
  owF := fun i p h => by
    obtain ⟨⟨o, e⟩, hσ⟩ := id h
    obtain ⟨p', ho, h1, h2, h3, h4, h5⟩ := r.own_at e
    rw [hσ] at h1; cases h1
    refine ⟨?_, fun z => ?_⟩
    · cases q : F' p with
      | none => rfl
      | some u =>
        rcases c.fresh p u q with z | z
        · rw [h4] at z; cases z
        · rw [z] at h2; cases h2
    · rcases c.regf p z with z | z
      · exact h5 z
      · rw [z] at h2; cases h2
  uq := r.uq
def dCall {m : Mem} (sp : DSp m) (t : DTA m) : DT m := fun ρ s Q => t ρ s fun ds ρ1 s1 => sp ds s1 fun d s' => Q d ρ1 s'
theorem up_call {K : PySem.W.Frag} {n : Nat} {sp : DSp m} {σ : L2.St} {H : Hp} {Q : VK} {E : XK} (hn : ∀ ds s Qd, sp ds s Qd → ds.length = n) (h : up K m (dCall sp u) σ H Q) : tCall (lift K m n sp) [] E (upA K m u) σ H Q := by
  obtain ⟨F, ρ, s, Qd, rl, ht, hQ⟩ := h
  refine ⟨F, ρ, s, _, rl, ht, fun ds ρ1 s1 vs F1 H1 q1 r1 st1 rs => ?_⟩
  show lift K m n sp (vs ++ []) H1 Q E
  rw [List.append_nil]
  exact ⟨by rw [rs.length]; exact hn _ _ _ q1, F1, ds, s1, _, r1.sub, r1.mem, r1.reg, rs, q1, fun d s' v F2 H2 q2 c rv => hQ d ρ1 s' v F2 H2 q2 (r1.call c) (st1.trans c.stp) rv⟩
theorem de_call {k n : Nat} {fa : Addr} {fd : FuncData} {ps : List Str} {sp : DSp m} (G : FnG X.prog X.w X.K X.mg X.base CX0 k fa fd ps (lift X.K m n sp)) (hn : ∀ ds s Qd, sp ds s Qd → ds.length = n) (hr : RoomG k X.A) (hg : Gl X x) (hm : X.mg x = some (.ref fa)) (hk : PySem.W.keepIn X.K (.ref fa) = true) (hb : Binds X.K fd ps [])
    (ha : PA X (e :: es) (upA X.K m u)) (hdb : (x == ("__debug__" : Str)) = false := by decide) (he : starEach (e :: es) X.env = (false, eval e X.env) :: starEach es X.env := by rfl) (hpl : (backTo pos (starEach es X.env)).any (·.1) = false := by rfl) :
    PE X (.Call (.Name x p) (e :: es) [] pos) (up X.K m (dCall sp u)) := PE.imp (pg_call G hr hg hm hk hb .nil pass0 ha hdb he hpl) fun _ _ _ h => up_call hn h
theorem de_call0 {k n : Nat} {fa : Addr} {fd : FuncData} {ps : List Str} {sp : DSp m} (G : FnG X.prog X.w X.K X.mg X.base CX0 k fa fd ps (lift X.K m n sp)) (hn : ∀ ds s Qd, sp ds s Qd → ds.length = n) (hr : RoomG k X.A) (hg : Gl X x) (hm : X.mg x = some (.ref fa)) (hk : PySem.W.keepIn X.K (.ref fa) = true) (hb : Binds X.K fd ps [])
    (hdb : (x == ("__debug__" : Str)) = false := by decide) : PE X (.Call (.Name x p) [] [] pos) (up X.K m (dCall sp daNil)) := PE.imp (pg_call0 G hr hg hm hk hb .nil pass0 hdb) fun σ H Q h => by
  obtain ⟨F, ρ, s, Qd, rl, ht, hQ⟩ := h
  exact ⟨(hn [] s _ ht).symm ▸ rfl, F, [], s, _, rl.sub, rl.mem, rl.reg, .nil, ht, fun d s' v F2 H2 q2 c rv => hQ d ρ s' v F2 H2 q2 (rl.call c) c.stp rv⟩
end
end DL

set_option Elab.async false
set_option linter.all false
set_option maxRecDepth 100000
namespace DL
open PySem PySem.Spec PyProof.Rows L2

/-! ### statements -/
/-- the state at a def's entry -/
structure Ent (m : Mem) where
  F : Hp
  H : Hp
  s : m.S
/-- what has become of it -/
structure Own (m : Mem) (E : Ent m) (F H : Hp) (σ : L2.St) (ρ : List Sl) (s : m.S) : Prop where
  ext : Same E.F F
  keep : ∀ a o, E.H a = some o → ¬ m.R E.s a → H a = some o
  alive : ∀ a, E.H a ≠ none → H a ≠ none
  fresh : ∀ a o, F a = some o → E.F a = some o ∨ E.H a = none
  regf : ∀ a, m.R s a → m.R E.s a ∨ E.H a = none
  own : ∀ (i : Nat) p, Owns σ ρ i p → E.H p = none
theorem Own.stp {m : Mem} {E : Ent m} {F H F' H' : Hp} {σ : L2.St} {ρ ρ' : List Sl} {s s' : m.S} (o : Own m E F H σ ρ s) (st : Stp m F H σ ρ s F' H' ρ' s') : Own m E F' H' σ ρ' s' where
  ext := o.ext.trans st.ext
  keep := fun a x h n => st.keep a x (o.keep a x h n) fun r => by
    rcases o.regf a r with z | z
    · exact n z
    · rw [z] at h; cases h
  alive := fun a h => st.alive a (o.alive a h)
  fresh := fun a x h => by
    rcases st.fresh a x h with z | z | ⟨i, z⟩
    · exact o.fresh a x z
    · refine .inr ?_
      cases q : E.H a with
      | none => rfl
      | some u => exact absurd z (o.alive a (by rw [q]; simp))
    · exact .inr (o.own i a z)
  regf := fun a h => by
    rcases st.regf a h with z | z
    · exact o.regf a z
    · refine .inr ?_
      cases q : E.H a with
      | none => rfl
      | some u => exact absurd z (o.alive a (by rw [q]; simp))
  own := fun i p h => o.own i p (st.owns h)
structure DEnds (m : Mem) where
  nx : List Sl → m.S → Prop
  rt : D → m.S → Prop
  bk : List Sl → m.S → Prop := fun _ _ => False
  ct : List Sl → m.S → Prop := fun _ _ => False
abbrev DTS (m : Mem) := DEnds m → List Sl → m.S → Prop
structure Fits (K : PySem.W.Frag) (m : Mem) (E : Ent m) (F0 : Hp) (dd : DEnds m) (DD : Ends) : Prop where
  nx : ∀ F H σ ρ s, Same F0 F → Rel K m F H σ ρ s → Own m E F H σ ρ s → dd.nx ρ s → DD.nx σ H
  rt : ∀ F H σ ρ s d v, Same F0 F → Rel K m F H σ ρ s → Own m E F H σ ρ s → Rep K F d v → dd.rt d s → DD.rt v H
  bk : ∀ F H σ ρ s, Same F0 F → Rel K m F H σ ρ s → Own m E F H σ ρ s → dd.bk ρ s → DD.bk σ H
  ct : ∀ F H σ ρ s, Same F0 F → Rel K m F H σ ρ s → Own m E F H σ ρ s → dd.ct ρ s → DD.ct σ H
theorem Fits.mono {K : PySem.W.Frag} {m : Mem} {E : Ent m} {F0 F1 : Hp} {dd : DEnds m} {DD : Ends} (f : Fits K m E F0 dd DD) (h : Same F0 F1) : Fits K m E F1 dd DD :=
  ⟨fun F H σ ρ s q => f.nx F H σ ρ s (h.trans q), fun F H σ ρ s d v q => f.rt F H σ ρ s d v (h.trans q), fun F H σ ρ s q => f.bk F H σ ρ s (h.trans q), fun F H σ ρ s q => f.ct F H σ ρ s (h.trans q)⟩
def upS (K : PySem.W.Frag) (m : Mem) (E : Ent m) (t : DTS m) : TS := fun DD σ H => ∃ F ρ s dd, Rel K m F H σ ρ s ∧ Own m E F H σ ρ s ∧ t dd ρ s ∧ Fits K m E F dd DD

section
variable {X : Cx} {m : Mem} {E : Ent m} {st : Stmt} {rest : List Stmt} {t u : DTS m} {e : Expr} {te : DT m} {pos : Pos}
def dNext {m : Mem} : DTS m := fun dd ρ s => dd.nx ρ s
def dSeq {m : Mem} (t u : DTS m) : DTS m := fun dd ρ s => t { dd with nx := u dd } ρ s
theorem dss_nil : PSs X [] (upS X.K m E dNext) := PSs.imp pss_nil fun DD σ H h => by
  obtain ⟨F, ρ, s, dd, r, o, ht, f⟩ := h
  exact f.nx F H σ ρ s (Same.refl F) r o ht
theorem dss_cons (h1 : PS X st (upS X.K m E t)) (h2 : PSs X rest (upS X.K m E u)) : PSs X (st :: rest) (upS X.K m E (dSeq t u)) := PSs.imp (pss_cons h1 h2) fun DD σ H h => by
  obtain ⟨F, ρ, s, dd, r, o, ht, f⟩ := h
  exact ⟨F, ρ, s, _, r, o, ht, ⟨fun F' H' σ' ρ' s' sm r' o' q => ⟨F', ρ', s', dd, r', o', q, f.mono sm⟩, f.rt, f.bk, f.ct⟩⟩
theorem dss_one (h1 : PS X st (upS X.K m E t)) : PSs X [st] (upS X.K m E t) := pss_one h1
theorem ds_pass : PS X (.Pass pos) (upS X.K m E dNext) := PS.imp ps_pass fun DD σ H h => by
  obtain ⟨F, ρ, s, dd, r, o, ht, f⟩ := h
  exact f.nx F H σ ρ s (Same.refl F) r o ht
def dBreak {m : Mem} : DTS m := fun dd ρ s => dd.bk ρ s
def dCont {m : Mem} : DTS m := fun dd ρ s => dd.ct ρ s
theorem ds_break : PS X (.Break pos) (upS X.K m E dBreak) := PS.imp ps_break fun DD σ H h => by
  obtain ⟨F, ρ, s, dd, r, o, ht, f⟩ := h
  exact f.bk F H σ ρ s (Same.refl F) r o ht
theorem ds_continue : PS X (.Continue pos) (upS X.K m E dCont) := PS.imp ps_continue fun DD σ H h => by
  obtain ⟨F, ρ, s, dd, r, o, ht, f⟩ := h
  exact f.ct F H σ ρ s (Same.refl F) r o ht
def dDrop {m : Mem} (te : DT m) : DTS m := fun dd ρ s => te ρ s fun _ ρ1 s1 => dd.nx ρ1 s1
theorem ds_expr (he : PE X e (up X.K m te)) (hs : swapsWith e none pos.line X.env = pure false := by rfl) : PS X (.Expr e pos) (upS X.K m E (dDrop te)) := PS.imp (ps_expr he hs) fun DD σ H h => by
  obtain ⟨F, ρ, s, dd, r, o, ht, f⟩ := h
  exact ⟨F, ρ, s, _, r, ht, fun d ρ1 s1 v F1 H1 q1 r1 st1 rv => f.nx F1 H1 σ ρ1 s1 st1.ext r1 (o.stp st1) q1⟩
def dRet {m : Mem} (te : DT m) : DTS m := fun dd ρ s => te ρ s fun d _ s1 => dd.rt d s1
theorem ds_ret (he : PE X e (up X.K m te)) : PS X (.Return (some e) pos) (upS X.K m E (dRet te)) := PS.imp (ps_ret he) fun DD σ H h => by
  obtain ⟨F, ρ, s, dd, r, o, ht, f⟩ := h
  exact ⟨F, ρ, s, _, r, ht, fun d ρ1 s1 v F1 H1 q1 r1 st1 rv => f.rt F1 H1 σ ρ1 s1 d v st1.ext r1 (o.stp st1) rv q1⟩
def dRetN {m : Mem} : DTS m := fun dd _ s => dd.rt .non s
theorem ds_retN : PS X (.Return none pos) (upS X.K m E dRetN) := PS.imp ps_retN fun DD σ H h => by
  obtain ⟨F, ρ, s, dd, r, o, ht, f⟩ := h
  exact f.rt F H σ ρ s .non .non (Same.refl F) r o rfl ht
def dIf {m : Mem} (c : DTT m) (t u : DTS m) : DTS m := fun dd ρ s => c ρ s fun b ρ1 s1 => ifB b (t dd ρ1 s1) (u dd ρ1 s1)
theorem ds_if {c : Expr} {a b : List Stmt} {tc : DTT m} (hc : PT X c (upT X.K m tc)) (ha : PSs X a (upS X.K m E t)) (hb : PSs X b (upS X.K m E u)) : PS X (.If c a b pos) (upS X.K m E (dIf tc t u)) := PS.imp (ps_if hc ha hb) fun DD σ H h => by
  obtain ⟨F, ρ, s, dd, r, o, ht, f⟩ := h
  refine ⟨F, ρ, s, _, r, ht, fun b ρ1 s1 F1 H1 q1 r1 st1 => ?_⟩
  cases b with
  | true =>
    have q1 := ifB_t q1
    exact iteT ⟨F1, ρ1, s1, dd, r1, o.stp st1, q1, f.mono st1.ext⟩
  | false => exact iteF ⟨F1, ρ1, s1, dd, r1, o.stp st1, ifB_f q1, f.mono st1.ext⟩

/-! ### names stored -/
theorem Own.put {K : PySem.W.Frag} {F H : Hp} {σ : L2.St} {ρ : List Sl} {s : m.S} (o : Own m E F H σ ρ s) {i : Nat} {d : D} {v : V} : Own m E F H (σ.set i (some v)) (ρ.set i (.sh d)) s :=
  ⟨o.ext, o.keep, o.alive, o.fresh, o.regf, fun j p ⟨⟨ob, h1⟩, h2⟩ => by
    by_cases hj : i = j
    · subst hj
      by_cases hi : i < ρ.length
      · rw [List.getElem?_set_self hi] at h1; cases h1
      · rw [List.getElem?_eq_none (by simpa using hi)] at h1; cases h1
    · rw [List.getElem?_set_ne hj] at h1 h2; exact o.own j p ⟨⟨ob, h1⟩, h2⟩⟩
def dSet {m : Mem} (i : Nat) (te : DT m) : DTS m := fun dd ρ s => te ρ s fun d ρ1 s1 => dd.nx (ρ1.set i (.sh d)) s1
theorem ds_set (i : Nat) {x : Str} {pos' : Pos} (hN : X.N.Nodup) (he : PE X e (up X.K m te)) (hi : X.N[i]? = some x := by rfl) (hx : Loc X.env.scope x := by first | exact Or.inl rfl | exact Or.inr rfl) (hs : swapsWith e (some (.Name x pos')) pos.line X.env = pure false := by rfl)
    (hf : X.fn x = true ∨ X.env.scope.names.lookup x = some .local := by first | exact .inl rfl | exact .inr rfl) :
    PS X (.Assign [.Name x pos'] e pos) (upS X.K m E (dSet i te)) := PS.imp (ps_set hN hi hx he hs hf) fun DD σ H h => by
  obtain ⟨F, ρ, s, dd, r, o, ht, f⟩ := h
  exact ⟨F, ρ, s, _, r, ht, fun d ρ1 s1 v F1 H1 q1 r1 st1 rv => f.nx F1 H1 _ _ s1 st1.ext (r1.put rv) ((o.stp st1).put (K := X.K)) q1⟩
/-- x = [..], the list to be changed by this def -/
theorem Own.putO {K : PySem.W.Frag} {F H : Hp} {σ : L2.St} {ρ : List Sl} {s : m.S} (r : Rel K m F H σ ρ s) (o : Own m E F H σ ρ s) {i : Nat} {ob : Ob} {p : Addr} {ho : HO} (n : H p = none) : Own m E F (upd H p ho) (σ.set i (some (.ref p))) (ρ.set i (.ow ob)) s := by
  have eH : E.H p = none := by
    cases q : E.H p with
    | none => rfl
    | some u => exact absurd n (o.alive p (by rw [q]; simp))
  refine ⟨o.ext, fun a x h nr => ?_, fun a h => ?_, o.fresh, o.regf, fun j q ⟨⟨ob', h1⟩, h2⟩ => ?_⟩
  · rw [upd_ne (ne_of_none h eH)]; exact o.keep a x h nr
  · have hp : a ≠ p := fun z => h (z ▸ eH)
    rw [upd_ne hp]; exact o.alive a h
  · by_cases hj : i = j
    · subst hj
      have hi : i < σ.length := by
        have := (List.getElem?_eq_some_iff.mp h2).1
        rw [List.length_set] at this; exact this
      rw [List.getElem?_set_self hi] at h2
      cases h2
      exact eH
    · rw [List.getElem?_set_ne hj] at h1 h2; exact o.own j q ⟨⟨ob', h1⟩, h2⟩
def dSetL {m : Mem} (i : Nat) (ta : DTA m) : DTS m := fun dd ρ s => ta ρ s fun ds ρ1 s1 => ds.length ≤ sizeLine ∧ dd.nx (ρ1.set i (.ow (.lst ds))) s1
theorem ds_setL (i : Nat) {x : Str} {es : List Expr} {pos' lpos : Pos} {ta : DTA m} (hN : X.N.Nodup) (ha : PA X es (upA X.K m ta)) (hi : X.N[i]? = some x := by rfl) (hx : Loc X.env.scope x := by first | exact Or.inl rfl | exact Or.inr rfl)
    (hs : swapsWith (.List es lpos) (some (.Name x pos')) pos.line X.env = pure false := by rfl) (hf : X.fn x = true ∨ X.env.scope.names.lookup x = some .local := by first | exact .inl rfl | exact .inr rfl) :
    PS X (.Assign [.Name x pos'] (.List es lpos) pos) (upS X.K m E (dSetL i ta)) := PS.imp (ps_set hN hi hx (pe_lst ha) hs hf) fun DD σ H h => by
  obtain ⟨F, ρ, s, dd, r, o, ht, f⟩ := h
  refine ⟨F, ρ, s, _, r, ht, fun ds ρ1 s1 vs F1 H1 ⟨hl, q1⟩ r1 st1 rs => ⟨by rw [rs.length]; exact hl, fun p np => ?_⟩⟩
  exact f.nx F1 _ _ _ s1 st1.ext (r1.putO (o := .lst ds) np ⟨vs, rfl, by rw [rs.length]; exact hl, rs⟩) (Own.putO r1 (o.stp st1) np) q1
/-- x.append(e), the list x's own -/
def dApp {m : Mem} (i : Nat) (te : DT m) : DTS m := fun dd ρ s => (∃ ds0, ρ[i]? = some (.ow (.lst ds0))) ∧ te ρ s fun d ρ1 s1 => ∃ ds, ρ1[i]? = some (.ow (.lst ds)) ∧ ds.length < sizeLine ∧ dd.nx (ρ1.set i (.ow (.lst (ds ++ [d])))) s1
theorem Own.write {K : PySem.W.Frag} {F H : Hp} {σ : L2.St} {ρ : List Sl} {s : m.S} (o : Own m E F H σ ρ s) {i : Nat} {ob ob' : Ob} {p : Addr} {ho : HO} (e : ρ[i]? = some (.ow ob)) (eσ : σ[i]? = some (some (V.ref p))) : Own m E F (upd H p ho) σ (ρ.set i (.ow ob')) s := by
  have eH : E.H p = none := o.own i p ⟨⟨ob, e⟩, eσ⟩
  refine ⟨o.ext, fun a x h nr => ?_, fun a h => ?_, o.fresh, o.regf, fun j q ⟨⟨u, h1⟩, h2⟩ => ?_⟩
  · rw [upd_ne (ne_of_none h eH)]; exact o.keep a x h nr
  · have hp : a ≠ p := fun z => h (z ▸ eH)
    rw [upd_ne hp]; exact o.alive a h
  · by_cases hj : i = j
    · subst hj; exact o.own i q ⟨⟨ob, e⟩, h2⟩
    · rw [List.getElem?_set_ne hj] at h1; exact o.own j q ⟨⟨u, h1⟩, h2⟩
theorem ds_app (i : Nat) {x : Str} {xpos apos cpos : Pos} (he : PE X e (up X.K m te)) (hN : X.N[i]? = some x := by rfl) (hv : Vis X.env.scope x := by first | exact Or.inl rfl | exact Or.inr (Or.inl rfl) | exact Or.inr (Or.inr rfl))
    (hd : (x == ("__debug__" : Str)) = false := by decide) (hcd : (x == ("__classdict__" : Str)) = false := by decide)
    (hbase : attributeBase (.Name x xpos) "append" X.env (eval (.Name x xpos) X.env) = eval (.Name x xpos) X.env := by rfl)
    (hfew : ((backTo cpos (starEach [e] X.env)).all (fun x => !x.1) && (backToKw cpos (keywordEach [] X.env)).all (fun x => x.1.isSome)
      && decide ([e].length + ([] : List Keyword).length + (if ([] : List Keyword).isEmpty then 0 else 1) < 30)) = true := by rfl)
    (hline : (apos.endLine == cpos.line) = true := by rfl) (hs : starEach [e] X.env = [(false, eval e X.env)] := by rfl)
    (hsw : swapsWith (.Call (.Attribute (.Name x xpos) "append" apos) [e] [] cpos) none pos.line X.env = pure false := by rfl) :
    PS X (.Expr (.Call (.Attribute (.Name x xpos) "append" apos) [e] [] cpos) pos) (upS X.K m E (dApp i te)) :=
  PS.imp (ps_expr (pe_bm PySem.F.plainAttrs_list PySem.F.slot_list_append PySem.F.type_list_append mt_append (pv i hN hv hd hcd) (pa_cons he pa_nil (by rw [hs]; rfl)) hbase hfew hline (by rw [hs]; rfl) rfl) hsw) fun DD σ H h => by
  obtain ⟨F, ρ, s, dd, r, o, ⟨⟨ds0, e0⟩, ht⟩, f⟩ := h
  obtain ⟨p, ho, h1, h2, ⟨vs0, rfl, hl0, rs0⟩, h4, h5⟩ := r.own_at e0
  refine ⟨_, h1, .inl ⟨rfl, vs0, .inl (.inl h2)⟩, F, ρ, s, _, r, ht, fun d ρ1 s1 v F1 H1 ⟨ds, e1, hz, q1⟩ r1 st1 rv => ?_⟩
  obtain ⟨p', ho, g1, g2, ⟨vs, rfl, hl, rs⟩, g4, g5⟩ := r1.own_at e1
  rw [h1] at g1; cases g1
  have hlen := rs.length
  refine ⟨p, vs, v, rfl, rfl, g2, by omega, ?_⟩
  refine f.nx F1 _ σ _ s1 st1.ext (r1.write (o' := .lst (ds ++ [d])) e1 h1 ⟨vs ++ [v], rfl, by rw [List.length_append]; exact (by simp; omega), rs.append (.one rv)⟩) ((o.stp st1).write (K := X.K) e1 h1) q1

/-! ### what a target is bound to -/
abbrev DG := D → List Sl → (List Sl → Prop) → Prop
/-- ts: the slots that the target stores -/
def upG (K : PySem.W.Frag) (m : Mem) (ts : List Nat) (g : DG) : TG := fun v σ H Q => ∃ F ρ s d Qd, Rel K m F H σ ρ s ∧ Rep K F d v ∧ g d ρ Qd ∧
  ∀ σ' ρ', Qd ρ' → Rel K m F H σ' ρ' s → (∀ i p, Owns σ' ρ' i p → Owns σ ρ i p) → (σ'.length = σ.length ∧ ∀ j, j ∉ ts → σ'[j]? = σ[j]?) → Q σ' H
def upGs (K : PySem.W.Frag) (m : Mem) (ts : List Nat) (g : List D → List Sl → (List Sl → Prop) → Prop) : TGs := fun vs σ H Q => ∃ F ρ s ds Qd, Rel K m F H σ ρ s ∧ Reps K F ds vs ∧ g ds ρ Qd ∧
  ∀ σ' ρ', Qd ρ' → Rel K m F H σ' ρ' s → (∀ i p, Owns σ' ρ' i p → Owns σ ρ i p) → (σ'.length = σ.length ∧ ∀ j, j ∉ ts → σ'[j]? = σ[j]?) → Q σ' H
theorem PG.imp {tg : Expr} {g g' : TG} (h : PG X tg g) (w : ∀ v σ H Q, g' v σ H Q → g v σ H Q) : PG X tg g' := ⟨fun pins s σ H v u Q I r q => h.run pins s σ H v u Q I r (w v σ H Q q)⟩
theorem PGs.imp {tg : List Expr} {g g' : TGs} (h : PGs X tg g) (w : ∀ v σ H Q, g' v σ H Q → g v σ H Q) : PGs X tg g' := ⟨fun pins s σ H v u Q I r q => h.run pins s σ H v u Q I r (w v σ H Q q)⟩
def gN (i : Nat) : DG := fun d ρ Q => Q (ρ.set i (.sh d))
theorem owns_put {σ : L2.St} {ρ : List Sl} {i : Nat} {d : D} {v : V} {j : Nat} {q : Addr} (h : Owns (σ.set i (some v)) (ρ.set i (.sh d)) j q) : Owns σ ρ j q := by
  obtain ⟨⟨o', h1⟩, h2⟩ := h
  by_cases hj : i = j
  · subst hj
    by_cases hi : i < ρ.length
    · rw [List.getElem?_set_self hi] at h1; cases h1
    · rw [List.getElem?_eq_none (by simpa using hi)] at h1; cases h1
  · rw [List.getElem?_set_ne hj] at h1 h2; exact ⟨⟨o', h1⟩, h2⟩
theorem dg_name (i : Nat) {x : Str} (hN : X.N.Nodup) (hi : X.N[i]? = some x := by rfl) (hx : Loc X.env.scope x := by first | exact Or.inl rfl | exact Or.inr rfl) (hf : X.fn x = true ∨ X.env.scope.names.lookup x = some .local := by first | exact .inl rfl | exact .inr rfl) :
    PG X (.Name x pos) (upG X.K m [i] (gN i)) := PG.imp (pg_name hN hi hx hf) fun v σ H Q h => by
  obtain ⟨F, ρ, s, d, Qd, r, rv, hg, hQ⟩ := h
  exact hQ _ _ hg (r.put rv) (fun j p h => owns_put h) ⟨by rw [List.length_set], fun j hj => List.getElem?_set_ne (by simpa using Ne.symm (by simpa using hj))⟩
def gNil' : List D → List Sl → (List Sl → Prop) → Prop := fun ds ρ Q => ds = [] ∧ Q ρ
def gCons' (g : DG) (u : List D → List Sl → (List Sl → Prop) → Prop) : List D → List Sl → (List Sl → Prop) → Prop := fun ds ρ Q => ∃ d r, ds = d :: r ∧ g d ρ fun ρ1 => u r ρ1 Q
theorem dgs_nil : PGs X [] (upGs X.K m [] gNil') := PGs.imp pgs_nil fun vs σ H Q h => by
  obtain ⟨F, ρ, s, ds, Qd, r, rv, ⟨hg, hq⟩, hQ⟩ := h
  subst hg
  cases rv
  exact ⟨rfl, hQ σ ρ hq r (fun _ _ h => h) ⟨rfl, fun _ _ => rfl⟩⟩
theorem dgs_cons {es : List Expr} {ts us : List Nat} {g : DG} {u : List D → List Sl → (List Sl → Prop) → Prop} (h1 : PG X e (upG X.K m ts g)) (h2 : PGs X es (upGs X.K m us u)) (hs : (assignEach (e :: es) X.env).map (·.2) = assign e X.env :: (assignEach es X.env).map (·.2) := by rfl) :
    PGs X (e :: es) (upGs X.K m (ts ++ us) (gCons' g u)) := PGs.imp (pgs_cons h1 h2 hs) fun vs σ H Q h => by
  obtain ⟨F, ρ, s, ds, Qd, r, rv, ⟨d, rr, hd, hg⟩, hQ⟩ := h
  subst hd
  obtain ⟨v, vr, rfl, rv1, rv2⟩ := rv
  refine ⟨v, vr, rfl, F, ρ, s, d, _, r, rv1, hg, fun σ1 ρ1 q1 r1 o1 k1 => ⟨F, ρ1, s, rr, _, r1, rv2, q1, fun σ2 ρ2 q2 r2 o2 k2 => ?_⟩⟩
  exact hQ σ2 ρ2 q2 r2 (fun i p h => o1 i p (o2 i p h)) ⟨k2.1.trans k1.1, fun j hj => (k2.2 j fun z => hj (List.mem_append_right _ z)).trans (k1.2 j fun z => hj (List.mem_append_left _ z))⟩
def gTup' (n : Nat) (u : List D → List Sl → (List Sl → Prop) → Prop) : DG := fun d ρ Q => ∃ ds, d = .tup ds ∧ ds.length = n ∧ u ds ρ Q
theorem dg_tup {es : List Expr} {k : Nat} {us : List Nat} {u : List D → List Sl → (List Sl → Prop) → Prop} {n : Nat} (hc : X.calm = true) (h : PGs X es (upGs X.K m us u)) (hn : (assignEach es X.env).length = n := by rfl) (hst : (assignEach es X.env).findIdx? (·.1) = none := by rfl) :
    PG X (.Tuple es k pos) (upG X.K m us (gTup' n u)) := PG.imp (pg_tup hc h hn hst) fun v σ H Q h => by
  obtain ⟨F, ρ, s, d, Qd, r, rv, ⟨ds, hd, hl, hg⟩, hQ⟩ := h
  subst hd
  obtain ⟨a, vs, rfl, hT, _, rs⟩ := rv
  exact ⟨a, vs, rfl, Same.seqT r.sub hT, by rw [rs.length]; exact hl, F, ρ, s, ds, Qd, r, rs, hg, hQ⟩
theorem Own.tgt {F H : Hp} {σ σ' : L2.St} {ρ ρ' : List Sl} {s : m.S} (o : Own m E F H σ ρ s) (h : ∀ i p, Owns σ' ρ' i p → Owns σ ρ i p) : Own m E F H σ' ρ' s := ⟨o.ext, o.keep, o.alive, o.fresh, o.regf, fun i p q => o.own i p (h i p q)⟩
/-- target = e, any target -/
def dAsg {m : Mem} (te : DT m) (g : DG) : DTS m := fun dd ρ s => te ρ s fun d ρ1 s1 => g d ρ1 fun ρ2 => dd.nx ρ2 s1
theorem ds_asg {tg : Expr} {ts : List Nat} {g : DG} (he : PE X e (up X.K m te)) (hg : PG X tg (upG X.K m ts g)) (hs : swapsWithSole [tg] e pos.line X.env = pure false := by rfl) (hw : swappedStores [tg] e X.env = pure none := by rfl)
    (h1 : (assignEach [tg] X.env).map (·.2) = [assign tg X.env] := by rfl) : PS X (.Assign [tg] e pos) (upS X.K m E (dAsg te g)) := PS.imp (ps_asg he hg hs hw h1) fun DD σ H h => by
  obtain ⟨F, ρ, s, dd, r, o, ht, f⟩ := h
  refine ⟨F, ρ, s, _, r, ht, fun d ρ1 s1 v F1 H1 q1 r1 st1 rv => ⟨F1, ρ1, s1, d, _, r1, rv, q1, fun σ2 ρ2 q2 r2 o2 _ => ?_⟩⟩
  exact f.nx F1 H1 σ2 ρ2 s1 st1.ext r2 ((o.stp st1).tgt o2) q2
/-- a, b = x, y with plain local names -/
def dPar {m : Mem} (i j : Nat) (ta : DTA m) : DTS m := fun dd ρ s => ta ρ s fun ds ρ1 s1 => ∃ d d', ds = [d, d'] ∧ dd.nx ((ρ1.set i (.sh d)).set j (.sh d')) s1
theorem ds_par (i j : Nat) {x y : Str} {a b : Expr} {ta : DTA m} {px py pt : Pos} {kt k2 pt2} (hN : X.N.Nodup) (ha : PA X [a, b] (upA X.K m ta)) (hc : X.calm = true := by rfl) (hi : X.N[i]? = some x := by rfl) (hj : X.N[j]? = some y := by rfl) (hij : i ≠ j := by decide)
    (hx : X.env.scope.names.lookup x = some .local := by rfl) (hy : X.env.scope.names.lookup y = some .local := by rfl)
    (hw : swappedStores [.Tuple [.Name x px, .Name y py] kt pt] (.Tuple [a, b] k2 pt2) X.env = pure (some [x, y]) := by rfl)
    (hs : swapsWithSole [.Tuple [.Name x px, .Name y py] kt pt] (.Tuple [a, b] k2 pt2) pos.line X.env = pure false := by rfl) :
    PS X (.Assign [.Tuple [.Name x px, .Name y py] kt pt] (.Tuple [a, b] k2 pt2) pos) (upS X.K m E (dPar i j ta)) := PS.imp (ps_par hc hN hi hj hij hx hy ha hw hs) fun DD σ H h => by
  obtain ⟨F, ρ, s, dd, r, o, ht, f⟩ := h
  refine ⟨F, ρ, s, _, r, ht, fun ds ρ1 s1 vs F1 H1 ⟨d, d', e, q1⟩ r1 st1 rs => ?_⟩
  subst e
  obtain ⟨v, _, rfl, rv, w, _, rfl, rw', rn⟩ := rs
  cases rn
  exact ⟨v, w, rfl, f.nx F1 H1 _ _ s1 st1.ext ((r1.put rv).put rw') (((o.stp st1).put (K := X.K)).put (K := X.K)) q1⟩
/-- x op= e -/
def dAug {m : Mem} (i : Nat) (f : D → D → (D → Prop) → Prop) (te : DT m) : DTS m := fun dd ρ s => ∃ x, ρ[i]? = some (.sh x) ∧ te ρ s fun y ρ1 s1 => f x y fun z => dd.nx (ρ1.set i (.sh z)) s1
theorem ds_aug (i : Nat) {x : Str} {op : Operator} {r2 : R2} {f2 : D → D → (D → Prop) → Prop} {pos' : Pos} (hN : X.N.Nodup) (ho : OpR X (inplaceOp op) r2) (hf2 : Op2 X.K r2 f2) (he : PE X e (up X.K m te)) (hi : X.N[i]? = some x := by rfl) (hx : Loc X.env.scope x := by first | exact Or.inl rfl | exact Or.inr rfl)
    (hf : X.fn x = true ∨ X.env.scope.names.lookup x = some .local := by first | exact .inl rfl | exact .inr rfl) : PS X (.AugAssign (.Name x pos') op e pos) (upS X.K m E (dAug i f2 te)) := PS.imp (ps_aug (ti := r2) hN hi hx he (fun pins s σ H x y v u Q I r1 r2 h => ho pins s σ H x y v u Q I r1 r2 h) hf) fun DD σ H h => by
  obtain ⟨F, ρ, s, dd, r, o, ⟨x, ex, ht⟩, f⟩ := h
  obtain ⟨v, h1, rv⟩ := r.sh i x ex
  refine ⟨v, h1, F, ρ, s, _, r, ht, fun y ρ1 s1 w F1 H1 q1 r1 st1 rw' => ?_⟩
  exact hf2 F1 H1 x y v w _ _ r1.sub (Rep.mono st1.ext _ _ rv) rw' q1 fun z u F2 H2 q2 g ru => f.nx F2 H2 _ _ s1 (st1.ext.trans g.fF) ((r1.grow g).put ru) ((o.stp (st1.trans g.stp)).put (K := X.K)) q2

/-! ### loops -/
/-- an iterator over known items: what it hands out is the data, in their order -/
def Walks (K : PySem.W.Frag) (F : Hp) (J : It) (ds : List D) : Prop := ∀ F' H', Same F F' → Same F' H' →
  (∀ i, ds.length ≤ i → J.stop i H') ∧ ∀ i d, ds[i]? = some d → J.go i H' ∧ ∀ x H2, J.yld i H' x H2 → ∃ F2, Grow F' H' F2 H2 ∧ Rep K F2 d x
theorem Walks.mono {K : PySem.W.Frag} {F F1 : Hp} {J : It} {ds : List D} (w : Walks K F J ds) (h : Same F F1) : Walks K F1 J ds := fun F' H' a b => w F' H' (h.trans a) b
abbrev DTI (m : Mem) := List Sl → m.S → (List D → List Sl → m.S → Prop) → Prop
def upI (K : PySem.W.Frag) (m : Mem) (t : DTI m) : TI := fun σ H R => ∃ F ρ s Qd, Rel K m F H σ ρ s ∧ t ρ s Qd ∧ ∀ ds ρ' s' J F' H', Qd ds ρ' s' → Rel K m F' H' σ ρ' s' → Stp m F H σ ρ s F' H' ρ' s' → Walks K F' J ds → R J H'
theorem PI.imp {tg iter : Expr} {t t' : TI} (h : PI X tg iter t) (w : ∀ σ H Q, t' σ H Q → t σ H Q) : PI X tg iter t' := ⟨fun pins s σ H R I q => h.run pins s σ H R I (w σ H R q)⟩
/-- a list or a tuple -/
def seqD : D → Option (List D)
  | .lst ds => some ds
  | .tup ds => some ds
  | .fz ds => some ds
  | _ => none
def diSeq {m : Mem} (te : DT m) : DTI m := fun ρ s Q => te ρ s fun d ρ1 s1 => ∃ ds, seqD d = some ds ∧ Q ds ρ1 s1
theorem walks_list {K : PySem.W.Frag} {F : Hp} {a : Addr} {ds : List D} {vs : List V} (h : SqL K F a vs) (rs : Reps K F ds vs) : Walks K F (Itl K a) ds := fun F' H' s1 s2 => by
  have q : SqL K H' a vs := Same.seq s2 (Same.seq s1 h)
  have hl := rs.length
  refine ⟨fun i hi => ⟨vs, q, by omega⟩, fun i d e => ?_⟩
  obtain ⟨v, ev, rv⟩ := rs.get e
  refine ⟨⟨vs, v, q, ev⟩, fun x H2 y => ?_⟩
  obtain ⟨e1, y⟩ := y
  subst e1
  have e2 := y vs q
  rw [ev] at e2
  cases e2
  exact ⟨F', Grow.refl s2, Rep.mono s1 _ _ rv⟩
theorem walks_tup {K : PySem.W.Frag} {F : Hp} {a : Addr} {ds : List D} {vs : List V} (h : SqT K F a vs) (rs : Reps K F ds vs) : Walks K F (Itt K a) ds := fun F' H' s1 s2 => by
  have q : SqT K H' a vs := Same.seqT s2 (Same.seqT s1 h)
  have hl := rs.length
  refine ⟨fun i hi => ⟨vs, q, by omega⟩, fun i d e => ?_⟩
  obtain ⟨v, ev, rv⟩ := rs.get e
  refine ⟨⟨vs, v, q, ev⟩, fun x H2 y => ?_⟩
  obtain ⟨e1, y⟩ := y
  subst e1
  have e2 := y vs q
  rw [ev] at e2
  cases e2
  exact ⟨F', Grow.refl s2, Rep.mono s1 _ _ rv⟩
theorem pi_seq {tg l : Expr} {tl : TE} (hl : PE X l tl) : PI X tg l (fun σ H R => tl σ H fun x H1 => ∃ a, x = .ref a ∧ (((∃ xs, SqL X.K H1 a xs) ∧ R (Itl X.K a) H1) ∨ ((∃ xs, SqT X.K H1 a xs) ∧ R (Itt X.K a) H1))) := by
  refine ⟨fun pins s σ H R I h => ?_⟩
  refine thn (hl.run pins s σ H _ I h) fun v s1 ⟨x, H1, I1, r1, q1⟩ => ?_
  obtain ⟨a, e, q⟩ := q1
  subst e
  cases r1
  rcases q with ⟨⟨xs, hq⟩, q⟩ | ⟨⟨xs, hq⟩, q⟩
  · obtain ⟨its, rv, p, hz⟩ := I1.list hq
    refine wpAny_pyIter_list p.isList ?_
    refine ⟨s1.heap.objs.size, [s1.heap.objs.size], _, _, H1, rfl, I1.kept (t' := s1.toks) fun b o e => Heap.get?_push_of_some _ e, turn_list a _, ⟨_, Heap.get?_push_size _ rfl, rfl, rfl⟩, fun b hb => ?_, q⟩
    have e : b = s1.heap.objs.size := by simpa using hb
    subst e
    exact I1.fpOk (Nat.le_refl _) (I1.hok.fresh (Nat.le_refl _))
  · obtain ⟨its, rv, p, hz⟩ := I1.tuple hq
    refine wpAny_pyIter_tuple (show s1.heap.IsTuple a its.toArray from p) ?_
    refine ⟨s1.heap.objs.size, [s1.heap.objs.size], _, _, H1, rfl, I1.kept (t' := s1.toks) fun b o e => Heap.get?_push_of_some _ e, turn_tuple a _, ⟨_, Heap.get?_push_size _ rfl, rfl, rfl⟩, fun b hb => ?_, q⟩
    have e : b = s1.heap.objs.size := by simpa using hb
    subst e
    exact I1.fpOk (Nat.le_refl _) (I1.hok.fresh (Nat.le_refl _))
theorem di_seq {tg l : Expr} (hl : PE X l (up X.K m te)) : PI X tg l (upI X.K m (diSeq te)) := PI.imp (pi_seq hl) fun σ H R h => by
  obtain ⟨F, ρ, s, Qd, r, ht, hQ⟩ := h
  refine ⟨F, ρ, s, _, r, ht, fun d ρ1 s1 v F1 H1 ⟨ds, e, q1⟩ r1 st1 rv => ?_⟩
  cases d with
  | lst es =>
    cases e
    obtain ⟨a, vs, rfl, h1, _, rs⟩ := rv
    exact ⟨a, rfl, .inl ⟨⟨vs, .inl (.inl (r1.sub _ _ h1))⟩, hQ _ ρ1 s1 _ F1 H1 q1 r1 st1 (walks_list (.inl (.inl h1)) rs)⟩⟩
  | tup es =>
    cases e
    obtain ⟨a, vs, rfl, h1, _, rs⟩ := rv
    exact ⟨a, rfl, .inr ⟨⟨vs, Same.seqT r1.sub h1⟩, hQ _ ρ1 s1 _ F1 H1 q1 r1 st1 (walks_tup h1 rs)⟩⟩
  | fz es =>
    cases e
    obtain ⟨a, vs, rfl, h1, _, rs⟩ := rv
    exact ⟨a, rfl, .inl ⟨⟨vs, Same.seq r1.sub h1⟩, hQ _ ρ1 s1 _ F1 H1 q1 r1 st1 (walks_list h1 rs)⟩⟩
  | _ => cases e
/-- lo, lo + 1, .. -/
def rngD (lo : Int) (n : Nat) : List D := (List.range n).map fun (i : Nat) => D.int (lo + (i : Int))
theorem rngD_length (lo : Int) (n : Nat) : (rngD lo n).length = n := by simp [rngD]
theorem walks_rng {K : PySem.W.Frag} {F : Hp} (lo : Int) (n : Nat) : Walks K F (Itr lo n) (rngD lo n) := fun F' H' s1 s2 => by
  refine ⟨fun i hi => by rw [rngD_length] at hi; exact hi, fun i d e => ?_⟩
  have hi : i < n := by
    have := (List.getElem?_eq_some_iff.mp e).1
    rw [rngD_length] at this; exact this
  refine ⟨hi, fun x H2 y => ?_⟩
  obtain ⟨e1, e2⟩ := y
  subst e1 e2
  refine ⟨F', Grow.refl s2, ?_⟩
  have e' : d = D.int (lo + (i : Int)) := by
    unfold rngD at e
    rw [List.getElem?_map, List.getElem?_range hi] at e
    exact (Option.some.inj e).symm
  subst e'
  rfl
def diR1 {m : Mem} (ta : DTA m) : DTI m := fun ρ s Q => ta ρ s fun ds ρ1 s1 => ∃ j : Int, ds = [.int j] ∧ -(2 ^ 62) ≤ j ∧ j < 2 ^ 62 ∧ Q (rngD 0 j.toNat) ρ1 s1
def diR2 {m : Mem} (ta : DTA m) : DTI m := fun ρ s Q => ta ρ s fun ds ρ1 s1 => ∃ i j : Int, ds = [.int i, .int j] ∧ (-(2 ^ 62) ≤ i ∧ i < 2 ^ 62 ∧ -(2 ^ 62) ≤ j ∧ j < 2 ^ 62) ∧ Q (rngD i (j - i).toNat) ρ1 s1
theorem di_range1 {tg a : Expr} {ta : DTA m} {p pos : Pos} (hg : Gl X "range") (hm : X.mg "range" = none) (ha : PA X [a] (upA X.K m ta)) (hs : starEach [a] X.env = [(false, eval a X.env)] := by rfl) : PI X tg (.Call (.Name "range" p) [a] [] pos) (upI X.K m (diR1 ta)) :=
  PI.imp (pi_range1 hg hm ha hs) fun σ H R h => by
    obtain ⟨F, ρ, s, Qd, r, ht, hQ⟩ := h
    refine ⟨F, ρ, s, _, r, ht, fun ds ρ1 s1 vs F1 H1 ⟨j, e, h1, h2, q1⟩ r1 st1 rs => ?_⟩
    subst e
    have e2 := reps_ints (ns := [j]) rs
    exact ⟨j, e2, h1, h2, hQ _ ρ1 s1 _ F1 H1 q1 r1 st1 (walks_rng 0 j.toNat)⟩
theorem di_range2 {tg a b : Expr} {ta : DTA m} {p pos : Pos} (hg : Gl X "range") (hm : X.mg "range" = none) (ha : PA X [a, b] (upA X.K m ta)) (hs : starEach [a, b] X.env = [(false, eval a X.env), (false, eval b X.env)] := by rfl) (hs2 : starEach [b] X.env = [(false, eval b X.env)] := by rfl) :
    PI X tg (.Call (.Name "range" p) [a, b] [] pos) (upI X.K m (diR2 ta)) :=
  PI.imp (pi_range2 hg hm ha hs hs2) fun σ H R h => by
    obtain ⟨F, ρ, s, Qd, r, ht, hQ⟩ := h
    refine ⟨F, ρ, s, _, r, ht, fun ds ρ1 s1 vs F1 H1 ⟨i, j, e, h1, q1⟩ r1 st1 rs => ?_⟩
    subst e
    have e2 := reps_ints (ns := [i, j]) rs
    exact ⟨i, j, e2, h1, hQ _ ρ1 s1 _ F1 H1 q1 r1 st1 (walks_rng i (j - i).toNat)⟩
/-- a text, sign by sign -/
def chD (x : Str) : List D := x.cps.toList.map fun c => D.str ⟨#[c]⟩
def diStr {m : Mem} (te : DT m) : DTI m := fun ρ s Q => te ρ s fun d ρ1 s1 => ∃ x, d = .str x ∧ Q (chD x) ρ1 s1
theorem walks_str {K : PySem.W.Frag} {F : Hp} (x : Str) (hx : ∀ c ∈ x.cps.toList, c < 0x110000) : Walks K F (Its x) (chD x) := fun F' H' s1 s2 => by
  have hl : (chD x).length = x.cps.size := by simp [chD]
  refine ⟨fun i hi => by rw [hl] at hi; exact hi, fun i d e => ?_⟩
  have hi : i < x.cps.size := by
    have := (List.getElem?_eq_some_iff.mp e).1
    rw [hl] at this; exact this
  refine ⟨hi, fun y H2 q => ?_⟩
  obtain ⟨e1, c, e2, e3⟩ := q
  subst e1 e3
  refine ⟨F', Grow.refl s2, ?_⟩
  have e' : d = D.str ⟨#[c]⟩ := by
    unfold chD at e
    rw [List.getElem?_map, Array.getElem?_toList, e2] at e
    exact (Option.some.inj e).symm
  subst e'
  refine ⟨rfl, sOk_of (by show 1 ≤ strLim; decide) fun c' hc' => ?_⟩
  have hc2 : c' = c := by simpa using hc'
  subst hc2
  exact hx c' (by rw [← Array.getElem?_toList] at e2; exact List.mem_of_getElem? e2)
theorem di_str {tg l : Expr} (hl : PE X l (up X.K m te)) : PI X tg l (upI X.K m (diStr te)) := PI.imp (pi_str hl) fun σ H R h => by
  obtain ⟨F, ρ, s, Qd, r, ht, hQ⟩ := h
  refine ⟨F, ρ, s, _, r, ht, fun d ρ1 s1 v F1 H1 ⟨x, e, q1⟩ r1 st1 rv => ?_⟩
  subst e
  obtain ⟨rfl, hx⟩ := rv
  exact ⟨x, rfl, hQ _ ρ1 s1 _ F1 H1 q1 r1 st1 (walks_str x (sOk_cps hx))⟩
/-- for target in a walked thing: I says what holds when some are done -/
def dFor {m : Mem} (src : DTI m) (g : DG) (tb : DTS m) : DTS m := fun dd ρ s => src ρ s fun ds ρ1 s1 => ∃ I : List D → List Sl → m.S → Prop, I [] ρ1 s1 ∧
  (∀ pre x post ρ s, ds = pre ++ x :: post → I pre ρ s → g x ρ fun ρ2 => tb { dd with nx := I (pre ++ [x]), ct := I (pre ++ [x]), bk := dd.nx } ρ2 s) ∧ (∀ ρ s, I ds ρ s → dd.nx ρ s)
theorem for_core {K : PySem.W.Frag} {g : DG} {ts : List Nat} {tb : DTS m} {DD : Ends} {dd : DEnds m} {J : It} {σ : L2.St} {F0 F H : Hp} {ρ : List Sl} {s : m.S} {ds : List D} (r : Rel K m F H σ ρ s) (o : Own m E F H σ ρ s) (f : Fits K m E F0 dd DD) (h0 : Same F0 F) (hJ : Walks K F J ds)
    {I : List D → List Sl → m.S → Prop} (i0 : I [] ρ s) (turn : ∀ pre x post ρ s, ds = pre ++ x :: post → I pre ρ s → g x ρ fun ρ2 => tb { dd with nx := I (pre ++ [x]), ct := I (pre ++ [x]), bk := dd.nx } ρ2 s) (done : ∀ ρ s, I ds ρ s → dd.nx ρ s) :
    ∃ W : Nat → Nat → L2.St → Hp → Prop, (∃ m, W 0 m σ H) ∧ ∀ i n σ H, W i n σ H →
      (J.stop i H ∧ DD.nx σ H) ∨ (J.go i H ∧ ∃ N : L2.St → Hp → Prop, (∀ σ' H', N σ' H' → ∃ m', m' < n ∧ W (i + 1) m' σ' H') ∧ ∀ x H', J.yld i H x H' → upG K m ts g x σ H' fun σ2 H2 => upS K m E tb { DD with nx := N, ct := N, bk := DD.nx } σ2 H2) := by
  refine ⟨fun i n σ H => n = ds.length - i ∧ i ≤ ds.length ∧ ∃ F' ρ' s', Same F F' ∧ Rel K m F' H σ ρ' s' ∧ Own m E F' H σ ρ' s' ∧ I (ds.take i) ρ' s', ⟨ds.length, by simp, Nat.zero_le _, F, ρ, s, Same.refl F, r, o, by simpa using i0⟩, ?_⟩
  rintro i n σ1 H1 ⟨rfl, hi, F1, ρ1, s1, sm, r1, o1, hI⟩
  obtain ⟨hstop, hgo⟩ := hJ F1 H1 sm r1.sub
  by_cases hlt : i < ds.length
  · obtain ⟨h1, h2⟩ := hgo i _ (List.getElem?_eq_getElem hlt)
    refine .inr ⟨h1, fun σ' H' => ∃ F' ρ' s', Same F F' ∧ Rel K m F' H' σ' ρ' s' ∧ Own m E F' H' σ' ρ' s' ∧ I (ds.take (i + 1)) ρ' s', fun σ' H' ⟨F', ρ', s', q1, q2, q3, q4⟩ => ⟨ds.length - (i + 1), by omega, rfl, hlt, F', ρ', s', q1, q2, q3, q4⟩, fun x H' y => ?_⟩
    obtain ⟨F2, g2, rv⟩ := h2 x H' y
    have hsplit : ds = ds.take i ++ ds[i] :: ds.drop (i + 1) := by
      rw [List.getElem_cons_drop, List.take_append_drop]
    have etake : ds.take (i + 1) = ds.take i ++ [ds[i]] := List.take_succ_eq_append_getElem hlt
    have o2 := o1.stp (g2.stp (m := m) (s := s1) (ρ := ρ1) (σ := σ1))
    refine ⟨F2, ρ1, s1, ds[i], _, r1.grow g2, rv, turn _ _ _ _ _ hsplit hI, fun σ2 ρ2 q2 r2 o3 _ => ⟨F2, ρ2, s1, _, r2, o2.tgt o3, q2, ?_⟩⟩
    have fit : ∀ F' H' σ' ρ' s', Same F2 F' → Rel K m F' H' σ' ρ' s' → Own m E F' H' σ' ρ' s' → I (ds.take i ++ [ds[i]]) ρ' s' → ∃ F'' ρ'' s'', Same F F'' ∧ Rel K m F'' H' σ' ρ'' s'' ∧ Own m E F'' H' σ' ρ'' s'' ∧ I (ds.take (i + 1)) ρ'' s'' :=
      fun F' H' σ' ρ' s' a b c d => ⟨F', ρ', s', (sm.trans g2.fF).trans a, b, c, by rw [etake]; exact d⟩
    have f1 := f.mono ((h0.trans sm).trans g2.fF)
    exact ⟨fit, f1.rt, f1.nx, fit⟩
  · have e : i = ds.length := by omega
    subst e
    rw [List.take_length] at hI
    exact .inl ⟨hstop _ (Nat.le_refl _), f.nx F1 H1 σ1 ρ1 s1 (h0.trans sm) r1 o1 (done _ _ hI)⟩
theorem ds_for {tg iter : Expr} {body : List Stmt} {src : DTI m} {g : DG} {ts : List Nat} {tb : DTS m} (hc : X.calm = true) (hi : PI X tg iter (upI X.K m src)) (hg : PG X tg (upG X.K m ts g)) (hb : PSs X body (upS X.K m E tb)) (hp : PassesOwn (model X.prog X.w) X.A X.env X.xe := by exact PassesOwn.never)
    (hs : ∀ x, foldedSetIterable iter X.env x = pure x := by intro _; rfl) : PS X (.For tg iter body [] pos) (upS X.K m E (dFor src g tb)) := PS.imp (ps_for hp hc hi hg hb hs) fun DD σ H h => by
  obtain ⟨F, ρ, s, dd, r, o, ht, f⟩ := h
  exact ⟨F, ρ, s, _, r, ht, fun ds ρ1 s1 J F1 H1 ⟨I, i0, turn, done⟩ r1 st1 w => for_core r1 (o.stp st1) f st1.ext w i0 turn done⟩
/-- while: I by a number that falls -/
def dWhile {m : Mem} (c : DTT m) (tb : DTS m) : DTS m := fun dd ρ s => ∃ I : Nat → List Sl → m.S → Prop, (∃ n, I n ρ s) ∧ ∀ n ρ s, I n ρ s → c ρ s fun b ρ1 s1 => ifB b (tb { dd with nx := fun ρ' s' => ∃ n', n' < n ∧ I n' ρ' s', ct := fun ρ' s' => ∃ n', n' < n ∧ I n' ρ' s', bk := dd.nx } ρ1 s1) (dd.nx ρ1 s1)
theorem ds_while {c : Expr} {body : List Stmt} {tc : DTT m} {tb : DTS m} (hc : PT X c (upT X.K m tc)) (hb : PSs X body (upS X.K m E tb)) (hp : PassesOwn (model X.prog X.w) X.A X.env X.xe := by exact PassesOwn.never) : PS X (.While c body [] pos) (upS X.K m E (dWhile tc tb)) := PS.imp (ps_while hp hc hb) fun DD σ H h => by
  obtain ⟨F, ρ, s, dd, r, o, ⟨I, ⟨n0, i0⟩, turn⟩, f⟩ := h
  refine ⟨fun n σ H => ∃ F' ρ' s', Same F F' ∧ Rel X.K m F' H σ ρ' s' ∧ Own m E F' H σ ρ' s' ∧ I n ρ' s', ⟨n0, F, ρ, s, Same.refl F, r, o, i0⟩, ?_⟩
  rintro n σ1 H1 ⟨F1, ρ1, s1, sm, r1, o1, hI⟩
  refine ⟨F1, ρ1, s1, _, r1, turn n ρ1 s1 hI, fun b ρ2 s2 F2 H2 q2 r2 st2 => ?_⟩
  have f2 := f.mono (sm.trans st2.ext)
  cases b with
  | false => exact f2.nx F2 H2 σ1 ρ2 s2 (Same.refl _) r2 (o1.stp st2) (ifB_f q2)
  | true =>
    have q2 := ifB_t q2
    refine ⟨fun σ' H' => ∃ n', n' < n ∧ ∃ F' ρ' s', Same F F' ∧ Rel X.K m F' H' σ' ρ' s' ∧ Own m E F' H' σ' ρ' s' ∧ I n' ρ' s', fun σ' H' q => q, F2, ρ2, s2, _, r2, o1.stp st2, q2, ?_⟩
    have fit : ∀ F' H' σ' ρ' s', Same F2 F' → Rel X.K m F' H' σ' ρ' s' → Own m E F' H' σ' ρ' s' → (∃ n', n' < n ∧ I n' ρ' s') → ∃ n', n' < n ∧ ∃ F'' ρ'' s'', Same F F'' ∧ Rel X.K m F'' H' σ' ρ'' s'' ∧ Own m E F'' H' σ' ρ'' s'' ∧ I n' ρ'' s'' :=
      fun F' H' σ' ρ' s' a b c ⟨n', h1, h2⟩ => ⟨n', h1, F', ρ', s', (sm.trans st2.ext).trans a, b, c, h2⟩
    exact ⟨fit, f2.rt, f2.nx, fit⟩
end
end DL

set_option Elab.async false
set_option linter.all false
set_option maxRecDepth 100000
namespace DL
open PySem PySem.Spec PyProof.Rows L2

/-! ### comprehensions -/
section
variable {X : Cx} {m : Mem}
/-- from an inner state (the same heaps, other slots) the outer one is carried along -/
theorem Rel.carry {K : PySem.W.Frag} {F H F' H' : Hp} {σ σ2 : L2.St} {ρ ρ2 : List Sl} {s s' : m.S} (r : Rel K m F H σ ρ s) (st : Stp m F H σ2 ρ2 s F' H' ρ2 s') (r2 : Rel K m F' H' σ2 ρ2 s') : Rel K m F' H' σ ρ s' where
  sub := r2.sub
  mem := r2.mem
  reg := r2.reg
  len := r.len
  sh := fun i d e => by
    obtain ⟨v, h1, h2⟩ := r.sh i d e
    exact ⟨v, h1, Rep.mono st.ext _ _ h2⟩
  ow := fun i o e => by
    obtain ⟨p, ho, h1, h2, h3, h4, h5⟩ := r.own_at e
    exact ⟨p, ho, h1, st.keep p ho h2 h5, h3.mono st.ext⟩
  owF := fun i p h => by
    obtain ⟨⟨o, e⟩, hσ⟩ := id h
    obtain ⟨p', ho, h1, h2, h3, h4, h5⟩ := r.own_at e
    rw [hσ] at h1; cases h1
    refine ⟨?_, fun z => ?_⟩
    · cases q : F' p with
      | none => rfl
      | some u =>
        rcases st.fresh p u q with z | z | ⟨j, z⟩
        · rw [h4] at z; cases z
        · rw [z] at h2; cases h2
        · rw [(r2.owF j p z).1] at q; cases q
    · rcases st.regf p z with z | z
      · exact h5 z
      · rw [z] at h2; cases h2
  uq := r.uq
/-- an object that is known to nobody stays so -/
theorem Stp.hid {F H F' H' : Hp} {K : PySem.W.Frag} {σ2 : L2.St} {ρ2 : List Sl} {s s' : m.S} (st : Stp m F H σ2 ρ2 s F' H' ρ2 s') (r2 : Rel K m F' H' σ2 ρ2 s') {p : Addr} {ho : HO} (h : H p = some ho) (n : F p = none) (nr : ¬ m.R s p) : H' p = some ho ∧ F' p = none ∧ ¬ m.R s' p := by
  refine ⟨st.keep p ho h nr, ?_, fun z => ?_⟩
  · cases q : F' p with
    | none => rfl
    | some u =>
      rcases st.fresh p u q with z | z | ⟨j, z⟩
      · rw [n] at z; cases z
      · rw [z] at h; cases h
      · rw [(r2.owF j p z).1] at q; cases q
  · rcases st.regf p z with z | z
    · exact nr z
    · rw [z] at h; cases h
/-- the block's own names forgotten -/
def wipeD (ρ : List Sl) : List Nat → List Sl
  | [] => ρ
  | v :: vs => (wipeD ρ vs).set v .no
theorem wipeD_length (ρ : List Sl) : ∀ vs : List Nat, (wipeD ρ vs).length = ρ.length
  | [] => rfl
  | v :: vs => by unfold wipeD; rw [List.length_set, wipeD_length ρ vs]
theorem wipeD_some {ρ : List Sl} {i : Nat} {x : Sl} (hx : x ≠ .no) : ∀ {vs : List Nat}, (wipeD ρ vs)[i]? = some x → ρ[i]? = some x ∧ i ∉ vs
  | [], h => ⟨h, by simp⟩
  | v :: vs, h => by
    unfold wipeD at h
    by_cases hi : v = i
    · subst hi
      by_cases hv : v < (wipeD ρ vs).length
      · rw [List.getElem?_set_self hv] at h
        exact absurd (Option.some.inj h).symm hx
      · rw [List.getElem?_eq_none (by simpa using hv)] at h; cases h
    · rw [List.getElem?_set_ne hi] at h
      obtain ⟨h1, h2⟩ := wipeD_some hx h
      exact ⟨h1, by simp only [List.mem_cons, not_or]; exact ⟨fun e => hi e.symm, h2⟩⟩
theorem wipe_get {σ : L2.St} {i : Nat} : ∀ {vs : List Nat}, i ∉ vs → (wipe σ vs)[i]? = σ[i]?
  | [], _ => rfl
  | v :: vs, h => by
    have h1 : v ≠ i := fun e => h (by rw [e]; exact List.mem_cons_self)
    have h2 : i ∉ vs := fun m => h (List.mem_cons_of_mem _ m)
    unfold wipe
    rw [List.getElem?_set_ne h1]
    exact wipe_get h2
theorem wipe_in {σ : L2.St} {i : Nat} : ∀ {vs : List Nat}, i ∈ vs → i < σ.length → (wipe σ vs)[i]? = some none
  | [], h, _ => by cases h
  | v :: vs, h, hi => by
    unfold wipe
    by_cases e : v = i
    · subst e
      exact List.getElem?_set_self (by rw [wipe_length]; exact hi)
    · rw [List.getElem?_set_ne e]
      exact wipe_in ((List.mem_cons.mp h).resolve_left (Ne.symm e)) hi
theorem wipe_eq {σ σ' : L2.St} {vs ts : List Nat} (hl : σ'.length = σ.length) (h : ∀ j, j ∉ ts → σ'[j]? = σ[j]?) (hs : ∀ j ∈ ts, j ∈ vs) : wipe σ' vs = wipe σ vs := by
  refine List.ext_getElem? fun i => ?_
  by_cases hi : i ∈ vs
  · by_cases hlt : i < σ.length
    · rw [wipe_in hi (by omega), wipe_in hi hlt]
    · rw [List.getElem?_eq_none (by rw [wipe_length]; omega), List.getElem?_eq_none (by rw [wipe_length]; omega)]
  · rw [wipe_get hi, wipe_get hi]
    exact h i fun z => hi (hs i z)
theorem Rel.wipe {K : PySem.W.Frag} {F H : Hp} {σ : L2.St} {ρ : List Sl} {s : m.S} (r : Rel K m F H σ ρ s) (vs : List Nat) : Rel K m F H (L2.wipe σ vs) (wipeD ρ vs) s := by
  have back : ∀ i p, Owns (L2.wipe σ vs) (wipeD ρ vs) i p → Owns σ ρ i p := fun i p ⟨⟨o, h1⟩, h2⟩ => by
    obtain ⟨e1, n⟩ := wipeD_some (by intro z; cases z) h1
    rw [wipe_get n] at h2
    exact ⟨⟨o, e1⟩, h2⟩
  refine ⟨r.sub, r.mem, r.reg, by rw [wipe_length, wipeD_length]; exact r.len, fun i d e => ?_, fun i o e => ?_, fun i p h => r.owF i p (back i p h), fun i j p h1 h2 => r.uq i j p (back i p h1) (back j p h2)⟩
  · obtain ⟨e1, n⟩ := wipeD_some (by intro z; cases z) e
    obtain ⟨v, h1, h2⟩ := r.sh i d e1
    exact ⟨v, by rw [wipe_get n]; exact h1, h2⟩
  · obtain ⟨e1, n⟩ := wipeD_some (by intro z; cases z) e
    obtain ⟨p, ho, h1, h2, h3⟩ := r.ow i o e1
    exact ⟨p, ho, by rw [wipe_get n]; exact h1, h2, h3⟩

theorem wipe_wipe {σ : L2.St} {vs : List Nat} : wipe (wipe σ vs) vs = wipe σ vs := by
  refine List.ext_getElem? fun i => ?_
  by_cases hi : i ∈ vs
  · by_cases hlt : i < σ.length
    · rw [wipe_in hi (by rw [wipe_length]; exact hlt), wipe_in hi hlt]
    · rw [List.getElem?_eq_none (by rw [wipe_length, wipe_length]; omega), List.getElem?_eq_none (by rw [wipe_length]; omega)]
  · rw [wipe_get hi]
/-- an inner step is one for the outer slots, too -/
theorem Stp.outer {K : PySem.W.Frag} {F H F' H' : Hp} {σ σ2 : L2.St} {ρ ρ2 : List Sl} {s s' : m.S} (st : Stp m F H σ2 ρ2 s F' H' ρ2 s') (r2 : Rel K m F' H' σ2 ρ2 s') : Stp m F H σ ρ s F' H' ρ s' :=
  ⟨st.ext, st.keep, st.alive, fun a o h => by
    rcases st.fresh a o h with z | z | ⟨j, z⟩
    · exact .inl z
    · exact .inr (.inl z)
    · have z' := (r2.owF j a z).1
      rw [h] at z'
      exact absurd z' (by simp), st.regf, fun _ _ h => h⟩
/-- a hidden object is written -/
theorem Rel.hidW {K : PySem.W.Frag} {F H : Hp} {σ : L2.St} {ρ : List Sl} {s : m.S} (r : Rel K m F H σ ρ s) {p : Addr} {ho : HO} (n : F p = none) (nr : ¬ m.R s p) (no : ∀ i, ¬ Owns σ ρ i p) : Rel K m F (upd H p ho) σ ρ s := by
  refine ⟨fun b x e => ?_, m.loc s H _ r.mem fun a ha => upd_ne fun z => nr (z ▸ ha), r.reg, r.len, r.sh, fun i o e => ?_, r.owF, r.uq⟩
  · rw [upd_ne (ne_of_none e n)]; exact r.sub _ _ e
  · obtain ⟨q, ho', h1, h2, h3⟩ := r.ow i o e
    have hq : q ≠ p := fun z => no i (z ▸ ⟨⟨o, e⟩, h1⟩)
    exact ⟨q, ho', h1, by rw [upd_ne hq]; exact h2, h3⟩
theorem Stp.hidW {F H F' H' : Hp} {σ : L2.St} {ρ ρ' : List Sl} {s s' : m.S} (st : Stp m F H σ ρ s F' H' ρ' s') {p : Addr} {ho : HO} (n : H p = none) : Stp m F H σ ρ s F' (upd H' p ho) ρ' s' :=
  ⟨st.ext, fun a o h nr => by rw [upd_ne (ne_of_none h n)]; exact st.keep a o h nr, fun a h => by
    by_cases e : a = p
    · subst e; rw [upd_same]; simp
    · rw [upd_ne e]; exact st.alive a h, st.fresh, st.regf, st.shr⟩

abbrev dYes {m : Mem} : DTT m := fun ρ s Q => Q true ρ s
theorem PTs.imp {ifs : List Expr} {t t' : TT} (h : PTs X ifs t) (w : ∀ σ H Q, t' σ H Q → t σ H Q) : PTs X ifs t' := ⟨fun pins s σ H Q I q => h.run pins s σ H Q I (w σ H Q q)⟩
theorem dts_nil : PTs X [] (upT X.K m dYes) := PTs.imp pts_nil fun σ H Q h => by
  obtain ⟨F, ρ, s, Qd, r, ht, hQ⟩ := h
  exact hQ true ρ s F H ht r Stp.refl
theorem dts_one {c : Expr} {t : DTT m} (h : PT X c (upT X.K m t)) : PTs X [c] (upT X.K m t) := pts_one h
/-- [e for target in source if test]: I says what list has been made of those that are done -/
def dLc {m : Mem} (src : DTI m) (g : DG) (tt : DTT m) (te : DT m) (vs : List Nat) : DT m := fun ρ s Q => src ρ s fun ds ρ1 s1 => ds.length ≤ sizeLine ∧ ∃ I : List D → List D → m.S → Prop, I [] [] s1 ∧
  (∀ pre x post acc s, ds = pre ++ x :: post → acc.length ≤ pre.length → I pre acc s → g x (wipeD ρ1 vs) fun ρ2 => tt ρ2 s fun b ρ3 s3 => ρ3 = ρ2 ∧ ifB b (te ρ2 s3 fun y ρ4 s4 => ρ4 = ρ2 ∧ I (pre ++ [x]) (acc ++ [y]) s4) (I (pre ++ [x]) acc s3)) ∧
  (∀ acc s, acc.length ≤ ds.length → I ds acc s → Q (.lst acc) ρ1 s)
theorem up_lc {K : PySem.W.Frag} {src : DTI m} {g : DG} {tt : DTT m} {te : DT m} {vs ts : List Nat} (hts : ∀ j ∈ ts, j ∈ vs) {σ : L2.St} {H : Hp} {Q : VK} {Qd : DK m} {F : Hp} {ρ : List Sl} {s : m.S} (r : Rel K m F H σ ρ s) (ht : dLc src g tt te vs ρ s Qd)
    (hQ : ∀ ds ρ' s' p ws F' H', Qd (.lst ds) ρ' s' → Rel K m F' H' σ ρ' s' → Stp m F H σ ρ s F' H' ρ' s' → H' p = some (.lst ws) → F' p = none → ¬ m.R s' p → (∀ i, ¬ Owns σ ρ' i p) → H p = none → ws.length ≤ sizeLine → Reps K F' ds ws → Q (.ref p) H') :
    tLc (upI K m src) (upG K m ts g) (upT K m tt) (up K m te) vs σ H Q := by
  refine ⟨F, ρ, s, _, r, ht, fun ds ρ1 s1 J F1 H1 ⟨hz, I, i0, turn, done⟩ r1 st1 w D nD => ?_⟩
  have nF : F1 D = none := r1.sub.free nD
  have nR : ¬ m.R s1 D := fun z => m.there s1 H1 D r1.mem z nD
  have nO : ∀ i, ¬ Owns σ ρ1 i D := fun i ⟨⟨o, e⟩, hσ⟩ => by
    obtain ⟨p, ho, h1, h2, _⟩ := r1.own_at e
    rw [hσ] at h1; cases h1
    rw [nD] at h2; cases h2
  have nD0 : H D = none := by
    cases q : H D with
    | none => rfl
    | some u => exact absurd nD (st1.alive D (by rw [q]; simp))
  -- the start: the new list at D
  have r0 : Rel K m F1 (upd H1 D (.lst [])) σ ρ1 s1 := by
    refine ⟨fun b x e => ?_, m.loc s1 H1 _ r1.mem fun a ha => upd_ne fun z => nR (z ▸ ha), r1.reg, r1.len, r1.sh, fun i o e => ?_, r1.owF, r1.uq⟩
    · rw [upd_ne (ne_of_none e nF)]; exact r1.sub _ _ e
    · obtain ⟨p, ho, h1, h2, h3⟩ := r1.ow i o e
      exact ⟨p, ho, h1, by rw [upd_ne (ne_of_none h2 nD)]; exact h2, h3⟩
  have st0 : Stp m F H σ ρ s F1 (upd H1 D (.lst [])) ρ1 s1 :=
    ⟨st1.ext, fun a o h n => by rw [upd_ne (ne_of_none h nD0)]; exact st1.keep a o h n, fun a h => by
      by_cases e : a = D
      · subst e; rw [upd_same]; simp
      · rw [upd_ne e]; exact st1.alive a h, st1.fresh, st1.regf, st1.shr⟩
  refine ⟨fun i n H2 => n = ds.length - i ∧ i ≤ ds.length ∧ ∃ F2 s2 acc ws, Rel K m F2 H2 σ ρ1 s2 ∧ Stp m F H σ ρ s F2 H2 ρ1 s2 ∧ Same F1 F2 ∧ H2 D = some (.lst ws) ∧ F2 D = none ∧ ¬ m.R s2 D ∧ Reps K F2 acc ws ∧ acc.length ≤ i ∧ I (ds.take i) acc s2,
    ⟨ds.length, by simp, Nat.zero_le _, F1, s1, [], [], r0, st0, Same.refl _, upd_same, nF, nR, .nil, Nat.le_refl _, by simpa using i0⟩, ?_⟩
  rintro i n H2 ⟨rfl, hi, F2, s2, acc, ws, r2, st2, sm, hD, nF2, nR2, rs, hacc, hI⟩
  obtain ⟨hstop, hgo⟩ := w F2 H2 sm r2.sub
  by_cases hlt : i < ds.length
  · obtain ⟨h1, h2⟩ := hgo i _ (List.getElem?_eq_getElem hlt)
    have hsplit : ds = ds.take i ++ ds[i] :: ds.drop (i + 1) := by
      rw [List.getElem_cons_drop, List.take_append_drop]
    have etake : ds.take (i + 1) = ds.take i ++ [ds[i]] := List.take_succ_eq_append_getElem hlt
    refine .inr ⟨h1, fun H' => ∃ F' s' acc' ws', Rel K m F' H' σ ρ1 s' ∧ Stp m F H σ ρ s F' H' ρ1 s' ∧ Same F1 F' ∧ H' D = some (.lst ws') ∧ F' D = none ∧ ¬ m.R s' D ∧ Reps K F' acc' ws' ∧ acc'.length ≤ i + 1 ∧ I (ds.take (i + 1)) acc' s',
      fun H' ⟨F', s', acc', ws', q⟩ => ⟨ds.length - (i + 1), by omega, rfl, hlt, F', s', acc', ws', q⟩, fun x H3 y => ?_⟩
    obtain ⟨F3, g3, rv⟩ := h2 x H3 y
    have r3 := r2.grow g3
    have hD3 : H3 D = some (.lst ws) := g3.hH _ _ hD
    have nF3 : F3 D = none := by
      cases q : F3 D with
      | none => rfl
      | some u =>
        rcases g3.fresh D u q with z | z
        · rw [nF2] at z; cases z
        · rw [z] at hD; cases hD
    have st3 := st2.trans (g3.stp (m := m) (s := s2) (ρ := ρ1) (σ := σ))
    have htk : (ds.take i).length = i := by rw [List.length_take]; omega
    refine ⟨F3, wipeD ρ1 vs, s2, ds[i], _, r3.wipe vs, rv, turn _ _ _ acc _ hsplit (by omega) hI, fun σ2 ρ2 q2 r4 o4 k4 => ⟨(wipe_eq k4.1 k4.2 hts).trans wipe_wipe, ?_⟩⟩
    refine ⟨F3, ρ2, s2, _, r4, q2, fun b ρ3 s3 F4 H4 ⟨e, q3⟩ r5 st5 => ?_⟩
    subst e
    obtain ⟨hD4, nF4, nR4⟩ := st5.hid r5 hD3 nF3 nR2
    have r6 := r3.carry st5 r5
    have st6 := st3.trans (st5.outer (σ := σ) (ρ := ρ1) r5)
    have sm4 : Same F1 F4 := (sm.trans g3.fF).trans st5.ext
    have rs4 := Reps.mono (g3.fF.trans st5.ext) _ _ rs
    have hlw := rs.length
    cases b with
    | false =>
      have q3 := ifB_f q3
      exact iteF ⟨F4, s3, acc, ws, r6, st6, sm4, hD4, nF4, nR4, rs4, by omega, by rw [etake]; exact q3⟩
    | true =>
      have q3 := ifB_t q3
      refine iteT ⟨F4, ρ3, s3, _, r5, q3, fun y ρ4 s4 v F5 H5 ⟨e, q4⟩ r7 st7 rvy => ?_⟩
      subst e
      obtain ⟨hD5, nF5, nR5⟩ := st7.hid r7 hD4 nF4 nR4
      have r8 := r6.carry st7 r7
      have st8 := st6.trans (st7.outer (σ := σ) (ρ := ρ1) r7)
      refine ⟨ws, hD5, by omega, F5, s4, acc ++ [y], ws ++ [v], r8.hidW nF5 nR5 nO, st8.hidW nD0, sm4.trans st7.ext, upd_same, nF5, nR5, (Reps.mono st7.ext _ _ rs4).append (.one rvy), by rw [List.length_append]; simp; omega, by rw [etake]; exact q4⟩
  · have e : i = ds.length := by omega
    subst e
    rw [List.take_length] at hI
    exact .inl ⟨hstop _ (Nat.le_refl _), hQ acc ρ1 s2 D ws F2 H2 (done acc s2 (by omega) hI) r2 st2 hD nF2 nR2 nO nD0 (by rw [rs.length]; omega) rs⟩
theorem de_lc {elt tg iter : Expr} {ifs : List Expr} {scope : Scope} {own : List (Str × Nat)} {pos : Pos} {src : DTI m} {g : DG} {ts : List Nat} {tt : DTT m} {te : DT m} (hN : X.N.Nodup) (hi : PI X tg iter (upI X.K m src)) (ok : BlkOk X.N X.env.scope scope own)
    (hg : ∀ (s : Shared) (H : Hp) (C : Addr) (cl : List (Str × Addr)) (fp : List Addr), PG (X.blk s H scope (compEnvC scope cl C X.env) fp) tg (upG X.K m ts g)) (ht : ∀ (s : Shared) (H : Hp) (C : Addr) (cl : List (Str × Addr)) (fp : List Addr), PTs (X.blk s H scope (compEnvC scope cl C X.env) fp) ifs (upT X.K m tt))
    (he : ∀ (s : Shared) (H : Hp) (C : Addr) (cl : List (Str × Addr)) (fp : List Addr), PE (X.blk s H scope (compEnvC scope cl C X.env) fp) elt (up X.K m te)) (hts : ∀ j ∈ ts, j ∈ own.map (·.2) := by decide) (hc : X.calm = true := by rfl) (hs : ∀ x, foldedSetIterable iter X.env x = pure x := by intro _; rfl) :
    PE X (.ListComp elt [⟨tg, iter, ifs, 0⟩] scope pos) (up X.K m (dLc src g tt te (own.map (·.2)))) := PE.imp (pe_lc hc hN hi ok hg ht he hs) fun σ H Q h => by
  obtain ⟨F, ρ, s, Qd, r, h, hQ⟩ := h
  refine up_lc hts r h fun ds ρ' s' p ws F' H' q r' st hp nF nR nO nH hz rs => ?_
  have sm : Same F' (upd F' p (.lst ws)) := same_upd nF
  refine hQ _ ρ' s' _ (upd F' p (.lst ws)) H' q (r'.adopt hp nF nR nO) ⟨st.ext.trans sm, st.keep, st.alive, fun a o e => ?_, st.regf, st.shr⟩ ⟨p, ws, rfl, upd_same, hz, Reps.mono sm _ _ rs⟩
  by_cases ha : a = p
  · subst ha; exact .inr (.inl nH)
  · rw [upd_ne ha] at e; exact st.fresh a o e
variable {E : Ent m}
/-- y = [..] -/
theorem ds_setLc (i : Nat) {y : Str} {py : Pos} {elt tg iter : Expr} {ifs : List Expr} {scope : Scope} {own : List (Str × Nat)} {pos spos : Pos} {src : DTI m} {g : DG} {ts : List Nat} {tt : DTT m} {te : DT m} (hN : X.N.Nodup) (hi : PI X tg iter (upI X.K m src)) (ok : BlkOk X.N X.env.scope scope own)
    (hg : ∀ (s : Shared) (H : Hp) (C : Addr) (cl : List (Str × Addr)) (fp : List Addr), PG (X.blk s H scope (compEnvC scope cl C X.env) fp) tg (upG X.K m ts g)) (ht : ∀ (s : Shared) (H : Hp) (C : Addr) (cl : List (Str × Addr)) (fp : List Addr), PTs (X.blk s H scope (compEnvC scope cl C X.env) fp) ifs (upT X.K m tt))
    (he : ∀ (s : Shared) (H : Hp) (C : Addr) (cl : List (Str × Addr)) (fp : List Addr), PE (X.blk s H scope (compEnvC scope cl C X.env) fp) elt (up X.K m te)) (hy : X.N[i]? = some y := by rfl) (hyl : X.env.scope.names.lookup y = some .local := by rfl)
    (hsw : swapsWith (.ListComp elt [⟨tg, iter, ifs, 0⟩] scope pos) (some (.Name y py)) spos.line X.env = pure true := by exact sw_true rfl rfl rfl (by decide +kernel)) (hts : ∀ j ∈ ts, j ∈ own.map (·.2) := by decide) (hc : X.calm = true := by rfl) (hs : ∀ x, foldedSetIterable iter X.env x = pure x := by intro _; rfl) :
    PS X (.Assign [.Name y py] (.ListComp elt [⟨tg, iter, ifs, 0⟩] scope pos) spos) (upS X.K m E (dSet i (dLc src g tt te (own.map (·.2))))) := PS.imp (ps_setLc hc hN hy hyl hsw hi ok hg ht he hs) fun DD σ H h => by
  obtain ⟨F, ρ, s, dd, r, o, h, f⟩ := h
  refine up_lc hts r h fun ds ρ' s' p ws F' H' q r' st hp nF nR nO nH hz rs => ?_
  have sm : Same F' (upd F' p (.lst ws)) := same_upd nF
  have st' : Stp m F H σ ρ s (upd F' p (.lst ws)) H' ρ' s' := ⟨st.ext.trans sm, st.keep, st.alive, fun a o e => by
    by_cases ha : a = p
    · subst ha; exact .inr (.inl nH)
    · rw [upd_ne ha] at e; exact st.fresh a o e, st.regf, st.shr⟩
  exact f.nx _ H' _ _ s' st'.ext ((r'.adopt hp nF nR nO).put (d := .lst ds) ⟨p, ws, rfl, upd_same, hz, Reps.mono sm _ _ rs⟩) ((o.stp st').put (K := X.K)) q
/-- .. a list that this def will change -/
def dSetLcO {m : Mem} (i : Nat) (src : DTI m) (g : DG) (tt : DTT m) (te : DT m) (vs : List Nat) : DTS m := fun dd ρ s => dLc src g tt te vs ρ s fun d ρ1 s1 => ∃ ds, d = .lst ds ∧ dd.nx (ρ1.set i (.ow (.lst ds))) s1
theorem ds_setLcO (i : Nat) {y : Str} {py : Pos} {elt tg iter : Expr} {ifs : List Expr} {scope : Scope} {own : List (Str × Nat)} {pos spos : Pos} {src : DTI m} {g : DG} {ts : List Nat} {tt : DTT m} {te : DT m} (hN : X.N.Nodup) (hi : PI X tg iter (upI X.K m src)) (ok : BlkOk X.N X.env.scope scope own)
    (hg : ∀ (s : Shared) (H : Hp) (C : Addr) (cl : List (Str × Addr)) (fp : List Addr), PG (X.blk s H scope (compEnvC scope cl C X.env) fp) tg (upG X.K m ts g)) (ht : ∀ (s : Shared) (H : Hp) (C : Addr) (cl : List (Str × Addr)) (fp : List Addr), PTs (X.blk s H scope (compEnvC scope cl C X.env) fp) ifs (upT X.K m tt))
    (he : ∀ (s : Shared) (H : Hp) (C : Addr) (cl : List (Str × Addr)) (fp : List Addr), PE (X.blk s H scope (compEnvC scope cl C X.env) fp) elt (up X.K m te)) (hy : X.N[i]? = some y := by rfl) (hyl : X.env.scope.names.lookup y = some .local := by rfl)
    (hsw : swapsWith (.ListComp elt [⟨tg, iter, ifs, 0⟩] scope pos) (some (.Name y py)) spos.line X.env = pure true := by exact sw_true rfl rfl rfl (by decide +kernel)) (hts : ∀ j ∈ ts, j ∈ own.map (·.2) := by decide) (hc : X.calm = true := by rfl) (hs : ∀ x, foldedSetIterable iter X.env x = pure x := by intro _; rfl) :
    PS X (.Assign [.Name y py] (.ListComp elt [⟨tg, iter, ifs, 0⟩] scope pos) spos) (upS X.K m E (dSetLcO i src g tt te (own.map (·.2)))) := PS.imp (ps_setLc hc hN hy hyl hsw hi ok hg ht he hs) fun DD σ H h => by
  obtain ⟨F, ρ, s, dd, r, o, h, f⟩ := h
  refine up_lc hts r h fun ds ρ' s' p ws F' H' ⟨es, e, q⟩ r' st hp nF nR nO nH hz rs => ?_
  cases e
  have o' := o.stp st
  have eH : E.H p = none := by
    cases q : E.H p with
    | none => rfl
    | some u => exact absurd nH (o.alive p (by rw [q]; simp))
  have other : ∀ (j : Nat) q, i ≠ j → Owns (σ.set i (some (.ref p))) (ρ'.set i (.ow (.lst ds))) j q → Owns σ ρ' j q := fun j q hj ⟨⟨o', h1⟩, h2⟩ => by
    rw [List.getElem?_set_ne hj] at h1 h2; exact ⟨⟨o', h1⟩, h2⟩
  have self : ∀ q, Owns (σ.set i (some (.ref p))) (ρ'.set i (.ow (.lst ds))) i q → q = p := fun q ⟨⟨o', h1⟩, h2⟩ => by
    have hi : i < σ.length := by
      have := (List.getElem?_eq_some_iff.mp h2).1
      rw [List.length_set] at this; exact this
    rw [List.getElem?_set_self hi] at h2
    cases h2; rfl
  refine f.nx F' H' _ _ s' st.ext ⟨r'.sub, r'.mem, r'.reg, by rw [List.length_set, List.length_set]; exact r'.len, fun j d' z => ?_, fun j o' z => ?_, fun j q z => ?_, fun j k q h1 h2 => ?_⟩ ⟨o'.ext, o'.keep, o'.alive, o'.fresh, o'.regf, fun j q z => ?_⟩ q
  · by_cases hj : i = j
    · subst hj
      have hi : i < ρ'.length := by
        have := (List.getElem?_eq_some_iff.mp z).1
        rw [List.length_set] at this; exact this
      rw [List.getElem?_set_self hi] at z
      cases z
    · rw [List.getElem?_set_ne hj] at z
      obtain ⟨w, h1, h2⟩ := r'.sh j d' z
      exact ⟨w, by rw [List.getElem?_set_ne hj]; exact h1, h2⟩
  · by_cases hj : i = j
    · subst hj
      have hi : i < ρ'.length := by
        have := (List.getElem?_eq_some_iff.mp z).1
        rw [List.length_set] at this; exact this
      rw [List.getElem?_set_self hi] at z
      cases z
      exact ⟨p, _, List.getElem?_set_self (by rw [r'.len]; exact hi), hp, ws, rfl, hz, rs⟩
    · rw [List.getElem?_set_ne hj] at z
      obtain ⟨q, ho', h1, h2, h3⟩ := r'.ow j o' z
      exact ⟨q, ho', by rw [List.getElem?_set_ne hj]; exact h1, h2, h3⟩
  · by_cases hj : i = j
    · subst hj
      rw [self q z]; exact ⟨nF, nR⟩
    · exact r'.owF j q (other j q hj z)
  · by_cases hj : i = j
    · subst hj
      by_cases hk : i = k
      · exact hk
      · exact absurd ((self q h1) ▸ other k q hk h2) (nO k)
    · by_cases hk : i = k
      · subst hk
        exact absurd ((self q h2) ▸ other j q hj h1) (nO j)
      · exact r'.uq j k q (other j q hj h1) (other k q hk h2)
  · by_cases hj : i = j
    · subst hj
      rw [self q z]; exact eH
    · exact o'.own j q (other j q hj z)
end

/-! ### a def -/
/-- the slots at a def's entry -/
def startD (N : List Str) (ds : List D) : List Sl := ds.map .sh ++ List.replicate (N.length - ds.length) .no
section
variable {P : Program} {w : World} {K : PySem.W.Frag} {mg : Str → Option Value} {base : Heap} {m : Mem}
theorem rel_start {F H : Hp} {s : m.S} {N : List Str} {ds : List D} {vs : List V} (sub : Same F H) (hm : m.M s H) (hr : ∀ a, m.R s a → F a = none) (rs : Reps K F ds vs) : Rel K m F H (L2.start N vs) (startD N ds) s := by
  have hl := rs.length
  have no : ∀ (i : Nat) o, (startD N ds)[i]? ≠ some (Sl.ow o) := fun i o e => by
    unfold startD at e
    by_cases hi : i < ds.length
    · rw [List.getElem?_append_left (by simpa using hi), List.getElem?_map, List.getElem?_eq_getElem hi] at e; cases e
    · rw [List.getElem?_append_right (by simpa using hi), List.getElem?_replicate] at e
      split at e <;> cases e
  refine ⟨sub, hm, hr, by unfold L2.start startD; simp [hl], fun i d e => ?_, fun i o e => absurd e (no i o), fun i p ⟨⟨o, e⟩, _⟩ => absurd e (no i o), fun i j p ⟨⟨o, e⟩, _⟩ _ => absurd e (no i o)⟩
  unfold startD at e
  by_cases hi : i < ds.length
  · rw [List.getElem?_append_left (by simpa using hi), List.getElem?_map, List.getElem?_eq_getElem hi] at e
    cases e
    obtain ⟨v, h1, h2⟩ := rs.get (List.getElem?_eq_getElem hi)
    refine ⟨v, ?_, h2⟩
    unfold L2.start
    rw [List.getElem?_append_left (by simp; omega), List.getElem?_map, h1]
    rfl
  · rw [List.getElem?_append_right (by simpa using hi), List.getElem?_replicate] at e
    split at e <;> cases e
/-- what a def's body is to reach -/
abbrev endsOf {m : Mem} (Qd : D → m.S → Prop) : DEnds m := { nx := fun _ s' => Qd .non s', rt := Qd }
/-- THE RULE for a def, over data -/
theorem dfn {x qual : Str} {st : Stmt} {f : Addr} {fd : FuncData} {N ps : List Str} {k n : Nat} {sp : DSp m} (F : Fun K x qual st f fd) (S : FnScope N ps (defScope st)) (hn : n = ps.length)
    (hb : ∀ (cdv : Value) (A : Around) (outer : List Env) (s : Shared) (H : Hp) (E : XK) (En : Ent m), RoomG k (A.deeper (envOfC qual (defScope st) s.heap.objs.size f cdv)) →
      ∃ t, PSs (cxOf CX0 P w K mg base N qual (defScope st) f cdv A outer s H E).nox (defBody st) (upS K m En t) ∧ ∀ ds s Qd, sp ds s Qd → t (endsOf Qd) (startD N ds) s) : FnG P w K mg base CX0 (k + 1) f fd ps (lift K m n sp) := by
  subst hn
  refine Fun.okG F S (fun vs H Q E h => h.1) (fun cdv A outer s H vs Q E hr h => ?_)
  obtain ⟨hl, F0, ds, s0, Qd, sub, hm, hreg, rs, hsp, hQ⟩ := h
  obtain ⟨t, ht, hq⟩ := hb cdv A outer s H E ⟨F0, H, s0⟩ hr
  refine ⟨_, ht.nox, F0, startD N ds, s0, _, rel_start sub hm hreg rs, ⟨Same.refl _, fun _ _ h _ => h, fun _ h => h, fun _ _ h => .inl h, fun _ h => .inl h, fun i p ⟨⟨o, e⟩, _⟩ => ?_⟩, hq ds s0 Qd hsp, ?_⟩
  · unfold startD at e
    by_cases hi : i < ds.length
    · rw [List.getElem?_append_left (by simpa using hi), List.getElem?_map, List.getElem?_eq_getElem hi] at e; cases e
    · rw [List.getElem?_append_right (by simpa using hi), List.getElem?_replicate] at e
      split at e <;> cases e
  · have cs : ∀ F' H' σ ρ s, Rel K m F' H' σ ρ s → Own m ⟨F0, H, s0⟩ F' H' σ ρ s → CStp m F0 H s0 F' H' s := fun F' H' σ ρ s r o => ⟨o.ext, o.keep, o.alive, o.fresh, o.regf, r.sub, r.mem, r.reg⟩
    exact ⟨fun F' H' σ ρ s _ r o q => hQ .non s _ F' H' q (cs F' H' σ ρ s r o) rfl, fun F' H' σ ρ s d v _ r o rv q => hQ d s v F' H' q (cs F' H' σ ρ s r o) rv, fun _ _ _ _ _ _ _ _ q => q.elim, fun _ _ _ _ _ _ _ _ q => q.elim⟩
end
end DL

set_option Elab.async false
set_option linter.all false
set_option maxRecDepth 100000
namespace DL
open PySem PySem.Spec PyProof.Rows L2 TL

/-! ### what operations do with data -/
section
variable {K : PySem.W.Frag} {X : Cx}
/-- + -/
def addD : D → D → (D → Prop) → Prop
  | .int i, .int j, Q => Q (.int (i + j))
  | .str a, .str b, Q => a.length + b.length ≤ strLim ∧ Q (.str (a ++ b))
  | .lst a, .lst b, Q => a.length + b.length ≤ sizeLine ∧ Q (.lst (a ++ b))
  | .tup a, .tup b, Q => a.length + b.length ≤ sizeLine ∧ Q (.tup (a ++ b))
  | _, _, _ => False
def rAddA (K : PySem.W.Frag) : R2 := fun x y H Q => (∃ i j, x = .int i ∧ y = .int j ∧ Q (.int (i + j)) H) ∨ (∃ i j, x = .str i ∧ y = .str j ∧ i.length + j.length ≤ sizeLine ∧ Q (.str (i ++ j)) H) ∨ rCat x y H Q ∨ rCatA K x y H Q
theorem op_addA : OpR X (binaryOp .Add) (rAddA X.K) := op_add.or (op_add_str.or (op_cat.or op_catA))
theorem sOk_app {a b : Str} (h : sOk a = true) (k : sOk b = true) (l : a.length + b.length ≤ strLim) : sOk (a ++ b) = true := by
  refine sOk_of ?_ fun c hc => ?_
  · rw [len_tl, tl_append, List.length_append, ← len_tl, ← len_tl]; exact l
  · rw [show (a ++ b).cps.toList = tl a ++ tl b from tl_append a b] at hc
    rcases List.mem_append.mp hc with z | z
    · exact sOk_cps h c z
    · exact sOk_cps k c z
theorem o_add : Op2 K (rAddA K) addD := by
  intro F H dx dy x y Qd Q sub rx ry h hQ
  cases dx with
  | int i =>
    cases dy with
    | int j => cases rx; cases ry; exact .inl ⟨i, j, rfl, rfl, hQ _ _ F H h (Grow.refl sub) rfl⟩
    | _ => exact False.elim h
  | str a =>
    cases dy with
    | str b =>
      obtain ⟨rfl, ha⟩ := rx
      obtain ⟨rfl, hb⟩ := ry
      obtain ⟨hl, h⟩ := h
      exact .inr (.inl ⟨a, b, rfl, rfl, Nat.le_trans hl (Nat.le_trans (Nat.le_add_right _ 2) strLim_line), hQ _ _ F H h (Grow.refl sub) ⟨rfl, sOk_app ha hb hl⟩⟩)
    | _ => exact False.elim h
  | lst a =>
    cases dy with
    | lst b =>
      obtain ⟨p, vs, rfl, h1, _, rs⟩ := rx
      obtain ⟨q, ws, rfl, h2, _, rt⟩ := ry
      obtain ⟨hl, h⟩ := h
      have l1 := rs.length
      have l2 := rt.length
      refine .inr (.inr (.inl ⟨p, q, vs, ws, rfl, rfl, sub _ _ h1, sub _ _ h2, by omega, fun n nn => ?_⟩))
      have g : Grow F H (upd F n (.lst (vs ++ ws))) (upd H n (.lst (vs ++ ws))) := Grow.new sub nn
      exact hQ _ _ _ _ h g ⟨n, _, rfl, upd_same, by rw [List.length_append]; omega, (Reps.mono g.fF _ _ rs).append (Reps.mono g.fF _ _ rt)⟩
    | _ => exact False.elim h
  | tup a =>
    cases dy with
    | tup b =>
      have rx' := rx
      have ry' := ry
      obtain ⟨p, vs, rfl, h1, _, rs⟩ := rx
      obtain ⟨q, ws, rfl, h2, _, rt⟩ := ry
      obtain ⟨hl, h⟩ := h
      have l1 := rs.length
      have l2 := rt.length
      refine .inr (.inr (.inr ⟨p, q, vs, ws, rfl, rfl, Same.seqT sub h1, Same.seqT sub h2, by omega, fun e => ?_, fun _ e => ?_, fun _ _ n nn => ?_⟩))
      · subst e
        have e' : a = [] := by cases a with | nil => rfl | cons _ _ => cases l1
        subst e'
        exact hQ _ _ F H h (Grow.refl sub) ry'
      · subst e
        have e' : b = [] := by cases b with | nil => rfl | cons _ _ => cases l2
        subst e'
        rw [List.append_nil] at h
        exact hQ _ _ F H h (Grow.refl sub) rx'
      · have g : Grow F H (upd F n (.tup (vs ++ ws))) (upd H n (.tup (vs ++ ws))) := Grow.new sub nn
        exact hQ _ _ _ _ h g ⟨n, _, rfl, .inl (.inl upd_same), by rw [List.length_append]; omega, (Reps.mono g.fF _ _ rs).append (Reps.mono g.fF _ _ rt)⟩
    | _ => exact False.elim h
  | _ => cases dy <;> exact False.elim h
/-- - -/
def subD : D → D → (D → Prop) → Prop
  | .int i, .int j, Q => Q (.int (i - j))
  | _, _, _ => False
theorem o_ints {C : Int → Int → Prop} {g : Int → Int → Int} {f : D → D → (D → Prop) → Prop} (h : ∀ x y Qd, f x y Qd → ∃ i j, x = .int i ∧ y = .int j ∧ C i j ∧ Qd (.int (g i j))) : Op2 K (rI C fun i j => .int (g i j)) f := by
  intro F H dx dy x y Qd Q sub rx ry q hQ
  obtain ⟨i, j, rfl, rfl, c, q2⟩ := h _ _ _ q
  cases rx
  cases ry
  exact ⟨i, j, rfl, rfl, c, hQ _ _ F H q2 (Grow.refl sub) rfl⟩
theorem o_ints0 {g : Int → Int → Int} {f : D → D → (D → Prop) → Prop} (h : ∀ x y Qd, f x y Qd → ∃ i j, x = .int i ∧ y = .int j ∧ Qd (.int (g i j))) : Op2 K (rI0 fun i j => .int (g i j)) f := by
  intro F H dx dy x y Qd Q sub rx ry q hQ
  obtain ⟨i, j, rfl, rfl, q2⟩ := h _ _ _ q
  cases rx
  cases ry
  exact ⟨i, j, rfl, rfl, hQ _ _ F H q2 (Grow.refl sub) rfl⟩
theorem o_sub : Op2 K (rI0 fun i j => .int (i - j)) subD := o_ints0 fun x y Qd h => by
  cases x with
  | int i => cases y with
    | int j => exact ⟨i, j, rfl, rfl, h⟩
    | _ => exact False.elim h
  | _ => cases y <;> exact False.elim h
/-- // by a small positive number -/
def fdivD : D → D → (D → Prop) → Prop
  | .int i, .int j, Q => (0 < j ∧ j < 1073741824) ∧ Q (.int (i / j))
  | _, _, _ => False
theorem o_fdiv : Op2 K (rI CDiv fun i j => .int (i / j)) fdivD := o_ints fun x y Qd h => by
  cases x with
  | int i => cases y with
    | int j => exact ⟨i, j, rfl, rfl, h.1, h.2⟩
    | _ => exact False.elim h
  | _ => cases y <;> exact False.elim h
/-- % by a positive number -/
def modD : D → D → (D → Prop) → Prop
  | .int i, .int j, Q => 0 < j ∧ Q (.int (i % j))
  | _, _, _ => False
theorem o_mod : Op2 K (rI (fun _ j => 0 < j) fun i j => .int (i % j)) modD := o_ints fun x y Qd h => by
  cases x with
  | int i => cases y with
    | int j => exact ⟨i, j, rfl, rfl, h.1, h.2⟩
    | _ => exact False.elim h
  | _ => cases y <;> exact False.elim h
/-- *: of ints, one of them below 2 ^ 64; a text or a list some times -/
def mulD : D → D → (D → Prop) → Prop
  | .int i, .int j, Q => CMul i j ∧ Q (.int (i * j))
  | .str a, .int n, Q => (0 ≤ n ∧ n ≤ strLim ∧ a.length * n.toNat ≤ strLim) ∧ Q (.str ⟨((List.replicate n.toNat a.cps.toList).flatten).toArray⟩)
  | .lst a, .int n, Q => (0 ≤ n ∧ n < 2 ^ 62 ∧ a.length * n.toNat ≤ sizeLine) ∧ Q (.lst (List.replicate n.toNat a).flatten)
  | _, _, _ => False
theorem mul_txt {a : Str} {n : Int} (h0 : 0 ≤ n) : Txt.mul a n = ⟨((List.replicate n.toNat a.cps.toList).flatten).toArray⟩ := by
  have fold : ∀ (k : Nat) (acc : Array Nat), ((List.replicate k a.cps).foldl (· ++ ·) acc).toList = acc.toList ++ (List.replicate k a.cps.toList).flatten := by
    intro k
    induction k with
    | zero => intro acc; simp
    | succ k ih => intro acc; rw [List.replicate_succ, List.foldl_cons, ih, List.replicate_succ, List.flatten_cons, Array.toList_append, List.append_assoc]
  refine ext_tl ?_
  show tl (Txt.mul a n) = (List.replicate n.toNat a.cps.toList).flatten
  unfold Txt.mul
  by_cases h1 : n < 1
  · rw [if_pos h1]
    have e : n.toNat = 0 := by omega
    rw [e]
    rfl
  · rw [if_neg h1]
    by_cases h2 : (n == 1 || a.length == 0) = true
    · rw [if_pos h2]
      rw [Bool.or_eq_true] at h2
      rcases h2 with h2 | h2
      · have e : n = 1 := by simpa using h2
        subst e
        show tl a = (List.replicate 1 (tl a)).flatten
        simp
      · have e : tl a = [] := by
          have : a.length = 0 := by simpa using h2
          exact List.eq_nil_of_length_eq_zero (by rw [← len_tl]; exact this)
        show tl a = (List.replicate n.toNat (tl a)).flatten
        rw [e]
        simp
    · rw [if_neg h2]
      show ((List.replicate n.toNat a.cps).foldl (· ++ ·) #[]).toList = _
      rw [fold]
      simp
theorem op_mul_str : OpR X (binaryOp .Mult) (fun x y H Q => ∃ a n, x = .str a ∧ y = .int n ∧ (0 ≤ n ∧ n ≤ strLim ∧ a.length * n.toNat ≤ strLim) ∧ Q (.str ⟨((List.replicate n.toNat a.cps.toList).flatten).toArray⟩) H) := by
  intro pins s σ H x y v u Q I rx ry h
  obtain ⟨a, n, rfl, rfl, ⟨h0, h1, h2⟩, q⟩ := h
  obtain ⟨t, rfl⟩ := rx
  obtain ⟨t', rfl⟩ := ry
  have hs : strLim = 1000000 := rfl
  refine PySem.SB.mul ⟨?_, fun _ _ => ?_, fun _ _ => ?_⟩ fun t' k => ⟨.str _, H, I.tok _, ⟨t', by rw [mul_txt h0]⟩, q⟩
  · rw [decide_eq_false (by omega), decide_eq_false (by omega)]; rfl
  · have hn : 0 < n := by omega
    have : (a.length : Int) * n ≤ strLim := by
      have e : (n.toNat : Int) = n := by omega
      have : ((a.length * n.toNat : Nat) : Int) ≤ ((strLim : Nat) : Int) := by exact_mod_cast h2
      rw [Int.natCast_mul, e] at this
      exact this
    have q2 : (a.length : Int) ≤ (2 ^ 63 - 1) / n := (Int.le_ediv_iff_mul_le hn).mpr (Int.le_trans this (by decide))
    omega
  · unfold Builtin.Str.tooLong
    have := strLim_line
    exact decide_eq_false (by omega)
def rMulA : R2 := fun x y H Q => (∃ i j, x = .int i ∧ y = .int j ∧ CMul i j ∧ Q (.int (i * j)) H) ∨ (∃ a n, x = .str a ∧ y = .int n ∧ (0 ≤ n ∧ n ≤ strLim ∧ a.length * n.toNat ≤ strLim) ∧ Q (.str ⟨((List.replicate n.toNat a.cps.toList).flatten).toArray⟩) H) ∨ rRep x y H Q
theorem op_mulA : OpR X (binaryOp .Mult) rMulA := op_mul.or (op_mul_str.or op_rep)
theorem flat_rep_len {α : Type} (l : List α) : ∀ n : Nat, (List.replicate n l).flatten.length = l.length * n
  | 0 => by simp
  | n + 1 => by rw [List.replicate_succ, List.flatten_cons, List.length_append, flat_rep_len l n, Nat.mul_succ, Nat.add_comm]
theorem Reps.rep {K : PySem.W.Frag} {F : Hp} {ds : List D} {vs : List V} (h : Reps K F ds vs) : ∀ n : Nat, Reps K F (List.replicate n ds).flatten (List.replicate n vs).flatten
  | 0 => .nil
  | n + 1 => by rw [List.replicate_succ, List.replicate_succ, List.flatten_cons, List.flatten_cons]; exact h.append (Reps.rep h n)
theorem o_mul : Op2 K rMulA mulD := by
  intro F H dx dy x y Qd Q sub rx ry h hQ
  cases dx with
  | int i =>
    cases dy with
    | int j => cases rx; cases ry; exact .inl ⟨i, j, rfl, rfl, h.1, hQ _ _ F H h.2 (Grow.refl sub) rfl⟩
    | _ => exact False.elim h
  | str a =>
    cases dy with
    | int n =>
      obtain ⟨rfl, ha⟩ := rx
      cases ry
      refine .inr (.inl ⟨a, n, rfl, rfl, h.1, hQ _ _ F H h.2 (Grow.refl sub) ⟨rfl, sOk_of ?_ fun c hc => ?_⟩⟩)
      · show (((List.replicate n.toNat a.cps.toList).flatten).toArray).size ≤ strLim
        rw [List.size_toArray, flat_rep_len, Array.length_toList]
        exact h.1.2.2
      · have hc' : c ∈ (List.replicate n.toNat a.cps.toList).flatten := hc
        obtain ⟨l, hl, hcl⟩ := List.mem_flatten.mp hc'
        rw [(List.mem_replicate.mp hl).2] at hcl
        exact sOk_cps ha c hcl
    | _ => exact False.elim h
  | lst a =>
    cases dy with
    | int n =>
      obtain ⟨p, vs, rfl, h1, _, rs⟩ := rx
      cases ry
      obtain ⟨⟨h0, h2, h3⟩, h⟩ := h
      have l1 := rs.length
      refine .inr (.inr ⟨p, n, vs, rfl, rfl, sub _ _ h1, by omega, by omega, by rw [l1]; exact h3, fun q nq => ?_⟩)
      have g : Grow F H (upd F q (.lst (List.replicate n.toNat vs).flatten)) (upd H q (.lst (List.replicate n.toNat vs).flatten)) := Grow.new sub nq
      exact hQ _ _ _ _ h g ⟨q, _, rfl, upd_same, by rw [flat_rep_len, l1]; exact h3, (Reps.mono g.fF _ _ rs).rep _⟩
    | _ => exact False.elim h
  | _ => cases dy <;> exact False.elim h
/-- -x -/
def negD : D → (D → Prop) → Prop
  | .int i, Q => Q (.int (-i))
  | _, _ => False
theorem o_neg : Op1 K (rU fun i => .int (-i)) negD := by
  intro F H dx x Qd Q sub rx h hQ
  cases dx with
  | int i => cases rx; exact ⟨i, rfl, hQ _ _ F H h (Grow.refl sub) rfl⟩
  | _ => exact False.elim h

/-! ### comparisons -/
def ltS (a b : Str) : Bool := decide (a.cps.toList < b.cps.toList)
def ltD : D → D → (Bool → Prop) → Prop
  | .int i, .int j, Q => Q (decide (i < j))
  | .str a, .str b, Q => Q (ltS a b)
  | _, _, _ => False
def leD : D → D → (Bool → Prop) → Prop
  | .int i, .int j, Q => Q (decide (i ≤ j))
  | .str a, .str b, Q => Q (!ltS b a)
  | _, _, _ => False
def gtD : D → D → (Bool → Prop) → Prop
  | .int i, .int j, Q => Q (decide (j < i))
  | .str a, .str b, Q => Q (ltS b a)
  | _, _, _ => False
def geD : D → D → (Bool → Prop) → Prop
  | .int i, .int j, Q => Q (decide (j ≤ i))
  | .str a, .str b, Q => Q (!ltS a b)
  | _, _, _ => False
def rIS (f : Int → Int → Bool) (g : Str → Str → Bool) : R2 := fun x y H Q => (∃ i j, x = .int i ∧ y = .int j ∧ Q (.bl (f i j)) H) ∨ (∃ i j, x = .str i ∧ y = .str j ∧ Q (.bl (g i j)) H)
theorem op_ltA : OpR X (compareOp .Lt) (rIS (fun i j => decide (i < j)) ltS) := op_lt.or op_lt_str
theorem op_leA : OpR X (compareOp .LtE) (rIS (fun i j => decide (i ≤ j)) fun a b => !ltS b a) := op_le.or op_le_str
theorem op_gtA : OpR X (compareOp .Gt) (rIS (fun i j => decide (j < i)) fun a b => ltS b a) := op_gt.or op_gt_str
theorem op_geA : OpR X (compareOp .GtE) (rIS (fun i j => decide (j ≤ i)) fun a b => !ltS a b) := op_ge.or op_ge_str
theorem o_is {f : Int → Int → Bool} {g : Str → Str → Bool} {c : D → D → (Bool → Prop) → Prop} (h : ∀ x y Qd, c x y Qd → (∃ i j, x = .int i ∧ y = .int j ∧ Qd (f i j)) ∨ ∃ i j, x = .str i ∧ y = .str j ∧ Qd (g i j)) : Cm2 K (rIS f g) c := by
  intro F H dx dy x y Qd Q sub rx ry q hQ
  rcases h _ _ _ q with ⟨i, j, rfl, rfl, q2⟩ | ⟨i, j, rfl, rfl, q2⟩
  · cases rx; cases ry; exact .inl ⟨i, j, rfl, rfl, hQ _ F H q2 (Grow.refl sub)⟩
  · obtain ⟨rfl, _⟩ := rx
    obtain ⟨rfl, _⟩ := ry
    exact .inr ⟨i, j, rfl, rfl, hQ _ F H q2 (Grow.refl sub)⟩
theorem o_lt : Cm2 K (rIS (fun i j => decide (i < j)) ltS) ltD := o_is fun x y Qd h => by
  cases x <;> cases y <;> first | exact False.elim h | exact .inl ⟨_, _, rfl, rfl, h⟩ | exact .inr ⟨_, _, rfl, rfl, h⟩
theorem o_le : Cm2 K (rIS (fun i j => decide (i ≤ j)) fun a b => !ltS b a) leD := o_is fun x y Qd h => by
  cases x <;> cases y <;> first | exact False.elim h | exact .inl ⟨_, _, rfl, rfl, h⟩ | exact .inr ⟨_, _, rfl, rfl, h⟩
theorem o_gt : Cm2 K (rIS (fun i j => decide (j < i)) fun a b => ltS b a) gtD := o_is fun x y Qd h => by
  cases x <;> cases y <;> first | exact False.elim h | exact .inl ⟨_, _, rfl, rfl, h⟩ | exact .inr ⟨_, _, rfl, rfl, h⟩
theorem o_ge : Cm2 K (rIS (fun i j => decide (j ≤ i)) fun a b => !ltS a b) geD := o_is fun x y Qd h => by
  cases x <;> cases y <;> first | exact False.elim h | exact .inl ⟨_, _, rfl, rfl, h⟩ | exact .inr ⟨_, _, rfl, rfl, h⟩
/-- is None, is not None -/
def isNo : D → Bool
  | .non => true
  | _ => false
def isD : D → D → (Bool → Prop) → Prop
  | x, .non, Q => Q (isNo x)
  | _, _, _ => False
def isntD : D → D → (Bool → Prop) → Prop
  | x, .non, Q => Q (!isNo x)
  | _, _, _ => False
theorem rep_no {F : Hp} {d : D} {v : V} (h : Rep K F d v) (n : ∀ w, d ≠ .any w) : decide (v = .non) = isNo d := by
  cases d with
  | non => cases h; rfl
  | bl b => cases h; rfl
  | int i => cases h; rfl
  | str x => obtain ⟨rfl, _⟩ := h; rfl
  | lst xs => obtain ⟨a, vs, rfl, _⟩ := h; rfl
  | tup xs => obtain ⟨a, vs, rfl, _⟩ := h; rfl
  | dic ks ds => obtain ⟨a, vs, rfl, _⟩ := h; rfl
  | ins C ns ds => obtain ⟨a, dx, fs, rfl, _⟩ := h; rfl
  | any w => exact absurd rfl (n w)
  | fz xs => obtain ⟨a, vs, rfl, _⟩ := h; rfl
  | exc C ns ds => obtain ⟨a, d, fs, rfl, _⟩ := h; rfl
def isD' (x y : D) (Q : Bool → Prop) : Prop := (∀ w, x ≠ .any w) ∧ isD x y Q
def isntD' (x y : D) (Q : Bool → Prop) : Prop := (∀ w, x ≠ .any w) ∧ isntD x y Q
theorem o_isN : Cm2 K (fun x y H Q => y = .non ∧ Q (.bl (decide (x = .non))) H) isD' := by
  intro F H dx dy x y Qd Q sub rx ry h hQ
  obtain ⟨n, h⟩ := h
  cases dy with
  | non => cases ry; exact ⟨rfl, by rw [rep_no rx n]; exact hQ _ F H h (Grow.refl sub)⟩
  | _ => cases dx <;> exact False.elim h
theorem o_notN : Cm2 K (fun x y H Q => y = .non ∧ Q (.bl (!decide (x = .non))) H) isntD' := by
  intro F H dx dy x y Qd Q sub rx ry h hQ
  obtain ⟨n, h⟩ := h
  cases dy with
  | non => cases ry; exact ⟨rfl, by rw [rep_no rx n]; exact hQ _ F H h (Grow.refl sub)⟩
  | _ => cases dx <;> exact False.elim h

/-! ### == and != -/
mutual
/-- data without dicts, objects and the like, at most so deep -/
def plainD : Nat → D → Bool
  | _, .non => true
  | _, .bl _ => true
  | _, .int _ => true
  | _, .str _ => true
  | n, .lst xs => match n with
    | 0 => false
    | k + 1 => plainDs k xs
  | n, .tup xs => match n with
    | 0 => false
    | k + 1 => plainDs k xs
  | _, _ => false
def plainDs : Nat → List D → Bool
  | _, [] => true
  | n, d :: ds => plainD n d && plainDs n ds
end
mutual
def eqD : D → D → Bool
  | .non, .non => true
  | .bl a, .bl b => a == b
  | .bl a, .int j => (if a then 1 else 0) == j
  | .int i, .bl b => i == (if b then 1 else 0)
  | .int i, .int j => i == j
  | .str x, .str y => x == y
  | .lst xs, .lst ys => eqDs xs ys
  | .tup xs, .tup ys => eqDs xs ys
  | _, _ => false
def eqDs : List D → List D → Bool
  | [], [] => true
  | x :: xs, y :: ys => eqD x y && eqDs xs ys
  | _, _ => false
end
mutual
def toPy : D → PyData
  | .non => .none
  | .bl b => .bool b
  | .int i => .int i
  | .str x => .str x
  | .lst xs => .list (toPys xs)
  | .tup xs => .tuple (toPys xs)
  | _ => .none
def toPys : List D → List PyData
  | [] => []
  | d :: ds => toPy d :: toPys ds
end
mutual
theorem rep_dp {F H : Hp} (sub : Same F H) : ∀ (n : Nat) (d : D) (v : V), plainD n d = true → Rep K F d v → Dp K H v (toPy d)
  | _, .non, _, _, h => by cases h; exact .non
  | _, .bl b, _, _, h => by cases h; exact .bl b
  | _, .int i, _, _, h => by cases h; exact .int i
  | _, .str x, _, _, h => by obtain ⟨rfl, _⟩ := h; exact .str x
  | 0, .lst xs, _, p, _ => by simp [plainD] at p
  | n + 1, .lst xs, _, p, h => by
    obtain ⟨a, vs, rfl, h1, _, r⟩ := h
    exact .lst (.inl (.inl (sub _ _ h1))) (reps_dp sub n xs vs (by simpa [plainD] using p) r)
  | 0, .tup xs, _, p, _ => by simp [plainD] at p
  | n + 1, .tup xs, _, p, h => by
    obtain ⟨a, vs, rfl, h1, _, r⟩ := h
    exact .tup (Same.seqT sub h1) (reps_dp sub n xs vs (by simpa [plainD] using p) r)
  | _, .dic _ _, _, p, _ => by simp [plainD] at p
  | _, .ins _ _ _, _, p, _ => by simp [plainD] at p
  | _, .any _, _, p, _ => by simp [plainD] at p
  | _, .fz _, _, p, _ => by simp [plainD] at p
  | _, .exc _ _ _, _, p, _ => by simp [plainD] at p
theorem reps_dp {F H : Hp} (sub : Same F H) : ∀ (n : Nat) (ds : List D) (vs : List V), plainDs n ds = true → Reps K F ds vs → DpAll K H vs (toPys ds)
  | _, [], _, _, h => by cases h; exact .nil
  | n, d :: ds, _, p, ⟨v, r, e, h, t⟩ => by
    subst e
    rw [plainDs, Bool.and_eq_true] at p
    exact .cons (rep_dp sub n d v p.1 h) (reps_dp sub n ds r p.2 t)
end
theorem strOk_of {x : Str} (h : sOk x = true) : PyData.strOk x = true := by
  unfold PyData.strOk
  rw [← Array.all_toList]
  exact List.all_eq_true.mpr fun c hc => decide_eq_true (sOk_cps h c hc)
mutual
theorem lay_of {F : Hp} : ∀ (n : Nat) (d : D) (v : V), plainD n d = true → Rep K F d v → (toPy d).canLay0 = true ∧ (toPy d).depth ≤ n
  | _, .non, _, _, _ => ⟨rfl, Nat.zero_le _⟩
  | _, .bl b, _, _, _ => ⟨rfl, Nat.zero_le _⟩
  | _, .int i, _, _, _ => ⟨rfl, Nat.zero_le _⟩
  | _, .str x, _, _, h => by obtain ⟨_, h⟩ := h; exact ⟨by simpa [toPy, PyData.canLay0] using strOk_of h, by simp [toPy, PyData.depth]⟩
  | 0, .lst xs, _, p, _ => by simp [plainD] at p
  | n + 1, .lst xs, _, p, h => by
    obtain ⟨a, vs, rfl, h1, _, r⟩ := h
    obtain ⟨q1, q2⟩ := lay_ofs n xs vs (by simpa [plainD] using p) r
    exact ⟨by simpa [toPy, PyData.canLay0] using q1, by simp only [toPy, PyData.depth]; omega⟩
  | 0, .tup xs, _, p, _ => by simp [plainD] at p
  | n + 1, .tup xs, _, p, h => by
    obtain ⟨a, vs, rfl, h1, _, r⟩ := h
    obtain ⟨q1, q2⟩ := lay_ofs n xs vs (by simpa [plainD] using p) r
    exact ⟨by simpa [toPy, PyData.canLay0] using q1, by simp only [toPy, PyData.depth]; omega⟩
  | _, .dic _ _, _, p, _ => by simp [plainD] at p
  | _, .ins _ _ _, _, p, _ => by simp [plainD] at p
  | _, .any _, _, p, _ => by simp [plainD] at p
  | _, .fz _, _, p, _ => by simp [plainD] at p
  | _, .exc _ _ _, _, p, _ => by simp [plainD] at p
theorem lay_ofs {F : Hp} : ∀ (n : Nat) (ds : List D) (vs : List V), plainDs n ds = true → Reps K F ds vs → PyData.canLayAll0 (toPys ds) = true ∧ PyData.depthAll (toPys ds) ≤ n
  | _, [], _, _, _ => ⟨rfl, Nat.zero_le _⟩
  | n, d :: ds, _, p, ⟨v, r, e, h, t⟩ => by
    rw [plainDs, Bool.and_eq_true] at p
    obtain ⟨q1, q2⟩ := lay_of n d v p.1 h
    obtain ⟨q3, q4⟩ := lay_ofs n ds r p.2 t
    exact ⟨by simp only [toPys, PyData.canLayAll0, q1, q3, Bool.and_self], by simp only [toPys, PyData.depthAll]; omega⟩
end
mutual
theorem eqv_of : ∀ (n m : Nat) (d e : D), plainD n d = true → plainD m e = true → PyData.eqv (toPy d) (toPy e) = eqD d e
  | _, _, .non, e, _, q => by cases e <;> simp_all [toPy, eqD, PyData.eqv, plainD]
  | _, _, .bl b, e, _, q => by cases e <;> simp_all [toPy, eqD, PyData.eqv, plainD]
  | _, _, .int i, e, _, q => by cases e <;> simp_all [toPy, eqD, PyData.eqv, plainD]
  | _, _, .str x, e, _, q => by cases e <;> simp_all [toPy, eqD, PyData.eqv, plainD]
  | n, m, .lst xs, e, p, q => by
    cases e with
    | lst ys =>
      cases n with
      | zero => simp [plainD] at p
      | succ n =>
        cases m with
        | zero => simp [plainD] at q
        | succ m => simpa only [toPy, eqD, PyData.eqv] using eqv_ofs n m xs ys (by simpa [plainD] using p) (by simpa [plainD] using q)
    | _ => simp_all [toPy, eqD, PyData.eqv, plainD]
  | n, m, .tup xs, e, p, q => by
    cases e with
    | tup ys =>
      cases n with
      | zero => simp [plainD] at p
      | succ n =>
        cases m with
        | zero => simp [plainD] at q
        | succ m => simpa only [toPy, eqD, PyData.eqv] using eqv_ofs n m xs ys (by simpa [plainD] using p) (by simpa [plainD] using q)
    | _ => simp_all [toPy, eqD, PyData.eqv, plainD]
  | _, _, .dic _ _, _, p, _ => by simp [plainD] at p
  | _, _, .ins _ _ _, _, p, _ => by simp [plainD] at p
  | _, _, .any _, _, p, _ => by simp [plainD] at p
  | _, _, .fz _, _, p, _ => by simp [plainD] at p
  | _, _, .exc _ _ _, _, p, _ => by simp [plainD] at p
theorem eqv_ofs : ∀ (n m : Nat) (d e : List D), plainDs n d = true → plainDs m e = true → PyData.eqvAll (toPys d) (toPys e) = eqDs d e
  | _, _, [], [], _, _ => rfl
  | _, _, [], _ :: _, _, _ => rfl
  | _, _, _ :: _, [], _, _ => rfl
  | n, m, d :: ds, e :: es, p, q => by
    rw [plainDs, Bool.and_eq_true] at p q
    simp only [toPys, PyData.eqvAll, eqDs]
    rw [eqv_of n m d e p.1 q.1, eqv_ofs n m ds es p.2 q.2]
end
def eqC (x y : D) (Q : Bool → Prop) : Prop := plainD 60 x = true ∧ plainD 60 y = true ∧ Q (eqD x y)
def neC (x y : D) (Q : Bool → Prop) : Prop := plainD 60 x = true ∧ plainD 60 y = true ∧ Q (!eqD x y)
theorem shaped_of {F : Hp} {d : D} {v : V} (p : plainD 60 d = true) (h : Rep K F d v) : SeqAt.shaped (toPy d) = true := by
  obtain ⟨h1, h2⟩ := lay_of 60 d v p h
  unfold SeqAt.shaped
  rw [h1, decide_eq_true (by omega)]
  rfl
theorem o_eq : Cm2 K (rEqD K) eqC := by
  intro F H dx dy x y Qd Q sub rx ry h hQ
  obtain ⟨p1, p2, h⟩ := h
  refine ⟨toPy dx, toPy dy, rep_dp sub 60 dx x p1 rx, rep_dp sub 60 dy y p2 ry, shaped_of p1 rx, shaped_of p2 ry, ?_⟩
  rw [eqv_of 60 60 dx dy p1 p2]
  exact hQ _ F H h (Grow.refl sub)
theorem o_ne : Cm2 K (rNeD K) neC := by
  intro F H dx dy x y Qd Q sub rx ry h hQ
  obtain ⟨p1, p2, h⟩ := h
  refine ⟨toPy dx, toPy dy, rep_dp sub 60 dx x p1 rx, rep_dp sub 60 dy y p2 ry, shaped_of p1 rx, shaped_of p2 ry, ?_⟩
  rw [eqv_of 60 60 dx dy p1 p2]
  exact hQ _ F H h (Grow.refl sub)
/-! ### in, not in -/
def strIn (a z : Str) : Bool := !(Builtin.Str.occurrences z a 0 z.length 1).isEmpty
def inD : D → D → (Bool → Prop) → Prop
  | .str a, .str z, Q => Q (strIn a z)
  | x, .lst ys, Q => plainD 58 x = true ∧ plainDs 58 ys = true ∧ Q (ys.any fun y => eqD y x)
  | _, _, _ => False
def notInD : D → D → (Bool → Prop) → Prop
  | .str a, .str z, Q => Q (!strIn a z)
  | x, .lst ys, Q => plainD 58 x = true ∧ plainDs 58 ys = true ∧ Q (!ys.any fun y => eqD y x)
  | _, _, _ => False
def rInA (K : PySem.W.Frag) : R2 := fun x y H Q => (∃ i j, x = .str i ∧ y = .str j ∧ Q (.bl (strIn i j)) H) ∨ rInD K x y H Q
def rNotInA (K : PySem.W.Frag) : R2 := fun x y H Q => (∃ i j, x = .str i ∧ y = .str j ∧ Q (.bl (!strIn i j)) H) ∨ rNotInD K x y H Q
theorem op_inA (hu : X.A.units + 65 < cLine) : OpR X (compareOp .In) (rInA X.K) := op_in_str.or (op_inD hu)
theorem op_notInA (hu : X.A.units + 65 < cLine) : OpR X (compareOp .NotIn) (rNotInA X.K) := op_notin_str.or (op_notInD hu)
theorem any_eqv (n m : Nat) (x : D) (hx : plainD n x = true) : ∀ (ys : List D), plainDs m ys = true → (toPys ys).any (fun z => PyData.eqv z (toPy x)) = ys.any fun y => eqD y x
  | [], _ => rfl
  | y :: ys, h => by
    rw [plainDs, Bool.and_eq_true] at h
    rw [toPys, List.any_cons, List.any_cons, eqv_of m n y x h.1 hx, any_eqv n m x hx ys h.2]
mutual
theorem plain_mono : ∀ (n m : Nat) (d : D), n ≤ m → plainD n d = true → plainD m d = true
  | _, _, .non, _, _ => by simp [plainD]
  | _, _, .bl _, _, _ => by simp [plainD]
  | _, _, .int _, _, _ => by simp [plainD]
  | _, _, .str _, _, _ => by simp [plainD]
  | 0, _, .lst xs, _, p => by simp [plainD] at p
  | n + 1, 0, .lst xs, h, _ => absurd h (by omega)
  | n + 1, m + 1, .lst xs, h, p => by simpa [plainD] using plain_monos n m xs (by omega) (by simpa [plainD] using p)
  | 0, _, .tup xs, _, p => by simp [plainD] at p
  | n + 1, 0, .tup xs, h, _ => absurd h (by omega)
  | n + 1, m + 1, .tup xs, h, p => by simpa [plainD] using plain_monos n m xs (by omega) (by simpa [plainD] using p)
  | _, _, .dic _ _, _, p => by simp [plainD] at p
  | _, _, .ins _ _ _, _, p => by simp [plainD] at p
  | _, _, .any _, _, p => by simp [plainD] at p
  | _, _, .fz _, _, p => by simp [plainD] at p
theorem plain_monos : ∀ (n m : Nat) (d : List D), n ≤ m → plainDs n d = true → plainDs m d = true
  | _, _, [], _, _ => by simp [plainDs]
  | n, m, d :: ds, h, p => by
    rw [plainDs, Bool.and_eq_true] at p ⊢
    exact ⟨plain_mono n m d h p.1, plain_monos n m ds h p.2⟩
end
theorem in_core {F H : Hp} {dx : D} {ys : List D} {x y : V} (sub : Same F H) (rx : Rep K F dx x) (ry : Rep K F (.lst ys) y) (p1 : plainD 58 dx = true) (p2 : plainDs 58 ys = true) :
    ∃ d ds, Dp K H x d ∧ Dp K H y (.list ds) ∧ SeqAt.shaped d = true ∧ SeqAt.shaped (.list ds) = true ∧ (ds.any fun z => PyData.eqv z d) = ys.any fun y => eqD y dx := by
  have q1 := plain_mono 58 60 dx (by omega) p1
  have q2 : plainD 60 (.lst ys) = true := by
    have := plain_monos 58 59 ys (by omega) p2
    simpa [plainD] using this
  exact ⟨toPy dx, toPys ys, rep_dp sub 60 dx x q1 rx, rep_dp sub 60 _ y q2 ry, shaped_of q1 rx, shaped_of q2 ry, any_eqv 58 58 dx p1 ys p2⟩
theorem o_in : Cm2 K (rInA K) inD := by
  intro F H dx dy x y Qd Q sub rx ry h hQ
  cases dy with
  | lst ys =>
    have h' : plainD 58 dx = true ∧ plainDs 58 ys = true ∧ Qd (ys.any fun y => eqD y dx) := by cases dx <;> exact h
    obtain ⟨p1, p2, q⟩ := h'
    obtain ⟨d, ds, a1, a2, a3, a4, e⟩ := in_core sub rx ry p1 p2
    exact .inr ⟨d, ds, a1, a2, a3, a4, by rw [e]; exact hQ _ F H q (Grow.refl sub)⟩
  | str z =>
    cases dx with
    | str a =>
      obtain ⟨rfl, _⟩ := rx
      obtain ⟨rfl, _⟩ := ry
      exact .inl ⟨a, z, rfl, rfl, hQ _ F H h (Grow.refl sub)⟩
    | _ => exact False.elim h
  | _ => cases dx <;> exact False.elim h
theorem o_notIn : Cm2 K (rNotInA K) notInD := by
  intro F H dx dy x y Qd Q sub rx ry h hQ
  cases dy with
  | lst ys =>
    have h' : plainD 58 dx = true ∧ plainDs 58 ys = true ∧ Qd (!ys.any fun y => eqD y dx) := by cases dx <;> exact h
    obtain ⟨p1, p2, q⟩ := h'
    obtain ⟨d, ds, a1, a2, a3, a4, e⟩ := in_core sub rx ry p1 p2
    exact .inr ⟨d, ds, a1, a2, a3, a4, by rw [e]; exact hQ _ F H q (Grow.refl sub)⟩
  | str z =>
    cases dx with
    | str a =>
      obtain ⟨rfl, _⟩ := rx
      obtain ⟨rfl, _⟩ := ry
      exact .inl ⟨a, z, rfl, rfl, hQ _ F H h (Grow.refl sub)⟩
    | _ => exact False.elim h
  | _ => cases dx <;> exact False.elim h

/-! ### subscripts and slices -/
def ixD : D → D → (D → Prop) → Prop
  | .lst ds, .int i, Q => ∃ d, atI ds i = some d ∧ Q d
  | .tup ds, .int i, Q => ∃ d, atI ds i = some d ∧ Q d
  | .str z, .int i, Q => ∃ c, atI z.cps.toList i = some c ∧ Q (.str ⟨#[c]⟩)
  | _, _, _ => False
theorem Reps.atI {F : Hp} {ds : List D} {vs : List V} {i : Int} {d : D} (h : Reps K F ds vs) (e : L2.atI ds i = some d) : ∃ v, L2.atI vs i = some v ∧ Rep K F d v := by
  unfold L2.atI at e ⊢
  rw [h.length]
  cases q : ixN ds.length i with
  | none => rw [q] at e; cases e
  | some j =>
    rw [q] at e
    exact h.get e
theorem sOk_one {c : Nat} (h : c < 0x110000) : sOk ⟨#[c]⟩ = true := sOk_of (by show 1 ≤ strLim; decide) fun c' hc' => by
  have e : c' = c := by simpa using hc'
  subst e
  exact h
theorem o_ix : Op2 K (rIx K) ixD := by
  intro F H dx dy x y Qd Q sub rx ry h hQ
  cases dx with
  | lst ds =>
    cases dy with
    | int i =>
      obtain ⟨a, vs, rfl, h1, _, rs⟩ := rx
      cases ry
      obtain ⟨d, e, q⟩ := h
      obtain ⟨v, e2, rv⟩ := rs.atI e
      exact .inl ⟨a, vs, i, v, rfl, rfl, .inl (.inl (sub _ _ h1)), e2, hQ d v F H q (Grow.refl sub) rv⟩
    | _ => exact False.elim h
  | tup ds =>
    cases dy with
    | int i =>
      obtain ⟨a, vs, rfl, h1, _, rs⟩ := rx
      cases ry
      obtain ⟨d, e, q⟩ := h
      obtain ⟨v, e2, rv⟩ := rs.atI e
      exact .inr (.inl ⟨a, vs, i, v, rfl, rfl, Same.seqT sub h1, e2, hQ d v F H q (Grow.refl sub) rv⟩)
    | _ => exact False.elim h
  | str z =>
    cases dy with
    | int i =>
      obtain ⟨rfl, hz⟩ := rx
      cases ry
      obtain ⟨c, e, q⟩ := h
      obtain ⟨j, _, hj, _, _, _⟩ := atI_get e
      exact .inr (.inr ⟨z, i, c, rfl, rfl, Nat.le_trans (sOk_len hz) (Nat.le_trans (Nat.le_add_right _ 2) strLim_line), e, hQ _ _ F H q (Grow.refl sub) ⟨rfl, sOk_one (sOk_cps hz c (List.mem_of_getElem? hj))⟩⟩)
    | _ => exact False.elim h
  | _ => cases dy <;> exact False.elim h
def cutD (xs : List D) (lo hi : Option Int) : List D := (xs.drop (HT.sIx xs.length 0 lo)).take (HT.sIx xs.length xs.length hi - HT.sIx xs.length 0 lo)
theorem Reps.cut {F : Hp} {ds : List D} {vs : List V} (h : Reps K F ds vs) (lo hi : Option Int) : Reps K F (cutD ds lo hi) (cutV vs lo hi) := by
  unfold cutD cutV
  rw [h.length]
  exact (h.drop _).take _
def slD : D → Option Int → Option Int → (D → Prop) → Prop
  | .lst ds, lo, hi, Q => Q (.lst (cutD ds lo hi))
  | .tup ds, lo, hi, Q => Q (.tup (cutD ds lo hi))
  | .str z, lo, hi, Q => Q (.str (cutS z lo hi))
  | _, _, _, _ => False
def rSlAll (K : PySem.W.Frag) : V → Option Int → Option Int → Hp → VK → Prop := fun x lo hi H Q => rSlL K x lo hi H Q ∨ rSlA K x lo hi H Q ∨ rSlS x lo hi H Q
theorem sl_all : SlR X (rSlAll X.K) := sl_list.or (sl_tupA.or sl_str)
theorem sOk_cut {z : Str} (h : sOk z = true) (lo hi : Option Int) : sOk (cutS z lo hi) = true := sOk_of (Nat.le_trans (cutS_length z lo hi) (sOk_len h)) fun c hc => by
  have hc' : c ∈ (z.cps.toList.drop (HT.sIx z.length 0 lo)).take (HT.sIx z.length z.length hi - HT.sIx z.length 0 lo) := hc
  exact sOk_cps h c (List.mem_of_mem_drop (List.mem_of_mem_take hc'))
theorem o_sl : OpS K (rSlAll K) slD := by
  intro F H dx x lo hi Qd Q sub rx h hQ
  cases dx with
  | lst ds =>
    obtain ⟨a, vs, rfl, h1, hl, rs⟩ := rx
    refine .inl ⟨a, vs, rfl, .inl (.inl (sub _ _ h1)), fun p np => ?_⟩
    have g : Grow F H (upd F p (.lst (cutV vs lo hi))) (upd H p (.lst (cutV vs lo hi))) := Grow.new sub np
    exact hQ _ _ _ _ h g ⟨p, _, rfl, upd_same, Nat.le_trans (cutV_length vs lo hi) hl, (Reps.mono g.fF _ _ rs).cut lo hi⟩
  | tup ds =>
    have rx' := rx
    obtain ⟨a, vs, rfl, h1, hl, rs⟩ := rx
    refine .inr (.inl ⟨a, vs, rfl, Same.seqT sub h1, fun e => ?_, fun _ p np => ?_⟩)
    · have e2 : cutD ds lo hi = ds := by
        unfold cutD
        rw [rs.length] at e
        rw [e.1, e.2, List.drop_zero, Nat.sub_zero, List.take_length]
      have h' : Qd (.tup (cutD ds lo hi)) := h
      rw [e2] at h'
      exact hQ _ _ F H h' (Grow.refl sub) rx'
    · have g : Grow F H (upd F p (.tup (cutV vs lo hi))) (upd H p (.tup (cutV vs lo hi))) := Grow.new sub np
      exact hQ _ _ _ _ h g ⟨p, _, rfl, .inl (.inl upd_same), Nat.le_trans (cutV_length vs lo hi) hl, (Reps.mono g.fF _ _ rs).cut lo hi⟩
  | str z =>
    obtain ⟨rfl, hz⟩ := rx
    exact .inr (.inr ⟨z, rfl, Nat.le_trans (sOk_len hz) (Nat.le_trans (Nat.le_add_right _ 2) strLim_line), hQ _ _ F H h (Grow.refl sub) ⟨rfl, sOk_cut hz lo hi⟩⟩)
  | _ => exact False.elim h
/-- xs[::-1] of a list -/
def dRevL {m : Mem} (ta : DT m) : DT m := fun ρ s Q => ta ρ s fun d ρ1 s1 => ∃ ds, d = .lst ds ∧ Q (.lst ds.reverse) ρ1 s1
theorem de_revL {m : Mem} {e : Expr} {ta : DT m} {k : Nat} {p1 p2 p3 pos : Pos} (he : PE X e (up X.K m ta)) : PE X (.Subscript e (.Slice none none (some (.UnaryOp .USub (.Constant (.int 1) k p1) p2)) p3) pos) (up X.K m (dRevL ta)) := PE.imp (pe_revL he) fun σ H Q h => by
  obtain ⟨F, ρ, s, Qd, rl, ht, hQ⟩ := h
  refine ⟨F, ρ, s, _, rl, ht, fun d ρ1 s1 x F1 H1 ⟨ds, e, q1⟩ r1 st1 rx => ?_⟩
  subst e
  obtain ⟨a, vs, rfl, h1, hl, rs⟩ := rx
  refine ⟨a, vs, rfl, .inl (.inl (r1.sub _ _ h1)), fun p np => ?_⟩
  have g : Grow F1 H1 (upd F1 p (.lst vs.reverse)) (upd H1 p (.lst vs.reverse)) := Grow.new r1.sub np
  exact hQ _ ρ1 s1 _ _ _ q1 (r1.grow g) (st1.trans g.stp) ⟨p, _, rfl, upd_same, by rw [List.length_reverse]; exact hl, (Reps.mono g.fF _ _ rs).reverse⟩

/-! ### built-in functions -/
def lenOf : D → Option Nat
  | .lst ds => some ds.length
  | .tup ds => some ds.length
  | .str z => some z.length
  | .dic ks _ => some ks.length
  | _ => none
def lenD (ds : List D) (Q : D → Prop) : Prop := ∃ d n, ds = [d] ∧ lenOf d = some n ∧ Q (.int (n : Nat))
def rLenA (K : PySem.W.Frag) : List V → Hp → VK → Prop := fun xs H Q => (∃ x n, xs = [x] ∧ LenV K x H n ∧ Q (.int n) H) ∨ (∃ a kvs, xs = [V.ref a] ∧ H a = some (.dK kvs) ∧ Q (.int kvs.length) H)
theorem CallR.or {f : Value} {r r' : List V → Hp → VK → Prop} (h : CallR X f r) (h' : CallR X f r') : CallR X f (fun xs H Q => r xs H Q ∨ r' xs H Q) := by
  intro pins s σ H xs us Q I rx q
  rcases q with q | q
  · exact h pins s σ H xs us Q I rx q
  · exact h' pins s σ H xs us Q I rx q
theorem one_of {F : Hp} {d : D} {ds : List D} {vs : List V} (h : Reps K F (d :: ds) vs) : ∃ v r, vs = v :: r ∧ Rep K F d v ∧ Reps K F ds r := h
theorem o_len : OpN K (rLenA K) lenD := by
  intro F H ds vs Qd Q sub rs h hQ
  obtain ⟨d, n, rfl, e, q⟩ := h
  obtain ⟨v, _, rfl, rv, rn⟩ := rs
  cases rn
  have fin : Q (.int (n : Nat)) H := hQ _ _ F H q (Grow.refl sub) rfl
  cases d with
  | lst xs =>
    obtain ⟨a, ws, rfl, h1, _, r⟩ := rv
    cases e
    exact .inl ⟨_, xs.length, rfl, .inl ⟨ws, .inl (.inl (sub _ _ h1)), r.length.symm⟩, fin⟩
  | tup xs =>
    obtain ⟨a, ws, rfl, h1, _, r⟩ := rv
    cases e
    exact .inl ⟨_, xs.length, rfl, .inr ⟨ws, Same.seqT sub h1, r.length.symm⟩, fin⟩
  | str z =>
    obtain ⟨rfl, hz⟩ := rv
    cases e
    exact .inl ⟨_, z.length, rfl, ⟨Nat.le_trans (sOk_len hz) (Nat.le_trans (Nat.le_add_right _ 2) strLim_line), rfl⟩, fin⟩
  | dic ks xs =>
    obtain ⟨a, kvs, rfl, h1, _, ek, r⟩ := rv
    cases e
    refine .inr ⟨a, kvs, rfl, sub _ _ h1, ?_⟩
    have e2 : kvs.length = ks.length := by rw [← ek, List.length_map]
    rw [e2]
    exact fin
  | _ => cases e
def absD (ds : List D) (Q : D → Prop) : Prop := ∃ i, ds = [.int i] ∧ Q (.int (if i < 0 then -i else i))
theorem int1 {F : Hp} {i : Int} {vs : List V} (h : Reps K F [.int i] vs) : vs = [.int i] := reps_ints (ns := [i]) h
theorem int2 {F : Hp} {i j : Int} {vs : List V} (h : Reps K F [.int i, .int j] vs) : vs = [.int i, .int j] := reps_ints (ns := [i, j]) h
theorem o_abs : OpN K (fun xs H Q => ∃ i, xs = [.int i] ∧ Q (.int (if i < 0 then -i else i)) H) absD := by
  intro F H ds vs Qd Q sub rs h hQ
  obtain ⟨i, rfl, q⟩ := h
  exact ⟨i, int1 rs, hQ _ _ F H q (Grow.refl sub) rfl⟩
def intD (ds : List D) (Q : D → Prop) : Prop := ∃ i, ds = [.int i] ∧ Q (.int i)
theorem o_int : OpN K (fun xs H Q => (∃ i, xs = [.int i] ∧ Q (.int i) H) ∨ ∃ k, xs = [.bl k] ∧ Q (.int (if k then 1 else 0)) H) intD := by
  intro F H ds vs Qd Q sub rs h hQ
  obtain ⟨i, rfl, q⟩ := h
  exact .inl ⟨i, int1 rs, hQ _ _ F H q (Grow.refl sub) rfl⟩
def minD (ds : List D) (Q : D → Prop) : Prop := ∃ i j, ds = [.int i, .int j] ∧ Q (.int (if j < i then j else i))
theorem o_min : OpN K (fun xs H Q => ∃ i j, xs = [.int i, .int j] ∧ Q (.int (if j < i then j else i)) H) minD := by
  intro F H ds vs Qd Q sub rs h hQ
  obtain ⟨i, j, rfl, q⟩ := h
  exact ⟨i, j, int2 rs, hQ _ _ F H q (Grow.refl sub) rfl⟩
def maxD (ds : List D) (Q : D → Prop) : Prop := ∃ i j, ds = [.int i, .int j] ∧ Q (.int (if j > i then j else i))
theorem o_max : OpN K (fun xs H Q => ∃ i j, xs = [.int i, .int j] ∧ Q (.int (if j > i then j else i)) H) maxD := by
  intro F H ds vs Qd Q sub rs h hQ
  obtain ⟨i, j, rfl, q⟩ := h
  exact ⟨i, j, int2 rs, hQ _ _ F H q (Grow.refl sub) rfl⟩
def allD (ds : List D) (Q : D → Prop) : Prop := ∃ bs : List Bool, ds = [.lst (bs.map .bl)] ∧ Q (.bl (bs.all id))
def anyD (ds : List D) (Q : D → Prop) : Prop := ∃ bs : List Bool, ds = [.lst (bs.map .bl)] ∧ Q (.bl (bs.any id))
theorem o_all : OpN K (rAll K) allD := by
  intro F H ds vs Qd Q sub rs h hQ
  obtain ⟨bs, rfl, q⟩ := h
  obtain ⟨v, _, rfl, ⟨a, ws, rfl, h1, _, r⟩, rn⟩ := rs
  cases rn
  have e := reps_bls r
  subst e
  exact ⟨a, bs, rfl, .inl (.inl (sub _ _ h1)), hQ _ _ F H q (Grow.refl sub) rfl⟩
theorem o_any : OpN K (rAny K) anyD := by
  intro F H ds vs Qd Q sub rs h hQ
  obtain ⟨bs, rfl, q⟩ := h
  obtain ⟨v, _, rfl, ⟨a, ws, rfl, h1, _, r⟩, rn⟩ := rs
  cases rn
  have e := reps_bls r
  subst e
  exact ⟨a, bs, rfl, .inl (.inl (sub _ _ h1)), hQ _ _ F H q (Grow.refl sub) rfl⟩
/-- tuple(xs), list(xs) -/
def tupD (ds : List D) (Q : D → Prop) : Prop := ∃ d xs, ds = [d] ∧ seqD d = some xs ∧ Q (.tup xs)
def listD (ds : List D) (Q : D → Prop) : Prop := ∃ d xs, ds = [d] ∧ seqD d = some xs ∧ Q (.lst xs)
theorem o_tuple : OpN K (fun xs H Q => ∃ p ys, xs = [.ref p] ∧ ((SqL K H p ys ∧ ∀ l, H l = none → Q (.ref l) (upd H l (.tup ys))) ∨ (SqT K H p ys ∧ Q (.ref p) H))) tupD := by
  intro F H ds vs Qd Q sub rs h hQ
  obtain ⟨d, xs, rfl, e, q⟩ := h
  obtain ⟨v, _, rfl, rv, rn⟩ := rs
  cases rn
  cases d with
  | lst xs =>
    cases e
    obtain ⟨a, ws, rfl, h1, hl, r⟩ := rv
    refine ⟨a, ws, rfl, .inl ⟨.inl (.inl (sub _ _ h1)), fun p np => ?_⟩⟩
    have g : Grow F H (upd F p (.tup ws)) (upd H p (.tup ws)) := Grow.new sub np
    exact hQ _ _ _ _ q g ⟨p, _, rfl, .inl (.inl upd_same), hl, Reps.mono g.fF _ _ r⟩
  | tup xs =>
    cases e
    have rv' := rv
    obtain ⟨a, ws, rfl, h1, hl, r⟩ := rv
    exact ⟨a, ws, rfl, .inr ⟨Same.seqT sub h1, hQ _ _ F H q (Grow.refl sub) rv'⟩⟩
  | fz xs =>
    cases e
    obtain ⟨a, ws, rfl, h1, hl, r⟩ := rv
    refine ⟨a, ws, rfl, .inl ⟨Same.seq sub h1, fun p np => ?_⟩⟩
    have g : Grow F H (upd F p (.tup ws)) (upd H p (.tup ws)) := Grow.new sub np
    exact hQ _ _ _ _ q g ⟨p, _, rfl, .inl (.inl upd_same), hl, Reps.mono g.fF _ _ r⟩
  | _ => cases e
theorem o_list : OpN K (fun xs H Q => ∃ p ys, xs = [.ref p] ∧ (SqL K H p ys ∨ SqT K H p ys) ∧ ∀ l, H l = none → Q (.ref l) (upd H l (.lst ys))) listD := by
  intro F H ds vs Qd Q sub rs h hQ
  obtain ⟨d, xs, rfl, e, q⟩ := h
  obtain ⟨v, _, rfl, rv, rn⟩ := rs
  cases rn
  cases d with
  | lst xs =>
    cases e
    obtain ⟨a, ws, rfl, h1, hl, r⟩ := rv
    refine ⟨a, ws, rfl, .inl (.inl (.inl (sub _ _ h1))), fun p np => ?_⟩
    have g : Grow F H (upd F p (.lst ws)) (upd H p (.lst ws)) := Grow.new sub np
    exact hQ _ _ _ _ q g ⟨p, _, rfl, upd_same, hl, Reps.mono g.fF _ _ r⟩
  | tup xs =>
    cases e
    obtain ⟨a, ws, rfl, h1, hl, r⟩ := rv
    refine ⟨a, ws, rfl, .inr (Same.seqT sub h1), fun p np => ?_⟩
    have g : Grow F H (upd F p (.lst ws)) (upd H p (.lst ws)) := Grow.new sub np
    exact hQ _ _ _ _ q g ⟨p, _, rfl, upd_same, hl, Reps.mono g.fF _ _ r⟩
  | fz xs =>
    cases e
    obtain ⟨a, ws, rfl, h1, hl, r⟩ := rv
    refine ⟨a, ws, rfl, .inl (Same.seq sub h1), fun p np => ?_⟩
    have g : Grow F H (upd F p (.lst ws)) (upd H p (.lst ws)) := Grow.new sub np
    exact hQ _ _ _ _ q g ⟨p, _, rfl, upd_same, hl, Reps.mono g.fF _ _ r⟩
  | _ => cases e
/-- isinstance(x, T), T a built-in type -/
inductive Tg where
  | non | bl | int | str | lst | tup | dic
def tgS : Tg → String
  | .non => "NoneType"
  | .bl => "bool"
  | .int => "int"
  | .str => "str"
  | .lst => "list"
  | .tup => "tuple"
  | .dic => "dict"
def tyT : D → Option Tg
  | .non => some .non
  | .bl _ => some .bl
  | .int _ => some .int
  | .str _ => some .str
  | .lst _ => some .lst
  | .tup _ => some .tup
  | .dic _ _ => some .dic
  | _ => none
/-- what isinstance says -/
def isTg : Tg → Tg → Bool
  | .non, .non => true
  | .bl, .bl => true
  | .bl, .int => true
  | .int, .int => true
  | .str, .str => true
  | .lst, .lst => true
  | .tup, .tup => true
  | .dic, .dic => true
  | _, _ => false
theorem kitB_ok (t T : Tg) (h : T ≠ .non) : kitB (tgS t) (tgS T) = some (isTg t T) := by
  cases T with
  | non => exact absurd rfl h
  | bl => cases t <;> decide +kernel
  | int => cases t <;> decide +kernel
  | str => cases t <;> decide +kernel
  | lst => cases t <;> decide +kernel
  | tup => cases t <;> decide +kernel
  | dic => cases t <;> decide +kernel
def isiD (ds : List D) (Q : D → Prop) : Prop := ∃ x T t, ds = [x, .any (.ty (tgS T))] ∧ tyT x = some t ∧ T ≠ .non ∧ Q (.bl (isTg t T))
theorem ty_of {F H : Hp} {d : D} {v : V} {t : Tg} (sub : Same F H) (h : Rep K F d v) (e : tyT d = some t) : TyX K H v (.type (tgS t)) := by
  cases d with
  | non => cases e; cases h; exact .base .non
  | bl b => cases e; cases h; exact .base (.bl b)
  | int i => cases e; cases h; exact .base (.int i)
  | str x => cases e; obtain ⟨rfl, _⟩ := h; exact .base (.str x)
  | lst xs => cases e; obtain ⟨a, vs, rfl, h1, _, _⟩ := h; exact .base (.lst (sub _ _ h1))
  | tup xs =>
    cases e
    obtain ⟨a, vs, rfl, h1, _, _⟩ := h
    rcases h1 with (h1 | ⟨o, h1⟩) | ⟨o, its, n, h1, h2, _⟩
    · exact .base (.tup (sub _ _ h1))
    · exact .fTuple (sub _ _ h1)
    · exact .kTuple h1 h2
  | dic ks ds => cases e; obtain ⟨a, vs, rfl, h1, _⟩ := h; exact .base (.dK (sub _ _ h1))
  | ins _ _ _ => cases e
  | any _ => cases e
  | fz _ => cases e
  | exc _ _ _ => cases e
theorem o_isi : OpN K (rIsi K) isiD := by
  intro F H ds vs Qd Q sub rs h hQ
  obtain ⟨x, T, t, rfl, e1, e2, q⟩ := h
  obtain ⟨v, _, rfl, rv, w, _, rfl, rw', rn⟩ := rs
  cases rn
  cases rw'
  exact ⟨v, .ty (tgS T), .type (tgS t), .type (tgS T), _, rfl, .ty _, ty_of sub rv e1, kit_ty (kitB_ok t T e2), hQ _ _ F H q (Grow.refl sub) rfl⟩
/-- isinstance(x, (T1, T2)), the types written -/
theorem kitAny_ok {t : Tg} : ∀ Ts : List Tg, (∀ T ∈ Ts, T ≠ .non) → PySem.W.kitAny K (.type (tgS t)) (Ts.map fun T => .type (tgS T)) = some (Ts.any (isTg t))
  | [], _ => rfl
  | T :: Ts, h => by
    have e : PySem.W.kitOne K (.type (tgS t)) (.type (tgS T)) = some (isTg t T) := kit_ty (kitB_ok t T (h T List.mem_cons_self))
    have ih := kitAny_ok (t := t) Ts fun T' h' => h T' (List.mem_cons_of_mem _ h')
    rw [List.map_cons, List.any_cons]
    refine kitAny_cons e (fun z => ?_) (fun z => ?_)
    · rw [z, Bool.false_or]; exact ih
    · rw [z, Bool.true_or]
def dIsT {m : Mem} (te : DT m) (T1 T2 : Tg) : DT m := fun ρ s Q => te ρ s fun x ρ1 s1 => ∃ t, tyT x = some t ∧ Q (.bl (isTg t T1 || isTg t T2)) ρ1 s1
theorem de_isT {m : Mem} {e : Expr} {te : DT m} {x1 x2 : Str} {t1 t2 : Tg} {p p1 p2 pt pos : Pos} {k : Nat} (hg : Gl X "isinstance") (hm : X.mg "isinstance" = none) (he : PE X e (up X.K m te)) (hg1 : Gl X x1) (hm1 : X.mg x1 = none) (hv1 : bootBuiltins x1 = some (.type (tgS t1))) (hg2 : Gl X x2) (hm2 : X.mg x2 = none) (hv2 : bootBuiltins x2 = some (.type (tgS t2)))
    (h1 : t1 ≠ .non := by intro z; cases z) (h2 : t2 ≠ .non := by intro z; cases z) (n1 : x1 ≠ "__name__" := by decide) (n2 : x2 ≠ "__name__" := by decide) (d1 : (x1 == ("__debug__" : Str)) = false := by decide) (d2 : (x2 == ("__debug__" : Str)) = false := by decide)
    (hs : starEach [e, .Tuple [.Name x1 p1, .Name x2 p2] k pt] X.env = [(false, eval e X.env), (false, eval (.Tuple [.Name x1 p1, .Name x2 p2] k pt) X.env)] := by rfl)
    (hs2 : starEach [.Name x1 p1, .Name x2 p2] X.env = [(false, eval (.Name x1 p1) X.env), (false, eval (.Name x2 p2) X.env)] := by rfl) (hs3 : starEach [.Name x2 p2] X.env = [(false, eval (.Name x2 p2) X.env)] := by rfl)
    (hs4 : starEach [.Tuple [.Name x1 p1, .Name x2 p2] k pt] X.env = [(false, eval (.Tuple [.Name x1 p1, .Name x2 p2] k pt) X.env)] := by rfl) :
    PE X (.Call (.Name "isinstance" p) [e, .Tuple [.Name x1 p1, .Name x2 p2] k pt] [] pos) (up X.K m (dIsT te t1 t2)) :=
  PE.imp (pe_callB call_isiT hg hm (by decide +kernel) (pa_cons he (pa_cons (pe_tup (pa_cons (pe_bltn (v := .ty (tgS t1)) hg1 hm1 hv1 rfl n1 d1) (pa_cons (pe_bltn (v := .ty (tgS t2)) hg2 hm2 hv2 rfl n2 d2) pa_nil (by rw [hs3]; rfl)) (by rw [hs2, hs3]))) pa_nil (by rw [hs4]; rfl)) (by rw [hs, hs4])) (by decide) (by decide) (by rw [hs, hs4]) (by rw [hs4]; rfl)) fun σ H Q h => by
    obtain ⟨F, ρ, s, Qd, r, ht, hQ⟩ := h
    refine ⟨F, ρ, s, _, r, ht, fun d ρ1 s1 v F1 H1 ⟨t, e1, q1⟩ r1 st1 rv => ⟨by show 2 ≤ sizeLine; decide, fun q nq => ?_⟩⟩
    have g : Grow F1 H1 (upd F1 q (.tup [.ty (tgS t1), .ty (tgS t2)])) (upd H1 q (.tup [.ty (tgS t1), .ty (tgS t2)])) := Grow.new r1.sub nq
    refine ⟨v, q, [.ty (tgS t1), .ty (tgS t2)], .type (tgS t), [.type (tgS t1), .type (tgS t2)], _, rfl, upd_same, .cons (.ty _) (.cons (.ty _) .nil), ty_of g.fH (Rep.mono g.fF _ _ rv) e1, kitAny_ok [t1, t2] (fun T h => ?_), ?_⟩
    · rcases List.mem_cons.mp h with rfl | h
      · exact h1
      · rw [List.mem_singleton.mp h]; exact h2
    · have e : [t1, t2].any (isTg t) = (isTg t t1 || isTg t t2) := by simp
      rw [e]
      exact hQ _ ρ1 s1 _ _ _ q1 (r1.grow g) (st1.trans g.stp) rfl

/-! ### methods of texts -/
theorem line2 {a : Str} (h : sOk a = true) : a.length + 2 ≤ sizeLine := Nat.le_trans (Nat.add_le_add_right (sOk_len h) 2) strLim_line
theorem line0 {a : Str} (h : sOk a = true) : a.length ≤ sizeLine := Nat.le_trans (Nat.le_add_right _ 2) (line2 h)
/-- a text cut at a text of one sign: its parts -/
theorem spl_mem {S : List Nat} : ∀ (k : Nat) (acc l : List Nat), ∀ p ∈ spl S k acc l, p.length ≤ acc.length + l.length ∧ ∀ c ∈ p, c ∈ acc ∨ c ∈ l
  | _, acc, [], p, hp => by
    rw [spl_nil] at hp
    have e : p = acc := by simpa using hp
    subst e
    exact ⟨by simp, fun c hc => .inl hc⟩
  | 0, acc, c :: r, p, hp => by
    cases h : pre S (c :: r) with
    | true =>
      rw [spl_hit h] at hp
      rcases List.mem_cons.mp hp with e | hp
      · subst e; exact ⟨by simp, fun c hc => .inl hc⟩
      · obtain ⟨h1, h2⟩ := spl_mem (S.length - 1) [] r p hp
        exact ⟨by simp at h1 ⊢; omega, fun c' hc => .inr (List.mem_cons_of_mem _ ((h2 c' hc).resolve_left (by simp)))⟩
    | false =>
      rw [spl_miss h] at hp
      obtain ⟨h1, h2⟩ := spl_mem 0 (acc ++ [c]) r p hp
      refine ⟨by simp at h1 ⊢; omega, fun c' hc => ?_⟩
      rcases h2 c' hc with z | z
      · rcases List.mem_append.mp z with z | z
        · exact .inl z
        · exact .inr (by have : c' = c := by simpa using z
                         subst this
                         exact List.mem_cons_self)
      · exact .inr (List.mem_cons_of_mem _ z)
  | k + 1, acc, c :: r, p, hp => by
    have e : spl S (k + 1) acc (c :: r) = spl S k acc r := rfl
    rw [e] at hp
    obtain ⟨h1, h2⟩ := spl_mem k acc r p hp
    exact ⟨by simp; omega, fun c' hc => (h2 c' hc).elim .inl fun z => .inr (List.mem_cons_of_mem _ z)⟩
/-- the parts of a text between signs c -/
def splS (c : Nat) (x : Str) : List Str := (spl [c] 0 [] (tl x)).map fun l => ⟨l.toArray⟩
theorem split_splS {c : Nat} (hc : c < 256) (x : Str) : Txt.split x ⟨#[c]⟩ = splS c x := by
  refine map_tl_inj ?_
  rw [split_spl x ⟨#[c]⟩ (by simp) (kind_ok (by simpa using hc))]
  unfold splS
  rw [List.map_map]
  show spl [c] 0 [] (tl x) = (spl [c] 0 [] (tl x)).map (fun l => l)
  rw [List.map_id']
theorem sOk_spl {c : Nat} {x : Str} (h : sOk x = true) : ∀ y ∈ splS c x, sOk y = true := fun y hy => by
  obtain ⟨l, hl, rfl⟩ := List.mem_map.mp hy
  obtain ⟨h1, h2⟩ := spl_mem 0 [] (tl x) l hl
  refine sOk_of ?_ fun c' hc => sOk_cps h c' ((h2 c' hc).resolve_left (by simp))
  have := sOk_len h
  rw [len_tl] at this
  show l.toArray.size ≤ strLim
  rw [List.size_toArray]
  rw [List.length_nil, Nat.zero_add] at h1
  exact Nat.le_trans h1 this
def splitD : D → List D → (D → Prop) → Prop := fun x ds Q => ∃ z c, x = .str z ∧ ds = [.str ⟨#[c]⟩] ∧ c < 256 ∧ Q (.lst ((splS c z).map .str))
theorem new_strs {F H : Hp} {ys : List Str} {Qd : D → Prop} {Q : VK} (sub : Same F H) (hl : ys.length ≤ sizeLine) (hy : ∀ y ∈ ys, sOk y = true) (h : Qd (.lst (ys.map .str))) (hQ : ∀ d v F' H', Qd d → Grow F H F' H' → Rep K F' d v → Q v H') : rNewStrs ys H Q := fun p np => by
  have g : Grow F H (upd F p (.lst (ys.map V.str))) (upd H p (.lst (ys.map V.str))) := Grow.new sub np
  exact hQ _ _ _ _ h g ⟨p, _, rfl, upd_same, by rw [List.length_map]; exact hl, reps_of_strs ys hy⟩
theorem o_split : OpM K (fun x xs H Q => ∃ a b, x = .str a ∧ xs = [.str b] ∧ (b.length == 0) = false ∧ a.length + 2 ≤ sizeLine ∧ rNewStrs (Txt.split a b) H Q) splitD := by
  intro F H dx x ds vs Qd Q sub rx rs h hQ
  obtain ⟨z, c, rfl, rfl, hc, q⟩ := h
  obtain ⟨rfl, hz⟩ := rx
  obtain ⟨v, _, rfl, ⟨rfl, _⟩, rn⟩ := rs
  cases rn
  refine ⟨z, ⟨#[c]⟩, rfl, rfl, rfl, line2 hz, ?_⟩
  have hl := PyProof.Rows.split_le z ⟨#[c]⟩
  have h2 := line2 hz
  rw [split_splS hc] at hl ⊢
  exact new_strs sub (by omega) (sOk_spl hz) q hQ
def joinS (z : Str) (ys : List Str) : Str := Str.join z ys
theorem joinL_len (S : List Nat) : ∀ ps : List (List Nat), (joinL S ps).length ≤ (ps.map List.length).sum + ps.length * S.length
  | [] => by simp [joinL]
  | [p] => by simp [joinL]
  | p :: q :: r => by
    have ih := joinL_len S (q :: r)
    have e : joinL S (p :: q :: r) = p ++ S ++ joinL S (q :: r) := (List.append_assoc _ _ _).symm
    rw [e]
    simp only [List.length_append, List.map_cons, List.sum_cons, List.length_cons] at ih ⊢
    have e2 : (r.length + 1 + 1) * S.length = (r.length + 1) * S.length + S.length := Nat.succ_mul _ _
    omega
theorem joinL_mem (S : List Nat) {c : Nat} : ∀ ps : List (List Nat), c ∈ joinL S ps → c ∈ S ∨ ∃ p ∈ ps, c ∈ p
  | [], h => by simp [joinL] at h
  | [p], h => .inr ⟨p, by simp, h⟩
  | p :: q :: r, h => by
    have e : joinL S (p :: q :: r) = p ++ S ++ joinL S (q :: r) := (List.append_assoc _ _ _).symm
    rw [e] at h
    rcases List.mem_append.mp h with h | h
    · rcases List.mem_append.mp h with h | h
      · exact .inr ⟨p, by simp, h⟩
      · exact .inl h
    · rcases joinL_mem S (q :: r) h with h | ⟨u, hu, hc⟩
      · exact .inl h
      · exact .inr ⟨u, List.mem_cons_of_mem _ hu, hc⟩
def joinD : D → List D → (D → Prop) → Prop := fun x ds Q => ∃ z ys, x = .str z ∧ (ds = [.lst (ys.map .str)] ∨ ds = [.tup (ys.map .str)]) ∧ (ys.map (·.length)).sum + ys.length * z.length ≤ strLim ∧ Q (.str (joinS z ys))
theorem o_join : OpM K (fun x xs H Q => ∃ a p, ∃ ys : List Str, x = .str a ∧ xs = [.ref p] ∧ (SqL K H p (ys.map V.str) ∨ SqT K H p (ys.map V.str)) ∧
    (ys.map (·.length)).sum + ys.length * a.length ≤ 16777216 ∧ Q (.str (Txt.join a ys)) H) joinD := by
  intro F H dx x ds vs Qd Q sub rx rs h hQ
  obtain ⟨z, ys, rfl, hd, hl, q⟩ := h
  obtain ⟨rfl, hz⟩ := rx
  have hs : strLim = 1000000 := rfl
  have fin : ∀ (hy : ∀ y ∈ ys, sOk y = true), Q (.str (Txt.join z ys)) H := fun hy => by
    rw [join_eq]
    refine hQ _ _ F H q (Grow.refl sub) ⟨rfl, sOk_of ?_ fun c hc => ?_⟩
    · rw [len_tl]
      show (tl (Str.join z ys)).length ≤ strLim
      rw [tl_join]
      refine Nat.le_trans (joinL_len _ _) ?_
      rw [List.map_map, List.length_map, ← len_tl]
      have e : ys.map (List.length ∘ tl) = ys.map (·.length) := List.map_congr_left fun y _ => (len_tl y).symm
      rw [e]
      exact hl
    · have hc' : c ∈ tl (Str.join z ys) := hc
      rw [tl_join] at hc'
      rcases joinL_mem _ _ hc' with h | ⟨p, hp, hcp⟩
      · exact sOk_cps hz c h
      · obtain ⟨y, hy', rfl⟩ := List.mem_map.mp hp
        exact sOk_cps (hy y hy') c hcp
  rcases hd with rfl | rfl
  · obtain ⟨v, _, rfl, ⟨a, ws, rfl, h1, _, r⟩, rn⟩ := rs
    cases rn
    obtain ⟨rfl, hy⟩ := reps_strs r
    exact ⟨z, a, ys, rfl, rfl, .inl (.inl (.inl (sub _ _ h1))), by omega, fin hy⟩
  · obtain ⟨v, _, rfl, ⟨a, ws, rfl, h1, _, r⟩, rn⟩ := rs
    cases rn
    obtain ⟨rfl, hy⟩ := reps_strs r
    exact ⟨z, a, ys, rfl, rfl, .inr (Same.seqT sub h1), by omega, fin hy⟩
def swD : D → List D → (D → Prop) → Prop := fun x ds Q => ∃ a b, x = .str a ∧ ds = [.str b] ∧ Q (.bl (Txt.startswith a b))
theorem o_sw : OpM K (fun x xs H Q => ∃ a b, x = .str a ∧ xs = [.str b] ∧ Q (.bl (Txt.startswith a b)) H) swD := by
  intro F H dx x ds vs Qd Q sub rx rs h hQ
  obtain ⟨a, b, rfl, rfl, q⟩ := h
  obtain ⟨rfl, _⟩ := rx
  obtain ⟨v, _, rfl, ⟨rfl, _⟩, rn⟩ := rs
  cases rn
  exact ⟨a, b, rfl, rfl, hQ _ _ F H q (Grow.refl sub) rfl⟩
/-- rpartition -/
theorem mt_rpartition : MtR X "str.rpartition" (fun x xs H Q => ∃ a b, x = .str a ∧ xs = [.str b] ∧ (b.length == 0) = false ∧ a.length ≤ sizeLine ∧
    ∀ p, H p = none → Q (.ref p) (upd H p (.tup [.str (Txt.rpartition a b).1, .str (Txt.rpartition a b).2.1, .str (Txt.rpartition a b).2.2]))) := by
  intro pins s σ H x xs v us Q I rx rs h
  obtain ⟨a, b, rfl, rfl, hb, hz, h⟩ := h
  obtain ⟨t, rfl⟩ := rx
  cases rs with
  | cons r1 rs =>
    cases rs
    obtain ⟨u, rfl⟩ := r1
    refine call_meets PySem.F.slot_str_rpartition (typeIs_str _ _ _) PySem.F.entry_str_rpartition (PySem.F.args_str_rpartition_2 _ _) (meets_str_rpartition a b t u hb hz) ?_
    unfold Txt.rpartition at h
    revert h
    cases Builtin.Str.lastOccurrence a b 0 a.length with
    | none => intro h; exact laid_parts I h
    | some i => intro h; exact laid_parts I h
def rpartD : D → List D → (D → Prop) → Prop := fun x ds Q => ∃ z c, x = .str z ∧ ds = [.str ⟨#[c]⟩] ∧ c < 0x110000 ∧ Q (.tup [.str (Txt.rpartition z ⟨#[c]⟩).1, .str (Txt.rpartition z ⟨#[c]⟩).2.1, .str (Txt.rpartition z ⟨#[c]⟩).2.2])
theorem sOk_sub {z : Str} (h : sOk z = true) (i j : Nat) : sOk (Builtin.Str.strSub z i j) = true := by
  refine sOk_of ?_ fun c hc => ?_
  · rw [len_tl, tl_strSub, List.length_take, List.length_drop]
    have := sOk_len h
    rw [len_tl] at this
    omega
  · have hc' : c ∈ tl (Builtin.Str.strSub z i j) := hc
    rw [tl_strSub] at hc'
    exact sOk_cps h c (List.mem_of_mem_drop (List.mem_of_mem_take hc'))
theorem sOk_rpart {z : Str} {b : Str} (h : sOk z = true) (hb : sOk b = true) : sOk (Txt.rpartition z b).1 = true ∧ sOk (Txt.rpartition z b).2.1 = true ∧ sOk (Txt.rpartition z b).2.2 = true := by
  unfold Txt.rpartition
  cases Builtin.Str.lastOccurrence z b 0 z.length with
  | none => exact ⟨by show sOk Str.empty = true; decide, by show sOk Str.empty = true; decide, h⟩
  | some i => exact ⟨sOk_sub h _ _, hb, sOk_sub h _ _⟩
theorem o_rpart : OpM K (fun x xs H Q => ∃ a b, x = .str a ∧ xs = [.str b] ∧ (b.length == 0) = false ∧ a.length ≤ sizeLine ∧
    ∀ p, H p = none → Q (.ref p) (upd H p (.tup [.str (Txt.rpartition a b).1, .str (Txt.rpartition a b).2.1, .str (Txt.rpartition a b).2.2]))) rpartD := by
  intro F H dx x ds vs Qd Q sub rx rs h hQ
  obtain ⟨z, c, rfl, rfl, hc, q⟩ := h
  obtain ⟨rfl, hz⟩ := rx
  obtain ⟨v, _, rfl, ⟨rfl, hb⟩, rn⟩ := rs
  cases rn
  obtain ⟨k1, k2, k3⟩ := sOk_rpart hz hb
  refine ⟨z, ⟨#[c]⟩, rfl, rfl, rfl, line0 hz, fun p np => ?_⟩
  have g : Grow F H (upd F p (.tup [.str (Txt.rpartition z ⟨#[c]⟩).1, .str (Txt.rpartition z ⟨#[c]⟩).2.1, .str (Txt.rpartition z ⟨#[c]⟩).2.2])) (upd H p (.tup [.str (Txt.rpartition z ⟨#[c]⟩).1, .str (Txt.rpartition z ⟨#[c]⟩).2.1, .str (Txt.rpartition z ⟨#[c]⟩).2.2])) := Grow.new sub np
  exact hQ _ _ _ _ q g ⟨p, _, rfl, .inl (.inl upd_same), by show 3 ≤ sizeLine; decide, .cons ⟨rfl, k1⟩ (.cons ⟨rfl, k2⟩ (.one ⟨rfl, k3⟩))⟩
def upperD : D → List D → (D → Prop) → Prop := fun x ds Q => ∃ z, x = .str z ∧ ds = [] ∧ sOk (Txt.upper z) = true ∧ Q (.str (Txt.upper z))
theorem o_upper : OpM K (fun x xs H Q => ∃ a, x = .str a ∧ xs = [] ∧ a.length ≤ 5592405 ∧ Q (.str (Txt.upper a)) H) upperD := by
  intro F H dx x ds vs Qd Q sub rx rs h hQ
  obtain ⟨z, rfl, rfl, hu, q⟩ := h
  obtain ⟨rfl, hz⟩ := rx
  cases rs
  have := sOk_len hz
  have hs : strLim = 1000000 := rfl
  exact ⟨z, rfl, rfl, by omega, hQ _ _ F H q (Grow.refl sub) ⟨rfl, hu⟩⟩
end
end DL

set_option Elab.async false
set_option linter.all false
set_option maxRecDepth 100000
namespace DL
open PySem PySem.Spec PyProof.Rows L2 TL

/-! ### a list that is a def's own: its items read and stored, its length -/
section
variable {X : Cx} {m : Mem} {E : Ent m} {e b : Expr} {te tb : DT m} {pos : Pos}
def dIxO {m : Mem} (i : Nat) (tb : DT m) : DT m := fun ρ s Q => (∃ ds0, ρ[i]? = some (.ow (.lst ds0))) ∧ tb ρ s fun y ρ1 s1 => ∃ k ds d, y = .int k ∧ ρ1[i]? = some (.ow (.lst ds)) ∧ atI ds k = some d ∧ Q d ρ1 s1
theorem de_ixO (i : Nat) {x : Str} {xpos : Pos} (hb : PE X b (up X.K m tb)) (hN : X.N[i]? = some x := by rfl) (hv : Vis X.env.scope x := by first | exact Or.inl rfl | exact Or.inr (Or.inl rfl) | exact Or.inr (Or.inr rfl))
    (hd : (x == ("__debug__" : Str)) = false := by decide) (hcd : (x == ("__classdict__" : Str)) = false := by decide) (hs : PlainIx b := by exact fun _ _ => rfl) : PE X (.Subscript (.Name x xpos) b pos) (up X.K m (dIxO i tb)) :=
  PE.imp (pe_ix ix_list (pv i hN hv hd hcd) hb hs) fun σ H Q h => by
    obtain ⟨F, ρ, s, Qd, r, ⟨⟨ds0, e0⟩, ht⟩, hQ⟩ := h
    obtain ⟨p, ho, h1, h2, ⟨vs0, rfl, hl0, rs0⟩, h4, h5⟩ := r.own_at e0
    refine ⟨_, h1, F, ρ, s, _, r, ht, fun y ρ1 s1 v F1 H1 ⟨k, ds, d, ey, e1, ea, q1⟩ r1 st1 rv => ?_⟩
    subst ey
    cases rv
    obtain ⟨p', ho, g1, g2, ⟨vs, rfl, hl, rs⟩, g4, g5⟩ := r1.own_at e1
    rw [h1] at g1; cases g1
    obtain ⟨w, ew, rw'⟩ := rs.atI ea
    exact ⟨p, vs, k, w, rfl, rfl, .inl (.inl g2), ew, hQ d ρ1 s1 w F1 H1 q1 r1 st1 rw'⟩
def dLenO {m : Mem} (i : Nat) : DT m := fun ρ s Q => ∃ ds, ρ[i]? = some (.ow (.lst ds)) ∧ Q (.int (ds.length : Nat)) ρ s
theorem de_lenO (i : Nat) {x : Str} {xpos p : Pos} (hg : Gl X "len") (hm : X.mg "len" = none) (hN : X.N[i]? = some x := by rfl) (hv : Vis X.env.scope x := by first | exact Or.inl rfl | exact Or.inr (Or.inl rfl) | exact Or.inr (Or.inr rfl))
    (hd : (x == ("__debug__" : Str)) = false := by decide) (hcd : (x == ("__classdict__" : Str)) = false := by decide)
    (hs : starEach [.Name x xpos] X.env = [(false, eval (.Name x xpos) X.env)] := by rfl) : PE X (.Call (.Name "len" p) [.Name x xpos] [] pos) (up X.K m (dLenO i)) :=
  PE.imp (pe_callB call_len_seq hg hm PySem.boot_len (pa_cons (pv i hN hv hd hcd) pa_nil (by rw [hs]; rfl)) (by decide) (by decide) (by rw [hs]; rfl) rfl) fun σ H Q h => by
    obtain ⟨F, ρ, s, Qd, r, ⟨ds, e0, q⟩, hQ⟩ := h
    obtain ⟨p, ho, h1, h2, ⟨vs, rfl, hl, rs⟩, h4, h5⟩ := r.own_at e0
    refine ⟨_, h1, p, vs, rfl, .inl (.inl (.inl h2)), ?_⟩
    rw [rs.length]
    exact hQ _ ρ s _ F H q r Stp.refl rfl
/-- x[i] = e -/
def dStO {m : Mem} (i : Nat) (te tb : DT m) : DTS m := fun dd ρ s => te ρ s fun d ρ1 s1 => (∃ ds0, ρ1[i]? = some (.ow (.lst ds0))) ∧ tb ρ1 s1 fun y ρ2 s2 => ∃ k ds j, y = .int k ∧ ρ2[i]? = some (.ow (.lst ds)) ∧ ixN ds.length k = some j ∧ dd.nx (ρ2.set i (.ow (.lst (ds.set j d)))) s2
theorem ds_stO (i : Nat) {x : Str} {xpos spos : Pos} (he : PE X e (up X.K m te)) (hb : PE X b (up X.K m tb)) (hN : X.N[i]? = some x := by rfl) (hv : Vis X.env.scope x := by first | exact Or.inl rfl | exact Or.inr (Or.inl rfl) | exact Or.inr (Or.inr rfl))
    (hd : (x == ("__debug__" : Str)) = false := by decide) (hcd : (x == ("__classdict__" : Str)) = false := by decide)
    (ha : ∀ v, assign (.Subscript (.Name x xpos) b spos) X.env v = (do
      let ov ← holding [v] (eval (.Name x xpos) X.env)
      let iv ← holding [v, ov] (eval b X.env)
      standAt spos
      holding [v, ov, iv] (setItem ov iv v)
      release [v, ov, iv] []) := by intro _; rfl)
    (hs : swapsWithSole [.Subscript (.Name x xpos) b spos] e pos.line X.env = pure false := by rfl) (hw : swappedStores [.Subscript (.Name x xpos) b spos] e X.env = pure none := by rfl)
    (h1 : (assignEach [.Subscript (.Name x xpos) b spos] X.env).map (·.2) = [assign (.Subscript (.Name x xpos) b spos) X.env] := by rfl) :
    PS X (.Assign [.Subscript (.Name x xpos) b spos] e pos) (upS X.K m E (dStO i te tb)) :=
  PS.imp (ps_asg he (pg_sub (pv i hN hv hd hcd) hb set_list ha) hs hw h1) fun DD σ H h => by
    obtain ⟨F, ρ, s, dd, r, o, ht, f⟩ := h
    refine ⟨F, ρ, s, _, r, ht, fun d ρ1 s1 v F1 H1 ⟨⟨ds0, e0⟩, q1⟩ r1 st1 rv => ?_⟩
    obtain ⟨p, ho, h1, h2, ⟨vs0, rfl, hl0, rs0⟩, h4, h5⟩ := r1.own_at e0
    refine ⟨_, h1, F1, ρ1, s1, _, r1, q1, fun y ρ2 s2 u F2 H2 ⟨k, ds, j, ey, e2, ej, q2⟩ r2 st2 ru => ?_⟩
    subst ey
    cases ru
    obtain ⟨p', ho, g1, g2, ⟨vs, rfl, hl, rs⟩, g4, g5⟩ := r2.own_at e2
    rw [h1] at g1; cases g1
    refine ⟨p, vs, k, j, rfl, rfl, g2, by rw [rs.length]; exact ej, ?_⟩
    refine f.nx F2 _ σ _ s2 (st1.ext.trans st2.ext) (r2.write (o' := .lst (ds.set j d)) e2 h1 ⟨vs.set j v, rfl, by rw [List.length_set]; exact hl, rs.set (Rep.mono st2.ext _ _ rv) j⟩) (((o.stp st1).stp st2).write (K := X.K) e2 h1) q2
end

/-! ### further -/
section
variable {X : Cx} {m : Mem} {E : Ent m}
def dNever {m : Mem} : DTS m := fun _ _ _ => False
theorem ds_never {st : Stmt} : PS X st (upS X.K m E dNever) := PS.imp ps_never fun DD σ H h => by
  obtain ⟨F, ρ, s, dd, r, o, ht, f⟩ := h
  exact ht.elim
def powD : D → D → (D → Prop) → Prop
  | .int i, .int j, Q => CPow i j ∧ Q (.int (i ^ j.toNat))
  | _, _, _ => False
theorem o_pow {K : PySem.W.Frag} : Op2 K (rI CPow fun i j => .int (i ^ j.toNat)) powD := o_ints fun x y Qd h => by
  cases x with
  | int i => cases y with
    | int j => exact ⟨i, j, rfl, rfl, h.1, h.2⟩
    | _ => exact False.elim h
  | _ => cases y <;> exact False.elim h
theorem u64R {A : Around} {k : Nat} (hr : Room k A) : A.units + 64 < cLine := by have := hr.un; omega
theorem u64 {A : Around} {k : Nat} (hr : RoomG k A) : A.units + 64 < cLine := by have := hr.r.un; omega
theorem u65 {A : Around} {k : Nat} (hr : RoomG k A) : A.units + 65 < cLine := by have := hr.r.un; omega
end

/-! ### the deck: the draws of a script -/
structure DkS where
  adr : Option (Addr × Addr × Addr)
  n : Nat
def DkAt (H : Hp) (a b c : Addr) (n : Nat) : Prop := a ≠ b ∧ a ≠ c ∧ b ≠ c ∧ ∃ (big all : List Int) (t : Int), H a = some (.lst [.ref b, .ref c, .int t]) ∧ H b = some (.lst (big.map V.int)) ∧ H c = some (.lst (all.map V.int)) ∧ all ≠ [] ∧ all.length ≤ 1000 ∧ big.length ≤ 1000 ∧ 0 ≤ t ∧ t ≤ n
def Mem.deck : Mem where
  S := DkS
  M := fun s H => ∀ a b c, s.adr = some (a, b, c) → DkAt H a b c s.n
  R := fun s x => ∃ a b c, s.adr = some (a, b, c) ∧ (x = a ∨ x = b ∨ x = c)
  loc := fun s H H' h k a b c e => by
    obtain ⟨n1, n2, n3, big, all, t, h1, h2, h3, r⟩ := h a b c e
    exact ⟨n1, n2, n3, big, all, t, (k a ⟨a, b, c, e, .inl rfl⟩).trans h1, (k b ⟨a, b, c, e, .inr (.inl rfl)⟩).trans h2, (k c ⟨a, b, c, e, .inr (.inr rfl)⟩).trans h3, r⟩
  there := fun s H x h ⟨a, b, c, e, hx⟩ => by
    obtain ⟨n1, n2, n3, big, all, t, h1, h2, h3, r⟩ := h a b c e
    rcases hx with rfl | rfl | rfl
    · rw [h1]; simp
    · rw [h2]; simp
    · rw [h3]; simp
/-- how many draws there may be -/
abbrev drawLim : Nat := 2 ^ 60
/-- a draw: a number below many -/
def spNext : DSp Mem.deck := fun ds s Q => ∃ a b c n, s.adr = some (a, b, c) ∧ ds = [.any (.ref a), .int n] ∧ 0 < n ∧ n < 1073741824 ∧ s.n < drawLim ∧ ∀ (r : Int) (k : Nat), 0 ≤ r → r < n → k = s.n + 1 → Q (.int r) ⟨s.adr, k⟩
theorem spNext_len : ∀ ds s Qd, spNext ds s Qd → ds.length = 2 := fun ds s Qd ⟨_, _, _, _, _, e, _⟩ => by rw [e]; rfl
/-- the deck of a script -/
def spDeck : DSp Mem.deck := fun ds s Q => ∃ ns : List Int, ds = [.fz (ns.map .int)] ∧ ns.length ≤ 63 ∧ s.adr = none ∧ ∀ a b c, Q (.any (.ref a)) ⟨some (a, b, c), s.n⟩
theorem spDeck_len : ∀ ds s Qd, spDeck ds s Qd → ds.length = 1 := fun ds s Qd ⟨_, e, _⟩ => by rw [e]; rfl
def absI (i : Int) : Int := if i < 0 then -i else i
theorem ix0 (x : Int) (bg : List Int) : ixN (((x :: bg).map V.int).length) 0 = some 0 := by
  unfold ixN
  rw [if_pos (by decide), if_pos (by rw [List.length_map, List.length_cons]; omega)]
  rfl
end DL

set_option Elab.async false
set_option linter.all false
set_option maxRecDepth 100000
namespace DL
open PySem PySem.Spec PyProof.Rows L2 TL

section
variable {X : Cx} {m : Mem} {pos : Pos}
theorem de_globI {x : Str} {i : Int} (hg : Gl X x) (hm : ∃ t, X.mg x = some (.int i t)) (hd : (x == ("__debug__" : Str)) = false := by decide) : PE X (.Name x pos) (up X.K m (dC (.int i))) := by
  obtain ⟨t, hm⟩ := hm
  exact de_glob (v := .int i) hg hm ⟨_, rfl⟩ (fun _ => rfl) hd
end
/-- the law's own promise -/
def spLaw : DSp Mem.deck := fun ds s Q => ∃ ns : List Int, ds = [.fz (ns.map .int)] ∧ ns.length ≤ 63 ∧ s.adr = none ∧ s.n = 0 ∧ ∀ s', Q (.bl true) s'
theorem spLaw_len : ∀ ds s Qd, spLaw ds s Qd → ds.length = 1 := fun ds s Qd ⟨_, e, _⟩ => by rw [e]; rfl
theorem law_start {K : PySem.W.Frag} {H : Hp} {a : Addr} {ns : List Int} {E : XK} (hl : ns.length ≤ 63) (hO : Only H) (hS : SqL K H a (ns.map V.int)) : lift K Mem.deck 1 spLaw [.ref a] H (fun v _ => v = .bl true) E := by
  refine ⟨rfl, H, [.fz (ns.map .int)], ⟨none, 0⟩, fun d _ => d = .bl true, Same.refl H, (fun _ _ _ e => by cases e), (fun x ⟨_, _, _, e, _⟩ => by cases e), .one ⟨a, _, rfl, hS, ?_, reps_of_ints ns⟩, ⟨ns, rfl, hl, rfl, rfl, fun _ => rfl⟩, fun d s' v F' H' e _ rv => ?_⟩
  · rw [List.length_map]; exact Nat.le_of_lt (small1000 (by omega))
  · subst e; exact rv

/-! ### small facts -/
theorem pick_ints (l : List Int) (r : Int) (h0 : 0 ≤ r) (h1 : r < (l.length : Nat)) : ∃ k ∈ l, atI (l.map D.int) r = some (.int k) := by
  obtain ⟨j, hj⟩ : ∃ j : Nat, r = (j : Int) := ⟨r.toNat, by omega⟩
  subst hj
  have hj2 : j < l.length := by omega
  exact ⟨l[j], List.getElem_mem hj2, atI_nat (by rw [List.getElem?_map, List.getElem?_eq_getElem hj2]; rfl)⟩
theorem pick_any {α : Type} (l : List α) (r : Int) (h0 : 0 ≤ r) (h1 : r < (l.length : Nat)) : ∃ k ∈ l, atI l r = some k := by
  obtain ⟨j, hj⟩ : ∃ j : Nat, r = (j : Int) := ⟨r.toNat, by omega⟩
  subst hj
  have hj2 : j < l.length := by omega
  exact ⟨l[j], List.getElem_mem hj2, atI_nat (List.getElem?_eq_getElem hj2)⟩
theorem pick_map {α : Type} (f : α → D) (l : List α) (r : Int) (h0 : 0 ≤ r) (h1 : r < (l.length : Nat)) : ∃ k ∈ l, atI (l.map f) r = some (f k) := by
  obtain ⟨d, hd, e⟩ := pick_any (l.map f) r h0 (by rw [List.length_map]; exact h1)
  obtain ⟨k, hk, rfl⟩ := List.mem_map.mp hd
  exact ⟨k, hk, e⟩
/-- one letter -/
def one (c : Nat) : Str := ⟨#[c]⟩
theorem tl_one (c : Nat) : tl (one c) = [c] := rfl
theorem join0 (ls : List Nat) : tl (joinS ⟨#[]⟩ (ls.map one)) = ls := by
  show tl (Str.join ⟨#[]⟩ (ls.map one)) = ls
  rw [tl_join, List.map_map]
  show joinL [] (ls.map fun c => [c]) = ls
  have h : ∀ l : List Nat, joinL [] (l.map fun c => [c]) = l := fun l => by
    induction l with
    | nil => rfl
    | cons a r ih =>
      cases r with
      | nil => rfl
      | cons b t =>
        show [a] ++ ([] ++ joinL [] ((b :: t).map fun c => [c])) = a :: b :: t
        rw [ih]
        rfl
  exact h ls
theorem letters_tl : tl ("abcdefghijklmnopqrstuvwxyz" : Str) = [97, 98, 99, 100, 101, 102, 103, 104, 105, 106, 107, 108, 109, 110, 111, 112, 113, 114, 115, 116, 117, 118, 119, 120, 121, 122] := by decide +kernel
theorem letter_at {r : Int} (h0 : 0 ≤ r) (h1 : r < 26) : ∃ c, 97 ≤ c ∧ c ≤ 122 ∧ atI (tl ("abcdefghijklmnopqrstuvwxyz" : Str)) r = some c := by
  rw [letters_tl]
  obtain ⟨c, hc, e⟩ := pick_any [97, 98, 99, 100, 101, 102, 103, 104, 105, 106, 107, 108, 109, 110, 111, 112, 113, 114, 115, 116, 117, 118, 119, 120, 121, 122] r h0 h1
  have hall : ∀ c ∈ [97, 98, 99, 100, 101, 102, 103, 104, 105, 106, 107, 108, 109, 110, 111, 112, 113, 114, 115, 116, 117, 118, 119, 120, 121, 122], 97 ≤ c ∧ c ≤ 122 := by decide
  exact ⟨c, (hall c hc).1, (hall c hc).2, e⟩
/-- a name: one to eight letters -/
def NameOk (x : Str) : Prop := 1 ≤ x.length ∧ x.length ≤ 8 ∧ ∀ c ∈ tl x, 97 ≤ c ∧ c ≤ 122
theorem NameOk.sok {x : Str} (h : NameOk x) : sOk x = true := sOk_of (Nat.le_trans h.2.1 (by decide)) fun c hc => by
  have := h.2.2 c hc
  omega
theorem nameOk_of {ls : List Nat} (h1 : 1 ≤ ls.length) (h8 : ls.length ≤ 8) (h : ∀ c ∈ ls, 97 ≤ c ∧ c ≤ 122) : NameOk (joinS ⟨#[]⟩ (ls.map one)) := by
  have e := join0 ls
  exact ⟨by rw [len_tl, e]; exact h1, by rw [len_tl, e]; exact h8, by rw [e]; exact h⟩
theorem sum_ones (ls : List Nat) : ((ls.map one).map (·.length)).sum = ls.length := by
  induction ls with
  | nil => rfl
  | cons a r ih => rw [List.map_cons, List.map_cons, List.sum_cons, ih, List.length_cons]; show 1 + r.length = _; omega

/-! ### what the law's own defs promise -/
def spName : DSp Mem.deck := fun ds s Q => ∃ a b c, s.adr = some (a, b, c) ∧ ds = [.any (.ref a)] ∧ s.n + 20 < drawLim ∧ ∀ x k, NameOk x → k ≤ s.n + 20 → Q (.str x) ⟨s.adr, k⟩
theorem spName_len : ∀ ds s Qd, spName ds s Qd → ds.length = 1 := fun ds s Qd ⟨_, _, _, _, e, _⟩ => by rw [e]; rfl
def spPool : DSp Mem.deck := fun ds s Q => ∃ a b c n, s.adr = some (a, b, c) ∧ ds = [.any (.ref a), .int n] ∧ 2 ≤ n ∧ n ≤ 10 ∧ s.n + 300 < drawLim ∧ ∀ (xs : List Str) k, (xs.length : Nat) = n.toNat → (∀ x ∈ xs, NameOk x) → k ≤ s.n + 300 → Q (.lst (xs.map .str)) ⟨s.adr, k⟩
theorem spPool_len : ∀ ds s Qd, spPool ds s Qd → ds.length = 2 := fun ds s Qd ⟨_, _, _, _, _, e, _⟩ => by rw [e]; rfl
/-- a path: names of a pool with dots between -/
def PathOf (pool : List Str) (most : Int) (x : Str) : Prop := ∃ ns : List Str, 1 ≤ ns.length ∧ (ns.length : Int) ≤ most ∧ (∀ y ∈ ns, y ∈ pool) ∧ x = joinS ⟨#[46]⟩ ns
def spPath : DSp Mem.deck := fun ds s Q => ∃ a b c pool most, s.adr = some (a, b, c) ∧ ds = [.any (.ref a), .lst (pool.map .str), .int most] ∧ 1 ≤ most ∧ most ≤ 10 ∧ 0 < pool.length ∧ pool.length ≤ 100 ∧ (∀ x ∈ pool, x.length ≤ 8) ∧ s.n + 20 < drawLim ∧
  ∀ x k, PathOf pool most x → k ≤ s.n + 20 → Q (.str x) ⟨s.adr, k⟩
theorem spPath_len : ∀ ds s Qd, spPath ds s Qd → ds.length = 3 := fun ds s Qd ⟨_, _, _, _, _, _, e, _⟩ => by rw [e]; rfl
theorem sum_le8 {ns : List Str} (h : ∀ y ∈ ns, y.length ≤ 8) : (ns.map (·.length)).sum ≤ 8 * ns.length := by
  induction ns with
  | nil => exact Nat.zero_le _
  | cons a r ih =>
    have h1 := h a List.mem_cons_self
    have h2 := ih fun y hy => h y (List.mem_cons_of_mem _ hy)
    rw [List.map_cons, List.sum_cons, List.length_cons]
    omega
theorem joinS_len {z : Str} {ns : List Str} : (joinS z ns).length ≤ (ns.map (·.length)).sum + ns.length * z.length := by
  rw [len_tl]
  show (tl (Str.join z ns)).length ≤ _
  rw [tl_join]
  refine Nat.le_trans (joinL_len _ _) ?_
  rw [List.map_map, List.length_map, ← len_tl]
  have e : ns.map (List.length ∘ tl) = ns.map (·.length) := List.map_congr_left fun y _ => (len_tl y).symm
  rw [e]
  exact Nat.le_refl _
theorem PathOf.len {pool : List Str} {most : Int} {x : Str} (h : PathOf pool most x) (hp : ∀ y ∈ pool, y.length ≤ 8) (hm : most ≤ 10) : x.length ≤ 90 := by
  obtain ⟨ns, h1, h2, h3, rfl⟩ := h
  have q1 := joinS_len (z := ⟨#[46]⟩) (ns := ns)
  have q2 := sum_le8 fun y hy => hp y (h3 y hy)
  have q3 : (⟨#[46]⟩ : Str).length = 1 := rfl
  rw [q3] at q1
  omega

/-! ### paths of the program -/
def dot : Str := ⟨#[46]⟩
def coversS (p o : Str) : Bool := o == p || Txt.startswith o (p ++ dot)
/-- .. as the law reads it -/
def lcov (p o : Str) : Bool := (splS 46 o).take (splS 46 p).length == splS 46 p
def spCovers {m : Mem} : DSp m := fun ds s Q => ∃ p o : Str, ds = [.str p, .str o] ∧ p.length ≤ 1000 ∧ Q (.bl (coversS p o)) s
theorem spCovers_len {m : Mem} : ∀ ds s Qd, (spCovers : DSp m) ds s Qd → ds.length = 2 := fun ds s Qd ⟨_, _, e, _⟩ => by rw [e]; rfl
def spLcov {m : Mem} : DSp m := fun ds s Q => ∃ p o : Str, ds = [.str p, .str o] ∧ Q (.bl (lcov p o)) s
theorem spLcov_len {m : Mem} : ∀ ds s Qd, (spLcov : DSp m) ds s Qd → ds.length = 2 := fun ds s Qd ⟨_, _, e, _⟩ => by rw [e]; rfl
def optS : Option Str → D
  | none => .non
  | some x => .str x
def spCovered {m : Mem} : DSp m := fun ds s Q => ∃ (ps : List Str) (x : Str), ds = [.tup (ps.map .str), .str x] ∧ (∀ p ∈ ps, p.length ≤ 1000) ∧ Q (optS (ps.find? fun p => coversS p x)) s
theorem spCovered_len {m : Mem} : ∀ ds s Qd, (spCovered : DSp m) ds s Qd → ds.length = 2 := fun ds s Qd ⟨_, _, e, _⟩ => by rw [e]; rfl
/-- the law's _same for texts and None -/
def spSame0 {m : Mem} : DSp m := fun ds s Q => ∃ x y : Option Str, ds = [optS x, optS y] ∧ Q (.bl (decide (x = y))) s
theorem spSame0_len {m : Mem} : ∀ ds s Qd, (spSame0 : DSp m) ds s Qd → ds.length = 2 := fun ds s Qd ⟨_, _, e, _⟩ => by rw [e]; rfl
end DL

set_option Elab.async false
set_option linter.all false
set_option maxRecDepth 100000
/-! DX: own exception classes (over any of the built-in ones): made as values, their fields stored and read, isinstance of them. -/
namespace DL
open PySem PySem.Spec PyProof.Rows L2
/-- what the written part says of an own exception class -/
structure XC (K : PySem.W.Frag) (C : Addr) : Prop where
  base : ∃ B newId initId bmB, ExcBaseFacts B newId initId bmB ∧ StoreFacts B bmB "object.__setattr__" "object" ∧ PySem.W.excInitIn K C bmB newId = true ∧ PySem.W.excOver K C bmB = true
  sa : PySem.W.findIn K (.ref C) "__setattr__" = some (some (.builtin "object.__setattr__"))
  ga : PySem.W.findIn K (.ref C) "__getattribute__" = some (some (.builtin "BaseException.__getattribute__"))
  gg : PySem.W.findIn K (.ref C) "__getattr__" = some none
  sb : PySem.W.subIn K (.ref C) (.type "BaseException") = some true
  kC : PySem.W.keepIn K (.ref C) = true
  hd : PySem.W.hasDictIn K C = true
  cl : PySem.W.findIn K (.ref C) "__class__" = some (some (.builtin "object.__class__"))
  mr : PySem.W.mroIn K C (.type "object") = some true
  gn : PySem.W.specialIn K (.builtin "object.__class__") "__get__" = some (some (.builtin "getset_descriptor.__get__"))
  gt : PySem.W.takesIn K (.builtin "object.__class__") = some true
/-- .. in one look -/
def xcB (K : PySem.W.Frag) (C : Addr) (bmB : List Value) (newId : String) : Bool :=
  PySem.W.excInitIn K C bmB newId && (PySem.W.excOver K C bmB && (decide (PySem.W.findIn K (.ref C) "__setattr__" = some (some (.builtin "object.__setattr__"))) && (decide (PySem.W.findIn K (.ref C) "__getattribute__" = some (some (.builtin "BaseException.__getattribute__"))) &&
  (decide (PySem.W.findIn K (.ref C) "__getattr__" = some none) && (decide (PySem.W.subIn K (.ref C) (.type "BaseException") = some true) && (PySem.W.keepIn K (.ref C) && (PySem.W.hasDictIn K C && (decide (PySem.W.findIn K (.ref C) "__class__" = some (some (.builtin "object.__class__"))) &&
  (decide (PySem.W.mroIn K C (.type "object") = some true) && (decide (PySem.W.specialIn K (.builtin "object.__class__") "__get__" = some (some (.builtin "getset_descriptor.__get__"))) && decide (PySem.W.takesIn K (.builtin "object.__class__") = some true)))))))))))
theorem xc_of {K : PySem.W.Frag} {C : Addr} {B newId initId : String} {bmB : List Value} (F : ExcBaseFacts B newId initId bmB) (S : StoreFacts B bmB "object.__setattr__" "object") (h : xcB K C bmB newId = true) : XC K C := by
  unfold xcB at h
  simp only [Bool.and_eq_true, decide_eq_true_eq] at h
  obtain ⟨h1, h2, h3, h4, h5, h6, h7, h8, h9, h10, h11, h12⟩ := h
  exact ⟨⟨B, newId, initId, bmB, F, S, h1, h2⟩, h3, h4, h5, h6, h7, h8, h9, h10, h11, h12⟩
abbrev bmV : List Value := [.type "ValueError", .type "Exception", .type "BaseException", .type "object"]
abbrev bmL : List Value := [.type "LookupError", .type "Exception", .type "BaseException", .type "object"]
section
variable {X : Cx} {pins : List (Addr × Obj)} {σ : L2.St} {H : Hp} {s : Shared} {a C dx : Addr} {f : Str} {y : V} {u : Value} {fs : List (Str × V)} {Q : Unit → Shared → Prop} {E : Value → Shared → Prop} {A : Around}
abbrev exObj (C t1 : Addr) (d : Option Addr) : Obj := { cls := .ref C, dict := d, data := .fields #[.ref t1, .none, .none, .none, .bool false, .none] }
/-- the first field stored -/
theorem xst_new (T : XC X.K C) (I : Inv X pins σ H s) (e : H a = some (exo a C none)) (no : PySem.W.findIn X.K (.ref C) f = some none) (ry : RelV y u)
    (h : ∀ dx s', H dx = none → dx ≠ a → Inv X pins σ (upd (upd H dx (exd dx [(f, y)])) a (exo a C (some dx))) s' → Q () s') : wpAny (model X.prog X.w) A (setAttr (.ref a) f u) Q E s := by
  obtain ⟨B, newId, initId, bmB, FB, SF, ci, ov⟩ := T.base
  obtain ⟨t1, ho⟩ := exo_at I.hok e
  obtain ⟨cd, hc, hd'⟩ := PySem.W.any_some T.hd
  obtain ⟨hp, g, d, t, os⟩ := s
  have K0 := I.kIn
  have la : a < hp.objs.size := Heap.lt_size ho
  have nf : H hp.objs.size = none := I.hok.fresh (Nat.le_refl _)
  refine PySem.W.set_plain K0 (ox := exObj C t1 none) (od := none) ⟨ho, rfl, rfl, trivial⟩ T.sa ?_
  refine PySem.W.osa_openX (s := ⟨hp, g, d, t + 1, os⟩) (od := none) SF K0 ⟨ho, rfl, rfl, trivial⟩ ov (by unfold PySem.W.takerIn; rw [no]; rfl) fun b => ?_
  refine wpAny_bind (wpAny_pure (wpAny_bind (PySem.W.instanceDict_exc (s := ⟨hp, g, d, t + 1, os⟩) (t := t1) (c2 := .none) ho (PySem.W.looks_clsIn K0 hc) hd' ?_)))
  have hne : hp.objs.size ≠ a := Nat.ne_of_gt la
  have d0 : ((hp.push (PySem.W.dictOf [] 0)).update a fun o => { o with dict := some hp.objs.size }).Ns1 hp.objs.size (fun _ => none) :=
    ⟨_, #[], _, (Heap.get?_update_ne _ _ _ _ hne).trans (Heap.get?_push_at rfl rfl), rfl, fun q hq => absurd hq (by simp), List.Pairwise.nil, fun _ => rfl⟩
  refine PySem.OEX.store_in_old (ns := []) d0 (fun q hq => absurd rfl hq) (by simp) fun h' tk' hn' sb => ?_
  have oldA : (hp.push (PySem.W.dictOf [] 0)).get? a = some (exObj C t1 none) := Heap.get?_push_of_some _ ho
  have newA : h'.get? a = some (exObj C t1 (some hp.objs.size)) := (sb.2 a (Ne.symm hne)).trans (Heap.get?_update_self _ oldA rfl)
  have old : ∀ b o, b ≠ a → hp.get? b = some o → h'.get? b = some o := fun b o hb q => by
    have hb2 : b ≠ hp.objs.size := Nat.ne_of_lt (Heap.lt_size q)
    exact (sb.2 b hb2).trans ((Heap.get?_update_ne _ _ _ _ hb).trans (Heap.get?_push_of_some _ q))
  -- first the dict alone, the object as it was
  have g0 : ∀ b o, hp.get? b = some o → (h'.update a fun _ => exObj C t1 none).get? b = some o := fun b o q => by
    by_cases hb : b = a
    · subst hb
      have z : o = exObj C t1 none := Option.some.inj (q.symm.trans ho)
      rw [z]
      exact Heap.get?_update_self _ newA rfl
    · rw [Heap.get?_update_ne _ _ _ _ hb]; exact old b o hb q
  have n0 : (h'.update a fun _ => exObj C t1 none).Ns1 hp.objs.size (fun y => if y = f then some u else none) := hn'.at fun o q => by
    rw [Heap.get?_update_ne _ _ _ _ hne]; exact q
  have I1 : Inv X pins σ (upd H hp.objs.size (exd hp.objs.size [(f, y)])) ⟨h'.update a fun _ => exObj C t1 none, g, d, tk', os⟩ :=
    I.laid (t' := tk') g0 (Nat.le_refl _) (exd_ok n0 (relO_put (fs := []) ry fun g => True.intro))
  have e1 : upd H hp.objs.size (exd hp.objs.size [(f, y)]) a = some (exo a C none) := by rw [upd_ne (Ne.symm hne)]; exact e
  have I2 : Inv X pins σ (upd (upd H hp.objs.size (exd hp.objs.size [(f, y)])) a (exo a C (some hp.objs.size))) ⟨h', g, d, tk', os⟩ :=
    I1.write (t' := tk') (x := a) (e := a) (o := exo a C (some hp.objs.size)) (by rw [e1]; exact True.intro) (.inl rfl) (fun b o hb q => by
      have q' : (h'.update a fun _ => exObj C t1 none).get? b = some o := q
      rw [Heap.get?_update_ne _ _ _ _ hb] at q'; exact q') ⟨_, newA⟩ (exo_ok newA)
  exact h _ _ nf hne I2
/-- a further field stored -/
theorem xst_old (T : XC X.K C) (I : Inv X pins σ H s) (e : H a = some (exo a C (some dx))) (ed : H dx = some (exd dx fs)) (hl : fs.length ≤ 900) (no : PySem.W.findIn X.K (.ref C) f = some none) (ry : RelV y u)
    (h : ∀ s', Inv X pins σ (upd H dx (exd dx ((f, y) :: fs))) s' → Q () s') : wpAny (model X.prog X.w) A (setAttr (.ref a) f u) Q E s := by
  obtain ⟨B, newId, initId, bmB, FB, SF, ci, ov⟩ := T.base
  obtain ⟨t1, ho⟩ := exo_at I.hok e
  obtain ⟨mA, hns, rel⟩ := exd_at I.hok ed
  obtain ⟨cd, hc, hd'⟩ := PySem.W.any_some T.hd
  have wi := within_of rel
  obtain ⟨hp, g, d, t, os⟩ := s
  have K0 := I.kIn
  obtain ⟨oD, es, ep, hoD, _⟩ := id hns
  refine PySem.W.set_plain K0 (ox := exObj C t1 (some dx)) (od := some oD) ⟨ho, rfl, rfl, hoD⟩ T.sa ?_
  refine PySem.W.osa_openX (s := ⟨hp, g, d, t + 1, os⟩) (od := some oD) SF K0 ⟨ho, rfl, rfl, hoD⟩ ov (by unfold PySem.W.takerIn; rw [no]; rfl) fun b => ?_
  refine wpAny_bind (wpAny_pure (wpAny_bind (wpAny_bind (wpAny_loadPart ho (wpAny_bind ((PySem.W.looks_clsIn K0 hc).at ?_))))))
  rw [hd']
  refine wpAny_pure (a := some dx) ?_
  refine PySem.OEX.store_in_old (ns := fs.map (·.1)) hns wi (by rw [List.length_map]; omega) fun h' tk' hn' sb => ?_
  obtain ⟨o', _, _, ho', _⟩ := id hn'
  exact h _ (I.write (t' := tk') (x := dx) (e := dx) (o := exd dx ((f, y) :: fs)) (by rw [ed]; exact True.intro) (.inl rfl) (fun b o hb q => (sb.2 b hb).trans q) ⟨_, ho'⟩ (exd_ok hn' (relO_put ry rel)))
end
/-! ### __init__: self.f = e -/
def tXst (K : PySem.W.Frag) (f : Str) (to te : TE) : TS := fun D σ H => te σ H fun y H1 => to σ H1 fun x H2 => ∃ a C : Addr, x = .ref a ∧ XC K C ∧ PySem.W.findIn K (.ref C) f = some none ∧
  ((H2 a = some (exo a C none) ∧ ∀ dx, H2 dx = none → dx ≠ a → D.nx σ (upd (upd H2 dx (exd dx [(f, y)])) a (exo a C (some dx)))) ∨
    ∃ (dx : Addr) (fs : List (Str × V)), H2 a = some (exo a C (some dx)) ∧ H2 dx = some (exd dx fs) ∧ fs.length ≤ 900 ∧ D.nx σ (upd H2 dx (exd dx ((f, y) :: fs))))
section
variable {X : Cx} {o e : Expr} {es : List Expr} {to te : TE} {ta : TA} {f x : Str} {p p' pos : Pos} {C : Addr}
theorem ps_xst (ho : PE X o to) (he : PE X e te) (hs : swapsWith e (some (.Attribute o f p')) pos.line X.env = pure false := by rfl) : PS X (.Assign [.Attribute o f p'] e pos) (tXst X.K f to te) :=
  ⟨fun pins s σ H D I h => plainObj_wpAny_Assign_Attribute (thn (he.run pins s σ H _ I h) fun v s1 ⟨y, H1, I1, r1, q1⟩ => thn (ho.run pins s1 σ H1 _ I1 q1) fun u s2 ⟨x, H2, I2, r2, a, C, ex, T, no, q⟩ => by
    subst ex
    have eu : u = Value.ref a := r2
    subst eu
    rcases q with ⟨ea, q⟩ | ⟨dx, fs, ea, ed, hl, q⟩
    · exact xst_new T I2 ea no r1 fun dx s' n ne J => ⟨σ, _, J, q dx n ne⟩
    · exact xst_old T I2 ea ed hl no r1 fun s' J => ⟨σ, _, J, q⟩) hs⟩
/-- the promise of such an __init__: of one field, of two -/
def spIn1 (C : Addr) (f : Str) : Sp := fun vs H Q _ => ∃ (a : Addr) (v : V), vs = [.ref a, v] ∧ H a = some (exo a C none) ∧ ∀ dx, H dx = none → dx ≠ a → Q .non (upd (upd H dx (exd dx [(f, v)])) a (exo a C (some dx)))
def spIn2 (C : Addr) (f g : Str) : Sp := fun vs H Q _ => ∃ (a : Addr) (v w : V), vs = [.ref a, v, w] ∧ H a = some (exo a C none) ∧
  ∀ dx, H dx = none → dx ≠ a → Q .non (upd (upd (upd H dx (exd dx [(f, v)])) a (exo a C (some dx))) dx (exd dx [(g, w), (f, v)]))
/-! ### C(e, ..) as a value -/
def tMkX (C : Addr) (sp : Sp) (ta : TA) : TE := fun σ H Q => ta σ H fun vs H1 => vs.length ≤ 1000 ∧ ∀ a, H1 a = none → sp (.ref a :: vs) (upd H1 a (exo a C none)) (fun v H2 => v = .non ∧ Q (.ref a) H2) E0
theorem pe_mkx {k : Nat} {fI : Addr} {fd : FuncData} {ps : List Str} {sp : Sp} (T : XC X.K C) (iC : PySem.W.findIn X.K (.ref C) "__init__" = some (some (.ref fI))) (tI : PySem.W.typeIn X.K (.ref fI) = some (.type "function"))
    (G : FnG X.prog X.w X.K X.mg X.base CX0 k fI fd ps sp) (hr : RoomG (k + 1) X.A) (hb : Binds X.K fd ps []) (hg : Gl X x) (hm : X.mg x = some (.ref C)) (ha : PA X (e :: es) ta)
    (hdb : (x == ("__debug__" : Str)) = false := by decide) (he : starEach (e :: es) X.env = (false, eval e X.env) :: starEach es X.env := by rfl) (hpl : (backTo pos (starEach es X.env)).any (·.1) = false := by rfl) :
    PE X (.Call (.Name x p) (e :: es) [] pos) (tMkX C sp ta) := by
  obtain ⟨B, newId, initId, bmB, FB, SF, ci, ov⟩ := T.base
  refine ⟨fun pins s σ H Q I h => wpAny_Call_Name_kw (ld_glob I hg hm (PySem.W.callWith_K (h₀ := X.base) I.ok.mod.kin T.kC (thn (ha.run pos pins s σ H _ I h) fun us s1 ⟨vs, H1, I1, rv, hz, q⟩ => ⟨I1.kIn, ?_⟩) he hpl) hdb)⟩
  have K1 := I1.kIn
  obtain ⟨nm, N', qn, bs, bm, hdct, sn, sub, ab, col, dd, k0, k1, k2, k3, k5, hC, hT⟩ := PySem.W.excInit_of K1 ci
  obtain ⟨hp, g, dr, tk, os⟩ := s1
  have big : hp.objs.size ≤ hp.objs.size + 1 := Nat.le_succ _
  have free : H1 (hp.objs.size + 1) = none := I1.hok.fresh big
  have hq := q (hp.objs.size + 1) free
  have keeps : ∀ b o, hp.get? b = some o → ((hp.push (PySem.W.kdv_tup us)).push (PySem.HandSPX.excO C hp.objs.size)).get? b = some o := fun b o z => Heap.get?_push_of_some _ (Heap.get?_push_of_some _ z)
  have there : ((hp.push (PySem.W.kdv_tup us)).push (PySem.HandSPX.excO C hp.objs.size)).get? (hp.objs.size + 1) = some (PySem.HandSPX.excO C hp.objs.size) := by heap_get
  have J : Inv X pins σ (upd H1 (hp.objs.size + 1) (exo (hp.objs.size + 1) C none)) ⟨(hp.push (PySem.W.kdv_tup us)).push (PySem.HandSPX.excO C hp.objs.size), g, dr, tk, os⟩ :=
    I1.laid (t' := tk) keeps big (exo_ok there)
  have rr : Vals (V.ref (hp.objs.size + 1) :: vs) (Value.ref (hp.objs.size + 1) :: us) := .cons rfl rv
  have many : ((Value.ref (hp.objs.size + 1) :: us) ++ []).length = ps.length := by
    rw [List.append_nil, ← rr.length]
    exact G.len _ _ _ _ hq
  have few : us.length ≤ sizeLine := by
    rw [← rv.length]
    exact Nat.le_trans hz (by rw [sizeLine_eq]; decide)
  have bd := hb _ (Value.ref (hp.objs.size + 1) :: us) J.kIn many
  rw [List.append_nil] at bd
  refine wpAny_call (PySem.HandSPX.call_own FB hT hC (PySem.W.looks_findIn K1 iC) (fun self => PySem.W.bind_fn K1 self tI) few
    (codeAny_mono (G.run _ X.stack _ _ ⟨Value.ref (hp.objs.size + 1) :: us, []⟩ (Value.ref (hp.objs.size + 1) :: us) _ _ E0 (hr.make C us []) (J.env0.make C us []) bd rr hq) fun r s' z => ?_))
  rcases r with er | (_ | _ | _ | u)
  · exact z.elim
  · exact z.elim
  · exact z.elim
  · exact z.elim
  · obtain ⟨v, H', J', r', ev, q2⟩ := J.after z
    subst ev
    exact ⟨r', ⟨.ref (hp.objs.size + 1), H', J', rfl, q2⟩⟩
/-- C(), a class without __init__ of its own -/
theorem pe_mkx0 {B newId initId : String} {bmB : List Value} (T : XC X.K C) (FB : ExcBaseFacts B newId initId bmB) (ei : PySem.W.excIn X.K C bmB newId = true) (hg : Gl X x) (hm : X.mg x = some (.ref C)) (hdb : (x == ("__debug__" : Str)) = false := by decide) :
    PE X (.Call (.Name x p) [] [] pos) (fun σ H Q => ∀ a, H a = none → Q (.ref a) (upd H a (exo a C none))) := by
  refine ⟨fun pins s σ H Q I h => wpAny_Call_Name_kw (ld_glob I hg hm (PySem.W.callWith_K0 I.kIn T.kC ?_) hdb)⟩
  obtain ⟨bm, N', nm, qn, bs, hdct, sn, sub, ab, col, dd, k0, k1, k2, k3, k5, mN, hC, hN, hni, OT⟩ := exc_obj I.kIn ei
  refine wpAny_call_exc_subT FB OT hC hN hni (fun h' a md => ?_) (by rw [sizeLine_eq]; decide)
  obtain ⟨t, there, _, _⟩ := md.there
  have free : H a = none := I.hok.gone md.new
  exact ⟨.ref a, _, I.laidN md.keeps md.new free (exo_ok there), rfl, h a free⟩
/-! ### e.f -/
def tXfl (K : PySem.W.Frag) (f : Str) (te : TE) : TE := fun σ H Q => te σ H fun x H1 => ∃ (a C d : Addr) (fs : List (Str × V)) (v : V), x = .ref a ∧ XC K C ∧ PySem.W.findIn K (.ref C) f = some none ∧ H1 a = some (exo a C (some d)) ∧ H1 d = some (exd d fs) ∧ fs.lookup f = some v ∧ Q v H1
theorem pe_xfl (he : PE X e te) (hb : attributeBase e f X.env (eval e X.env) = eval e X.env := by rfl) : PE X (.Attribute e f pos) (tXfl X.K f te) :=
  ⟨fun pins s σ H Q I h => attr_of hb (thn (he.run pins s σ H _ I h) fun u s1 ⟨x, H1, I1, rx, a, C, d, fs, v, ex, T, no, ea, ed, l, q⟩ => by
    subst ex
    have eu : u = Value.ref a := rx
    subst eu
    obtain ⟨t1, ho⟩ := exo_at I1.hok ea
    obtain ⟨mA, hns, rel⟩ := exd_at I1.hok ed
    obtain ⟨od, hd, hl⟩ := lookIn_ns hns
    obtain ⟨w, hw, rw'⟩ := RelO.some_of (v := v) (o := mA f) (by rw [← l]; exact rel f)
    have J : PySem.W.InstAt s1.heap a (exObj C t1 (some d)) C (some od) := ⟨ho, rfl, rfl, hd⟩
    exact PySem.HandSPX.exc_get I1.kIn J T.ga T.gg T.sb (PySem.W.findObj_own T.hd no rfl (by rw [hl, hw])) (handed_of rw') ⟨v, H1, I1.tok _, rw', q⟩)⟩
/-! ### isinstance(e, c), isinstance(e, (c, ..)) -/
theorem exo_look {pins : List (Addr × Obj)} {σ : L2.St} {H : Hp} {s : Shared} {a : Addr} {d : Option Addr} {fs : List (Str × V)} (I : Inv X pins σ H s) (T : XC X.K C) (ea : H a = some (exo a C d)) (ed : ∀ x, d = some x → H x = some (exd x fs)) :
    ∃ ox od, PySem.W.InstAt s.heap a ox C od ∧ PySem.W.KitX X.K (.ref a) (.ref C) (fun h => PySem.W.InstAt h a ox C od) := by
  obtain ⟨t1, ho⟩ := exo_at I.hok ea
  obtain ⟨cd, hc, _⟩ := PySem.W.any_some T.hd
  have kx : ∀ od, PySem.W.KitX X.K (.ref a) (.ref C) (fun h => PySem.W.InstAt h a (exObj C t1 d) C od) := fun od => PySem.W.kitx_exc (by rw [hc]; rfl) T.ga T.gg T.sb T.cl T.gn T.gt T.mr
  cases d with
  | none => exact ⟨_, none, ⟨ho, rfl, rfl, trivial⟩, kx none⟩
  | some x =>
    obtain ⟨mA, hns, _⟩ := exd_at I.hok (ed x rfl)
    obtain ⟨od, hd, _⟩ := lookIn_ns hns
    exact ⟨_, some od, ⟨ho, rfl, rfl, hd⟩, kx (some od)⟩
def ExAt (K : PySem.W.Frag) (H : Hp) (a C : Addr) : Prop := XC K C ∧ ∃ d fs, H a = some (exo a C d) ∧ ∀ x, d = some x → H x = some (exd x fs)
def rIsX (K : PySem.W.Frag) : List V → Hp → VK → Prop := fun xs H Q => ∃ (a C : Addr) (c : V) (u : Value) (b : Bool), xs = [.ref a, c] ∧ ExAt K H a C ∧ ClsV c u ∧ PySem.W.kitOne K (.ref C) u = some b ∧ Q (.bl b) H
def rIsXT (K : PySem.W.Frag) : List V → Hp → VK → Prop := fun xs H Q => ∃ (a C tp : Addr) (cs : List V) (us : List Value) (b : Bool), xs = [.ref a, .ref tp] ∧ ExAt K H a C ∧ H tp = some (.tup cs) ∧ Paired ClsV cs us ∧ PySem.W.kitAny K (.ref C) us = some b ∧ Q (.bl b) H
theorem call_isX : CallR X (.builtin "isinstance") (rIsX X.K) := fun pins s σ H xs us Q I r ⟨a, C, c, w, b, ex, ⟨T, d, fs, ea, ed⟩, k, e, q⟩ => by
  subst ex
  obtain ⟨u1, u2, rfl, r1, r2⟩ := vals2 r
  have e1 : u1 = Value.ref a := r1
  subst e1
  have e2 := k.eq r2
  subst e2
  obtain ⟨ox, od, J, Z⟩ := exo_look I T ea ed
  exact PySem.W.kia_one Z I.kIn J e (fun z => nomatch z) fun tk => ⟨.bl b, H, I.tok tk, rfl, q⟩
theorem call_isXT : CallR X (.builtin "isinstance") (rIsXT X.K) := fun pins s σ H xs us Q I r ⟨a, C, tp, cs, ws, b, ex, ⟨T, d, fs, ea, ed⟩, hT, k, e, q⟩ => by
  subst ex
  obtain ⟨u1, u2, rfl, r1, r2⟩ := vals2 r
  have e1 : u1 = Value.ref a := r1
  have e2 : u2 = Value.ref tp := r2
  subst e1 e2
  obtain ⟨ox, od, J, Z⟩ := exo_look I T ea ed
  have ot : ObjOk X.prog X.w H s.heap tp (.tup cs) := I.hok tp _ hT
  obtain ⟨_, its, rv, o, h1, h2, n, h3⟩ := ot
  have e3 := ClsV.all k rv
  subst e3
  obtain ⟨oc, odd, dt, sl⟩ := o
  dsimp only at h2 h3
  subst h2 h3
  exact PySem.W.kia_tup Z I.kIn J h1 e (fun z => nomatch z) fun tk => ⟨.bl b, H, I.tok tk, rfl, q⟩
end
end DL

set_option Elab.async false
set_option linter.all false
set_option maxRecDepth 100000
namespace DL
open PySem PySem.Spec PyProof.Rows L2 TL

/-! ### own exceptions as data -/
theorem grow_two {F H H' : Hp} {a d : Addr} {oa od : HO} (s : Same F H) (na : H a = none) (nd : H d = none) (ne : d ≠ a) (ha : H' a = some oa) (hd : H' d = some od) (ho : ∀ b, b ≠ a → b ≠ d → H' b = H b) : Grow F H (upd (upd F d od) a oa) H' := by
  have fa : F a = none := s.free na
  have fd : F d = none := s.free nd
  refine ⟨fun b x e => ?_, fun b x e => ?_, fun b x e => ?_, fun b x e => ?_⟩
  · rw [upd_ne (ne_of_none e fa), upd_ne (ne_of_none e fd)]; exact e
  · rw [ho b (ne_of_none e na) (ne_of_none e nd)]; exact e
  · by_cases hb : b = a
    · subst hb; rw [upd_same] at e; cases e; exact ha
    · rw [upd_ne hb] at e
      by_cases hb2 : b = d
      · subst hb2; rw [upd_same] at e; cases e; exact hd
      · rw [upd_ne hb2] at e; rw [ho b hb hb2]; exact s _ _ e
  · by_cases hb : b = a
    · subst hb; exact .inr na
    · rw [upd_ne hb] at e
      by_cases hb2 : b = d
      · subst hb2; exact .inr nd
      · rw [upd_ne hb2] at e; exact .inl e
section
variable {X : Cx} {m : Mem} {e : Expr} {es : List Expr} {ta : DTA m} {te : DT m} {x : Str} {p pos : Pos} {C : Addr}
def dMkX {m : Mem} (C : Addr) (n : Nat) (fs : List Str) (ta : DTA m) : DT m := fun ρ s Q => ta ρ s fun ds ρ1 s1 => ds.length = n ∧ Q (.exc C fs ds.reverse) ρ1 s1
theorem de_mkx1 {k : Nat} {fI : Addr} {fd : FuncData} {ps : List Str} {f : Str} (T : XC X.K C) (iC : PySem.W.findIn X.K (.ref C) "__init__" = some (some (.ref fI))) (tI : PySem.W.typeIn X.K (.ref fI) = some (.type "function"))
    (G : FnG X.prog X.w X.K X.mg X.base CX0 k fI fd ps (spIn1 C f)) (hr : RoomG (k + 1) X.A) (hb : Binds X.K fd ps []) (hg : Gl X x) (hm : X.mg x = some (.ref C)) (ha : PA X (e :: es) (upA X.K m ta))
    (hdb : (x == ("__debug__" : Str)) = false := by decide) (he : starEach (e :: es) X.env = (false, eval e X.env) :: starEach es X.env := by rfl) (hpl : (backTo pos (starEach es X.env)).any (·.1) = false := by rfl) :
    PE X (.Call (.Name x p) (e :: es) [] pos) (up X.K m (dMkX C 1 [f] ta)) := PE.imp (pe_mkx T iC tI G hr hb hg hm ha hdb he hpl) fun σ H Q h => by
  obtain ⟨F, ρ, s, Qd, r, ht, hQ⟩ := h
  refine ⟨F, ρ, s, _, r, ht, fun ds ρ1 s1 vs F1 H1 ⟨hn, q1⟩ r1 st1 rs => ⟨by rw [rs.length, hn]; decide, fun a na => ?_⟩⟩
  · obtain ⟨d, rfl⟩ : ∃ d, ds = [d] := List.length_eq_one_iff.mp hn
    obtain ⟨v, _, rfl, rv, rn⟩ := rs
    cases rn
    refine ⟨a, v, rfl, upd_same, fun dx nd ne => ⟨rfl, ?_⟩⟩
    rw [upd_ne ne] at nd
    have g : Grow F1 H1 (upd (upd F1 dx (exd dx [(f, v)])) a (exo a C (some dx))) (upd (upd (upd H1 a (exo a C none)) dx (exd dx [(f, v)])) a (exo a C (some dx))) :=
      grow_two r1.sub na nd ne upd_same (by rw [upd_ne ne, upd_same]) fun b h1 h2 => by rw [upd_ne h1, upd_ne h2, upd_ne h1]
    exact hQ _ ρ1 s1 _ _ _ q1 (r1.grow g) (st1.trans g.stp) ⟨a, some dx, [(f, v)], rfl, upd_same, (fun y hy => by cases hy; rw [upd_ne ne, upd_same]), (fun z => by cases z), rfl, .one (Rep.mono g.fF _ _ rv)⟩
theorem de_mkx2 {k : Nat} {fI : Addr} {fd : FuncData} {ps : List Str} {f g : Str} (T : XC X.K C) (iC : PySem.W.findIn X.K (.ref C) "__init__" = some (some (.ref fI))) (tI : PySem.W.typeIn X.K (.ref fI) = some (.type "function"))
    (G : FnG X.prog X.w X.K X.mg X.base CX0 k fI fd ps (spIn2 C f g)) (hr : RoomG (k + 1) X.A) (hb : Binds X.K fd ps []) (hg : Gl X x) (hm : X.mg x = some (.ref C)) (ha : PA X (e :: es) (upA X.K m ta))
    (hdb : (x == ("__debug__" : Str)) = false := by decide) (he : starEach (e :: es) X.env = (false, eval e X.env) :: starEach es X.env := by rfl) (hpl : (backTo pos (starEach es X.env)).any (·.1) = false := by rfl) :
    PE X (.Call (.Name x p) (e :: es) [] pos) (up X.K m (dMkX C 2 [g, f] ta)) := PE.imp (pe_mkx T iC tI G hr hb hg hm ha hdb he hpl) fun σ H Q h => by
  obtain ⟨F, ρ, s, Qd, r, ht, hQ⟩ := h
  refine ⟨F, ρ, s, _, r, ht, fun ds ρ1 s1 vs F1 H1 ⟨hn, q1⟩ r1 st1 rs => ⟨by rw [rs.length, hn]; decide, fun a na => ?_⟩⟩
  · obtain ⟨d, d', rfl⟩ : ∃ d d', ds = [d, d'] := (match ds, hn with | [d, d'], _ => ⟨d, d', rfl⟩)
    obtain ⟨v, _, rfl, rv, w, _, rfl, rw', rn⟩ := rs
    cases rn
    refine ⟨a, v, w, rfl, upd_same, fun dx nd ne => ⟨rfl, ?_⟩⟩
    rw [upd_ne ne] at nd
    have gr : Grow F1 H1 (upd (upd F1 dx (exd dx [(g, w), (f, v)])) a (exo a C (some dx))) (upd (upd (upd (upd H1 a (exo a C none)) dx (exd dx [(f, v)])) a (exo a C (some dx))) dx (exd dx [(g, w), (f, v)])) :=
      grow_two r1.sub na nd ne (by rw [upd_ne (Ne.symm ne), upd_same]) upd_same fun b h1 h2 => by rw [upd_ne h2, upd_ne h1, upd_ne h2, upd_ne h1]
    exact hQ _ ρ1 s1 _ _ _ q1 (r1.grow gr) (st1.trans gr.stp) ⟨a, some dx, [(g, w), (f, v)], rfl, upd_same, (fun y hy => by cases hy; rw [upd_ne ne, upd_same]), (fun z => by cases z), rfl, .cons (Rep.mono gr.fF _ _ rw') (.one (Rep.mono gr.fF _ _ rv))⟩
def dMkX0 {m : Mem} (C : Addr) : DT m := fun ρ s Q => Q (.exc C [] []) ρ s
theorem de_mkx0 {B newId initId : String} {bmB : List Value} (T : XC X.K C) (FB : ExcBaseFacts B newId initId bmB) (ei : PySem.W.excIn X.K C bmB newId = true) (hg : Gl X x) (hm : X.mg x = some (.ref C)) (hdb : (x == ("__debug__" : Str)) = false := by decide) :
    PE X (.Call (.Name x p) [] [] pos) (up X.K m (dMkX0 C)) := PE.imp (pe_mkx0 T FB ei hg hm hdb) fun σ H Q h => by
  obtain ⟨F, ρ, s, Qd, r, ht, hQ⟩ := h
  intro a na
  have g : Grow F H (upd F a (exo a C none)) (upd H a (exo a C none)) := Grow.new r.sub na
  exact hQ _ ρ s _ _ _ ht (r.grow g) g.stp ⟨a, none, [], rfl, upd_same, (fun y hy => by cases hy), (fun _ => rfl), rfl, Reps.nil⟩
/-- e.f -/
def dXfl {m : Mem} (K : PySem.W.Frag) (f : Str) (te : DT m) : DT m := fun ρ s Q => te ρ s fun d ρ1 s1 => ∃ C ns ds v, d = .exc C ns ds ∧ XC K C ∧ PySem.W.findIn K (.ref C) f = some none ∧ (ns.zip ds).lookup f = some v ∧ Q v ρ1 s1
theorem reps_lookup {K : PySem.W.Frag} {F : Hp} {f : Str} : ∀ {fs : List (Str × V)} {ds : List D} {d : D}, Reps K F ds (fs.map (·.2)) → ((fs.map (·.1)).zip ds).lookup f = some d → ∃ v, fs.lookup f = some v ∧ Rep K F d v
  | [], ds, d, r, h => by cases ds <;> simp at h
  | (g, v) :: fs, [], d, r, h => by simp at h
  | (g, v) :: fs, e :: ds, d, ⟨v', _, q, rv, rr⟩, h => by
    rw [List.map_cons] at q
    injection q with q1 q2
    subst q1 q2
    rw [List.map_cons, List.zip_cons_cons] at h
    by_cases hf : f = g
    · subst hf
      simp only [List.lookup, beq_self_eq_true] at h ⊢
      cases h
      exact ⟨v, rfl, rv⟩
    · have hb : (f == g) = false := beq_eq_false_iff_ne.mpr hf
      simp only [List.lookup, hb] at h ⊢
      exact reps_lookup rr h
theorem de_xfl {f : Str} (he : PE X e (up X.K m te)) (hb : attributeBase e f X.env (eval e X.env) = eval e X.env := by rfl) : PE X (.Attribute e f pos) (up X.K m (dXfl X.K f te)) := PE.imp (pe_xfl he hb) fun σ H Q h => by
  obtain ⟨F, ρ, s, Qd, r, ht, hQ⟩ := h
  refine ⟨F, ρ, s, _, r, ht, fun d ρ1 s1 v F1 H1 ⟨C, ns, ds, y, ed, T, no, l, q1⟩ r1 st1 rv => ?_⟩
  subst ed
  obtain ⟨a, dd, fs, rfl, ha, hd, h0, rfl, rs⟩ := rv
  obtain ⟨w, lw, rw'⟩ := reps_lookup rs l
  cases dd with
  | none => rw [h0 rfl] at lw; cases lw
  | some dx => exact ⟨a, C, dx, fs, w, rfl, T, no, r1.sub _ _ ha, r1.sub _ _ (hd dx rfl), lw, hQ y ρ1 s1 w F1 H1 q1 r1 st1 rw'⟩
/-! ### isinstance of them -/
def clsU : V → Option Value
  | .ty n => some (.type n)
  | .ref D => some (.ref D)
  | _ => none
theorem clsU_ok {c : V} {u : Value} (h : clsU c = some u) : ClsV c u := by
  cases c with
  | ty n => cases h; exact .ty n
  | ref D => cases h; exact .own D
  | _ => cases h
def isxD (K : PySem.W.Frag) (ds : List D) (Q : D → Prop) : Prop := ∃ C ns es c u b, ds = [.exc C ns es, .any c] ∧ XC K C ∧ clsU c = some u ∧ PySem.W.kitOne K (.ref C) u = some b ∧ Q (.bl b)
theorem o_isx {K : PySem.W.Frag} : OpN K (rIsX K) (isxD K) := by
  intro F H ds vs Qd Q sub rs h hQ
  obtain ⟨C, ns, es, c, u, b, rfl, T, hc, e, q⟩ := h
  obtain ⟨v, _, rfl, ⟨a, d, fs, rfl, h1, h2, _⟩, w, _, rfl, rw', rn⟩ := rs
  cases rn
  cases rw'
  exact ⟨a, C, _, u, b, rfl, ⟨T, d, fs, sub _ _ h1, fun y hy => sub _ _ (h2 y hy)⟩, clsU_ok hc, e, hQ _ _ F H q (Grow.refl sub) rfl⟩
/-- isinstance of an exception or of other data -/
def isaD (K : PySem.W.Frag) (ds : List D) (Q : D → Prop) : Prop := isiD ds Q ∨ isxD K ds Q
def rIsA (K : PySem.W.Frag) : List V → Hp → VK → Prop := fun xs H Q => rIsi K xs H Q ∨ rIsX K xs H Q
theorem call_isA : CallR X (.builtin "isinstance") (rIsA X.K) := L2.CallR.or call_isi call_isX
theorem o_isa {K : PySem.W.Frag} : OpN K (rIsA K) (isaD K) := by
  intro F H ds vs Qd Q sub rs h hQ
  rcases h with h | h
  · exact .inl (o_isi F H ds vs Qd Q sub rs h hQ)
  · exact .inr (o_isx F H ds vs Qd Q sub rs h hQ)
/-- isinstance(e, (c, ..)), the tuple written -/
def dIsXT {m : Mem} (K : PySem.W.Frag) (te : DT m) (ta : DTA m) : DT m := fun ρ s Q => te ρ s fun x ρ1 s1 => ta ρ1 s1 fun cs ρ2 s2 => ∃ (C : Addr) (ns : List Str) (es : List D) (ws : List V) (us : List Value) (b : Bool), x = .exc C ns es ∧ cs = ws.map D.any ∧ ws.map clsU = us.map some ∧ cs.length ≤ 1000 ∧ XC K C ∧ PySem.W.kitAny K (.ref C) us = some b ∧ Q (.bl b) ρ2 s2
theorem cls_all {K : PySem.W.Frag} {F : Hp} : ∀ {ws : List V} {us : List Value} {vs : List V}, ws.map clsU = us.map some → Reps K F (ws.map D.any) vs → vs = ws ∧ Paired ClsV ws us
  | [], [], _, _, r => by cases r; exact ⟨rfl, .nil⟩
  | [], _ :: _, _, h, _ => by cases h
  | _ :: _, [], _, h, _ => by cases h
  | w :: ws, u :: us, _, h, ⟨v, r, rfl, rv, rr⟩ => by
    rw [List.map_cons, List.map_cons] at h
    injection h with h1 h2
    obtain ⟨q1, q2⟩ := cls_all h2 rr
    cases rv
    exact ⟨by rw [q1], .cons (clsU_ok h1) q2⟩
theorem de_isXT {kk : Nat} {pt : Pos} (hg : Gl X "isinstance") (hm : X.mg "isinstance" = none) (he : PE X e (up X.K m te)) (ha : PA X es (upA X.K m ta))
    (hs : starEach [e, .Tuple es kk pt] X.env = [(false, eval e X.env), (false, eval (.Tuple es kk pt) X.env)] := by rfl) (hs4 : starEach [.Tuple es kk pt] X.env = [(false, eval (.Tuple es kk pt) X.env)] := by rfl) :
    PE X (.Call (.Name "isinstance" p) [e, .Tuple es kk pt] [] pos) (up X.K m (dIsXT X.K te ta)) :=
  PE.imp (pe_callB call_isXT hg hm (by decide +kernel) (pa_cons he (pa_cons (pe_tup ha) pa_nil (by rw [hs4]; rfl)) (by rw [hs, hs4])) (by decide) (by decide) (by rw [hs, hs4]) (by rw [hs4]; rfl)) fun σ H Q h => by
    obtain ⟨F, ρ, s, Qd, r, ht, hQ⟩ := h
    refine ⟨F, ρ, s, _, r, ht, fun d ρ1 s1 v F1 H1 q1 r1 st1 rv => ⟨F1, ρ1, s1, _, r1, q1, fun cs ρ2 s2 vs F2 H2 ⟨C, ns, es', ws, us, b, ex, ec, eu, hz, T, ek, q2⟩ r2 st2 rs => ?_⟩⟩
    subst ex ec
    refine ⟨by rw [rs.length]; exact Nat.le_trans hz (by rw [sizeLine_eq]; decide), fun q nq => ?_⟩
    obtain ⟨ev, pr⟩ := cls_all eu rs
    subst ev
    obtain ⟨a, dd, fs, rfl, h1, h2, _⟩ := rv
    have g : Grow F2 H2 (upd F2 q (.tup vs)) (upd H2 q (.tup vs)) := Grow.new r2.sub nq
    exact ⟨a, C, q, vs, us, b, rfl, ⟨T, dd, fs, g.fH _ _ (g.fF _ _ (st2.ext _ _ h1)), fun y hy => g.fH _ _ (g.fF _ _ (st2.ext _ _ (h2 y hy)))⟩, upd_same, pr, ek, hQ _ ρ2 s2 _ _ _ q2 (r2.grow g) ((st1.trans st2).trans g.stp) rfl⟩
/-! ### zip -/
def zipD (d e : D) : Option (List D × List D) := match d, e with
  | .lst xs, .lst ys => some (xs, ys)
  | .tup xs, .tup ys => some (xs, ys)
  | _, _ => none
def pairsD (xs ys : List D) : List D := List.zipWith (fun x y => .tup [x, y]) xs ys
def diZip {m : Mem} (ta : DTA m) : DTI m := fun ρ s Q => ta ρ s fun ds ρ1 s1 => ∃ d e xs ys, ds = [d, e] ∧ zipD d e = some (xs, ys) ∧ Q (pairsD xs ys) ρ1 s1
theorem pairs_get {xs ys : List D} {i : Nat} {d : D} (h : (pairsD xs ys)[i]? = some d) : ∃ x y, xs[i]? = some x ∧ ys[i]? = some y ∧ d = .tup [x, y] := by
  unfold pairsD at h
  rw [List.getElem?_zipWith] at h
  cases hx : xs[i]? with
  | none => rw [hx] at h; cases h
  | some x =>
    cases hy : ys[i]? with
    | none => rw [hx, hy] at h; cases h
    | some y => rw [hx, hy] at h; exact ⟨x, y, rfl, rfl, (Option.some.inj h).symm⟩
theorem pairs_end {xs ys : List D} {i : Nat} (h : (pairsD xs ys).length ≤ i) : xs.length ≤ i ∨ ys.length ≤ i := by
  unfold pairsD at h
  rw [List.length_zipWith] at h
  omega
theorem rep_pair {K : PySem.W.Frag} {F : Hp} {x y : D} {v w : V} {T : Addr} (h : F T = some (.tup [v, w])) (rx : Rep K F x v) (ry : Rep K F y w) : Rep K F (.tup [x, y]) (.ref T) :=
  ⟨T, [v, w], rfl, .inl (.inl h), by show 2 ≤ sizeLine; decide, .cons rx (.one ry)⟩
theorem walks_zipL {K : PySem.W.Frag} {F : Hp} {a b : Addr} {ds es : List D} {vs ws : List V} (h1 : SqL K F a vs) (r1 : Reps K F ds vs) (h2 : SqL K F b ws) (r2 : Reps K F es ws) : Walks K F (Itz K a b) (pairsD ds es) := fun F' H' s1 s2 => by
  have q1 : SqL K H' a vs := Same.seq s2 (Same.seq s1 h1)
  have q2 : SqL K H' b ws := Same.seq s2 (Same.seq s1 h2)
  refine ⟨fun i hi => ⟨vs, ws, q1, q2, by rw [r1.length, r2.length]; exact pairs_end hi⟩, fun i d e => ?_⟩
  obtain ⟨x, y, ex, ey, rfl⟩ := pairs_get e
  obtain ⟨v, ev, rv⟩ := r1.get ex
  obtain ⟨w, ew, rw'⟩ := r2.get ey
  refine ⟨⟨vs, ws, v, w, q1, q2, ev, ew⟩, fun z H2 yl => ?_⟩
  obtain ⟨T, v', w', rfl, nT, rfl, g1, g2⟩ := yl
  have e1 := g1 vs q1
  have e2 := g2 ws q2
  rw [ev] at e1; rw [ew] at e2
  cases e1; cases e2
  have g : Grow F' H' (upd F' T (.tup [v, w])) (upd H' T (.tup [v, w])) := Grow.new s2 nT
  exact ⟨_, g, rep_pair upd_same (Rep.mono (s1.trans g.fF) _ _ rv) (Rep.mono (s1.trans g.fF) _ _ rw')⟩
theorem walks_zipT {K : PySem.W.Frag} {F : Hp} {a b : Addr} {ds es : List D} {vs ws : List V} (h1 : SqT K F a vs) (r1 : Reps K F ds vs) (h2 : SqT K F b ws) (r2 : Reps K F es ws) : Walks K F (RZ.ItzT K a b) (pairsD ds es) := fun F' H' s1 s2 => by
  have q1 : SqT K H' a vs := Same.seqT s2 (Same.seqT s1 h1)
  have q2 : SqT K H' b ws := Same.seqT s2 (Same.seqT s1 h2)
  refine ⟨fun i hi => ⟨vs, ws, q1, q2, by rw [r1.length, r2.length]; exact pairs_end hi⟩, fun i d e => ?_⟩
  obtain ⟨x, y, ex, ey, rfl⟩ := pairs_get e
  obtain ⟨v, ev, rv⟩ := r1.get ex
  obtain ⟨w, ew, rw'⟩ := r2.get ey
  refine ⟨⟨vs, ws, v, w, q1, q2, ev, ew⟩, fun z H2 yl => ?_⟩
  obtain ⟨T, v', w', rfl, nT, rfl, g1, g2⟩ := yl
  have e1 := g1 vs q1
  have e2 := g2 ws q2
  rw [ev] at e1; rw [ew] at e2
  cases e1; cases e2
  have g : Grow F' H' (upd F' T (.tup [v, w])) (upd H' T (.tup [v, w])) := Grow.new s2 nT
  exact ⟨_, g, rep_pair upd_same (Rep.mono (s1.trans g.fF) _ _ rv) (Rep.mono (s1.trans g.fF) _ _ rw')⟩
theorem di_zip {a b : Expr} {elts : List Expr} {kk : Nat} {tpos : Pos} (hg : Gl X "zip") (hm : X.mg "zip" = none) (ha : PA X [a, b] (upA X.K m ta))
    (hs : starEach [a, b] X.env = (false, eval a X.env) :: starEach [b] X.env := by rfl) (hpl : (backTo pos (starEach [b] X.env)).any (·.1) = false := by rfl) :
    PI X (.Tuple elts kk tpos) (.Call (.Name "zip" p) [a, b] [] pos) (upI X.K m (diZip ta)) := PI.imp (RZ.pi_zipA hg hm ha hs hpl) fun σ H R h => by
  obtain ⟨F, ρ, s, Qd, r, ht, hQ⟩ := h
  refine ⟨F, ρ, s, _, r, ht, fun ds ρ1 s1 vs F1 H1 ⟨d, e, xs, ys, ed, ez, q1⟩ r1 st1 rs => ?_⟩
  subst ed
  obtain ⟨v, _, rfl, rv, w, _, rfl, rw', rn⟩ := rs
  cases rn
  unfold zipD at ez
  split at ez
  · cases ez
    obtain ⟨a, vs, rfl, h1, _, k1⟩ := rv
    obtain ⟨b, ws, rfl, h2, _, k2⟩ := rw'
    exact ⟨a, b, vs, ws, rfl, .inl ⟨.inl (.inl (r1.sub _ _ h1)), .inl (.inl (r1.sub _ _ h2)), hQ _ ρ1 s1 _ F1 H1 q1 r1 st1 (walks_zipL (.inl (.inl h1)) k1 (.inl (.inl h2)) k2)⟩⟩
  · cases ez
    obtain ⟨a, vs, rfl, h1, _, k1⟩ := rv
    obtain ⟨b, ws, rfl, h2, _, k2⟩ := rw'
    exact ⟨a, b, vs, ws, rfl, .inr ⟨Same.seqT r1.sub h1, Same.seqT r1.sub h2, hQ _ ρ1 s1 _ F1 H1 q1 r1 st1 (walks_zipT h1 k1 h2 k2)⟩⟩
  · cases ez
end
end DL

set_option Elab.async false
set_option linter.all false
set_option maxRecDepth 100000
namespace DL
open PySem PySem.Spec PyProof.Rows L2 TL

/-! ### repr -/
def keyPy : Key → PyData
  | .inl i => .int i
  | .inr x => .str x
mutual
/-- data as the library's model of data, dicts too -/
def pyR : D → PyData
  | .non => .none
  | .bl b => .bool b
  | .int i => .int i
  | .str x => .str x
  | .lst xs => .list (pyRs xs)
  | .tup xs => .tuple (pyRs xs)
  | .dic ks xs => .dict (pyRk ks xs)
  | _ => .none
def pyRs : List D → List PyData
  | [] => []
  | d :: ds => pyR d :: pyRs ds
def pyRk : List Key → List D → List (PyData × PyData)
  | k :: ks, d :: ds => (keyPy k, pyR d) :: pyRk ks ds
  | _, _ => []
end
mutual
/-- what repr takes, at most so deep -/
def repD : Nat → D → Bool
  | _, .non => true
  | _, .bl _ => true
  | _, .int _ => true
  | _, .str _ => true
  | n, .lst xs => match n with
    | 0 => false
    | k + 1 => repDs k xs
  | n, .tup xs => match n with
    | 0 => false
    | k + 1 => repDs k xs
  | n, .dic ks xs => match n with
    | 0 => false
    | k + 1 => repDs k xs
  | _, _ => false
def repDs : Nat → List D → Bool
  | _, [] => true
  | n, d :: ds => repD n d && repDs n ds
end
@[irreducible] def repOk (d : D) : Bool := repD 60 d && ((pyR d).showable && decide ((pyR d).shown.length ≤ sizeLine))
section
variable {X : Cx} {pins : List (Addr × Obj)} {σ : L2.St} {F H : Hp} {s : Shared}
theorem pairs_reads {P : Program} {w : World} {h : Heap} : ∀ {es : List DictEntry} {vs : List (Key × Value)}, Pairs (mixKind P w) es vs → ReadsAll h (es.map (·.key)) (vs.map fun p => keyPy p.1) [] ∧ es.map (·.val) = vs.map (·.2)
  | _, _, .nil => ⟨.nil, rfl⟩
  | _, _, .cons (e := e) (kv := kv) hk hv r => by
    obtain ⟨q1, q2⟩ := pairs_reads (h := h) r
    have hk' : keyIs kv.1 e.key = true := hk
    have one : Reads h e.key (keyPy kv.1) [] := by
      rcases keyIs_shape hk' with ⟨i, t, e1, e2⟩ | ⟨x, t, e1, e2⟩
      · rw [e1, e2]; exact .int i t
      · rw [e1, e2]; exact .str x t
    exact ⟨.cons one q1, by rw [List.map_cons, List.map_cons, hv, q2]⟩
mutual
theorem rep_reads (hS : H sysModules = none) (I : Inv X pins σ H s) (sub : Same F H) : ∀ (n : Nat) (d : D) (v : V) (u : Value), repD n d = true → Rep X.K F d v → RelV v u → ∃ as, Reads s.heap u (pyR d) as ∧ sysModules ∉ as
  | _, .non, _, _, _, h, r => by cases h; cases r; exact ⟨_, .none, by simp⟩
  | _, .bl b, _, _, _, h, r => by cases h; cases r; exact ⟨_, .bool b, by simp⟩
  | _, .int i, _, _, _, h, r => by cases h; obtain ⟨t, rfl⟩ := r; exact ⟨_, .int i t, by simp⟩
  | _, .str x, _, _, _, h, r => by obtain ⟨rfl, _⟩ := h; obtain ⟨t, rfl⟩ := r; exact ⟨_, .str x t, by simp⟩
  | 0, .lst xs, _, _, p, _, _ => by simp [repD] at p
  | n + 1, .lst xs, _, _, p, h, r => by
    obtain ⟨a, vs, rfl, h1, _, rs⟩ := h
    cases r
    have ha := sub _ _ h1
    obtain ⟨its, rv, ⟨o, k, ho, hc, _, hd⟩, _⟩ := I.list (.inl (.inl ha))
    obtain ⟨as, q1, q2⟩ := reps_reads hS I sub n xs vs its (by simpa [repD] using p) rs rv
    refine ⟨_, .list ho hc hd q1, ?_⟩
    simp only [List.mem_cons, not_or]
    exact ⟨(fun z => by rw [z, ha] at hS; cases hS), q2⟩
  | 0, .tup xs, _, _, p, _, _ => by simp [repD] at p
  | n + 1, .tup xs, _, _, p, h, r => by
    obtain ⟨a, vs, rfl, h1, _, rs⟩ := h
    cases r
    obtain ⟨its, rv, ⟨o, ho, hc, k, hd⟩, _⟩ := I.tuple (Same.seqT sub h1)
    obtain ⟨as, q1, q2⟩ := reps_reads hS I sub n xs vs its (by simpa [repD] using p) rs rv
    exact ⟨_, .tuple ho hc hd q1, q2⟩
  | 0, .dic ks xs, _, _, p, _, _ => by simp [repD] at p
  | n + 1, .dic ks xs, _, _, p, h, r => by
    obtain ⟨a, kvs, rfl, h1, _, rfl, rs⟩ := h
    cases r
    obtain ⟨_, hd, vs, kv, ⟨o, es, ep, ho, ex, hdat, _, pr, _⟩⟩ := dk_of I.hok (sub _ _ h1)
    obtain ⟨q1, q2⟩ := pairs_reads (h := s.heap) pr
    obtain ⟨bs, q3, q4⟩ := repk_reads hS I sub n xs kvs vs (by simpa [repD] using p) rs kv
    refine ⟨a :: [] ++ bs, .dict ho ex.1 hdat (by rw [q3.1]; exact q1) (by rw [q2]; exact q3.2), ?_⟩
    simp only [List.cons_append, List.nil_append, List.mem_cons, not_or]
    exact ⟨(fun z => by rw [← z] at hd; simp at hd), q4⟩
  | _, .ins _ _ _, _, _, p, _, _ => by simp [repD] at p
  | _, .any _, _, _, p, _, _ => by simp [repD] at p
  | _, .fz _, _, _, p, _, _ => by simp [repD] at p
  | _, .exc _ _ _, _, _, p, _, _ => by simp [repD] at p
theorem reps_reads (hS : H sysModules = none) (I : Inv X pins σ H s) (sub : Same F H) : ∀ (n : Nat) (ds : List D) (vs : List V) (us : List Value), repDs n ds = true → Reps X.K F ds vs → Vals vs us → ∃ as, ReadsAll s.heap us (pyRs ds) as ∧ sysModules ∉ as
  | _, [], _, _, _, h, r => by cases h; cases r; exact ⟨_, .nil, by simp⟩
  | n, d :: ds, _, _, p, ⟨v, vs, e, h, t⟩, r => by
    subst e
    rw [repDs, Bool.and_eq_true] at p
    cases r with
    | cons r1 r2 =>
      obtain ⟨as, q1, n1⟩ := rep_reads hS I sub n d v _ p.1 h r1
      obtain ⟨bs, q2, n2⟩ := reps_reads hS I sub n ds vs _ p.2 t r2
      exact ⟨_, .cons q1 q2, by simp only [List.mem_append, not_or]; exact ⟨n1, n2⟩⟩
theorem repk_reads (hS : H sysModules = none) (I : Inv X pins σ H s) (sub : Same F H) : ∀ (n : Nat) (ds : List D) (kvs : List (Key × V)) (vs : List (Key × Value)), repDs n ds = true → Reps X.K F ds (kvs.map (·.2)) → KV kvs vs →
    ∃ bs, ((pyRk (kvs.map (·.1)) ds).map (·.1) = vs.map (fun p => keyPy p.1) ∧ ReadsAll s.heap (vs.map (·.2)) ((pyRk (kvs.map (·.1)) ds).map (·.2)) bs) ∧ sysModules ∉ bs
  | _, [], [], _, _, _, k => by
    cases k
    exact ⟨[], ⟨rfl, .nil⟩, by simp⟩
  | _, [], _ :: _, _, _, h, _ => by cases h
  | _, _ :: _, [], _, _, ⟨_, _, e, _⟩, _ => by cases e
  | n, d :: ds, (k0, v0) :: kvs, _, p, ⟨v, r, e, h, t⟩, k => by
    rw [List.map_cons] at e
    injection e with e1 e2
    subst e1 e2
    rw [repDs, Bool.and_eq_true] at p
    cases k with
    | cons kr kt =>
      obtain ⟨as, q1, n1⟩ := rep_reads hS I sub n d _ _ p.1 h kr.2
      obtain ⟨bs, ⟨q2, q3⟩, n2⟩ := repk_reads hS I sub n ds kvs _ p.2 t kt
      refine ⟨as ++ bs, ⟨?_, ?_⟩, by simp only [List.mem_append, not_or]; exact ⟨n1, n2⟩⟩
      · simp only [List.map_cons, pyRk]
        rw [q2, show k0 = _ from kr.1]
      · simp only [List.map_cons, pyRk]
        exact .cons q1 q3
end
mutual
theorem depth_of : ∀ (n : Nat) (d : D), repD n d = true → (pyR d).depth ≤ n
  | _, .non, _ => Nat.zero_le _
  | _, .bl _, _ => Nat.zero_le _
  | _, .int _, _ => Nat.zero_le _
  | _, .str _, _ => by simp [pyR, PyData.depth]
  | 0, .lst xs, p => by simp [repD] at p
  | n + 1, .lst xs, p => by
    have := depths_of n xs (by simpa [repD] using p)
    simp only [pyR, PyData.depth]; omega
  | 0, .tup xs, p => by simp [repD] at p
  | n + 1, .tup xs, p => by
    have := depths_of n xs (by simpa [repD] using p)
    simp only [pyR, PyData.depth]; omega
  | 0, .dic ks xs, p => by simp [repD] at p
  | n + 1, .dic ks xs, p => by
    have := depthk_of n ks xs (by simpa [repD] using p)
    simp only [pyR, PyData.depth]; omega
  | _, .ins _ _ _, p => by simp [repD] at p
  | _, .any _, p => by simp [repD] at p
  | _, .fz _, p => by simp [repD] at p
  | _, .exc _ _ _, p => by simp [repD] at p
theorem depths_of : ∀ (n : Nat) (ds : List D), repDs n ds = true → PyData.depthAll (pyRs ds) ≤ n
  | _, [], _ => Nat.zero_le _
  | n, d :: ds, p => by
    rw [repDs, Bool.and_eq_true] at p
    have h1 := depth_of n d p.1
    have h2 := depths_of n ds p.2
    simp only [pyRs, PyData.depthAll]; omega
theorem depthk_of : ∀ (n : Nat) (ks : List Key) (ds : List D), repDs n ds = true → PyData.depthKv (pyRk ks ds) ≤ n
  | _, [], ds, _ => by cases ds <;> exact Nat.zero_le _
  | _, _ :: _, [], _ => Nat.zero_le _
  | n, k :: ks, d :: ds, p => by
    rw [repDs, Bool.and_eq_true] at p
    have h1 := depth_of n d p.1
    have h2 := depthk_of n ks ds p.2
    have h3 : (keyPy k).depth = 0 := by cases k <;> simp [keyPy, PyData.depth]
    simp only [pyRk, PyData.depthKv]; omega
end
/-- what a repr sees -/
def RpAt (X : Cx) (H : Hp) (x : V) (t : Str) : Prop := ∃ F d, Same F H ∧ Rep X.K F d x ∧ repOk d = true ∧ t = (pyR d).shown
def rRepr (X : Cx) : List V → Hp → VK → Prop := fun xs H Q => ∃ x t, xs = [x] ∧ RpAt X H x t ∧ Q (.str t) H
theorem sys_free (hk : ∃ o, X.base.get? sysModules = some o) (I : Inv X pins σ H s) : H sysModules = none := by
  obtain ⟨o, e⟩ := hk
  exact (I.bs _ o e).2
theorem call_reprD (hk : ∃ o, X.base.get? sysModules = some o) (hg : X.A.guards = some []) (hu : X.A.units + 65 < cLine) : CallR X (.builtin "repr") (rRepr X) := by
  intro pins s σ H xs us Q I r h
  obtain ⟨x, t, rfl, ⟨F, d, sub, rp, ok, rfl⟩, q⟩ := h
  obtain ⟨u, us', rfl, r1, r2⟩ : ∃ u us', us = u :: us' ∧ RelV x u ∧ Vals [] us' := by cases r with | cons a b => exact ⟨_, _, rfl, a, b⟩
  cases r2
  unfold repOk at ok
  rw [Bool.and_eq_true, Bool.and_eq_true, decide_eq_true_eq] at ok
  obtain ⟨o1, o2, o3⟩ := ok
  obtain ⟨as, rd, ns⟩ := rep_reads (sys_free hk I) I sub 60 d x u o1 rp r1
  have dp := depth_of 60 d o1
  have ref : ∀ a, u = .ref a → wpAny (model X.prog X.w) X.A (call (.builtin "repr") [u]) (EP X pins σ Q) X.xe s := fun a e => by
    subst e
    exact repr_of_reads' rd o2 (fun _ => ns) hg (by omega) (fun _ _ z => z) (fun h' w tk k => ⟨.str _, H, I.kept (t' := tk) k, ⟨w, rfl⟩, q⟩) o3
  cases d with
  | non => cases rp; cases r1; exact PySem.P.repr_of_none ⟨.str _, H, I.tok _, ⟨_, rfl⟩, q⟩
  | bl b => cases rp; cases r1; exact PySem.P.repr_of_bool ⟨.str _, H, I.tok _, ⟨_, by cases b <;> rfl⟩, q⟩
  | int i =>
    cases rp
    obtain ⟨tk, rfl⟩ := r1
    exact PySem.P.repr_of_int (of_decide_eq_true o2) ⟨.str _, H, I.tok _, ⟨_, rfl⟩, q⟩
  | str y =>
    obtain ⟨rfl, _⟩ := rp
    obtain ⟨tk, rfl⟩ := r1
    exact PySem.P.repr_of_str ⟨.str _, H, I.tok _, ⟨s.toks, by simp only [pyR, PyData.shown]⟩, q⟩ (by simpa only [pyR, PyData.shown] using o3)
  | lst xs => obtain ⟨a, _, rfl, _⟩ := rp; exact ref a r1
  | tup xs => obtain ⟨a, _, rfl, _⟩ := rp; exact ref a r1
  | dic ks xs => obtain ⟨a, _, rfl, _⟩ := rp; exact ref a r1
  | _ => simp [repD] at o1
def reprD (ds : List D) (Q : D → Prop) : Prop := ∃ d, ds = [d] ∧ repOk d = true ∧ Q (.any (.str (pyR d).shown))
theorem o_repr : OpN X.K (rRepr X) reprD := by
  intro F H ds vs Qd Q sub rs h hQ
  obtain ⟨d, rfl, ok, q⟩ := h
  obtain ⟨v, _, rfl, rv, rn⟩ := rs
  cases rn
  exact ⟨v, _, rfl, ⟨F, d, sub, rv, ok, rfl⟩, hQ _ _ F H q (Grow.refl sub) rfl⟩
/-- texts that repr has made, compared -/
def eqT (x y : D) (Q : Bool → Prop) : Prop := ∃ a b : Str, x = .any (.str a) ∧ y = .any (.str b) ∧ Q (decide (a = b))
def neT (x y : D) (Q : Bool → Prop) : Prop := ∃ a b : Str, x = .any (.str a) ∧ y = .any (.str b) ∧ Q (!decide (a = b))
theorem dec_strV (a b : Str) : decide (V.str a = V.str b) = decide (a = b) := by
  by_cases h : a = b
  · rw [h]; simp
  · rw [decide_eq_false h, decide_eq_false fun z => h (V.str.inj z)]
theorem o_eqT {K : PySem.W.Frag} : Cm2 K rEq eqT := by
  intro F H dx dy x y Qd Q sub rx ry h hQ
  obtain ⟨a, b, rfl, rfl, q⟩ := h
  cases rx
  cases ry
  exact ⟨rfl, by rw [dec_strV]; exact hQ _ F H q (Grow.refl sub)⟩
theorem o_neT {K : PySem.W.Frag} : Cm2 K rNe neT := by
  intro F H dx dy x y Qd Q sub rx ry h hQ
  obtain ⟨a, b, rfl, rfl, q⟩ := h
  cases rx
  cases ry
  exact ⟨rfl, by rw [dec_strV]; exact hQ _ F H q (Grow.refl sub)⟩
end
/-! ### a, b, c = x, y, z with plain local names -/
section
variable {X : Cx} {m : Mem} {E : Ent m} {pos : Pos}
def dPar3 {m : Mem} (i j l : Nat) (ta : DTA m) : DTS m := fun dd ρ s => ta ρ s fun ds ρ1 s1 => ∃ d d' d'', ds = [d, d', d''] ∧ dd.nx (((ρ1.set i (.sh d)).set j (.sh d')).set l (.sh d'')) s1
theorem ds_par3 (i j l : Nat) {x y z : Str} {a b c : Expr} {ta : DTA m} {px py pz pt : Pos} {kt k2 pt2} (hN : X.N.Nodup) (ha : PA X [a, b, c] (upA X.K m ta)) (hc : X.calm = true := by rfl) (hi : X.N[i]? = some x := by rfl) (hj : X.N[j]? = some y := by rfl) (hl : X.N[l]? = some z := by rfl)
    (hij : i ≠ j := by decide) (hil : i ≠ l := by decide) (hjl : j ≠ l := by decide) (hx : X.env.scope.names.lookup x = some .local := by rfl) (hy : X.env.scope.names.lookup y = some .local := by rfl) (hz : X.env.scope.names.lookup z = some .local := by rfl)
    (hw : swappedStores [.Tuple [.Name x px, .Name y py, .Name z pz] kt pt] (.Tuple [a, b, c] k2 pt2) X.env = pure (some [x, y, z]) := by rfl) (hs : swapsWithSole [.Tuple [.Name x px, .Name y py, .Name z pz] kt pt] (.Tuple [a, b, c] k2 pt2) pos.line X.env = pure false := by rfl) :
    PS X (.Assign [.Tuple [.Name x px, .Name y py, .Name z pz] kt pt] (.Tuple [a, b, c] k2 pt2) pos) (upS X.K m E (dPar3 i j l ta)) := PS.imp (ps_par3 hc hN hi hj hl hij hil hjl hx hy hz ha hw hs) fun DD σ H h => by
  obtain ⟨F, ρ, s, dd, r, o, ht, f⟩ := h
  refine ⟨F, ρ, s, _, r, ht, fun ds ρ1 s1 vs F1 H1 ⟨d, d', d'', e, q1⟩ r1 st1 rs => ?_⟩
  subst e
  obtain ⟨v, _, rfl, rv, w, _, rfl, rw', u, _, rfl, ru, rn⟩ := rs
  cases rn
  exact ⟨v, w, u, rfl, f.nx F1 H1 _ _ s1 st1.ext (((r1.put rv).put rw').put ru) ((((o.stp st1).put (K := X.K)).put (K := X.K)).put (K := X.K)) q1⟩
end
end DL

set_option Elab.async false
set_option linter.all false
set_option maxRecDepth 100000
namespace DL
open PySem PySem.Spec PyProof.Rows L2 TL

/-! ### texts cut at one sign -/
def cutL (c : Nat) : List Nat → List Nat → List (List Nat)
  | acc, [] => [acc]
  | acc, x :: r => if x = c then acc :: cutL c [] r else cutL c (acc ++ [x]) r
theorem spl_cut (c : Nat) : ∀ (l acc : List Nat), spl [c] 0 acc l = cutL c acc l
  | [], acc => spl_nil _ _ _
  | x :: r, acc => by
    by_cases h : x = c
    · subst h
      have e : pre [x] (x :: r) = true := pre_self [x] r
      rw [spl_hit e, cutL, if_pos rfl]
      show acc :: spl [x] 0 [] r = _
      rw [spl_cut x r []]
    · rw [spl_miss (pre_of_head [] r h), cutL, if_neg h, spl_cut c r]
theorem cutL_ne (c : Nat) : ∀ (l acc : List Nat), cutL c acc l ≠ []
  | [], acc => by simp [cutL]
  | x :: r, acc => by
    rw [cutL]
    by_cases h : x = c
    · rw [if_pos h]; simp
    · rw [if_neg h]; exact cutL_ne c r _
theorem cutL_app (c : Nat) (b : List Nat) : ∀ (a acc : List Nat), cutL c acc (a ++ c :: b) = cutL c acc a ++ cutL c [] b
  | [], acc => by
    show (if c = c then acc :: cutL c [] b else cutL c (acc ++ [c]) b) = acc :: cutL c [] b
    rw [if_pos rfl]
  | x :: r, acc => by
    show cutL c acc (x :: (r ++ c :: b)) = _
    rw [cutL, cutL]
    by_cases h : x = c
    · rw [if_pos h, if_pos h, cutL_app c b r]; rfl
    · rw [if_neg h, if_neg h, cutL_app c b r]
theorem joinL_cons (S p : List Nat) {q : List (List Nat)} (h : q ≠ []) : joinL S (p :: q) = p ++ (S ++ joinL S q) := by
  cases q with
  | nil => exact absurd rfl h
  | cons a r => rfl
theorem joinL_app (S : List Nat) {B : List (List Nat)} (hB : B ≠ []) : ∀ {A : List (List Nat)}, A ≠ [] → joinL S (A ++ B) = joinL S A ++ (S ++ joinL S B)
  | [], h => absurd rfl h
  | [p], _ => by
    show joinL S (p :: B) = p ++ _
    rw [joinL_cons S p hB]
  | p :: q :: r, _ => by
    show joinL S (p :: ((q :: r) ++ B)) = _
    rw [joinL_cons S p (by simp), joinL_app S hB (by simp), joinL_cons S p (by simp)]
    simp only [List.append_assoc]
theorem joinL_cut (c : Nat) : ∀ (l acc : List Nat), joinL [c] (cutL c acc l) = acc ++ l
  | [], acc => by simp [cutL, joinL]
  | x :: r, acc => by
    rw [cutL]
    by_cases h : x = c
    · rw [if_pos h, joinL_cons _ _ (cutL_ne c r []), joinL_cut c r, h]; simp
    · rw [if_neg h, joinL_cut c r]; simp
/-- the parts of a text, and the text again -/
theorem tl_splS (c : Nat) (x : Str) : (splS c x).map tl = cutL c [] (tl x) := by
  unfold splS
  rw [spl_cut, List.map_map]
  exact List.map_id' _
theorem splS_ne (c : Nat) (x : Str) : splS c x ≠ [] := fun h => by
  have := tl_splS c x
  rw [h] at this
  exact cutL_ne c _ _ this.symm
theorem join_splS (c : Nat) (x : Str) : joinS ⟨#[c]⟩ (splS c x) = x := by
  refine ext_tl ?_
  show tl (Str.join _ _) = _
  rw [tl_join, tl_splS]
  exact joinL_cut c _ _
theorem splS_inj {c : Nat} {x y : Str} (h : splS c x = splS c y) : x = y := by rw [← join_splS c x, h, join_splS]
theorem splS_app (c : Nat) (x y : Str) : splS c (x ++ ⟨#[c]⟩ ++ y) = splS c x ++ splS c y := by
  refine map_tl_inj ?_
  rw [List.map_append, tl_splS, tl_splS, tl_splS, tl_append, tl_append]
  show cutL c [] (tl x ++ [c] ++ tl y) = _
  rw [List.append_assoc]
  exact cutL_app c _ _ _
theorem splS_join {c : Nat} {ns : List Str} (h : ns ≠ []) (hf : ∀ x ∈ ns, c ∉ tl x) : splS c (joinS ⟨#[c]⟩ ns) = ns := by
  refine map_tl_inj ?_
  rw [tl_splS, ← spl_cut]
  show spl [c] 0 [] (tl (Str.join _ _)) = _
  rw [tl_join]
  exact spl_join (by simpa using h) fun p hp => by
    obtain ⟨x, hx, rfl⟩ := List.mem_map.mp hp
    exact hf x hx
theorem mem_splS {c : Nat} {x : Str} : ∀ y ∈ splS c x, ∀ d ∈ tl y, d ∈ tl x := fun y hy d hd => by
  obtain ⟨l, hl, rfl⟩ := List.mem_map.mp hy
  exact ((spl_mem 0 [] (tl x) l hl).2 d hd).resolve_left (by simp)
/-- a text begins with another -/
theorem sw_iff (x y : Str) : Txt.startswith x y = true ↔ ∃ r, x = y ++ r := by
  have key : Txt.startswith x y = true ↔ (tl x).take (tl y).length = tl y := by
    show (decide (0 + y.length ≤ x.length) && Builtin.Str.subAt x y 0) = true ↔ _
    rw [Bool.and_eq_true, StrLaws.subAt_eq, List.drop_zero, len_tl, len_tl]
    constructor
    · rintro ⟨_, h⟩; exact eq_of_beq h
    · intro h
      refine ⟨decide_eq_true ?_, by rw [h]; exact beq_self_eq_true _⟩
      have := congrArg List.length h
      rw [List.length_take] at this
      omega
  rw [key]
  constructor
  · intro h
    refine ⟨⟨((tl x).drop (tl y).length).toArray⟩, ext_tl ?_⟩
    rw [tl_append]
    show tl x = tl y ++ (tl x).drop (tl y).length
    have e := List.take_append_drop (tl y).length (tl x)
    rw [h] at e
    exact e.symm
  · rintro ⟨r, rfl⟩
    rw [tl_append, List.take_left]
/-- the two ways to say: p covers o -/
theorem cov_eq (p o : Str) : coversS p o = lcov p o := by
  have key : coversS p o = true ↔ lcov p o = true := by
    unfold coversS lcov
    rw [Bool.or_eq_true, sw_iff, beq_iff_eq, beq_iff_eq]
    constructor
    · rintro (rfl | ⟨r, rfl⟩)
      · rw [List.take_length]
      · rw [show p ++ dot ++ r = p ++ ⟨#[46]⟩ ++ r from rfl, splS_app, List.take_left]
    · intro h
      have e := List.take_append_drop (splS 46 p).length (splS 46 o)
      rw [h] at e
      cases q : (splS 46 o).drop (splS 46 p).length with
      | nil => rw [q, List.append_nil] at e; exact .inl (splS_inj e).symm
      | cons a r =>
        rw [q] at e
        refine .inr ⟨joinS dot (a :: r), ?_⟩
        have e2 := join_splS 46 o
        rw [← e] at e2
        rw [← e2]
        refine ext_tl ?_
        show tl (Str.join _ _) = tl (p ++ dot ++ Str.join _ _)
        rw [tl_join, List.map_append, joinL_app _ (by simp) (by simpa using splS_ne 46 p), tl_append, tl_append, tl_join, List.append_assoc]
        have e3 := congrArg tl (join_splS 46 p)
        have e4 : tl (joinS ⟨#[46]⟩ (splS 46 p)) = joinL [46] ((splS 46 p).map tl) := tl_join _ _
        rw [e4] at e3
        show joinL [46] _ ++ _ = _
        rw [e3]
        rfl
  cases h1 : coversS p o <;> cases h2 : lcov p o
  · rfl
  · rw [key.mpr h2] at h1; cases h1
  · rw [key.mp h1] at h2; cases h2
  · rfl
end DL

set_option Elab.async false
set_option linter.all false
set_option maxRecDepth 100000
namespace DL
open PySem PySem.Spec PyProof.Rows L2 TL
theorem eqs (a b : Str) : eqD (.str a) (.str b) = decide (a = b) := by
  show (a == b) = _
  by_cases h : a = b
  · rw [decide_eq_true h, h]; simp
  · rw [decide_eq_false h]; exact beq_eq_false_iff_ne.mpr h
theorem eqss : ∀ (xs ys : List Str), eqDs (xs.map .str) (ys.map .str) = (xs == ys)
  | [], [] => rfl
  | [], _ :: _ => rfl
  | _ :: _, [] => rfl
  | x :: xs, y :: ys => by
    show (eqD (.str x) (.str y) && eqDs (xs.map .str) (ys.map .str)) = (x == y && xs == ys)
    rw [eqss xs ys]
    rfl
theorem plain_strs : ∀ (n : Nat) (xs : List Str), plainDs n (xs.map .str) = true
  | _, [] => by simp [plainDs]
  | n, x :: xs => by
    have := plain_strs n xs
    simp only [List.map_cons, plainDs, this, Bool.and_true]
    simp [plainD]
theorem plain_lst (xs : List Str) : plainD 60 (.lst (xs.map .str)) = true := by
  simp only [plainD]
  exact plain_strs 59 xs
theorem beq_dec (a b : Str) : (a == b) = decide (a = b) := by
  by_cases h : a = b
  · rw [decide_eq_true h, h]; simp
  · rw [decide_eq_false h]; exact beq_eq_false_iff_ne.mpr h

theorem map_str_inj : ∀ {xs ys : List Str}, xs.map D.str = ys.map D.str → xs = ys
  | [], [], _ => rfl
  | [], _ :: _, h => by cases h
  | _ :: _, [], h => by cases h
  | x :: xs, y :: ys, h => by
    rw [List.map_cons, List.map_cons] at h
    injection h with h1 h2
    injection h1 with h1
    rw [h1, map_str_inj h2]
theorem cut_take (xs : List D) (n : Nat) : cutD xs none (some (n : Int)) = xs.take n := by
  unfold cutD
  rw [HT.sIx_none, List.drop_zero, Nat.sub_zero, show HT.sIx xs.length xs.length (some (n : Int)) = min n xs.length from HT.sIx_nat _ _ n]
  by_cases h : n ≤ xs.length
  · rw [Nat.min_eq_left h]
  · rw [Nat.min_eq_right (by omega), List.take_length, List.take_of_length_le (by omega)]
theorem ixN_n {n j : Nat} (hj : j < n) : ixN n (j : Int) = some j := by
  unfold ixN
  rw [if_pos (by omega), if_pos (by omega)]
  simp
theorem tl_cut (x : Str) (n : Nat) : tl (cutS x none (some (n : Int))) = (tl x).take n := by
  show (((x.cps.toList.drop (HT.sIx x.length 0 none)).take (HT.sIx x.length x.length (some (n : Int)) - HT.sIx x.length 0 none)).toArray).toList = (tl x).take n
  rw [HT.sIx_none, List.drop_zero, Nat.sub_zero, show HT.sIx x.length x.length (some (n : Int)) = min n x.length from HT.sIx_nat _ _ n]
  show (tl x).take (min n x.length) = (tl x).take n
  by_cases h : n ≤ x.length
  · rw [Nat.min_eq_left h]
  · rw [Nat.min_eq_right (by omega), len_tl, List.take_length, List.take_of_length_le (by rw [← len_tl]; omega)]
theorem rng_pre {lo : Int} {n : Nat} {pre : List D} {x : D} {post : List D} (h : rngD lo n = pre ++ x :: post) : pre.length < n ∧ x = .int (lo + (pre.length : Int)) := by
  have hl := congrArg List.length h
  rw [rngD_length, List.length_append, List.length_cons] at hl
  have hp : pre.length < n := by omega
  refine ⟨hp, ?_⟩
  have e : (rngD lo n)[pre.length]? = some x := by rw [h]; simp
  unfold rngD at e
  rw [List.getElem?_map, List.getElem?_range hp] at e
  exact (Option.some.inj e).symm
theorem head_find {f g : Str → Bool} (h : ∀ x, f x = g x) (xs : List Str) : ((xs.filter f).map D.str ++ [D.non])[0]? = some (optS (xs.find? g)) := by
  induction xs with
  | nil => rfl
  | cons x r ih =>
    rw [List.filter_cons, List.find?_cons, ← h x]
    cases f x with
    | true => rfl
    | false => exact ih
theorem sum_cutL (c : Nat) : ∀ (l acc : List Nat), ((cutL c acc l).map List.length).sum + (cutL c acc l).length = acc.length + l.length + 1
  | [], acc => by simp [cutL]
  | x :: r, acc => by
    rw [cutL]
    by_cases h : x = c
    · rw [if_pos h, List.map_cons, List.sum_cons, List.length_cons]
      have := sum_cutL c r []
      simp only [List.length_nil, List.length_cons] at this ⊢
      omega
    · rw [if_neg h, sum_cutL c r, List.length_append, List.length_cons, List.length_cons, List.length_nil]
      omega
theorem sum_splS (c : Nat) (x : Str) : ((splS c x).map (·.length)).sum + (splS c x).length = x.length + 1 := by
  have e : (splS c x).map (·.length) = ((splS c x).map tl).map List.length := by
    rw [List.map_map]
    exact List.map_congr_left fun y _ => len_tl y
  have e2 : (splS c x).length = ((splS c x).map tl).length := by rw [List.length_map]
  rw [e, e2, tl_splS, sum_cutL, len_tl]
  simp

def T_covers {m : Mem} : DTS m :=
  (dRet (dOrV (dCm eqC (dVar 1) (dVar 0)) (dMt "str" swD (dVar 1) (daCons (dOp addD (dVar 0) (dC (D.str (Str.ofString ".")))) daNil))))
theorem read_covers {m : Mem} : ∀ ds s Qd, (spCovers : DSp m) ds s Qd → (T_covers : DTS m) (endsOf Qd) (startD ["path", "other"] ds) s := by
  intro ds s Qd h
  obtain ⟨p, o, rfl, hl, hQ⟩ := h
  have hd : (Str.ofString ".") = dot := by decide +kernel
  refine ⟨rfl, rfl, _, rfl, ?_⟩
  rw [eqs]
  unfold coversS at hQ
  rw [beq_dec] at hQ
  by_cases e : o = p
  · rw [decide_eq_true e, Bool.true_or] at hQ
    rw [decide_eq_true e]
    exact hQ
  · rw [decide_eq_false e, Bool.false_or] at hQ
    rw [decide_eq_false e]
    refine ⟨rfl, ?_, o, p ++ Str.ofString ".", rfl, rfl, ?_⟩
    · rw [hd]
      show p.length + 1 ≤ strLim
      have : strLim = 1000000 := rfl
      omega
    · rw [hd]
      exact hQ
def T_covered {m : Mem} : DTS m :=
  (dSeq (dFor (diSeq (dVar 0)) (gN 2)
        (dIf (dTr (dCall spCovers (daCons (dVar 2) (daCons (dVar 1) daNil)))) (dRet (dVar 2)) dNext))
      (dRet (dC D.non)))
theorem read_covered {m : Mem} : ∀ ds s Qd, (spCovered : DSp m) ds s Qd → (T_covered : DTS m) (endsOf Qd) (startD ["paths", "path", "candidate"] ds) s := by
  intro ds s Qd h
  obtain ⟨ps, x, rfl, hl, hQ⟩ := h
  -- the loop: none of those that are done covers x
  refine ⟨_, rfl, fun pre ρ s' => s' = s ∧ (∃ c, ρ = [.sh (.tup (ps.map .str)), .sh (.str x), c]) ∧ ∃ qs, pre = qs.map D.str ∧ ∀ p ∈ qs, coversS p x = false, ⟨rfl, ⟨_, rfl⟩, [], rfl, by simp⟩, ?_, ?_⟩
  · rintro pre y post ρ s' e ⟨rfl, ⟨c, rfl⟩, qs, rfl, hq⟩
    obtain ⟨q, rs, e1, rfl, rfl⟩ : ∃ q rs, ps = qs ++ q :: rs ∧ y = D.str q ∧ post = rs.map .str := by
      obtain ⟨l1, l2, e1, e2, e3⟩ := List.map_eq_append_iff.mp e
      obtain ⟨q, rs, e4, e5, e6⟩ := List.map_eq_cons_iff.mp e3
      have h12 : l1 = qs := map_str_inj e2
      subst h12
      exact ⟨q, rs, by rw [e1, e4], e5.symm, e6.symm⟩
    refine ⟨q, x, rfl, hl q (by rw [e1]; simp), _, rfl, ?_⟩
    cases hc : coversS q x with
    | true =>
      have e2 : ps.find? (fun p => coversS p x) = some q := by
        rw [e1, List.find?_append, List.find?_eq_none.mpr (fun p hp => by rw [hq p hp]; simp), List.find?_cons, hc]
        rfl
      rw [e2] at hQ
      exact hQ
    | false =>
      refine ⟨rfl, ⟨_, rfl⟩, qs ++ [q], by rw [List.map_append]; rfl, fun p hp => ?_⟩
      rcases List.mem_append.mp hp with h | h
      · exact hq p h
      · rw [List.mem_singleton.mp h]; exact hc
  · rintro ρ s' ⟨rfl, ⟨c, rfl⟩, qs, e, hq⟩
    have e1 : ps = qs := map_str_inj e
    subst e1
    rw [List.find?_eq_none.mpr (fun p hp => by rw [hq p hp]; simp)] at hQ
    exact hQ
def T__law_covers {m : Mem} : DTS m :=
  (dSeq (dSet 2 (dMt "str" splitD (dVar 0) (daCons (dC (D.str (Str.ofString "."))) daNil)))
      (dRet (dCm eqC (dSl slD (dMt "str" splitD (dVar 1) (daCons (dC (D.str (Str.ofString "."))) daNil)) doNone (doSome (dB lenD (daCons (dVar 2) daNil)))) (dVar 2))))
theorem read__law_covers {m : Mem} : ∀ ds s Qd, (spLcov : DSp m) ds s Qd → (T__law_covers : DTS m) (endsOf Qd) (startD ["_law_path_here", "_law_other", "_law_names"] ds) s := by
  intro ds s Qd h
  obtain ⟨p, o, rfl, hQ⟩ := h
  have hd : (Str.ofString ".") = (⟨#[46]⟩ : Str) := by decide +kernel
  refine ⟨rfl, p, 46, rfl, by rw [hd], by decide, ?_⟩
  refine ⟨rfl, o, 46, rfl, by rw [hd], by decide, _, _, rfl, rfl, _, rfl, ?_⟩
  show eqC (.lst (cutD ((splS 46 o).map .str) none (some (((splS 46 p).map D.str).length : Nat)))) (.lst ((splS 46 p).map .str)) (fun k => Qd (.bl k) s)
  rw [cut_take, List.length_map, ← List.map_take]
  refine ⟨plain_lst _, plain_lst _, ?_⟩
  show Qd (.bl (eqDs _ _)) s
  rw [eqss]
  exact hQ
def T__law_same {m : Mem} : DTS m :=
  (dSeq (dIf (dTr (dIsT (dVar 1) Tg.tup Tg.lst)) (dSeq (dIf (dOrT (dCmT neC (dB isiD (daCons (dVar 1) (daCons (dC (D.any (V.ty "tuple"))) daNil))) (dB isiD (daCons (dVar 0) (daCons (dC (D.any (V.ty "tuple"))) daNil)))) (dCmT neC (dB isiD (daCons (dVar 1) (daCons (dC (D.any (V.ty "list"))) daNil))) (dB isiD (daCons (dVar 0) (daCons (dC (D.any (V.ty "list"))) daNil))))) (dRet (dC (D.bl false))) dNext)
        dNever) dNext)
      (dSeq (dIf (dCmT isD' (dVar 1) (dC D.non)) (dRet (dCm isD' (dVar 0) (dC D.non))) dNext)
      (dSeq (dIf (dTr (dB isiD (daCons (dVar 1) (daCons (dC (D.any (V.ty "str"))) daNil)))) (dRet (dAndV (dB isiD (daCons (dVar 0) (daCons (dC (D.any (V.ty "str"))) daNil))) (dCm eqC (dVar 0) (dVar 1)))) dNext)
      (dSeq (dIf (dOrT (dTr (dB isiD (daCons (dVar 1) (daCons (dC (D.any (V.ty "bool"))) daNil)))) (dTr (dB isiD (daCons (dVar 0) (daCons (dC (D.any (V.ty "bool"))) daNil))))) (dRet (dAndV (dB isiD (daCons (dVar 0) (daCons (dC (D.any (V.ty "bool"))) daNil))) (dAndV (dB isiD (daCons (dVar 1) (daCons (dC (D.any (V.ty "bool"))) daNil))) (dCm eqC (dVar 0) (dVar 1))))) dNext)
      (dSeq (dIf (dTr (dB isiD (daCons (dVar 1) (daCons (dC (D.any (V.ty "int"))) daNil)))) (dRet (dAndV (dB isiD (daCons (dVar 0) (daCons (dC (D.any (V.ty "int"))) daNil))) (dCm eqC (dVar 0) (dVar 1)))) dNext)
      dNever)))))
theorem read__law_same {m : Mem} : ∀ ds s Qd, (spSame0 : DSp m) ds s Qd → (T__law_same : DTS m) (endsOf Qd) (startD ["_law_found", "_law_due", "_law_one", "_law_other"] ds) s := by
  intro ds s Qd h
  obtain ⟨x, y, rfl, hQ⟩ := h
  cases y with
  | none =>
    refine ⟨_, rfl, _, rfl, (fun _ => by intro z; cases z), (fun _ => by cases x <;> (intro z; cases z)), ?_⟩
    have e : isNo (optS x) = decide (x = none) := by cases x <;> rfl
    show Qd (.bl (isNo (optS x))) s
    rw [e]
    exact hQ
  | some y =>
    refine ⟨_, rfl, _, rfl, (fun _ => by intro z; cases z), _, .str, _, rfl, rfl, (by intro z; cases z), _, rfl, ?_⟩
    cases x with
    | none => exact ⟨_, .str, .non, rfl, rfl, (by intro z; cases z), _, rfl, hQ⟩
    | some x =>
      refine ⟨_, .str, .str, rfl, rfl, (by intro z; cases z), _, rfl, rfl, rfl, ?_⟩
      show Qd (.bl (eqD (.str x) (.str y))) s
      rw [eqs]
      have e : decide (some x = some y) = decide (x = y) := by
        by_cases h : x = y
        · subst h; simp
        · rw [decide_eq_false h, decide_eq_false (fun z => h (Option.some.inj z))]
      rw [e] at hQ
      exact hQ
def T__law_name : DTS Mem.deck :=
  (dSeq (dSet 1 (dC (D.str (Str.ofString "abcdefghijklmnopqrstuvwxyz"))))
      (dSeq (dSet 2 (dOp ixD (dLst (daCons (dC (D.int 1)) (daCons (dC (D.int 2)) (daCons (dC (D.int 3)) (daCons (dC (D.int 8)) (daCons (dC (D.int 4)) (daCons (dC (D.int 1)) (daCons (dC (D.int 6)) (daCons (dC (D.int 2)) daNil))))))))) (dCall spNext (daCons (dVar 0) (daCons (dC (D.int 8)) daNil)))))
      (dRet (dMt "str" joinD (dC (D.str (Str.ofString ""))) (daCons (dLc (diR1 (daCons (dVar 2) daNil)) (gN 3) dYes (dOp ixD (dVar 1) (dCall spNext (daCons (dVar 0) (daCons (dC (D.int 26)) daNil)))) [3]) daNil)))))
theorem read__law_name : ∀ ds s Qd, (spName : DSp Mem.deck) ds s Qd → (T__law_name : DTS Mem.deck) (endsOf Qd) (startD ["_law_deck_here", "_law_letters", "_law_many", "_law_k"] ds) s := by
  intro ds s Qd h
  obtain ⟨a, b, c, hs, rfl, hn, hQ⟩ := h
  refine ⟨by decide, a, b, c, 8, hs, rfl, by decide, by decide, by omega, fun r k h0 h1 hk => ?_⟩
  obtain ⟨n, hn8, hat⟩ := pick_ints [1, 2, 3, 8, 4, 1, 6, 2] r h0 h1
  have hb : 1 ≤ n ∧ n ≤ 8 := (by decide : ∀ n ∈ [(1 : Int), 2, 3, 8, 4, 1, 6, 2], 1 ≤ n ∧ n ≤ 8) n hn8
  refine ⟨_, hat, rfl, ⟨n, rfl, by omega, by omega, ?_⟩⟩
  have hL : Str.ofString "" = (⟨#[]⟩ : Str) := by decide +kernel
  have hd : (Str.ofString ".") = dot := by decide +kernel
  refine ⟨by rw [rngD_length]; exact Nat.le_of_lt (small1000 (by omega)), fun pre acc s' => s'.adr = s.adr ∧ s'.n = k + pre.length ∧ ∃ ls : List Nat, acc = (ls.map one).map D.str ∧ ls.length = pre.length ∧ ∀ c ∈ ls, 97 ≤ c ∧ c ≤ 122, ⟨rfl, rfl, [], rfl, rfl, by simp⟩, ?_, ?_⟩
  · rintro pre x post acc s' e - ⟨e1, e2, ls, rfl, hl, hc⟩
    have hp : pre.length < n.toNat := by
      have := congrArg List.length e
      rw [rngD_length, List.length_append, List.length_cons] at this
      omega
    refine ⟨rfl, a, b, c, 26, e1.trans hs, rfl, by decide, by decide, by omega, fun r' k' g0 g1 gk => ?_⟩
    obtain ⟨ch, c1, c2, hat2⟩ := letter_at g0 g1
    refine ⟨ch, hat2, rfl, e1, by show k' = _; rw [List.length_append, List.length_singleton]; omega, ls ++ [ch], by rw [List.map_append, List.map_append]; rfl, by rw [List.length_append, List.length_append, hl]; rfl, fun c' hc' => ?_⟩
    rcases List.mem_append.mp hc' with z | z
    · exact hc c' z
    · rw [List.mem_singleton.mp z]; exact ⟨c1, c2⟩
  · rintro acc s' - ⟨e1, e2, ls, rfl, hl, hc⟩
    rw [rngD_length] at e2 hl
    refine ⟨_, ls.map one, rfl, .inl rfl, ?_, ?_⟩
    · rw [hL, sum_ones, List.length_map]
      show ls.length + ls.length * 0 ≤ strLim
      have : strLim = 1000000 := rfl
      omega
    · show Qd (.str (joinS _ _)) s'
      rw [hL]
      have := hQ _ s'.n (nameOk_of (by omega) (by omega) hc) (by omega)
      rw [← e1] at this
      exact this
def T__law_pool : DTS Mem.deck :=
  (dSeq (dSetLcO 2 (diR1 (daCons (dVar 1) daNil)) (gN 3) dYes (dCall spName (daCons (dVar 0) daNil)) [3])
      (dSeq (dIf (dCmT ltD (dB lenD (daCons (dIxO 2 (dC (D.int 0))) daNil)) (dC (D.int 8))) (dStO 2 (dOp addD (dIxO 2 (dC (D.int 0))) (dOp ixD (dC (D.str (Str.ofString "abcdefghijklmnopqrstuvwxyz"))) (dCall spNext (daCons (dVar 0) (daCons (dC (D.int 26)) daNil))))) (dC (D.int 1))) (dStO 2 (dSl slD (dIxO 2 (dC (D.int 0))) doNone (doSome (dC (D.int 7)))) (dC (D.int 1))))
      (dRet (dVar 2))))
theorem read__law_pool : ∀ ds s Qd, (spPool : DSp Mem.deck) ds s Qd → (T__law_pool : DTS Mem.deck) (endsOf Qd) (startD ["_law_deck_here", "_law_many", "_law_found", "_law_k"] ds) s := by
  intro ds s Qd h
  obtain ⟨a, b, c, n, hs, rfl, h2, h10, hn, hQ⟩ := h
  refine ⟨n, rfl, by omega, by omega, by rw [rngD_length]; exact Nat.le_of_lt (small1000 (by omega)), fun pre acc s' => s'.adr = s.adr ∧ s'.n ≤ s.n + 20 * pre.length ∧ ∃ xs : List Str, acc = xs.map D.str ∧ xs.length = pre.length ∧ ∀ x ∈ xs, NameOk x, ⟨rfl, Nat.le_refl _, [], rfl, rfl, by simp⟩, ?_, ?_⟩
  · rintro pre x post acc s' e - ⟨e1, e2, xs, rfl, hl, hc⟩
    have hp : pre.length < n.toNat := by
      have := congrArg List.length e
      rw [rngD_length, List.length_append, List.length_cons] at this
      omega
    refine ⟨rfl, a, b, c, e1.trans hs, rfl, by omega, fun y k' hy hk => ?_⟩
    refine ⟨rfl, e1, by show k' ≤ _; rw [List.length_append, List.length_singleton]; omega, xs ++ [y], by rw [List.map_append]; rfl, by rw [List.length_append, List.length_append, hl]; rfl, fun c' hc' => ?_⟩
    rcases List.mem_append.mp hc' with z | z
    · exact hc c' z
    · rw [List.mem_singleton.mp z]; exact hy
  · rintro acc s' - ⟨e1, e2, xs, rfl, hl, hc⟩
    rw [rngD_length] at e2 hl
    obtain ⟨x, y, r, rfl⟩ : ∃ x y r, xs = x :: y :: r := by
      match xs, hl with
      | [], hl => exact absurd hl (by show ¬ (0 = _); omega)
      | [_], hl => exact absurd hl (by show ¬ (1 = _); omega)
      | x :: y :: r, _ => exact ⟨x, y, r, rfl⟩
    have hx := hc x (by simp)
    have fin : ∀ (z : Str) (k : Nat), NameOk z → k ≤ s.n + 300 → Qd (.lst ((x :: z :: r).map .str)) ⟨s'.adr, k⟩ := fun z k hz hk => by
      rw [e1]
      refine hQ _ k (by rw [← hl]; rfl) (fun w hw => ?_) hk
      rcases List.mem_cons.mp hw with rfl | hw
      · exact hx
      · rcases List.mem_cons.mp hw with rfl | hw
        · exact hz
        · exact hc w (by simp [hw])
    refine ⟨_, rfl, ⟨⟨_, rfl⟩, 0, _, .str x, rfl, rfl, atI_nat (j := 0) rfl, .str x, x.length, rfl, rfl, ?_⟩⟩
    refine ifBd (fun hlt => ?_) fun hge => ?_
    · refine ⟨⟨_, rfl⟩, 0, _, .str x, rfl, rfl, atI_nat (j := 0) rfl, ?_⟩
      refine ⟨a, b, c, 26, e1.trans hs, rfl, by decide, by decide, by omega, fun r' k' g0 g1 gk => ?_⟩
      obtain ⟨ch, c1, c2, hat2⟩ := letter_at g0 g1
      refine ⟨ch, hat2, ⟨?_, ⟨_, rfl⟩, 1, _, 1, rfl, rfl, ixN_n (j := 1) (by rw [List.length_map]; show 1 < r.length + 1 + 1; omega), ?_⟩⟩
      · show x.length + 1 ≤ strLim
        have : strLim = 1000000 := rfl
        omega
      refine fin (x ++ ⟨#[ch]⟩) k' ⟨by rw [len_tl, tl_append, List.length_append]; show 1 ≤ (tl x).length + 1; omega, by rw [len_tl, tl_append, List.length_append, ← len_tl]; show x.length + 1 ≤ 8; omega, fun c' hc' => by
        rw [tl_append] at hc'
        rcases List.mem_append.mp hc' with z | z
        · exact hx.2.2 c' z
        · rw [List.mem_singleton.mp z]; exact ⟨c1, c2⟩⟩ (by omega)
    · refine ⟨⟨_, rfl⟩, 0, _, .str x, rfl, rfl, atI_nat (j := 0) rfl, 7, rfl, ⟨_, rfl⟩, 1, _, 1, rfl, rfl, ixN_n (j := 1) (by rw [List.length_map]; show 1 < r.length + 1 + 1; omega), ?_⟩
      have e7 : tl (cutS x none (some 7)) = (tl x).take 7 := tl_cut x 7
      have hx8 := hx.2.1
      have hl7 : (tl (cutS x none (some 7))).length = 7 := by rw [e7, List.length_take, ← len_tl]; omega
      refine fin (cutS x none (some 7)) s'.n ⟨by rw [len_tl, hl7]; decide, by rw [len_tl, hl7]; decide, fun c' hc' => ?_⟩ (by omega)
      rw [e7] at hc'
      exact hx.2.2 c' (List.mem_of_mem_take hc')
def T__law_path : DTS Mem.deck :=
  (dSeq (dSet 3 (dOp addD (dC (D.int 1)) (dB minD (daCons (dOp subD (dVar 2) (dC (D.int 1))) (daCons (dOp ixD (dLst (daCons (dC (D.int 1)) (daCons (dC (D.int 2)) (daCons (dC (D.int 1)) (daCons (dC (D.int 2)) (daCons (dC (D.int 3)) (daCons (dC (D.int 0)) (daCons (dC (D.int 5)) (daCons (dC (D.int 1)) daNil))))))))) (dCall spNext (daCons (dVar 0) (daCons (dC (D.int 8)) daNil)))) daNil)))))
      (dRet (dMt "str" joinD (dC (D.str (Str.ofString "."))) (daCons (dLc (diR1 (daCons (dVar 3) daNil)) (gN 4) dYes (dOp ixD (dVar 1) (dCall spNext (daCons (dVar 0) (daCons (dB lenD (daCons (dVar 1) daNil)) daNil)))) [4]) daNil))))
theorem read__law_path : ∀ ds s Qd, (spPath : DSp Mem.deck) ds s Qd → (T__law_path : DTS Mem.deck) (endsOf Qd) (startD ["_law_deck_here", "_law_pool_here", "_law_most", "_law_many", "_law_k"] ds) s := by
  intro ds s Qd h
  obtain ⟨a, b, c, pool, most, hs, rfl, h1, h10, hp0, hp100, hp8, hn, hQ⟩ := h
  refine ⟨by decide, a, b, c, 8, hs, rfl, by decide, by decide, by omega, fun r k h0 h1' hk => ?_⟩
  obtain ⟨n, hn8, hat⟩ := pick_ints [1, 2, 1, 2, 3, 0, 5, 1] r h0 h1'
  have hb : 0 ≤ n ∧ n ≤ 5 := (by decide : ∀ n ∈ [(1 : Int), 2, 1, 2, 3, 0, 5, 1], 0 ≤ n ∧ n ≤ 5) n hn8
  refine ⟨_, hat, most - 1, n, rfl, ?_⟩
  have hm : ∃ w : Int, 1 + (if n < most - 1 then n else most - 1) = w ∧ 1 ≤ w ∧ w ≤ 6 ∧ w ≤ most := by
    refine ⟨_, rfl, ?_⟩
    by_cases h : n < most - 1
    · rw [if_pos h]; omega
    · rw [if_neg h]; omega
  obtain ⟨w, ew, w1, w6, wm⟩ := hm
  have hd : (Str.ofString ".") = (⟨#[46]⟩ : Str) := by decide +kernel
  refine ⟨rfl, ⟨w, by show [D.int (1 + _)] = _; rw [ew], by omega, by omega, ?_⟩⟩
  refine ⟨by rw [rngD_length]; exact Nat.le_of_lt (small1000 (by omega)), fun pre acc s' => s'.adr = s.adr ∧ s'.n = k + pre.length ∧ ∃ ls : List Str, acc = ls.map D.str ∧ ls.length = pre.length ∧ ∀ c ∈ ls, c ∈ pool, ⟨rfl, rfl, [], rfl, rfl, by simp⟩, ?_, ?_⟩
  · rintro pre x post acc s' e - ⟨e1, e2, ls, rfl, hl, hc⟩
    have hp : pre.length < w.toNat := by
      have := congrArg List.length e
      rw [rngD_length, List.length_append, List.length_cons] at this
      omega
    refine ⟨rfl, .lst (pool.map .str), _, rfl, rfl, a, b, c, _, e1.trans hs, rfl, by rw [List.length_map]; omega, by rw [List.length_map]; omega, by omega, fun r' k' g0 g1 gk => ?_⟩
    rw [List.length_map] at g1
    obtain ⟨y, hy, hat2⟩ := pick_map D.str pool r' g0 g1
    refine ⟨_, hat2, rfl, e1, by show k' = _; rw [List.length_append, List.length_singleton]; omega, ls ++ [y], by rw [List.map_append]; rfl, by rw [List.length_append, List.length_append, hl]; rfl, fun c' hc' => ?_⟩
    rcases List.mem_append.mp hc' with z | z
    · exact hc c' z
    · rw [List.mem_singleton.mp z]; exact hy
  · rintro acc s' - ⟨e1, e2, ls, rfl, hl, hc⟩
    rw [rngD_length] at e2 hl
    have q2 := sum_le8 fun y hy => hp8 y (hc y hy)
    refine ⟨_, ls, rfl, .inl rfl, ?_, ?_⟩
    · rw [hd]
      show _ + ls.length * 1 ≤ strLim
      have : strLim = 1000000 := rfl
      omega
    · show Qd (.str (joinS _ _)) s'
      rw [hd]
      have := hQ _ s'.n ⟨ls, by omega, by omega, hc, rfl⟩ (by omega)
      rw [← e1] at this
      exact this
end DL

set_option Elab.async false
set_option linter.all false
set_option maxRecDepth 100000
namespace DL
open PySem PySem.Spec PyProof.Rows L2 TL

/-! ### {} and {x: y} -/
section
variable {X : Cx} {m : Mem} {E : Ent m} {pos : Pos}
def dDict0 {m : Mem} : DT m := fun ρ s Q => Q (.dic [] []) ρ s
theorem de_dict0 : PE X (.Dict [] [] pos) (up X.K m dDict0) := PE.imp pe_dnewK fun σ H Q h => by
  obtain ⟨F, ρ, s, Qd, r, ht, hQ⟩ := h
  intro p np
  have g : Grow F H (upd F p (.dK [])) (upd H p (.dK [])) := Grow.new r.sub np
  exact hQ _ ρ s _ _ _ ht (r.grow g) g.stp ⟨p, [], rfl, upd_same, Nat.zero_le _, rfl, .nil⟩
def dDict1 {m : Mem} (i j : Nat) : DT m := fun ρ s Q => ∃ x d, ρ[i]? = some (.sh (.str x)) ∧ ρ[j]? = some (.sh d) ∧ Q (.dic [.inr x] [d]) ρ s
theorem de_dict1 (i j : Nat) {x y : Str} {p1 p2 : Pos} (hN : X.N[i]? = some x := by rfl) (hv : Vis X.env.scope x := by first | exact Or.inl rfl | exact Or.inr (Or.inl rfl) | exact Or.inr (Or.inr rfl)) (hd : (x == ("__debug__" : Str)) = false := by decide)
    (hcd : (x == ("__classdict__" : Str)) = false := by decide) (hN2 : X.N[j]? = some y := by rfl) (hv2 : Vis X.env.scope y := by first | exact Or.inl rfl | exact Or.inr (Or.inl rfl) | exact Or.inr (Or.inr rfl)) (hd2 : (y == ("__debug__" : Str)) = false := by decide)
    (hcd2 : (y == ("__classdict__" : Str)) = false := by decide) : PE X (.Dict [some (.Name x p1)] [.Name y p2] pos) (up X.K m (dDict1 i j)) :=
  PE.imp (pe_disp (pps_cons (pv i hN hv hd hcd) (pv j hN2 hv2 hd2 hcd2) pps_nil) (by rfl) (by rfl) (by simp) (by show 1 ≤ 15; decide)) fun σ H Q h => by
    obtain ⟨F, ρ, s, Qd, r, ⟨z, d, e1, e2, q⟩, hQ⟩ := h
    obtain ⟨v1, h1, r1⟩ := r.sh i _ e1
    obtain ⟨v2, h2, r2⟩ := r.sh j _ e2
    obtain ⟨rfl, hz⟩ := r1
    intro p np
    refine ⟨_, h1, _, h2, upd_same, [(.inr z, v2)], rfl, (by show 1 ≤ 15; decide), ?_⟩
    have eu : upd (upd H p (.dK [])) p (.dK (mergeK [] [(.inr z, v2)])) = upd H p (.dK [(.inr z, v2)]) := by
      funext a
      by_cases ha : a = p
      · subst ha; rw [upd_same, upd_same]; rfl
      · rw [upd_ne ha, upd_ne ha, upd_ne ha]
    rw [eu]
    have g : Grow F H (upd F p (.dK [(.inr z, v2)])) (upd H p (.dK [(.inr z, v2)])) := Grow.new r.sub np
    exact hQ _ ρ s _ _ _ q (r.grow g) g.stp ⟨p, [(.inr z, v2)], rfl, upd_same, (by show 1 ≤ sizeLine; decide), rfl, .one (Rep.mono g.fF _ _ r2)⟩
end
end DL

set_option Elab.async false
set_option linter.all false
set_option maxRecDepth 100000
set_option maxHeartbeats 1000000
namespace DL
open PySem PySem.Spec PyProof.Rows L2 TL

theorem line_of2 {n : Nat} (h : n ≤ 1000000) : n ≤ sizeLine := Nat.le_trans h (by rw [sizeLine_eq]; decide)
theorem lz {n : Nat} (h : Nat.ble n 1000000 = true) : n ≤ sizeLine := line_of2 (Nat.le_of_ble_eq_true h)
theorem len_add (a b : Str) : (a ++ b).length = a.length + b.length := by rw [len_tl, tl_append, List.length_append, ← len_tl, ← len_tl]
theorem ix_pick {L : List D} {r : Int} {Q : D → Prop} (h0 : 0 ≤ r) (h1 : r < (L.length : Nat)) (h : ∀ d ∈ L, Q d) : ixD (.lst L) (.int r) Q := by
  obtain ⟨d, hd, hat⟩ := pick_any L r h0 h1
  exact ⟨d, hat, h d hd⟩
theorem cpow30 : CPow 10 30 := by unfold CPow; decide
theorem name_upper {x : Str} (h : NameOk x) : sOk (Txt.upper x) = true := by
  have hA : ∀ c ∈ x.cps.toList, c < 128 := fun c hc => by have := h.2.2 c hc; omega
  rw [PyProof.Rows.upper_ascii hA]
  refine sOk_of ?_ fun c hc => ?_
  · show (x.cps.map up1).size ≤ strLim
    rw [Array.size_map]
    exact Nat.le_trans h.2.1 (by decide)
  · have hc' : c ∈ (x.cps.map up1).toList := hc
    rw [Array.toList_map] at hc'
    obtain ⟨e, he, rfl⟩ := List.mem_map.mp hc'
    have := hA e he
    unfold up1
    split <;> omega
theorem fnG_never {P : Program} {w : World} {K : PySem.W.Frag} {mg : Str → Option Value} {base : Heap} {m : Mem} {k n : Nat} {f : Addr} {fd : FuncData} {ps : List Str} (h : n = ps.length) : FnG P w K mg base CX0 k f fd ps (lift K m n fun _ _ _ => False) :=
  ⟨fun vs H Q E q => by rw [← h]; exact q.1, fun A o s H a us vs Q E _ _ _ _ q => by
    obtain ⟨_, _, _, _, _, _, _, _, _, z, _⟩ := q
    exact z.elim⟩
/-- data that is like itself in all parts -/
def smD : Nat → D → Prop
  | _, .non => True
  | _, .bl _ => True
  | _, .int _ => True
  | _, .str _ => True
  | 0, .lst _ => False
  | n + 1, .lst xs => xs.length ≤ 1000 ∧ ∀ x ∈ xs, smD n x
  | 0, .tup _ => False
  | n + 1, .tup xs => xs.length ≤ 1000 ∧ ∀ x ∈ xs, smD n x
  | _, .dic ks xs => repOk (.dic ks xs) = true
  | _, _ => False
def spS {m : Mem} : Nat → DSp m
  | 0 => fun _ _ _ => False
  | n + 1 => fun ds s Q => ∃ d, ds = [d, d] ∧ smD n d ∧ Q (.bl true) s
theorem spS_len {m : Mem} : ∀ (n : Nat) ds s Qd, (spS n : DSp m) ds s Qd → ds.length = 2
  | 0, _, _, _, h => h.elim
  | n + 1, _, _, _, ⟨_, e, _⟩ => by rw [e]; rfl
def spOdd : DSp Mem.deck := fun ds s Q => ∃ a b c x, s.adr = some (a, b, c) ∧ ds = [.any (.ref a), .str x] ∧ NameOk x ∧ s.n + 20 < drawLim ∧ ∀ d k, smD 3 d → k ≤ s.n + 20 → Q d ⟨s.adr, k⟩
theorem spOdd_len : ∀ ds s Qd, spOdd ds s Qd → ds.length = 2 := fun ds s Qd ⟨_, _, _, _, _, e, _⟩ => by rw [e]; rfl
theorem rep_empty : repOk (.dic [] []) = true := by decide +kernel
theorem rep_name {x : Str} (h : NameOk x) : repOk (.dic [.inr x] [.str x]) = true := by
  have hr : (reprText x).length ≤ 82 := by
    have := PySem.StrLaws.reprText_len x fun c hc => by have := h.2.2 c hc; omega
    have := h.2.1
    omega
  have e : (pyR (.dic [.inr x] [.str x])).shown.length = (reprText x).length + (reprText x).length + 4 := by
    simp only [pyR, pyRk, keyPy, PyData.shown, PyData.shownKv]
    unfold dictText
    have e1 : ∀ z : Str, Str.join ", " [z] = z := fun z => rfl
    rw [e1, len_add, len_add, len_add, len_add]
    have e2 : (Str.ofString "{").length = 1 := by decide
    have e3 : (Str.ofString "}").length = 1 := by decide
    have e4 : (Str.ofString ": ").length = 2 := by decide
    rw [e2, e3, e4]
    omega
  unfold repOk
  rw [Bool.and_eq_true, Bool.and_eq_true, decide_eq_true_eq, e]
  exact ⟨by simp [repD, repDs], by simp [pyR, pyRk, keyPy, PyData.showable, PyData.showableKv], line_of2 (by omega)⟩
/-! ### the errors: by their places in the text -/
def exI : List Nat := [2, 3, 4, 5, 6, 7, 8, 9, 10, 11, 12, 13, 14, 15, 16, 17, 18, 19, 20, 21, 22, 23, 24, 25, 26, 27, 28]
def exF : List (Nat × Str) := [(3, "error"), (4, "index"), (5, "path"), (6, "error"), (7, "reason"), (8, "word"), (9, "line"), (9, "code"), (10, "index"), (11, "rule"), (11, "evidence"), (12, "evidence"), (13, "path"), (15, "path"), (16, "path"), (18, "path"), (19, "index"), (20, "ring"), (21, "thing"), (22, "limit"), (23, "name"), (24, "use"), (25, "path"), (26, "path"), (27, "index"), (28, "use")]
def nmE : Nat → Str
  | 2 => "BadBatch"
  | 3 => "BadBook"
  | 4 => "BadEdit"
  | 5 => "BadPath"
  | 6 => "BadProgram"
  | 7 => "BadReason"
  | 8 => "BadRule"
  | 9 => "BadText"
  | 10 => "BadUse"
  | 11 => "Breaks"
  | 12 => "Circular"
  | 13 => "Clash"
  | 14 => "Full"
  | 15 => "InUse"
  | 16 => "Itself"
  | 17 => "NothingToUndo"
  | 18 => "Overlap"
  | 19 => "Rejected"
  | 20 => "Ring"
  | 21 => "Taken"
  | 22 => "TooMany"
  | 23 => "Unclear"
  | 24 => "NoAllowance"
  | 25 => "NoModule"
  | 26 => "NoPart"
  | 27 => "NoRule"
  | 28 => "NoUse"
  | _ => ""
def kt (i j : Nat) : Bool := decide (i = j) || (decide (j = 1) && decide (i ≤ 23))
def kb (i : Nat) (t : Nat) : Bool := (decide (t = 0) && decide (24 ≤ i)) || (decide (t = 1) && decide (i ≤ 23))
def tyE : Nat → String
  | 0 => "LookupError"
  | 1 => "ValueError"
  | 2 => "KeyError"
  | _ => "IndexError"
/-- what the program's text makes of them -/
structure Hk (K : PySem.W.Frag) (a : Nat → Addr) : Prop where
  x : ∀ i ∈ exI, XC K (a i)
  n : ∀ p ∈ exF, PySem.W.findIn K (.ref (a p.1)) p.2 = some none
  t : ∀ i ∈ exI, ∀ j ∈ 1 :: exI, PySem.W.kitOne K (.ref (a i)) (.ref (a j)) = some (kt i j)
  b : ∀ i ∈ exI, ∀ j ∈ [0, 1, 2, 3], PySem.W.kitOne K (.ref (a i)) (.type (tyE j)) = some (kb i j)
def hkB (K : PySem.W.Frag) (a : Nat → Addr) : Bool :=
  (exI.all fun i => if i ≤ 23 then xcB K (a i) bmV "ValueError.__new__" else xcB K (a i) bmL "LookupError.__new__") &&
  ((exF.all fun p => decide (PySem.W.findIn K (.ref (a p.1)) p.2 = some none)) &&
  ((exI.all fun i => (1 :: exI).all fun j => decide (PySem.W.kitOne K (.ref (a i)) (.ref (a j)) = some (kt i j))) &&
  (exI.all fun i => [0, 1, 2, 3].all fun j => decide (PySem.W.kitOne K (.ref (a i)) (.type (tyE j)) = some (kb i j)))))
theorem hk_of {K : PySem.W.Frag} {a : Nat → Addr} (h : hkB K a = true) : Hk K a := by
  unfold hkB at h
  rw [Bool.and_eq_true, Bool.and_eq_true, Bool.and_eq_true, List.all_eq_true, List.all_eq_true, List.all_eq_true, List.all_eq_true] at h
  obtain ⟨h1, h2, h3, h4⟩ := h
  refine ⟨fun i hi => ?_, fun p hp => of_decide_eq_true (h2 p hp), fun i hi j hj => of_decide_eq_true (List.all_eq_true.mp (h3 i hi) j hj), fun i hi j hj => of_decide_eq_true (List.all_eq_true.mp (h4 i hi) j hj)⟩
  have q := h1 i hi
  split at q
  · exact xc_of PySem.F.excBase_ValueError PySem.F.store_ValueError q
  · exact xc_of PySem.F.excBase_LookupError PySem.F.store_LookupError q
theorem hk_cast {K : PySem.W.Frag} {a b : Nat → Addr} (h : Hk K a) (e : ∀ i ∈ 1 :: exI, a i = b i) : Hk K b := by
  have e' : ∀ i ∈ exI, a i = b i := fun i hi => e i (List.mem_cons_of_mem _ hi)
  have ef : ∀ p ∈ exF, p.1 ∈ exI := by decide
  exact ⟨fun i hi => by rw [← e' i hi]; exact h.x i hi, fun p hp => by rw [← e' p.1 (ef p hp)]; exact h.n p hp, fun i hi j hj => by rw [← e' i hi, ← e j hj]; exact h.t i hi j hj, fun i hi j hj => by rw [← e' i hi]; exact h.b i hi j hj⟩
theorem isx {K : PySem.W.Frag} {a : Nat → Addr} (hk : Hk K a) {i j : Nat} {ns : List Str} {es : List D} {Q : D → Prop} (hi : i ∈ exI) (hj : j ∈ 1 :: exI) (q : Q (.bl (kt i j))) : isxD K [.exc (a i) ns es, .any (.ref (a j))] Q :=
  ⟨_, ns, es, _, _, _, rfl, hk.x i hi, rfl, hk.t i hi j hj, q⟩
theorem isb {K : PySem.W.Frag} {a : Nat → Addr} (hk : Hk K a) {i : Nat} {ns : List Str} {es : List D} {Q : D → Prop} (j : Nat) (hi : i ∈ exI) (hj : j ∈ [0, 1, 2, 3]) (q : Q (.bl (kb i j))) : isxD K [.exc (a i) ns es, .any (.ty (tyE j))] Q :=
  ⟨_, ns, es, _, _, _, rfl, hk.x i hi, rfl, hk.b i hi j hj, q⟩
def pr (i j : Nat) : D := .tup [.str (nmE j), .bl (kt i j)]
def spOther {m : Mem} (a : Nat → Addr) : DSp m := fun ds s Q => ∃ i ns es, ds = [.exc (a i) ns es] ∧ i ∈ exI ∧ Q (.lst [pr i 24, pr i 25, pr i 26, pr i 27, pr i 28]) s
theorem spOther_len {m : Mem} {a : Nat → Addr} : ∀ ds s Qd, (spOther a : DSp m) ds s Qd → ds.length = 1 := fun ds s Qd ⟨_, _, _, e, _⟩ => by rw [e]; rfl
def spKinds {m : Mem} (a : Nat → Addr) : DSp m := fun ds s Q => ∃ i ns es, ds = [.exc (a i) ns es] ∧ i ∈ exI ∧ Q (.lst [.str (nmE i)]) s
theorem spKinds_len {m : Mem} {a : Nat → Addr} : ∀ ds s Qd, (spKinds a : DSp m) ds s Qd → ds.length = 1 := fun ds s Qd ⟨_, _, _, e, _⟩ => by rw [e]; rfl
def row1 (a : Nat → Addr) (i : Nat) (nm f : Str) (x : D) : D := .tup [.exc (a i) [f] [x], .str nm, .lst [x], .lst [x]]
def row2 (a : Nat → Addr) (i : Nat) (nm g f : Str) (x y : D) : D := .tup [.exc (a i) [g, f] [y, x], .str nm, .lst [x, y], .lst [x, y]]
def madeL (a : Nat → Addr) (x y : D) : List D := [row1 a 3 "BadBook" "error" x, row1 a 4 "BadEdit" "index" x, row1 a 5 "BadPath" "path" x, row1 a 6 "BadProgram" "error" x, row1 a 7 "BadReason" "reason" x, row1 a 8 "BadRule" "word" x, row2 a 9 "BadText" "code" "line" x y, row1 a 10 "BadUse" "index" x, row2 a 11 "Breaks" "evidence" "rule" x y, row1 a 12 "Circular" "evidence" x, row1 a 13 "Clash" "path" x, row1 a 15 "InUse" "path" x, row1 a 16 "Itself" "path" x, row1 a 18 "Overlap" "path" x, row1 a 19 "Rejected" "index" x, row1 a 20 "Ring" "ring" x, row1 a 21 "Taken" "thing" x, row1 a 22 "TooMany" "limit" x, row1 a 23 "Unclear" "name" x]
def madeO (a : Nat → Addr) (x : D) : List D := [row1 a 24 "NoAllowance" "use" x, row1 a 25 "NoModule" "path" x, row1 a 26 "NoPart" "path" x, row1 a 27 "NoRule" "index" x, row1 a 28 "NoUse" "use" x]
def spMade {m : Mem} (a : Nat → Addr) : DSp m := fun ds s Q => ∃ x y, ds = [x, y] ∧ Q (.lst (madeL a x y)) s
theorem spMade_len {m : Mem} {a : Nat → Addr} : ∀ ds s Qd, (spMade a : DSp m) ds s Qd → ds.length = 2 := fun ds s Qd ⟨_, _, e, _⟩ => by rw [e]; rfl
def spMadeO {m : Mem} (a : Nat → Addr) : DSp m := fun ds s Q => ∃ x, ds = [x] ∧ Q (.lst (madeO a x)) s
theorem spMadeO_len {m : Mem} {a : Nat → Addr} : ∀ ds s Qd, (spMadeO a : DSp m) ds s Qd → ds.length = 1 := fun ds s Qd ⟨_, e, _⟩ => by rw [e]; rfl
/-- a row of the law's list -/
def RowOk (a : Nat → Addr) (x : D) (i : Nat) : Prop := ∃ ns es vs, x = .tup [.exc (a i) ns es, .str (nmE i), .lst vs, .lst vs] ∧ smD 4 (.lst vs)
theorem pairs_self {xs : List D} {pre post : List D} {x : D} (h : pairsD xs xs = pre ++ x :: post) : ∃ y ∈ xs, x = .tup [y, y] := by
  have e : (pairsD xs xs)[pre.length]? = some x := by rw [h]; simp
  obtain ⟨y, z, h1, h2, rfl⟩ := pairs_get e
  rw [h1] at h2
  cases h2
  exact ⟨y, List.mem_of_getElem? h1, rfl⟩
theorem reps_true (k : Nat) : (List.replicate k true).all id = true := by
  rw [List.all_eq_true]
  intro x hx
  rw [(List.mem_replicate.mp hx).2]
  rfl
/-- len(found) == len(due) and all([_law_same(..) ..]) of one sequence -/
theorem same_seq {m : Mem} {n : Nat} {d : D} {xs : List D} {s : m.S} {Qd : D → m.S → Prop} {ρ2 ρ3 : Sl} (hd : d = .lst xs ∨ d = .tup xs) (hz : xs.length ≤ 1000) (h : ∀ x ∈ xs, smD n x) (hQ : Qd (.bl true) s) :
    (dRet (dAndV (dCm eqC (dB lenD (daCons (dVar 0) daNil)) (dB lenD (daCons (dVar 1) daNil))) (dB allD (daCons (dLc (diZip (daCons (dVar 0) (daCons (dVar 1) daNil))) (gTup' 2 (gCons' (gN 2) (gCons' (gN 3) gNil'))) dYes (dCall (spS (n + 1)) (daCons (dVar 2) (daCons (dVar 3) daNil))) [2, 3]) daNil))) : DTS m) (endsOf Qd) [.sh d, .sh d, ρ2, ρ3] s := by
  have hl : lenOf d = some xs.length := by rcases hd with rfl | rfl <;> rfl
  have hzip : zipD d d = some (xs, xs) := by rcases hd with rfl | rfl <;> rfl
  have e : eqD (.int (xs.length : Nat)) (.int (xs.length : Nat)) = true := by simp [eqD]
  have hpl : (pairsD xs xs).length = xs.length := by simp [pairsD]
  refine ⟨d, _, rfl, hl, d, _, rfl, hl, rfl, rfl, ?_⟩
  rw [e]
  refine ⟨true, rfl, _, _, xs, xs, rfl, hzip, by rw [hpl]; exact line_of2 (by omega), fun pre acc s' => s' = s ∧ acc = (List.replicate pre.length true).map .bl, ⟨rfl, rfl⟩, fun pre x post acc s' heq hle hI => ?_, fun acc s' hle hI => ?_⟩
  · obtain ⟨rfl, rfl⟩ := hI
    obtain ⟨y, hy, rfl⟩ := pairs_self heq
    refine ⟨_, rfl, rfl, _, _, rfl, _, _, rfl, rfl, rfl, y, rfl, h y hy, rfl, rfl, ?_⟩
    rw [List.length_append, List.length_singleton, List.replicate_succ', List.map_append]
    rfl
  · obtain ⟨rfl, rfl⟩ := hI
    refine ⟨_, rfl, ?_⟩
    rw [reps_true]
    exact hQ
theorem hk_n {K : PySem.W.Frag} {a : Nat → Addr} (hk : Hk K a) {i : Nat} {f : Str} (h : (i, f) ∈ exF) : PySem.W.findIn K (.ref (a i)) f = some none := hk.n (i, f) h
def allPr (i : Nat) : List D := [pr i 2, pr i 3, pr i 4, pr i 5, pr i 6, pr i 7, pr i 8, pr i 9, pr i 10, pr i 11, pr i 12, pr i 13, pr i 14, pr i 15, pr i 16, pr i 17, pr i 18, pr i 19, pr i 20, pr i 21, pr i 22, pr i 23, pr i 24, pr i 25, pr i 26, pr i 27, pr i 28]
def hitD : D → Option D
  | .tup [n, .bl true] => some n
  | _ => none
theorem hits : ∀ i ∈ exI, (allPr i).filterMap hitD = [.str (nmE i)] := by
  intro i hi
  simp only [exI, List.mem_cons, List.not_mem_nil, or_false] at hi
  rcases hi with rfl | rfl | rfl | rfl | rfl | rfl | rfl | rfl | rfl | rfl | rfl | rfl | rfl | rfl | rfl | rfl | rfl | rfl | rfl | rfl | rfl | rfl | rfl | rfl | rfl | rfl | rfl <;> rfl
theorem isPr {i : Nat} : ∀ x ∈ allPr i, ∃ n b, x = .tup [.str n, .bl b] := by
  unfold allPr
  repeat first | exact (fun _ h => absurd h List.not_mem_nil) | refine List.forall_mem_cons.mpr ⟨⟨_, _, rfl⟩, ?_⟩
def plainL (a : Nat → Addr) : List D := [.tup [.exc (a 2) [] [], .str "BadBatch", .lst [], .lst []], .tup [.exc (a 14) [] [], .str "Full", .lst [], .lst []], .tup [.exc (a 17) [] [], .str "NothingToUndo", .lst [], .lst []]]
theorem sm1 {x : D} (hx : smD 3 x) : smD 4 (.lst [x]) := ⟨Nat.le_of_ble_eq_true rfl, fun y hy => by rw [List.mem_singleton.mp hy]; exact hx⟩
theorem sm2 {x y : D} (hx : smD 3 x) (hy : smD 3 y) : smD 4 (.lst [x, y]) := ⟨Nat.le_of_ble_eq_true rfl, fun z hz => by
  rcases List.mem_cons.mp hz with rfl | hz
  · exact hx
  · rw [List.mem_singleton.mp hz]; exact hy⟩
theorem sm0 : smD 4 (.lst []) := ⟨Nat.zero_le _, fun _ h => absurd h List.not_mem_nil⟩
theorem rowsR {a : Nat → Addr} {x y : D} (hx : smD 3 x) (hy : smD 3 y) : ∀ z ∈ plainL a ++ madeL a x y, ∃ i, i ∈ exI ∧ i ≤ 23 ∧ RowOk a z i := by
  refine List.forall_mem_append.mpr ⟨?_, ?_⟩
  · exact List.forall_mem_cons.mpr ⟨⟨2, by decide, by decide, _, _, _, rfl, sm0⟩, List.forall_mem_cons.mpr ⟨⟨14, by decide, by decide, _, _, _, rfl, sm0⟩, List.forall_mem_cons.mpr ⟨⟨17, by decide, by decide, _, _, _, rfl, sm0⟩, fun _ h => absurd h List.not_mem_nil⟩⟩⟩
  · unfold madeL
    exact List.forall_mem_cons.mpr ⟨⟨3, by decide, by decide, _, _, _, rfl, sm1 hx⟩, List.forall_mem_cons.mpr ⟨⟨4, by decide, by decide, _, _, _, rfl, sm1 hx⟩, List.forall_mem_cons.mpr ⟨⟨5, by decide, by decide, _, _, _, rfl, sm1 hx⟩, List.forall_mem_cons.mpr ⟨⟨6, by decide, by decide, _, _, _, rfl, sm1 hx⟩, List.forall_mem_cons.mpr ⟨⟨7, by decide, by decide, _, _, _, rfl, sm1 hx⟩, List.forall_mem_cons.mpr ⟨⟨8, by decide, by decide, _, _, _, rfl, sm1 hx⟩, List.forall_mem_cons.mpr ⟨⟨9, by decide, by decide, _, _, _, rfl, sm2 hx hy⟩, List.forall_mem_cons.mpr ⟨⟨10, by decide, by decide, _, _, _, rfl, sm1 hx⟩, List.forall_mem_cons.mpr ⟨⟨11, by decide, by decide, _, _, _, rfl, sm2 hx hy⟩, List.forall_mem_cons.mpr ⟨⟨12, by decide, by decide, _, _, _, rfl, sm1 hx⟩, List.forall_mem_cons.mpr ⟨⟨13, by decide, by decide, _, _, _, rfl, sm1 hx⟩, List.forall_mem_cons.mpr ⟨⟨15, by decide, by decide, _, _, _, rfl, sm1 hx⟩, List.forall_mem_cons.mpr ⟨⟨16, by decide, by decide, _, _, _, rfl, sm1 hx⟩, List.forall_mem_cons.mpr ⟨⟨18, by decide, by decide, _, _, _, rfl, sm1 hx⟩, List.forall_mem_cons.mpr ⟨⟨19, by decide, by decide, _, _, _, rfl, sm1 hx⟩, List.forall_mem_cons.mpr ⟨⟨20, by decide, by decide, _, _, _, rfl, sm1 hx⟩, List.forall_mem_cons.mpr ⟨⟨21, by decide, by decide, _, _, _, rfl, sm1 hx⟩, List.forall_mem_cons.mpr ⟨⟨22, by decide, by decide, _, _, _, rfl, sm1 hx⟩, List.forall_mem_cons.mpr ⟨⟨23, by decide, by decide, _, _, _, rfl, sm1 hx⟩, fun _ h => absurd h List.not_mem_nil⟩⟩⟩⟩⟩⟩⟩⟩⟩⟩⟩⟩⟩⟩⟩⟩⟩⟩⟩
theorem rowsO {a : Nat → Addr} {x : D} (hx : smD 3 x) : ∀ z ∈ madeO a x, ∃ i, i ∈ exI ∧ 24 ≤ i ∧ RowOk a z i := by
  unfold madeO
  exact List.forall_mem_cons.mpr ⟨⟨24, by decide, by decide, _, _, _, rfl, sm1 hx⟩, List.forall_mem_cons.mpr ⟨⟨25, by decide, by decide, _, _, _, rfl, sm1 hx⟩, List.forall_mem_cons.mpr ⟨⟨26, by decide, by decide, _, _, _, rfl, sm1 hx⟩, List.forall_mem_cons.mpr ⟨⟨27, by decide, by decide, _, _, _, rfl, sm1 hx⟩, List.forall_mem_cons.mpr ⟨⟨28, by decide, by decide, _, _, _, rfl, sm1 hx⟩, fun _ h => absurd h List.not_mem_nil⟩⟩⟩⟩⟩
theorem kbR {i : Nat} (h : i ≤ 23) : kb i 0 = false ∧ kb i 1 = true ∧ kt i 1 = true := by
  have h1 : ¬ 24 ≤ i := by omega
  unfold kb kt
  simp [h, h1]
theorem kbO {i : Nat} (h : 24 ≤ i) : kb i 0 = true ∧ kb i 1 = false ∧ kb i 2 = false ∧ kb i 3 = false ∧ kt i 1 = false := by
  have h1 : ¬ i ≤ 23 := by omega
  have h2 : ¬ i = 1 := by omega
  unfold kb kt
  simp [h, h1, h2]
theorem any4 {K : PySem.W.Frag} {a : Nat → Addr} (hk : Hk K a) {i : Nat} (hi : i ∈ exI) (h : 24 ≤ i) : PySem.W.kitAny K (.ref (a i)) [.ref (a 1), .type "ValueError", .type "KeyError", .type "IndexError"] = some false := by
  obtain ⟨_, h1, h2, h3, h4⟩ := kbO h
  have q1 := hk.t i hi 1 (by decide)
  have q2 := hk.b i hi 1 (by decide)
  have q3 := hk.b i hi 2 (by decide)
  have q4 := hk.b i hi 3 (by decide)
  rw [h4] at q1
  rw [h1] at q2
  rw [h2] at q3
  rw [h3] at q4
  exact kitAny_cons q1 (fun _ => kitAny_cons q2 (fun _ => kitAny_cons q3 (fun _ => kitAny_cons q4 (fun _ => kitAny_nil) fun z => nomatch z) fun z => nomatch z) fun z => nomatch z) fun z => nomatch z
theorem eq_self1 (x : Str) : eqD (.lst [.str x]) (.lst [.str x]) = true := by simp [eqD, eqDs]

def T_odd98 : DTS Mem.deck :=
  (dSeq (dSet 2 (dLst (daCons (dC D.non) (daCons (dC (D.bl true)) (daCons (dC (D.bl false)) (daCons (dC (D.int 0)) (daCons (dC (D.int 1)) (daCons (dUn negD (dC (D.int 1))) (daCons (dOp powD (dC (D.int 10)) (dC (D.int 30))) (daCons (dC (D.str (Str.ofString ""))) (daCons (dC (D.str (Str.ofString "."))) (daCons (dC (D.str (Str.ofString "A"))) (daCons (dC (D.str (Str.ofString "a."))) (daCons (dC (D.str (Str.ofString ".a"))) (daCons (dC (D.str (Str.ofString "a..b"))) (daCons (dC (D.str (Str.ofString "a b"))) (daCons (dC (D.str (Str.ofString "abcdefghi"))) (daCons (dC (D.str (Str.ofString "a\n"))) (daCons (dC (D.str (Str.ofString " a"))) daNil)))))))))))))))))))
      (dSeq (dSet 2 (dOp addD (dVar 2) (dLst (daCons (dC (D.str (Str.ofString "a.b.c.d.e.f.g"))) (daCons (dTup daNil) (daCons (dLst daNil) (daCons dDict0 (daCons (dTup (daCons (dVar 1) daNil)) (daCons (dLst (daCons (dVar 1) daNil)) (daCons (dDict1 1 1) (daCons (dTup (daCons (dVar 1) (daCons (dVar 1) daNil))) (daCons (dTup (daCons (dVar 1) (daCons (dVar 1) (daCons (dVar 1) daNil)))) daNil))))))))))))
      (dSeq (dSet 2 (dOp addD (dVar 2) (dLst (daCons (dOp addD (dVar 1) (dC (D.str (Str.ofString ".")))) (daCons (dOp addD (dVar 1) (dC (D.str (Str.ofString "\n")))) (daCons (dMt0 "str" upperD (dVar 1)) (daCons (dOp addD (dVar 1) (dC (D.str (Str.ofString "-")))) (daCons (dLst (daCons (dVar 1) (daCons (dVar 1) daNil))) (daCons (dTup (daCons (dC (D.str (Str.ofString "a"))) (daCons (dLst daNil) (daCons dDict0 daNil)))) (daCons (dTup (daCons (dTup (daCons (dVar 1) (daCons (dVar 1) daNil))) daNil)) daNil))))))))))
      (dRet (dOp ixD (dVar 2) (dCall spNext (daCons (dVar 0) (daCons (dB lenD (daCons (dVar 2) daNil)) daNil))))))))
theorem read_odd98 : ∀ ds s Qd, (spOdd : DSp Mem.deck) ds s Qd → (T_odd98 : DTS Mem.deck) (endsOf Qd) (startD ["_law_deck_here", "_law_path", "_law_some"] ds) s := by
  intro ds s Qd h
  obtain ⟨a, b, c, x, hs, rfl, hx, hn, hQ⟩ := h
  have hx2 := hx.2.1
  have hlim : strLim = 1000000 := rfl
  have h46 : (Str.ofString ".").length = 1 := by decide +kernel
  have h10 : (Str.ofString "\n").length = 1 := by decide +kernel
  have h45 : (Str.ofString "-").length = 1 := by decide +kernel
  refine ⟨cpow30, lz rfl, ?_⟩
  refine ⟨lz rfl, lz rfl, lz rfl, lz rfl, _, _, rfl, rfl, lz rfl, lz rfl, lz rfl, lz rfl, ?_⟩
  refine ⟨(by rw [h46]; omega), (by rw [h10]; omega), rfl, x, rfl, rfl, name_upper hx, (by rw [h45]; omega), lz rfl, lz rfl, lz rfl, lz rfl, lz rfl, lz rfl, lz rfl, ?_⟩
  refine ⟨_, 33, rfl, rfl, a, b, c, 33, hs, rfl, by decide, by decide, by omega, fun r k h0 h1 hk => ?_⟩
  refine ix_pick h0 h1 fun d hd => hQ d k (?_ : smD 3 d) (by omega)
  revert d
  refine List.forall_mem_append.mpr ⟨List.forall_mem_append.mpr ⟨?_, ?_⟩, ?_⟩
  all_goals
    repeat' first | exact (fun _ h => absurd h List.not_mem_nil) | refine List.forall_mem_cons.mpr ⟨?_, ?_⟩
  all_goals first
    | exact trivial
    | exact rep_empty
    | exact rep_name hx
    | (refine ⟨Nat.le_of_ble_eq_true rfl, ?_⟩; repeat' first | exact (fun _ h => absurd h List.not_mem_nil) | refine List.forall_mem_cons.mpr ⟨?_, ?_⟩
       all_goals first
         | exact trivial
         | exact rep_empty
         | (refine ⟨Nat.le_of_ble_eq_true rfl, ?_⟩; repeat' first | exact (fun _ h => absurd h List.not_mem_nil) | exact trivial | refine List.forall_mem_cons.mpr ⟨?_, ?_⟩))
def T_same98 (n : Nat) {m : Mem} : DTS m :=
  (dSeq (dIf (dTr (dIsT (dVar 1) Tg.tup Tg.lst)) (dSeq (dIf (dOrT (dCmT neC (dB isiD (daCons (dVar 1) (daCons (dC (D.any (V.ty "tuple"))) daNil))) (dB isiD (daCons (dVar 0) (daCons (dC (D.any (V.ty "tuple"))) daNil)))) (dCmT neC (dB isiD (daCons (dVar 1) (daCons (dC (D.any (V.ty "list"))) daNil))) (dB isiD (daCons (dVar 0) (daCons (dC (D.any (V.ty "list"))) daNil))))) (dRet (dC (D.bl false))) dNext)
        (dRet (dAndV (dCm eqC (dB lenD (daCons (dVar 0) daNil)) (dB lenD (daCons (dVar 1) daNil))) (dB allD (daCons (dLc (diZip (daCons (dVar 0) (daCons (dVar 1) daNil))) (gTup' 2 (gCons' (gN 2) (gCons' (gN 3) gNil'))) dYes (dCall (spS n) (daCons (dVar 2) (daCons (dVar 3) daNil))) [2, 3]) daNil))))) dNext)
      (dSeq (dIf (dCmT isD' (dVar 1) (dC D.non)) (dRet (dCm isD' (dVar 0) (dC D.non))) dNext)
      (dSeq (dIf (dTr (dB isiD (daCons (dVar 1) (daCons (dC (D.any (V.ty "str"))) daNil)))) (dRet (dAndV (dB isiD (daCons (dVar 0) (daCons (dC (D.any (V.ty "str"))) daNil))) (dCm eqC (dVar 0) (dVar 1)))) dNext)
      (dSeq (dIf (dOrT (dTr (dB isiD (daCons (dVar 1) (daCons (dC (D.any (V.ty "bool"))) daNil)))) (dTr (dB isiD (daCons (dVar 0) (daCons (dC (D.any (V.ty "bool"))) daNil))))) (dRet (dAndV (dB isiD (daCons (dVar 0) (daCons (dC (D.any (V.ty "bool"))) daNil))) (dAndV (dB isiD (daCons (dVar 1) (daCons (dC (D.any (V.ty "bool"))) daNil))) (dCm eqC (dVar 0) (dVar 1))))) dNext)
      (dSeq (dIf (dTr (dB isiD (daCons (dVar 1) (daCons (dC (D.any (V.ty "int"))) daNil)))) (dRet (dAndV (dB isiD (daCons (dVar 0) (daCons (dC (D.any (V.ty "int"))) daNil))) (dCm eqC (dVar 0) (dVar 1)))) dNext)
      (dRet (dAndV (dB isiD (daCons (dVar 1) (daCons (dC (D.any (V.ty "dict"))) daNil))) (dAndV (dB isiD (daCons (dVar 0) (daCons (dC (D.any (V.ty "dict"))) daNil))) (dCm eqT (dB reprD (daCons (dVar 0) daNil)) (dB reprD (daCons (dVar 1) daNil)))))))))))
theorem read_same98 (n : Nat) {m : Mem} : ∀ ds s Qd, (spS (n + 1) : DSp m) ds s Qd → (T_same98 n : DTS m) (endsOf Qd) (startD ["_law_found", "_law_due", "_law_one", "_law_other"] ds) s := by
  intro ds s Qd h
  obtain ⟨d, rfl, hd, hQ⟩ := h
  cases d with
  | non => exact ⟨_, rfl, _, rfl, (fun _ => by intro z; cases z), (fun _ => by intro z; cases z), hQ⟩
  | bl b =>
    refine ⟨_, rfl, _, rfl, (fun _ => by intro z; cases z), _, .str, _, rfl, rfl, (by intro z; cases z), _, rfl, ?_⟩
    refine ⟨_, .bl, _, rfl, rfl, (by intro z; cases z), _, rfl, ?_⟩
    refine ⟨_, .bl, _, rfl, rfl, (by intro z; cases z), _, rfl, _, .bl, _, rfl, rfl, (by intro z; cases z), _, rfl, rfl, rfl, ?_⟩
    cases b <;> exact hQ
  | int i =>
    refine ⟨_, rfl, _, rfl, (fun _ => by intro z; cases z), _, .str, _, rfl, rfl, (by intro z; cases z), _, rfl, ?_⟩
    refine ⟨_, .bl, _, rfl, rfl, (by intro z; cases z), _, rfl, _, .bl, _, rfl, rfl, (by intro z; cases z), _, rfl, ?_⟩
    refine ⟨_, .int, _, rfl, rfl, (by intro z; cases z), _, rfl, _, .int, _, rfl, rfl, (by intro z; cases z), _, rfl, rfl, rfl, ?_⟩
    rw [show eqD (.int i) (.int i) = true from by simp [eqD]]
    exact hQ
  | str x =>
    refine ⟨_, rfl, _, rfl, (fun _ => by intro z; cases z), _, .str, _, rfl, rfl, (by intro z; cases z), _, rfl, ?_⟩
    refine ⟨_, .str, _, rfl, rfl, (by intro z; cases z), _, rfl, rfl, rfl, ?_⟩
    rw [show eqD (.str x) (.str x) = true from by simp [eqD]]
    exact hQ
  | lst xs =>
    cases n with
    | zero => exact hd.elim
    | succ n =>
      obtain ⟨hz, hd⟩ := hd
      refine ⟨_, rfl, _, rfl, _, .tup, _, rfl, rfl, (by intro z; cases z), _, .tup, _, rfl, rfl, (by intro z; cases z), rfl, rfl, _, .lst, _, rfl, rfl, (by intro z; cases z), _, .lst, _, rfl, rfl, (by intro z; cases z), rfl, rfl, ?_⟩
      exact same_seq (.inl rfl) hz hd hQ
  | tup xs =>
    cases n with
    | zero => exact hd.elim
    | succ n =>
      obtain ⟨hz, hd⟩ := hd
      refine ⟨_, rfl, _, rfl, _, .tup, _, rfl, rfl, (by intro z; cases z), _, .tup, _, rfl, rfl, (by intro z; cases z), rfl, rfl, _, .lst, _, rfl, rfl, (by intro z; cases z), _, .lst, _, rfl, rfl, (by intro z; cases z), rfl, rfl, ?_⟩
      exact same_seq (.inr rfl) hz hd hQ
  | dic ks xs =>
    refine ⟨_, rfl, _, rfl, (fun _ => by intro z; cases z), _, .str, _, rfl, rfl, (by intro z; cases z), _, rfl, ?_⟩
    refine ⟨_, .bl, _, rfl, rfl, (by intro z; cases z), _, rfl, _, .bl, _, rfl, rfl, (by intro z; cases z), _, rfl, ?_⟩
    refine ⟨_, .int, _, rfl, rfl, (by intro z; cases z), _, rfl, ?_⟩
    have hd' : repOk (.dic ks xs) = true := by cases n <;> exact hd
    refine ⟨_, .dic, _, rfl, rfl, (by intro z; cases z), _, rfl, _, .dic, _, rfl, rfl, (by intro z; cases z), _, rfl, _, rfl, hd', _, rfl, hd', _, _, rfl, rfl, ?_⟩
    rw [decide_eq_true rfl]
    exact hQ
  | ins _ _ _ => cases n <;> exact hd.elim
  | any _ => cases n <;> exact hd.elim
  | fz _ => cases n <;> exact hd.elim
  | exc _ _ _ => cases n <;> exact hd.elim
def T_other98 (K : PySem.W.Frag) (a : Nat → Addr) {m : Mem} : DTS m :=
  (dSeq (dSet 1 (dLst (daCons (dTup (daCons (dC (D.str (Str.ofString "NoAllowance"))) (daCons (dB (isxD K) (daCons (dVar 0) (daCons (dC (D.any (V.ref (a 24)))) daNil))) daNil))) (daCons (dTup (daCons (dC (D.str (Str.ofString "NoModule"))) (daCons (dB (isxD K) (daCons (dVar 0) (daCons (dC (D.any (V.ref (a 25)))) daNil))) daNil))) daNil))))
      (dSeq (dSet 1 (dOp addD (dVar 1) (dLst (daCons (dTup (daCons (dC (D.str (Str.ofString "NoPart"))) (daCons (dB (isxD K) (daCons (dVar 0) (daCons (dC (D.any (V.ref (a 26)))) daNil))) daNil))) (daCons (dTup (daCons (dC (D.str (Str.ofString "NoRule"))) (daCons (dB (isxD K) (daCons (dVar 0) (daCons (dC (D.any (V.ref (a 27)))) daNil))) daNil))) daNil)))))
      (dRet (dOp addD (dVar 1) (dLst (daCons (dTup (daCons (dC (D.str (Str.ofString "NoUse"))) (daCons (dB (isxD K) (daCons (dVar 0) (daCons (dC (D.any (V.ref (a 28)))) daNil))) daNil))) daNil))))))
theorem read_other98 {K : PySem.W.Frag} {a : Nat → Addr} (hk : Hk K a) {m : Mem} : ∀ ds s Qd, (spOther a : DSp m) ds s Qd → (T_other98 K a : DTS m) (endsOf Qd) (startD ["_law_error", "_law_found"] ds) s := by
  intro ds s Qd h
  obtain ⟨i, ns, es, rfl, hi, hQ⟩ := h
  show (T_other98 K a : DTS m) (endsOf Qd) [.sh (.exc (a i) ns es), .no] s
  refine ⟨_, ns, es, _, _, _, rfl, hk.x i hi, rfl, hk.t i hi _ (by decide), lz rfl, _, ns, es, _, _, _, rfl, hk.x i hi, rfl, hk.t i hi _ (by decide), lz rfl, lz rfl, ?_⟩
  simp only [List.set_cons_zero, List.set_cons_succ]
  refine ⟨_, ns, es, _, _, _, rfl, hk.x i hi, rfl, hk.t i hi _ (by decide), lz rfl, _, ns, es, _, _, _, rfl, hk.x i hi, rfl, hk.t i hi _ (by decide), lz rfl, lz rfl, lz rfl, ?_⟩
  simp only [List.set_cons_zero, List.set_cons_succ]
  refine ⟨_, ns, es, _, _, _, rfl, hk.x i hi, rfl, hk.t i hi _ (by decide), lz rfl, lz rfl, lz rfl, ?_⟩
  exact hQ
def T_kinds98 (K : PySem.W.Frag) (a : Nat → Addr) {m : Mem} : DTS m :=
  (dSeq (dSet 1 (dLst (daCons (dTup (daCons (dC (D.str (Str.ofString "BadBatch"))) (daCons (dB (isxD K) (daCons (dVar 0) (daCons (dC (D.any (V.ref (a 2)))) daNil))) daNil))) (daCons (dTup (daCons (dC (D.str (Str.ofString "BadBook"))) (daCons (dB (isxD K) (daCons (dVar 0) (daCons (dC (D.any (V.ref (a 3)))) daNil))) daNil))) daNil))))
      (dSeq (dSet 1 (dOp addD (dVar 1) (dLst (daCons (dTup (daCons (dC (D.str (Str.ofString "BadEdit"))) (daCons (dB (isxD K) (daCons (dVar 0) (daCons (dC (D.any (V.ref (a 4)))) daNil))) daNil))) (daCons (dTup (daCons (dC (D.str (Str.ofString "BadPath"))) (daCons (dB (isxD K) (daCons (dVar 0) (daCons (dC (D.any (V.ref (a 5)))) daNil))) daNil))) daNil)))))
      (dSeq (dSet 1 (dOp addD (dVar 1) (dLst (daCons (dTup (daCons (dC (D.str (Str.ofString "BadProgram"))) (daCons (dB (isxD K) (daCons (dVar 0) (daCons (dC (D.any (V.ref (a 6)))) daNil))) daNil))) (daCons (dTup (daCons (dC (D.str (Str.ofString "BadReason"))) (daCons (dB (isxD K) (daCons (dVar 0) (daCons (dC (D.any (V.ref (a 7)))) daNil))) daNil))) daNil)))))
      (dSeq (dSet 1 (dOp addD (dVar 1) (dLst (daCons (dTup (daCons (dC (D.str (Str.ofString "BadRule"))) (daCons (dB (isxD K) (daCons (dVar 0) (daCons (dC (D.any (V.ref (a 8)))) daNil))) daNil))) (daCons (dTup (daCons (dC (D.str (Str.ofString "BadText"))) (daCons (dB (isxD K) (daCons (dVar 0) (daCons (dC (D.any (V.ref (a 9)))) daNil))) daNil))) daNil)))))
      (dSeq (dSet 1 (dOp addD (dVar 1) (dLst (daCons (dTup (daCons (dC (D.str (Str.ofString "BadUse"))) (daCons (dB (isxD K) (daCons (dVar 0) (daCons (dC (D.any (V.ref (a 10)))) daNil))) daNil))) (daCons (dTup (daCons (dC (D.str (Str.ofString "Breaks"))) (daCons (dB (isxD K) (daCons (dVar 0) (daCons (dC (D.any (V.ref (a 11)))) daNil))) daNil))) daNil)))))
      (dSeq (dSet 1 (dOp addD (dVar 1) (dLst (daCons (dTup (daCons (dC (D.str (Str.ofString "Circular"))) (daCons (dB (isxD K) (daCons (dVar 0) (daCons (dC (D.any (V.ref (a 12)))) daNil))) daNil))) (daCons (dTup (daCons (dC (D.str (Str.ofString "Clash"))) (daCons (dB (isxD K) (daCons (dVar 0) (daCons (dC (D.any (V.ref (a 13)))) daNil))) daNil))) daNil)))))
      (dSeq (dSet 1 (dOp addD (dVar 1) (dLst (daCons (dTup (daCons (dC (D.str (Str.ofString "Full"))) (daCons (dB (isxD K) (daCons (dVar 0) (daCons (dC (D.any (V.ref (a 14)))) daNil))) daNil))) (daCons (dTup (daCons (dC (D.str (Str.ofString "InUse"))) (daCons (dB (isxD K) (daCons (dVar 0) (daCons (dC (D.any (V.ref (a 15)))) daNil))) daNil))) daNil)))))
      (dSeq (dSet 1 (dOp addD (dVar 1) (dLst (daCons (dTup (daCons (dC (D.str (Str.ofString "Itself"))) (daCons (dB (isxD K) (daCons (dVar 0) (daCons (dC (D.any (V.ref (a 16)))) daNil))) daNil))) (daCons (dTup (daCons (dC (D.str (Str.ofString "NothingToUndo"))) (daCons (dB (isxD K) (daCons (dVar 0) (daCons (dC (D.any (V.ref (a 17)))) daNil))) daNil))) daNil)))))
      (dSeq (dSet 1 (dOp addD (dVar 1) (dLst (daCons (dTup (daCons (dC (D.str (Str.ofString "Overlap"))) (daCons (dB (isxD K) (daCons (dVar 0) (daCons (dC (D.any (V.ref (a 18)))) daNil))) daNil))) (daCons (dTup (daCons (dC (D.str (Str.ofString "Rejected"))) (daCons (dB (isxD K) (daCons (dVar 0) (daCons (dC (D.any (V.ref (a 19)))) daNil))) daNil))) daNil)))))
      (dSeq (dSet 1 (dOp addD (dVar 1) (dLst (daCons (dTup (daCons (dC (D.str (Str.ofString "Ring"))) (daCons (dB (isxD K) (daCons (dVar 0) (daCons (dC (D.any (V.ref (a 20)))) daNil))) daNil))) (daCons (dTup (daCons (dC (D.str (Str.ofString "Taken"))) (daCons (dB (isxD K) (daCons (dVar 0) (daCons (dC (D.any (V.ref (a 21)))) daNil))) daNil))) daNil)))))
      (dSeq (dSet 1 (dOp addD (dVar 1) (dLst (daCons (dTup (daCons (dC (D.str (Str.ofString "TooMany"))) (daCons (dB (isxD K) (daCons (dVar 0) (daCons (dC (D.any (V.ref (a 22)))) daNil))) daNil))) (daCons (dTup (daCons (dC (D.str (Str.ofString "Unclear"))) (daCons (dB (isxD K) (daCons (dVar 0) (daCons (dC (D.any (V.ref (a 23)))) daNil))) daNil))) daNil)))))
      (dRet (dLc (diSeq (dOp addD (dVar 1) (dCall (spOther a) (daCons (dVar 0) daNil)))) (gTup' 2 (gCons' (gN 2) (gCons' (gN 3) gNil'))) (dTr (dVar 3)) (dVar 2) [2, 3])))))))))))))
theorem read_kinds98 {K : PySem.W.Frag} {a : Nat → Addr} (hk : Hk K a) {m : Mem} : ∀ ds s Qd, (spKinds a : DSp m) ds s Qd → (T_kinds98 K a : DTS m) (endsOf Qd) (startD ["_law_error", "_law_found", "_law_name_here", "_law_hit"] ds) s := by
  intro ds s Qd h
  obtain ⟨i, ns, es, rfl, hi, hQ⟩ := h
  show (T_kinds98 K a : DTS m) (endsOf Qd) [.sh (.exc (a i) ns es), .no, .no, .no] s
  refine ⟨_, ns, es, _, _, _, rfl, hk.x i hi, rfl, hk.t i hi _ (by decide), lz rfl, _, ns, es, _, _, _, rfl, hk.x i hi, rfl, hk.t i hi _ (by decide), lz rfl, lz rfl, ?_⟩
  simp only [List.set_cons_zero, List.set_cons_succ]
  refine ⟨_, ns, es, _, _, _, rfl, hk.x i hi, rfl, hk.t i hi _ (by decide), lz rfl, _, ns, es, _, _, _, rfl, hk.x i hi, rfl, hk.t i hi _ (by decide), lz rfl, lz rfl, lz rfl, ?_⟩
  simp only [List.set_cons_zero, List.set_cons_succ]
  refine ⟨_, ns, es, _, _, _, rfl, hk.x i hi, rfl, hk.t i hi _ (by decide), lz rfl, _, ns, es, _, _, _, rfl, hk.x i hi, rfl, hk.t i hi _ (by decide), lz rfl, lz rfl, lz rfl, ?_⟩
  simp only [List.set_cons_zero, List.set_cons_succ]
  refine ⟨_, ns, es, _, _, _, rfl, hk.x i hi, rfl, hk.t i hi _ (by decide), lz rfl, _, ns, es, _, _, _, rfl, hk.x i hi, rfl, hk.t i hi _ (by decide), lz rfl, lz rfl, lz rfl, ?_⟩
  simp only [List.set_cons_zero, List.set_cons_succ]
  refine ⟨_, ns, es, _, _, _, rfl, hk.x i hi, rfl, hk.t i hi _ (by decide), lz rfl, _, ns, es, _, _, _, rfl, hk.x i hi, rfl, hk.t i hi _ (by decide), lz rfl, lz rfl, lz rfl, ?_⟩
  simp only [List.set_cons_zero, List.set_cons_succ]
  refine ⟨_, ns, es, _, _, _, rfl, hk.x i hi, rfl, hk.t i hi _ (by decide), lz rfl, _, ns, es, _, _, _, rfl, hk.x i hi, rfl, hk.t i hi _ (by decide), lz rfl, lz rfl, lz rfl, ?_⟩
  simp only [List.set_cons_zero, List.set_cons_succ]
  refine ⟨_, ns, es, _, _, _, rfl, hk.x i hi, rfl, hk.t i hi _ (by decide), lz rfl, _, ns, es, _, _, _, rfl, hk.x i hi, rfl, hk.t i hi _ (by decide), lz rfl, lz rfl, lz rfl, ?_⟩
  simp only [List.set_cons_zero, List.set_cons_succ]
  refine ⟨_, ns, es, _, _, _, rfl, hk.x i hi, rfl, hk.t i hi _ (by decide), lz rfl, _, ns, es, _, _, _, rfl, hk.x i hi, rfl, hk.t i hi _ (by decide), lz rfl, lz rfl, lz rfl, ?_⟩
  simp only [List.set_cons_zero, List.set_cons_succ]
  refine ⟨_, ns, es, _, _, _, rfl, hk.x i hi, rfl, hk.t i hi _ (by decide), lz rfl, _, ns, es, _, _, _, rfl, hk.x i hi, rfl, hk.t i hi _ (by decide), lz rfl, lz rfl, lz rfl, ?_⟩
  simp only [List.set_cons_zero, List.set_cons_succ]
  refine ⟨_, ns, es, _, _, _, rfl, hk.x i hi, rfl, hk.t i hi _ (by decide), lz rfl, _, ns, es, _, _, _, rfl, hk.x i hi, rfl, hk.t i hi _ (by decide), lz rfl, lz rfl, lz rfl, ?_⟩
  simp only [List.set_cons_zero, List.set_cons_succ]
  refine ⟨_, ns, es, _, _, _, rfl, hk.x i hi, rfl, hk.t i hi _ (by decide), lz rfl, _, ns, es, _, _, _, rfl, hk.x i hi, rfl, hk.t i hi _ (by decide), lz rfl, lz rfl, lz rfl, ?_⟩
  simp only [List.set_cons_zero, List.set_cons_succ]
  refine ⟨i, ns, es, rfl, hi, lz rfl, _, rfl, lz rfl, fun pre acc s' => s' = s ∧ acc = pre.filterMap hitD, ⟨rfl, rfl⟩, fun pre x post acc s' heq hle hI => ?_, fun acc s' hle hI => ?_⟩
  · obtain ⟨rfl, rfl⟩ := hI
    have heq' : allPr i = pre ++ x :: post := heq
    obtain ⟨n, b, rfl⟩ := isPr (i := i) x (by rw [heq']; simp)
    refine ⟨_, rfl, rfl, _, _, rfl, _, _, rfl, rfl, _, rfl, rfl, ?_⟩
    cases b with
    | true =>
      refine ⟨rfl, rfl, ?_⟩
      rw [List.filterMap_append]
      rfl
    | false =>
      refine ⟨rfl, ?_⟩
      rw [List.filterMap_append]
      show _ = _ ++ []
      rw [List.append_nil]
  · obtain ⟨rfl, rfl⟩ := hI
    have e : (allPr i).filterMap hitD = [.str (nmE i)] := hits i hi
    show Qd (.lst ((allPr i).filterMap hitD)) _
    rw [e]
    exact hQ
def T_made98 (K : PySem.W.Frag) (a : Nat → Addr) {m : Mem} : DTS m :=
  (dSeq (dPar 3 4 (daCons (dMkX (a 3) 1 [Str.ofString "error"] (daCons (dVar 0) daNil)) (daCons (dMkX (a 4) 1 [Str.ofString "index"] (daCons (dVar 0) daNil)) daNil)))
      (dSeq (dPar 5 6 (daCons (dMkX (a 5) 1 [Str.ofString "path"] (daCons (dVar 0) daNil)) (daCons (dMkX (a 6) 1 [Str.ofString "error"] (daCons (dVar 0) daNil)) daNil)))
      (dSeq (dSet 2 (dLst (daCons (dTup (daCons (dVar 3) (daCons (dC (D.str (Str.ofString "BadBook"))) (daCons (dLst (daCons (dXfl K (Str.ofString "error") (dVar 3)) daNil)) (daCons (dLst (daCons (dVar 0) daNil)) daNil))))) (daCons (dTup (daCons (dVar 4) (daCons (dC (D.str (Str.ofString "BadEdit"))) (daCons (dLst (daCons (dXfl K (Str.ofString "index") (dVar 4)) daNil)) (daCons (dLst (daCons (dVar 0) daNil)) daNil))))) daNil))))
      (dSeq (dSet 2 (dOp addD (dVar 2) (dLst (daCons (dTup (daCons (dVar 5) (daCons (dC (D.str (Str.ofString "BadPath"))) (daCons (dLst (daCons (dXfl K (Str.ofString "path") (dVar 5)) daNil)) (daCons (dLst (daCons (dVar 0) daNil)) daNil))))) (daCons (dTup (daCons (dVar 6) (daCons (dC (D.str (Str.ofString "BadProgram"))) (daCons (dLst (daCons (dXfl K (Str.ofString "error") (dVar 6)) daNil)) (daCons (dLst (daCons (dVar 0) daNil)) daNil))))) daNil)))))
      (dSeq (dAsg (dTup (daCons (dMkX (a 7) 1 [Str.ofString "reason"] (daCons (dVar 0) daNil)) (daCons (dMkX (a 8) 1 [Str.ofString "word"] (daCons (dVar 0) daNil)) (daCons (dMkX (a 9) 2 [Str.ofString "code", Str.ofString "line"] (daCons (dVar 0) (daCons (dVar 1) daNil))) (daCons (dMkX (a 10) 1 [Str.ofString "index"] (daCons (dVar 0) daNil)) daNil))))) (gTup' 4 (gCons' (gN 7) (gCons' (gN 8) (gCons' (gN 9) (gCons' (gN 10) gNil'))))))
      (dSeq (dSet 2 (dOp addD (dVar 2) (dLst (daCons (dTup (daCons (dVar 7) (daCons (dC (D.str (Str.ofString "BadReason"))) (daCons (dLst (daCons (dXfl K (Str.ofString "reason") (dVar 7)) daNil)) (daCons (dLst (daCons (dVar 0) daNil)) daNil))))) (daCons (dTup (daCons (dVar 8) (daCons (dC (D.str (Str.ofString "BadRule"))) (daCons (dLst (daCons (dXfl K (Str.ofString "word") (dVar 8)) daNil)) (daCons (dLst (daCons (dVar 0) daNil)) daNil))))) daNil)))))
      (dSeq (dSet 2 (dOp addD (dVar 2) (dLst (daCons (dTup (daCons (dVar 9) (daCons (dC (D.str (Str.ofString "BadText"))) (daCons (dLst (daCons (dXfl K (Str.ofString "line") (dVar 9)) (daCons (dXfl K (Str.ofString "code") (dVar 9)) daNil))) (daCons (dLst (daCons (dVar 0) (daCons (dVar 1) daNil))) daNil))))) (daCons (dTup (daCons (dVar 10) (daCons (dC (D.str (Str.ofString "BadUse"))) (daCons (dLst (daCons (dXfl K (Str.ofString "index") (dVar 10)) daNil)) (daCons (dLst (daCons (dVar 0) daNil)) daNil))))) daNil)))))
      (dSeq (dAsg (dTup (daCons (dMkX (a 11) 2 [Str.ofString "evidence", Str.ofString "rule"] (daCons (dVar 0) (daCons (dVar 1) daNil))) (daCons (dMkX (a 12) 1 [Str.ofString "evidence"] (daCons (dVar 0) daNil)) (daCons (dMkX (a 13) 1 [Str.ofString "path"] (daCons (dVar 0) daNil)) (daCons (dMkX (a 15) 1 [Str.ofString "path"] (daCons (dVar 0) daNil)) daNil))))) (gTup' 4 (gCons' (gN 11) (gCons' (gN 12) (gCons' (gN 13) (gCons' (gN 14) gNil'))))))
      (dSeq (dSet 2 (dOp addD (dVar 2) (dLst (daCons (dTup (daCons (dVar 11) (daCons (dC (D.str (Str.ofString "Breaks"))) (daCons (dLst (daCons (dXfl K (Str.ofString "rule") (dVar 11)) (daCons (dXfl K (Str.ofString "evidence") (dVar 11)) daNil))) (daCons (dLst (daCons (dVar 0) (daCons (dVar 1) daNil))) daNil))))) daNil))))
      (dSeq (dSet 2 (dOp addD (dVar 2) (dLst (daCons (dTup (daCons (dVar 12) (daCons (dC (D.str (Str.ofString "Circular"))) (daCons (dLst (daCons (dXfl K (Str.ofString "evidence") (dVar 12)) daNil)) (daCons (dLst (daCons (dVar 0) daNil)) daNil))))) (daCons (dTup (daCons (dVar 13) (daCons (dC (D.str (Str.ofString "Clash"))) (daCons (dLst (daCons (dXfl K (Str.ofString "path") (dVar 13)) daNil)) (daCons (dLst (daCons (dVar 0) daNil)) daNil))))) daNil)))))
      (dSeq (dSet 2 (dOp addD (dVar 2) (dLst (daCons (dTup (daCons (dVar 14) (daCons (dC (D.str (Str.ofString "InUse"))) (daCons (dLst (daCons (dXfl K (Str.ofString "path") (dVar 14)) daNil)) (daCons (dLst (daCons (dVar 0) daNil)) daNil))))) daNil))))
      (dSeq (dPar 15 16 (daCons (dMkX (a 16) 1 [Str.ofString "path"] (daCons (dVar 0) daNil)) (daCons (dMkX (a 18) 1 [Str.ofString "path"] (daCons (dVar 0) daNil)) daNil)))
      (dSeq (dPar 17 18 (daCons (dMkX (a 19) 1 [Str.ofString "index"] (daCons (dVar 0) daNil)) (daCons (dMkX (a 20) 1 [Str.ofString "ring"] (daCons (dVar 0) daNil)) daNil)))
      (dSeq (dSet 2 (dOp addD (dVar 2) (dLst (daCons (dTup (daCons (dVar 15) (daCons (dC (D.str (Str.ofString "Itself"))) (daCons (dLst (daCons (dXfl K (Str.ofString "path") (dVar 15)) daNil)) (daCons (dLst (daCons (dVar 0) daNil)) daNil))))) (daCons (dTup (daCons (dVar 16) (daCons (dC (D.str (Str.ofString "Overlap"))) (daCons (dLst (daCons (dXfl K (Str.ofString "path") (dVar 16)) daNil)) (daCons (dLst (daCons (dVar 0) daNil)) daNil))))) daNil)))))
      (dSeq (dSet 2 (dOp addD (dVar 2) (dLst (daCons (dTup (daCons (dVar 17) (daCons (dC (D.str (Str.ofString "Rejected"))) (daCons (dLst (daCons (dXfl K (Str.ofString "index") (dVar 17)) daNil)) (daCons (dLst (daCons (dVar 0) daNil)) daNil))))) (daCons (dTup (daCons (dVar 18) (daCons (dC (D.str (Str.ofString "Ring"))) (daCons (dLst (daCons (dXfl K (Str.ofString "ring") (dVar 18)) daNil)) (daCons (dLst (daCons (dVar 0) daNil)) daNil))))) daNil)))))
      (dSeq (dPar3 19 20 21 (daCons (dMkX (a 21) 1 [Str.ofString "thing"] (daCons (dVar 0) daNil)) (daCons (dMkX (a 22) 1 [Str.ofString "limit"] (daCons (dVar 0) daNil)) (daCons (dMkX (a 23) 1 [Str.ofString "name"] (daCons (dVar 0) daNil)) daNil))))
      (dSeq (dSet 2 (dOp addD (dVar 2) (dLst (daCons (dTup (daCons (dVar 19) (daCons (dC (D.str (Str.ofString "Taken"))) (daCons (dLst (daCons (dXfl K (Str.ofString "thing") (dVar 19)) daNil)) (daCons (dLst (daCons (dVar 0) daNil)) daNil))))) (daCons (dTup (daCons (dVar 20) (daCons (dC (D.str (Str.ofString "TooMany"))) (daCons (dLst (daCons (dXfl K (Str.ofString "limit") (dVar 20)) daNil)) (daCons (dLst (daCons (dVar 0) daNil)) daNil))))) daNil)))))
      (dRet (dOp addD (dVar 2) (dLst (daCons (dTup (daCons (dVar 21) (daCons (dC (D.str (Str.ofString "Unclear"))) (daCons (dLst (daCons (dXfl K (Str.ofString "name") (dVar 21)) daNil)) (daCons (dLst (daCons (dVar 0) daNil)) daNil))))) daNil)))))))))))))))))))))
theorem read_made98 {K : PySem.W.Frag} {a : Nat → Addr} (hk : Hk K a) {m : Mem} : ∀ ds s Qd, (spMade a : DSp m) ds s Qd → (T_made98 K a : DTS m) (endsOf Qd) (startD ["_law_one", "_law_other", "_law_found", "_law_book", "_law_edit", "_law_path", "_law_made_here", "_law_reason", "_law_rule", "_law_text", "_law_use", "_law_broken", "_law_circle", "_law_clash", "_law_held", "_law_itself", "_law_across", "_law_refused", "_law_round_it", "_law_taken", "_law_many", "_law_dark"] ds) s := by
  intro ds s Qd h
  obtain ⟨x, y, rfl, hQ⟩ := h
  show (T_made98 K a : DTS m) (endsOf Qd) [.sh x, .sh y, .no, .no, .no, .no, .no, .no, .no, .no, .no, .no, .no, .no, .no, .no, .no, .no, .no, .no, .no, .no] s
  refine ⟨rfl, rfl, _, _, rfl, ?_⟩
  simp only [List.set_cons_zero, List.set_cons_succ]
  refine ⟨rfl, rfl, _, _, rfl, ?_⟩
  simp only [List.set_cons_zero, List.set_cons_succ]
  refine ⟨_, _, _, _, rfl, hk.x _ (by decide), hk_n hk (by decide +kernel), rfl, lz rfl, lz rfl, lz rfl, _, _, _, _, rfl, hk.x _ (by decide), hk_n hk (by decide +kernel), rfl, lz rfl, lz rfl, lz rfl, lz rfl, ?_⟩
  simp only [List.set_cons_zero, List.set_cons_succ]
  refine ⟨_, _, _, _, rfl, hk.x _ (by decide), hk_n hk (by decide +kernel), rfl, lz rfl, lz rfl, lz rfl, _, _, _, _, rfl, hk.x _ (by decide), hk_n hk (by decide +kernel), rfl, lz rfl, lz rfl, lz rfl, lz rfl, lz rfl, ?_⟩
  simp only [List.set_cons_zero, List.set_cons_succ]
  refine ⟨rfl, rfl, rfl, rfl, lz rfl, _, rfl, rfl, _, _, rfl, _, _, rfl, _, _, rfl, _, _, rfl, rfl, ?_⟩
  simp only [List.set_cons_zero, List.set_cons_succ]
  refine ⟨_, _, _, _, rfl, hk.x _ (by decide), hk_n hk (by decide +kernel), rfl, lz rfl, lz rfl, lz rfl, _, _, _, _, rfl, hk.x _ (by decide), hk_n hk (by decide +kernel), rfl, lz rfl, lz rfl, lz rfl, lz rfl, lz rfl, ?_⟩
  simp only [List.set_cons_zero, List.set_cons_succ]
  refine ⟨_, _, _, _, rfl, hk.x _ (by decide), hk_n hk (by decide +kernel), rfl, _, _, _, _, rfl, hk.x _ (by decide), hk_n hk (by decide +kernel), rfl, lz rfl, lz rfl, lz rfl, _, _, _, _, rfl, hk.x _ (by decide), hk_n hk (by decide +kernel), rfl, lz rfl, lz rfl, lz rfl, lz rfl, lz rfl, ?_⟩
  simp only [List.set_cons_zero, List.set_cons_succ]
  refine ⟨rfl, rfl, rfl, rfl, lz rfl, _, rfl, rfl, _, _, rfl, _, _, rfl, _, _, rfl, _, _, rfl, rfl, ?_⟩
  simp only [List.set_cons_zero, List.set_cons_succ]
  refine ⟨_, _, _, _, rfl, hk.x _ (by decide), hk_n hk (by decide +kernel), rfl, _, _, _, _, rfl, hk.x _ (by decide), hk_n hk (by decide +kernel), rfl, lz rfl, lz rfl, lz rfl, lz rfl, lz rfl, ?_⟩
  simp only [List.set_cons_zero, List.set_cons_succ]
  refine ⟨_, _, _, _, rfl, hk.x _ (by decide), hk_n hk (by decide +kernel), rfl, lz rfl, lz rfl, lz rfl, _, _, _, _, rfl, hk.x _ (by decide), hk_n hk (by decide +kernel), rfl, lz rfl, lz rfl, lz rfl, lz rfl, lz rfl, ?_⟩
  simp only [List.set_cons_zero, List.set_cons_succ]
  refine ⟨_, _, _, _, rfl, hk.x _ (by decide), hk_n hk (by decide +kernel), rfl, lz rfl, lz rfl, lz rfl, lz rfl, lz rfl, ?_⟩
  simp only [List.set_cons_zero, List.set_cons_succ]
  refine ⟨rfl, rfl, _, _, rfl, ?_⟩
  simp only [List.set_cons_zero, List.set_cons_succ]
  refine ⟨rfl, rfl, _, _, rfl, ?_⟩
  simp only [List.set_cons_zero, List.set_cons_succ]
  refine ⟨_, _, _, _, rfl, hk.x _ (by decide), hk_n hk (by decide +kernel), rfl, lz rfl, lz rfl, lz rfl, _, _, _, _, rfl, hk.x _ (by decide), hk_n hk (by decide +kernel), rfl, lz rfl, lz rfl, lz rfl, lz rfl, lz rfl, ?_⟩
  simp only [List.set_cons_zero, List.set_cons_succ]
  refine ⟨_, _, _, _, rfl, hk.x _ (by decide), hk_n hk (by decide +kernel), rfl, lz rfl, lz rfl, lz rfl, _, _, _, _, rfl, hk.x _ (by decide), hk_n hk (by decide +kernel), rfl, lz rfl, lz rfl, lz rfl, lz rfl, lz rfl, ?_⟩
  simp only [List.set_cons_zero, List.set_cons_succ]
  refine ⟨rfl, rfl, rfl, _, _, _, rfl, ?_⟩
  simp only [List.set_cons_zero, List.set_cons_succ]
  refine ⟨_, _, _, _, rfl, hk.x _ (by decide), hk_n hk (by decide +kernel), rfl, lz rfl, lz rfl, lz rfl, _, _, _, _, rfl, hk.x _ (by decide), hk_n hk (by decide +kernel), rfl, lz rfl, lz rfl, lz rfl, lz rfl, lz rfl, ?_⟩
  simp only [List.set_cons_zero, List.set_cons_succ]
  refine ⟨_, _, _, _, rfl, hk.x _ (by decide), hk_n hk (by decide +kernel), rfl, lz rfl, lz rfl, lz rfl, lz rfl, lz rfl, ?_⟩
  simp only [List.set_cons_zero, List.set_cons_succ]
  exact hQ
def T_madeo98 (K : PySem.W.Frag) (a : Nat → Addr) {m : Mem} : DTS m :=
  (dSeq (dPar3 2 3 4 (daCons (dMkX (a 24) 1 [Str.ofString "use"] (daCons (dVar 0) daNil)) (daCons (dMkX (a 25) 1 [Str.ofString "path"] (daCons (dVar 0) daNil)) (daCons (dMkX (a 26) 1 [Str.ofString "path"] (daCons (dVar 0) daNil)) daNil))))
      (dSeq (dPar 5 6 (daCons (dMkX (a 27) 1 [Str.ofString "index"] (daCons (dVar 0) daNil)) (daCons (dMkX (a 28) 1 [Str.ofString "use"] (daCons (dVar 0) daNil)) daNil)))
      (dSeq (dSet 1 (dLst (daCons (dTup (daCons (dVar 2) (daCons (dC (D.str (Str.ofString "NoAllowance"))) (daCons (dLst (daCons (dXfl K (Str.ofString "use") (dVar 2)) daNil)) (daCons (dLst (daCons (dVar 0) daNil)) daNil))))) (daCons (dTup (daCons (dVar 3) (daCons (dC (D.str (Str.ofString "NoModule"))) (daCons (dLst (daCons (dXfl K (Str.ofString "path") (dVar 3)) daNil)) (daCons (dLst (daCons (dVar 0) daNil)) daNil))))) daNil))))
      (dSeq (dSet 1 (dOp addD (dVar 1) (dLst (daCons (dTup (daCons (dVar 4) (daCons (dC (D.str (Str.ofString "NoPart"))) (daCons (dLst (daCons (dXfl K (Str.ofString "path") (dVar 4)) daNil)) (daCons (dLst (daCons (dVar 0) daNil)) daNil))))) (daCons (dTup (daCons (dVar 5) (daCons (dC (D.str (Str.ofString "NoRule"))) (daCons (dLst (daCons (dXfl K (Str.ofString "index") (dVar 5)) daNil)) (daCons (dLst (daCons (dVar 0) daNil)) daNil))))) daNil)))))
      (dRet (dOp addD (dVar 1) (dLst (daCons (dTup (daCons (dVar 6) (daCons (dC (D.str (Str.ofString "NoUse"))) (daCons (dLst (daCons (dXfl K (Str.ofString "use") (dVar 6)) daNil)) (daCons (dLst (daCons (dVar 0) daNil)) daNil))))) daNil))))))))
theorem read_madeo98 {K : PySem.W.Frag} {a : Nat → Addr} (hk : Hk K a) {m : Mem} : ∀ ds s Qd, (spMadeO a : DSp m) ds s Qd → (T_madeo98 K a : DTS m) (endsOf Qd) (startD ["_law_one", "_law_found", "_law_allowance", "_law_module", "_law_part", "_law_rule", "_law_use"] ds) s := by
  intro ds s Qd h
  obtain ⟨x, rfl, hQ⟩ := h
  show (T_madeo98 K a : DTS m) (endsOf Qd) [.sh x, .no, .no, .no, .no, .no, .no] s
  refine ⟨rfl, rfl, rfl, _, _, _, rfl, ?_⟩
  simp only [List.set_cons_zero, List.set_cons_succ]
  refine ⟨rfl, rfl, _, _, rfl, ?_⟩
  simp only [List.set_cons_zero, List.set_cons_succ]
  refine ⟨_, _, _, _, rfl, hk.x _ (by decide), hk_n hk (by decide +kernel), rfl, lz rfl, lz rfl, lz rfl, _, _, _, _, rfl, hk.x _ (by decide), hk_n hk (by decide +kernel), rfl, lz rfl, lz rfl, lz rfl, lz rfl, ?_⟩
  simp only [List.set_cons_zero, List.set_cons_succ]
  refine ⟨_, _, _, _, rfl, hk.x _ (by decide), hk_n hk (by decide +kernel), rfl, lz rfl, lz rfl, lz rfl, _, _, _, _, rfl, hk.x _ (by decide), hk_n hk (by decide +kernel), rfl, lz rfl, lz rfl, lz rfl, lz rfl, lz rfl, ?_⟩
  simp only [List.set_cons_zero, List.set_cons_succ]
  refine ⟨_, _, _, _, rfl, hk.x _ (by decide), hk_n hk (by decide +kernel), rfl, lz rfl, lz rfl, lz rfl, lz rfl, lz rfl, ?_⟩
  simp only [List.set_cons_zero, List.set_cons_succ]
  exact hQ
def T_law_k98 (K : PySem.W.Frag) (a : Nat → Addr) : DTS Mem.deck :=
  (dSeq (dSet 1 (dCall spDeck (daCons (dVar 0) daNil)))
      (dSeq (dFor (diR1 (daCons (dC (D.int 2)) daNil)) (gN 2)
        (dSeq (dSet 4 (dCall spName (daCons (dVar 1) daNil)))
        (dSeq (dPar 6 7 (daCons (dCall spOdd (daCons (dVar 1) (daCons (dVar 4) daNil))) (daCons (dCall spOdd (daCons (dVar 1) (daCons (dVar 4) daNil))) daNil)))
        (dSeq (dSet 5 (dLst (daCons (dTup (daCons (dMkX0 (a 2)) (daCons (dC (D.str (Str.ofString "BadBatch"))) (daCons (dLst daNil) (daCons (dLst daNil) daNil))))) (daCons (dTup (daCons (dMkX0 (a 14)) (daCons (dC (D.str (Str.ofString "Full"))) (daCons (dLst daNil) (daCons (dLst daNil) daNil))))) (daCons (dTup (daCons (dMkX0 (a 17)) (daCons (dC (D.str (Str.ofString "NothingToUndo"))) (daCons (dLst daNil) (daCons (dLst daNil) daNil))))) daNil)))))
        (dSeq (dFor (diSeq (dOp addD (dVar 5) (dCall (spMade a) (daCons (dVar 6) (daCons (dVar 7) daNil))))) (gTup' 4 (gCons' (gN 8) (gCons' (gN 9) (gCons' (gN 10) (gCons' (gN 11) gNil')))))
          (dSeq (dIf (dOrT (dNotT (dTr (dCall (spS 5) (daCons (dVar 10) (daCons (dVar 11) daNil))))) (dOrT (dCmT neC (dCall (spKinds a) (daCons (dVar 8) daNil)) (dLst (daCons (dVar 9) daNil))) (dTr (dB (isxD K) (daCons (dVar 8) (daCons (dC (D.any (V.ty "LookupError"))) daNil)))))) (dRet (dC (D.bl false))) dNext)
          (dIf (dOrT (dNotT (dTr (dB (isxD K) (daCons (dVar 8) (daCons (dC (D.any (V.ref (a 1)))) daNil))))) (dNotT (dTr (dB (isxD K) (daCons (dVar 8) (daCons (dC (D.any (V.ty "ValueError"))) daNil)))))) (dRet (dC (D.bl false))) dNext)))
        (dFor (diSeq (dCall (spMadeO a) (daCons (dVar 7) daNil))) (gTup' 4 (gCons' (gN 8) (gCons' (gN 9) (gCons' (gN 10) (gCons' (gN 11) gNil')))))
          (dSeq (dIf (dOrT (dNotT (dTr (dCall (spS 5) (daCons (dVar 10) (daCons (dVar 11) daNil))))) (dOrT (dCmT neC (dCall (spKinds a) (daCons (dVar 8) daNil)) (dLst (daCons (dVar 9) daNil))) (dNotT (dTr (dB (isxD K) (daCons (dVar 8) (daCons (dC (D.any (V.ty "LookupError"))) daNil))))))) (dRet (dC (D.bl false))) dNext)
          (dIf (dTr (dIsXT K (dVar 8) (daCons (dC (D.any (V.ref (a 1)))) (daCons (dC (D.any (V.ty "ValueError"))) (daCons (dC (D.any (V.ty "KeyError"))) (daCons (dC (D.any (V.ty "IndexError"))) daNil)))))) (dRet (dC (D.bl false))) dNext))))))))
      (dSeq (dSet 3 (dTup (daCons (dC (D.int 10)) (daCons (dC (D.int 4)) (daCons (dC (D.int 40)) (daCons (dC (D.int 6)) (daCons (dC (D.int 24)) (daCons (dC (D.int 2)) (daCons (dC (D.int 6)) (daCons (dC (D.int 4)) daNil))))))))))
      (dRet (dCall (spS 5) (daCons (dOp addD (dVar 3) (dTup (daCons (dC (D.int 8)) (daCons (dC (D.int 200)) daNil)))) (daCons (dTup (daCons (dC (D.int 10)) (daCons (dC (D.int 4)) (daCons (dC (D.int 40)) (daCons (dC (D.int 6)) (daCons (dC (D.int 24)) (daCons (dC (D.int 2)) (daCons (dC (D.int 6)) (daCons (dC (D.int 4)) (daCons (dC (D.int 8)) (daCons (dC (D.int 200)) daNil))))))))))) daNil)))))))
theorem read_law_k98 {K : PySem.W.Frag} {a : Nat → Addr} (hk : Hk K a) : ∀ ds s Qd, (spLaw : DSp Mem.deck) ds s Qd → (T_law_k98 K a : DTS Mem.deck) (endsOf Qd) (startD ["_law_script", "_law_deck_here", "_law_turn", "_law_limits", "_law_name_here", "_law_plain", "_law_one", "_law_other", "_law_error", "_law_kind", "_law_fields", "_law_due"] ds) s := by
  intro ds s Qd h
  obtain ⟨ns0, rfl, hl, hs, hn, hQ⟩ := h
  have hlim : drawLim = 1152921504606846976 := rfl
  refine ⟨ns0, rfl, hl, hs, fun A B C => ?_⟩
  refine ⟨2, rfl, by decide, by decide, fun pre ρ s' => s'.adr = some (A, B, C) ∧ s'.n ≤ 100 * pre.length ∧ ∃ c2 c3 c4 c5 c6 c7 c8 c9 c10 c11, ρ = [.sh (.fz (ns0.map .int)), .sh (.any (.ref A)), c2, c3, c4, c5, c6, c7, c8, c9, c10, c11],
    ⟨rfl, (by show s.n ≤ 0; omega), _, _, _, _, _, _, _, _, _, _, rfl⟩, fun pre0 x post ρ s' heq hI => ?_, fun ρ s' hI => ?_⟩
  · obtain ⟨h1, h2, c2, c3, c4, c5, c6, c7, c8, c9, c10, c11, rfl⟩ := hI
    obtain ⟨hp, rfl⟩ := rng_pre heq
    refine ⟨A, B, C, h1, rfl, (by omega), fun nm k1 hnm hk1 => ?_⟩
    refine ⟨A, B, C, nm, h1, rfl, hnm, (by show k1 + 20 < _; omega), fun one k2 ho hk2 => ?_⟩
    refine ⟨A, B, C, nm, h1, rfl, hnm, (by have : k2 ≤ k1 + 20 := hk2; show k2 + 20 < _; omega), fun oth k3 ht hk3 => ?_⟩
    have hk3' : k3 ≤ k2 + 20 := hk3
    have hk2' : k2 ≤ k1 + 20 := hk2
    refine ⟨_, _, rfl, lz rfl, lz rfl, lz rfl, lz rfl, lz rfl, lz rfl, lz rfl, lz rfl, lz rfl, lz rfl, ?_⟩
    refine ⟨one, oth, rfl, lz rfl, _, rfl, fun pre ρ s2 => s2 = ⟨s'.adr, k3⟩ ∧ ∃ c8 c9 c10 c11, ρ = [.sh (.fz (ns0.map .int)), .sh (.any (.ref A)), .sh (.int (0 + (pre0.length : Int))), c3, .sh (.str nm), .sh (.lst (plainL a)), .sh one, .sh oth, c8, c9, c10, c11],
      ⟨rfl, _, _, _, _, rfl⟩, fun pre1 x post ρ s2 heq1 hI1 => ?_, fun ρ s2 hI1 => ?_⟩
    · obtain ⟨rfl, d8, d9, d10, d11, rfl⟩ := hI1
      obtain ⟨i, hi, hi2, ns, es, vs, rfl, hsm⟩ := rowsR (a := a) ho ht x (by
        have heq2 : plainL a ++ madeL a one oth = pre1 ++ x :: post := heq1
        rw [heq2]; simp)
      obtain ⟨b0, b1, t1⟩ := kbR hi2
      refine ⟨_, rfl, rfl, _, _, rfl, _, _, rfl, _, _, rfl, _, _, rfl, rfl, ?_⟩
      refine ⟨_, rfl, hsm, true, rfl, i, ns, es, rfl, hi, lz rfl, rfl, rfl, ?_⟩
      rw [eq_self1]
      refine ⟨_, ns, es, _, _, _, rfl, hk.x i hi, rfl, hk.b i hi 0 (by decide), _, rfl, ?_⟩
      rw [b0]
      refine ⟨_, ns, es, _, _, _, rfl, hk.x i hi, rfl, hk.t i hi 1 (by decide), _, rfl, ?_⟩
      rw [t1]
      refine ⟨_, ns, es, _, _, _, rfl, hk.x i hi, rfl, hk.b i hi 1 (by decide), _, rfl, ?_⟩
      rw [b1]
      exact ⟨rfl, _, _, _, _, rfl⟩
    · obtain ⟨rfl, d8, d9, d10, d11, rfl⟩ := hI1
      refine ⟨oth, rfl, _, rfl, fun pre ρ s2 => s2 = ⟨s'.adr, k3⟩ ∧ ∃ c8 c9 c10 c11, ρ = [.sh (.fz (ns0.map .int)), .sh (.any (.ref A)), .sh (.int (0 + (pre0.length : Int))), c3, .sh (.str nm), .sh (.lst (plainL a)), .sh one, .sh oth, c8, c9, c10, c11],
        ⟨rfl, _, _, _, _, rfl⟩, fun pre1 x post ρ s2 heq1 hI1 => ?_, fun ρ s2 hI1 => ?_⟩
      · obtain ⟨rfl, e8, e9, e10, e11, rfl⟩ := hI1
        obtain ⟨i, hi, hi2, ns, es, vs, rfl, hsm⟩ := rowsO (a := a) ht x (by
          have heq2 : madeO a oth = pre1 ++ x :: post := heq1
          rw [heq2]; simp)
        obtain ⟨b0, _⟩ := kbO hi2
        refine ⟨_, rfl, rfl, _, _, rfl, _, _, rfl, _, _, rfl, _, _, rfl, rfl, ?_⟩
        refine ⟨_, rfl, hsm, true, rfl, i, ns, es, rfl, hi, lz rfl, rfl, rfl, ?_⟩
        rw [eq_self1]
        refine ⟨_, ns, es, _, _, _, rfl, hk.x i hi, rfl, hk.b i hi 0 (by decide), _, rfl, ?_⟩
        rw [b0]
        exact ⟨_, ns, es, [.ref (a 1), .ty "ValueError", .ty "KeyError", .ty "IndexError"], [.ref (a 1), .type "ValueError", .type "KeyError", .type "IndexError"], false, rfl, rfl, rfl, Nat.le_of_ble_eq_true rfl, hk.x i hi, any4 hk hi hi2, _, rfl, rfl, _, _, _, _, rfl⟩
      · obtain ⟨rfl, e8, e9, e10, e11, rfl⟩ := hI1
        refine ⟨h1, ?_, _, _, _, _, _, _, _, _, _, _, rfl⟩
        rw [List.length_append, List.length_singleton]
        show k3 ≤ _
        omega
  · obtain ⟨h1, h2, c2, c3, c4, c5, c6, c7, c8, c9, c10, c11, rfl⟩ := hI
    refine ⟨lz rfl, lz rfl, lz rfl, lz rfl, _, rfl, ⟨Nat.le_of_ble_eq_true rfl, ?_⟩, hQ _⟩
    repeat first | exact (fun _ h => absurd h List.not_mem_nil) | refine List.forall_mem_cons.mpr ⟨trivial, ?_⟩
end DL

set_option Elab.async false
set_option linter.all false
set_option maxRecDepth 100000
set_option maxHeartbeats 4000000
namespace K98
open PySem PySem.Spec PyProof.Rows L2 TL DL
def topS (i : Nat) : Stmt := PySem.Challenge.pw_mayrest_k98_errors_and_limits.main.body.getD i (.Pass ⟨0, 0, 0, 0⟩)
abbrev s__law_deck : Stmt := topS 40
abbrev s__law_next : Stmt := topS 41
abbrev s__law_name : Stmt := topS 42
abbrev s__law_odd : Stmt := topS 43
abbrev s__law_same : Stmt := topS 44
abbrev s__law_other_kinds : Stmt := topS 46
abbrev s__law_kinds : Stmt := topS 45
abbrev s__law_made : Stmt := topS 47
abbrev s__law_made_others : Stmt := topS 48
abbrev s_law : Stmt := topS 49
structure Tx (K : PySem.W.Frag) (mg : Str → Option Value) (base : Heap) (a : Nat → Addr) (d : Nat → FuncData) (e : Nat → Addr) (ed : Nat → FuncData) : Prop where
  f40 : Fun K "_law_deck" "_law_deck" (topS 40) (a 40) (d 40)
  g40 : mg "_law_deck" = some (.ref (a 40))
  b40 : Binds K (d 40) ["_law_script"] []
  f41 : Fun K "_law_next" "_law_next" (topS 41) (a 41) (d 41)
  g41 : mg "_law_next" = some (.ref (a 41))
  b41 : Binds K (d 41) ["_law_deck_here", "_law_many"] []
  f42 : Fun K "_law_name" "_law_name" (topS 42) (a 42) (d 42)
  g42 : mg "_law_name" = some (.ref (a 42))
  b42 : Binds K (d 42) ["_law_deck_here"] []
  f43 : Fun K "_law_odd" "_law_odd" (topS 43) (a 43) (d 43)
  g43 : mg "_law_odd" = some (.ref (a 43))
  b43 : Binds K (d 43) ["_law_deck_here", "_law_path"] []
  f44 : Fun K "_law_same" "_law_same" (topS 44) (a 44) (d 44)
  g44 : mg "_law_same" = some (.ref (a 44))
  b44 : Binds K (d 44) ["_law_found", "_law_due"] []
  f46 : Fun K "_law_other_kinds" "_law_other_kinds" (topS 46) (a 46) (d 46)
  g46 : mg "_law_other_kinds" = some (.ref (a 46))
  b46 : Binds K (d 46) ["_law_error"] []
  f45 : Fun K "_law_kinds" "_law_kinds" (topS 45) (a 45) (d 45)
  g45 : mg "_law_kinds" = some (.ref (a 45))
  b45 : Binds K (d 45) ["_law_error"] []
  f47 : Fun K "_law_made" "_law_made" (topS 47) (a 47) (d 47)
  g47 : mg "_law_made" = some (.ref (a 47))
  b47 : Binds K (d 47) ["_law_one", "_law_other"] []
  f48 : Fun K "_law_made_others" "_law_made_others" (topS 48) (a 48) (d 48)
  g48 : mg "_law_made_others" = some (.ref (a 48))
  b48 : Binds K (d 48) ["_law_one"] []
  f49 : Fun K "law" "law" (topS 49) (a 49) (d 49)
  g49 : mg "law" = some (.ref (a 49))
  b49 : Binds K (d 49) ["_law_script"] []
  g1 : mg "RestError" = some (.ref (a 1))
  g2 : mg "BadBatch" = some (.ref (a 2))
  e2 : PySem.W.excIn K (a 2) bmV "ValueError.__new__" = true
  g3 : mg "BadBook" = some (.ref (a 3))
  i3 : PySem.W.findIn K (.ref (a 3)) "__init__" = some (some (.ref (e 3)))
  t3 : PySem.W.typeIn K (.ref (e 3)) = some (.type "function")
  fi3 : Fun K "__init__" "BadBook.__init__" (inClass (topS 3) 0) (e 3) (ed 3)
  bi3 : Binds K (ed 3) ["self", "error"] []
  g4 : mg "BadEdit" = some (.ref (a 4))
  i4 : PySem.W.findIn K (.ref (a 4)) "__init__" = some (some (.ref (e 4)))
  t4 : PySem.W.typeIn K (.ref (e 4)) = some (.type "function")
  fi4 : Fun K "__init__" "BadEdit.__init__" (inClass (topS 4) 0) (e 4) (ed 4)
  bi4 : Binds K (ed 4) ["self", "index"] []
  g5 : mg "BadPath" = some (.ref (a 5))
  i5 : PySem.W.findIn K (.ref (a 5)) "__init__" = some (some (.ref (e 5)))
  t5 : PySem.W.typeIn K (.ref (e 5)) = some (.type "function")
  fi5 : Fun K "__init__" "BadPath.__init__" (inClass (topS 5) 0) (e 5) (ed 5)
  bi5 : Binds K (ed 5) ["self", "path"] []
  g6 : mg "BadProgram" = some (.ref (a 6))
  i6 : PySem.W.findIn K (.ref (a 6)) "__init__" = some (some (.ref (e 6)))
  t6 : PySem.W.typeIn K (.ref (e 6)) = some (.type "function")
  fi6 : Fun K "__init__" "BadProgram.__init__" (inClass (topS 6) 0) (e 6) (ed 6)
  bi6 : Binds K (ed 6) ["self", "error"] []
  g7 : mg "BadReason" = some (.ref (a 7))
  i7 : PySem.W.findIn K (.ref (a 7)) "__init__" = some (some (.ref (e 7)))
  t7 : PySem.W.typeIn K (.ref (e 7)) = some (.type "function")
  fi7 : Fun K "__init__" "BadReason.__init__" (inClass (topS 7) 0) (e 7) (ed 7)
  bi7 : Binds K (ed 7) ["self", "reason"] []
  g8 : mg "BadRule" = some (.ref (a 8))
  i8 : PySem.W.findIn K (.ref (a 8)) "__init__" = some (some (.ref (e 8)))
  t8 : PySem.W.typeIn K (.ref (e 8)) = some (.type "function")
  fi8 : Fun K "__init__" "BadRule.__init__" (inClass (topS 8) 0) (e 8) (ed 8)
  bi8 : Binds K (ed 8) ["self", "word"] []
  g9 : mg "BadText" = some (.ref (a 9))
  i9 : PySem.W.findIn K (.ref (a 9)) "__init__" = some (some (.ref (e 9)))
  t9 : PySem.W.typeIn K (.ref (e 9)) = some (.type "function")
  fi9 : Fun K "__init__" "BadText.__init__" (inClass (topS 9) 0) (e 9) (ed 9)
  bi9 : Binds K (ed 9) ["self", "line", "code"] []
  g10 : mg "BadUse" = some (.ref (a 10))
  i10 : PySem.W.findIn K (.ref (a 10)) "__init__" = some (some (.ref (e 10)))
  t10 : PySem.W.typeIn K (.ref (e 10)) = some (.type "function")
  fi10 : Fun K "__init__" "BadUse.__init__" (inClass (topS 10) 0) (e 10) (ed 10)
  bi10 : Binds K (ed 10) ["self", "index"] []
  g11 : mg "Breaks" = some (.ref (a 11))
  i11 : PySem.W.findIn K (.ref (a 11)) "__init__" = some (some (.ref (e 11)))
  t11 : PySem.W.typeIn K (.ref (e 11)) = some (.type "function")
  fi11 : Fun K "__init__" "Breaks.__init__" (inClass (topS 11) 0) (e 11) (ed 11)
  bi11 : Binds K (ed 11) ["self", "rule", "evidence"] []
  g12 : mg "Circular" = some (.ref (a 12))
  i12 : PySem.W.findIn K (.ref (a 12)) "__init__" = some (some (.ref (e 12)))
  t12 : PySem.W.typeIn K (.ref (e 12)) = some (.type "function")
  fi12 : Fun K "__init__" "Circular.__init__" (inClass (topS 12) 0) (e 12) (ed 12)
  bi12 : Binds K (ed 12) ["self", "evidence"] []
  g13 : mg "Clash" = some (.ref (a 13))
  i13 : PySem.W.findIn K (.ref (a 13)) "__init__" = some (some (.ref (e 13)))
  t13 : PySem.W.typeIn K (.ref (e 13)) = some (.type "function")
  fi13 : Fun K "__init__" "Clash.__init__" (inClass (topS 13) 0) (e 13) (ed 13)
  bi13 : Binds K (ed 13) ["self", "path"] []
  g14 : mg "Full" = some (.ref (a 14))
  e14 : PySem.W.excIn K (a 14) bmV "ValueError.__new__" = true
  g15 : mg "InUse" = some (.ref (a 15))
  i15 : PySem.W.findIn K (.ref (a 15)) "__init__" = some (some (.ref (e 15)))
  t15 : PySem.W.typeIn K (.ref (e 15)) = some (.type "function")
  fi15 : Fun K "__init__" "InUse.__init__" (inClass (topS 15) 0) (e 15) (ed 15)
  bi15 : Binds K (ed 15) ["self", "path"] []
  g16 : mg "Itself" = some (.ref (a 16))
  i16 : PySem.W.findIn K (.ref (a 16)) "__init__" = some (some (.ref (e 16)))
  t16 : PySem.W.typeIn K (.ref (e 16)) = some (.type "function")
  fi16 : Fun K "__init__" "Itself.__init__" (inClass (topS 16) 0) (e 16) (ed 16)
  bi16 : Binds K (ed 16) ["self", "path"] []
  g17 : mg "NothingToUndo" = some (.ref (a 17))
  e17 : PySem.W.excIn K (a 17) bmV "ValueError.__new__" = true
  g18 : mg "Overlap" = some (.ref (a 18))
  i18 : PySem.W.findIn K (.ref (a 18)) "__init__" = some (some (.ref (e 18)))
  t18 : PySem.W.typeIn K (.ref (e 18)) = some (.type "function")
  fi18 : Fun K "__init__" "Overlap.__init__" (inClass (topS 18) 0) (e 18) (ed 18)
  bi18 : Binds K (ed 18) ["self", "path"] []
  g19 : mg "Rejected" = some (.ref (a 19))
  i19 : PySem.W.findIn K (.ref (a 19)) "__init__" = some (some (.ref (e 19)))
  t19 : PySem.W.typeIn K (.ref (e 19)) = some (.type "function")
  fi19 : Fun K "__init__" "Rejected.__init__" (inClass (topS 19) 0) (e 19) (ed 19)
  bi19 : Binds K (ed 19) ["self", "index"] []
  g20 : mg "Ring" = some (.ref (a 20))
  i20 : PySem.W.findIn K (.ref (a 20)) "__init__" = some (some (.ref (e 20)))
  t20 : PySem.W.typeIn K (.ref (e 20)) = some (.type "function")
  fi20 : Fun K "__init__" "Ring.__init__" (inClass (topS 20) 0) (e 20) (ed 20)
  bi20 : Binds K (ed 20) ["self", "ring"] []
  g21 : mg "Taken" = some (.ref (a 21))
  i21 : PySem.W.findIn K (.ref (a 21)) "__init__" = some (some (.ref (e 21)))
  t21 : PySem.W.typeIn K (.ref (e 21)) = some (.type "function")
  fi21 : Fun K "__init__" "Taken.__init__" (inClass (topS 21) 0) (e 21) (ed 21)
  bi21 : Binds K (ed 21) ["self", "thing"] []
  g22 : mg "TooMany" = some (.ref (a 22))
  i22 : PySem.W.findIn K (.ref (a 22)) "__init__" = some (some (.ref (e 22)))
  t22 : PySem.W.typeIn K (.ref (e 22)) = some (.type "function")
  fi22 : Fun K "__init__" "TooMany.__init__" (inClass (topS 22) 0) (e 22) (ed 22)
  bi22 : Binds K (ed 22) ["self", "limit"] []
  g23 : mg "Unclear" = some (.ref (a 23))
  i23 : PySem.W.findIn K (.ref (a 23)) "__init__" = some (some (.ref (e 23)))
  t23 : PySem.W.typeIn K (.ref (e 23)) = some (.type "function")
  fi23 : Fun K "__init__" "Unclear.__init__" (inClass (topS 23) 0) (e 23) (ed 23)
  bi23 : Binds K (ed 23) ["self", "name"] []
  g24 : mg "NoAllowance" = some (.ref (a 24))
  i24 : PySem.W.findIn K (.ref (a 24)) "__init__" = some (some (.ref (e 24)))
  t24 : PySem.W.typeIn K (.ref (e 24)) = some (.type "function")
  fi24 : Fun K "__init__" "NoAllowance.__init__" (inClass (topS 24) 0) (e 24) (ed 24)
  bi24 : Binds K (ed 24) ["self", "use"] []
  g25 : mg "NoModule" = some (.ref (a 25))
  i25 : PySem.W.findIn K (.ref (a 25)) "__init__" = some (some (.ref (e 25)))
  t25 : PySem.W.typeIn K (.ref (e 25)) = some (.type "function")
  fi25 : Fun K "__init__" "NoModule.__init__" (inClass (topS 25) 0) (e 25) (ed 25)
  bi25 : Binds K (ed 25) ["self", "path"] []
  g26 : mg "NoPart" = some (.ref (a 26))
  i26 : PySem.W.findIn K (.ref (a 26)) "__init__" = some (some (.ref (e 26)))
  t26 : PySem.W.typeIn K (.ref (e 26)) = some (.type "function")
  fi26 : Fun K "__init__" "NoPart.__init__" (inClass (topS 26) 0) (e 26) (ed 26)
  bi26 : Binds K (ed 26) ["self", "path"] []
  g27 : mg "NoRule" = some (.ref (a 27))
  i27 : PySem.W.findIn K (.ref (a 27)) "__init__" = some (some (.ref (e 27)))
  t27 : PySem.W.typeIn K (.ref (e 27)) = some (.type "function")
  fi27 : Fun K "__init__" "NoRule.__init__" (inClass (topS 27) 0) (e 27) (ed 27)
  bi27 : Binds K (ed 27) ["self", "index"] []
  g28 : mg "NoUse" = some (.ref (a 28))
  i28 : PySem.W.findIn K (.ref (a 28)) "__init__" = some (some (.ref (e 28)))
  t28 : PySem.W.typeIn K (.ref (e 28)) = some (.type "function")
  fi28 : Fun K "__init__" "NoUse.__init__" (inClass (topS 28) 0) (e 28) (ed 28)
  bi28 : Binds K (ed 28) ["self", "use"] []
  hk : Hk K a
  sys : ∃ o, base.get? sysModules = some o
  z_IndexError : mg "IndexError" = none
  z_KeyError : mg "KeyError" = none
  z_LookupError : mg "LookupError" = none
  z_ValueError : mg "ValueError" = none
  z_abs : mg "abs" = none
  z_all : mg "all" = none
  z_bool : mg "bool" = none
  z_dict : mg "dict" = none
  z_int : mg "int" = none
  z_isinstance : mg "isinstance" = none
  z_len : mg "len" = none
  z_list : mg "list" = none
  z_range : mg "range" = none
  z_repr : mg "repr" = none
  z_str : mg "str" = none
  z_tuple : mg "tuple" = none
  z_zip : mg "zip" = none
  c_BATCH : ∃ t, mg "BATCH" = some (.int 10 t)
  c_MAX_CUTS : ∃ t, mg "MAX_CUTS" = some (.int 4 t)
  c_MAX_EDITS : ∃ t, mg "MAX_EDITS" = some (.int 40 t)
  c_MAX_LISTED : ∃ t, mg "MAX_LISTED" = some (.int 6 t)
  c_MAX_MODULES : ∃ t, mg "MAX_MODULES" = some (.int 24 t)
  c_MAX_MOVES : ∃ t, mg "MAX_MOVES" = some (.int 2 t)
  c_MAX_NAMES : ∃ t, mg "MAX_NAMES" = some (.int 6 t)
  c_MAX_RULES : ∃ t, mg "MAX_RULES" = some (.int 8 t)
  c_MAX_RULE_NAMES : ∃ t, mg "MAX_RULE_NAMES" = some (.int 4 t)
  c_MAX_USES : ∃ t, mg "MAX_USES" = some (.int 200 t)
section
variable {P : Program} {w : World} {K : PySem.W.Frag} {mg : Str → Option Value} {base : Heap} {a : Nat → Addr} {d : Nat → FuncData} {e : Nat → Addr} {ed : Nat → FuncData}
abbrev si_BadBook : Stmt := inClass (topS 3) 0
theorem sci_BadBook : FnScope ["self", "error"] ["self", "error"] (defScope si_BadBook) := ⟨rfl, rfl, rfl, by decide +kernel, rfl, by decide +kernel, by decide +kernel⟩
theorem oi_BadBook (T : Tx K mg base a d e ed) : FnG P w K mg base CX0 1 (e 3) (ed 3) ["self", "error"] (spIn1 (a 3) "error") := by
  refine Fun.okG T.fi3 sci_BadBook (fun vs H Q E h => by obtain ⟨_, _, rfl, _⟩ := h; rfl) (fun cdv A outer s H vs Q E hr h => ?_)
  obtain ⟨x, v, rfl, ea, q⟩ := h
  exact ⟨_, pss_one (ps_xst (pv 0) (pv 1)), _, rfl, _, rfl, x, a 3, rfl, T.hk.x 3 (by decide), T.hk.n (3, "error") (by decide), .inl ⟨ea, fun dx n ne => q dx n ne⟩⟩
abbrev si_BadEdit : Stmt := inClass (topS 4) 0
theorem sci_BadEdit : FnScope ["self", "index"] ["self", "index"] (defScope si_BadEdit) := ⟨rfl, rfl, rfl, by decide +kernel, rfl, by decide +kernel, by decide +kernel⟩
theorem oi_BadEdit (T : Tx K mg base a d e ed) : FnG P w K mg base CX0 1 (e 4) (ed 4) ["self", "index"] (spIn1 (a 4) "index") := by
  refine Fun.okG T.fi4 sci_BadEdit (fun vs H Q E h => by obtain ⟨_, _, rfl, _⟩ := h; rfl) (fun cdv A outer s H vs Q E hr h => ?_)
  obtain ⟨x, v, rfl, ea, q⟩ := h
  exact ⟨_, pss_one (ps_xst (pv 0) (pv 1)), _, rfl, _, rfl, x, a 4, rfl, T.hk.x 4 (by decide), T.hk.n (4, "index") (by decide), .inl ⟨ea, fun dx n ne => q dx n ne⟩⟩
abbrev si_BadPath : Stmt := inClass (topS 5) 0
theorem sci_BadPath : FnScope ["self", "path"] ["self", "path"] (defScope si_BadPath) := ⟨rfl, rfl, rfl, by decide +kernel, rfl, by decide +kernel, by decide +kernel⟩
theorem oi_BadPath (T : Tx K mg base a d e ed) : FnG P w K mg base CX0 1 (e 5) (ed 5) ["self", "path"] (spIn1 (a 5) "path") := by
  refine Fun.okG T.fi5 sci_BadPath (fun vs H Q E h => by obtain ⟨_, _, rfl, _⟩ := h; rfl) (fun cdv A outer s H vs Q E hr h => ?_)
  obtain ⟨x, v, rfl, ea, q⟩ := h
  exact ⟨_, pss_one (ps_xst (pv 0) (pv 1)), _, rfl, _, rfl, x, a 5, rfl, T.hk.x 5 (by decide), T.hk.n (5, "path") (by decide), .inl ⟨ea, fun dx n ne => q dx n ne⟩⟩
abbrev si_BadProgram : Stmt := inClass (topS 6) 0
theorem sci_BadProgram : FnScope ["self", "error"] ["self", "error"] (defScope si_BadProgram) := ⟨rfl, rfl, rfl, by decide +kernel, rfl, by decide +kernel, by decide +kernel⟩
theorem oi_BadProgram (T : Tx K mg base a d e ed) : FnG P w K mg base CX0 1 (e 6) (ed 6) ["self", "error"] (spIn1 (a 6) "error") := by
  refine Fun.okG T.fi6 sci_BadProgram (fun vs H Q E h => by obtain ⟨_, _, rfl, _⟩ := h; rfl) (fun cdv A outer s H vs Q E hr h => ?_)
  obtain ⟨x, v, rfl, ea, q⟩ := h
  exact ⟨_, pss_one (ps_xst (pv 0) (pv 1)), _, rfl, _, rfl, x, a 6, rfl, T.hk.x 6 (by decide), T.hk.n (6, "error") (by decide), .inl ⟨ea, fun dx n ne => q dx n ne⟩⟩
abbrev si_BadReason : Stmt := inClass (topS 7) 0
theorem sci_BadReason : FnScope ["self", "reason"] ["self", "reason"] (defScope si_BadReason) := ⟨rfl, rfl, rfl, by decide +kernel, rfl, by decide +kernel, by decide +kernel⟩
theorem oi_BadReason (T : Tx K mg base a d e ed) : FnG P w K mg base CX0 1 (e 7) (ed 7) ["self", "reason"] (spIn1 (a 7) "reason") := by
  refine Fun.okG T.fi7 sci_BadReason (fun vs H Q E h => by obtain ⟨_, _, rfl, _⟩ := h; rfl) (fun cdv A outer s H vs Q E hr h => ?_)
  obtain ⟨x, v, rfl, ea, q⟩ := h
  exact ⟨_, pss_one (ps_xst (pv 0) (pv 1)), _, rfl, _, rfl, x, a 7, rfl, T.hk.x 7 (by decide), T.hk.n (7, "reason") (by decide), .inl ⟨ea, fun dx n ne => q dx n ne⟩⟩
abbrev si_BadRule : Stmt := inClass (topS 8) 0
theorem sci_BadRule : FnScope ["self", "word"] ["self", "word"] (defScope si_BadRule) := ⟨rfl, rfl, rfl, by decide +kernel, rfl, by decide +kernel, by decide +kernel⟩
theorem oi_BadRule (T : Tx K mg base a d e ed) : FnG P w K mg base CX0 1 (e 8) (ed 8) ["self", "word"] (spIn1 (a 8) "word") := by
  refine Fun.okG T.fi8 sci_BadRule (fun vs H Q E h => by obtain ⟨_, _, rfl, _⟩ := h; rfl) (fun cdv A outer s H vs Q E hr h => ?_)
  obtain ⟨x, v, rfl, ea, q⟩ := h
  exact ⟨_, pss_one (ps_xst (pv 0) (pv 1)), _, rfl, _, rfl, x, a 8, rfl, T.hk.x 8 (by decide), T.hk.n (8, "word") (by decide), .inl ⟨ea, fun dx n ne => q dx n ne⟩⟩
abbrev si_BadText : Stmt := inClass (topS 9) 0
theorem sci_BadText : FnScope ["self", "line", "code"] ["self", "line", "code"] (defScope si_BadText) := ⟨rfl, rfl, rfl, by decide +kernel, rfl, by decide +kernel, by decide +kernel⟩
theorem oi_BadText (T : Tx K mg base a d e ed) : FnG P w K mg base CX0 1 (e 9) (ed 9) ["self", "line", "code"] (spIn2 (a 9) "line" "code") := by
  refine Fun.okG T.fi9 sci_BadText (fun vs H Q E h => by obtain ⟨_, _, _, rfl, _⟩ := h; rfl) (fun cdv A outer s H vs Q E hr h => ?_)
  obtain ⟨x, v, w', rfl, ea, q⟩ := h
  exact ⟨_, pss_cons (ps_xst (pv 0) (pv 1)) (pss_one (ps_xst (pv 0) (pv 2))), _, rfl, _, rfl, x, a 9, rfl, T.hk.x 9 (by decide), T.hk.n (9, "line") (by decide), .inl ⟨ea, fun dx n ne => ⟨_, rfl, _, rfl, x, a 9, rfl, T.hk.x 9 (by decide), T.hk.n (9, "code") (by decide), .inr ⟨dx, _, upd_same, (by rw [upd_ne ne, upd_same]), (by show 1 ≤ 900; decide), q dx n ne⟩⟩⟩⟩
abbrev si_BadUse : Stmt := inClass (topS 10) 0
theorem sci_BadUse : FnScope ["self", "index"] ["self", "index"] (defScope si_BadUse) := ⟨rfl, rfl, rfl, by decide +kernel, rfl, by decide +kernel, by decide +kernel⟩
theorem oi_BadUse (T : Tx K mg base a d e ed) : FnG P w K mg base CX0 1 (e 10) (ed 10) ["self", "index"] (spIn1 (a 10) "index") := by
  refine Fun.okG T.fi10 sci_BadUse (fun vs H Q E h => by obtain ⟨_, _, rfl, _⟩ := h; rfl) (fun cdv A outer s H vs Q E hr h => ?_)
  obtain ⟨x, v, rfl, ea, q⟩ := h
  exact ⟨_, pss_one (ps_xst (pv 0) (pv 1)), _, rfl, _, rfl, x, a 10, rfl, T.hk.x 10 (by decide), T.hk.n (10, "index") (by decide), .inl ⟨ea, fun dx n ne => q dx n ne⟩⟩
abbrev si_Breaks : Stmt := inClass (topS 11) 0
theorem sci_Breaks : FnScope ["self", "rule", "evidence"] ["self", "rule", "evidence"] (defScope si_Breaks) := ⟨rfl, rfl, rfl, by decide +kernel, rfl, by decide +kernel, by decide +kernel⟩
theorem oi_Breaks (T : Tx K mg base a d e ed) : FnG P w K mg base CX0 1 (e 11) (ed 11) ["self", "rule", "evidence"] (spIn2 (a 11) "rule" "evidence") := by
  refine Fun.okG T.fi11 sci_Breaks (fun vs H Q E h => by obtain ⟨_, _, _, rfl, _⟩ := h; rfl) (fun cdv A outer s H vs Q E hr h => ?_)
  obtain ⟨x, v, w', rfl, ea, q⟩ := h
  exact ⟨_, pss_cons (ps_xst (pv 0) (pv 1)) (pss_one (ps_xst (pv 0) (pv 2))), _, rfl, _, rfl, x, a 11, rfl, T.hk.x 11 (by decide), T.hk.n (11, "rule") (by decide), .inl ⟨ea, fun dx n ne => ⟨_, rfl, _, rfl, x, a 11, rfl, T.hk.x 11 (by decide), T.hk.n (11, "evidence") (by decide), .inr ⟨dx, _, upd_same, (by rw [upd_ne ne, upd_same]), (by show 1 ≤ 900; decide), q dx n ne⟩⟩⟩⟩
abbrev si_Circular : Stmt := inClass (topS 12) 0
theorem sci_Circular : FnScope ["self", "evidence"] ["self", "evidence"] (defScope si_Circular) := ⟨rfl, rfl, rfl, by decide +kernel, rfl, by decide +kernel, by decide +kernel⟩
theorem oi_Circular (T : Tx K mg base a d e ed) : FnG P w K mg base CX0 1 (e 12) (ed 12) ["self", "evidence"] (spIn1 (a 12) "evidence") := by
  refine Fun.okG T.fi12 sci_Circular (fun vs H Q E h => by obtain ⟨_, _, rfl, _⟩ := h; rfl) (fun cdv A outer s H vs Q E hr h => ?_)
  obtain ⟨x, v, rfl, ea, q⟩ := h
  exact ⟨_, pss_one (ps_xst (pv 0) (pv 1)), _, rfl, _, rfl, x, a 12, rfl, T.hk.x 12 (by decide), T.hk.n (12, "evidence") (by decide), .inl ⟨ea, fun dx n ne => q dx n ne⟩⟩
abbrev si_Clash : Stmt := inClass (topS 13) 0
theorem sci_Clash : FnScope ["self", "path"] ["self", "path"] (defScope si_Clash) := ⟨rfl, rfl, rfl, by decide +kernel, rfl, by decide +kernel, by decide +kernel⟩
theorem oi_Clash (T : Tx K mg base a d e ed) : FnG P w K mg base CX0 1 (e 13) (ed 13) ["self", "path"] (spIn1 (a 13) "path") := by
  refine Fun.okG T.fi13 sci_Clash (fun vs H Q E h => by obtain ⟨_, _, rfl, _⟩ := h; rfl) (fun cdv A outer s H vs Q E hr h => ?_)
  obtain ⟨x, v, rfl, ea, q⟩ := h
  exact ⟨_, pss_one (ps_xst (pv 0) (pv 1)), _, rfl, _, rfl, x, a 13, rfl, T.hk.x 13 (by decide), T.hk.n (13, "path") (by decide), .inl ⟨ea, fun dx n ne => q dx n ne⟩⟩
abbrev si_InUse : Stmt := inClass (topS 15) 0
theorem sci_InUse : FnScope ["self", "path"] ["self", "path"] (defScope si_InUse) := ⟨rfl, rfl, rfl, by decide +kernel, rfl, by decide +kernel, by decide +kernel⟩
theorem oi_InUse (T : Tx K mg base a d e ed) : FnG P w K mg base CX0 1 (e 15) (ed 15) ["self", "path"] (spIn1 (a 15) "path") := by
  refine Fun.okG T.fi15 sci_InUse (fun vs H Q E h => by obtain ⟨_, _, rfl, _⟩ := h; rfl) (fun cdv A outer s H vs Q E hr h => ?_)
  obtain ⟨x, v, rfl, ea, q⟩ := h
  exact ⟨_, pss_one (ps_xst (pv 0) (pv 1)), _, rfl, _, rfl, x, a 15, rfl, T.hk.x 15 (by decide), T.hk.n (15, "path") (by decide), .inl ⟨ea, fun dx n ne => q dx n ne⟩⟩
abbrev si_Itself : Stmt := inClass (topS 16) 0
theorem sci_Itself : FnScope ["self", "path"] ["self", "path"] (defScope si_Itself) := ⟨rfl, rfl, rfl, by decide +kernel, rfl, by decide +kernel, by decide +kernel⟩
theorem oi_Itself (T : Tx K mg base a d e ed) : FnG P w K mg base CX0 1 (e 16) (ed 16) ["self", "path"] (spIn1 (a 16) "path") := by
  refine Fun.okG T.fi16 sci_Itself (fun vs H Q E h => by obtain ⟨_, _, rfl, _⟩ := h; rfl) (fun cdv A outer s H vs Q E hr h => ?_)
  obtain ⟨x, v, rfl, ea, q⟩ := h
  exact ⟨_, pss_one (ps_xst (pv 0) (pv 1)), _, rfl, _, rfl, x, a 16, rfl, T.hk.x 16 (by decide), T.hk.n (16, "path") (by decide), .inl ⟨ea, fun dx n ne => q dx n ne⟩⟩
abbrev si_Overlap : Stmt := inClass (topS 18) 0
theorem sci_Overlap : FnScope ["self", "path"] ["self", "path"] (defScope si_Overlap) := ⟨rfl, rfl, rfl, by decide +kernel, rfl, by decide +kernel, by decide +kernel⟩
theorem oi_Overlap (T : Tx K mg base a d e ed) : FnG P w K mg base CX0 1 (e 18) (ed 18) ["self", "path"] (spIn1 (a 18) "path") := by
  refine Fun.okG T.fi18 sci_Overlap (fun vs H Q E h => by obtain ⟨_, _, rfl, _⟩ := h; rfl) (fun cdv A outer s H vs Q E hr h => ?_)
  obtain ⟨x, v, rfl, ea, q⟩ := h
  exact ⟨_, pss_one (ps_xst (pv 0) (pv 1)), _, rfl, _, rfl, x, a 18, rfl, T.hk.x 18 (by decide), T.hk.n (18, "path") (by decide), .inl ⟨ea, fun dx n ne => q dx n ne⟩⟩
abbrev si_Rejected : Stmt := inClass (topS 19) 0
theorem sci_Rejected : FnScope ["self", "index"] ["self", "index"] (defScope si_Rejected) := ⟨rfl, rfl, rfl, by decide +kernel, rfl, by decide +kernel, by decide +kernel⟩
theorem oi_Rejected (T : Tx K mg base a d e ed) : FnG P w K mg base CX0 1 (e 19) (ed 19) ["self", "index"] (spIn1 (a 19) "index") := by
  refine Fun.okG T.fi19 sci_Rejected (fun vs H Q E h => by obtain ⟨_, _, rfl, _⟩ := h; rfl) (fun cdv A outer s H vs Q E hr h => ?_)
  obtain ⟨x, v, rfl, ea, q⟩ := h
  exact ⟨_, pss_one (ps_xst (pv 0) (pv 1)), _, rfl, _, rfl, x, a 19, rfl, T.hk.x 19 (by decide), T.hk.n (19, "index") (by decide), .inl ⟨ea, fun dx n ne => q dx n ne⟩⟩
abbrev si_Ring : Stmt := inClass (topS 20) 0
theorem sci_Ring : FnScope ["self", "ring"] ["self", "ring"] (defScope si_Ring) := ⟨rfl, rfl, rfl, by decide +kernel, rfl, by decide +kernel, by decide +kernel⟩
theorem oi_Ring (T : Tx K mg base a d e ed) : FnG P w K mg base CX0 1 (e 20) (ed 20) ["self", "ring"] (spIn1 (a 20) "ring") := by
  refine Fun.okG T.fi20 sci_Ring (fun vs H Q E h => by obtain ⟨_, _, rfl, _⟩ := h; rfl) (fun cdv A outer s H vs Q E hr h => ?_)
  obtain ⟨x, v, rfl, ea, q⟩ := h
  exact ⟨_, pss_one (ps_xst (pv 0) (pv 1)), _, rfl, _, rfl, x, a 20, rfl, T.hk.x 20 (by decide), T.hk.n (20, "ring") (by decide), .inl ⟨ea, fun dx n ne => q dx n ne⟩⟩
abbrev si_Taken : Stmt := inClass (topS 21) 0
theorem sci_Taken : FnScope ["self", "thing"] ["self", "thing"] (defScope si_Taken) := ⟨rfl, rfl, rfl, by decide +kernel, rfl, by decide +kernel, by decide +kernel⟩
theorem oi_Taken (T : Tx K mg base a d e ed) : FnG P w K mg base CX0 1 (e 21) (ed 21) ["self", "thing"] (spIn1 (a 21) "thing") := by
  refine Fun.okG T.fi21 sci_Taken (fun vs H Q E h => by obtain ⟨_, _, rfl, _⟩ := h; rfl) (fun cdv A outer s H vs Q E hr h => ?_)
  obtain ⟨x, v, rfl, ea, q⟩ := h
  exact ⟨_, pss_one (ps_xst (pv 0) (pv 1)), _, rfl, _, rfl, x, a 21, rfl, T.hk.x 21 (by decide), T.hk.n (21, "thing") (by decide), .inl ⟨ea, fun dx n ne => q dx n ne⟩⟩
abbrev si_TooMany : Stmt := inClass (topS 22) 0
theorem sci_TooMany : FnScope ["self", "limit"] ["self", "limit"] (defScope si_TooMany) := ⟨rfl, rfl, rfl, by decide +kernel, rfl, by decide +kernel, by decide +kernel⟩
theorem oi_TooMany (T : Tx K mg base a d e ed) : FnG P w K mg base CX0 1 (e 22) (ed 22) ["self", "limit"] (spIn1 (a 22) "limit") := by
  refine Fun.okG T.fi22 sci_TooMany (fun vs H Q E h => by obtain ⟨_, _, rfl, _⟩ := h; rfl) (fun cdv A outer s H vs Q E hr h => ?_)
  obtain ⟨x, v, rfl, ea, q⟩ := h
  exact ⟨_, pss_one (ps_xst (pv 0) (pv 1)), _, rfl, _, rfl, x, a 22, rfl, T.hk.x 22 (by decide), T.hk.n (22, "limit") (by decide), .inl ⟨ea, fun dx n ne => q dx n ne⟩⟩
abbrev si_Unclear : Stmt := inClass (topS 23) 0
theorem sci_Unclear : FnScope ["self", "name"] ["self", "name"] (defScope si_Unclear) := ⟨rfl, rfl, rfl, by decide +kernel, rfl, by decide +kernel, by decide +kernel⟩
theorem oi_Unclear (T : Tx K mg base a d e ed) : FnG P w K mg base CX0 1 (e 23) (ed 23) ["self", "name"] (spIn1 (a 23) "name") := by
  refine Fun.okG T.fi23 sci_Unclear (fun vs H Q E h => by obtain ⟨_, _, rfl, _⟩ := h; rfl) (fun cdv A outer s H vs Q E hr h => ?_)
  obtain ⟨x, v, rfl, ea, q⟩ := h
  exact ⟨_, pss_one (ps_xst (pv 0) (pv 1)), _, rfl, _, rfl, x, a 23, rfl, T.hk.x 23 (by decide), T.hk.n (23, "name") (by decide), .inl ⟨ea, fun dx n ne => q dx n ne⟩⟩
abbrev si_NoAllowance : Stmt := inClass (topS 24) 0
theorem sci_NoAllowance : FnScope ["self", "use"] ["self", "use"] (defScope si_NoAllowance) := ⟨rfl, rfl, rfl, by decide +kernel, rfl, by decide +kernel, by decide +kernel⟩
theorem oi_NoAllowance (T : Tx K mg base a d e ed) : FnG P w K mg base CX0 1 (e 24) (ed 24) ["self", "use"] (spIn1 (a 24) "use") := by
  refine Fun.okG T.fi24 sci_NoAllowance (fun vs H Q E h => by obtain ⟨_, _, rfl, _⟩ := h; rfl) (fun cdv A outer s H vs Q E hr h => ?_)
  obtain ⟨x, v, rfl, ea, q⟩ := h
  exact ⟨_, pss_one (ps_xst (pv 0) (pv 1)), _, rfl, _, rfl, x, a 24, rfl, T.hk.x 24 (by decide), T.hk.n (24, "use") (by decide), .inl ⟨ea, fun dx n ne => q dx n ne⟩⟩
abbrev si_NoModule : Stmt := inClass (topS 25) 0
theorem sci_NoModule : FnScope ["self", "path"] ["self", "path"] (defScope si_NoModule) := ⟨rfl, rfl, rfl, by decide +kernel, rfl, by decide +kernel, by decide +kernel⟩
theorem oi_NoModule (T : Tx K mg base a d e ed) : FnG P w K mg base CX0 1 (e 25) (ed 25) ["self", "path"] (spIn1 (a 25) "path") := by
  refine Fun.okG T.fi25 sci_NoModule (fun vs H Q E h => by obtain ⟨_, _, rfl, _⟩ := h; rfl) (fun cdv A outer s H vs Q E hr h => ?_)
  obtain ⟨x, v, rfl, ea, q⟩ := h
  exact ⟨_, pss_one (ps_xst (pv 0) (pv 1)), _, rfl, _, rfl, x, a 25, rfl, T.hk.x 25 (by decide), T.hk.n (25, "path") (by decide), .inl ⟨ea, fun dx n ne => q dx n ne⟩⟩
abbrev si_NoPart : Stmt := inClass (topS 26) 0
theorem sci_NoPart : FnScope ["self", "path"] ["self", "path"] (defScope si_NoPart) := ⟨rfl, rfl, rfl, by decide +kernel, rfl, by decide +kernel, by decide +kernel⟩
theorem oi_NoPart (T : Tx K mg base a d e ed) : FnG P w K mg base CX0 1 (e 26) (ed 26) ["self", "path"] (spIn1 (a 26) "path") := by
  refine Fun.okG T.fi26 sci_NoPart (fun vs H Q E h => by obtain ⟨_, _, rfl, _⟩ := h; rfl) (fun cdv A outer s H vs Q E hr h => ?_)
  obtain ⟨x, v, rfl, ea, q⟩ := h
  exact ⟨_, pss_one (ps_xst (pv 0) (pv 1)), _, rfl, _, rfl, x, a 26, rfl, T.hk.x 26 (by decide), T.hk.n (26, "path") (by decide), .inl ⟨ea, fun dx n ne => q dx n ne⟩⟩
abbrev si_NoRule : Stmt := inClass (topS 27) 0
theorem sci_NoRule : FnScope ["self", "index"] ["self", "index"] (defScope si_NoRule) := ⟨rfl, rfl, rfl, by decide +kernel, rfl, by decide +kernel, by decide +kernel⟩
theorem oi_NoRule (T : Tx K mg base a d e ed) : FnG P w K mg base CX0 1 (e 27) (ed 27) ["self", "index"] (spIn1 (a 27) "index") := by
  refine Fun.okG T.fi27 sci_NoRule (fun vs H Q E h => by obtain ⟨_, _, rfl, _⟩ := h; rfl) (fun cdv A outer s H vs Q E hr h => ?_)
  obtain ⟨x, v, rfl, ea, q⟩ := h
  exact ⟨_, pss_one (ps_xst (pv 0) (pv 1)), _, rfl, _, rfl, x, a 27, rfl, T.hk.x 27 (by decide), T.hk.n (27, "index") (by decide), .inl ⟨ea, fun dx n ne => q dx n ne⟩⟩
abbrev si_NoUse : Stmt := inClass (topS 28) 0
theorem sci_NoUse : FnScope ["self", "use"] ["self", "use"] (defScope si_NoUse) := ⟨rfl, rfl, rfl, by decide +kernel, rfl, by decide +kernel, by decide +kernel⟩
theorem oi_NoUse (T : Tx K mg base a d e ed) : FnG P w K mg base CX0 1 (e 28) (ed 28) ["self", "use"] (spIn1 (a 28) "use") := by
  refine Fun.okG T.fi28 sci_NoUse (fun vs H Q E h => by obtain ⟨_, _, rfl, _⟩ := h; rfl) (fun cdv A outer s H vs Q E hr h => ?_)
  obtain ⟨x, v, rfl, ea, q⟩ := h
  exact ⟨_, pss_one (ps_xst (pv 0) (pv 1)), _, rfl, _, rfl, x, a 28, rfl, T.hk.x 28 (by decide), T.hk.n (28, "use") (by decide), .inl ⟨ea, fun dx n ne => q dx n ne⟩⟩
abbrev names__law_deck : List Str := ["_law_script", "_law_cells", "_law_number"]
theorem sc__law_deck : FnScope names__law_deck ["_law_script"] (defScope s__law_deck) := ⟨rfl, rfl, rfl, by decide +kernel, rfl, by decide +kernel, by decide +kernel⟩
theorem ok0__law_deck (T : Tx K mg base a d e ed) : FnOk P w K mg base CX0 1 (a 40) (d 40) ["_law_script"] (lift K Mem.deck 1 spDeck) := by
  refine T.f40.ok sc__law_deck (fun vs H Q E h => h.1) (fun cdv A outer s H vs Q E hr h => ?_)
  obtain ⟨hl, F, ds, sd, Qd, sub, hm, hreg, rs, ⟨ns, e2, hns, e0, hQd⟩, hQ⟩ := h
  subst e2
  obtain ⟨v, _, rfl, ⟨sc, vs, rfl, hsc, _, rv⟩, rn⟩ := rs
  cases rn
  have ev := reps_ints rv
  subst ev
  have hS : SqL K H sc (ns.map V.int) := Same.seq sub hsc
  refine ⟨_, pss_cons (ps_setLc (i := 1) (own := [("_law_number", 2)]) (g := gName 2) (tt := tYes) rfl sc__law_deck.nd rfl rfl (sw_true rfl rfl rfl (by decide +kernel)) (pi_list (pv 0)) (blkOk_by (N := names__law_deck) (sc := defScope s__law_deck) (by decide +kernel)) (fun _ _ _ _ _ => pg_name (i := 2) sc__law_deck.nd rfl (Or.inl rfl)) (fun _ _ _ _ _ => pts_nil) (fun _ _ _ _ _ => pe_callB call_abs (by rfl) T.z_abs (by decide +kernel) (pa_cons (pv 2) pa_nil)))
    (pss_one (ps_ret (pe_lst (pa_cons (pe_lc (own := [("_law_number", 2)]) (g := gName 2) rfl sc__law_deck.nd (pi_list (pv 1)) (blkOk_by (N := names__law_deck) (sc := defScope s__law_deck) (by decide +kernel)) (fun _ _ _ _ _ => pg_name (i := 2) sc__law_deck.nd rfl (Or.inl rfl)) (fun _ _ _ _ _ => pts_one (pt_cmpR op_ge (pv 2) (pe_op op_pow pe_int pe_int) (nomark _))) (fun _ _ _ _ _ => pv 2))
      (pa_cons (pe_op op_cat (pv 1) (pe_lst (pa_cons (pe_op op_add (pe_callB call_len_seq (by rfl) T.z_len PySem.boot_len (pa_cons (pv 1) pa_nil)) pe_int) pa_nil))) (pa_cons pe_int pa_nil)))))), ?_⟩
  refine ⟨_, rfl, sc, rfl, ⟨_, hS⟩, fun D hD => lc_list (K := K) (a := sc) (xs := ns.map V.int) (fun i H' => H' D = some (.lst ((ns.take i).map fun x => V.int (absI x))) ∧ Same H H') ⟨upd_same, DL.same_upd hD⟩ (fun i H' _ q => Same.seq q.2 hS) (fun i x H' hx q => ?_) (fun H' q => ?_)⟩
  · obtain ⟨q1, q2⟩ := q
    obtain ⟨z, hz, rfl⟩ : ∃ z, ns[i]? = some z ∧ V.int z = x := by
      rw [List.getElem?_map] at hx
      cases e : ns[i]? with
      | none => rw [e] at hx; cases hx
      | some z => rw [e] at hx; exact ⟨z, rfl, Option.some.inj hx⟩
    have hi : i < ns.length := (List.getElem?_eq_some_iff.mp hz).1
    refine ⟨rfl, _, rfl, z, rfl, _, q1, by rw [List.length_map, List.length_take]; exact small1000 (by omega), ?_, fun b o e => ?_⟩
    · rw [upd_same, List.take_add_one, hz, List.map_append]
      rfl
    · rw [upd_ne (ne_of_none e hD)]; exact q2 _ _ e
  · obtain ⟨q1, q2⟩ := q
    have q1' : H' D = some (.lst (ns.map fun x => V.int (absI x))) := by rw [q1]; simp
    obtain ⟨cs, hcs, ecs⟩ : ∃ cs : List Int, cs.length = ns.length ∧ (ns.map fun x => V.int (absI x)) = cs.map V.int := ⟨ns.map absI, List.length_map _, by rw [List.map_map]; rfl⟩
    rw [ecs] at q1'
    have hC : SqL K H' D (cs.map V.int) := .inl (.inl q1')
    refine ⟨_, rfl, D, rfl, ⟨_, hC⟩, fun B hB => lc_list (K := K) (a := D) (xs := cs.map V.int) (fun i H2 => (∃ bg : List Int, bg.length ≤ i ∧ H2 B = some (.lst (bg.map V.int))) ∧ Same H' H2) ⟨⟨[], Nat.le_refl _, upd_same⟩, DL.same_upd hB⟩ (fun i H2 _ q => Same.seq q.2 hC) (fun i x H2 hx q => ?_) (fun H2 q => ?_)⟩
    · obtain ⟨⟨bg, g1, g2⟩, g3⟩ := q
      obtain ⟨z, hz, rfl⟩ : ∃ z, cs[i]? = some z ∧ V.int z = x := by
        rw [List.getElem?_map] at hx
        cases e : cs[i]? with
        | none => rw [e] at hx; cases hx
        | some z => rw [e] at hx; exact ⟨z, rfl, Option.some.inj hx⟩
      have hi : i < cs.length := (List.getElem?_eq_some_iff.mp hz).1
      refine ⟨rfl, _, rfl, 10, 18, rfl, rfl, ⟨by decide, by decide, by decide⟩, z, _, rfl, rfl, _, rfl, ?_⟩
      refine ite2 (fun _ => ?_) fun _ => ?_
      · refine ⟨_, rfl, _, g2, by rw [List.length_map]; exact small1000 (by omega), ⟨bg ++ [z], by rw [List.length_append]; simp; omega, by rw [upd_same, List.map_append]; rfl⟩, fun b o e => ?_⟩
        rw [upd_ne (ne_of_none e hB)]; exact g3 _ _ e
      · exact ⟨⟨bg, by omega, g2⟩, g3⟩
    · obtain ⟨⟨bg, g1, g2⟩, g3⟩ := q
      have hD2 : H2 D = some (.lst (cs.map V.int)) := g3 _ _ q1'
      refine ⟨_, rfl, _, rfl, D, cs.map V.int, rfl, .inl (.inl (.inl hD2)), _, 3, rfl, rfl, by show 1 ≤ sizeLine; decide, fun U hU => ?_⟩
      have nDU : D ≠ U := ne_of_none hD2 hU
      refine ⟨D, U, _, _, rfl, rfl, by rw [upd_ne nDU]; exact hD2, upd_same, ?_, fun C hC2 => ⟨by show 3 ≤ sizeLine; decide, fun a0 ha0 => ?_⟩⟩
      · rw [List.length_map]
        exact Nat.le_of_lt (small1000 (by show cs.length + 1 ≤ 1000; omega))
      · have nUC : U ≠ C := fun e => by rw [← e, upd_same] at hC2; cases hC2
        have hC3 : H2 C = none := by rw [upd_ne nUC.symm] at hC2; exact hC2
        have nBC : B ≠ C := ne_of_none g2 hC3
        have nBU : B ≠ U := ne_of_none g2 hU
        have na0C : a0 ≠ C := fun e => by rw [e, upd_same] at ha0; cases ha0
        have ha1 : (upd H2 U (.lst [V.int (((cs.map V.int).length : Nat) + 3)])) a0 = none := by rw [upd_ne na0C] at ha0; exact ha0
        have na0U : a0 ≠ U := fun e => by rw [e, upd_same] at ha1; cases ha1
        have ha2 : H2 a0 = none := by rw [upd_ne na0U] at ha1; exact ha1
        have na0B : a0 ≠ B := fun e => by rw [e, g2] at ha2; cases ha2
        have s2 : Same H H2 := q2.trans g3
        have fin : ∀ x o, H x = some o → (upd (upd (upd H2 U (.lst [V.int (((cs.map V.int).length : Nat) + 3)])) C (.lst (cs.map V.int ++ [V.int (((cs.map V.int).length : Nat) + 3)]))) a0 (.lst [.ref B, .ref C, .int 0])) x = some o := fun x o e => by
          have e2 := s2 _ _ e
          rw [upd_ne (ne_of_none e2 ha2), upd_ne (ne_of_none e2 hC3), upd_ne (ne_of_none e2 hU)]
          exact e2
        have hBn : H B = none := q2.free hB
        refine hQ (.any (.ref a0)) ⟨some (a0, B, C), sd.n⟩ (.ref a0) F _ (hQd a0 B C) ⟨Same.refl F, fun x o e _ => fin x o e, fun x e => ?_, fun x o e => .inl e, fun x ⟨a', b', c', e, hx⟩ => ?_, sub.trans fin, fun a' b' c' e => ?_, fun x ⟨a', b', c', e, hx⟩ => ?_⟩ rfl
        · cases o : H x with
          | none => exact absurd o e
          | some u => rw [fin x u o]; simp
        · have e' : (some (a0, B, C) : Option (Addr × Addr × Addr)) = some (a', b', c') := e
          cases e'
          rcases hx with rfl | rfl | rfl
          · exact .inr (s2.free ha2)
          · exact .inr hBn
          · exact .inr (s2.free hC3)
        · have e' : (some (a0, B, C) : Option (Addr × Addr × Addr)) = some (a', b', c') := e
          cases e'
          refine ⟨na0B, na0C, nBC, bg, cs ++ [((cs.length : Nat) : Int) + 3], 0, upd_same, by rw [upd_ne na0B.symm, upd_ne nBC, upd_ne nBU]; exact g2, ?_, by simp, ?_, ?_, Int.le_refl _, Int.natCast_nonneg _⟩
          · rw [upd_ne na0C.symm, upd_same, List.map_append, List.length_map]
            rfl
          · rw [List.length_append]; simp; omega
          · rw [List.length_map] at g1; omega
        · have e' : (some (a0, B, C) : Option (Addr × Addr × Addr)) = some (a', b', c') := e
          cases e'
          rcases hx with rfl | rfl | rfl
          · exact sub.free (s2.free ha2)
          · exact sub.free hBn
          · exact sub.free (s2.free hC3)
theorem len__law_deck : ∀ ds s Qd, spDeck ds s Qd → ds.length = 1 := spDeck_len
theorem ok__law_deck (T : Tx K mg base a d e ed) : FnG P w K mg base CX0 1 (a 40) (d 40) ["_law_script"] (lift K Mem.deck 1 spDeck) := fnG_of (ok0__law_deck T)
abbrev names__law_next : List Str := ["_law_deck_here", "_law_many", "_law_rest", "_law_turn", "_law_number", "_law_mixed"]
theorem sc__law_next : FnScope names__law_next ["_law_deck_here", "_law_many"] (defScope s__law_next) := ⟨rfl, rfl, rfl, by decide +kernel, rfl, by decide +kernel, by decide +kernel⟩
theorem ok0__law_next (T : Tx K mg base a d e ed) : FnOk P w K mg base CX0 1 (a 41) (d 41) ["_law_deck_here", "_law_many"] (lift K Mem.deck 2 spNext) := by
  refine T.f41.ok sc__law_next (fun vs H Q E h => h.1) (fun cdv A outer s H vs Q E hr h => ?_)
  obtain ⟨hl, F, ds, sd, Qd, sub, hm, hreg, rs, ⟨p, q, r, n, e1, e2, h0, h1, hlim, hQd⟩, hQ⟩ := h
  subst e2
  obtain ⟨v, _, rfl, rv, v2, _, rfl, rv2, rn⟩ := rs
  cases rn
  cases rv
  cases rv2
  refine ⟨_, pss_cons (ps_while PassesOwn.never (pt_cmpR (op_neD (u64R hr)) (pe_ix ix_list (pv 0) pe_int (fun _ _ => rfl)) (pe_lst pa_nil) (nomark _))
      (pss_cons (ps_set (i := 2) sc__law_next.nd rfl (.inl rfl) (pe_ix ix_list (pe_ix ix_list (pv 0) pe_int (fun _ _ => rfl)) pe_int (fun _ _ => rfl)))
      (pss_cons (ps_if (pt_cmpR op_gt (pv 2) pe_int (nomark _))
        (pss_cons (ps_asg (pe_op op_fdiv (pv 2) (pv 1)) (pg_sub (pe_ix ix_list (pv 0) pe_int (fun _ _ => rfl)) pe_int set_list))
        (pss_one (ps_ret (pe_op op_mod (pe_callTy call_int1 (by rfl) T.z_int (by decide +kernel) (pa_cons (pv 2) pa_nil)) (pv 1)))))
        pss_nil)
      (pss_one (ps_expr (pe_bm PySem.F.plainAttrs_list PySem.F.slot_list_pop PySem.F.type_list_pop mt_popAt (pe_ix ix_list (pv 0) pe_int (fun _ _ => rfl)) (pa_cons pe_int pa_nil)))))))
    (pss_cons (ps_asg (pe_op op_add (pe_ix ix_list (pv 0) pe_int (fun _ _ => rfl)) pe_int) (pg_sub (pv 0) pe_int set_list))
    (pss_cons (ps_set (i := 3) sc__law_next.nd rfl (.inl rfl) (pe_ix ix_list (pv 0) pe_int (fun _ _ => rfl)))
    (pss_cons (ps_set (i := 4) sc__law_next.nd rfl (.inl rfl) (pe_op op_mod (pe_callTy call_int1 (by rfl) T.z_int (by decide +kernel) (pa_cons (pe_ix ix_list (pe_ix ix_list (pv 0) pe_int (fun _ _ => rfl)) (pe_op op_mod (pe_callTy call_int1 (by rfl) T.z_int (by decide +kernel) (pa_cons (pv 3) pa_nil)) (pe_callB call_len_seq (by rfl) T.z_len PySem.boot_len (pa_cons (pe_ix ix_list (pv 0) pe_int (fun _ _ => rfl)) pa_nil))) (fun _ _ => rfl)) pa_nil)) pe_int))
    (pss_cons (ps_set (i := 5) sc__law_next.nd rfl (.inl rfl) (pe_op op_mod (pe_callTy call_int1 (by rfl) T.z_int (by decide +kernel) (pa_cons (pe_op op_add (pe_op op_add (pe_op op_mul (pv 4) (pe_op op_add pe_int (pe_op op_mul pe_int (pv 3)))) (pe_op op_mul (pe_op op_mul pe_int (pv 3)) (pv 3))) pe_int) pa_nil)) pe_int))
    (pss_one (ps_ret (pe_op op_mod (pe_op op_fdiv (pe_op op_mod (pe_callTy call_int1 (by rfl) T.z_int (by decide +kernel) (pa_cons (pe_op op_mul (pv 5) (pv 5)) pa_nil)) pe_int) pe_int) (pv 1)))))))), ?_⟩
  obtain ⟨n1, n2, n3, big, all, t, ha, hb, hc, hall, hl1, hl2, ht0, ht1⟩ := hm p q r e1
  have regs : ∀ x, Mem.deck.R sd x → x = p ∨ x = q ∨ x = r := fun x ⟨a', b', c', e, hx⟩ => by
    rw [e1] at e; cases e; exact hx
  have Fp : F p = none := hreg p ⟨p, q, r, e1, .inl rfl⟩
  have Fq : F q = none := hreg q ⟨p, q, r, e1, .inr (.inl rfl)⟩
  have Fr : F r = none := hreg r ⟨p, q, r, e1, .inr (.inr rfl)⟩
  -- the way out: a number below n, the deck as it is then
  have out : ∀ (z : Int) (H' : Hp) (big' : List Int) (t' : Int), 0 ≤ z → z < n → H' p = some (.lst [.ref q, .ref r, .int t']) → H' q = some (.lst (big'.map V.int)) → H' r = some (.lst (all.map V.int)) → big'.length ≤ 1000 → 0 ≤ t' → t' ≤ (sd.n + 1 : Nat) →
      (∀ x o, H x = some o → x ≠ p → x ≠ q → H' x = some o) → Q (.int z) H' := fun z H' big' t' z0 z1 a1 a2 a3 a4 a5 a6 k => by
    have Hp' : H p ≠ none := by rw [ha]; simp
    refine hQ (.int z) ⟨sd.adr, sd.n + 1⟩ (.int z) F H' (hQd z (sd.n + 1) z0 z1 rfl) ⟨Same.refl F, fun x o h nr => k x o h (fun e => nr ⟨p, q, r, e1, .inl e⟩) (fun e => nr ⟨p, q, r, e1, .inr (.inl e)⟩), fun x h => ?_, fun x o h => .inl h, fun x h => ?_, fun x o h => ?_, fun a' b' c' e => ?_, fun x h => hreg x h⟩ rfl
    · by_cases e : x = p
      · rw [e, a1]; simp
      · by_cases e' : x = q
        · rw [e', a2]; simp
        · cases o : H x with
          | none => exact absurd o h
          | some u => rw [k x u o e e']; simp
    · exact .inl h
    · have h' := sub x o h
      exact k x o h' (fun e => by rw [e, Fp] at h; cases h) (fun e => by rw [e, Fq] at h; cases h)
    · have e' : sd.adr = some (a', b', c') := e
      rw [e1] at e'; cases e'
      exact ⟨n1, n2, n3, big', all, t', a1, a2, a3, hall, hl1, a4, a5, a6⟩
  -- the while
  refine ⟨fun m σ H2 => ∃ (bg : List Int) (y2 : Option V), m = bg.length ∧ bg.length ≤ big.length ∧ σ = [some (.ref p), some (.int n), y2, none, none, none] ∧ H2 p = some (.lst [.ref q, .ref r, .int t]) ∧ H2 q = some (.lst (bg.map V.int)) ∧ (∀ x o, H x = some o → x ≠ q → H2 x = some o),
    ⟨big.length, big, none, rfl, Nat.le_refl _, rfl, ha, hb, fun _ _ h _ => h⟩, ?_⟩
  rintro m σ H2 ⟨bg, y2, rfl, hbg, rfl, g1, g2, gk⟩
  have dpI : ∀ (l : List Int), DpAll K H2 (l.map V.int) (l.map PyData.int) := fun l => by
    induction l with
    | nil => exact .nil
    | cons x l ih => exact .cons (.int x) ih
  have layI : ∀ (l : List Int), PyData.canLayAll0 (l.map PyData.int) = true ∧ PyData.depthAll (l.map PyData.int) ≤ 0 := fun l => by
    induction l with
    | nil => exact ⟨rfl, Nat.le_refl _⟩
    | cons x l ih =>
      obtain ⟨i1, i2⟩ := ih
      rw [List.map_cons]
      exact ⟨by simp only [PyData.canLayAll0, PyData.canLay0, i1, Bool.and_self], by simp only [PyData.depthAll, PyData.depth]; omega⟩
  refine ⟨_, rfl, p, _, 0, .ref q, rfl, rfl, .inl (.inl g1), rfl, Nat.zero_le _, fun o no => ?_⟩
  have nop : p ≠ o := ne_of_none g1 no
  have noq : q ≠ o := ne_of_none g2 no
  have g1' : (upd H2 o (.lst [])) p = some (.lst [.ref q, .ref r, .int t]) := by rw [upd_ne nop]; exact g1
  have g2' : (upd H2 o (.lst [])) q = some (.lst (bg.map V.int)) := by rw [upd_ne noq]; exact g2
  have sm : Same H2 (upd H2 o (.lst [])) := DL.same_upd no
  have dp1 : Dp K (upd H2 o (.lst [])) (.ref q) (.list (bg.map PyData.int)) := by
    refine .lst (.inl (.inl g2')) ?_
    clear layI dpI g2 g2' hbg
    induction bg with
    | nil => exact .nil
    | cons x l ih => exact .cons (.int x) ih
  have sh1 : SeqAt.shaped (.list (bg.map PyData.int)) = true := by
    obtain ⟨i1, i2⟩ := layI bg
    unfold SeqAt.shaped
    have d1 : (PyData.list (bg.map PyData.int)).depth ≤ 64 := by simp only [PyData.depth]; omega
    rw [decide_eq_true d1, show (PyData.list (bg.map PyData.int)).canLay0 = true by simp only [PyData.canLay0]; exact i1]
    rfl
  refine ⟨_, _, dp1, .lst (.inl (.inl upd_same)) .nil, sh1, by decide, _, rfl, ?_⟩
  cases bg with
  | nil =>
    refine iteF ?_
    -- behind the while
    refine ⟨_, rfl, p, _, 2, .int t, rfl, rfl, .inl (.inl g1'), rfl, t, 1, rfl, rfl, _, rfl, p, _, 2, 2, rfl, rfl, g1', rfl, ?_⟩
    have hr' : H2 r = some (.lst (all.map V.int)) := gk r _ hc n3.symm
    have nrp : r ≠ p := n2.symm
    have nro : r ≠ o := ne_of_none hr' no
    refine ⟨_, rfl, p, _, 2, .int (t + 1), rfl, rfl, .inl (.inl upd_same), rfl, ?_⟩
    have hrr : (upd (upd H2 o (.lst [])) p (.lst ([V.ref q, .ref r, .int t].set 2 (.int (t + 1))))) r = some (.lst (all.map V.int)) := by rw [upd_ne nrp, upd_ne nro]; exact hr'
    have lpos : (0 : Int) < ((all.map V.int).length : Nat) := by
      cases all with
      | nil => exact absurd rfl hall
      | cons x l => rw [List.length_map, List.length_cons]; omega
    obtain ⟨k, hk, hk2⟩ : ∃ k : Nat, (t + 1) % (((all.map V.int).length : Nat) : Int) = (k : Int) ∧ k < all.length := by
      have m0 := Int.emod_nonneg (t + 1) (Int.ne_of_gt lpos)
      have m1 := Int.emod_lt_of_pos (t + 1) lpos
      rw [List.length_map] at m0 m1 lpos ⊢
      exact ⟨((t + 1) % (all.length : Int)).toNat, by omega, by omega⟩
    have hat : atI (all.map V.int) ((t + 1) % (((all.map V.int).length : Nat) : Int)) = some (.int all[k]) := by
      rw [hk]
      exact atI_nat (by rw [List.getElem?_map, List.getElem?_eq_getElem hk2]; rfl)
    refine ⟨_, rfl, p, _, 1, .ref r, rfl, rfl, .inl (.inl upd_same), rfl, _, rfl, .inl ⟨t + 1, rfl, _, rfl, p, _, 1, .ref r, rfl, rfl, .inl (.inl upd_same), rfl, r, _, rfl, .inl (.inl (.inl hrr)), _, _, rfl, rfl, lpos, r, _, _, .int all[k], rfl, rfl, .inl (.inl hrr), hat, .inl ⟨all[k], rfl, all[k], 2147483647, rfl, rfl, (by show (0 : Int) < 2147483647; decide), ?_⟩⟩⟩
    have u1 : t + 1 ≤ 2 ^ 60 := by
      have : sd.n < 2 ^ 60 := hlim
      omega
    have m0 : 0 ≤ all[k] % 2147483647 := Int.emod_nonneg _ (by decide)
    have m1 : all[k] % 2147483647 < 2147483647 := Int.emod_lt_of_pos _ (by decide)
    refine ⟨_, rfl, _, rfl, 69621, t + 1, rfl, rfl, .inl ⟨by decide, by decide⟩, 48271, _, rfl, rfl, all[k] % 2147483647, _, rfl, rfl, .inl ⟨by omega, by omega⟩, _, rfl, 40692, t + 1, rfl, rfl, .inl ⟨by decide, by decide⟩, _, rfl, 40692 * (t + 1), t + 1, rfl, rfl, .inr ⟨by omega, by omega⟩, _, _, rfl, rfl, _, 11, rfl, rfl, .inl ⟨_, rfl, _, 2147483629, rfl, rfl, (by show (0 : Int) < 2147483629; decide), ?_⟩⟩
    obtain ⟨M, hM⟩ : ∃ M, M = (all[k] % 2147483647 * (48271 + 69621 * (t + 1)) + 40692 * (t + 1) * (t + 1) + 11) % 2147483629 := ⟨_, rfl⟩
    have q0 : 0 ≤ M := by rw [hM]; exact Int.emod_nonneg _ (by decide)
    have q1 : M < 2147483629 := by rw [hM]; exact Int.emod_lt_of_pos _ (by decide)
    refine ⟨_, rfl, _, rfl, M, M, by rw [hM], by rw [hM], .inl ⟨by omega, by omega⟩, .inl ⟨_, rfl, _, 2147483587, rfl, rfl, (by show (0 : Int) < 2147483587; decide), _, 16, rfl, rfl, ⟨by decide, by decide⟩, _, rfl, _, n, rfl, rfl, h0, ?_⟩⟩
    refine out _ _ [] (t + 1) (Int.emod_nonneg _ (Int.ne_of_gt h0)) (Int.emod_lt_of_pos _ h0) upd_same (by rw [upd_ne n1.symm]; exact g2') hrr (Nat.zero_le _) (by omega) (by omega) fun x u e n4 n5 => ?_
    rw [upd_ne n4, upd_ne (ne_of_none (gk x u e n5) no)]
    exact gk x u e n5
  | cons x bg =>
    refine iteT ⟨fun σ' H' => ∃ y2 : Option V, σ' = [some (.ref p), some (.int n), y2, none, none, none] ∧ H' p = some (.lst [.ref q, .ref r, .int t]) ∧ H' q = some (.lst (bg.map V.int)) ∧ (∀ x o, H x = some o → x ≠ q → H' x = some o), fun σ' H' ⟨y, a1, a2, a3, a4⟩ => ⟨bg.length, Nat.lt_succ_self _, bg, y, rfl, by rw [List.length_cons] at hbg; omega, a1, a2, a3, a4⟩, ?_⟩
    refine ⟨_, rfl, p, _, 0, .ref q, rfl, rfl, .inl (.inl g1'), rfl, q, _, 0, .int x, rfl, rfl, .inl (.inl g2'), atI_nat (j := 0) rfl, ?_⟩
    refine ⟨_, rfl, x, 0, rfl, rfl, _, rfl, ?_⟩
    refine ite2 (fun hx => ?_) fun hx => ?_
    · refine ⟨_, rfl, _, rfl, x, n, rfl, rfl, ⟨h0, h1⟩, _, rfl, p, _, 0, .ref q, rfl, rfl, .inl (.inl g1'), rfl, q, _, 0, 0, rfl, rfl, g2', ix0 x bg, ?_⟩
      refine ⟨_, rfl, .inl ⟨x, rfl, _, rfl, x, n, rfl, rfl, h0, ?_⟩⟩
      refine out _ _ (x / n :: bg) t (Int.emod_nonneg _ (Int.ne_of_gt h0)) (Int.emod_lt_of_pos _ h0) (by rw [upd_ne n1]; exact g1') upd_same ?_ (by rw [List.length_cons] at hbg ⊢; omega) ht0 (by omega) fun y u e n4 n5 => ?_
      · have hr' : H2 r = some (.lst (all.map V.int)) := gk r _ hc n3.symm
        rw [upd_ne n3.symm, upd_ne (ne_of_none hr' no)]
        exact hr'
      · rw [upd_ne n5, upd_ne (ne_of_none (gk y u e n5) no)]
        exact gk y u e n5
    · refine ⟨_, rfl, p, _, 0, .ref q, rfl, rfl, .inl (.inl g1'), rfl, .inl ⟨rfl, _, .inl (.inl g2')⟩, q, _, 0, 0, .int x, rfl, rfl, g2', by decide, by decide, ?_, rfl, ?_⟩
      · show seqIndex? 0 (((x :: bg).map V.int).length) = some 0
        rw [List.length_map, List.length_cons]
        exact seqIndex_of (by decide) (by omega)
      · refine ⟨_, rfl, by rw [upd_ne n1]; exact g1', by rw [upd_same]; rfl, fun y u e n5 => ?_⟩
        rw [upd_ne n5, upd_ne (ne_of_none (gk y u e n5) no)]
        exact gk y u e n5
theorem len__law_next : ∀ ds s Qd, spNext ds s Qd → ds.length = 2 := spNext_len
theorem ok__law_next (T : Tx K mg base a d e ed) : FnG P w K mg base CX0 1 (a 41) (d 41) ["_law_deck_here", "_law_many"] (lift K Mem.deck 2 spNext) := fnG_of (ok0__law_next T)
abbrev names__law_name : List Str := ["_law_deck_here", "_law_letters", "_law_many", "_law_k"]
theorem sc__law_name : FnScope names__law_name ["_law_deck_here"] (defScope s__law_name) := ⟨rfl, rfl, rfl, by decide +kernel, rfl, by decide +kernel, by decide +kernel⟩
theorem len__law_name : ∀ ds s Qd, (spName : DSp Mem.deck) ds s Qd → ds.length = 1 := spName_len
theorem ok__law_name (T : Tx K mg base a d e ed) : FnG P w K mg base CX0 2 (a 42) (d 42) ["_law_deck_here"] (lift K Mem.deck 1 spName) := by
  have G__law_next := ok__law_next (P := P) (w := w) (base := base) T
  refine dfn T.f42 sc__law_name rfl (fun cdv A outer s0 H E En hr => ⟨_, (dss_cons (ds_set 1 sc__law_name.nd de_str)
      (dss_cons (ds_set 2 sc__law_name.nd (de_ix ix_seq o_ix (de_lst (da_cons de_int (da_cons de_int (da_cons de_int (da_cons de_int (da_cons de_int (da_cons de_int (da_cons de_int (da_cons de_int da_nil))))))))) (de_call G__law_next len__law_next (hr.mono (by decide)) (by rfl) T.g41 T.f41.kp T.b41 (da_cons (dv 0) (da_cons de_int da_nil)))))
      (dss_one (ds_ret (de_m PySem.F.plainAttrs_str PySem.F.slot_str_join PySem.F.type_str_join mt_join o_join de_str (da_cons (de_lc (own := [("_law_k", 3)]) sc__law_name.nd (di_range1 (by rfl) T.z_range (da_cons (dv 2) da_nil)) (blkOk_by (N := names__law_name) (sc := defScope s__law_name) (by decide +kernel)) (fun _ _ _ _ _ => (dg_name 3 sc__law_name.nd)) (fun _ _ _ _ _ => dts_nil) (fun _ _ _ _ _ => (de_ix ix_seq o_ix (dv 1) (de_call G__law_next len__law_next (hr.mono (by decide)) (by rfl) T.g41 T.f41.kp T.b41 (da_cons (dv 0) (da_cons de_int da_nil)))))) da_nil)))))), fun ds s Qd h => ?_⟩)
  exact read__law_name ds s Qd h
abbrev names__law_odd : List Str := ["_law_deck_here", "_law_path", "_law_some"]
theorem sc__law_odd : FnScope names__law_odd ["_law_deck_here", "_law_path"] (defScope s__law_odd) := ⟨rfl, rfl, rfl, by decide +kernel, rfl, by decide +kernel, by decide +kernel⟩
theorem len__law_odd : ∀ ds s Qd, (spOdd : DSp Mem.deck) ds s Qd → ds.length = 2 := spOdd_len
theorem ok__law_odd (T : Tx K mg base a d e ed) : FnG P w K mg base CX0 2 (a 43) (d 43) ["_law_deck_here", "_law_path"] (lift K Mem.deck 2 spOdd) := by
  have G__law_next := ok__law_next (P := P) (w := w) (base := base) T
  refine dfn T.f43 sc__law_odd rfl (fun cdv A outer s0 H E En hr => ⟨_, (dss_cons (ds_set 2 sc__law_odd.nd (de_lst (da_cons de_non (da_cons de_bl (da_cons de_bl (da_cons de_int (da_cons de_int (da_cons (de_un un_neg o_neg de_int) (da_cons (de_op op_pow o_pow de_int de_int) (da_cons de_str (da_cons de_str (da_cons de_str (da_cons de_str (da_cons de_str (da_cons de_str (da_cons de_str (da_cons de_str (da_cons de_str (da_cons de_str da_nil)))))))))))))))))))
      (dss_cons (ds_set 2 sc__law_odd.nd (de_op op_addA o_add (dv 2) (de_lst (da_cons de_str (da_cons (de_tup da_nil) (da_cons (de_lst da_nil) (da_cons de_dict0 (da_cons (de_tup (da_cons (dv 1) da_nil)) (da_cons (de_lst (da_cons (dv 1) da_nil)) (da_cons (de_dict1 1 1) (da_cons (de_tup (da_cons (dv 1) (da_cons (dv 1) da_nil))) (da_cons (de_tup (da_cons (dv 1) (da_cons (dv 1) (da_cons (dv 1) da_nil)))) da_nil))))))))))))
      (dss_cons (ds_set 2 sc__law_odd.nd (de_op op_addA o_add (dv 2) (de_lst (da_cons (de_op op_addA o_add (dv 1) de_str) (da_cons (de_op op_addA o_add (dv 1) de_str) (da_cons (de_m0 PySem.F.plainAttrs_str PySem.F.slot_str_upper PySem.F.type_str_upper mt_upper o_upper (dv 1)) (da_cons (de_op op_addA o_add (dv 1) de_str) (da_cons (de_lst (da_cons (dv 1) (da_cons (dv 1) da_nil))) (da_cons (de_tup (da_cons de_str (da_cons (de_lst da_nil) (da_cons de_dict0 da_nil)))) (da_cons (de_tup (da_cons (de_tup (da_cons (dv 1) (da_cons (dv 1) da_nil))) da_nil)) da_nil))))))))))
      (dss_one (ds_ret (de_ix ix_seq o_ix (dv 2) (de_call G__law_next len__law_next (hr.mono (by decide)) (by rfl) T.g41 T.f41.kp T.b41 (da_cons (dv 0) (da_cons (de_callB (DL.CallR.or call_len call_lenD) o_len (by rfl) T.z_len (by decide +kernel) (da_cons (dv 2) da_nil)) da_nil))))))))), fun ds s Qd h => ?_⟩)
  exact read_odd98 ds s Qd h
abbrev names__law_same : List Str := ["_law_found", "_law_due", "_law_one", "_law_other"]
theorem sc__law_same : FnScope names__law_same ["_law_found", "_law_due"] (defScope s__law_same) := ⟨rfl, rfl, rfl, by decide +kernel, rfl, by decide +kernel, by decide +kernel⟩
theorem len__law_same {m : Mem} (n : Nat) : ∀ ds s Qd, (spS n : DSp m) ds s Qd → ds.length = 2 := spS_len n
theorem ok__law_same {m : Mem} (T : Tx K mg base a d e ed) : ∀ n, FnG P w K mg base CX0 n (a 44) (d 44) ["_law_found", "_law_due"] (lift K m 2 (spS n))
  | 0 => fnG_never rfl
  | n + 1 => by
    have G__law_same := ok__law_same (m := m) T n
    have len__law_same := len__law_same (m := m) n
    refine dfn T.f44 sc__law_same rfl (fun cdv A outer s0 H E En hr => ⟨_, (dss_cons (ds_if (dt_truth (de_isT (t1 := Tg.tup) (t2 := Tg.lst) (by rfl) T.z_isinstance (dv 1) (by rfl) T.z_tuple (by decide +kernel) (by rfl) T.z_list (by decide +kernel)))
        (dss_cons (ds_if (PW.pt (dw_or (dt_cmp (op_neD (u64 hr)) o_ne (de_callB call_isi o_isi (by rfl) T.z_isinstance (by decide +kernel) (da_cons (dv 1) (da_cons (de_bltn (v := .ty "tuple") (by rfl) T.z_tuple (by decide +kernel) rfl) da_nil))) (de_callB call_isi o_isi (by rfl) T.z_isinstance (by decide +kernel) (da_cons (dv 0) (da_cons (de_bltn (v := .ty "tuple") (by rfl) T.z_tuple (by decide +kernel) rfl) da_nil)))) (dw_or1 (dt_cmp (op_neD (u64 hr)) o_ne (de_callB call_isi o_isi (by rfl) T.z_isinstance (by decide +kernel) (da_cons (dv 1) (da_cons (de_bltn (v := .ty "list") (by rfl) T.z_list (by decide +kernel) rfl) da_nil))) (de_callB call_isi o_isi (by rfl) T.z_isinstance (by decide +kernel) (da_cons (dv 0) (da_cons (de_bltn (v := .ty "list") (by rfl) T.z_list (by decide +kernel) rfl) da_nil)))))))
          (dss_one (ds_ret de_bl))
          dss_nil)
        (dss_one (ds_ret (de_and (de_cmp (op_eqD (u64 hr)) o_eq (de_callB (DL.CallR.or call_len call_lenD) o_len (by rfl) T.z_len (by decide +kernel) (da_cons (dv 0) da_nil)) (de_callB (DL.CallR.or call_len call_lenD) o_len (by rfl) T.z_len (by decide +kernel) (da_cons (dv 1) da_nil))) (de_one (de_callB (cr_all rfl) o_all (by rfl) T.z_all (by decide +kernel) (da_cons (de_lc (own := [("_law_one", 2), ("_law_other", 3)]) sc__law_same.nd (di_zip (by rfl) T.z_zip (da_cons (dv 0) (da_cons (dv 1) da_nil))) (blkOk_by (N := names__law_same) (sc := defScope s__law_same) (by decide +kernel)) (fun _ _ _ _ _ => (dg_tup (n := 2) rfl (dgs_cons (dg_name 2 sc__law_same.nd) (dgs_cons (dg_name 3 sc__law_same.nd) dgs_nil)))) (fun _ _ _ _ _ => dts_nil) (fun _ _ _ _ _ => (de_call G__law_same len__law_same hr (by rfl) T.g44 T.f44.kp T.b44 (da_cons (dv 2) (da_cons (dv 3) da_nil))))) da_nil)))))))
        dss_nil)
      (dss_cons (ds_if (dt_cmp op_isN o_isN (dv 1) de_non)
        (dss_one (ds_ret (de_cmp op_isN o_isN (dv 0) de_non)))
        dss_nil)
      (dss_cons (ds_if (dt_truth (de_callB call_isi o_isi (by rfl) T.z_isinstance (by decide +kernel) (da_cons (dv 1) (da_cons (de_bltn (v := .ty "str") (by rfl) T.z_str (by decide +kernel) rfl) da_nil))))
        (dss_one (ds_ret (de_and (de_callB call_isi o_isi (by rfl) T.z_isinstance (by decide +kernel) (da_cons (dv 0) (da_cons (de_bltn (v := .ty "str") (by rfl) T.z_str (by decide +kernel) rfl) da_nil))) (de_one (de_cmp (op_eqD (u64 hr)) o_eq (dv 0) (dv 1))))))
        dss_nil)
      (dss_cons (ds_if (PW.pt (dw_or (dt_truth (de_callB call_isi o_isi (by rfl) T.z_isinstance (by decide +kernel) (da_cons (dv 1) (da_cons (de_bltn (v := .ty "bool") (by rfl) T.z_bool (by decide +kernel) rfl) da_nil)))) (dw_or1 (dt_truth (de_callB call_isi o_isi (by rfl) T.z_isinstance (by decide +kernel) (da_cons (dv 0) (da_cons (de_bltn (v := .ty "bool") (by rfl) T.z_bool (by decide +kernel) rfl) da_nil)))))))
        (dss_one (ds_ret (de_and (de_callB call_isi o_isi (by rfl) T.z_isinstance (by decide +kernel) (da_cons (dv 0) (da_cons (de_bltn (v := .ty "bool") (by rfl) T.z_bool (by decide +kernel) rfl) da_nil))) (de_and (de_callB call_isi o_isi (by rfl) T.z_isinstance (by decide +kernel) (da_cons (dv 1) (da_cons (de_bltn (v := .ty "bool") (by rfl) T.z_bool (by decide +kernel) rfl) da_nil))) (de_one (de_cmp (op_eqD (u64 hr)) o_eq (dv 0) (dv 1)))))))
        dss_nil)
      (dss_cons (ds_if (dt_truth (de_callB call_isi o_isi (by rfl) T.z_isinstance (by decide +kernel) (da_cons (dv 1) (da_cons (de_bltn (v := .ty "int") (by rfl) T.z_int (by decide +kernel) rfl) da_nil))))
        (dss_one (ds_ret (de_and (de_callB call_isi o_isi (by rfl) T.z_isinstance (by decide +kernel) (da_cons (dv 0) (da_cons (de_bltn (v := .ty "int") (by rfl) T.z_int (by decide +kernel) rfl) da_nil))) (de_one (de_cmp (op_eqD (u64 hr)) o_eq (dv 0) (dv 1))))))
        dss_nil)
      (dss_one (ds_ret (de_and (de_callB call_isi o_isi (by rfl) T.z_isinstance (by decide +kernel) (da_cons (dv 1) (da_cons (de_bltn (v := .ty "dict") (by rfl) T.z_dict (by decide +kernel) rfl) da_nil))) (de_and (de_callB call_isi o_isi (by rfl) T.z_isinstance (by decide +kernel) (da_cons (dv 0) (da_cons (de_bltn (v := .ty "dict") (by rfl) T.z_dict (by decide +kernel) rfl) da_nil))) (de_one (de_cmp op_eq o_eqT (de_callB (call_reprD T.sys hr.g (u65 hr)) o_repr (by rfl) T.z_repr (by decide +kernel) (da_cons (dv 0) da_nil)) (de_callB (call_reprD T.sys hr.g (u65 hr)) o_repr (by rfl) T.z_repr (by decide +kernel) (da_cons (dv 1) da_nil))))))))))))), fun ds s Qd h => ?_⟩)
    exact read_same98 n ds s Qd h
abbrev names__law_other_kinds : List Str := ["_law_error", "_law_found"]
theorem sc__law_other_kinds : FnScope names__law_other_kinds ["_law_error"] (defScope s__law_other_kinds) := ⟨rfl, rfl, rfl, by decide +kernel, rfl, by decide +kernel, by decide +kernel⟩
theorem len__law_other_kinds {m : Mem} {a : Nat → Addr} : ∀ ds s Qd, ((spOther a) : DSp m) ds s Qd → ds.length = 1 := spOther_len
theorem ok__law_other_kinds {m : Mem} (T : Tx K mg base a d e ed) : FnG P w K mg base CX0 1 (a 46) (d 46) ["_law_error"] (lift K m 1 (spOther a)) := by
  refine dfn T.f46 sc__law_other_kinds rfl (fun cdv A outer s0 H E En hr => ⟨_, (dss_cons (ds_set 1 sc__law_other_kinds.nd (de_lst (da_cons (de_tup (da_cons de_str (da_cons (de_callB call_isX o_isx (by rfl) T.z_isinstance (by decide +kernel) (da_cons (dv 0) (da_cons (de_glob (d := .any (.ref (a 24))) (v := .ref (a 24)) (by rfl) T.g24 rfl (fun _ => rfl)) da_nil))) da_nil))) (da_cons (de_tup (da_cons de_str (da_cons (de_callB call_isX o_isx (by rfl) T.z_isinstance (by decide +kernel) (da_cons (dv 0) (da_cons (de_glob (d := .any (.ref (a 25))) (v := .ref (a 25)) (by rfl) T.g25 rfl (fun _ => rfl)) da_nil))) da_nil))) da_nil))))
      (dss_cons (ds_set 1 sc__law_other_kinds.nd (de_op op_addA o_add (dv 1) (de_lst (da_cons (de_tup (da_cons de_str (da_cons (de_callB call_isX o_isx (by rfl) T.z_isinstance (by decide +kernel) (da_cons (dv 0) (da_cons (de_glob (d := .any (.ref (a 26))) (v := .ref (a 26)) (by rfl) T.g26 rfl (fun _ => rfl)) da_nil))) da_nil))) (da_cons (de_tup (da_cons de_str (da_cons (de_callB call_isX o_isx (by rfl) T.z_isinstance (by decide +kernel) (da_cons (dv 0) (da_cons (de_glob (d := .any (.ref (a 27))) (v := .ref (a 27)) (by rfl) T.g27 rfl (fun _ => rfl)) da_nil))) da_nil))) da_nil)))))
      (dss_one (ds_ret (de_op op_addA o_add (dv 1) (de_lst (da_cons (de_tup (da_cons de_str (da_cons (de_callB call_isX o_isx (by rfl) T.z_isinstance (by decide +kernel) (da_cons (dv 0) (da_cons (de_glob (d := .any (.ref (a 28))) (v := .ref (a 28)) (by rfl) T.g28 rfl (fun _ => rfl)) da_nil))) da_nil))) da_nil))))))), fun ds s Qd h => ?_⟩)
  exact read_other98 T.hk ds s Qd h
abbrev names__law_kinds : List Str := ["_law_error", "_law_found", "_law_name_here", "_law_hit"]
theorem sc__law_kinds : FnScope names__law_kinds ["_law_error"] (defScope s__law_kinds) := ⟨rfl, rfl, rfl, by decide +kernel, rfl, by decide +kernel, by decide +kernel⟩
theorem len__law_kinds {m : Mem} {a : Nat → Addr} : ∀ ds s Qd, ((spKinds a) : DSp m) ds s Qd → ds.length = 1 := spKinds_len
theorem ok__law_kinds {m : Mem} (T : Tx K mg base a d e ed) : FnG P w K mg base CX0 2 (a 45) (d 45) ["_law_error"] (lift K m 1 (spKinds a)) := by
  have G__law_other_kinds := ok__law_other_kinds (P := P) (w := w) (base := base) (m := m) T
  refine dfn T.f45 sc__law_kinds rfl (fun cdv A outer s0 H E En hr => ⟨_, (dss_cons (ds_set 1 sc__law_kinds.nd (de_lst (da_cons (de_tup (da_cons de_str (da_cons (de_callB call_isX o_isx (by rfl) T.z_isinstance (by decide +kernel) (da_cons (dv 0) (da_cons (de_glob (d := .any (.ref (a 2))) (v := .ref (a 2)) (by rfl) T.g2 rfl (fun _ => rfl)) da_nil))) da_nil))) (da_cons (de_tup (da_cons de_str (da_cons (de_callB call_isX o_isx (by rfl) T.z_isinstance (by decide +kernel) (da_cons (dv 0) (da_cons (de_glob (d := .any (.ref (a 3))) (v := .ref (a 3)) (by rfl) T.g3 rfl (fun _ => rfl)) da_nil))) da_nil))) da_nil))))
      (dss_cons (ds_set 1 sc__law_kinds.nd (de_op op_addA o_add (dv 1) (de_lst (da_cons (de_tup (da_cons de_str (da_cons (de_callB call_isX o_isx (by rfl) T.z_isinstance (by decide +kernel) (da_cons (dv 0) (da_cons (de_glob (d := .any (.ref (a 4))) (v := .ref (a 4)) (by rfl) T.g4 rfl (fun _ => rfl)) da_nil))) da_nil))) (da_cons (de_tup (da_cons de_str (da_cons (de_callB call_isX o_isx (by rfl) T.z_isinstance (by decide +kernel) (da_cons (dv 0) (da_cons (de_glob (d := .any (.ref (a 5))) (v := .ref (a 5)) (by rfl) T.g5 rfl (fun _ => rfl)) da_nil))) da_nil))) da_nil)))))
      (dss_cons (ds_set 1 sc__law_kinds.nd (de_op op_addA o_add (dv 1) (de_lst (da_cons (de_tup (da_cons de_str (da_cons (de_callB call_isX o_isx (by rfl) T.z_isinstance (by decide +kernel) (da_cons (dv 0) (da_cons (de_glob (d := .any (.ref (a 6))) (v := .ref (a 6)) (by rfl) T.g6 rfl (fun _ => rfl)) da_nil))) da_nil))) (da_cons (de_tup (da_cons de_str (da_cons (de_callB call_isX o_isx (by rfl) T.z_isinstance (by decide +kernel) (da_cons (dv 0) (da_cons (de_glob (d := .any (.ref (a 7))) (v := .ref (a 7)) (by rfl) T.g7 rfl (fun _ => rfl)) da_nil))) da_nil))) da_nil)))))
      (dss_cons (ds_set 1 sc__law_kinds.nd (de_op op_addA o_add (dv 1) (de_lst (da_cons (de_tup (da_cons de_str (da_cons (de_callB call_isX o_isx (by rfl) T.z_isinstance (by decide +kernel) (da_cons (dv 0) (da_cons (de_glob (d := .any (.ref (a 8))) (v := .ref (a 8)) (by rfl) T.g8 rfl (fun _ => rfl)) da_nil))) da_nil))) (da_cons (de_tup (da_cons de_str (da_cons (de_callB call_isX o_isx (by rfl) T.z_isinstance (by decide +kernel) (da_cons (dv 0) (da_cons (de_glob (d := .any (.ref (a 9))) (v := .ref (a 9)) (by rfl) T.g9 rfl (fun _ => rfl)) da_nil))) da_nil))) da_nil)))))
      (dss_cons (ds_set 1 sc__law_kinds.nd (de_op op_addA o_add (dv 1) (de_lst (da_cons (de_tup (da_cons de_str (da_cons (de_callB call_isX o_isx (by rfl) T.z_isinstance (by decide +kernel) (da_cons (dv 0) (da_cons (de_glob (d := .any (.ref (a 10))) (v := .ref (a 10)) (by rfl) T.g10 rfl (fun _ => rfl)) da_nil))) da_nil))) (da_cons (de_tup (da_cons de_str (da_cons (de_callB call_isX o_isx (by rfl) T.z_isinstance (by decide +kernel) (da_cons (dv 0) (da_cons (de_glob (d := .any (.ref (a 11))) (v := .ref (a 11)) (by rfl) T.g11 rfl (fun _ => rfl)) da_nil))) da_nil))) da_nil)))))
      (dss_cons (ds_set 1 sc__law_kinds.nd (de_op op_addA o_add (dv 1) (de_lst (da_cons (de_tup (da_cons de_str (da_cons (de_callB call_isX o_isx (by rfl) T.z_isinstance (by decide +kernel) (da_cons (dv 0) (da_cons (de_glob (d := .any (.ref (a 12))) (v := .ref (a 12)) (by rfl) T.g12 rfl (fun _ => rfl)) da_nil))) da_nil))) (da_cons (de_tup (da_cons de_str (da_cons (de_callB call_isX o_isx (by rfl) T.z_isinstance (by decide +kernel) (da_cons (dv 0) (da_cons (de_glob (d := .any (.ref (a 13))) (v := .ref (a 13)) (by rfl) T.g13 rfl (fun _ => rfl)) da_nil))) da_nil))) da_nil)))))
      (dss_cons (ds_set 1 sc__law_kinds.nd (de_op op_addA o_add (dv 1) (de_lst (da_cons (de_tup (da_cons de_str (da_cons (de_callB call_isX o_isx (by rfl) T.z_isinstance (by decide +kernel) (da_cons (dv 0) (da_cons (de_glob (d := .any (.ref (a 14))) (v := .ref (a 14)) (by rfl) T.g14 rfl (fun _ => rfl)) da_nil))) da_nil))) (da_cons (de_tup (da_cons de_str (da_cons (de_callB call_isX o_isx (by rfl) T.z_isinstance (by decide +kernel) (da_cons (dv 0) (da_cons (de_glob (d := .any (.ref (a 15))) (v := .ref (a 15)) (by rfl) T.g15 rfl (fun _ => rfl)) da_nil))) da_nil))) da_nil)))))
      (dss_cons (ds_set 1 sc__law_kinds.nd (de_op op_addA o_add (dv 1) (de_lst (da_cons (de_tup (da_cons de_str (da_cons (de_callB call_isX o_isx (by rfl) T.z_isinstance (by decide +kernel) (da_cons (dv 0) (da_cons (de_glob (d := .any (.ref (a 16))) (v := .ref (a 16)) (by rfl) T.g16 rfl (fun _ => rfl)) da_nil))) da_nil))) (da_cons (de_tup (da_cons de_str (da_cons (de_callB call_isX o_isx (by rfl) T.z_isinstance (by decide +kernel) (da_cons (dv 0) (da_cons (de_glob (d := .any (.ref (a 17))) (v := .ref (a 17)) (by rfl) T.g17 rfl (fun _ => rfl)) da_nil))) da_nil))) da_nil)))))
      (dss_cons (ds_set 1 sc__law_kinds.nd (de_op op_addA o_add (dv 1) (de_lst (da_cons (de_tup (da_cons de_str (da_cons (de_callB call_isX o_isx (by rfl) T.z_isinstance (by decide +kernel) (da_cons (dv 0) (da_cons (de_glob (d := .any (.ref (a 18))) (v := .ref (a 18)) (by rfl) T.g18 rfl (fun _ => rfl)) da_nil))) da_nil))) (da_cons (de_tup (da_cons de_str (da_cons (de_callB call_isX o_isx (by rfl) T.z_isinstance (by decide +kernel) (da_cons (dv 0) (da_cons (de_glob (d := .any (.ref (a 19))) (v := .ref (a 19)) (by rfl) T.g19 rfl (fun _ => rfl)) da_nil))) da_nil))) da_nil)))))
      (dss_cons (ds_set 1 sc__law_kinds.nd (de_op op_addA o_add (dv 1) (de_lst (da_cons (de_tup (da_cons de_str (da_cons (de_callB call_isX o_isx (by rfl) T.z_isinstance (by decide +kernel) (da_cons (dv 0) (da_cons (de_glob (d := .any (.ref (a 20))) (v := .ref (a 20)) (by rfl) T.g20 rfl (fun _ => rfl)) da_nil))) da_nil))) (da_cons (de_tup (da_cons de_str (da_cons (de_callB call_isX o_isx (by rfl) T.z_isinstance (by decide +kernel) (da_cons (dv 0) (da_cons (de_glob (d := .any (.ref (a 21))) (v := .ref (a 21)) (by rfl) T.g21 rfl (fun _ => rfl)) da_nil))) da_nil))) da_nil)))))
      (dss_cons (ds_set 1 sc__law_kinds.nd (de_op op_addA o_add (dv 1) (de_lst (da_cons (de_tup (da_cons de_str (da_cons (de_callB call_isX o_isx (by rfl) T.z_isinstance (by decide +kernel) (da_cons (dv 0) (da_cons (de_glob (d := .any (.ref (a 22))) (v := .ref (a 22)) (by rfl) T.g22 rfl (fun _ => rfl)) da_nil))) da_nil))) (da_cons (de_tup (da_cons de_str (da_cons (de_callB call_isX o_isx (by rfl) T.z_isinstance (by decide +kernel) (da_cons (dv 0) (da_cons (de_glob (d := .any (.ref (a 23))) (v := .ref (a 23)) (by rfl) T.g23 rfl (fun _ => rfl)) da_nil))) da_nil))) da_nil)))))
      (dss_one (ds_ret (de_lc (own := [("_law_name_here", 2), ("_law_hit", 3)]) sc__law_kinds.nd (di_seq (de_op op_addA o_add (dv 1) (de_call G__law_other_kinds len__law_other_kinds (hr.mono (by decide)) (by rfl) T.g46 T.f46.kp T.b46 (da_cons (dv 0) da_nil)))) (blkOk_by (N := names__law_kinds) (sc := defScope s__law_kinds) (by decide +kernel)) (fun _ _ _ _ _ => (dg_tup (n := 2) rfl (dgs_cons (dg_name 2 sc__law_kinds.nd) (dgs_cons (dg_name 3 sc__law_kinds.nd) dgs_nil)))) (fun _ _ _ _ _ => (dts_one (dt_truth (dv 3)))) (fun _ _ _ _ _ => (dv 2)))))))))))))))), fun ds s Qd h => ?_⟩)
  exact read_kinds98 T.hk ds s Qd h
abbrev names__law_made : List Str := ["_law_one", "_law_other", "_law_found", "_law_book", "_law_edit", "_law_path", "_law_made_here", "_law_reason", "_law_rule", "_law_text", "_law_use", "_law_broken", "_law_circle", "_law_clash", "_law_held", "_law_itself", "_law_across", "_law_refused", "_law_round_it", "_law_taken", "_law_many", "_law_dark"]
theorem sc__law_made : FnScope names__law_made ["_law_one", "_law_other"] (defScope s__law_made) := ⟨rfl, rfl, rfl, by decide +kernel, rfl, by decide +kernel, by decide +kernel⟩
theorem len__law_made {m : Mem} {a : Nat → Addr} : ∀ ds s Qd, ((spMade a) : DSp m) ds s Qd → ds.length = 2 := spMade_len
theorem ok__law_made {m : Mem} (T : Tx K mg base a d e ed) : FnG P w K mg base CX0 3 (a 47) (d 47) ["_law_one", "_law_other"] (lift K m 2 (spMade a)) := by
  refine dfn T.f47 sc__law_made rfl (fun cdv A outer s0 H E En hr => ⟨_, (dss_cons (ds_par 3 4 sc__law_made.nd (da_cons (de_mkx1 (T.hk.x 3 (by decide)) T.i3 T.t3 (oi_BadBook T) (hr.mono (by decide)) T.bi3 (by rfl) T.g3 (da_cons (dv 0) da_nil)) (da_cons (de_mkx1 (T.hk.x 4 (by decide)) T.i4 T.t4 (oi_BadEdit T) (hr.mono (by decide)) T.bi4 (by rfl) T.g4 (da_cons (dv 0) da_nil)) da_nil)))
      (dss_cons (ds_par 5 6 sc__law_made.nd (da_cons (de_mkx1 (T.hk.x 5 (by decide)) T.i5 T.t5 (oi_BadPath T) (hr.mono (by decide)) T.bi5 (by rfl) T.g5 (da_cons (dv 0) da_nil)) (da_cons (de_mkx1 (T.hk.x 6 (by decide)) T.i6 T.t6 (oi_BadProgram T) (hr.mono (by decide)) T.bi6 (by rfl) T.g6 (da_cons (dv 0) da_nil)) da_nil)))
      (dss_cons (ds_set 2 sc__law_made.nd (de_lst (da_cons (de_tup (da_cons (dv 3) (da_cons de_str (da_cons (de_lst (da_cons (de_xfl (dv 3)) da_nil)) (da_cons (de_lst (da_cons (dv 0) da_nil)) da_nil))))) (da_cons (de_tup (da_cons (dv 4) (da_cons de_str (da_cons (de_lst (da_cons (de_xfl (dv 4)) da_nil)) (da_cons (de_lst (da_cons (dv 0) da_nil)) da_nil))))) da_nil))))
      (dss_cons (ds_set 2 sc__law_made.nd (de_op op_addA o_add (dv 2) (de_lst (da_cons (de_tup (da_cons (dv 5) (da_cons de_str (da_cons (de_lst (da_cons (de_xfl (dv 5)) da_nil)) (da_cons (de_lst (da_cons (dv 0) da_nil)) da_nil))))) (da_cons (de_tup (da_cons (dv 6) (da_cons de_str (da_cons (de_lst (da_cons (de_xfl (dv 6)) da_nil)) (da_cons (de_lst (da_cons (dv 0) da_nil)) da_nil))))) da_nil)))))
      (dss_cons (ds_asg (de_tup (da_cons (de_mkx1 (T.hk.x 7 (by decide)) T.i7 T.t7 (oi_BadReason T) (hr.mono (by decide)) T.bi7 (by rfl) T.g7 (da_cons (dv 0) da_nil)) (da_cons (de_mkx1 (T.hk.x 8 (by decide)) T.i8 T.t8 (oi_BadRule T) (hr.mono (by decide)) T.bi8 (by rfl) T.g8 (da_cons (dv 0) da_nil)) (da_cons (de_mkx2 (T.hk.x 9 (by decide)) T.i9 T.t9 (oi_BadText T) (hr.mono (by decide)) T.bi9 (by rfl) T.g9 (da_cons (dv 0) (da_cons (dv 1) da_nil))) (da_cons (de_mkx1 (T.hk.x 10 (by decide)) T.i10 T.t10 (oi_BadUse T) (hr.mono (by decide)) T.bi10 (by rfl) T.g10 (da_cons (dv 0) da_nil)) da_nil))))) (dg_tup (n := 4) rfl (dgs_cons (dg_name 7 sc__law_made.nd) (dgs_cons (dg_name 8 sc__law_made.nd) (dgs_cons (dg_name 9 sc__law_made.nd) (dgs_cons (dg_name 10 sc__law_made.nd) dgs_nil))))))
      (dss_cons (ds_set 2 sc__law_made.nd (de_op op_addA o_add (dv 2) (de_lst (da_cons (de_tup (da_cons (dv 7) (da_cons de_str (da_cons (de_lst (da_cons (de_xfl (dv 7)) da_nil)) (da_cons (de_lst (da_cons (dv 0) da_nil)) da_nil))))) (da_cons (de_tup (da_cons (dv 8) (da_cons de_str (da_cons (de_lst (da_cons (de_xfl (dv 8)) da_nil)) (da_cons (de_lst (da_cons (dv 0) da_nil)) da_nil))))) da_nil)))))
      (dss_cons (ds_set 2 sc__law_made.nd (de_op op_addA o_add (dv 2) (de_lst (da_cons (de_tup (da_cons (dv 9) (da_cons de_str (da_cons (de_lst (da_cons (de_xfl (dv 9)) (da_cons (de_xfl (dv 9)) da_nil))) (da_cons (de_lst (da_cons (dv 0) (da_cons (dv 1) da_nil))) da_nil))))) (da_cons (de_tup (da_cons (dv 10) (da_cons de_str (da_cons (de_lst (da_cons (de_xfl (dv 10)) da_nil)) (da_cons (de_lst (da_cons (dv 0) da_nil)) da_nil))))) da_nil)))))
      (dss_cons (ds_asg (de_tup (da_cons (de_mkx2 (T.hk.x 11 (by decide)) T.i11 T.t11 (oi_Breaks T) (hr.mono (by decide)) T.bi11 (by rfl) T.g11 (da_cons (dv 0) (da_cons (dv 1) da_nil))) (da_cons (de_mkx1 (T.hk.x 12 (by decide)) T.i12 T.t12 (oi_Circular T) (hr.mono (by decide)) T.bi12 (by rfl) T.g12 (da_cons (dv 0) da_nil)) (da_cons (de_mkx1 (T.hk.x 13 (by decide)) T.i13 T.t13 (oi_Clash T) (hr.mono (by decide)) T.bi13 (by rfl) T.g13 (da_cons (dv 0) da_nil)) (da_cons (de_mkx1 (T.hk.x 15 (by decide)) T.i15 T.t15 (oi_InUse T) (hr.mono (by decide)) T.bi15 (by rfl) T.g15 (da_cons (dv 0) da_nil)) da_nil))))) (dg_tup (n := 4) rfl (dgs_cons (dg_name 11 sc__law_made.nd) (dgs_cons (dg_name 12 sc__law_made.nd) (dgs_cons (dg_name 13 sc__law_made.nd) (dgs_cons (dg_name 14 sc__law_made.nd) dgs_nil))))))
      (dss_cons (ds_set 2 sc__law_made.nd (de_op op_addA o_add (dv 2) (de_lst (da_cons (de_tup (da_cons (dv 11) (da_cons de_str (da_cons (de_lst (da_cons (de_xfl (dv 11)) (da_cons (de_xfl (dv 11)) da_nil))) (da_cons (de_lst (da_cons (dv 0) (da_cons (dv 1) da_nil))) da_nil))))) da_nil))))
      (dss_cons (ds_set 2 sc__law_made.nd (de_op op_addA o_add (dv 2) (de_lst (da_cons (de_tup (da_cons (dv 12) (da_cons de_str (da_cons (de_lst (da_cons (de_xfl (dv 12)) da_nil)) (da_cons (de_lst (da_cons (dv 0) da_nil)) da_nil))))) (da_cons (de_tup (da_cons (dv 13) (da_cons de_str (da_cons (de_lst (da_cons (de_xfl (dv 13)) da_nil)) (da_cons (de_lst (da_cons (dv 0) da_nil)) da_nil))))) da_nil)))))
      (dss_cons (ds_set 2 sc__law_made.nd (de_op op_addA o_add (dv 2) (de_lst (da_cons (de_tup (da_cons (dv 14) (da_cons de_str (da_cons (de_lst (da_cons (de_xfl (dv 14)) da_nil)) (da_cons (de_lst (da_cons (dv 0) da_nil)) da_nil))))) da_nil))))
      (dss_cons (ds_par 15 16 sc__law_made.nd (da_cons (de_mkx1 (T.hk.x 16 (by decide)) T.i16 T.t16 (oi_Itself T) (hr.mono (by decide)) T.bi16 (by rfl) T.g16 (da_cons (dv 0) da_nil)) (da_cons (de_mkx1 (T.hk.x 18 (by decide)) T.i18 T.t18 (oi_Overlap T) (hr.mono (by decide)) T.bi18 (by rfl) T.g18 (da_cons (dv 0) da_nil)) da_nil)))
      (dss_cons (ds_par 17 18 sc__law_made.nd (da_cons (de_mkx1 (T.hk.x 19 (by decide)) T.i19 T.t19 (oi_Rejected T) (hr.mono (by decide)) T.bi19 (by rfl) T.g19 (da_cons (dv 0) da_nil)) (da_cons (de_mkx1 (T.hk.x 20 (by decide)) T.i20 T.t20 (oi_Ring T) (hr.mono (by decide)) T.bi20 (by rfl) T.g20 (da_cons (dv 0) da_nil)) da_nil)))
      (dss_cons (ds_set 2 sc__law_made.nd (de_op op_addA o_add (dv 2) (de_lst (da_cons (de_tup (da_cons (dv 15) (da_cons de_str (da_cons (de_lst (da_cons (de_xfl (dv 15)) da_nil)) (da_cons (de_lst (da_cons (dv 0) da_nil)) da_nil))))) (da_cons (de_tup (da_cons (dv 16) (da_cons de_str (da_cons (de_lst (da_cons (de_xfl (dv 16)) da_nil)) (da_cons (de_lst (da_cons (dv 0) da_nil)) da_nil))))) da_nil)))))
      (dss_cons (ds_set 2 sc__law_made.nd (de_op op_addA o_add (dv 2) (de_lst (da_cons (de_tup (da_cons (dv 17) (da_cons de_str (da_cons (de_lst (da_cons (de_xfl (dv 17)) da_nil)) (da_cons (de_lst (da_cons (dv 0) da_nil)) da_nil))))) (da_cons (de_tup (da_cons (dv 18) (da_cons de_str (da_cons (de_lst (da_cons (de_xfl (dv 18)) da_nil)) (da_cons (de_lst (da_cons (dv 0) da_nil)) da_nil))))) da_nil)))))
      (dss_cons (ds_par3 19 20 21 sc__law_made.nd (da_cons (de_mkx1 (T.hk.x 21 (by decide)) T.i21 T.t21 (oi_Taken T) (hr.mono (by decide)) T.bi21 (by rfl) T.g21 (da_cons (dv 0) da_nil)) (da_cons (de_mkx1 (T.hk.x 22 (by decide)) T.i22 T.t22 (oi_TooMany T) (hr.mono (by decide)) T.bi22 (by rfl) T.g22 (da_cons (dv 0) da_nil)) (da_cons (de_mkx1 (T.hk.x 23 (by decide)) T.i23 T.t23 (oi_Unclear T) (hr.mono (by decide)) T.bi23 (by rfl) T.g23 (da_cons (dv 0) da_nil)) da_nil))))
      (dss_cons (ds_set 2 sc__law_made.nd (de_op op_addA o_add (dv 2) (de_lst (da_cons (de_tup (da_cons (dv 19) (da_cons de_str (da_cons (de_lst (da_cons (de_xfl (dv 19)) da_nil)) (da_cons (de_lst (da_cons (dv 0) da_nil)) da_nil))))) (da_cons (de_tup (da_cons (dv 20) (da_cons de_str (da_cons (de_lst (da_cons (de_xfl (dv 20)) da_nil)) (da_cons (de_lst (da_cons (dv 0) da_nil)) da_nil))))) da_nil)))))
      (dss_one (ds_ret (de_op op_addA o_add (dv 2) (de_lst (da_cons (de_tup (da_cons (dv 21) (da_cons de_str (da_cons (de_lst (da_cons (de_xfl (dv 21)) da_nil)) (da_cons (de_lst (da_cons (dv 0) da_nil)) da_nil))))) da_nil)))))))))))))))))))))), fun ds s Qd h => ?_⟩)
  exact read_made98 T.hk ds s Qd h
abbrev names__law_made_others : List Str := ["_law_one", "_law_found", "_law_allowance", "_law_module", "_law_part", "_law_rule", "_law_use"]
theorem sc__law_made_others : FnScope names__law_made_others ["_law_one"] (defScope s__law_made_others) := ⟨rfl, rfl, rfl, by decide +kernel, rfl, by decide +kernel, by decide +kernel⟩
theorem len__law_made_others {m : Mem} {a : Nat → Addr} : ∀ ds s Qd, ((spMadeO a) : DSp m) ds s Qd → ds.length = 1 := spMadeO_len
theorem ok__law_made_others {m : Mem} (T : Tx K mg base a d e ed) : FnG P w K mg base CX0 3 (a 48) (d 48) ["_law_one"] (lift K m 1 (spMadeO a)) := by
  refine dfn T.f48 sc__law_made_others rfl (fun cdv A outer s0 H E En hr => ⟨_, (dss_cons (ds_par3 2 3 4 sc__law_made_others.nd (da_cons (de_mkx1 (T.hk.x 24 (by decide)) T.i24 T.t24 (oi_NoAllowance T) (hr.mono (by decide)) T.bi24 (by rfl) T.g24 (da_cons (dv 0) da_nil)) (da_cons (de_mkx1 (T.hk.x 25 (by decide)) T.i25 T.t25 (oi_NoModule T) (hr.mono (by decide)) T.bi25 (by rfl) T.g25 (da_cons (dv 0) da_nil)) (da_cons (de_mkx1 (T.hk.x 26 (by decide)) T.i26 T.t26 (oi_NoPart T) (hr.mono (by decide)) T.bi26 (by rfl) T.g26 (da_cons (dv 0) da_nil)) da_nil))))
      (dss_cons (ds_par 5 6 sc__law_made_others.nd (da_cons (de_mkx1 (T.hk.x 27 (by decide)) T.i27 T.t27 (oi_NoRule T) (hr.mono (by decide)) T.bi27 (by rfl) T.g27 (da_cons (dv 0) da_nil)) (da_cons (de_mkx1 (T.hk.x 28 (by decide)) T.i28 T.t28 (oi_NoUse T) (hr.mono (by decide)) T.bi28 (by rfl) T.g28 (da_cons (dv 0) da_nil)) da_nil)))
      (dss_cons (ds_set 1 sc__law_made_others.nd (de_lst (da_cons (de_tup (da_cons (dv 2) (da_cons de_str (da_cons (de_lst (da_cons (de_xfl (dv 2)) da_nil)) (da_cons (de_lst (da_cons (dv 0) da_nil)) da_nil))))) (da_cons (de_tup (da_cons (dv 3) (da_cons de_str (da_cons (de_lst (da_cons (de_xfl (dv 3)) da_nil)) (da_cons (de_lst (da_cons (dv 0) da_nil)) da_nil))))) da_nil))))
      (dss_cons (ds_set 1 sc__law_made_others.nd (de_op op_addA o_add (dv 1) (de_lst (da_cons (de_tup (da_cons (dv 4) (da_cons de_str (da_cons (de_lst (da_cons (de_xfl (dv 4)) da_nil)) (da_cons (de_lst (da_cons (dv 0) da_nil)) da_nil))))) (da_cons (de_tup (da_cons (dv 5) (da_cons de_str (da_cons (de_lst (da_cons (de_xfl (dv 5)) da_nil)) (da_cons (de_lst (da_cons (dv 0) da_nil)) da_nil))))) da_nil)))))
      (dss_one (ds_ret (de_op op_addA o_add (dv 1) (de_lst (da_cons (de_tup (da_cons (dv 6) (da_cons de_str (da_cons (de_lst (da_cons (de_xfl (dv 6)) da_nil)) (da_cons (de_lst (da_cons (dv 0) da_nil)) da_nil))))) da_nil))))))))), fun ds s Qd h => ?_⟩)
  exact read_madeo98 T.hk ds s Qd h
abbrev names_law : List Str := ["_law_script", "_law_deck_here", "_law_turn", "_law_limits", "_law_name_here", "_law_plain", "_law_one", "_law_other", "_law_error", "_law_kind", "_law_fields", "_law_due"]
theorem sc_law : FnScope names_law ["_law_script"] (defScope s_law) := ⟨rfl, rfl, rfl, by decide +kernel, rfl, by decide +kernel, by decide +kernel⟩
theorem len_law : ∀ ds s Qd, (spLaw : DSp Mem.deck) ds s Qd → ds.length = 1 := spLaw_len
theorem ok_law (T : Tx K mg base a d e ed) : FnG P w K mg base CX0 8 (a 49) (d 49) ["_law_script"] (lift K Mem.deck 1 spLaw) := by
  have G__law_deck := ok__law_deck (P := P) (w := w) (base := base) T
  have G__law_name := ok__law_name (P := P) (w := w) (base := base) T
  have G__law_odd := ok__law_odd (P := P) (w := w) (base := base) T
  have G__law_same := ok__law_same (P := P) (w := w) (base := base) (m := Mem.deck) T 5
  have len__law_same := len__law_same (m := Mem.deck) 5
  have G__law_kinds := ok__law_kinds (P := P) (w := w) (base := base) (m := Mem.deck) T
  have G__law_made := ok__law_made (P := P) (w := w) (base := base) (m := Mem.deck) T
  have G__law_made_others := ok__law_made_others (P := P) (w := w) (base := base) (m := Mem.deck) T
  refine dfn T.f49 sc_law rfl (fun cdv A outer s0 H E En hr => ⟨_, (dss_cons (ds_set 1 sc_law.nd (de_call G__law_deck len__law_deck (hr.mono (by decide)) (by rfl) T.g40 T.f40.kp T.b40 (da_cons (dv 0) da_nil)))
      (dss_cons (ds_for rfl (di_range1 (by rfl) T.z_range (da_cons de_int da_nil)) (dg_name 2 sc_law.nd)
        (dss_cons (ds_set 4 sc_law.nd (de_call G__law_name len__law_name (hr.mono (by decide)) (by rfl) T.g42 T.f42.kp T.b42 (da_cons (dv 1) da_nil)))
        (dss_cons (ds_par 6 7 sc_law.nd (da_cons (de_call G__law_odd len__law_odd (hr.mono (by decide)) (by rfl) T.g43 T.f43.kp T.b43 (da_cons (dv 1) (da_cons (dv 4) da_nil))) (da_cons (de_call G__law_odd len__law_odd (hr.mono (by decide)) (by rfl) T.g43 T.f43.kp T.b43 (da_cons (dv 1) (da_cons (dv 4) da_nil))) da_nil)))
        (dss_cons (ds_set 5 sc_law.nd (de_lst (da_cons (de_tup (da_cons (de_mkx0 (T.hk.x 2 (by decide)) PySem.F.excBase_ValueError T.e2 (by rfl) T.g2) (da_cons de_str (da_cons (de_lst da_nil) (da_cons (de_lst da_nil) da_nil))))) (da_cons (de_tup (da_cons (de_mkx0 (T.hk.x 14 (by decide)) PySem.F.excBase_ValueError T.e14 (by rfl) T.g14) (da_cons de_str (da_cons (de_lst da_nil) (da_cons (de_lst da_nil) da_nil))))) (da_cons (de_tup (da_cons (de_mkx0 (T.hk.x 17 (by decide)) PySem.F.excBase_ValueError T.e17 (by rfl) T.g17) (da_cons de_str (da_cons (de_lst da_nil) (da_cons (de_lst da_nil) da_nil))))) da_nil)))))
        (dss_cons (ds_for rfl (di_seq (de_op op_addA o_add (dv 5) (de_call G__law_made len__law_made (hr.mono (by decide)) (by rfl) T.g47 T.f47.kp T.b47 (da_cons (dv 6) (da_cons (dv 7) da_nil))))) (dg_tup (n := 4) rfl (dgs_cons (dg_name 8 sc_law.nd) (dgs_cons (dg_name 9 sc_law.nd) (dgs_cons (dg_name 10 sc_law.nd) (dgs_cons (dg_name 11 sc_law.nd) dgs_nil)))))
          (dss_cons (ds_if (PW.pt (dw_or (dt_not (dt_truth (de_call G__law_same len__law_same (hr.mono (by decide)) (by rfl) T.g44 T.f44.kp T.b44 (da_cons (dv 10) (da_cons (dv 11) da_nil))))) (dw_or (dt_cmp (op_neD (u64 hr)) o_ne (de_call G__law_kinds len__law_kinds (hr.mono (by decide)) (by rfl) T.g45 T.f45.kp T.b45 (da_cons (dv 8) da_nil)) (de_lst (da_cons (dv 9) da_nil))) (dw_or1 (dt_truth (de_callB call_isX o_isx (by rfl) T.z_isinstance (by decide +kernel) (da_cons (dv 8) (da_cons (de_bltn (v := .ty "LookupError") (by rfl) T.z_LookupError (by decide +kernel) rfl) da_nil))))))))
            (dss_one (ds_ret de_bl))
            dss_nil)
          (dss_one (ds_if (PW.pt (dw_or (dt_not (dt_truth (de_callB call_isX o_isx (by rfl) T.z_isinstance (by decide +kernel) (da_cons (dv 8) (da_cons (de_glob (d := .any (.ref (a 1))) (v := .ref (a 1)) (by rfl) T.g1 rfl (fun _ => rfl)) da_nil))))) (dw_or1 (dt_not (dt_truth (de_callB call_isX o_isx (by rfl) T.z_isinstance (by decide +kernel) (da_cons (dv 8) (da_cons (de_bltn (v := .ty "ValueError") (by rfl) T.z_ValueError (by decide +kernel) rfl) da_nil))))))))
            (dss_one (ds_ret de_bl))
            dss_nil))))
        (dss_one (ds_for rfl (di_seq (de_call G__law_made_others len__law_made_others (hr.mono (by decide)) (by rfl) T.g48 T.f48.kp T.b48 (da_cons (dv 7) da_nil))) (dg_tup (n := 4) rfl (dgs_cons (dg_name 8 sc_law.nd) (dgs_cons (dg_name 9 sc_law.nd) (dgs_cons (dg_name 10 sc_law.nd) (dgs_cons (dg_name 11 sc_law.nd) dgs_nil)))))
          (dss_cons (ds_if (PW.pt (dw_or (dt_not (dt_truth (de_call G__law_same len__law_same (hr.mono (by decide)) (by rfl) T.g44 T.f44.kp T.b44 (da_cons (dv 10) (da_cons (dv 11) da_nil))))) (dw_or (dt_cmp (op_neD (u64 hr)) o_ne (de_call G__law_kinds len__law_kinds (hr.mono (by decide)) (by rfl) T.g45 T.f45.kp T.b45 (da_cons (dv 8) da_nil)) (de_lst (da_cons (dv 9) da_nil))) (dw_or1 (dt_not (dt_truth (de_callB call_isX o_isx (by rfl) T.z_isinstance (by decide +kernel) (da_cons (dv 8) (da_cons (de_bltn (v := .ty "LookupError") (by rfl) T.z_LookupError (by decide +kernel) rfl) da_nil)))))))))
            (dss_one (ds_ret de_bl))
            dss_nil)
          (dss_one (ds_if (dt_truth (de_isXT (by rfl) T.z_isinstance (dv 8) (da_cons (de_glob (d := .any (.ref (a 1))) (v := .ref (a 1)) (by rfl) T.g1 rfl (fun _ => rfl)) (da_cons (de_bltn (v := .ty "ValueError") (by rfl) T.z_ValueError (by decide +kernel) rfl) (da_cons (de_bltn (v := .ty "KeyError") (by rfl) T.z_KeyError (by decide +kernel) rfl) (da_cons (de_bltn (v := .ty "IndexError") (by rfl) T.z_IndexError (by decide +kernel) rfl) da_nil))))))
            (dss_one (ds_ret de_bl))
            dss_nil))))))))))
      (dss_cons (ds_set 3 sc_law.nd (de_tup (da_cons (de_globI (by rfl) T.c_BATCH) (da_cons (de_globI (by rfl) T.c_MAX_CUTS) (da_cons (de_globI (by rfl) T.c_MAX_EDITS) (da_cons (de_globI (by rfl) T.c_MAX_LISTED) (da_cons (de_globI (by rfl) T.c_MAX_MODULES) (da_cons (de_globI (by rfl) T.c_MAX_MOVES) (da_cons (de_globI (by rfl) T.c_MAX_NAMES) (da_cons (de_globI (by rfl) T.c_MAX_RULE_NAMES) da_nil))))))))))
      (dss_one (ds_ret (de_call G__law_same len__law_same (hr.mono (by decide)) (by rfl) T.g44 T.f44.kp T.b44 (da_cons (de_op op_addA o_add (dv 3) (de_tup (da_cons (de_globI (by rfl) T.c_MAX_RULES) (da_cons (de_globI (by rfl) T.c_MAX_USES) da_nil)))) (da_cons (de_tup (da_cons de_int (da_cons de_int (da_cons de_int (da_cons de_int (da_cons de_int (da_cons de_int (da_cons de_int (da_cons de_int (da_cons de_int (da_cons de_int da_nil))))))))))) da_nil)))))))), fun ds s Qd h => ?_⟩)
  exact read_law_k98 T.hk ds s Qd h
end
theorem all_mk {l : PySem.W.OpenLaw} {w : World} {K : PySem.W.Frag} {h : Heap} {mg : Str → Option Value} {fa : Addr} (X : K.In h) (G : h.Ns mainGlobals mg) (hfa : mg "law" = some (.ref fa))
    {f40 : Addr} {od40 an40 : Option Addr} {sl40 : Array (Option Value)} {oc40 kV40 dc40 pm40 cd40 ct40 : Value}
    (a40 : PySem.W.nsIn K mainGlobals "_law_deck" = some (some (.ref f40))) (l40 : K.lookup f40 = some ⟨oc40, od40, .func (PySem.W.fnOf "_law_deck" "_law_deck" (defArgs s__law_deck) (defBody s__law_deck) (defScope s__law_deck) .none kV40 dc40 pm40 an40 cd40 ct40), sl40⟩) (c40 : PySem.W.codeIn K cd40 "_law_deck" = true) (k40 : PySem.W.keepIn K (.ref f40) = true)
    {f41 : Addr} {od41 an41 : Option Addr} {sl41 : Array (Option Value)} {oc41 kV41 dc41 pm41 cd41 ct41 : Value}
    (a41 : PySem.W.nsIn K mainGlobals "_law_next" = some (some (.ref f41))) (l41 : K.lookup f41 = some ⟨oc41, od41, .func (PySem.W.fnOf "_law_next" "_law_next" (defArgs s__law_next) (defBody s__law_next) (defScope s__law_next) .none kV41 dc41 pm41 an41 cd41 ct41), sl41⟩) (c41 : PySem.W.codeIn K cd41 "_law_next" = true) (k41 : PySem.W.keepIn K (.ref f41) = true)
    {f42 : Addr} {od42 an42 : Option Addr} {sl42 : Array (Option Value)} {oc42 kV42 dc42 pm42 cd42 ct42 : Value}
    (a42 : PySem.W.nsIn K mainGlobals "_law_name" = some (some (.ref f42))) (l42 : K.lookup f42 = some ⟨oc42, od42, .func (PySem.W.fnOf "_law_name" "_law_name" (defArgs s__law_name) (defBody s__law_name) (defScope s__law_name) .none kV42 dc42 pm42 an42 cd42 ct42), sl42⟩) (c42 : PySem.W.codeIn K cd42 "_law_name" = true) (k42 : PySem.W.keepIn K (.ref f42) = true)
    {f43 : Addr} {od43 an43 : Option Addr} {sl43 : Array (Option Value)} {oc43 kV43 dc43 pm43 cd43 ct43 : Value}
    (a43 : PySem.W.nsIn K mainGlobals "_law_odd" = some (some (.ref f43))) (l43 : K.lookup f43 = some ⟨oc43, od43, .func (PySem.W.fnOf "_law_odd" "_law_odd" (defArgs s__law_odd) (defBody s__law_odd) (defScope s__law_odd) .none kV43 dc43 pm43 an43 cd43 ct43), sl43⟩) (c43 : PySem.W.codeIn K cd43 "_law_odd" = true) (k43 : PySem.W.keepIn K (.ref f43) = true)
    {f44 : Addr} {od44 an44 : Option Addr} {sl44 : Array (Option Value)} {oc44 kV44 dc44 pm44 cd44 ct44 : Value}
    (a44 : PySem.W.nsIn K mainGlobals "_law_same" = some (some (.ref f44))) (l44 : K.lookup f44 = some ⟨oc44, od44, .func (PySem.W.fnOf "_law_same" "_law_same" (defArgs s__law_same) (defBody s__law_same) (defScope s__law_same) .none kV44 dc44 pm44 an44 cd44 ct44), sl44⟩) (c44 : PySem.W.codeIn K cd44 "_law_same" = true) (k44 : PySem.W.keepIn K (.ref f44) = true)
    {f46 : Addr} {od46 an46 : Option Addr} {sl46 : Array (Option Value)} {oc46 kV46 dc46 pm46 cd46 ct46 : Value}
    (a46 : PySem.W.nsIn K mainGlobals "_law_other_kinds" = some (some (.ref f46))) (l46 : K.lookup f46 = some ⟨oc46, od46, .func (PySem.W.fnOf "_law_other_kinds" "_law_other_kinds" (defArgs s__law_other_kinds) (defBody s__law_other_kinds) (defScope s__law_other_kinds) .none kV46 dc46 pm46 an46 cd46 ct46), sl46⟩) (c46 : PySem.W.codeIn K cd46 "_law_other_kinds" = true) (k46 : PySem.W.keepIn K (.ref f46) = true)
    {f45 : Addr} {od45 an45 : Option Addr} {sl45 : Array (Option Value)} {oc45 kV45 dc45 pm45 cd45 ct45 : Value}
    (a45 : PySem.W.nsIn K mainGlobals "_law_kinds" = some (some (.ref f45))) (l45 : K.lookup f45 = some ⟨oc45, od45, .func (PySem.W.fnOf "_law_kinds" "_law_kinds" (defArgs s__law_kinds) (defBody s__law_kinds) (defScope s__law_kinds) .none kV45 dc45 pm45 an45 cd45 ct45), sl45⟩) (c45 : PySem.W.codeIn K cd45 "_law_kinds" = true) (k45 : PySem.W.keepIn K (.ref f45) = true)
    {f47 : Addr} {od47 an47 : Option Addr} {sl47 : Array (Option Value)} {oc47 kV47 dc47 pm47 cd47 ct47 : Value}
    (a47 : PySem.W.nsIn K mainGlobals "_law_made" = some (some (.ref f47))) (l47 : K.lookup f47 = some ⟨oc47, od47, .func (PySem.W.fnOf "_law_made" "_law_made" (defArgs s__law_made) (defBody s__law_made) (defScope s__law_made) .none kV47 dc47 pm47 an47 cd47 ct47), sl47⟩) (c47 : PySem.W.codeIn K cd47 "_law_made" = true) (k47 : PySem.W.keepIn K (.ref f47) = true)
    {f48 : Addr} {od48 an48 : Option Addr} {sl48 : Array (Option Value)} {oc48 kV48 dc48 pm48 cd48 ct48 : Value}
    (a48 : PySem.W.nsIn K mainGlobals "_law_made_others" = some (some (.ref f48))) (l48 : K.lookup f48 = some ⟨oc48, od48, .func (PySem.W.fnOf "_law_made_others" "_law_made_others" (defArgs s__law_made_others) (defBody s__law_made_others) (defScope s__law_made_others) .none kV48 dc48 pm48 an48 cd48 ct48), sl48⟩) (c48 : PySem.W.codeIn K cd48 "_law_made_others" = true) (k48 : PySem.W.keepIn K (.ref f48) = true)
    {f49 : Addr} {od49 an49 : Option Addr} {sl49 : Array (Option Value)} {oc49 kV49 dc49 pm49 cd49 ct49 : Value}
    (a49 : PySem.W.nsIn K mainGlobals "law" = some (some (.ref f49))) (l49 : K.lookup f49 = some ⟨oc49, od49, .func (PySem.W.fnOf "law" "law" (defArgs s_law) (defBody s_law) (defScope s_law) .none kV49 dc49 pm49 an49 cd49 ct49), sl49⟩) (c49 : PySem.W.codeIn K cd49 "law" = true) (k49 : PySem.W.keepIn K (.ref f49) = true)
    {f1 : Addr} (a1 : PySem.W.nsIn K mainGlobals "RestError" = some (some (.ref f1)))
    {f2 : Addr} (a2 : PySem.W.nsIn K mainGlobals "BadBatch" = some (some (.ref f2)))
    {f3 : Addr} (a3 : PySem.W.nsIn K mainGlobals "BadBook" = some (some (.ref f3)))
    {h3 : Addr} {odI3 anI3 : Option Addr} {slI3 : Array (Option Value)} {ocI3 kVI3 dcI3 pmI3 cdI3 ctI3 : Value}
    (i3 : PySem.W.findIn K (.ref f3) "__init__" = some (some (.ref h3))) (t3 : PySem.W.typeIn K (.ref h3) = some (.type "function")) (lI3 : K.lookup h3 = some ⟨ocI3, odI3, .func (PySem.W.fnOf "__init__" "BadBook.__init__" (defArgs si_BadBook) (defBody si_BadBook) (defScope si_BadBook) .none kVI3 dcI3 pmI3 anI3 cdI3 ctI3), slI3⟩) (cI3 : PySem.W.codeIn K cdI3 "BadBook.__init__" = true) (kI3 : PySem.W.keepIn K (.ref h3) = true)
    {f4 : Addr} (a4 : PySem.W.nsIn K mainGlobals "BadEdit" = some (some (.ref f4)))
    {h4 : Addr} {odI4 anI4 : Option Addr} {slI4 : Array (Option Value)} {ocI4 kVI4 dcI4 pmI4 cdI4 ctI4 : Value}
    (i4 : PySem.W.findIn K (.ref f4) "__init__" = some (some (.ref h4))) (t4 : PySem.W.typeIn K (.ref h4) = some (.type "function")) (lI4 : K.lookup h4 = some ⟨ocI4, odI4, .func (PySem.W.fnOf "__init__" "BadEdit.__init__" (defArgs si_BadEdit) (defBody si_BadEdit) (defScope si_BadEdit) .none kVI4 dcI4 pmI4 anI4 cdI4 ctI4), slI4⟩) (cI4 : PySem.W.codeIn K cdI4 "BadEdit.__init__" = true) (kI4 : PySem.W.keepIn K (.ref h4) = true)
    {f5 : Addr} (a5 : PySem.W.nsIn K mainGlobals "BadPath" = some (some (.ref f5)))
    {h5 : Addr} {odI5 anI5 : Option Addr} {slI5 : Array (Option Value)} {ocI5 kVI5 dcI5 pmI5 cdI5 ctI5 : Value}
    (i5 : PySem.W.findIn K (.ref f5) "__init__" = some (some (.ref h5))) (t5 : PySem.W.typeIn K (.ref h5) = some (.type "function")) (lI5 : K.lookup h5 = some ⟨ocI5, odI5, .func (PySem.W.fnOf "__init__" "BadPath.__init__" (defArgs si_BadPath) (defBody si_BadPath) (defScope si_BadPath) .none kVI5 dcI5 pmI5 anI5 cdI5 ctI5), slI5⟩) (cI5 : PySem.W.codeIn K cdI5 "BadPath.__init__" = true) (kI5 : PySem.W.keepIn K (.ref h5) = true)
    {f6 : Addr} (a6 : PySem.W.nsIn K mainGlobals "BadProgram" = some (some (.ref f6)))
    {h6 : Addr} {odI6 anI6 : Option Addr} {slI6 : Array (Option Value)} {ocI6 kVI6 dcI6 pmI6 cdI6 ctI6 : Value}
    (i6 : PySem.W.findIn K (.ref f6) "__init__" = some (some (.ref h6))) (t6 : PySem.W.typeIn K (.ref h6) = some (.type "function")) (lI6 : K.lookup h6 = some ⟨ocI6, odI6, .func (PySem.W.fnOf "__init__" "BadProgram.__init__" (defArgs si_BadProgram) (defBody si_BadProgram) (defScope si_BadProgram) .none kVI6 dcI6 pmI6 anI6 cdI6 ctI6), slI6⟩) (cI6 : PySem.W.codeIn K cdI6 "BadProgram.__init__" = true) (kI6 : PySem.W.keepIn K (.ref h6) = true)
    {f7 : Addr} (a7 : PySem.W.nsIn K mainGlobals "BadReason" = some (some (.ref f7)))
    {h7 : Addr} {odI7 anI7 : Option Addr} {slI7 : Array (Option Value)} {ocI7 kVI7 dcI7 pmI7 cdI7 ctI7 : Value}
    (i7 : PySem.W.findIn K (.ref f7) "__init__" = some (some (.ref h7))) (t7 : PySem.W.typeIn K (.ref h7) = some (.type "function")) (lI7 : K.lookup h7 = some ⟨ocI7, odI7, .func (PySem.W.fnOf "__init__" "BadReason.__init__" (defArgs si_BadReason) (defBody si_BadReason) (defScope si_BadReason) .none kVI7 dcI7 pmI7 anI7 cdI7 ctI7), slI7⟩) (cI7 : PySem.W.codeIn K cdI7 "BadReason.__init__" = true) (kI7 : PySem.W.keepIn K (.ref h7) = true)
    {f8 : Addr} (a8 : PySem.W.nsIn K mainGlobals "BadRule" = some (some (.ref f8)))
    {h8 : Addr} {odI8 anI8 : Option Addr} {slI8 : Array (Option Value)} {ocI8 kVI8 dcI8 pmI8 cdI8 ctI8 : Value}
    (i8 : PySem.W.findIn K (.ref f8) "__init__" = some (some (.ref h8))) (t8 : PySem.W.typeIn K (.ref h8) = some (.type "function")) (lI8 : K.lookup h8 = some ⟨ocI8, odI8, .func (PySem.W.fnOf "__init__" "BadRule.__init__" (defArgs si_BadRule) (defBody si_BadRule) (defScope si_BadRule) .none kVI8 dcI8 pmI8 anI8 cdI8 ctI8), slI8⟩) (cI8 : PySem.W.codeIn K cdI8 "BadRule.__init__" = true) (kI8 : PySem.W.keepIn K (.ref h8) = true)
    {f9 : Addr} (a9 : PySem.W.nsIn K mainGlobals "BadText" = some (some (.ref f9)))
    {h9 : Addr} {odI9 anI9 : Option Addr} {slI9 : Array (Option Value)} {ocI9 kVI9 dcI9 pmI9 cdI9 ctI9 : Value}
    (i9 : PySem.W.findIn K (.ref f9) "__init__" = some (some (.ref h9))) (t9 : PySem.W.typeIn K (.ref h9) = some (.type "function")) (lI9 : K.lookup h9 = some ⟨ocI9, odI9, .func (PySem.W.fnOf "__init__" "BadText.__init__" (defArgs si_BadText) (defBody si_BadText) (defScope si_BadText) .none kVI9 dcI9 pmI9 anI9 cdI9 ctI9), slI9⟩) (cI9 : PySem.W.codeIn K cdI9 "BadText.__init__" = true) (kI9 : PySem.W.keepIn K (.ref h9) = true)
    {f10 : Addr} (a10 : PySem.W.nsIn K mainGlobals "BadUse" = some (some (.ref f10)))
    {h10 : Addr} {odI10 anI10 : Option Addr} {slI10 : Array (Option Value)} {ocI10 kVI10 dcI10 pmI10 cdI10 ctI10 : Value}
    (i10 : PySem.W.findIn K (.ref f10) "__init__" = some (some (.ref h10))) (t10 : PySem.W.typeIn K (.ref h10) = some (.type "function")) (lI10 : K.lookup h10 = some ⟨ocI10, odI10, .func (PySem.W.fnOf "__init__" "BadUse.__init__" (defArgs si_BadUse) (defBody si_BadUse) (defScope si_BadUse) .none kVI10 dcI10 pmI10 anI10 cdI10 ctI10), slI10⟩) (cI10 : PySem.W.codeIn K cdI10 "BadUse.__init__" = true) (kI10 : PySem.W.keepIn K (.ref h10) = true)
    {f11 : Addr} (a11 : PySem.W.nsIn K mainGlobals "Breaks" = some (some (.ref f11)))
    {h11 : Addr} {odI11 anI11 : Option Addr} {slI11 : Array (Option Value)} {ocI11 kVI11 dcI11 pmI11 cdI11 ctI11 : Value}
    (i11 : PySem.W.findIn K (.ref f11) "__init__" = some (some (.ref h11))) (t11 : PySem.W.typeIn K (.ref h11) = some (.type "function")) (lI11 : K.lookup h11 = some ⟨ocI11, odI11, .func (PySem.W.fnOf "__init__" "Breaks.__init__" (defArgs si_Breaks) (defBody si_Breaks) (defScope si_Breaks) .none kVI11 dcI11 pmI11 anI11 cdI11 ctI11), slI11⟩) (cI11 : PySem.W.codeIn K cdI11 "Breaks.__init__" = true) (kI11 : PySem.W.keepIn K (.ref h11) = true)
    {f12 : Addr} (a12 : PySem.W.nsIn K mainGlobals "Circular" = some (some (.ref f12)))
    {h12 : Addr} {odI12 anI12 : Option Addr} {slI12 : Array (Option Value)} {ocI12 kVI12 dcI12 pmI12 cdI12 ctI12 : Value}
    (i12 : PySem.W.findIn K (.ref f12) "__init__" = some (some (.ref h12))) (t12 : PySem.W.typeIn K (.ref h12) = some (.type "function")) (lI12 : K.lookup h12 = some ⟨ocI12, odI12, .func (PySem.W.fnOf "__init__" "Circular.__init__" (defArgs si_Circular) (defBody si_Circular) (defScope si_Circular) .none kVI12 dcI12 pmI12 anI12 cdI12 ctI12), slI12⟩) (cI12 : PySem.W.codeIn K cdI12 "Circular.__init__" = true) (kI12 : PySem.W.keepIn K (.ref h12) = true)
    {f13 : Addr} (a13 : PySem.W.nsIn K mainGlobals "Clash" = some (some (.ref f13)))
    {h13 : Addr} {odI13 anI13 : Option Addr} {slI13 : Array (Option Value)} {ocI13 kVI13 dcI13 pmI13 cdI13 ctI13 : Value}
    (i13 : PySem.W.findIn K (.ref f13) "__init__" = some (some (.ref h13))) (t13 : PySem.W.typeIn K (.ref h13) = some (.type "function")) (lI13 : K.lookup h13 = some ⟨ocI13, odI13, .func (PySem.W.fnOf "__init__" "Clash.__init__" (defArgs si_Clash) (defBody si_Clash) (defScope si_Clash) .none kVI13 dcI13 pmI13 anI13 cdI13 ctI13), slI13⟩) (cI13 : PySem.W.codeIn K cdI13 "Clash.__init__" = true) (kI13 : PySem.W.keepIn K (.ref h13) = true)
    {f14 : Addr} (a14 : PySem.W.nsIn K mainGlobals "Full" = some (some (.ref f14)))
    {f15 : Addr} (a15 : PySem.W.nsIn K mainGlobals "InUse" = some (some (.ref f15)))
    {h15 : Addr} {odI15 anI15 : Option Addr} {slI15 : Array (Option Value)} {ocI15 kVI15 dcI15 pmI15 cdI15 ctI15 : Value}
    (i15 : PySem.W.findIn K (.ref f15) "__init__" = some (some (.ref h15))) (t15 : PySem.W.typeIn K (.ref h15) = some (.type "function")) (lI15 : K.lookup h15 = some ⟨ocI15, odI15, .func (PySem.W.fnOf "__init__" "InUse.__init__" (defArgs si_InUse) (defBody si_InUse) (defScope si_InUse) .none kVI15 dcI15 pmI15 anI15 cdI15 ctI15), slI15⟩) (cI15 : PySem.W.codeIn K cdI15 "InUse.__init__" = true) (kI15 : PySem.W.keepIn K (.ref h15) = true)
    {f16 : Addr} (a16 : PySem.W.nsIn K mainGlobals "Itself" = some (some (.ref f16)))
    {h16 : Addr} {odI16 anI16 : Option Addr} {slI16 : Array (Option Value)} {ocI16 kVI16 dcI16 pmI16 cdI16 ctI16 : Value}
    (i16 : PySem.W.findIn K (.ref f16) "__init__" = some (some (.ref h16))) (t16 : PySem.W.typeIn K (.ref h16) = some (.type "function")) (lI16 : K.lookup h16 = some ⟨ocI16, odI16, .func (PySem.W.fnOf "__init__" "Itself.__init__" (defArgs si_Itself) (defBody si_Itself) (defScope si_Itself) .none kVI16 dcI16 pmI16 anI16 cdI16 ctI16), slI16⟩) (cI16 : PySem.W.codeIn K cdI16 "Itself.__init__" = true) (kI16 : PySem.W.keepIn K (.ref h16) = true)
    {f17 : Addr} (a17 : PySem.W.nsIn K mainGlobals "NothingToUndo" = some (some (.ref f17)))
    {f18 : Addr} (a18 : PySem.W.nsIn K mainGlobals "Overlap" = some (some (.ref f18)))
    {h18 : Addr} {odI18 anI18 : Option Addr} {slI18 : Array (Option Value)} {ocI18 kVI18 dcI18 pmI18 cdI18 ctI18 : Value}
    (i18 : PySem.W.findIn K (.ref f18) "__init__" = some (some (.ref h18))) (t18 : PySem.W.typeIn K (.ref h18) = some (.type "function")) (lI18 : K.lookup h18 = some ⟨ocI18, odI18, .func (PySem.W.fnOf "__init__" "Overlap.__init__" (defArgs si_Overlap) (defBody si_Overlap) (defScope si_Overlap) .none kVI18 dcI18 pmI18 anI18 cdI18 ctI18), slI18⟩) (cI18 : PySem.W.codeIn K cdI18 "Overlap.__init__" = true) (kI18 : PySem.W.keepIn K (.ref h18) = true)
    {f19 : Addr} (a19 : PySem.W.nsIn K mainGlobals "Rejected" = some (some (.ref f19)))
    {h19 : Addr} {odI19 anI19 : Option Addr} {slI19 : Array (Option Value)} {ocI19 kVI19 dcI19 pmI19 cdI19 ctI19 : Value}
    (i19 : PySem.W.findIn K (.ref f19) "__init__" = some (some (.ref h19))) (t19 : PySem.W.typeIn K (.ref h19) = some (.type "function")) (lI19 : K.lookup h19 = some ⟨ocI19, odI19, .func (PySem.W.fnOf "__init__" "Rejected.__init__" (defArgs si_Rejected) (defBody si_Rejected) (defScope si_Rejected) .none kVI19 dcI19 pmI19 anI19 cdI19 ctI19), slI19⟩) (cI19 : PySem.W.codeIn K cdI19 "Rejected.__init__" = true) (kI19 : PySem.W.keepIn K (.ref h19) = true)
    {f20 : Addr} (a20 : PySem.W.nsIn K mainGlobals "Ring" = some (some (.ref f20)))
    {h20 : Addr} {odI20 anI20 : Option Addr} {slI20 : Array (Option Value)} {ocI20 kVI20 dcI20 pmI20 cdI20 ctI20 : Value}
    (i20 : PySem.W.findIn K (.ref f20) "__init__" = some (some (.ref h20))) (t20 : PySem.W.typeIn K (.ref h20) = some (.type "function")) (lI20 : K.lookup h20 = some ⟨ocI20, odI20, .func (PySem.W.fnOf "__init__" "Ring.__init__" (defArgs si_Ring) (defBody si_Ring) (defScope si_Ring) .none kVI20 dcI20 pmI20 anI20 cdI20 ctI20), slI20⟩) (cI20 : PySem.W.codeIn K cdI20 "Ring.__init__" = true) (kI20 : PySem.W.keepIn K (.ref h20) = true)
    {f21 : Addr} (a21 : PySem.W.nsIn K mainGlobals "Taken" = some (some (.ref f21)))
    {h21 : Addr} {odI21 anI21 : Option Addr} {slI21 : Array (Option Value)} {ocI21 kVI21 dcI21 pmI21 cdI21 ctI21 : Value}
    (i21 : PySem.W.findIn K (.ref f21) "__init__" = some (some (.ref h21))) (t21 : PySem.W.typeIn K (.ref h21) = some (.type "function")) (lI21 : K.lookup h21 = some ⟨ocI21, odI21, .func (PySem.W.fnOf "__init__" "Taken.__init__" (defArgs si_Taken) (defBody si_Taken) (defScope si_Taken) .none kVI21 dcI21 pmI21 anI21 cdI21 ctI21), slI21⟩) (cI21 : PySem.W.codeIn K cdI21 "Taken.__init__" = true) (kI21 : PySem.W.keepIn K (.ref h21) = true)
    {f22 : Addr} (a22 : PySem.W.nsIn K mainGlobals "TooMany" = some (some (.ref f22)))
    {h22 : Addr} {odI22 anI22 : Option Addr} {slI22 : Array (Option Value)} {ocI22 kVI22 dcI22 pmI22 cdI22 ctI22 : Value}
    (i22 : PySem.W.findIn K (.ref f22) "__init__" = some (some (.ref h22))) (t22 : PySem.W.typeIn K (.ref h22) = some (.type "function")) (lI22 : K.lookup h22 = some ⟨ocI22, odI22, .func (PySem.W.fnOf "__init__" "TooMany.__init__" (defArgs si_TooMany) (defBody si_TooMany) (defScope si_TooMany) .none kVI22 dcI22 pmI22 anI22 cdI22 ctI22), slI22⟩) (cI22 : PySem.W.codeIn K cdI22 "TooMany.__init__" = true) (kI22 : PySem.W.keepIn K (.ref h22) = true)
    {f23 : Addr} (a23 : PySem.W.nsIn K mainGlobals "Unclear" = some (some (.ref f23)))
    {h23 : Addr} {odI23 anI23 : Option Addr} {slI23 : Array (Option Value)} {ocI23 kVI23 dcI23 pmI23 cdI23 ctI23 : Value}
    (i23 : PySem.W.findIn K (.ref f23) "__init__" = some (some (.ref h23))) (t23 : PySem.W.typeIn K (.ref h23) = some (.type "function")) (lI23 : K.lookup h23 = some ⟨ocI23, odI23, .func (PySem.W.fnOf "__init__" "Unclear.__init__" (defArgs si_Unclear) (defBody si_Unclear) (defScope si_Unclear) .none kVI23 dcI23 pmI23 anI23 cdI23 ctI23), slI23⟩) (cI23 : PySem.W.codeIn K cdI23 "Unclear.__init__" = true) (kI23 : PySem.W.keepIn K (.ref h23) = true)
    {f24 : Addr} (a24 : PySem.W.nsIn K mainGlobals "NoAllowance" = some (some (.ref f24)))
    {h24 : Addr} {odI24 anI24 : Option Addr} {slI24 : Array (Option Value)} {ocI24 kVI24 dcI24 pmI24 cdI24 ctI24 : Value}
    (i24 : PySem.W.findIn K (.ref f24) "__init__" = some (some (.ref h24))) (t24 : PySem.W.typeIn K (.ref h24) = some (.type "function")) (lI24 : K.lookup h24 = some ⟨ocI24, odI24, .func (PySem.W.fnOf "__init__" "NoAllowance.__init__" (defArgs si_NoAllowance) (defBody si_NoAllowance) (defScope si_NoAllowance) .none kVI24 dcI24 pmI24 anI24 cdI24 ctI24), slI24⟩) (cI24 : PySem.W.codeIn K cdI24 "NoAllowance.__init__" = true) (kI24 : PySem.W.keepIn K (.ref h24) = true)
    {f25 : Addr} (a25 : PySem.W.nsIn K mainGlobals "NoModule" = some (some (.ref f25)))
    {h25 : Addr} {odI25 anI25 : Option Addr} {slI25 : Array (Option Value)} {ocI25 kVI25 dcI25 pmI25 cdI25 ctI25 : Value}
    (i25 : PySem.W.findIn K (.ref f25) "__init__" = some (some (.ref h25))) (t25 : PySem.W.typeIn K (.ref h25) = some (.type "function")) (lI25 : K.lookup h25 = some ⟨ocI25, odI25, .func (PySem.W.fnOf "__init__" "NoModule.__init__" (defArgs si_NoModule) (defBody si_NoModule) (defScope si_NoModule) .none kVI25 dcI25 pmI25 anI25 cdI25 ctI25), slI25⟩) (cI25 : PySem.W.codeIn K cdI25 "NoModule.__init__" = true) (kI25 : PySem.W.keepIn K (.ref h25) = true)
    {f26 : Addr} (a26 : PySem.W.nsIn K mainGlobals "NoPart" = some (some (.ref f26)))
    {h26 : Addr} {odI26 anI26 : Option Addr} {slI26 : Array (Option Value)} {ocI26 kVI26 dcI26 pmI26 cdI26 ctI26 : Value}
    (i26 : PySem.W.findIn K (.ref f26) "__init__" = some (some (.ref h26))) (t26 : PySem.W.typeIn K (.ref h26) = some (.type "function")) (lI26 : K.lookup h26 = some ⟨ocI26, odI26, .func (PySem.W.fnOf "__init__" "NoPart.__init__" (defArgs si_NoPart) (defBody si_NoPart) (defScope si_NoPart) .none kVI26 dcI26 pmI26 anI26 cdI26 ctI26), slI26⟩) (cI26 : PySem.W.codeIn K cdI26 "NoPart.__init__" = true) (kI26 : PySem.W.keepIn K (.ref h26) = true)
    {f27 : Addr} (a27 : PySem.W.nsIn K mainGlobals "NoRule" = some (some (.ref f27)))
    {h27 : Addr} {odI27 anI27 : Option Addr} {slI27 : Array (Option Value)} {ocI27 kVI27 dcI27 pmI27 cdI27 ctI27 : Value}
    (i27 : PySem.W.findIn K (.ref f27) "__init__" = some (some (.ref h27))) (t27 : PySem.W.typeIn K (.ref h27) = some (.type "function")) (lI27 : K.lookup h27 = some ⟨ocI27, odI27, .func (PySem.W.fnOf "__init__" "NoRule.__init__" (defArgs si_NoRule) (defBody si_NoRule) (defScope si_NoRule) .none kVI27 dcI27 pmI27 anI27 cdI27 ctI27), slI27⟩) (cI27 : PySem.W.codeIn K cdI27 "NoRule.__init__" = true) (kI27 : PySem.W.keepIn K (.ref h27) = true)
    {f28 : Addr} (a28 : PySem.W.nsIn K mainGlobals "NoUse" = some (some (.ref f28)))
    {h28 : Addr} {odI28 anI28 : Option Addr} {slI28 : Array (Option Value)} {ocI28 kVI28 dcI28 pmI28 cdI28 ctI28 : Value}
    (i28 : PySem.W.findIn K (.ref f28) "__init__" = some (some (.ref h28))) (t28 : PySem.W.typeIn K (.ref h28) = some (.type "function")) (lI28 : K.lookup h28 = some ⟨ocI28, odI28, .func (PySem.W.fnOf "__init__" "NoUse.__init__" (defArgs si_NoUse) (defBody si_NoUse) (defScope si_NoUse) .none kVI28 dcI28 pmI28 anI28 cdI28 ctI28), slI28⟩) (cI28 : PySem.W.codeIn K cdI28 "NoUse.__init__" = true) (kI28 : PySem.W.keepIn K (.ref h28) = true)
    (e2 : PySem.W.excIn K f2 bmV "ValueError.__new__" = true)
    (e14 : PySem.W.excIn K f14 bmV "ValueError.__new__" = true)
    (e17 : PySem.W.excIn K f17 bmV "ValueError.__new__" = true)
    (hkb : hkB K (fun i => if i = 1 then f1 else if i = 2 then f2 else if i = 3 then f3 else if i = 4 then f4 else if i = 5 then f5 else if i = 6 then f6 else if i = 7 then f7 else if i = 8 then f8 else if i = 9 then f9 else if i = 10 then f10 else if i = 11 then f11 else if i = 12 then f12 else if i = 13 then f13 else if i = 14 then f14 else if i = 15 then f15 else if i = 16 then f16 else if i = 17 then f17 else if i = 18 then f18 else if i = 19 then f19 else if i = 20 then f20 else if i = 21 then f21 else if i = 22 then f22 else if i = 23 then f23 else if i = 24 then f24 else if i = 25 then f25 else if i = 26 then f26 else if i = 27 then f27 else if i = 28 then f28 else 0) = true)
    (z_IndexError : PySem.W.nsIn K mainGlobals "IndexError" = some none)
    (z_KeyError : PySem.W.nsIn K mainGlobals "KeyError" = some none)
    (z_LookupError : PySem.W.nsIn K mainGlobals "LookupError" = some none)
    (z_ValueError : PySem.W.nsIn K mainGlobals "ValueError" = some none)
    (z_abs : PySem.W.nsIn K mainGlobals "abs" = some none)
    (z_all : PySem.W.nsIn K mainGlobals "all" = some none)
    (z_bool : PySem.W.nsIn K mainGlobals "bool" = some none)
    (z_dict : PySem.W.nsIn K mainGlobals "dict" = some none)
    (z_int : PySem.W.nsIn K mainGlobals "int" = some none)
    (z_isinstance : PySem.W.nsIn K mainGlobals "isinstance" = some none)
    (z_len : PySem.W.nsIn K mainGlobals "len" = some none)
    (z_list : PySem.W.nsIn K mainGlobals "list" = some none)
    (z_range : PySem.W.nsIn K mainGlobals "range" = some none)
    (z_repr : PySem.W.nsIn K mainGlobals "repr" = some none)
    (z_str : PySem.W.nsIn K mainGlobals "str" = some none)
    (z_tuple : PySem.W.nsIn K mainGlobals "tuple" = some none)
    (z_zip : PySem.W.nsIn K mainGlobals "zip" = some none)
    {t_BATCH : Tok} (c_BATCH : PySem.W.nsIn K mainGlobals "BATCH" = some (some (.int 10 t_BATCH)))
    {t_MAX_CUTS : Tok} (c_MAX_CUTS : PySem.W.nsIn K mainGlobals "MAX_CUTS" = some (some (.int 4 t_MAX_CUTS)))
    {t_MAX_EDITS : Tok} (c_MAX_EDITS : PySem.W.nsIn K mainGlobals "MAX_EDITS" = some (some (.int 40 t_MAX_EDITS)))
    {t_MAX_LISTED : Tok} (c_MAX_LISTED : PySem.W.nsIn K mainGlobals "MAX_LISTED" = some (some (.int 6 t_MAX_LISTED)))
    {t_MAX_MODULES : Tok} (c_MAX_MODULES : PySem.W.nsIn K mainGlobals "MAX_MODULES" = some (some (.int 24 t_MAX_MODULES)))
    {t_MAX_MOVES : Tok} (c_MAX_MOVES : PySem.W.nsIn K mainGlobals "MAX_MOVES" = some (some (.int 2 t_MAX_MOVES)))
    {t_MAX_NAMES : Tok} (c_MAX_NAMES : PySem.W.nsIn K mainGlobals "MAX_NAMES" = some (some (.int 6 t_MAX_NAMES)))
    {t_MAX_RULES : Tok} (c_MAX_RULES : PySem.W.nsIn K mainGlobals "MAX_RULES" = some (some (.int 8 t_MAX_RULES)))
    {t_MAX_RULE_NAMES : Tok} (c_MAX_RULE_NAMES : PySem.W.nsIn K mainGlobals "MAX_RULE_NAMES" = some (some (.int 4 t_MAX_RULE_NAMES)))
    {t_MAX_USES : Tok} (c_MAX_USES : PySem.W.nsIn K mainGlobals "MAX_USES" = some (some (.int 200 t_MAX_USES)))
    : ∃ fd : FuncData, (∀ (s : Shared) (v : Value), BindsTo s fd ⟨[v], []⟩ [("_law_script", v)]) ∧ ∀ base : Heap, K.In base → base.Ns mainGlobals mg → (∃ o, base.get? sysModules = some o) → FnG l.prog w K mg base CX0 8 fa fd ["_law_script"] (lift K Mem.deck 1 spLaw) := by
  have eL := hfa.symm.trans (PySem.W.mg_of X G a49)
  cases eL
  have F40 := fun_mk (st := s__law_deck) l40 c40 k40
  have b40 := F40.binds (ps := ["_law_script"]) fun _ _ _ _ _ _ us hl => match us, hl with | [_], _ => rfl
  have F41 := fun_mk (st := s__law_next) l41 c41 k41
  have b41 := F41.binds (ps := ["_law_deck_here", "_law_many"]) fun _ _ _ _ _ _ us hl => match us, hl with | [_, _], _ => rfl
  have F42 := fun_mk (st := s__law_name) l42 c42 k42
  have b42 := F42.binds (ps := ["_law_deck_here"]) fun _ _ _ _ _ _ us hl => match us, hl with | [_], _ => rfl
  have F43 := fun_mk (st := s__law_odd) l43 c43 k43
  have b43 := F43.binds (ps := ["_law_deck_here", "_law_path"]) fun _ _ _ _ _ _ us hl => match us, hl with | [_, _], _ => rfl
  have F44 := fun_mk (st := s__law_same) l44 c44 k44
  have b44 := F44.binds (ps := ["_law_found", "_law_due"]) fun _ _ _ _ _ _ us hl => match us, hl with | [_, _], _ => rfl
  have F46 := fun_mk (st := s__law_other_kinds) l46 c46 k46
  have b46 := F46.binds (ps := ["_law_error"]) fun _ _ _ _ _ _ us hl => match us, hl with | [_], _ => rfl
  have F45 := fun_mk (st := s__law_kinds) l45 c45 k45
  have b45 := F45.binds (ps := ["_law_error"]) fun _ _ _ _ _ _ us hl => match us, hl with | [_], _ => rfl
  have F47 := fun_mk (st := s__law_made) l47 c47 k47
  have b47 := F47.binds (ps := ["_law_one", "_law_other"]) fun _ _ _ _ _ _ us hl => match us, hl with | [_, _], _ => rfl
  have F48 := fun_mk (st := s__law_made_others) l48 c48 k48
  have b48 := F48.binds (ps := ["_law_one"]) fun _ _ _ _ _ _ us hl => match us, hl with | [_], _ => rfl
  have F49 := fun_mk (st := s_law) l49 c49 k49
  have b49 := F49.binds (ps := ["_law_script"]) fun _ _ _ _ _ _ us hl => match us, hl with | [_], _ => rfl
  have FI3 := fun_mk (st := si_BadBook) lI3 cI3 kI3
  have bI3 := FI3.binds (ps := ["self", "error"]) fun _ _ _ _ _ _ us hl => match us, hl with | [_, _], _ => rfl
  have FI4 := fun_mk (st := si_BadEdit) lI4 cI4 kI4
  have bI4 := FI4.binds (ps := ["self", "index"]) fun _ _ _ _ _ _ us hl => match us, hl with | [_, _], _ => rfl
  have FI5 := fun_mk (st := si_BadPath) lI5 cI5 kI5
  have bI5 := FI5.binds (ps := ["self", "path"]) fun _ _ _ _ _ _ us hl => match us, hl with | [_, _], _ => rfl
  have FI6 := fun_mk (st := si_BadProgram) lI6 cI6 kI6
  have bI6 := FI6.binds (ps := ["self", "error"]) fun _ _ _ _ _ _ us hl => match us, hl with | [_, _], _ => rfl
  have FI7 := fun_mk (st := si_BadReason) lI7 cI7 kI7
  have bI7 := FI7.binds (ps := ["self", "reason"]) fun _ _ _ _ _ _ us hl => match us, hl with | [_, _], _ => rfl
  have FI8 := fun_mk (st := si_BadRule) lI8 cI8 kI8
  have bI8 := FI8.binds (ps := ["self", "word"]) fun _ _ _ _ _ _ us hl => match us, hl with | [_, _], _ => rfl
  have FI9 := fun_mk (st := si_BadText) lI9 cI9 kI9
  have bI9 := FI9.binds (ps := ["self", "line", "code"]) fun _ _ _ _ _ _ us hl => match us, hl with | [_, _, _], _ => rfl
  have FI10 := fun_mk (st := si_BadUse) lI10 cI10 kI10
  have bI10 := FI10.binds (ps := ["self", "index"]) fun _ _ _ _ _ _ us hl => match us, hl with | [_, _], _ => rfl
  have FI11 := fun_mk (st := si_Breaks) lI11 cI11 kI11
  have bI11 := FI11.binds (ps := ["self", "rule", "evidence"]) fun _ _ _ _ _ _ us hl => match us, hl with | [_, _, _], _ => rfl
  have FI12 := fun_mk (st := si_Circular) lI12 cI12 kI12
  have bI12 := FI12.binds (ps := ["self", "evidence"]) fun _ _ _ _ _ _ us hl => match us, hl with | [_, _], _ => rfl
  have FI13 := fun_mk (st := si_Clash) lI13 cI13 kI13
  have bI13 := FI13.binds (ps := ["self", "path"]) fun _ _ _ _ _ _ us hl => match us, hl with | [_, _], _ => rfl
  have FI15 := fun_mk (st := si_InUse) lI15 cI15 kI15
  have bI15 := FI15.binds (ps := ["self", "path"]) fun _ _ _ _ _ _ us hl => match us, hl with | [_, _], _ => rfl
  have FI16 := fun_mk (st := si_Itself) lI16 cI16 kI16
  have bI16 := FI16.binds (ps := ["self", "path"]) fun _ _ _ _ _ _ us hl => match us, hl with | [_, _], _ => rfl
  have FI18 := fun_mk (st := si_Overlap) lI18 cI18 kI18
  have bI18 := FI18.binds (ps := ["self", "path"]) fun _ _ _ _ _ _ us hl => match us, hl with | [_, _], _ => rfl
  have FI19 := fun_mk (st := si_Rejected) lI19 cI19 kI19
  have bI19 := FI19.binds (ps := ["self", "index"]) fun _ _ _ _ _ _ us hl => match us, hl with | [_, _], _ => rfl
  have FI20 := fun_mk (st := si_Ring) lI20 cI20 kI20
  have bI20 := FI20.binds (ps := ["self", "ring"]) fun _ _ _ _ _ _ us hl => match us, hl with | [_, _], _ => rfl
  have FI21 := fun_mk (st := si_Taken) lI21 cI21 kI21
  have bI21 := FI21.binds (ps := ["self", "thing"]) fun _ _ _ _ _ _ us hl => match us, hl with | [_, _], _ => rfl
  have FI22 := fun_mk (st := si_TooMany) lI22 cI22 kI22
  have bI22 := FI22.binds (ps := ["self", "limit"]) fun _ _ _ _ _ _ us hl => match us, hl with | [_, _], _ => rfl
  have FI23 := fun_mk (st := si_Unclear) lI23 cI23 kI23
  have bI23 := FI23.binds (ps := ["self", "name"]) fun _ _ _ _ _ _ us hl => match us, hl with | [_, _], _ => rfl
  have FI24 := fun_mk (st := si_NoAllowance) lI24 cI24 kI24
  have bI24 := FI24.binds (ps := ["self", "use"]) fun _ _ _ _ _ _ us hl => match us, hl with | [_, _], _ => rfl
  have FI25 := fun_mk (st := si_NoModule) lI25 cI25 kI25
  have bI25 := FI25.binds (ps := ["self", "path"]) fun _ _ _ _ _ _ us hl => match us, hl with | [_, _], _ => rfl
  have FI26 := fun_mk (st := si_NoPart) lI26 cI26 kI26
  have bI26 := FI26.binds (ps := ["self", "path"]) fun _ _ _ _ _ _ us hl => match us, hl with | [_, _], _ => rfl
  have FI27 := fun_mk (st := si_NoRule) lI27 cI27 kI27
  have bI27 := FI27.binds (ps := ["self", "index"]) fun _ _ _ _ _ _ us hl => match us, hl with | [_, _], _ => rfl
  have FI28 := fun_mk (st := si_NoUse) lI28 cI28 kI28
  have bI28 := FI28.binds (ps := ["self", "use"]) fun _ _ _ _ _ _ us hl => match us, hl with | [_, _], _ => rfl
  have T : ∀ base : Heap, (∃ o, base.get? sysModules = some o) → Tx K mg base (fun i => if i = 40 then f40 else if i = 41 then f41 else if i = 42 then f42 else if i = 43 then f43 else if i = 44 then f44 else if i = 46 then f46 else if i = 45 then f45 else if i = 47 then f47 else if i = 48 then f48 else if i = 49 then fa else if i = 1 then f1 else if i = 2 then f2 else if i = 3 then f3 else if i = 4 then f4 else if i = 5 then f5 else if i = 6 then f6 else if i = 7 then f7 else if i = 8 then f8 else if i = 9 then f9 else if i = 10 then f10 else if i = 11 then f11 else if i = 12 then f12 else if i = 13 then f13 else if i = 14 then f14 else if i = 15 then f15 else if i = 16 then f16 else if i = 17 then f17 else if i = 18 then f18 else if i = 19 then f19 else if i = 20 then f20 else if i = 21 then f21 else if i = 22 then f22 else if i = 23 then f23 else if i = 24 then f24 else if i = 25 then f25 else if i = 26 then f26 else if i = 27 then f27 else if i = 28 then f28 else 0) (fun i => if i = 40 then PySem.W.fnOf "_law_deck" "_law_deck" (defArgs s__law_deck) (defBody s__law_deck) (defScope s__law_deck) .none kV40 dc40 pm40 an40 cd40 ct40 else if i = 41 then PySem.W.fnOf "_law_next" "_law_next" (defArgs s__law_next) (defBody s__law_next) (defScope s__law_next) .none kV41 dc41 pm41 an41 cd41 ct41 else if i = 42 then PySem.W.fnOf "_law_name" "_law_name" (defArgs s__law_name) (defBody s__law_name) (defScope s__law_name) .none kV42 dc42 pm42 an42 cd42 ct42 else if i = 43 then PySem.W.fnOf "_law_odd" "_law_odd" (defArgs s__law_odd) (defBody s__law_odd) (defScope s__law_odd) .none kV43 dc43 pm43 an43 cd43 ct43 else if i = 44 then PySem.W.fnOf "_law_same" "_law_same" (defArgs s__law_same) (defBody s__law_same) (defScope s__law_same) .none kV44 dc44 pm44 an44 cd44 ct44 else if i = 46 then PySem.W.fnOf "_law_other_kinds" "_law_other_kinds" (defArgs s__law_other_kinds) (defBody s__law_other_kinds) (defScope s__law_other_kinds) .none kV46 dc46 pm46 an46 cd46 ct46 else if i = 45 then PySem.W.fnOf "_law_kinds" "_law_kinds" (defArgs s__law_kinds) (defBody s__law_kinds) (defScope s__law_kinds) .none kV45 dc45 pm45 an45 cd45 ct45 else if i = 47 then PySem.W.fnOf "_law_made" "_law_made" (defArgs s__law_made) (defBody s__law_made) (defScope s__law_made) .none kV47 dc47 pm47 an47 cd47 ct47 else if i = 48 then PySem.W.fnOf "_law_made_others" "_law_made_others" (defArgs s__law_made_others) (defBody s__law_made_others) (defScope s__law_made_others) .none kV48 dc48 pm48 an48 cd48 ct48 else if i = 49 then PySem.W.fnOf "law" "law" (defArgs s_law) (defBody s_law) (defScope s_law) .none kV49 dc49 pm49 an49 cd49 ct49 else PySem.W.fnOf "" "" (defArgs (topS 0)) [] (defScope (topS 0)) .none .none .none .none none .none .none) (fun i => if i = 3 then h3 else if i = 4 then h4 else if i = 5 then h5 else if i = 6 then h6 else if i = 7 then h7 else if i = 8 then h8 else if i = 9 then h9 else if i = 10 then h10 else if i = 11 then h11 else if i = 12 then h12 else if i = 13 then h13 else if i = 15 then h15 else if i = 16 then h16 else if i = 18 then h18 else if i = 19 then h19 else if i = 20 then h20 else if i = 21 then h21 else if i = 22 then h22 else if i = 23 then h23 else if i = 24 then h24 else if i = 25 then h25 else if i = 26 then h26 else if i = 27 then h27 else if i = 28 then h28 else 0) (fun i => if i = 3 then PySem.W.fnOf "__init__" "BadBook.__init__" (defArgs si_BadBook) (defBody si_BadBook) (defScope si_BadBook) .none kVI3 dcI3 pmI3 anI3 cdI3 ctI3 else if i = 4 then PySem.W.fnOf "__init__" "BadEdit.__init__" (defArgs si_BadEdit) (defBody si_BadEdit) (defScope si_BadEdit) .none kVI4 dcI4 pmI4 anI4 cdI4 ctI4 else if i = 5 then PySem.W.fnOf "__init__" "BadPath.__init__" (defArgs si_BadPath) (defBody si_BadPath) (defScope si_BadPath) .none kVI5 dcI5 pmI5 anI5 cdI5 ctI5 else if i = 6 then PySem.W.fnOf "__init__" "BadProgram.__init__" (defArgs si_BadProgram) (defBody si_BadProgram) (defScope si_BadProgram) .none kVI6 dcI6 pmI6 anI6 cdI6 ctI6 else if i = 7 then PySem.W.fnOf "__init__" "BadReason.__init__" (defArgs si_BadReason) (defBody si_BadReason) (defScope si_BadReason) .none kVI7 dcI7 pmI7 anI7 cdI7 ctI7 else if i = 8 then PySem.W.fnOf "__init__" "BadRule.__init__" (defArgs si_BadRule) (defBody si_BadRule) (defScope si_BadRule) .none kVI8 dcI8 pmI8 anI8 cdI8 ctI8 else if i = 9 then PySem.W.fnOf "__init__" "BadText.__init__" (defArgs si_BadText) (defBody si_BadText) (defScope si_BadText) .none kVI9 dcI9 pmI9 anI9 cdI9 ctI9 else if i = 10 then PySem.W.fnOf "__init__" "BadUse.__init__" (defArgs si_BadUse) (defBody si_BadUse) (defScope si_BadUse) .none kVI10 dcI10 pmI10 anI10 cdI10 ctI10 else if i = 11 then PySem.W.fnOf "__init__" "Breaks.__init__" (defArgs si_Breaks) (defBody si_Breaks) (defScope si_Breaks) .none kVI11 dcI11 pmI11 anI11 cdI11 ctI11 else if i = 12 then PySem.W.fnOf "__init__" "Circular.__init__" (defArgs si_Circular) (defBody si_Circular) (defScope si_Circular) .none kVI12 dcI12 pmI12 anI12 cdI12 ctI12 else if i = 13 then PySem.W.fnOf "__init__" "Clash.__init__" (defArgs si_Clash) (defBody si_Clash) (defScope si_Clash) .none kVI13 dcI13 pmI13 anI13 cdI13 ctI13 else if i = 15 then PySem.W.fnOf "__init__" "InUse.__init__" (defArgs si_InUse) (defBody si_InUse) (defScope si_InUse) .none kVI15 dcI15 pmI15 anI15 cdI15 ctI15 else if i = 16 then PySem.W.fnOf "__init__" "Itself.__init__" (defArgs si_Itself) (defBody si_Itself) (defScope si_Itself) .none kVI16 dcI16 pmI16 anI16 cdI16 ctI16 else if i = 18 then PySem.W.fnOf "__init__" "Overlap.__init__" (defArgs si_Overlap) (defBody si_Overlap) (defScope si_Overlap) .none kVI18 dcI18 pmI18 anI18 cdI18 ctI18 else if i = 19 then PySem.W.fnOf "__init__" "Rejected.__init__" (defArgs si_Rejected) (defBody si_Rejected) (defScope si_Rejected) .none kVI19 dcI19 pmI19 anI19 cdI19 ctI19 else if i = 20 then PySem.W.fnOf "__init__" "Ring.__init__" (defArgs si_Ring) (defBody si_Ring) (defScope si_Ring) .none kVI20 dcI20 pmI20 anI20 cdI20 ctI20 else if i = 21 then PySem.W.fnOf "__init__" "Taken.__init__" (defArgs si_Taken) (defBody si_Taken) (defScope si_Taken) .none kVI21 dcI21 pmI21 anI21 cdI21 ctI21 else if i = 22 then PySem.W.fnOf "__init__" "TooMany.__init__" (defArgs si_TooMany) (defBody si_TooMany) (defScope si_TooMany) .none kVI22 dcI22 pmI22 anI22 cdI22 ctI22 else if i = 23 then PySem.W.fnOf "__init__" "Unclear.__init__" (defArgs si_Unclear) (defBody si_Unclear) (defScope si_Unclear) .none kVI23 dcI23 pmI23 anI23 cdI23 ctI23 else if i = 24 then PySem.W.fnOf "__init__" "NoAllowance.__init__" (defArgs si_NoAllowance) (defBody si_NoAllowance) (defScope si_NoAllowance) .none kVI24 dcI24 pmI24 anI24 cdI24 ctI24 else if i = 25 then PySem.W.fnOf "__init__" "NoModule.__init__" (defArgs si_NoModule) (defBody si_NoModule) (defScope si_NoModule) .none kVI25 dcI25 pmI25 anI25 cdI25 ctI25 else if i = 26 then PySem.W.fnOf "__init__" "NoPart.__init__" (defArgs si_NoPart) (defBody si_NoPart) (defScope si_NoPart) .none kVI26 dcI26 pmI26 anI26 cdI26 ctI26 else if i = 27 then PySem.W.fnOf "__init__" "NoRule.__init__" (defArgs si_NoRule) (defBody si_NoRule) (defScope si_NoRule) .none kVI27 dcI27 pmI27 anI27 cdI27 ctI27 else if i = 28 then PySem.W.fnOf "__init__" "NoUse.__init__" (defArgs si_NoUse) (defBody si_NoUse) (defScope si_NoUse) .none kVI28 dcI28 pmI28 anI28 cdI28 ctI28 else PySem.W.fnOf "" "" (defArgs (topS 0)) [] (defScope (topS 0)) .none .none .none .none none .none .none) := fun base hsys => ⟨F40, PySem.W.mg_of X G a40, b40, F41, PySem.W.mg_of X G a41, b41, F42, PySem.W.mg_of X G a42, b42, F43, PySem.W.mg_of X G a43, b43, F44, PySem.W.mg_of X G a44, b44, F46, PySem.W.mg_of X G a46, b46, F45, PySem.W.mg_of X G a45, b45, F47, PySem.W.mg_of X G a47, b47, F48, PySem.W.mg_of X G a48, b48, F49, PySem.W.mg_of X G a49, b49, PySem.W.mg_of X G a1, PySem.W.mg_of X G a2, e2, PySem.W.mg_of X G a3, i3, t3, FI3, bI3, PySem.W.mg_of X G a4, i4, t4, FI4, bI4, PySem.W.mg_of X G a5, i5, t5, FI5, bI5, PySem.W.mg_of X G a6, i6, t6, FI6, bI6, PySem.W.mg_of X G a7, i7, t7, FI7, bI7, PySem.W.mg_of X G a8, i8, t8, FI8, bI8, PySem.W.mg_of X G a9, i9, t9, FI9, bI9, PySem.W.mg_of X G a10, i10, t10, FI10, bI10, PySem.W.mg_of X G a11, i11, t11, FI11, bI11, PySem.W.mg_of X G a12, i12, t12, FI12, bI12, PySem.W.mg_of X G a13, i13, t13, FI13, bI13, PySem.W.mg_of X G a14, e14, PySem.W.mg_of X G a15, i15, t15, FI15, bI15, PySem.W.mg_of X G a16, i16, t16, FI16, bI16, PySem.W.mg_of X G a17, e17, PySem.W.mg_of X G a18, i18, t18, FI18, bI18, PySem.W.mg_of X G a19, i19, t19, FI19, bI19, PySem.W.mg_of X G a20, i20, t20, FI20, bI20, PySem.W.mg_of X G a21, i21, t21, FI21, bI21, PySem.W.mg_of X G a22, i22, t22, FI22, bI22, PySem.W.mg_of X G a23, i23, t23, FI23, bI23, PySem.W.mg_of X G a24, i24, t24, FI24, bI24, PySem.W.mg_of X G a25, i25, t25, FI25, bI25, PySem.W.mg_of X G a26, i26, t26, FI26, bI26, PySem.W.mg_of X G a27, i27, t27, FI27, bI27, PySem.W.mg_of X G a28, i28, t28, FI28, bI28, hk_cast (hk_of hkb) (List.forall_mem_cons.mpr ⟨rfl, (List.forall_mem_cons.mpr ⟨rfl, (List.forall_mem_cons.mpr ⟨rfl, (List.forall_mem_cons.mpr ⟨rfl, (List.forall_mem_cons.mpr ⟨rfl, (List.forall_mem_cons.mpr ⟨rfl, (List.forall_mem_cons.mpr ⟨rfl, (List.forall_mem_cons.mpr ⟨rfl, (List.forall_mem_cons.mpr ⟨rfl, (List.forall_mem_cons.mpr ⟨rfl, (List.forall_mem_cons.mpr ⟨rfl, (List.forall_mem_cons.mpr ⟨rfl, (List.forall_mem_cons.mpr ⟨rfl, (List.forall_mem_cons.mpr ⟨rfl, (List.forall_mem_cons.mpr ⟨rfl, (List.forall_mem_cons.mpr ⟨rfl, (List.forall_mem_cons.mpr ⟨rfl, (List.forall_mem_cons.mpr ⟨rfl, (List.forall_mem_cons.mpr ⟨rfl, (List.forall_mem_cons.mpr ⟨rfl, (List.forall_mem_cons.mpr ⟨rfl, (List.forall_mem_cons.mpr ⟨rfl, (List.forall_mem_cons.mpr ⟨rfl, (List.forall_mem_cons.mpr ⟨rfl, (List.forall_mem_cons.mpr ⟨rfl, (List.forall_mem_cons.mpr ⟨rfl, (List.forall_mem_cons.mpr ⟨rfl, (List.forall_mem_cons.mpr ⟨rfl, fun _ z => absurd z List.not_mem_nil⟩)⟩)⟩)⟩)⟩)⟩)⟩)⟩)⟩)⟩)⟩)⟩)⟩)⟩)⟩)⟩)⟩)⟩)⟩)⟩)⟩)⟩)⟩)⟩)⟩)⟩)⟩)⟩), hsys, PySem.W.mg_none_of X G z_IndexError, PySem.W.mg_none_of X G z_KeyError, PySem.W.mg_none_of X G z_LookupError, PySem.W.mg_none_of X G z_ValueError, PySem.W.mg_none_of X G z_abs, PySem.W.mg_none_of X G z_all, PySem.W.mg_none_of X G z_bool, PySem.W.mg_none_of X G z_dict, PySem.W.mg_none_of X G z_int, PySem.W.mg_none_of X G z_isinstance, PySem.W.mg_none_of X G z_len, PySem.W.mg_none_of X G z_list, PySem.W.mg_none_of X G z_range, PySem.W.mg_none_of X G z_repr, PySem.W.mg_none_of X G z_str, PySem.W.mg_none_of X G z_tuple, PySem.W.mg_none_of X G z_zip, ⟨t_BATCH, PySem.W.mg_of X G c_BATCH⟩, ⟨t_MAX_CUTS, PySem.W.mg_of X G c_MAX_CUTS⟩, ⟨t_MAX_EDITS, PySem.W.mg_of X G c_MAX_EDITS⟩, ⟨t_MAX_LISTED, PySem.W.mg_of X G c_MAX_LISTED⟩, ⟨t_MAX_MODULES, PySem.W.mg_of X G c_MAX_MODULES⟩, ⟨t_MAX_MOVES, PySem.W.mg_of X G c_MAX_MOVES⟩, ⟨t_MAX_NAMES, PySem.W.mg_of X G c_MAX_NAMES⟩, ⟨t_MAX_RULES, PySem.W.mg_of X G c_MAX_RULES⟩, ⟨t_MAX_RULE_NAMES, PySem.W.mg_of X G c_MAX_RULE_NAMES⟩, ⟨t_MAX_USES, PySem.W.mg_of X G c_MAX_USES⟩⟩
  exact ⟨PySem.W.fnOf "law" "law" (defArgs s_law) (defBody s_law) (defScope s_law) .none kV49 dc49 pm49 an49 cd49 ct49, fun s v => .of_eq rfl, fun base _ _ hsys => ok_law (P := l.prog) (w := w) (base := base) (T base hsys)⟩
end K98
open PySem PySem.W PyProof.Rows
set_option maxRecDepth 100000 in
set_option maxHeartbeats 0 in
theorem PySem.Challenge.cw_mayrest_k98_errors_and_limits_holds : PySem.Challenge.rw_mayrest_k98_errors_and_limits.Holds := by
  w_on; o_law; k_head; (case hw => w_witness2)
  k_fill
  refine DL.walkG (l := PySem.Challenge.rw_mayrest_k98_errors_and_limits) (n := 63) (k := 8) (x := "_law_script") (sp := fun K => DL.lift K DL.Mem.deck 1 DL.spLaw) rfl (by decide) rfl ⟨rfl, by decide, by decide⟩ (by decide +kernel) (fun w h Y => PySem.W.kIn_of Y) ?F (fun K H a ns hl hO hS => DL.law_start hl hO hS)
  case F =>
    intro w mg fa h KX G hmg
    refine' K98.all_mk KX G hmg ?a40 ?l40 ?c40 ?k40 ?a41 ?l41 ?c41 ?k41 ?a42 ?l42 ?c42 ?k42 ?a43 ?l43 ?c43 ?k43 ?a44 ?l44 ?c44 ?k44 ?a46 ?l46 ?c46 ?k46 ?a45 ?l45 ?c45 ?k45 ?a47 ?l47 ?c47 ?k47 ?a48 ?l48 ?c48 ?k48 ?a49 ?l49 ?c49 ?k49 ?a1 ?a2 ?a3 ?i3 ?t3 ?lI3 ?cI3 ?kI3 ?a4 ?i4 ?t4 ?lI4 ?cI4 ?kI4 ?a5 ?i5 ?t5 ?lI5 ?cI5 ?kI5 ?a6 ?i6 ?t6 ?lI6 ?cI6 ?kI6 ?a7 ?i7 ?t7 ?lI7 ?cI7 ?kI7 ?a8 ?i8 ?t8 ?lI8 ?cI8 ?kI8 ?a9 ?i9 ?t9 ?lI9 ?cI9 ?kI9 ?a10 ?i10 ?t10 ?lI10 ?cI10 ?kI10 ?a11 ?i11 ?t11 ?lI11 ?cI11 ?kI11 ?a12 ?i12 ?t12 ?lI12 ?cI12 ?kI12 ?a13 ?i13 ?t13 ?lI13 ?cI13 ?kI13 ?a14 ?a15 ?i15 ?t15 ?lI15 ?cI15 ?kI15 ?a16 ?i16 ?t16 ?lI16 ?cI16 ?kI16 ?a17 ?a18 ?i18 ?t18 ?lI18 ?cI18 ?kI18 ?a19 ?i19 ?t19 ?lI19 ?cI19 ?kI19 ?a20 ?i20 ?t20 ?lI20 ?cI20 ?kI20 ?a21 ?i21 ?t21 ?lI21 ?cI21 ?kI21 ?a22 ?i22 ?t22 ?lI22 ?cI22 ?kI22 ?a23 ?i23 ?t23 ?lI23 ?cI23 ?kI23 ?a24 ?i24 ?t24 ?lI24 ?cI24 ?kI24 ?a25 ?i25 ?t25 ?lI25 ?cI25 ?kI25 ?a26 ?i26 ?t26 ?lI26 ?cI26 ?kI26 ?a27 ?i27 ?t27 ?lI27 ?cI27 ?kI27 ?a28 ?i28 ?t28 ?lI28 ?cI28 ?kI28 ?e2 ?e14 ?e17 ?hkb ?z_IndexError ?z_KeyError ?z_LookupError ?z_ValueError ?z_abs ?z_all ?z_bool ?z_dict ?z_int ?z_isinstance ?z_len ?z_list ?z_range ?z_repr ?z_str ?z_tuple ?z_zip ?c_BATCH ?c_MAX_CUTS ?c_MAX_EDITS ?c_MAX_LISTED ?c_MAX_MODULES ?c_MAX_MOVES ?c_MAX_NAMES ?c_MAX_RULES ?c_MAX_RULE_NAMES ?c_MAX_USES
    (case a40 => k_is); (case l40 => k_is); (case c40 => k_is); (case k40 => k_is); (case a41 => k_is); (case l41 => k_is); (case c41 => k_is); (case k41 => k_is); (case a42 => k_is); (case l42 => k_is); (case c42 => k_is); (case k42 => k_is); (case a43 => k_is); (case l43 => k_is); (case c43 => k_is); (case k43 => k_is); (case a44 => k_is); (case l44 => k_is); (case c44 => k_is); (case k44 => k_is); (case a46 => k_is); (case l46 => k_is); (case c46 => k_is); (case k46 => k_is); (case a45 => k_is); (case l45 => k_is); (case c45 => k_is); (case k45 => k_is); (case a47 => k_is); (case l47 => k_is); (case c47 => k_is); (case k47 => k_is); (case a48 => k_is); (case l48 => k_is); (case c48 => k_is); (case k48 => k_is); (case a49 => k_is); (case l49 => k_is); (case c49 => k_is); (case k49 => k_is); (case a1 => k_is); (case a2 => k_is); (case a3 => k_is); (case i3 => k_is); (case t3 => k_is); (case lI3 => k_is); (case cI3 => k_is); (case kI3 => k_is); (case a4 => k_is); (case i4 => k_is); (case t4 => k_is); (case lI4 => k_is); (case cI4 => k_is); (case kI4 => k_is); (case a5 => k_is); (case i5 => k_is); (case t5 => k_is); (case lI5 => k_is); (case cI5 => k_is); (case kI5 => k_is); (case a6 => k_is); (case i6 => k_is); (case t6 => k_is); (case lI6 => k_is); (case cI6 => k_is); (case kI6 => k_is); (case a7 => k_is); (case i7 => k_is); (case t7 => k_is); (case lI7 => k_is); (case cI7 => k_is); (case kI7 => k_is); (case a8 => k_is); (case i8 => k_is); (case t8 => k_is); (case lI8 => k_is); (case cI8 => k_is); (case kI8 => k_is); (case a9 => k_is); (case i9 => k_is); (case t9 => k_is); (case lI9 => k_is); (case cI9 => k_is); (case kI9 => k_is); (case a10 => k_is); (case i10 => k_is); (case t10 => k_is); (case lI10 => k_is); (case cI10 => k_is); (case kI10 => k_is); (case a11 => k_is); (case i11 => k_is); (case t11 => k_is); (case lI11 => k_is); (case cI11 => k_is); (case kI11 => k_is); (case a12 => k_is); (case i12 => k_is); (case t12 => k_is); (case lI12 => k_is); (case cI12 => k_is); (case kI12 => k_is); (case a13 => k_is); (case i13 => k_is); (case t13 => k_is); (case lI13 => k_is); (case cI13 => k_is); (case kI13 => k_is); (case a14 => k_is); (case a15 => k_is); (case i15 => k_is); (case t15 => k_is); (case lI15 => k_is); (case cI15 => k_is); (case kI15 => k_is); (case a16 => k_is); (case i16 => k_is); (case t16 => k_is); (case lI16 => k_is); (case cI16 => k_is); (case kI16 => k_is); (case a17 => k_is); (case a18 => k_is); (case i18 => k_is); (case t18 => k_is); (case lI18 => k_is); (case cI18 => k_is); (case kI18 => k_is); (case a19 => k_is); (case i19 => k_is); (case t19 => k_is); (case lI19 => k_is); (case cI19 => k_is); (case kI19 => k_is); (case a20 => k_is); (case i20 => k_is); (case t20 => k_is); (case lI20 => k_is); (case cI20 => k_is); (case kI20 => k_is); (case a21 => k_is); (case i21 => k_is); (case t21 => k_is); (case lI21 => k_is); (case cI21 => k_is); (case kI21 => k_is); (case a22 => k_is); (case i22 => k_is); (case t22 => k_is); (case lI22 => k_is); (case cI22 => k_is); (case kI22 => k_is); (case a23 => k_is); (case i23 => k_is); (case t23 => k_is); (case lI23 => k_is); (case cI23 => k_is); (case kI23 => k_is); (case a24 => k_is); (case i24 => k_is); (case t24 => k_is); (case lI24 => k_is); (case cI24 => k_is); (case kI24 => k_is); (case a25 => k_is); (case i25 => k_is); (case t25 => k_is); (case lI25 => k_is); (case cI25 => k_is); (case kI25 => k_is); (case a26 => k_is); (case i26 => k_is); (case t26 => k_is); (case lI26 => k_is); (case cI26 => k_is); (case kI26 => k_is); (case a27 => k_is); (case i27 => k_is); (case t27 => k_is); (case lI27 => k_is); (case cI27 => k_is); (case kI27 => k_is); (case a28 => k_is); (case i28 => k_is); (case t28 => k_is); (case lI28 => k_is); (case cI28 => k_is); (case kI28 => k_is); (case z_IndexError => k_is); (case z_KeyError => k_is); (case z_LookupError => k_is); (case z_ValueError => k_is); (case z_abs => k_is); (case z_all => k_is); (case z_bool => k_is); (case z_dict => k_is); (case z_int => k_is); (case z_isinstance => k_is); (case z_len => k_is); (case z_list => k_is); (case z_range => k_is); (case z_repr => k_is); (case z_str => k_is); (case z_tuple => k_is); (case z_zip => k_is); (case c_BATCH => k_is); (case c_MAX_CUTS => k_is); (case c_MAX_EDITS => k_is); (case c_MAX_LISTED => k_is); (case c_MAX_MODULES => k_is); (case c_MAX_MOVES => k_is); (case c_MAX_NAMES => k_is); (case c_MAX_RULES => k_is); (case c_MAX_RULE_NAMES => k_is); (case c_MAX_USES => k_is)
    (case e2 => kernel_rfl); (case e14 => kernel_rfl); (case e17 => kernel_rfl); (case hkb => kernel_rfl)

