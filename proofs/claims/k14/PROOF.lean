import PyProof.Rows.All
import Wide.All
import OpenK.AllK
import Wide.FinOn
import HandS.ForMost
import HandS.ForExc
import HandS.Flow
import HandS.Wide
import HandS.Zip
import HandS.IsInst
import HandS.FStr
import HandS.Defaults
import HandS.MakeKwOnly
import HandS.TryMany
import HandS.ExcInit
import HandS.ExcField
import HandS.Deep
import HandS.Small
import HandS.RaiseMore
import HandS.EndBits
import HandS.SortInts
import HandS.Strs
import HandS.Conv
import HandS.Style
import HandS.TupAny
import HandS.Walk
import HandS.Ends
import HandS.Dict
import HandS.StrMore
import HandS.Text
import PyProof.Rows.StrRev
import KE.KExcIs
import HandS.ExcIs
import HandS.TryOnly
import HandS.WordsExc
import HandS.CallSlots
import KE.GoesMore
import HandS.DictTup
import PyProof.DictMoreH
import HandS.Star
import HandS.Gcd
import HandS.More
import HandS.Iter
import HandS.HotCalls
import HandS.Records
import PySem.Challenge.RW_wanehold_k14_wanes_refused
set_option Elab.async false
set_option linter.all false
set_option maxRecDepth 100000
set_option maxHeartbeats 4000000
namespace Vf
open PySem PySem.Spec PyProof.Rows L2

/-! ## 1. defs whose Around is known to hold no repr guard -/
structure FnG (P : Program) (w : World) (K : PySem.W.Frag) (mg : Str → Option Value) (base : Heap) (CX : CXT) (k : Nat) (f : Addr) (fd : FuncData) (ps : List Str) (sp : Sp) : Prop where
  len : ∀ vs H Q E, sp vs H Q E → vs.length = ps.length
  run : ∀ (A : Around) (outer : List Env) (s : Shared) (H : Hp) (args : Args) (us : List Value) (vs : List V) (Q : VK) (E : XK), Room k A → A.guards = some [] → Env0 P w K mg base A outer s H → BindsTo s fd args (ps.zip us) → Vals vs us → sp vs H Q E →
    codeAny (model P w) A (.call (.ref f) args) (CR CX outer P w H s Q E) s

section
variable {P : Program} {w : World} {K : PySem.W.Frag} {mg : Str → Option Value} {base : Heap} {CX : CXT}
theorem FnG.of {k : Nat} {f : Addr} {fd : FuncData} {ps : List Str} {sp : Sp} (F : FnOk P w K mg base CX k f fd ps sp) : FnG P w K mg base CX k f fd ps sp :=
  ⟨F.len, fun A outer s H args us vs Q E hr _ => F.run A outer s H args us vs Q E hr⟩
theorem FnG.mono {j k : Nat} {f : Addr} {fd : FuncData} {ps : List Str} {sp : Sp} (F : FnG P w K mg base CX j f fd ps sp) (h : j ≤ k) : FnG P w K mg base CX k f fd ps sp :=
  ⟨F.len, fun A outer s H args us vs Q E hr => F.run A outer s H args us vs Q E (hr.mono h)⟩
theorem deeper_guards {A : Around} {env : Env} (h : A.guards = some []) : (A.deeper env).guards = some [] := by
  show A.guards = some []
  exact h

theorem fn_ofG {k : Nat} {f : Addr} {name qual : Str} {params : Arguments} {body : List Stmt} {scope : Scope} {dV kV doc pm cdv ct oc : Value} {an od : Option Addr}
    {osl : Array (Option Value)} {N ps : List Str} {sp : Sp} (lk : K.lookup f = some ⟨oc, od, .func (PySem.W.fnOf name qual params body scope dV kV doc pm an cdv ct), osl⟩) (hcd : PySem.W.codeIn K cdv qual = true) (S : FnScope N ps scope)
    (len : ∀ vs H Q E, sp vs H Q E → vs.length = ps.length)
    (hbody : ∀ (A : Around) (outer : List Env) (s : Shared) (H : Hp) (vs : List V) (Q : VK) (E : XK), Room k (A.deeper (envOfC qual scope s.heap.objs.size f cdv)) → (A.deeper (envOfC qual scope s.heap.objs.size f cdv)).guards = some [] → sp vs H Q E →
      ∃ t, PSs (cxOf CX P w K mg base N qual scope f cdv A outer s H E) body t ∧ t { nx := fun _ H' => Q .non H', rt := Q } (start N vs) H) :
    FnG P w K mg base CX (k + 1) f (PySem.W.fnOf name qual params body scope dV kV doc pm an cdv ct) ps sp := by
  refine ⟨len, fun A outer s H args us vs Q E hr hgd e0 hb r hsp => ?_⟩
  have hl := len _ _ _ _ hsp
  have KX : K.In s.heap := e0.mod.kin.keeps fun b o e => (e0.bs b o e).1
  have lim : s.heap.NoLimit := e0.mod.nolimit.keeps fun b o e => (e0.bs b o e).1
  have hkind : ∀ y ∈ ps.zip us, scope.names.lookup y.1 = some .local ∨ (scope.names.lookup y.1 = some .cell ∧ ((cellsFrom (s.heap.objs.size + 1) scope.names []).lookup y.1).isSome = true) := fun ⟨n, v⟩ hy => by
    rcases S.par n (List.of_mem_zip hy).1 with q | q
    · exact .inl q
    · exact .inr ⟨q, PySem.W.cellsFrom_some _ _ _ (.inl q)⟩
  refine codeAny_call_function hr.depth (KX _ _ lk) rfl S.co S.gen rfl (PySem.W.codeRec_of KX hcd) (hb _ _ _ _ ?_)
  refine wpAny_newFunctionEnv_cells S.kind hkind fun env he s1 x => ?_
  subst he
  refine ⟨lim.keeps x.toInCall.keep, codeAny_func ?_⟩
  obtain ⟨t, ht, hq⟩ := hbody A outer s H vs Q E (hr.deeper _) (deeper_guards hgd) hsp
  have I : Inv (cxOf CX P w K mg base N qual scope f cdv A outer s H E) [] (start N vs) H s1 := inv_start S hr.hd e0 hl r x
  refine wpAny_mono (ht.run [] s1 (start N vs) H _ I hq) (fun fl s' hs => ?_) fun e s' hs => hs
  have fin : ∀ {σ' : L2.St} {H' : Hp} {v : V} {u : Value}, Inv (cxOf CX P w K mg base N qual scope f cdv A outer s H E) [] σ' H' s' → RelV v u → Q v H' → CE outer P w H s Q u s' :=
    fun {σ' H' v u} J rv q => ⟨v, H', J.os, J.bare, J.base, J.hok, rv, q⟩
  cases fl with
  | ret u =>
    obtain ⟨v, σ', H', J, rv, q⟩ := hs
    exact fin J rv q
  | next =>
    obtain ⟨σ', H', J, q⟩ := hs
    exact fin (v := V.non) (u := Value.none) J rfl q
  | brk =>
    obtain ⟨_, _, _, q⟩ := hs
    exact False.elim q
  | cont =>
    obtain ⟨_, _, _, q⟩ := hs
    exact False.elim q
end

section
variable {X : Cx} {CX : CXT} {k : Nat} {f C : Addr} {fd : FuncData} {ps : List Str} {sp : Sp} {dvs : List V} {ds : List Value} {E : XK} {x m : Str} {p pos apos : Pos} {e o : Expr} {es : List Expr} {ta : TE} {t : TA}
theorem run_fnG {pins : List (Addr × Obj)} {σ : L2.St} {H : Hp} {s : Shared} {Q : VK} {us : List Value} {vs : List V} (F : FnG X.prog X.w X.K X.mg X.base CX k f fd ps sp) (hr : Room k X.A) (hgd : X.A.guards = some []) (hb : Binds X.K fd ps ds) (hd : Vals dvs ds) (hx : Passes CX X E)
    (I : Inv X pins σ H s) (r : Vals vs us) (h : sp (vs ++ dvs) H Q E) : wpAny (model X.prog X.w) X.A (call (.ref f) us) (EP X pins σ Q) X.xe s := by
  have r2 : Vals (vs ++ dvs) (us ++ ds) := r.append hd
  have hl : (us ++ ds).length = ps.length := by rw [← r2.length]; exact F.len _ _ _ _ h
  refine wpAny_call (codeAny_mono (F.run X.A X.stack s H ⟨us, []⟩ (us ++ ds) (vs ++ dvs) Q E hr hgd I.env0 (hb s us I.kIn hl) r2 h) fun r s' hq => ?_)
  cases r with
  | error e => exact hx pins σ H s e s' I hq
  | ok fl =>
    cases fl with
    | ret u => exact I.after hq
    | next => exact False.elim hq
    | brk => exact False.elim hq
    | cont => exact False.elim hq
theorem pe_callGd (F : FnG X.prog X.w X.K X.mg X.base CX k f fd ps sp) (hr : Room k X.A) (hgd : X.A.guards = some []) (hg : Gl X x) (hm : X.mg x = some (.ref f)) (hk : PySem.W.keepIn X.K (.ref f) = true) (hb : Binds X.K fd ps ds) (hd : Vals dvs ds) (hx : Passes CX X E)
    (ha : PA X (e :: es) t) (hdb : (x == ("__debug__" : Str)) = false := by decide) (he : starEach (e :: es) X.env = (false, eval e X.env) :: starEach es X.env := by rfl) (hpl : (backTo pos (starEach es X.env)).any (·.1) = false := by rfl) :
    PE X (.Call (.Name x p) (e :: es) [] pos) (tCall sp dvs E t) := by
  refine ⟨fun pins s σ H Q I h => ?_⟩
  refine wpAny_Call_Name_kw (ld_glob I hg hm ?_ hdb)
  refine PySem.W.callWith_K (h₀ := X.base) I.ok.mod.kin hk (thn (ha.run pos pins s σ H _ I h) fun us s1 ⟨vs, H1, I1, r, q⟩ => ⟨I1.kIn, ?_⟩) he hpl
  exact run_fnG F hr hgd hb hd hx I1 r q
theorem pe_callGd0 (F : FnG X.prog X.w X.K X.mg X.base CX k f fd ps sp) (hr : Room k X.A) (hgd : X.A.guards = some []) (hg : Gl X x) (hm : X.mg x = some (.ref f)) (hk : PySem.W.keepIn X.K (.ref f) = true) (hb : Binds X.K fd ps ds) (hd : Vals dvs ds) (hx : Passes CX X E)
    (hdb : (x == ("__debug__" : Str)) = false := by decide) : PE X (.Call (.Name x p) [] [] pos) (tCall sp dvs E tNil) := by
  refine ⟨fun pins s σ H Q I h => ?_⟩
  refine wpAny_Call_Name_kw (ld_glob I hg hm ?_ hdb)
  exact PySem.W.callWith_K0 I.kIn hk (run_fnG (us := []) F hr hgd hb hd hx I .nil h)
end

section
variable {P : Program} {w : World} {K : PySem.W.Frag} {mg : Str → Option Value} {base : Heap}
theorem okG {x qual : Str} {st : Stmt} {f : Addr} {fd : FuncData} {N ps : List Str} {k : Nat} {sp : Sp} (F : Fun K x qual st f fd) (S : FnScope N ps (defScope st)) (len : ∀ vs H Q E, sp vs H Q E → vs.length = ps.length)
    (hbody : ∀ (cdv : Value) (A : Around) (outer : List Env) (s : Shared) (H : Hp) (vs : List V) (Q : VK) (E : XK), Room k (A.deeper (envOfC qual (defScope st) s.heap.objs.size f cdv)) → (A.deeper (envOfC qual (defScope st) s.heap.objs.size f cdv)).guards = some [] → sp vs H Q E →
      ∃ t, PSs (cxOf CX0 P w K mg base N qual (defScope st) f cdv A outer s H E).nox (defBody st) t ∧ t { nx := fun _ H' => Q .non H', rt := Q } (start N vs) H) : FnG P w K mg base CX0 (k + 1) f fd ps sp := by
  obtain ⟨oc, od, kV, doc, pm, an, cdv, ct, osl, rfl, lk, hcd⟩ := F.ex
  refine fn_ofG lk hcd S len fun A outer s H vs Q E hr hgd hsp => ?_
  obtain ⟨t, h, q⟩ := hbody cdv A outer s H vs Q E hr hgd hsp
  exact ⟨t, h.nox, q⟩
end

/-! ## 2. repr of data -/
section
variable {X : Cx}
theorem lift_kept {pins : List (Addr × Obj)} {σ : L2.St} {H : Hp} {s : Shared} {Q : VK} {x : Str} (I : Inv X pins σ H s) (q : Q (.str x) H) {h' : Heap} {u tk : Tok} (k : ∀ b o, s.heap.get? b = some o → h'.get? b = some o) :
    EP X pins σ Q (.str x u) { s with heap := h', toks := tk } := ⟨.str x, H, I.kept (t' := tk) k, ⟨u, rfl⟩, q⟩
def rRepr (K : PySem.W.Frag) : List V → Hp → VK → Prop := fun xs H Q => ∃ x d, xs = [x] ∧ Dp K H x d ∧ d.showable = true ∧ d.depth ≤ 60 ∧ d.shown.length ≤ sizeLine ∧ Q (.str d.shown) H
theorem Dp.noDict {K : PySem.W.Frag} {H : Hp} : ∀ (d : PyData) (v : V), Dp K H v d → d.hasDict = false := by
  intro d v h
  refine Dp.rec (motive_1 := fun v d _ => d.hasDict = false) (motive_2 := fun vs ds _ => PyData.hasDictAll ds = false) ?_ ?_ ?_ ?_ ?_ ?_ ?_ ?_ h
  · simp only [PyData.hasDict]
  · intro b; simp only [PyData.hasDict]
  · intro i; simp only [PyData.hasDict]
  · intro x; simp only [PyData.hasDict]
  · intro a xs ds _ _ ih; simp only [PyData.hasDict]; exact ih
  · intro a xs ds _ _ ih; simp only [PyData.hasDict]; exact ih
  · simp only [PyData.hasDictAll]
  · intro v vs d ds _ _ h1 h2; simp only [PyData.hasDictAll, h1, h2]; rfl
theorem call_reprD (hgd : X.A.guards = some []) (hu : X.A.units + 64 < cLine) : CallR X (.builtin "repr") (rRepr X.K) := by
  intro pins s σ H xs us Q I r h
  obtain ⟨x, d, rfl, hd, hs, hdp, hsz, q⟩ := h
  obtain ⟨u, rfl, ru⟩ := vals1 r
  have hnd := Dp.noDict d x hd
  obtain ⟨as, rd⟩ := Dp.reads I d x u hd ru
  cases hd with
  | non =>
    cases ru
    exact PySem.P.repr_of_none (lift_kept I (by simpa only [PyData.shown] using q) fun _ _ e => e)
  | bl b =>
    cases ru
    exact PySem.P.repr_of_bool (lift_kept I (by simpa only [PyData.shown] using q) fun _ _ e => e)
  | int i =>
    obtain ⟨t, rfl⟩ := ru
    exact PySem.P.repr_of_int (by simpa only [PyData.showable, decide_eq_true_eq] using hs) (lift_kept I (by simpa only [PyData.shown] using q) fun _ _ e => e)
  | str y =>
    obtain ⟨t, rfl⟩ := ru
    exact PySem.P.repr_of_str (lift_kept I (by simpa only [PyData.shown] using q) fun _ _ e => e) (by simpa only [PyData.shown] using hsz)
  | lst h1 h2 =>
    cases ru
    exact repr_of_reads' rd hs (fun z => by rw [hnd] at z; cases z) hgd (by omega) (fun _ _ e => e) (fun h' u tk k => lift_kept I q k) hsz
  | tup h1 h2 =>
    cases ru
    exact repr_of_reads' rd hs (fun z => by rw [hnd] at z; cases z) hgd (by omega) (fun _ _ e => e) (fun h' u tk k => lift_kept I q k) hsz
end
end Vf
namespace Vf
open PySem PySem.Spec PyProof.Rows L2

/-! ## 3. data that does not change, and what a def knows -/
inductive D where
  | non | bl (b : Bool) | int (i : Int) | str (x : Str) | lst (ds : List D) | tup (ds : List D) | ins (C : Addr) (fs : List (Str × D)) | dic (kvs : List (Key × V))

abbrev AS := Addr → Prop
def LzL (K : PySem.W.Frag) (S : AS) (H : Hp) (a : Addr) (xs : List V) : Prop := ¬ S a ∧ H a = some (.lst xs)
def LzT (K : PySem.W.Frag) (S : AS) (H : Hp) (a : Addr) (xs : List V) : Prop :=
  (¬ S a ∧ Rd H a (.tup xs)) ∨
    ∃ (o : Obj) (its : Array Value) (n : Nat), K.lookup a = some o ∧ o.cls = .type "tuple" ∧ o.data = .seq its n ∧ its.size ≤ sizeLine ∧ Vals xs its.toList
section
variable {K : PySem.W.Frag} {S S' : AS} {H H' : Hp} {a : Addr} {xs : List V}
theorem LzL.sq (h : LzL K S H a xs) : SqL K H a xs := SqL.of h.2
theorem LzT.sq (h : LzT K S H a xs) : SqT K H a xs := h.elim (fun h => .inl h.2) .inr
def Kp (M : AS) (H H' : Hp) : Prop := ∀ b o, ¬ M b → H b = some o → H' b = some o
theorem Rd.kp {M : AS} {u : HO} (k : Kp M H H') (n : ¬ M a) (h : Rd H a u) : Rd H' a u := by
  rcases h with h | ⟨o, h⟩
  · exact .inl (k _ _ n h)
  · exact .inr ⟨o, k _ _ n h⟩
theorem LzL.keep {M : AS} (k : Kp M H H') (ms : ∀ b, M b → S b) (h : LzL K S H a xs) : LzL K S H' a xs := ⟨h.1, k _ _ (fun z => h.1 (ms _ z)) h.2⟩
theorem LzT.keep {M : AS} (k : Kp M H H') (ms : ∀ b, M b → S b) (h : LzT K S H a xs) : LzT K S H' a xs :=
  h.elim (fun h => .inl ⟨h.1, Rd.kp k (fun z => h.1 (ms _ z)) h.2⟩) .inr
theorem LzL.weak (ms : ∀ b, S' b → S b) (h : LzL K S H a xs) : LzL K S' H a xs := ⟨fun z => h.1 (ms _ z), h.2⟩
theorem LzT.weak (ms : ∀ b, S' b → S b) (h : LzT K S H a xs) : LzT K S' H a xs := h.elim (fun h => .inl ⟨fun z => h.1 (ms _ z), h.2⟩) .inr
/-- a fresh place is added to what may change -/
theorem LzL.fresh {l : Addr} (n : H l = none) (h : LzL K S H a xs) : LzL K (fun b => S b ∨ b = l) H a xs := by
  refine ⟨fun z => z.elim h.1 fun e => ?_, h.2⟩
  have q := h.2
  rw [e, n] at q
  cases q
theorem LzT.fresh {l : Addr} (n : H l = none) (h : LzT K S H a xs) : LzT K (fun b => S b ∨ b = l) H a xs := h.elim (fun h => .inl ⟨fun z => z.elim h.1 fun e => by
  subst e
  rcases h.2 with q | ⟨o, q⟩ <;> (rw [n] at q; cases q), h.2⟩) .inr
end

mutual
def Dz (K : PySem.W.Frag) (S : AS) (H : Hp) : D → V → Prop
  | .non, v => v = .non
  | .bl b, v => v = .bl b
  | .int i, v => v = .int i
  | .str x, v => v = .str x
  | .lst ds, v => ∃ a xs, v = .ref a ∧ LzL K S H a xs ∧ DzL K S H ds xs
  | .tup ds, v => ∃ a xs, v = .ref a ∧ LzT K S H a xs ∧ DzL K S H ds xs
  | .ins C fs, v => ∃ a dx gs, v = .ref a ∧ ¬ S a ∧ H a = some (.ins C dx gs) ∧ DzF K S H fs gs
  | .dic kvs, v => ∃ a, v = .ref a ∧ ¬ S a ∧ H a = some (.dK kvs)
def DzL (K : PySem.W.Frag) (S : AS) (H : Hp) : List D → List V → Prop
  | [], xs => xs = []
  | d :: ds, xs => ∃ x r, xs = x :: r ∧ Dz K S H d x ∧ DzL K S H ds r
def DzF (K : PySem.W.Frag) (S : AS) (H : Hp) : List (Str × D) → List (Str × V) → Prop
  | [], xs => xs = []
  | (n, d) :: ds, xs => ∃ x r, xs = (n, x) :: r ∧ Dz K S H d x ∧ DzF K S H ds r
end
section
variable {K : PySem.W.Frag} {S S' : AS} {H H' : Hp}
mutual
theorem Dz.map (fl : ∀ a xs, LzL K S H a xs → LzL K S' H' a xs) (ft : ∀ a xs, LzT K S H a xs → LzT K S' H' a xs) (fi : ∀ a o, ¬ S a → H a = some o → ¬ S' a ∧ H' a = some o) : ∀ (d : D) (v : V), Dz K S H d v → Dz K S' H' d v
  | .non, _, h => h
  | .bl _, _, h => h
  | .int _, _, h => h
  | .str _, _, h => h
  | .lst ds, _, h => by
    obtain ⟨a, xs, e, h1, h2⟩ := h
    exact ⟨a, xs, e, fl _ _ h1, DzL.map fl ft fi ds xs h2⟩
  | .tup ds, _, h => by
    obtain ⟨a, xs, e, h1, h2⟩ := h
    exact ⟨a, xs, e, ft _ _ h1, DzL.map fl ft fi ds xs h2⟩
  | .ins C fs, _, h => by
    obtain ⟨a, dx, gs, e, h1, h2, h3⟩ := h
    obtain ⟨q1, q2⟩ := fi a _ h1 h2
    exact ⟨a, dx, gs, e, q1, q2, DzF.map fl ft fi fs gs h3⟩
  | .dic kvs, _, h => by
    obtain ⟨a, e, h1, h2⟩ := h
    obtain ⟨q1, q2⟩ := fi a _ h1 h2
    exact ⟨a, e, q1, q2⟩
theorem DzL.map (fl : ∀ a xs, LzL K S H a xs → LzL K S' H' a xs) (ft : ∀ a xs, LzT K S H a xs → LzT K S' H' a xs) (fi : ∀ a o, ¬ S a → H a = some o → ¬ S' a ∧ H' a = some o) : ∀ (ds : List D) (xs : List V), DzL K S H ds xs → DzL K S' H' ds xs
  | [], _, h => h
  | d :: ds, _, h => by
    obtain ⟨x, r, e, h1, h2⟩ := h
    exact ⟨x, r, e, Dz.map fl ft fi d x h1, DzL.map fl ft fi ds r h2⟩
theorem DzF.map (fl : ∀ a xs, LzL K S H a xs → LzL K S' H' a xs) (ft : ∀ a xs, LzT K S H a xs → LzT K S' H' a xs) (fi : ∀ a o, ¬ S a → H a = some o → ¬ S' a ∧ H' a = some o) : ∀ (ds : List (Str × D)) (xs : List (Str × V)), DzF K S H ds xs → DzF K S' H' ds xs
  | [], _, h => h
  | (n, d) :: ds, _, h => by
    obtain ⟨x, r, e, h1, h2⟩ := h
    exact ⟨x, r, e, Dz.map fl ft fi d x h1, DzF.map fl ft fi ds r h2⟩
end
theorem Dz.keep {M : AS} (k : Kp M H H') (ms : ∀ b, M b → S b) {d : D} {v : V} (h : Dz K S H d v) : Dz K S H' d v :=
  Dz.map (fun _ _ => LzL.keep k ms) (fun _ _ => LzT.keep k ms) (fun a o n e => ⟨n, k _ _ (fun z => n (ms _ z)) e⟩) d v h
theorem DzL.keep {M : AS} (k : Kp M H H') (ms : ∀ b, M b → S b) {d : List D} {v : List V} (h : DzL K S H d v) : DzL K S H' d v :=
  DzL.map (fun _ _ => LzL.keep k ms) (fun _ _ => LzT.keep k ms) (fun a o n e => ⟨n, k _ _ (fun z => n (ms _ z)) e⟩) d v h
theorem Dz.weak (ms : ∀ b, S' b → S b) {d : D} {v : V} (h : Dz K S H d v) : Dz K S' H d v :=
  Dz.map (fun _ _ => LzL.weak ms) (fun _ _ => LzT.weak ms) (fun a o n e => ⟨fun z => n (ms _ z), e⟩) d v h
theorem DzL.weak (ms : ∀ b, S' b → S b) {d : List D} {v : List V} (h : DzL K S H d v) : DzL K S' H d v :=
  DzL.map (fun _ _ => LzL.weak ms) (fun _ _ => LzT.weak ms) (fun a o n e => ⟨fun z => n (ms _ z), e⟩) d v h
theorem Dz.fresh {l : Addr} (nl : H l = none) {d : D} {v : V} (h : Dz K S H d v) : Dz K (fun b => S b ∨ b = l) H d v :=
  Dz.map (fun _ _ => LzL.fresh nl) (fun _ _ => LzT.fresh nl) (fun a o n e => ⟨fun z => z.elim n fun q => (by rw [q, nl] at e; cases e), e⟩) d v h
theorem DzL.fresh {l : Addr} (nl : H l = none) {d : List D} {v : List V} (h : DzL K S H d v) : DzL K (fun b => S b ∨ b = l) H d v :=
  DzL.map (fun _ _ => LzL.fresh nl) (fun _ _ => LzT.fresh nl) (fun a o n e => ⟨fun z => z.elim n fun q => (by rw [q, nl] at e; cases e), e⟩) d v h
theorem DzL.len : ∀ {ds : List D} {xs : List V}, DzL K S H ds xs → xs.length = ds.length
  | [], _, h => by cases h; rfl
  | d :: ds, _, h => by
    obtain ⟨x, r, e, h1, h2⟩ := h
    subst e
    simp [DzL.len h2]
theorem DzL.get : ∀ {ds : List D} {xs : List V} {i : Nat} {d : D}, DzL K S H ds xs → ds[i]? = some d → ∃ x, xs[i]? = some x ∧ Dz K S H d x
  | [], _, i, d, h, e => by simp at e
  | d0 :: ds, _, 0, d, h, e => by
    obtain ⟨x, r, e1, h1, h2⟩ := h
    subst e1
    simp at e
    subst e
    exact ⟨x, rfl, h1⟩
  | d0 :: ds, _, i + 1, d, h, e => by
    obtain ⟨x, r, e1, h1, h2⟩ := h
    subst e1
    obtain ⟨y, q1, q2⟩ := DzL.get (i := i) h2 (by simpa using e)
    exact ⟨y, by simpa using q1, q2⟩
theorem DzL.app : ∀ {ds es : List D} {xs ys : List V}, DzL K S H ds xs → DzL K S H es ys → DzL K S H (ds ++ es) (xs ++ ys)
  | [], es, _, ys, h, h' => by cases h; exact h'
  | d :: ds, es, _, ys, h, h' => by
    obtain ⟨x, r, e, h1, h2⟩ := h
    subst e
    exact ⟨x, r ++ ys, rfl, h1, DzL.app h2 h'⟩
theorem DzL.drop : ∀ (n : Nat) {ds : List D} {xs : List V}, DzL K S H ds xs → DzL K S H (ds.drop n) (xs.drop n)
  | 0, _, _, h => h
  | n + 1, [], _, h => by cases h; exact rfl
  | n + 1, d :: ds, _, h => by
    obtain ⟨x, r, e, h1, h2⟩ := h
    subst e
    exact DzL.drop n h2
theorem DzL.take : ∀ (n : Nat) {ds : List D} {xs : List V}, DzL K S H ds xs → DzL K S H (ds.take n) (xs.take n)
  | 0, ds, xs, h => by simp; exact rfl
  | n + 1, [], _, h => by cases h; exact rfl
  | n + 1, d :: ds, _, h => by
    obtain ⟨x, r, e, h1, h2⟩ := h
    subst e
    exact ⟨x, r.take n, rfl, h1, DzL.take n h2⟩
theorem DzL.set : ∀ {ds : List D} {xs : List V} {i : Nat} {d : D} {x : V}, DzL K S H ds xs → Dz K S H d x → DzL K S H (ds.set i d) (xs.set i x)
  | [], _, i, d, x, h, z => by cases h; exact rfl
  | d0 :: ds, _, 0, d, x, h, z => by
    obtain ⟨x', r, e, h1, h2⟩ := h
    subst e
    exact ⟨x, r, rfl, z, h2⟩
  | d0 :: ds, _, i + 1, d, x, h, z => by
    obtain ⟨x', r, e, h1, h2⟩ := h
    subst e
    exact ⟨x', r.set i x, rfl, h1, DzL.set h2 z⟩
theorem DzL.rev : ∀ {ds : List D} {xs : List V}, DzL K S H ds xs → DzL K S H ds.reverse xs.reverse
  | [], _, h => by cases h; exact rfl
  | d :: ds, _, h => by
    obtain ⟨x, r, e, h1, h2⟩ := h
    subst e
    rw [List.reverse_cons, List.reverse_cons]
    exact DzL.app (DzL.rev h2) ⟨x, [], rfl, h1, rfl⟩
theorem DzL.ints (ns : List Int) : ∀ {xs : List V}, DzL K S H (ns.map D.int) xs → xs = ns.map V.int := by
  induction ns with
  | nil => intro xs h; cases h; rfl
  | cons n ns ih =>
    intro xs h
    obtain ⟨x, r, e, h1, h2⟩ := h
    subst e
    cases h1
    rw [ih h2]; rfl
theorem DzL.of_ints : ∀ (ns : List Int), DzL K S H (ns.map D.int) (ns.map V.int)
  | [] => rfl
  | n :: ns => ⟨.int n, ns.map V.int, rfl, rfl, DzL.of_ints ns⟩
theorem DzL.strs (ns : List Str) : ∀ {xs : List V}, DzL K S H (ns.map D.str) xs → xs = ns.map V.str := by
  induction ns with
  | nil => intro xs h; cases h; rfl
  | cons n ns ih =>
    intro xs h
    obtain ⟨x, r, e, h1, h2⟩ := h
    subst e
    cases h1
    rw [ih h2]; rfl
theorem DzL.bls (ns : List Bool) : ∀ {xs : List V}, DzL K S H (ns.map D.bl) xs → xs = ns.map V.bl := by
  induction ns with
  | nil => intro xs h; cases h; rfl
  | cons n ns ih =>
    intro xs h
    obtain ⟨x, r, e, h1, h2⟩ := h
    subst e
    cases h1
    rw [ih h2]; rfl
theorem DzF.get : ∀ {fs : List (Str × D)} {gs : List (Str × V)} {n : Str} {d : D}, DzF K S H fs gs → fs.lookup n = some d → ∃ x, gs.lookup n = some x ∧ Dz K S H d x
  | [], _, n, d, h, e => by simp [List.lookup] at e
  | (m, d0) :: fs, _, n, d, h, e => by
    obtain ⟨x, r, e1, h1, h2⟩ := h
    subst e1
    by_cases q : (n == m) = true
    · simp only [List.lookup, q] at e ⊢
      cases e
      exact ⟨x, rfl, h1⟩
    · have q' : (n == m) = false := by simpa using q
      simp only [List.lookup, q'] at e ⊢
      exact DzF.get h2 e
end

/-! what data is as Python data -/
def keyPy : Key → PyData
  | .inl i => .int i
  | .inr x => .str x
def vPy : V → PyData
  | .int i => .int i
  | .str x => .str x
  | .bl b => .bool b
  | _ => .none
mutual
def D.py : D → PyData
  | .non => .none
  | .bl b => .bool b
  | .int i => .int i
  | .str x => .str x
  | .lst ds => .list (D.pys ds)
  | .tup ds => .tuple (D.pys ds)
  | .ins _ _ => .none
  | .dic kvs => .dict (kvs.map fun p => (keyPy p.1, vPy p.2))
def D.pys : List D → List PyData
  | [] => []
  | d :: ds => D.py d :: D.pys ds
end
mutual
/-- no instance in it -/
def D.flat : D → Bool
  | .non | .bl _ | .int _ | .str _ => true
  | .lst ds | .tup ds => D.flats ds
  | .ins _ _ => false
  | .dic _ => false
def D.flats : List D → Bool
  | [] => true
  | d :: ds => D.flat d && D.flats ds
end
section
variable {K : PySem.W.Frag} {S : AS} {H : Hp}
mutual
theorem Dz.dp : ∀ (d : D) (v : V), d.flat = true → Dz K S H d v → Dp K H v d.py
  | .non, _, _, h => by cases h; exact Dp.non
  | .bl b, _, _, h => by cases h; exact Dp.bl b
  | .int i, _, _, h => by cases h; exact Dp.int i
  | .str x, _, _, h => by cases h; exact Dp.str x
  | .lst ds, _, f, h => by
    obtain ⟨a, xs, e, h1, h2⟩ := h
    subst e
    simp only [D.py]
    exact Dp.lst h1.sq (DzL.dp ds xs (by simpa only [D.flat] using f) h2)
  | .tup ds, _, f, h => by
    obtain ⟨a, xs, e, h1, h2⟩ := h
    subst e
    simp only [D.py]
    exact Dp.tup h1.sq (DzL.dp ds xs (by simpa only [D.flat] using f) h2)
  | .ins _ _, _, f, _ => by simp [D.flat] at f
  | .dic _, _, f, _ => by simp [D.flat] at f
theorem DzL.dp : ∀ (ds : List D) (xs : List V), D.flats ds = true → DzL K S H ds xs → DpAll K H xs (D.pys ds)
  | [], _, _, h => by cases h; simp only [D.pys]; exact DpAll.nil
  | d :: ds, _, f, h => by
    obtain ⟨x, r, e, h1, h2⟩ := h
    subst e
    simp only [D.flats, Bool.and_eq_true] at f
    simp only [D.pys]
    exact DpAll.cons (Dz.dp d x f.1 h1) (DzL.dp ds r f.2 h2)
end
end
end Vf
namespace Vf
open PySem PySem.Spec PyProof.Rows L2

/-! ## 4. the law's bag of draws, and the whole state of what a def knows -/
structure Bag (K : PySem.W.Frag) (S : AS) (H : Hp) (a : Addr) : Prop where
  ex : ∃ (r h i : Int) (c : Addr) (ns : List Int), H a = some (.lst [.int r, .int h, .int i, .ref c]) ∧ Dz K S H (.lst (ns.map D.int)) (.ref c) ∧ (∀ n ∈ ns, 0 ≤ n) ∧ 0 ≤ r ∧ 0 ≤ h ∧ h < 2147483647 ∧ 0 ≤ i

def Okk (S : AS) (H : Hp) : Prop := ∀ b, S b → H b ≠ none
theorem Okk.same {S : AS} {H H' : Hp} (e : Same H H') (h : Okk S H) : Okk S H' := fun b s => by
  have q := h b s
  cases z : H b with
  | none => exact absurd z q
  | some o => rw [e b o z]; exact fun w => by cases w
theorem Same.kp {H H' : Hp} (e : Same H H') {M : AS} : Kp M H H' := fun b o _ h => e b o h
theorem Same.upd {H : Hp} {p : Addr} {o : HO} (n : H p = none) : Same H (upd H p o) := fun b u h => by
  rw [upd_ne (ne_of_none h n)]
  exact h
theorem Dz.same {K : PySem.W.Frag} {S : AS} {H H' : Hp} (e : Same H H') {d : D} {v : V} (h : Dz K S H d v) : Dz K S H' d v :=
  Dz.keep (M := fun _ => False) (Same.kp e) (fun _ z => z.elim) h
theorem DzL.same {K : PySem.W.Frag} {S : AS} {H H' : Hp} (e : Same H H') {d : List D} {v : List V} (h : DzL K S H d v) : DzL K S H' d v :=
  DzL.keep (M := fun _ => False) (Same.kp e) (fun _ z => z.elim) h
theorem Bag.same {K : PySem.W.Frag} {S : AS} {H H' : Hp} {a : Addr} (e : Same H H') (h : Bag K S H a) : Bag K S H' a := by
  obtain ⟨r, x, i, c, ns, h1, h2, h3⟩ := h.ex
  exact ⟨r, x, i, c, ns, e _ _ h1, Dz.same e h2, h3⟩

/-- S: what may change; M: what of the heap ahead (H0) may have been changed; G: what is known of values; L: lists of this def's own; B: the bag -/
structure St (K : PySem.W.Frag) (S M : AS) (H0 H : Hp) (G : List (V × D)) (L : List (Addr × List D)) (B : List Addr) : Prop where
  ok : Okk S H
  kp : Kp M H0 H
  dm : ∀ b, H0 b ≠ none → H b ≠ none
  ga : ∀ p ∈ G, Dz K S H p.2 p.1
  la : ∀ p ∈ L, S p.1 ∧ (H0 p.1 = none ∨ M p.1) ∧ ∃ xs, H p.1 = some (.lst xs) ∧ DzL K S H p.2 xs
  ba : ∀ a ∈ B, S a ∧ (H0 a = none ∨ M a) ∧ Bag K S H a
  nd : (L.map (·.1) ++ B).Nodup

section
variable {K : PySem.W.Frag} {S M : AS} {H0 H H' : Hp} {G : List (V × D)} {L : List (Addr × List D)} {B : List Addr}
theorem St.dz (st : St K S M H0 H G L B) {x : V} {d : D} (m : (x, d) ∈ G) : Dz K S H d x := st.ga (x, d) m
theorem St.same (st : St K S M H0 H G L B) (e : Same H H') : St K S M H0 H' G L B where
  ok := st.ok.same e
  kp := fun b o n h => e _ _ (st.kp b o n h)
  dm := fun b n => by
    have q := st.dm b n
    cases z : H b with
    | none => exact absurd z q
    | some o => rw [e b o z]; exact fun w => by cases w
  ga := fun p hp => Dz.same e (st.ga p hp)
  la := fun p hp => by
    obtain ⟨h1, h2, xs, h3, h4⟩ := st.la p hp
    exact ⟨h1, h2, xs, e _ _ h3, DzL.same e h4⟩
  ba := fun a ha => ⟨(st.ba a ha).1, (st.ba a ha).2.1, (st.ba a ha).2.2.same e⟩
  nd := st.nd
theorem St.add (st : St K S M H0 H G L B) {x : V} {d : D} (h : Dz K S H d x) : St K S M H0 H ((x, d) :: G) L B :=
  ⟨st.ok, st.kp, st.dm, fun p hp => by
    rcases List.mem_cons.mp hp with e | e
    · subst e; exact h
    · exact st.ga p e, st.la, st.ba, st.nd⟩
theorem St.sub (st : St K S M H0 H G L B) {G' : List (V × D)} (h : ∀ p ∈ G', p ∈ G) : St K S M H0 H G' L B :=
  ⟨st.ok, st.kp, st.dm, fun p hp => st.ga p (h p hp), st.la, st.ba, st.nd⟩
theorem St.nS (st : St K S M H0 H G L B) {p : Addr} (n : H p = none) : ¬ S p := fun s => st.ok p s n
theorem St.tup (st : St K S M H0 H G L B) {p : Addr} (n : H p = none) {xs : List V} {ds : List D} (h : DzL K S H ds xs) : St K S M H0 (upd H p (.tup xs)) ((.ref p, .tup ds) :: G) L B := by
  have e : Same H (upd H p (.tup xs)) := Same.upd n
  exact (st.same e).add ⟨p, xs, rfl, .inl ⟨st.nS n, .inl upd_same⟩, DzL.same e h⟩
theorem St.lst (st : St K S M H0 H G L B) {p : Addr} (n : H p = none) {xs : List V} {ds : List D} (h : DzL K S H ds xs) : St K S M H0 (upd H p (.lst xs)) ((.ref p, .lst ds) :: G) L B := by
  have e : Same H (upd H p (.lst xs)) := Same.upd n
  exact (st.same e).add ⟨p, xs, rfl, ⟨st.nS n, upd_same⟩, DzL.same e h⟩
theorem St.h0 (st : St K S M H0 H G L B) {p : Addr} (n : H p = none) : H0 p = none := by
  cases z : H0 p with
  | none => rfl
  | some o => exact absurd n (st.dm p (by rw [z]; exact fun w => by cases w))
theorem Bag.fresh {a l : Addr} (n : H l = none) (h : Bag K S H a) : Bag K (fun b => S b ∨ b = l) H a := by
  obtain ⟨r, x, i, c, ns, h1, h2, h3⟩ := h.ex
  exact ⟨r, x, i, c, ns, h1, Dz.fresh n h2, h3⟩
/-- a new list of the def's own -/
theorem St.own (st : St K S M H0 H G L B) {p : Addr} (n : H p = none) {xs : List V} {ds : List D} (h : DzL K S H ds xs) : St K (fun b => S b ∨ b = p) M H0 (upd H p (.lst xs)) G ((p, ds) :: L) B := by
  have e : Same H (upd H p (.lst xs)) := Same.upd n
  have s1 := st.same e
  refine ⟨fun b s => ?_, s1.kp, s1.dm, fun q hq => Dz.same e (Dz.fresh n (st.ga q hq)), fun q hq => ?_, fun a ha => ?_, ?_⟩
  · rcases s with s | s
    · exact s1.ok b s
    · subst s; rw [upd_same]; exact fun w => by cases w
  · rcases List.mem_cons.mp hq with z | z
    · subst z
      exact ⟨.inr rfl, .inl (st.h0 n), xs, upd_same, DzL.same e (DzL.fresh n h)⟩
    · obtain ⟨h1, h2, ys, h3, h4⟩ := st.la q z
      exact ⟨.inl h1, h2, ys, e _ _ h3, DzL.same e (DzL.fresh n h4)⟩
  · obtain ⟨h1, h2, h3⟩ := st.ba a ha
    exact ⟨.inl h1, h2, (h3.fresh n).same e⟩
  · rw [List.map_cons, List.cons_append, List.nodup_cons]
    refine ⟨fun m => ?_, st.nd⟩
    rcases List.mem_append.mp m with m | m
    · obtain ⟨q, hq, eq⟩ := List.mem_map.mp m
      have := (st.la q hq).1
      rw [eq] at this
      exact st.nS n this
    · exact st.nS n (st.ba p m).1
/-- a list of the def's own is given away: it changes no more -/
theorem St.give {p : Addr} {ds : List D} (st : St K (fun b => S b ∨ b = p) M H0 H G ((p, ds) :: L) B) (n : ¬ S p) : St K S M H0 H ((.ref p, .lst ds) :: G) L B := by
  have w : ∀ b, S b → S b ∨ b = p := fun _ => .inl
  have nd := st.nd
  rw [List.map_cons, List.cons_append, List.nodup_cons] at nd
  obtain ⟨h1, h2, xs, h3, h4⟩ := st.la (p, ds) (List.mem_cons_self ..)
  refine ⟨fun b s => st.ok b (.inl s), st.kp, st.dm, fun q hq => ?_, fun q hq => ?_, fun a ha => ?_, nd.2⟩
  · rcases List.mem_cons.mp hq with e | e
    · subst e
      exact ⟨p, xs, rfl, ⟨n, h3⟩, DzL.weak w h4⟩
    · exact Dz.weak w (st.ga q e)
  · obtain ⟨q1, q2, ys, q3, q4⟩ := st.la q (List.mem_cons_of_mem _ hq)
    have ne : q.1 ≠ p := fun e => nd.1 (List.mem_append_left _ (List.mem_map.mpr ⟨q, hq, e⟩))
    exact ⟨q1.elim id fun e => absurd e ne, q2, ys, q3, DzL.weak w q4⟩
  · obtain ⟨q1, q2, r, x, i, c, ns, q3, q4, q5⟩ := st.ba a ha
    have ne : a ≠ p := fun e => nd.1 (List.mem_append_right _ (e ▸ ha))
    exact ⟨q1.elim id fun e => absurd e ne, q2, r, x, i, c, ns, q3, Dz.weak w q4, q5⟩
theorem nodup_set_keep : ∀ {L : List (Addr × List D)} {i : Nat} {l : Addr} {ds ds' : List D}, L[i]? = some (l, ds) → (L.set i (l, ds')).map (·.1) = L.map (·.1)
  | [], i, l, ds, ds', h => by simp at h
  | p :: L, 0, l, ds, ds', h => by
    simp at h
    subst h
    rfl
  | p :: L, i + 1, l, ds, ds', h => by
    rw [List.set_cons_succ, List.map_cons, List.map_cons, nodup_set_keep (by simpa using h)]
theorem mem_set_of {α : Type} : ∀ {L : List α} {i : Nat} {x y : α}, y ∈ L.set i x → y = x ∨ ∃ j, j ≠ i ∧ L[j]? = some y
  | [], i, x, y, h => by simp at h
  | p :: L, 0, x, y, h => by
    rw [List.set_cons_zero] at h
    rcases List.mem_cons.mp h with e | e
    · exact .inl e
    · obtain ⟨j, hj, ej⟩ := List.getElem_of_mem e
      exact .inr ⟨j + 1, by omega, by simp [hj, ej]⟩
  | p :: L, i + 1, x, y, h => by
    rw [List.set_cons_succ] at h
    rcases List.mem_cons.mp h with e | e
    · exact .inr ⟨0, by omega, by simp [e]⟩
    · rcases mem_set_of e with e | ⟨j, hj, ej⟩
      · exact .inl e
      · exact .inr ⟨j + 1, by omega, by simpa using ej⟩
theorem nodup_at {L : List (Addr × List D)} {B : List Addr} (nd : (L.map (·.1) ++ B).Nodup) {i j : Nat} {p q : Addr × List D} (hi : L[i]? = some p) (hj : L[j]? = some q) (ne : j ≠ i) : q.1 ≠ p.1 := by
  have n1 := (List.nodup_append.mp nd).1
  intro e
  have a : (L.map (·.1))[i]? = some p.1 := by rw [List.getElem?_map, hi]; rfl
  have b : (L.map (·.1))[j]? = some p.1 := by rw [List.getElem?_map, hj]; exact congrArg some e
  exact ne (nd_ix n1 b a)
/-- a list of the def's own is changed -/
theorem St.put (st : St K S M H0 H G L B) {i : Nat} {l : Addr} {ds ds' : List D} {xs' : List V} (hl : L[i]? = some (l, ds)) (h : DzL K S H ds' xs') : St K S M H0 (upd H l (.lst xs')) G (L.set i (l, ds')) B := by
  have ml : (l, ds) ∈ L := List.mem_of_getElem? hl
  obtain ⟨h1, h2, xs, h3, h4⟩ := st.la (l, ds) ml
  have kp : Kp S H (upd H l (.lst xs')) := fun b o n e => by
    have h1' : S l := h1
    rw [upd_ne (fun z => n (by rw [z]; exact h1'))]; exact e
  refine ⟨fun b s => ?_, fun b o n e => ?_, fun b n => ?_, fun q hq => Dz.keep kp (fun _ z => z) (st.ga q hq), fun q hq => ?_, fun a ha => ?_, ?_⟩
  · by_cases z : b = l
    · subst z; rw [upd_same]; exact fun w => by cases w
    · rw [upd_ne z]; exact st.ok b s
  · have z : b ≠ l := fun z => by
      subst z
      rcases h2 with h2 | h2
      · rw [e] at h2; cases h2
      · exact n h2
    rw [upd_ne z]; exact st.kp b o n e
  · by_cases z : b = l
    · subst z; rw [upd_same]; exact fun w => by cases w
    · rw [upd_ne z]; exact st.dm b n
  · rcases mem_set_of hq with e | ⟨j, hj, ej⟩
    · subst e
      exact ⟨h1, h2, xs', upd_same, DzL.keep kp (fun _ z => z) h⟩
    · obtain ⟨q1, q2, ys, q3, q4⟩ := st.la q (List.mem_of_getElem? ej)
      have ne := nodup_at st.nd hl ej hj
      exact ⟨q1, q2, ys, by rw [upd_ne ne]; exact q3, DzL.keep kp (fun _ z => z) q4⟩
  · obtain ⟨q1, q2, r, x, k, c, ns, q3, q4, q5⟩ := st.ba a ha
    have ne : a ≠ l := fun e => (List.nodup_append.mp st.nd).2.2 l (List.mem_map.mpr ⟨(l, ds), ml, rfl⟩) a ha e.symm
    exact ⟨q1, q2, r, x, k, c, ns, by rw [upd_ne ne]; exact q3, Dz.keep kp (fun _ z => z) q4, q5⟩
  · rw [nodup_set_keep hl]; exact st.nd
/-- behind a call that may change the bag alone -/
theorem St.bag (st : St K S M H0 H G L B) {a : Addr} (ma : a ∈ B) (k : Kp (fun b => b = a) H H') (b : Bag K S H' a) (ub : B = [a]) : St K S M H0 H' G L B := by
  obtain ⟨h1, h2, h3⟩ := st.ba a ma
  have ms : ∀ b, b = a → S b := fun b e => e ▸ h1
  have ke : ∀ b o, b ≠ a → H b = some o → H' b = some o := fun b o n e => k b o n e
  have dm : ∀ b, H b ≠ none → H' b ≠ none := fun c n => by
    by_cases z : c = a
    · subst z
      obtain ⟨r, x, i, cc, ns, q, _⟩ := b.ex
      rw [q]; exact fun w => by cases w
    · cases q : H c with
      | none => exact absurd q n
      | some o => rw [ke c o z q]; exact fun w => by cases w
  refine ⟨fun b s => dm b (st.ok b s), fun b o n e => ?_, fun b n => dm b (st.dm b n), fun q hq => Dz.keep k ms (st.ga q hq), fun q hq => ?_, fun c hc => ?_, st.nd⟩
  · refine ke b o (fun z => ?_) (st.kp b o n e)
    subst z
    rcases h2 with h2 | h2
    · rw [e] at h2; cases h2
    · exact n h2
  · obtain ⟨q1, q2, ys, q3, q4⟩ := st.la q hq
    have ne : q.1 ≠ a := fun e => (List.nodup_append.mp st.nd).2.2 q.1 (List.mem_map.mpr ⟨q, hq, rfl⟩) a ma e
    exact ⟨q1, q2, ys, ke _ _ ne q3, DzL.keep k ms q4⟩
  · have : c = a := by rw [ub] at hc; exact List.mem_singleton.mp hc
    subst this
    exact ⟨h1, h2, b⟩
/-- at a def's start -/
theorem St.start {xs : List V} {ds : List D} (ok : Okk S H) (h : DzL K S H ds xs) : St K S (fun _ => False) H H (xs.zip ds) [] [] :=
  ⟨ok, fun _ _ _ h => h, fun _ h => h, by
    clear ok
    induction ds generalizing xs with
    | nil => cases h; intro p hp; simp at hp
    | cons d ds ih =>
      obtain ⟨x, r, e, h1, h2⟩ := h
      subst e
      intro p hp
      rw [List.zip_cons_cons] at hp
      rcases List.mem_cons.mp hp with e | e
      · subst e; exact h1
      · exact ih h2 p e, fun p hp => by simp at hp, fun p hp => by simp at hp, by simp⟩
theorem St.startB {xs : List V} {ds : List D} {a : Addr} (ok : Okk S H) (sa : S a) (b : Bag K S H a) (h : DzL K S H ds xs) : St K S (fun b => b = a) H H (xs.zip ds) [] [a] := by
  have s := St.start ok h
  exact ⟨s.ok, fun _ _ _ h => h, s.dm, s.ga, fun p hp => by simp at hp, fun c hc => by rw [List.mem_singleton.mp hc]; exact ⟨sa, .inr rfl, b⟩, by simp⟩
theorem St.end_ (st : St K S (fun _ => False) H0 H G L B) : Same H0 H := fun b o e => st.kp b o (fun z => z) e
theorem St.mem0 (st : St K S M H0 H G L B) : True := trivial
end

/-! ## 5. what a def promises: of data -/
/-- args, the wanted end by the answer's data -/
def spD (K : PySem.W.Frag) (n : Nat) (pre : List D → Prop) (post : List D → D → Prop) : Sp := fun vs H Q _ => ∃ S ds, ds.length = n ∧ Okk S H ∧ DzL K S H ds vs ∧ pre ds ∧ ∀ v d H', Same H H' → Dz K S H' d v → post ds d → Q v H'
def spB (K : PySem.W.Frag) (n : Nat) (pre : List D → Prop) (post : List D → D → Prop) : Sp := fun vs H Q _ => ∃ S a r ds, vs = .ref a :: r ∧ ds.length = n ∧ Okk S H ∧ S a ∧ Bag K S H a ∧ DzL K S H ds r ∧ pre ds ∧
  ∀ v d H', Kp (fun b => b = a) H H' → Bag K S H' a → Dz K S H' d v → post ds d → Q v H'
theorem spD_len {K : PySem.W.Frag} {n : Nat} {pre : List D → Prop} {post : List D → D → Prop} {vs : List V} {H : Hp} {Q : VK} {E : XK} (h : spD K n pre post vs H Q E) : vs.length = n := by
  obtain ⟨S, ds, hl, _, hz, _⟩ := h
  rw [← hl]; exact hz.len
theorem spB_len {K : PySem.W.Frag} {n : Nat} {pre : List D → Prop} {post : List D → D → Prop} {vs : List V} {H : Hp} {Q : VK} {E : XK} (h : spB K n pre post vs H Q E) : vs.length = n + 1 := by
  obtain ⟨S, a, r, ds, e, hl, _, _, _, hz, _⟩ := h
  rw [e, List.length_cons, ← hl, hz.len]
end Vf
namespace Vf
open PySem PySem.Spec PyProof.Rows L2

/-! ## 6. operators, one rule a sign -/
def rAddI : R2 := rI0 fun i j => .int (i + j)
def rAddSt : R2 := fun x y H Q => ∃ i j, x = .str i ∧ y = .str j ∧ i.length + j.length ≤ sizeLine ∧ Q (.str (i ++ j)) H
def rAddG (K : PySem.W.Frag) : R2 := fun x y H Q => rAddI x y H Q ∨ rAddSt x y H Q ∨ rCat x y H Q ∨ rCatA K x y H Q
def rSubG : R2 := rI0 fun i j => .int (i - j)
def rMulI : R2 := rI CMul fun i j => .int (i * j)
def rMulW : R2 := rI CMulW fun i j => .int (i * j)
def rMulS : R2 := fun x y H Q => ∃ (z : Str) (n : Nat), x = .str z ∧ y = .int n ∧ z.length * n ≤ 1000000 ∧ n ≤ 1000000 ∧ Q (.str ⟨(List.replicate n z.cps).foldl (· ++ ·) #[]⟩) H
def rMulG : R2 := fun x y H Q => rMulI x y H Q ∨ rMulW x y H Q ∨ rMulS x y H Q
def rDivG : R2 := rI CDivW fun i j => .int (i / j)
def rModG : R2 := rI (fun _ j => 0 < j) fun i j => .int (i % j)
def rPowG : R2 := rI CPow fun i j => .int (i ^ j.toNat)
def rEqG (K : PySem.W.Frag) : R2 := fun x y H Q => rEq x y H Q ∨ rEqD K x y H Q
def rNeG (K : PySem.W.Frag) : R2 := fun x y H Q => rNe x y H Q ∨ rNeD K x y H Q
def rLtG : R2 := rI0 fun i j => .bl (decide (i < j))
def rLeG : R2 := rI0 fun i j => .bl (decide (i ≤ j))
def rGtG : R2 := rI0 fun i j => .bl (decide (j < i))
def rGeG : R2 := rI0 fun i j => .bl (decide (j ≤ i))
def rInSg (neg : Bool) : R2 := fun x y H Q => ∃ (c : Nat) (z : Str), x = .str ⟨#[c]⟩ ∧ y = .str z ∧ Q (.bl (if neg then !decide (c ∈ z.cps.toList) else decide (c ∈ z.cps.toList))) H
def rInG (K : PySem.W.Frag) : R2 := fun x y H Q => rIn K false x y H Q ∨ rInSg false x y H Q
def rNiG (K : PySem.W.Frag) : R2 := fun x y H Q => rIn K true x y H Q ∨ rInSg true x y H Q
def rIxG (K : PySem.W.Frag) : R2 := rIx K
def rSlG (K : PySem.W.Frag) : V → Option Int → Option Int → Hp → VK → Prop := fun x lo hi H Q => rSlL K x lo hi H Q ∨ rSlA K x lo hi H Q ∨ rSlS x lo hi H Q

section
variable {X : Cx}
theorem opMulS : OpR X (binaryOp .Mult) rMulS := by
  intro pins s σ H x y v u Q I rx ry h
  obtain ⟨z, n, rfl, rfl, h1, h2, q⟩ := h
  obtain ⟨t, rfl⟩ := rx
  obtain ⟨t', rfl⟩ := ry
  have e0 : ¬ ((n : Int) < -(2 ^ 63 : Int)) := by omega
  have e1 : ¬ ((n : Int) ≥ 2 ^ 63) := by omega
  refine PySem.P.mul_str (by rw [decide_eq_false e0, decide_eq_false e1]; rfl) (fun h3 _ => ?_) (fun _ _ => ?_) ?_
  · have hn : 0 < n := by omega
    intro h4
    have h5 : ((2 : Int) ^ 63 - 1) / n < z.length := h4
    have h6 := Int.lt_mul_of_ediv_lt (by omega : (0 : Int) < n) h5
    have h7 : ((z.length * n : Nat) : Int) ≤ 1000000 := Int.ofNat_le.mpr h1
    rw [Int.natCast_mul] at h7
    generalize (z.length : Int) * n = g at h6 h7
    have h9 : (2 : Int) ^ 63 - 1 = 9223372036854775807 := by decide
    rw [h9] at h6
    omega
  · rw [Int.toNat_natCast]
    have hs : z.length * n ≤ 16777216 := by omega
    exact decide_eq_false (by rw [sizeLine_eq]; omega)
  · by_cases hn : n = 0
    · subst hn
      rw [if_pos (by decide)]
      refine ⟨by decide, ?_⟩
      exact ⟨.str _, H, I.tok _, ⟨_, rfl⟩, q⟩
    · rw [if_neg (by omega)]
      by_cases hz : ((n : Int) == 1 || z.length == 0) = true
      · rw [if_pos hz]
        refine ⟨.str z, H, I, ⟨t, rfl⟩, ?_⟩
        have e : (⟨(List.replicate n z.cps).foldl (· ++ ·) #[]⟩ : Str) = z := by
          rcases (Bool.or_eq_true _ _).mp hz with w | w
          · have : n = 1 := by
              have := of_decide_eq_true w
              omega
            subst this
            simp [List.replicate]
          · have w2 : z.cps = #[] := by
              have w3 : z.cps.size = 0 := by
                have w4 : (z.length == 0) = true := w
                exact of_decide_eq_true w4
              exact Array.eq_empty_of_size_eq_zero w3
            have : ∀ k : Nat, (List.replicate k (#[] : Array Nat)).foldl (· ++ ·) #[] = #[] := fun k => by
              induction k with
              | zero => rfl
              | succ k ih => simp [List.replicate_succ, ih]
            obtain ⟨cs⟩ := z
            simp only at w2
            subst w2
            simp only [this]
        rw [e] at q
        exact q
      · rw [if_neg hz]
        have hl : (⟨(List.replicate n z.cps).foldl (· ++ ·) #[]⟩ : Str).length = z.length * n := by
          have : ∀ (k : Nat) (a : Array Nat), ((List.replicate k z.cps).foldl (· ++ ·) a).size = a.size + z.cps.size * k := fun k => by
            induction k with
            | zero => intro a; simp
            | succ k ih => intro a; rw [List.replicate_succ, List.foldl_cons, ih, Array.size_append, Nat.mul_succ]; omega
          show ((List.replicate n z.cps).foldl (· ++ ·) #[]).size = z.cps.size * n
          rw [this]
          simp
        rw [Int.toNat_natCast]
        refine ⟨by rw [hl, sizeLine_eq]; omega, ?_⟩
        exact ⟨.str _, H, I.tok _, ⟨_, rfl⟩, q⟩
theorem opAdd : OpR X (binaryOp .Add) (rAddG X.K) := OpR.or op_add (OpR.or op_add_str (OpR.or op_cat op_catA))
theorem opSub : OpR X (binaryOp .Sub) rSubG := op_sub
theorem opMul : OpR X (binaryOp .Mult) rMulG := OpR.or op_mul (OpR.or op_mulW opMulS)
theorem opDiv : OpR X (binaryOp .FloorDiv) rDivG := op_fdivW
theorem opMod : OpR X (binaryOp .Mod) rModG := op_mod
theorem opPow : OpR X (binaryOp .Pow) rPowG := op_pow
theorem opEq (hu : X.A.units + 64 < cLine) : OpR X (compareOp .Eq) (rEqG X.K) := OpR.or op_eq (op_eqD hu)
theorem opNe (hu : X.A.units + 64 < cLine) : OpR X (compareOp .NotEq) (rNeG X.K) := OpR.or op_ne (op_neD hu)
theorem opLt : OpR X (compareOp .Lt) rLtG := op_lt
theorem opLe : OpR X (compareOp .LtE) rLeG := op_le
theorem opGt : OpR X (compareOp .Gt) rGtG := op_gt
theorem opGe : OpR X (compareOp .GtE) rGeG := op_ge
theorem opIn : OpR X (compareOp .In) (rInG X.K) := OpR.or op_in_seq op_in_sign
theorem opNi : OpR X (compareOp .NotIn) (rNiG X.K) := OpR.or op_notIn_seq op_notIn_sign
theorem ixG : IxR X (rIxG X.K) := ix_seq
theorem slG : SlR X (rSlG X.K) := SlR.or sl_list (SlR.or sl_tupA sl_str)
end
end Vf
namespace Vf
open PySem PySem.Spec PyProof.Rows L2 RZ

/-! ## 7. readings, step by step -/
/-! continuations by name: what follows stays an argument -/
def FB (Q : Bool → Hp → Prop) : VK := fun x H => ∃ k, x = .bl k ∧ Q k H
def FTup (Q : VK) : List V → Hp → Prop := fun xs H => xs.length ≤ sizeLine ∧ ∀ p, H p = none → Q (.ref p) (upd H p (.tup xs))
def FLst (Q : VK) : List V → Hp → Prop := fun xs H => xs.length ≤ sizeLine ∧ ∀ p, H p = none → Q (.ref p) (upd H p (.lst xs))
def FAndV (tb : TE) (σ : L2.St) (Q : VK) : VK := fun x H => ∃ c, x = .bl c ∧ if c = true then tb σ H Q else Q (.bl false) H
def FOrV (tb : TE) (σ : L2.St) (Q : VK) : VK := fun x H => ∃ c, x = .bl c ∧ if c = true then Q (.bl true) H else tb σ H Q
def FNotV (Q : VK) : VK := fun x H => ∃ c, x = .bl c ∧ Q (.bl (!c)) H
def FChain (r' : R2) (tc : TE) (σ : L2.St) (Q : VK) : VK := fun z H => ∃ k, z = .bl k ∧ (if k = true then tc σ H fun w H4 => r' V.non w H4 Q else Q (.bl false) H)
def FInt (Q : Option Int → Hp → Prop) : VK := fun x H => ∃ i, x = .int i ∧ Q (some i) H
def FStr1 (r : V → List V → Hp → VK → Prop) (Q : VK) : VK := fun x H => (∃ a, x = .str a) ∧ r x [] H Q
def FStr2 (te : TE) (σ : L2.St) (r : V → List V → Hp → VK → Prop) (Q : VK) : VK := fun x H => (∃ a, x = .str a) ∧ te σ H fun y H2 => r x [y] H2 Q
def FBm (K : PySem.W.Frag) (T : String) (t : TA) (σ : L2.St) (r : V → List V → Hp → VK → Prop) (Q : VK) : VK := fun x H => tyV K T x H ∧ t σ H fun xs H2 => r x xs H2 Q
def FBm0 (K : PySem.W.Frag) (T : String) (r : V → List V → Hp → VK → Prop) (Q : VK) : VK := fun x H => tyV K T x H ∧ r x [] H Q
def FItl (K : PySem.W.Frag) (R : It → Hp → Prop) : VK := fun x H => ∃ a, x = .ref a ∧ (∃ xs, SqL K H a xs) ∧ R (Itl K a) H
def FItt (K : PySem.W.Frag) (R : It → Hp → Prop) : VK := fun x H => ∃ a, x = .ref a ∧ (∃ xs, SqT K H a xs) ∧ R (Itt K a) H
def FIts (R : It → Hp → Prop) : VK := fun v H => ∃ x, v = .str x ∧ R (Its x) H
def FRng (R : It → Hp → Prop) : List V → Hp → Prop := fun vs H => ∃ j : Int, vs = [.int j] ∧ -(2 ^ 62) ≤ j ∧ j < 2 ^ 62 ∧ R (Itr 0 j.toNat) H
def FRng2 (R : It → Hp → Prop) : List V → Hp → Prop := fun vs H => ∃ i j : Int, vs = [.int i, .int j] ∧ (-(2 ^ 62) ≤ i ∧ i < 2 ^ 62 ∧ -(2 ^ 62) ≤ j ∧ j < 2 ^ 62) ∧ R (Itr i (j - i).toNat) H
def FZip (K : PySem.W.Frag) (R : It → Hp → Prop) : List V → Hp → Prop := fun vs H => ∃ a b xs ys, vs = [.ref a, .ref b] ∧ ((SqL K H a xs ∧ SqL K H b ys ∧ R (Itz K a b) H) ∨ (SqT K H a xs ∧ SqT K H b ys ∧ R (ItzT K a b) H))
def FEnum (K : PySem.W.Frag) (R : It → Hp → Prop) : List V → Hp → Prop := fun vs H => ∃ a xs, vs = [.ref a] ∧ SqL K H a xs ∧ R (Ite K a) H
def FFor (g : TG) (tb : TS) (D : Ends) (σ : L2.St) : It → Hp → Prop := fun J H1 => ∃ W : Nat → Nat → L2.St → Hp → Prop, (∃ m, W 0 m σ H1) ∧ ∀ i m σ H, W i m σ H → (J.stop i H ∧ D.nx σ H) ∨ (J.go i H ∧ ∃ N : L2.St → Hp → Prop, (∀ σ' H', N σ' H' → ∃ m', m' < m ∧ W (i + 1) m' σ' H') ∧ ∀ x H', J.yld i H x H' → g x σ H' fun σ2 H2 => tb { D with nx := N, ct := N, bk := D.nx } σ2 H2)
def FLc (g : TG) (tt : TT) (te : TE) (ws : List Nat) (σ : L2.St) (Q : VK) : It → Hp → Prop := fun J H1 => ∀ D, H1 D = none → ∃ W : Nat → Nat → Hp → Prop, (∃ m, W 0 m (upd H1 D (.lst []))) ∧ ∀ i m H, W i m H →
    (J.stop i H ∧ Q (.ref D) H) ∨ (J.go i H ∧ ∃ Nx : Hp → Prop, (∀ H', Nx H' → ∃ m', m' < m ∧ W (i + 1) m' H') ∧ ∀ x H', J.yld i H x H' → g x (wipe σ ws) H' fun σ2 H2 => wipe σ2 ws = wipe σ ws ∧ tt σ2 H2 fun b H3 =>
      if b = true then te σ2 H3 fun y H4 => ∃ acc, H4 D = some (.lst acc) ∧ acc.length < sizeLine ∧ Nx (upd H4 D (.lst (acc ++ [y]))) else Nx H3)
def FTru (K : PySem.W.Frag) (Q : Bool → Hp → Prop) : VK := fun x H => ∃ k, TruV K x H k ∧ Q k H
def FOrT (K : PySem.W.Frag) (tb : TE) (σ : L2.St) (Q : VK) : VK := fun x H => ∃ k, TruV K x H k ∧ if k = true then Q x H else tb σ H Q
def FAndT (K : PySem.W.Frag) (tb : TE) (σ : L2.St) (Q : VK) : VK := fun x H => ∃ k, TruV K x H k ∧ if k = true then tb σ H Q else Q x H
def FNotT (K : PySem.W.Frag) (Q : VK) : VK := fun x H => ∃ k, TruV K x H k ∧ Q (.bl (!k)) H
def FGTup (K : PySem.W.Frag) (n : Nat) (t : TGs) (σ : L2.St) (N : L2.St → Hp → Prop) : VK := fun v H => ∃ a xs, v = .ref a ∧ SqT K H a xs ∧ xs.length = n ∧ t xs σ H N

section
variable {σ : L2.St} {H : Hp} {Q : VK} {v x y : V} {ta tb tc te : TE} {t : TA} {K : PySem.W.Frag} {D : Ends} {b k : Bool} {QB : Bool → Hp → Prop} {QA : List V → Hp → Prop} {A B : Prop}
theorem g_var {i : Nat} (h : σ[i]? = some (some v)) (q : Q v H) : tVar i σ H Q := ⟨v, h, q⟩
theorem g_c (q : Q v H) : tC v σ H Q := q
theorem g_op {r : R2} (h : ta σ H fun x H1 => tb σ H1 fun y H2 => r x y H2 Q) : tOp r ta tb σ H Q := h
theorem g_un {r : V → Hp → VK → Prop} (h : ta σ H fun x H1 => r x H1 Q) : tUn r ta σ H Q := h
theorem g_cb {r : List V → Hp → VK → Prop} (h : t σ H fun vs H1 => r vs H1 Q) : tCB r t σ H Q := h
theorem g_nil (q : QA [] H) : tNil σ H QA := q
theorem g_cons (h : ta σ H fun x H1 => t σ H1 fun xs H2 => QA (x :: xs) H2) : tCons ta t σ H QA := h
theorem g_seq {t u : TS} (h : t { D with nx := u D } σ H) : tSeq t u D σ H := h
theorem g_next (q : D.nx σ H) : tNext D σ H := q
theorem g_brk (q : D.bk σ H) : tBreak D σ H := q
theorem g_cont (q : D.ct σ H) : tCont D σ H := q
theorem g_drop (h : te σ H fun _ H1 => D.nx σ H1) : tDrop te D σ H := h
theorem g_ret (h : te σ H D.rt) : tRet te D σ H := h
theorem g_retN (h : D.rt .non H) : tRetN D σ H := h
theorem g_asg {g : TG} (h : te σ H fun x H1 => g x σ H1 D.nx) : tAsg te g D σ H := h
theorem g_name {i : Nat} {N : L2.St → Hp → Prop} (q : N (σ.set i (some v)) H) : gName i v σ H N := q
theorem g_ifS {c : TT} {t u : TS} (h : c σ H fun b H1 => if b = true then t D σ H1 else u D σ H1) : tIfS c t u D σ H := h
theorem g_test (h : te σ H (FB QB)) : tTest te σ H QB := h
theorem g_tB (h : te σ H (FB QB)) : tB te σ H QB := h
theorem g_bl (q : QB b H) : FB QB (.bl b) H := ⟨b, rfl, q⟩
theorem g_bl2 {P : Bool → Prop} (q : P b) : ∃ k, V.bl b = .bl k ∧ P k := ⟨b, rfl, q⟩
theorem g_and {t u : TT} (h : t σ H fun c H1 => if c = true then u σ H1 QB else QB false H1) : tAnd t u σ H QB := h
theorem g_or {t u : TT} (h : t σ H fun c H1 => if c = true then QB true H1 else u σ H1 QB) : tOr t u σ H QB := h
theorem g_not {t : TT} (h : t σ H fun c H1 => QB (!c) H1) : tNot t σ H QB := h
theorem g_andV (h : ta σ H (FAndV tb σ Q)) : tAndV ta tb σ H Q := h
theorem g_andV1 (h : if b = true then tb σ H Q else Q (.bl false) H) : FAndV tb σ Q (.bl b) H := ⟨b, rfl, h⟩
theorem g_orV (h : ta σ H (FOrV tb σ Q)) : tOrV ta tb σ H Q := h
theorem g_orV1 (h : if b = true then Q (.bl true) H else tb σ H Q) : FOrV tb σ Q (.bl b) H := ⟨b, rfl, h⟩
theorem g_notV (h : ta σ H (FNotV Q)) : tNotV ta σ H Q := h
theorem g_notV1 (h : Q (.bl (!b)) H) : FNotV Q (.bl b) H := ⟨b, rfl, h⟩
theorem g_if {t : TT} (h : t σ H fun c H1 => if c = true then ta σ H1 Q else tb σ H1 Q) : tIf t ta tb σ H Q := h
theorem g_chain {r r' : R2} (h : ta σ H fun x H1 => tb σ H1 fun y H2 => r x y H2 fun z H3 => FB (fun k H3 => if k = true then tc σ H3 fun w' H4 => r' y w' H4 Q else Q (.bl false) H3) z H3) : tChain r r' ta tb tc σ H Q := h
theorem g_tup (h : t σ H (FTup Q)) : tTup t σ H Q := h
theorem g_lst (h : t σ H (FLst Q)) : tLst t σ H Q := h
theorem g_call {sp : Sp} {E : XK} (h : t σ H fun vs H1 => sp vs H1 Q E) : tCall sp [] E t σ H Q := by
  show t σ H fun vs H1 => sp (vs ++ []) H1 Q E
  simpa only [List.append_nil] using h
theorem g_callD {sp : Sp} {dvs : List V} {E : XK} (h : t σ H fun vs H1 => sp (vs ++ dvs) H1 Q E) : tCall sp dvs E t σ H Q := h
theorem g_sl {r : V → Option Int → Option Int → Hp → VK → Prop} {tl th : TO} (h : te σ H fun x H1 => tl σ H1 fun l H2 => th σ H2 fun u H3 => r x l u H3 Q) : tSl r te tl th σ H Q := h
theorem g_nopart {QO : Option Int → Hp → Prop} (h : QO none H) : tNoPart σ H QO := h
theorem g_part {QO : Option Int → Hp → Prop} (h : te σ H (FInt QO)) : tPart te σ H QO := h
theorem g_int {i : Int} {QO : Option Int → Hp → Prop} (q : QO (some i) H) : FInt QO (.int i) H := ⟨i, rfl, q⟩
theorem g_for {wi : TI} {g : TG} {tb : TS} (h : wi σ H (FFor g tb D σ)) : tFor wi g tb D σ H := h
theorem g_bm {T : String} {r : V → List V → Hp → VK → Prop} {to : TE} (h : to σ H (FBm K T t σ r Q)) : tBM K T r to t σ H Q := h
theorem g_bm0 {T : String} {r : V → List V → Hp → VK → Prop} {to : TE} (h : to σ H (FBm0 K T r Q)) : tBM0 K T r to σ H Q := h
theorem g_m0 {r : V → List V → Hp → VK → Prop} {to : TE} (h : to σ H (FStr1 r Q)) : tM0 r to σ H Q := h
theorem g_m1 {r : V → List V → Hp → VK → Prop} {to : TE} (h : to σ H (FStr2 te σ r Q)) : tM1 r to te σ H Q := h
theorem g_str1 {z : Str} {r : V → List V → Hp → VK → Prop} (h : r (.str z) [] H Q) : FStr1 r Q (.str z) H := ⟨⟨z, rfl⟩, h⟩
theorem g_str2 {z : Str} {r : V → List V → Hp → VK → Prop} (h : te σ H fun y H2 => r (.str z) [y] H2 Q) : FStr2 te σ r Q (.str z) H := ⟨⟨z, rfl⟩, h⟩
theorem g_tru (h : te σ H (FTru K QB)) : (fun (σ : L2.St) (H : Hp) (Q : Bool → Hp → Prop) => te σ H fun x H' => ∃ k, TruV K x H' k ∧ Q k H') σ H QB := h
theorem g_tru1 (h : TruV K v H b) (q : QB b H) : FTru K QB v H := ⟨b, h, q⟩
theorem g_orT (h : ta σ H (FOrT K tb σ Q)) : tOrT K ta tb σ H Q := h
theorem g_andT (h : ta σ H (FAndT K tb σ Q)) : tAndT K ta tb σ H Q := h
theorem g_notT (h : ta σ H (FNotT K Q)) : tNotT K ta σ H Q := h
theorem g_orT1 (h : TruV K v H b) (q : if b = true then Q v H else tb σ H Q) : FOrT K tb σ Q v H := ⟨b, h, q⟩
theorem g_andT1 (h : TruV K v H b) (q : if b = true then tb σ H Q else Q v H) : FAndT K tb σ Q v H := ⟨b, h, q⟩
theorem g_notT1 (h : TruV K v H b) (q : Q (.bl (!b)) H) : FNotT K Q v H := ⟨b, h, q⟩
theorem g_gtup {n : Nat} {tg : TGs} {N : L2.St → Hp → Prop} (h : FGTup K n tg σ N v H) : gTup K n tg v σ H N := h
theorem g_gcons {g : TG} {u : TGs} {xs : List V} {N : L2.St → Hp → Prop} (h : g v σ H fun σ' H' => u xs σ' H' N) : gCons g u (v :: xs) σ H N := ⟨v, xs, rfl, h⟩
theorem g_gnil {N : L2.St → Hp → Prop} (h : N σ H) : gNil [] σ H N := ⟨rfl, h⟩
theorem g_par {i j : Nat} (h : t σ H fun vs H1 => ∃ v w, vs = [v, w] ∧ D.nx ((σ.set i (some v)).set j (some w)) H1) : tPar i j t D σ H := h
theorem g_par1 {x y : V} {P : V → V → Prop} (h : P x y) : ∃ v w, [x, y] = [v, w] ∧ P v w := ⟨x, y, rfl, h⟩
theorem g_iteT (h : A) : if true = true then A else B := iteT h
theorem g_iteF (h : B) : if false = true then A else B := iteF h
theorem g_ite {c : Bool} (h1 : c = true → A) (h2 : c = false → B) : if c = true then A else B := by
  cases c with
  | true => exact iteT (h1 rfl)
  | false => exact iteF (h2 rfl)
theorem g_dec {P : Prop} [Decidable P] (h1 : P → A) (h2 : ¬ P → B) : if decide P = true then A else B := by
  by_cases h : P
  · rw [decide_eq_true h]; exact iteT (h1 h)
  · rw [decide_eq_false h]; exact iteF (h2 h)
theorem g_decN {P : Prop} [Decidable P] (h1 : ¬ P → A) (h2 : P → B) : if (!decide P) = true then A else B := by
  by_cases h : P
  · rw [decide_eq_true h]; exact iteF (h2 h)
  · rw [decide_eq_false h]; exact iteT (h1 h)

/-! ### by values: ints -/
variable {i j : Int} {z w : Str}
theorem v_add (q : Q (.int (i + j)) H) : rAddG K (.int i) (.int j) H Q := .inl ⟨i, j, rfl, rfl, q⟩
theorem v_addS (hl : z.length + w.length ≤ sizeLine) (q : Q (.str (z ++ w)) H) : rAddG K (.str z) (.str w) H Q := .inr (.inl ⟨z, w, rfl, rfl, hl, q⟩)
theorem v_sub (q : Q (.int (i - j)) H) : rSubG (.int i) (.int j) H Q := ⟨i, j, rfl, rfl, q⟩
theorem v_mulL (h : -(2 ^ 64) < i ∧ i < 2 ^ 64) (q : Q (.int (i * j)) H) : rMulG (.int i) (.int j) H Q := .inl ⟨i, j, rfl, rfl, .inl h, q⟩
theorem v_mulR (h : -(2 ^ 64) < j ∧ j < 2 ^ 64) (q : Q (.int (i * j)) H) : rMulG (.int i) (.int j) H Q := .inl ⟨i, j, rfl, rfl, .inr h, q⟩
theorem v_mulW (h : CMulW i j) (q : Q (.int (i * j)) H) : rMulG (.int i) (.int j) H Q := .inr (.inl ⟨i, j, rfl, rfl, h, q⟩)
theorem v_mulS {n : Nat} (h : z.length * n ≤ 1000000) (h2 : n ≤ 1000000) (q : Q (.str ⟨(List.replicate n z.cps).foldl (· ++ ·) #[]⟩) H) : rMulG (.str z) (.int n) H Q := .inr (.inr ⟨z, n, rfl, rfl, h, h2, q⟩)
theorem v_div (h : CDivW i j) (q : Q (.int (i / j)) H) : rDivG (.int i) (.int j) H Q := ⟨i, j, rfl, rfl, h, q⟩
theorem v_mod (h : 0 < j) (q : Q (.int (i % j)) H) : rModG (.int i) (.int j) H Q := ⟨i, j, rfl, rfl, h, q⟩
theorem v_pow (h : CPow i j) (q : Q (.int (i ^ j.toNat)) H) : rPowG (.int i) (.int j) H Q := ⟨i, j, rfl, rfl, h, q⟩
theorem v_lt (q : Q (.bl (decide (i < j))) H) : rLtG (.int i) (.int j) H Q := ⟨i, j, rfl, rfl, q⟩
theorem v_le (q : Q (.bl (decide (i ≤ j))) H) : rLeG (.int i) (.int j) H Q := ⟨i, j, rfl, rfl, q⟩
theorem v_gt (q : Q (.bl (decide (j < i))) H) : rGtG (.int i) (.int j) H Q := ⟨i, j, rfl, rfl, q⟩
theorem v_ge (q : Q (.bl (decide (j ≤ i))) H) : rGeG (.int i) (.int j) H Q := ⟨i, j, rfl, rfl, q⟩
theorem dec_ii : decide (V.int i = V.int j) = decide (i = j) := by
  by_cases h : i = j
  · subst h; simp
  · rw [decide_eq_false h]; exact decide_eq_false fun e => h (V.int.inj e)
theorem dec_ss : decide (V.str z = V.str w) = decide (z = w) := by
  by_cases h : z = w
  · subst h; simp
  · rw [decide_eq_false h]; exact decide_eq_false fun e => h (V.str.inj e)
theorem dec_bb {b c : Bool} : decide (V.bl b = V.bl c) = decide (b = c) := by cases b <;> cases c <;> rfl
theorem v_eqI (q : Q (.bl (decide (i = j))) H) : rEqG K (.int i) (.int j) H Q := .inl ⟨rfl, by rw [dec_ii]; exact q⟩
theorem v_neI (q : Q (.bl (!decide (i = j))) H) : rNeG K (.int i) (.int j) H Q := .inl ⟨rfl, by rw [dec_ii]; exact q⟩
theorem v_eqS (q : Q (.bl (decide (z = w))) H) : rEqG K (.str z) (.str w) H Q := .inl ⟨rfl, by rw [dec_ss]; exact q⟩
theorem v_neS (q : Q (.bl (!decide (z = w))) H) : rNeG K (.str z) (.str w) H Q := .inl ⟨rfl, by rw [dec_ss]; exact q⟩
theorem v_eqB {c : Bool} (q : Q (.bl (decide (b = c))) H) : rEqG K (.bl b) (.bl c) H Q := .inl ⟨rfl, by rw [dec_bb]; exact q⟩
theorem v_neB {c : Bool} (q : Q (.bl (!decide (b = c))) H) : rNeG K (.bl b) (.bl c) H Q := .inl ⟨rfl, by rw [dec_bb]; exact q⟩
theorem v_inSg {c : Nat} (q : Q (.bl (decide (c ∈ z.cps.toList))) H) : rInG K (.str ⟨#[c]⟩) (.str z) H Q := .inr ⟨c, z, rfl, rfl, q⟩
theorem v_niSg {c : Nat} (q : Q (.bl (!decide (c ∈ z.cps.toList))) H) : rNiG K (.str ⟨#[c]⟩) (.str z) H Q := .inr ⟨c, z, rfl, rfl, q⟩
end

/-! ### by data -/
section
variable {K : PySem.W.Frag} {S M : AS} {H0 H : Hp} {G : List (V × D)} {L : List (Addr × List D)} {B : List Addr} {Q : VK} {x y : V} {d e : D} {ds es : List D} {xs vs : List V}
theorem z_int {i : Int} : Dz K S H (.int i) (.int i) := rfl
theorem z_str {i : Str} : Dz K S H (.str i) (.str i) := rfl
theorem z_bl {i : Bool} : Dz K S H (.bl i) (.bl i) := rfl
theorem z_non : Dz K S H .non .non := rfl
theorem zl_nil : DzL K S H [] [] := rfl
theorem zl_cons (h : Dz K S H d x) (r : DzL K S H ds xs) : DzL K S H (d :: ds) (x :: xs) := ⟨x, xs, rfl, h, r⟩
theorem z_tup {a : Addr} (h : Dz K S H (.tup ds) (.ref a)) : ∃ xs, LzT K S H a xs ∧ DzL K S H ds xs := by
  obtain ⟨b, xs, e, h1, h2⟩ := h
  cases e
  exact ⟨xs, h1, h2⟩
theorem z_lst {a : Addr} (h : Dz K S H (.lst ds) (.ref a)) : ∃ xs, LzL K S H a xs ∧ DzL K S H ds xs := by
  obtain ⟨b, xs, e, h1, h2⟩ := h
  cases e
  exact ⟨xs, h1, h2⟩
/-- a new tuple, a new list -/
theorem d_tup (st : St K S M H0 H G L B) (hz : DzL K S H ds xs) (hl : xs.length ≤ 100000) (q : ∀ p H', St K S M H0 H' ((.ref p, .tup ds) :: G) L B → Q (.ref p) H') :
    FTup Q xs H := ⟨Nat.le_trans hl (by decide), fun p n => q p _ (st.tup n hz)⟩
theorem d_lst (st : St K S M H0 H G L B) (hz : DzL K S H ds xs) (hl : xs.length ≤ 100000) (q : ∀ p H', St K S M H0 H' ((.ref p, .lst ds) :: G) L B → Q (.ref p) H') :
    FLst Q xs H := ⟨Nat.le_trans hl (by decide), fun p n => q p _ (st.lst n hz)⟩
/-- a new list of one's own -/
theorem d_own (st : St K S M H0 H G L B) (hz : DzL K S H ds xs) (hl : xs.length ≤ 100000) (q : ∀ p H', ¬ S p → St K (fun b => S b ∨ b = p) M H0 H' G ((p, ds) :: L) B → Q (.ref p) H') :
    FLst Q xs H := ⟨Nat.le_trans hl (by decide), fun p n => q p _ (st.nS n) (st.own n hz)⟩
/-- an item of a list, a tuple -/
theorem d_ixL {a : Addr} {i : Nat} (h : Dz K S H (.lst ds) (.ref a)) (hi : ds[i]? = some d) (q : ∀ v, Dz K S H d v → Q v H) : rIxG K (.ref a) (.int (i : Nat)) H Q := by
  obtain ⟨xs, h1, h2⟩ := z_lst h
  obtain ⟨v, e, hv⟩ := h2.get hi
  exact .inl ⟨a, xs, _, v, rfl, rfl, h1.sq, atI_nat e, q v hv⟩
theorem d_ixT {a : Addr} {i : Nat} (h : Dz K S H (.tup ds) (.ref a)) (hi : ds[i]? = some d) (q : ∀ v, Dz K S H d v → Q v H) : rIxG K (.ref a) (.int (i : Nat)) H Q := by
  obtain ⟨xs, h1, h2⟩ := z_tup h
  obtain ⟨v, e, hv⟩ := h2.get hi
  exact .inr (.inl ⟨a, xs, _, v, rfl, rfl, h1.sq, atI_nat e, q v hv⟩)
theorem d_ixLI {a : Addr} {i : Int} (h : Dz K S H (.lst ds) (.ref a)) (h0 : 0 ≤ i) (hi : ds[i.toNat]? = some d) (q : ∀ v, Dz K S H d v → Q v H) : rIxG K (.ref a) (.int i) H Q := by
  have e : i = ((i.toNat : Nat) : Int) := by omega
  rw [e]
  exact d_ixL h hi q
theorem d_ixTI {a : Addr} {i : Int} (h : Dz K S H (.tup ds) (.ref a)) (h0 : 0 ≤ i) (hi : ds[i.toNat]? = some d) (q : ∀ v, Dz K S H d v → Q v H) : rIxG K (.ref a) (.int i) H Q := by
  have e : i = ((i.toNat : Nat) : Int) := by omega
  rw [e]
  exact d_ixT h hi q
/-- an item at a place that is drawn: P holds of all items -/
theorem d_ixLP {a : Addr} {i : Int} {P : D → Prop} (h : Dz K S H (.lst ds) (.ref a)) (h0 : 0 ≤ i) (h1 : i < (ds.length : Int)) (hp : ∀ d ∈ ds, P d) (q : ∀ v d, P d → Dz K S H d v → Q v H) : rIxG K (.ref a) (.int i) H Q := by
  have hl : i.toNat < ds.length := by omega
  refine d_ixLI (d := ds[i.toNat]) h h0 (by simp [hl]) fun v hv => q v _ (hp _ (List.getElem_mem hl)) hv
theorem d_ixTP {a : Addr} {i : Int} {P : D → Prop} (h : Dz K S H (.tup ds) (.ref a)) (h0 : 0 ≤ i) (h1 : i < (ds.length : Int)) (hp : ∀ d ∈ ds, P d) (q : ∀ v d, P d → Dz K S H d v → Q v H) : rIxG K (.ref a) (.int i) H Q := by
  have hl : i.toNat < ds.length := by omega
  refine d_ixTI (d := ds[i.toNat]) h h0 (by simp [hl]) fun v hv => q v _ (hp _ (List.getElem_mem hl)) hv
/-- a call whose promise is of data -/
theorem d_call {n : Nat} {pre : List D → Prop} {post : List D → D → Prop} {E : XK} (st : St K S M H0 H G L B) (hz : DzL K S H ds vs) (hn : ds.length = n) (hp : pre ds)
    (q : ∀ v d H', post ds d → St K S M H0 H' ((v, d) :: G) L B → Q v H') : spD K n pre post vs H Q E :=
  ⟨S, ds, hn, st.ok, hz, hp, fun v d H' e hv po => q v d H' po ((st.same e).add hv)⟩
theorem d_callB {n : Nat} {pre : List D → Prop} {post : List D → D → Prop} {E : XK} {a : Addr} (st : St K S M H0 H G L [a]) (hz : DzL K S H ds vs) (hn : ds.length = n) (hp : pre ds)
    (q : ∀ v d H', post ds d → St K S M H0 H' ((v, d) :: G) L [a] → Q v H') : spB K n pre post (.ref a :: vs) H Q E :=
  ⟨S, a, vs, ds, rfl, hn, st.ok, (st.ba a (by simp)).1, (st.ba a (by simp)).2.2, hz, hp, fun v d H' e hb hv po => q v d H' po ((st.bag (by simp) e hb rfl).add hv)⟩
/-- len of data -/
def rLenG (K : PySem.W.Frag) : List V → Hp → VK → Prop := fun xs H Q => ∃ x n, xs = [x] ∧ LenV K x H n ∧ Q (.int n) H
theorem d_lenL {a : Addr} (h : Dz K S H (.lst ds) (.ref a)) (q : Q (.int (ds.length : Nat)) H) : rLenG K [.ref a] H Q := by
  obtain ⟨xs, h1, h2⟩ := z_lst h
  exact ⟨_, ds.length, rfl, .inl ⟨xs, h1.sq, h2.len.symm⟩, q⟩
theorem d_lenT {a : Addr} (h : Dz K S H (.tup ds) (.ref a)) (q : Q (.int (ds.length : Nat)) H) : rLenG K [.ref a] H Q := by
  obtain ⟨xs, h1, h2⟩ := z_tup h
  exact ⟨_, ds.length, rfl, .inr ⟨xs, h1.sq, h2.len.symm⟩, q⟩
theorem d_lenS {z : Str} (hz : z.length ≤ sizeLine) (q : Q (.int (z.length : Nat)) H) : rLenG K [.str z] H Q := ⟨_, _, rfl, ⟨hz, rfl⟩, q⟩
/-- == and != of data -/
theorem d_eq (h1 : Dz K S H d x) (h2 : Dz K S H e y) (f1 : d.flat = true) (f2 : e.flat = true) (s1 : SeqAt.shaped d.py = true) (s2 : SeqAt.shaped e.py = true) (q : Q (.bl (PyData.eqv d.py e.py)) H) : rEqG K x y H Q :=
  .inr ⟨d.py, e.py, Dz.dp d x f1 h1, Dz.dp e y f2 h2, s1, s2, q⟩
theorem d_ne (h1 : Dz K S H d x) (h2 : Dz K S H e y) (f1 : d.flat = true) (f2 : e.flat = true) (s1 : SeqAt.shaped d.py = true) (s2 : SeqAt.shaped e.py = true) (q : Q (.bl (!PyData.eqv d.py e.py)) H) : rNeG K x y H Q :=
  .inr ⟨d.py, e.py, Dz.dp d x f1 h1, Dz.dp e y f2 h2, s1, s2, q⟩
theorem d_repr (h1 : Dz K S H d x) (f1 : d.flat = true) (s1 : d.py.showable = true) (s2 : d.py.depth ≤ 60) (s3 : d.py.shown.length ≤ sizeLine) (q : Q (.str d.py.shown) H) : rRepr K [x] H Q :=
  ⟨x, d.py, rfl, Dz.dp d x f1 h1, s1, s2, s3, q⟩
/-- all([..]) -/
theorem d_all {a : Addr} {bs : List Bool} (h : Dz K S H (.lst (bs.map D.bl)) (.ref a)) (q : Q (.bl (bs.all id)) H) : rAll K [.ref a] H Q := by
  obtain ⟨xs, h1, h2⟩ := z_lst h
  have e := DzL.bls bs h2
  subst e
  exact ⟨a, bs, rfl, h1.sq, q⟩
/-- list(..), tuple(..) -/
def rListG (K : PySem.W.Frag) : List V → Hp → VK → Prop := fun xs H Q => ∃ p ys, xs = [.ref p] ∧ (SqL K H p ys ∨ SqT K H p ys) ∧ ∀ l, H l = none → Q (.ref l) (upd H l (.lst ys))
def rTupleG (K : PySem.W.Frag) : List V → Hp → VK → Prop := fun xs H Q => ∃ p ys, xs = [.ref p] ∧ ((SqL K H p ys ∧ ∀ l, H l = none → Q (.ref l) (upd H l (.tup ys))) ∨ (SqT K H p ys ∧ Q (.ref p) H))
theorem d_listL {a : Addr} (st : St K S M H0 H G L B) (h : Dz K S H (.lst ds) (.ref a)) (q : ∀ p H', St K S M H0 H' ((.ref p, .lst ds) :: G) L B → Q (.ref p) H') : rListG K [.ref a] H Q := by
  obtain ⟨xs, h1, h2⟩ := z_lst h
  exact ⟨a, xs, rfl, .inl h1.sq, fun l n => q l _ (st.lst n h2)⟩
theorem d_listT {a : Addr} (st : St K S M H0 H G L B) (h : Dz K S H (.tup ds) (.ref a)) (q : ∀ p H', St K S M H0 H' ((.ref p, .lst ds) :: G) L B → Q (.ref p) H') : rListG K [.ref a] H Q := by
  obtain ⟨xs, h1, h2⟩ := z_tup h
  exact ⟨a, xs, rfl, .inr h1.sq, fun l n => q l _ (st.lst n h2)⟩
theorem d_tupleL {a : Addr} (st : St K S M H0 H G L B) (h : Dz K S H (.lst ds) (.ref a)) (q : ∀ p H', St K S M H0 H' ((.ref p, .tup ds) :: G) L B → Q (.ref p) H') : rTupleG K [.ref a] H Q := by
  obtain ⟨xs, h1, h2⟩ := z_lst h
  exact ⟨a, xs, rfl, .inl ⟨h1.sq, fun l n => q l _ (st.tup n h2)⟩⟩
theorem d_tupleT {a : Addr} (h : Dz K S H (.tup ds) (.ref a)) (q : Q (.ref a) H) : rTupleG K [.ref a] H Q := by
  obtain ⟨xs, h1, h2⟩ := z_tup h
  exact ⟨a, xs, rfl, .inr ⟨h1.sq, q⟩⟩
/-- list + list, tuple + tuple -/
theorem d_addL {a b : Addr} (st : St K S M H0 H G L B) (h : Dz K S H (.lst ds) (.ref a)) (h' : Dz K S H (.lst es) (.ref b)) (hl : ds.length + es.length ≤ 100000) (q : ∀ p H', St K S M H0 H' ((.ref p, .lst (ds ++ es)) :: G) L B → Q (.ref p) H') : rAddG K (.ref a) (.ref b) H Q := by
  obtain ⟨xs, h1, h2⟩ := z_lst h
  obtain ⟨ys, h3, h4⟩ := z_lst h'
  exact .inr (.inr (.inl ⟨a, b, xs, ys, rfl, rfl, h1.2, h3.2, by rw [h2.len, h4.len]; exact Nat.le_trans hl (by decide), fun p n => q p _ (st.lst n (h2.app h4))⟩))
theorem d_addT {a b : Addr} (st : St K S M H0 H G L B) (h : Dz K S H (.tup ds) (.ref a)) (h' : Dz K S H (.tup es) (.ref b)) (hl : ds.length + es.length ≤ 100000) (q : ∀ p H', St K S M H0 H' ((.ref p, .tup (ds ++ es)) :: G) L B → Q (.ref p) H') : rAddG K (.ref a) (.ref b) H Q := by
  obtain ⟨xs, h1, h2⟩ := z_tup h
  obtain ⟨ys, h3, h4⟩ := z_tup h'
  refine .inr (.inr (.inr ⟨a, b, xs, ys, rfl, rfl, h1.sq, h3.sq, by rw [h2.len, h4.len]; exact Nat.le_trans hl (by decide), fun e => ?_, fun _ e => ?_, fun _ _ p n => q p _ (st.tup n (h2.app h4))⟩))
  · have e2 : ds = [] := by
      have := h2.len
      rw [e] at this
      exact List.eq_nil_of_length_eq_zero this.symm
    subst e2
    exact q b H (st.add h')
  · have e2 : es = [] := by
      have := h4.len
      rw [e] at this
      exact List.eq_nil_of_length_eq_zero this.symm
    subst e2
    refine q a H (st.add ?_)
    rw [List.append_nil]
    exact h
/-- cuts -/
theorem DzL.cut {lo hi : Option Int} (h : DzL K S H ds xs) : DzL K S H ((ds.drop (HT.sIx ds.length 0 lo)).take (HT.sIx ds.length ds.length hi - HT.sIx ds.length 0 lo)) (cutV xs lo hi) := by
  unfold cutV
  rw [h.len]
  exact (h.drop _).take _
def cutD (ds : List D) (lo hi : Option Int) : List D := (ds.drop (HT.sIx ds.length 0 lo)).take (HT.sIx ds.length ds.length hi - HT.sIx ds.length 0 lo)
theorem d_slL {a : Addr} {lo hi : Option Int} (st : St K S M H0 H G L B) (h : Dz K S H (.lst ds) (.ref a)) (q : ∀ p H', St K S M H0 H' ((.ref p, .lst (cutD ds lo hi)) :: G) L B → Q (.ref p) H') : rSlG K (.ref a) lo hi H Q := by
  obtain ⟨xs, h1, h2⟩ := z_lst h
  exact .inl ⟨a, xs, rfl, h1.sq, fun p n => q p _ (st.lst n h2.cut)⟩
theorem d_slT {a : Addr} {lo hi : Option Int} (st : St K S M H0 H G L B) (h : Dz K S H (.tup ds) (.ref a)) (q : ∀ p H', St K S M H0 H' ((.ref p, .tup (cutD ds lo hi)) :: G) L B → Q (.ref p) H') : rSlG K (.ref a) lo hi H Q := by
  obtain ⟨xs, h1, h2⟩ := z_tup h
  refine .inr (.inl ⟨a, xs, rfl, h1.sq, fun e => ?_, fun _ p n => q p _ (st.tup n h2.cut)⟩)
  have el := h2.len
  rw [el] at e
  have e3 : cutD ds lo hi = ds := by
    unfold cutD
    rw [e.1, e.2]
    simp
  refine q a H ?_
  rw [e3]
  exact st.add h
theorem d_slS {z : Str} {lo hi : Option Int} (hz : z.length ≤ sizeLine) (q : Q (.str (cutS z lo hi)) H) : rSlG K (.str z) lo hi H Q := .inr (.inr ⟨z, rfl, hz, q⟩)
/-- x in a flat list or tuple -/
theorem d_inL {a : Addr} (h : Dz K S H (.lst ds) (.ref a)) (hx : flatV x = true) (ha : ∀ xs, DzL K S H ds xs → xs.all flatV = true) (q : ∀ xs, DzL K S H ds xs → Q (.bl (inV x xs)) H) : rInG K x (.ref a) H Q := by
  obtain ⟨xs, h1, h2⟩ := z_lst h
  exact .inl ⟨a, xs, rfl, .inl h1.sq, hx, ha xs h2, q xs h2⟩
theorem d_inT {a : Addr} (h : Dz K S H (.tup ds) (.ref a)) (hx : flatV x = true) (ha : ∀ xs, DzL K S H ds xs → xs.all flatV = true) (q : ∀ xs, DzL K S H ds xs → Q (.bl (inV x xs)) H) : rInG K x (.ref a) H Q := by
  obtain ⟨xs, h1, h2⟩ := z_tup h
  exact .inl ⟨a, xs, rfl, .inr h1.sq, hx, ha xs h2, q xs h2⟩
theorem inV_ints {i : Int} : ∀ (ns : List Int), inV (.int i) (ns.map V.int) = decide (i ∈ ns)
  | [] => by simp [inV]
  | n :: ns => by
    have ih := inV_ints (i := i) ns
    unfold inV at ih ⊢
    rw [List.map_cons, List.any_cons, ih]
    by_cases h : i = n
    · subst h; simp [eqV]
    · have h' : ¬ n = i := fun e => h e.symm
      simp [eqV, h, h']
theorem flat_ints : ∀ (ns : List Int), (ns.map V.int).all flatV = true
  | [] => rfl
  | n :: ns => by rw [List.map_cons, List.all_cons, flat_ints ns]; rfl
theorem d_inLI {a : Addr} {i : Int} {ns : List Int} (h : Dz K S H (.lst (ns.map D.int)) (.ref a)) (q : Q (.bl (decide (i ∈ ns))) H) : rInG K (.int i) (.ref a) H Q :=
  d_inL h rfl (fun xs hx => by rw [DzL.ints ns hx]; exact flat_ints ns) fun xs hx => by rw [DzL.ints ns hx, inV_ints]; exact q
theorem d_inTI {a : Addr} {i : Int} {ns : List Int} (h : Dz K S H (.tup (ns.map D.int)) (.ref a)) (q : Q (.bl (decide (i ∈ ns))) H) : rInG K (.int i) (.ref a) H Q :=
  d_inT h rfl (fun xs hx => by rw [DzL.ints ns hx]; exact flat_ints ns) fun xs hx => by rw [DzL.ints ns hx, inV_ints]; exact q

theorem z_fresh {p : Addr} (h : Dz K (fun b => S b ∨ b = p) H d x) : Dz K S H d x := Dz.weak (fun _ => .inl) h
/-- what holds between two turns of a comprehension -/
def LcP (K : PySem.W.Frag) (S M : AS) (H0 : Hp) (G : List (V × D)) (L : List (Addr × List D)) (B : List Addr) (p : Addr) (P : Nat → List D → Prop) (i : Nat) : Hp → Prop := fun H =>
  ∃ es, es.length ≤ i ∧ P i es ∧ St K (fun b => S b ∨ b = p) M H0 H G ((p, es) :: L) B
/-- what a turn of it is to reach -/
def LcE (K : PySem.W.Frag) (S M : AS) (H0 : Hp) (G : List (V × D)) (L : List (Addr × List D)) (B : List Addr) (p : Addr) (P : Nat → List D → Prop) (i : Nat) : VK := fun y H =>
  ∃ acc, H p = some (.lst acc) ∧ acc.length < sizeLine ∧ LcP K S M H0 G L B p P i (upd H p (.lst (acc ++ [y])))
theorem lc_end {G' : List (V × D)} {p : Addr} {P : Nat → List D → Prop} {i : Nat} (st : St K (fun b => S b ∨ b = p) M H0 H G' ((p, es) :: L) B) (hg : ∀ q ∈ G, q ∈ G') (hi : i ≤ 100000) (he : es.length ≤ i) (hy : Dz K (fun b => S b ∨ b = p) H e y) (hp : P (i + 1) (es ++ [e])) :
    LcE K S M H0 G L B p P (i + 1) y H := by
  obtain ⟨h1, h2, xs, h3, h4⟩ := st.la (p, es) (List.mem_cons_self ..)
  refine ⟨xs, h3, ?_, es ++ [e], by rw [List.length_append]; simp; exact he, hp, (st.put (i := 0) (ds' := es ++ [e]) rfl (h4.app (zl_cons hy zl_nil))).sub hg⟩
  rw [h4.len]
  exact Nat.lt_of_le_of_lt (Nat.le_trans he hi) (by decide)
theorem lc_skip {G' : List (V × D)} {p : Addr} {P : Nat → List D → Prop} {i : Nat} (st : St K (fun b => S b ∨ b = p) M H0 H G' ((p, es) :: L) B) (hg : ∀ q ∈ G, q ∈ G') (he : es.length ≤ i) (hp : P (i + 1) es) :
    LcP K S M H0 G L B p P (i + 1) H := ⟨es, Nat.le_trans he (Nat.le_succ _), hp, st.sub hg⟩
theorem g_lc {σ : L2.St} {wi : TI} {g : TG} {tt : TT} {te : TE} {ws : List Nat} (h : wi σ H (FLc g tt te ws σ Q)) : tLc wi g tt te ws σ H Q := h
/-- [elt for x in ..]: es what has been made, P by the turn -/
theorem d_lc {J : It} {n : Nat} {Gq : Addr → Hp → Prop} {Y : Addr → Nat → Hp → V → Hp → Prop} {σ : L2.St} {g : TG} {tt : TT} {te : TE} {ws : List Nat} (w : ∀ p, Walk J n (Gq p) (Y p)) (st : St K S M H0 H G L B)
    (hG : ∀ p es H', St K (fun b => S b ∨ b = p) M H0 H' G ((p, es) :: L) B → Gq p H') (P : Nat → List D → Prop) (p0 : P 0 [])
    (hs : ∀ p i x H1 H2 es, ¬ S p → i < n → es.length ≤ i → P i es → St K (fun b => S b ∨ b = p) M H0 H1 G ((p, es) :: L) B → Y p i H1 x H2 → g x (wipe σ ws) H2 fun σ2 H3 => wipe σ2 ws = wipe σ ws ∧ tt σ2 H3 fun b H4 =>
      if b = true then te σ2 H4 (LcE K S M H0 G L B p P (i + 1)) else LcP K S M H0 G L B p P (i + 1) H4)
    (hd : ∀ p H' es, P n es → es.length ≤ n → St K S M H0 H' ((.ref p, .lst es) :: G) L B → Q (.ref p) H') :
    FLc g tt te ws σ Q J H := by
  intro p np
  have ns := st.nS np
  refine lc_it (w p) (LcP K S M H0 G L B p P) ⟨[], Nat.le_refl _, p0, st.own np zl_nil⟩ (fun i H' _ ⟨es, _, _, s⟩ => hG p es H' s) (fun i x H1 H2 hi ⟨es, hl, pp, s⟩ y => hs p i x H1 H2 es ns hi hl pp s y) fun H' ⟨es, hl, pp, s⟩ => hd p H' es pp hl (s.give ns)

/-- what is walked: a list, a tuple, a text -/
def iSeqG (K : PySem.W.Frag) (tl : TE) : TI := fun σ H R => iList K tl σ H R ∨ iTup K tl σ H R ∨ iStr tl σ H R
theorem PI_or {X : Cx} {tg l : Expr} {w w' : TI} (h : PI X tg l w) (h' : PI X tg l w') : PI X tg l (fun σ H R => w σ H R ∨ w' σ H R) :=
  ⟨fun pins s σ H R I q => q.elim (h.run pins s σ H R I) (h'.run pins s σ H R I)⟩
theorem i_lst {σ : L2.St} {tl : TE} {R : It → Hp → Prop} (h : tl σ H (FItl K R)) : iSeqG K tl σ H R := .inl h
theorem i_tup {σ : L2.St} {tl : TE} {R : It → Hp → Prop} (h : tl σ H (FItt K R)) : iSeqG K tl σ H R := .inr (.inl h)
theorem i_str {σ : L2.St} {tl : TE} {R : It → Hp → Prop} (h : tl σ H (FIts R)) : iSeqG K tl σ H R := .inr (.inr h)
theorem i_rng {σ : L2.St} {ta : TA} {R : It → Hp → Prop} (h : ta σ H (FRng R)) : iRng1 ta σ H R := h
theorem i_rng2 {σ : L2.St} {ta : TA} {R : It → Hp → Prop} (h : ta σ H (FRng2 R)) : iRng2 ta σ H R := h
theorem d_iL {a : Addr} {R : It → Hp → Prop} (h : Dz K S H (.lst ds) (.ref a)) (q : ∀ xs, LzL K S H a xs → DzL K S H ds xs → R (Itl K a) H) : FItl K R (.ref a) H := by
  obtain ⟨xs, h1, h2⟩ := z_lst h
  exact ⟨a, rfl, ⟨xs, h1.sq⟩, q xs h1 h2⟩
theorem d_iT {a : Addr} {R : It → Hp → Prop} (h : Dz K S H (.tup ds) (.ref a)) (q : ∀ xs, LzT K S H a xs → DzL K S H ds xs → R (Itt K a) H) : FItt K R (.ref a) H := by
  obtain ⟨xs, h1, h2⟩ := z_tup h
  exact ⟨a, rfl, ⟨xs, h1.sq⟩, q xs h1 h2⟩
theorem d_iS {z : Str} {R : It → Hp → Prop} (q : R (Its z) H) : FIts R (.str z) H := ⟨z, rfl, q⟩
theorem d_iR {j : Int} {R : It → Hp → Prop} (h0 : -(2 ^ 62) ≤ j) (h1 : j < 2 ^ 62) (q : R (Itr 0 j.toNat) H) : FRng R [.int j] H := ⟨j, rfl, h0, h1, q⟩
theorem i_zip {σ : L2.St} {ta : TA} {R : It → Hp → Prop} (h : ta σ H (FZip K R)) : iZipA K ta σ H R := h
theorem i_enum {σ : L2.St} {ta : TA} {R : It → Hp → Prop} (h : ta σ H (FEnum K R)) : iEnum K ta σ H R := h
theorem d_gT {a : Addr} {n : Nat} {tg : TGs} {σ : L2.St} {N : L2.St → Hp → Prop} (h : Dz K S H (.tup ds) (.ref a)) (hn : ds.length = n) (q : ∀ xs, DzL K S H ds xs → tg xs σ H N) : FGTup K n tg σ N (.ref a) H := by
  obtain ⟨xs, h1, h2⟩ := z_tup h
  exact ⟨a, xs, rfl, h1.sq, by rw [h2.len, hn], q xs h2⟩
/-- list methods on a list of the def's own, the newest or the one ahead of it -/
theorem d_bm {a : Addr} {es : List D} {t : TA} {σ : L2.St} {r : V → List V → Hp → VK → Prop} (st : St K S M H0 H G L B) (hl : (a, es) ∈ L) (h : t σ H fun xs H2 => r (.ref a) xs H2 Q) : FBm K "list" t σ r Q (.ref a) H := by
  obtain ⟨_, _, xs, h3, _⟩ := st.la (a, es) hl
  exact ⟨.inl ⟨rfl, _, SqL.of h3⟩, h⟩
theorem d_bm0 {a : Addr} {es : List D} {r : V → List V → Hp → VK → Prop} (st : St K S M H0 H G L B) (hl : (a, es) ∈ L) (h : r (.ref a) [] H Q) : FBm0 K "list" r Q (.ref a) H := by
  obtain ⟨_, _, xs, h3, _⟩ := st.la (a, es) hl
  exact ⟨.inl ⟨rfl, _, SqL.of h3⟩, h⟩
theorem d_append {a : Addr} {es : List D} {L' : List (Addr × List D)} {i : Nat} (st : St K S M H0 H G L B) (hl : L[i]? = some (a, es)) (hL : L.set i (a, es ++ [d]) = L') (hz : Dz K S H d y) (hn : es.length < 100000) (q : ∀ H', St K S M H0 H' G L' B → Q .non H') : rAppend (.ref a) [y] H Q := by
  obtain ⟨_, _, xs, h3, h4⟩ := st.la (a, es) (List.mem_of_getElem? hl)
  refine ⟨a, xs, y, rfl, rfl, h3, ?_, ?_⟩
  · rw [h4.len]; exact Nat.lt_of_lt_of_le hn (by decide)
  · subst hL
    exact q _ (st.put hl (h4.app (zl_cons hz zl_nil)))
theorem d_clear {a : Addr} {es : List D} {L' : List (Addr × List D)} {i : Nat} (st : St K S M H0 H G L B) (hl : L[i]? = some (a, es)) (hL : L.set i (a, []) = L') (q : ∀ H', St K S M H0 H' G L' B → Q .non H') : rClear (.ref a) [] H Q := by
  obtain ⟨_, _, xs, h3, h4⟩ := st.la (a, es) (List.mem_of_getElem? hl)
  subst hL
  exact ⟨a, xs, rfl, rfl, h3, q _ (st.put hl zl_nil)⟩
theorem d_reverse {a : Addr} {es : List D} {L' : List (Addr × List D)} {i : Nat} (st : St K S M H0 H G L B) (hl : L[i]? = some (a, es)) (hL : L.set i (a, es.reverse) = L') (q : ∀ H', St K S M H0 H' G L' B → Q .non H') : rReverse (.ref a) [] H Q := by
  obtain ⟨_, _, xs, h3, h4⟩ := st.la (a, es) (List.mem_of_getElem? hl)
  subst hL
  exact ⟨a, xs, rfl, rfl, h3, q _ (st.put hl h4.rev)⟩
/-- a list of the def's own is read -/
theorem d_own_ix {a : Addr} {es : List D} {i : Nat} (st : St K S M H0 H G L B) (hl : (a, es) ∈ L) (hi : es[i]? = some d) (q : ∀ v, Dz K S H d v → Q v H) : rIxG K (.ref a) (.int (i : Nat)) H Q := by
  obtain ⟨_, _, xs, h3, h4⟩ := st.la (a, es) hl
  obtain ⟨v, e, hv⟩ := h4.get hi
  exact .inl ⟨a, xs, _, v, rfl, rfl, SqL.of h3, atI_nat e, q v hv⟩
theorem d_own_len {a : Addr} {es : List D} (st : St K S M H0 H G L B) (hl : (a, es) ∈ L) (q : Q (.int (es.length : Nat)) H) : rLenG K [.ref a] H Q := by
  obtain ⟨_, _, xs, h3, h4⟩ := st.la (a, es) hl
  exact ⟨_, es.length, rfl, .inl ⟨xs, SqL.of h3, h4.len.symm⟩, q⟩
theorem d_set {a : Addr} {es : List D} {L' : List (Addr × List D)} {i j : Nat} {N : Hp → Prop} (st : St K S M H0 H G L B) (hl : L[i]? = some (a, es)) (hL : L.set i (a, es.set j d) = L') (hj : j < es.length) (hz : Dz K S H d y) (q : ∀ H', St K S M H0 H' G L' B → N H') : rSetL (.ref a) (.int (j : Nat)) y H N := by
  obtain ⟨_, _, xs, h3, h4⟩ := st.la (a, es) (List.mem_of_getElem? hl)
  subst hL
  refine ⟨a, xs, _, j, rfl, rfl, h3, ?_, q _ (st.put hl (h4.set hz))⟩
  unfold ixN
  have hl2 : es.length = xs.length := h4.len.symm
  rw [if_pos (by omega), if_pos (by omega), Int.toNat_natCast]
/-- zip of two tuples of data -/
theorem d_zipT {a b : Addr} {R : It → Hp → Prop} (h : Dz K S H (.tup ds) (.ref a)) (h' : Dz K S H (.tup es) (.ref b)) (q : ∀ xs ys, LzT K S H a xs → LzT K S H b ys → DzL K S H ds xs → DzL K S H es ys → R (ItzT K a b) H) : FZip K R [.ref a, .ref b] H := by
  obtain ⟨xs, h1, h2⟩ := z_tup h
  obtain ⟨ys, h3, h4⟩ := z_tup h'
  exact ⟨a, b, xs, ys, rfl, .inr ⟨h1.sq, h3.sq, q xs ys h1 h3 h2 h4⟩⟩
theorem d_zipL {a b : Addr} {R : It → Hp → Prop} (h : Dz K S H (.lst ds) (.ref a)) (h' : Dz K S H (.lst es) (.ref b)) (q : ∀ xs ys, LzL K S H a xs → LzL K S H b ys → DzL K S H ds xs → DzL K S H es ys → R (Itz K a b) H) : FZip K R [.ref a, .ref b] H := by
  obtain ⟨xs, h1, h2⟩ := z_lst h
  obtain ⟨ys, h3, h4⟩ := z_lst h'
  exact ⟨a, b, xs, ys, rfl, .inl ⟨h1.sq, h3.sq, q xs ys h1 h3 h2 h4⟩⟩
theorem d_enum {a : Addr} {R : It → Hp → Prop} (h : Dz K S H (.lst ds) (.ref a)) (q : ∀ xs, LzL K S H a xs → DzL K S H ds xs → R (Ite K a) H) : FEnum K R [.ref a] H := by
  obtain ⟨xs, h1, h2⟩ := z_lst h
  exact ⟨a, xs, rfl, h1.sq, q xs h1 h2⟩
/-- truth of data -/
theorem d_truL {a : Addr} (h : Dz K S H (.lst ds) (.ref a)) : TruV K (.ref a) H (!ds.isEmpty) := by
  obtain ⟨xs, h1, h2⟩ := z_lst h
  refine .inl ⟨xs, h1.sq, ?_⟩
  have := h2.len
  cases xs <;> cases ds <;> simp_all
theorem d_truT {a : Addr} (h : Dz K S H (.tup ds) (.ref a)) : TruV K (.ref a) H (!ds.isEmpty) := by
  obtain ⟨xs, h1, h2⟩ := z_tup h
  refine .inr (.inl ⟨xs, h1.sq, ?_⟩)
  have := h2.len
  cases xs <;> cases ds <;> simp_all
/-- isinstance of data -/
def D.tn : D → String
  | .non => "NoneType" | .bl _ => "bool" | .int _ => "int" | .str _ => "str" | .lst _ => "list" | .tup _ => "tuple" | .dic _ => "dict" | .ins _ _ => ""
def D.noIns : D → Bool
  | .ins _ _ => false
  | _ => true
theorem d_ty (h : Dz K S H d x) (n : d.noIns = true) : TyX K H x (.type d.tn) := by
  cases d with
  | non => cases h; exact .base .non
  | bl b => cases h; exact .base (.bl b)
  | int i => cases h; exact .base (.int i)
  | str z => cases h; exact .base (.str z)
  | lst ds =>
    obtain ⟨a, xs, e, h1, _⟩ := h
    subst e
    exact .base (.lst h1.2)
  | tup ds =>
    obtain ⟨a, xs, e, h1, _⟩ := h
    subst e
    rcases h1 with ⟨_, h1 | ⟨o, h1⟩⟩ | ⟨o, its, n, h1, h2, _⟩
    · exact .base (.tup h1)
    · exact .fTuple h1
    · exact .kTuple h1 h2
  | dic kvs =>
    obtain ⟨a, e, _, h1⟩ := h
    subst e
    exact .base (.dK h1)
  | ins C fs => cases n
def rIsiG (K : PySem.W.Frag) : List V → Hp → VK → Prop := fun xs H Q => rIsi K xs H Q ∨ rIsiT K xs H Q
/-- isinstance(x, T) for T among int, bool, str, tuple, list -/
def isT (T : String) (d : D) : Bool := if d.tn = "bool" then (T == "bool" || T == "int") else T == d.tn
theorem kitT : ∀ t ∈ ["NoneType", "bool", "int", "str", "list", "tuple", "dict"], ∀ T ∈ ["int", "bool", "str", "tuple", "list", "dict"], kitB t T = some (if t = "bool" then (T == "bool" || T == "int") else T == t) := by decide +kernel
theorem kit_isT (T : String) (hT : T ∈ ["int", "bool", "str", "tuple", "list", "dict"]) (n : d.noIns = true) : kitB d.tn T = some (isT T d) := by
  refine kitT d.tn ?_ T hT
  cases d <;> first | (cases n; done) | simp [D.tn]
theorem d_isi {T : String} (h : Dz K S H d x) (n : d.noIns = true) (hT : T ∈ ["int", "bool", "str", "tuple", "list", "dict"] := by decide) (q : Q (.bl (isT T d)) H) : rIsiG K [x, .ty T] H Q :=
  .inl ⟨x, .ty T, _, _, isT T d, rfl, .ty T, d_ty h n, kit_ty (kit_isT T hT n), q⟩
end
section
variable {X : Cx}
theorem piG {tg l : Expr} {tl : TE} (h : PE X l tl) : PI X tg l (iSeqG X.K tl) := PI_or (pi_list h) (PI_or (pi_tup h) (pi_str h))
theorem call_isiG : CallR X (.builtin "isinstance") (rIsiG X.K) := CallR.or call_isi call_isiT
theorem call_lenG : CallR X (.builtin "len") (rLenG X.K) := call_len
theorem call_listG : CallR X (.type "list") (rListG X.K) := call_list_of
theorem call_tupleG : CallR X (.type "tuple") (rTupleG X.K) := call_tuple_of
end
end Vf
namespace Vf
open PySem PySem.Spec PyProof.Rows L2 RZ
/-! ## 8. what else -/
def rGetL : V → V → Hp → VK → Prop := fun o i H Q => ∃ (p : Addr) (xs : List V) (k : Nat) (v : V), o = .ref p ∧ i = .int (k : Nat) ∧ H p = some (.lst xs) ∧ xs[k]? = some v ∧ Q v H
theorem pget_ix {X : Cx} : PGet X rGetL := by
  intro pins s σ H o i ov iv Q I ro ri h
  obtain ⟨p, xs, k, v, rfl, rfl, hp, hk, q⟩ := h
  cases ro
  obtain ⟨t, rfl⟩ := ri
  obtain ⟨its, r, pl, hz⟩ := I.list (SqL.of hp)
  obtain ⟨w, ew, rw'⟩ := r.get hk
  have hl := r.length
  have hn := line63
  have hk2 : k < xs.length := (List.getElem?_eq_some_iff.mp hk).1
  exact wpAny_getItem_list pl.isList (by omega) (by omega) (by rw [Int.toNat_natCast]; simpa using ew) ⟨v, H, I, rw', q⟩
/-- a statement, then the rest, with a word between them -/
def tMid (t u : TS) : TS := fun D σ H => ∃ Mid : L2.St → Hp → Prop, t { D with nx := Mid } σ H ∧ ∀ σ' H', Mid σ' H' → u D σ' H'
theorem pss_mid {X : Cx} {st : Stmt} {rest : List Stmt} {t u : TS} (h1 : PS X st t) (h2 : PSs X rest u) : PSs X (st :: rest) (tMid t u) := by
  refine ⟨fun pins s σ H D I h => ?_⟩
  obtain ⟨Mid, hm, hu⟩ := h
  refine wpAny_execs_cons (thn (h1.run pins s σ H { D with nx := Mid } I hm) fun f s1 q => ?_)
  cases f with
  | next =>
    obtain ⟨σ', H', I', q⟩ := q
    exact h2.run pins s1 σ' H' D I' (hu σ' H' q)
  | ret v => exact q
  | brk => exact q
  | cont => exact q
theorem g_mid {t u : TS} {D : Ends} {σ : L2.St} {H : Hp} (Mid : L2.St → Hp → Prop) (h1 : t { D with nx := Mid } σ H) (h2 : ∀ σ' H', Mid σ' H' → u D σ' H') : tMid t u D σ H := ⟨Mid, h1, h2⟩
structure KTup (K : PySem.W.Frag) (a : Addr) (xs : List V) : Prop where
  ex : ∃ (o : Obj) (its : Array Value) (n : Nat), K.lookup a = some o ∧ o.cls = .type "tuple" ∧ o.data = .seq its n ∧ its.size ≤ sizeLine ∧ Vals xs its.toList
theorem KTup.dz {K : PySem.W.Frag} {a : Addr} {xs : List V} {ds : List D} {S : AS} {H : Hp} (k : KTup K a xs) (h : DzL K S H ds xs) : Dz K S H (.tup ds) (.ref a) := ⟨a, xs, rfl, .inr k.ex, h⟩
section
variable {K : PySem.W.Frag} {H : Hp} {Q : VK} {a : Addr} {xs : List V} {v y : V} {i : Nat} {N : Hp → Prop}
theorem b_ix (i : Nat) (h : H a = some (.lst xs)) (hi : xs[i]? = some v) (q : Q v H) : rIxG K (.ref a) (.int (i : Nat)) H Q := .inl ⟨a, xs, _, v, rfl, rfl, SqL.of h, atI_nat hi, q⟩
theorem b_set (i : Nat) (h : H a = some (.lst xs)) (hi : i < xs.length) (q : N (upd H a (.lst (xs.set i y)))) : rSetL (.ref a) (.int (i : Nat)) y H N := by
  refine ⟨a, xs, _, i, rfl, rfl, h, ?_, q⟩
  unfold ixN
  rw [if_pos (by omega), if_pos (by omega), Int.toNat_natCast]
theorem b_get (i : Nat) (h : H a = some (.lst xs)) (hi : xs[i]? = some v) (q : Q v H) : rGetL (.ref a) (.int (i : Nat)) H Q := ⟨a, xs, i, v, rfl, rfl, h, hi, q⟩
theorem b_len (h : H a = some (.lst xs)) (q : Q (.int (xs.length : Nat)) H) : rLenG K [.ref a] H Q := ⟨_, xs.length, rfl, .inl ⟨xs, SqL.of h, rfl⟩, q⟩
theorem g_augS {o i e : TE} {tget : V → V → Hp → VK → Prop} {tip : TIp} {tset : TSet} {D : Ends} {σ : L2.St} (h : o σ H fun o H1 => i σ H1 fun i H2 => tget o i H2 fun x H3 => e σ H3 fun y H4 => tip x y H4 fun z H5 => tset o i z H5 fun H6 => D.nx σ H6) : tAugS o i e tget tip tset D σ H := h
theorem g_ipI {f : Int → Int → Int} {i j : Int} (q : Q (.int (f i j)) H) : ipI f (.int i) (.int j) H Q := ⟨i, j, rfl, rfl, q⟩
theorem g_sub {to ti : TE} {t : TSet} {σ : L2.St} {N : L2.St → Hp → Prop} (h : to σ H fun o H1 => ti σ H1 fun i H2 => t o i v H2 fun H3 => N σ H3) : gSub to ti t v σ H N := h
end
/-- what a call of draws starts from -/
theorem Bag.get {K : PySem.W.Frag} {S : AS} {H : Hp} {a : Addr} (b : Bag K S H a) : ∃ (r h i : Int) (c : Addr) (ns : List Int), H a = some (.lst [.int r, .int h, .int i, .ref c]) ∧ ¬ S c ∧ H c = some (.lst (ns.map V.int)) ∧ (∀ n ∈ ns, 0 ≤ n) ∧ 0 ≤ r ∧ 0 ≤ h ∧ h < 2147483647 ∧ 0 ≤ i := by
  obtain ⟨r, h, i, c, ns, h1, h2, h3⟩ := b.ex
  obtain ⟨c', xs, e, q1, q2⟩ := h2
  cases e
  rw [DzL.ints ns q2] at q1
  exact ⟨r, h, i, c, ns, h1, q1.1, q1.2, h3⟩
theorem Bag.mk' {K : PySem.W.Frag} {S : AS} {H : Hp} {a : Addr} {r h i : Int} {c : Addr} {ns : List Int} (h1 : H a = some (.lst [.int r, .int h, .int i, .ref c])) (hc : ¬ S c) (h2 : H c = some (.lst (ns.map V.int))) (h3 : ∀ n ∈ ns, 0 ≤ n) (h4 : 0 ≤ r) (h5 : 0 ≤ h) (h6 : h < 2147483647) (h7 : 0 ≤ i) : Bag K S H a :=
  ⟨⟨r, h, i, c, ns, h1, ⟨c, _, rfl, ⟨hc, h2⟩, DzL.of_ints ns⟩, h3, h4, h5, h6, h7⟩⟩
section
variable {K : PySem.W.Frag} {S M : AS} {H0 H : Hp} {G : List (V × D)} {L : List (Addr × List D)} {B : List Addr} {x : V}
theorem St.eqB {b : Bool} (st : St K S M H0 H G L B) (m : (x, .bl b) ∈ G) : x = .bl b := st.dz m
theorem St.eqI {b : Int} (st : St K S M H0 H G L B) (m : (x, .int b) ∈ G) : x = .int b := st.dz m
theorem St.eqS {b : Str} (st : St K S M H0 H G L B) (m : (x, .str b) ∈ G) : x = .str b := st.dz m
theorem St.eqN (st : St K S M H0 H G L B) (m : (x, .non) ∈ G) : x = .non := st.dz m
theorem St.isT {ds : List D} (st : St K S M H0 H G L B) (m : (x, .tup ds) ∈ G) : ∃ a, x = .ref a := by
  obtain ⟨a, _, e, _⟩ := st.dz m
  exact ⟨a, e⟩
theorem St.isL {ds : List D} (st : St K S M H0 H G L B) (m : (x, .lst ds) ∈ G) : ∃ a, x = .ref a := by
  obtain ⟨a, _, e, _⟩ := st.dz m
  exact ⟨a, e⟩
theorem z_int' {i j : Int} (h : i = j) : Dz K S H (.int i) (.int j) := by subst h; exact z_int
end
/-! ## 9. promises by the arguments' data: enc what the arguments are, pre what a caller shows, then the answer -/
section
variable {α : Type} (K : PySem.W.Frag) (enc : α → List D) (pre : α → Prop)
def spR (post : α → D → Prop) : Sp := fun vs H Q _ => ∃ S a, Okk S H ∧ DzL K S H (enc a) vs ∧ pre a ∧ ∀ v d H', Same H H' → Dz K S H' d v → post a d → Q v H'
def spV (f : α → D) : Sp := fun vs H Q _ => ∃ S a, Okk S H ∧ DzL K S H (enc a) vs ∧ pre a ∧ ∀ v H', Same H H' → Dz K S H' (f a) v → Q v H'
def spBl (f : α → Bool) : Sp := fun vs H Q _ => ∃ S a, Okk S H ∧ DzL K S H (enc a) vs ∧ pre a ∧ ∀ H', Same H H' → Q (.bl (f a)) H'
def spInt (f : α → Int) : Sp := fun vs H Q _ => ∃ S a, Okk S H ∧ DzL K S H (enc a) vs ∧ pre a ∧ ∀ H', Same H H' → Q (.int (f a)) H'
def spStr (f : α → Str) : Sp := fun vs H Q _ => ∃ S a, Okk S H ∧ DzL K S H (enc a) vs ∧ pre a ∧ ∀ H', Same H H' → Q (.str (f a)) H'
def spUnit : Sp := fun vs H Q _ => ∃ S a, Okk S H ∧ DzL K S H (enc a) vs ∧ pre a ∧ ∀ H', Same H H' → Q .non H'
/-- with draws: the bag is the first argument -/
def spDr (post : α → D → Prop) : Sp := fun vs H Q _ => ∃ S b r a, vs = .ref b :: r ∧ Okk S H ∧ S b ∧ Bag K S H b ∧ DzL K S H (enc a) r ∧ pre a ∧ ∀ v d H', Kp (fun c => c = b) H H' → Bag K S H' b → Dz K S H' d v → post a d → Q v H'
end
section
variable {α : Type} {K : PySem.W.Frag} {enc : α → List D} {pre : α → Prop} {S M : AS} {H0 H : Hp} {G : List (V × D)} {L : List (Addr × List D)} {B : List Addr} {Q : VK} {E : XK} {vs : List V} {n : Nat}
theorem spR_len {post : α → D → Prop} (hn : ∀ a, (enc a).length = n) (h : spR K enc pre post vs H Q E) : vs.length = n := by
  obtain ⟨S, a, _, hz, _⟩ := h
  rw [hz.len, hn]
theorem spV_len {f : α → D} (hn : ∀ a, (enc a).length = n) (h : spV K enc pre f vs H Q E) : vs.length = n := by
  obtain ⟨S, a, _, hz, _⟩ := h
  rw [hz.len, hn]
theorem spBl_len {f : α → Bool} (hn : ∀ a, (enc a).length = n) (h : spBl K enc pre f vs H Q E) : vs.length = n := by
  obtain ⟨S, a, _, hz, _⟩ := h
  rw [hz.len, hn]
theorem spInt_len {f : α → Int} (hn : ∀ a, (enc a).length = n) (h : spInt K enc pre f vs H Q E) : vs.length = n := by
  obtain ⟨S, a, _, hz, _⟩ := h
  rw [hz.len, hn]
theorem spStr_len {f : α → Str} (hn : ∀ a, (enc a).length = n) (h : spStr K enc pre f vs H Q E) : vs.length = n := by
  obtain ⟨S, a, _, hz, _⟩ := h
  rw [hz.len, hn]
theorem spUnit_len (hn : ∀ a, (enc a).length = n) (h : spUnit K enc pre vs H Q E) : vs.length = n := by
  obtain ⟨S, a, _, hz, _⟩ := h
  rw [hz.len, hn]
theorem spDr_len {post : α → D → Prop} (hn : ∀ a, (enc a).length = n) (h : spDr K enc pre post vs H Q E) : vs.length = n + 1 := by
  obtain ⟨S, b, r, a, e, _, _, _, hz, _⟩ := h
  rw [e, List.length_cons, hz.len, hn]
theorem c_R {post : α → D → Prop} (a : α) (st : St K S M H0 H G L B) (hz : DzL K S H (enc a) vs) (hp : pre a) (q : ∀ v d H', post a d → St K S M H0 H' ((v, d) :: G) L B → Q v H') : spR K enc pre post vs H Q E :=
  ⟨S, a, st.ok, hz, hp, fun v d H' e hv po => q v d H' po ((st.same e).add hv)⟩
theorem c_V {f : α → D} (a : α) (st : St K S M H0 H G L B) (hz : DzL K S H (enc a) vs) (hp : pre a) (q : ∀ v H', St K S M H0 H' ((v, f a) :: G) L B → Q v H') : spV K enc pre f vs H Q E :=
  ⟨S, a, st.ok, hz, hp, fun v H' e hv => q v H' ((st.same e).add hv)⟩
theorem c_Bl {f : α → Bool} (a : α) (st : St K S M H0 H G L B) (hz : DzL K S H (enc a) vs) (hp : pre a) (q : ∀ H', St K S M H0 H' G L B → Q (.bl (f a)) H') : spBl K enc pre f vs H Q E :=
  ⟨S, a, st.ok, hz, hp, fun H' e => q H' (st.same e)⟩
theorem c_Int {f : α → Int} (a : α) (st : St K S M H0 H G L B) (hz : DzL K S H (enc a) vs) (hp : pre a) (q : ∀ H', St K S M H0 H' G L B → Q (.int (f a)) H') : spInt K enc pre f vs H Q E :=
  ⟨S, a, st.ok, hz, hp, fun H' e => q H' (st.same e)⟩
theorem c_Str {f : α → Str} (a : α) (st : St K S M H0 H G L B) (hz : DzL K S H (enc a) vs) (hp : pre a) (q : ∀ H', St K S M H0 H' G L B → Q (.str (f a)) H') : spStr K enc pre f vs H Q E :=
  ⟨S, a, st.ok, hz, hp, fun H' e => q H' (st.same e)⟩
theorem c_Unit (a : α) (st : St K S M H0 H G L B) (hz : DzL K S H (enc a) vs) (hp : pre a) (q : ∀ H', St K S M H0 H' G L B → Q .non H') : spUnit K enc pre vs H Q E :=
  ⟨S, a, st.ok, hz, hp, fun H' e => q H' (st.same e)⟩
theorem c_Dr {post : α → D → Prop} {b : Addr} (a : α) (st : St K S M H0 H G L [b]) (hz : DzL K S H (enc a) vs) (hp : pre a) (q : ∀ v d H', post a d → St K S M H0 H' ((v, d) :: G) L [b] → Q v H') : spDr K enc pre post (.ref b :: vs) H Q E :=
  ⟨S, b, vs, a, rfl, st.ok, (st.ba b (by simp)).1, (st.ba b (by simp)).2.2, hz, hp, fun v d H' e hb hv po => q v d H' po ((st.bag (by simp) e hb rfl).add hv)⟩
/-- the end of a def with draws -/
theorem St.endB {b : Addr} (st : St K S (fun c => c = b) H0 H G L [b]) : Kp (fun c => c = b) H0 H := st.kp
theorem St.bagB {b : Addr} (st : St K S M H0 H G L [b]) : Bag K S H b := (st.ba b (by simp)).2.2
end
end Vf
namespace Vf
open PySem PySem.Spec PyProof.Rows L2 RZ
/-! ## 10. walks over data -/
theorem g_yes {σ : L2.St} {H : Hp} {Q : Bool → Hp → Prop} (h : Q true H) : tYes σ H Q := h
section
variable {K : PySem.W.Frag} {S M : AS} {H0 H : Hp} {G : List (V × D)} {L : List (Addr × List D)} {B : List Addr} {Q : VK} {ds es : List D} {a b : Addr}
/-- the i-th item's data -/
def YD (K : PySem.W.Frag) (S : AS) (ds : List D) : Nat → Hp → V → Hp → Prop := fun i H x H' => H' = H ∧ ∃ d, ds[i]? = some d ∧ Dz K S H d x
theorem walk_Ld : Walk (Itl K a) ds.length (fun H => Dz K S H (.lst ds) (.ref a)) (YD K S ds) := by
  refine ⟨fun i H hi h => ?_, fun H h => ?_, fun i H x H' hi h y => ?_⟩
  · obtain ⟨xs, h1, h2⟩ := z_lst h
    obtain ⟨v, e, _⟩ := h2.get (d := ds[i]) (List.getElem?_eq_getElem hi)
    exact ⟨xs, v, h1.sq, e⟩
  · obtain ⟨xs, h1, h2⟩ := z_lst h
    exact ⟨xs, h1.sq, by rw [h2.len]; exact Nat.le_refl _⟩
  · obtain ⟨xs, h1, h2⟩ := z_lst h
    obtain ⟨v, e, hv⟩ := h2.get (d := ds[i]) (List.getElem?_eq_getElem hi)
    have q := y.2 xs h1.sq
    rw [e] at q
    cases q
    exact ⟨y.1, _, List.getElem?_eq_getElem hi, hv⟩
theorem walk_Td : Walk (Itt K a) ds.length (fun H => Dz K S H (.tup ds) (.ref a)) (YD K S ds) := by
  refine ⟨fun i H hi h => ?_, fun H h => ?_, fun i H x H' hi h y => ?_⟩
  · obtain ⟨xs, h1, h2⟩ := z_tup h
    obtain ⟨v, e, _⟩ := h2.get (d := ds[i]) (List.getElem?_eq_getElem hi)
    exact ⟨xs, v, h1.sq, e⟩
  · obtain ⟨xs, h1, h2⟩ := z_tup h
    exact ⟨xs, h1.sq, by rw [h2.len]; exact Nat.le_refl _⟩
  · obtain ⟨xs, h1, h2⟩ := z_tup h
    obtain ⟨v, e, hv⟩ := h2.get (d := ds[i]) (List.getElem?_eq_getElem hi)
    have q := y.2 xs h1.sq
    rw [e] at q
    cases q
    exact ⟨y.1, _, List.getElem?_eq_getElem hi, hv⟩
/-- a text's signs, a range's ints -/
def YS (z : Str) : Nat → Hp → V → Hp → Prop := fun i H v H' => H' = H ∧ ∃ c, z.cps[i]? = some c ∧ v = .str ⟨#[c]⟩
/-- comprehensions: over a list, a tuple, a text, a range -/
theorem lc_L {g : TG} {tt : TT} {te : TE} {ws : List Nat} {σ : L2.St} (st : St K S M H0 H G L B) (m : (V.ref a, D.lst ds) ∈ G) (P : Nat → List D → Prop) (p0 : P 0 [])
    (hs : ∀ p i d x H1 es, ¬ S p → ds[i]? = some d → i < ds.length → es.length ≤ i → P i es → St K (fun b => S b ∨ b = p) M H0 H1 ((x, d) :: G) ((p, es) :: L) B → g x (wipe σ ws) H1 fun σ2 H3 => wipe σ2 ws = wipe σ ws ∧ tt σ2 H3 fun b H4 =>
      if b = true then te σ2 H4 (LcE K S M H0 G L B p P (i + 1)) else LcP K S M H0 G L B p P (i + 1) H4)
    (hd : ∀ p H' es, P ds.length es → es.length ≤ ds.length → St K S M H0 H' ((.ref p, .lst es) :: G) L B → Q (.ref p) H') : FItl K (FLc g tt te ws σ Q) (.ref a) H := by
  obtain ⟨xs, h1, _⟩ := z_lst (st.dz m)
  refine ⟨a, rfl, ⟨xs, h1.sq⟩, d_lc (fun p => walk_Ld (S := fun b => S b ∨ b = p)) st (fun p es H' s => s.dz m) P p0 (fun p i x H1 H2 es n hi hl pe s y => ?_) hd⟩
  obtain ⟨e, d, hd', hx⟩ := y
  subst e
  exact hs p i d x _ es n hd' hi hl pe (s.add hx)
theorem lc_T {g : TG} {tt : TT} {te : TE} {ws : List Nat} {σ : L2.St} (st : St K S M H0 H G L B) (m : (V.ref a, D.tup ds) ∈ G) (P : Nat → List D → Prop) (p0 : P 0 [])
    (hs : ∀ p i d x H1 es, ¬ S p → ds[i]? = some d → i < ds.length → es.length ≤ i → P i es → St K (fun b => S b ∨ b = p) M H0 H1 ((x, d) :: G) ((p, es) :: L) B → g x (wipe σ ws) H1 fun σ2 H3 => wipe σ2 ws = wipe σ ws ∧ tt σ2 H3 fun b H4 =>
      if b = true then te σ2 H4 (LcE K S M H0 G L B p P (i + 1)) else LcP K S M H0 G L B p P (i + 1) H4)
    (hd : ∀ p H' es, P ds.length es → es.length ≤ ds.length → St K S M H0 H' ((.ref p, .lst es) :: G) L B → Q (.ref p) H') : FItt K (FLc g tt te ws σ Q) (.ref a) H := by
  obtain ⟨xs, h1, _⟩ := z_tup (st.dz m)
  refine ⟨a, rfl, ⟨xs, h1.sq⟩, d_lc (fun p => walk_Td (S := fun b => S b ∨ b = p)) st (fun p es H' s => s.dz m) P p0 (fun p i x H1 H2 es n hi hl pe s y => ?_) hd⟩
  obtain ⟨e, d, hd', hx⟩ := y
  subst e
  exact hs p i d x _ es n hd' hi hl pe (s.add hx)
theorem lc_S {g : TG} {tt : TT} {te : TE} {ws : List Nat} {σ : L2.St} {z : Str} (st : St K S M H0 H G L B) (P : Nat → List D → Prop) (p0 : P 0 [])
    (hs : ∀ p i c x H1 es, ¬ S p → z.cps[i]? = some c → i < z.cps.size → es.length ≤ i → P i es → St K (fun b => S b ∨ b = p) M H0 H1 G ((p, es) :: L) B → x = .str ⟨#[c]⟩ → g x (wipe σ ws) H1 fun σ2 H3 => wipe σ2 ws = wipe σ ws ∧ tt σ2 H3 fun b H4 =>
      if b = true then te σ2 H4 (LcE K S M H0 G L B p P (i + 1)) else LcP K S M H0 G L B p P (i + 1) H4)
    (hd : ∀ p H' es, P z.cps.size es → es.length ≤ z.cps.size → St K S M H0 H' ((.ref p, .lst es) :: G) L B → Q (.ref p) H') : FIts (FLc g tt te ws σ Q) (.str z) H := by
  refine ⟨z, rfl, d_lc (fun p => walk_str) st (fun p es H' s => trivial) P p0 (fun p i x H1 H2 es n hi hl pe s y => ?_) hd⟩
  obtain ⟨e, c, hc, hx⟩ := y
  subst e
  exact hs p i c x _ es n hc hi hl pe s hx
theorem lc_R {g : TG} {tt : TT} {te : TE} {ws : List Nat} {σ : L2.St} {n : Nat} (hn : n ≤ 1000000) (st : St K S M H0 H G L B) (P : Nat → List D → Prop) (p0 : P 0 [])
    (hs : ∀ p i x H1 es, ¬ S p → i < n → es.length ≤ i → P i es → St K (fun b => S b ∨ b = p) M H0 H1 G ((p, es) :: L) B → x = .int (i : Nat) → g x (wipe σ ws) H1 fun σ2 H3 => wipe σ2 ws = wipe σ ws ∧ tt σ2 H3 fun b H4 =>
      if b = true then te σ2 H4 (LcE K S M H0 G L B p P (i + 1)) else LcP K S M H0 G L B p P (i + 1) H4)
    (hd : ∀ p H' es, P n es → es.length ≤ n → St K S M H0 H' ((.ref p, .lst es) :: G) L B → Q (.ref p) H') : FRng (FLc g tt te ws σ Q) [.int (n : Nat)] H := by
  refine ⟨n, rfl, by omega, by omega, ?_⟩
  rw [Int.toNat_natCast]
  refine d_lc (fun p => walk_range) st (fun p es H' s => trivial) P p0 (fun p i x H1 H2 es n hi hl pe s y => ?_) hd
  obtain ⟨e, hx⟩ := y
  subst e
  exact hs p i x _ es n hi hl pe s (by rw [hx]; simp)
theorem lc_RI {g : TG} {tt : TT} {te : TE} {ws : List Nat} {σ : L2.St} {n : Int} (h0 : 0 ≤ n) (hn : n ≤ 1000000) (st : St K S M H0 H G L B) (P : Nat → List D → Prop) (p0 : P 0 [])
    (hs : ∀ p i x H1 es, ¬ S p → i < n.toNat → es.length ≤ i → P i es → St K (fun b => S b ∨ b = p) M H0 H1 G ((p, es) :: L) B → x = .int (i : Nat) → g x (wipe σ ws) H1 fun σ2 H3 => wipe σ2 ws = wipe σ ws ∧ tt σ2 H3 fun b H4 =>
      if b = true then te σ2 H4 (LcE K S M H0 G L B p P (i + 1)) else LcP K S M H0 G L B p P (i + 1) H4)
    (hd : ∀ p H' es, P n.toNat es → es.length ≤ n.toNat → St K S M H0 H' ((.ref p, .lst es) :: G) L B → Q (.ref p) H') : FRng (FLc g tt te ws σ Q) [.int n] H := by
  have e : n = ((n.toNat : Nat) : Int) := by omega
  rw [e]
  exact lc_R (by omega) st P p0 hs hd
/-- zip of two tuples, of two lists: a new pair each turn -/
def YZ (K : PySem.W.Frag) (S : AS) (ds es : List D) : Nat → Hp → V → Hp → Prop := fun i H v H' => ∃ T x y d e, v = .ref T ∧ H T = none ∧ H' = upd H T (.tup [x, y]) ∧ ds[i]? = some d ∧ es[i]? = some e ∧ Dz K S H d x ∧ Dz K S H e y
theorem walk_ZT {n : Nat} (hn : n = min ds.length es.length) : Walk (ItzT K a b) n (fun H => Dz K S H (.tup ds) (.ref a) ∧ Dz K S H (.tup es) (.ref b)) (YZ K S ds es) := by
  subst hn
  refine ⟨fun i H hi h => ?_, fun H h => ?_, fun i H v H' hi h y => ?_⟩
  · obtain ⟨xs, h1, h2⟩ := z_tup h.1
    obtain ⟨ys, h3, h4⟩ := z_tup h.2
    obtain ⟨v, e, _⟩ := h2.get (d := ds[i]'(by omega)) (List.getElem?_eq_getElem (by omega))
    obtain ⟨w, e', _⟩ := h4.get (d := es[i]'(by omega)) (List.getElem?_eq_getElem (by omega))
    exact ⟨xs, ys, v, w, h1.sq, h3.sq, e, e'⟩
  · obtain ⟨xs, h1, h2⟩ := z_tup h.1
    obtain ⟨ys, h3, h4⟩ := z_tup h.2
    exact ⟨xs, ys, h1.sq, h3.sq, by rw [h2.len, h4.len]; omega⟩
  · obtain ⟨xs, h1, h2⟩ := z_tup h.1
    obtain ⟨ys, h3, h4⟩ := z_tup h.2
    obtain ⟨v', e, hv⟩ := h2.get (d := ds[i]'(by omega)) (List.getElem?_eq_getElem (by omega))
    obtain ⟨w, e', hw⟩ := h4.get (d := es[i]'(by omega)) (List.getElem?_eq_getElem (by omega))
    obtain ⟨T, x, y', q1, q2, q3, q4, q5⟩ := y
    have r1 := q4 xs h1.sq
    have r2 := q5 ys h3.sq
    rw [e] at r1
    rw [e'] at r2
    cases r1
    cases r2
    exact ⟨T, _, _, _, _, q1, q2, q3, List.getElem?_eq_getElem (by omega), List.getElem?_eq_getElem (by omega), hv, hw⟩
theorem lc_ZT {g : TG} {tt : TT} {te : TE} {ws : List Nat} {σ : L2.St} (st : St K S M H0 H G L B) (m : (V.ref a, D.tup ds) ∈ G) (m' : (V.ref b, D.tup es) ∈ G) (P : Nat → List D → Prop) (p0 : P 0 [])
    (hs : ∀ p i d e x y T H1 rs, ¬ S p → ds[i]? = some d → es[i]? = some e → rs.length ≤ i → P i rs → St K (fun b => S b ∨ b = p) M H0 H1 ((.ref T, .tup [d, e]) :: (x, d) :: (y, e) :: G) ((p, rs) :: L) B → SqT K H1 T [x, y] → g (.ref T) (wipe σ ws) H1 fun σ2 H3 => wipe σ2 ws = wipe σ ws ∧ tt σ2 H3 fun b H4 =>
      if b = true then te σ2 H4 (LcE K S M H0 G L B p P (i + 1)) else LcP K S M H0 G L B p P (i + 1) H4)
    (hd : ∀ p H' rs, P (min ds.length es.length) rs → rs.length ≤ min ds.length es.length → St K S M H0 H' ((.ref p, .lst rs) :: G) L B → Q (.ref p) H') : FZip K (FLc g tt te ws σ Q) [.ref a, .ref b] H := by
  obtain ⟨xs, h1, h2⟩ := z_tup (st.dz m)
  obtain ⟨ys, h3, h4⟩ := z_tup (st.dz m')
  refine ⟨a, b, xs, ys, rfl, .inr ⟨h1.sq, h3.sq, d_lc (fun p => walk_ZT (S := fun b => S b ∨ b = p) rfl) st (fun p es H' s => ⟨s.dz m, s.dz m'⟩) P p0 (fun p i v H1 H2 rs n hi hl pe s y => ?_) hd⟩⟩
  obtain ⟨T, x, y, d, e, rfl, nT, rfl, q1, q2, q3, q4⟩ := y
  have s2 := (s.add q4).add q3
  exact hs p i d e x y T _ rs n q1 q2 hl pe (s2.tup nT (zl_cons q3 (zl_cons q4 zl_nil))) (SqT.of upd_same)
/-- for loops: over a list, a tuple, a text, a range. Pv by the turn, the slots, the heap -/
theorem for_L {g : TG} {tb : TS} {E : Ends} {σ : L2.St} (Pv : Nat → L2.St → Hp → Prop) (hG : ∀ i σ H, Pv i σ H → Dz K S H (.lst ds) (.ref a)) (h0 : Pv 0 σ H)
    (hs : ∀ i d x σ H, ds[i]? = some d → i < ds.length → Dz K S H d x → Pv i σ H → g x σ H fun σ2 H2 => tb { E with nx := Pv (i + 1), ct := Pv (i + 1), bk := E.nx } σ2 H2) (hd : ∀ σ H, Pv ds.length σ H → E.nx σ H) : FItl K (FFor g tb E σ) (.ref a) H := by
  obtain ⟨xs, h1, _⟩ := z_lst (hG _ _ _ h0)
  refine ⟨a, rfl, ⟨xs, h1.sq⟩, for_it (walk_Ld (S := S)) Pv h0 (fun i σ H _ p => hG i σ H p) (fun i x σ H H' hi p y => ?_) hd⟩
  obtain ⟨e, d, q1, q2⟩ := y
  subst e
  exact hs i d x σ _ q1 hi q2 p
theorem for_T {g : TG} {tb : TS} {E : Ends} {σ : L2.St} (Pv : Nat → L2.St → Hp → Prop) (hG : ∀ i σ H, Pv i σ H → Dz K S H (.tup ds) (.ref a)) (h0 : Pv 0 σ H)
    (hs : ∀ i d x σ H, ds[i]? = some d → i < ds.length → Dz K S H d x → Pv i σ H → g x σ H fun σ2 H2 => tb { E with nx := Pv (i + 1), ct := Pv (i + 1), bk := E.nx } σ2 H2) (hd : ∀ σ H, Pv ds.length σ H → E.nx σ H) : FItt K (FFor g tb E σ) (.ref a) H := by
  obtain ⟨xs, h1, _⟩ := z_tup (hG _ _ _ h0)
  refine ⟨a, rfl, ⟨xs, h1.sq⟩, for_it (walk_Td (S := S)) Pv h0 (fun i σ H _ p => hG i σ H p) (fun i x σ H H' hi p y => ?_) hd⟩
  obtain ⟨e, d, q1, q2⟩ := y
  subst e
  exact hs i d x σ _ q1 hi q2 p
theorem for_S {g : TG} {tb : TS} {E : Ends} {σ : L2.St} {z : Str} (Pv : Nat → L2.St → Hp → Prop) (h0 : Pv 0 σ H)
    (hs : ∀ i c σ H, z.cps[i]? = some c → i < z.cps.size → Pv i σ H → g (.str ⟨#[c]⟩) σ H fun σ2 H2 => tb { E with nx := Pv (i + 1), ct := Pv (i + 1), bk := E.nx } σ2 H2) (hd : ∀ σ H, Pv z.cps.size σ H → E.nx σ H) : FIts (FFor g tb E σ) (.str z) H := by
  refine ⟨z, rfl, for_it walk_str Pv h0 (fun i σ H _ p => trivial) (fun i x σ H H' hi p y => ?_) hd⟩
  obtain ⟨e, c, q1, q2⟩ := y
  subst e
  subst q2
  exact hs i c σ _ q1 hi p
theorem for_R {g : TG} {tb : TS} {E : Ends} {σ : L2.St} {n : Int} (h0' : 0 ≤ n) (hn : n ≤ 1000000) (Pv : Nat → L2.St → Hp → Prop) (h0 : Pv 0 σ H)
    (hs : ∀ (i : Nat) σ H, (i : Int) < n → Pv i σ H → g (.int (i : Nat)) σ H fun σ2 H2 => tb { E with nx := Pv (i + 1), ct := Pv (i + 1), bk := E.nx } σ2 H2) (hd : ∀ σ H, Pv n.toNat σ H → E.nx σ H) : FRng (FFor g tb E σ) [.int n] H := by
  refine ⟨n, rfl, by omega, by omega, for_it walk_range Pv h0 (fun i σ H _ p => trivial) (fun i x σ H H' hi p y => ?_) hd⟩
  obtain ⟨e, q⟩ := y
  subst e
  have q' : x = .int (i : Nat) := by rw [q]; simp
  subst q'
  exact hs i σ _ (by omega) p
end
end Vf
namespace Vf
open PySem PySem.Spec PyProof.Rows L2 RZ
/-! ## 11. data that may be compared and shown -/
theorem take_snoc {α : Type} {l : List α} {i : Nat} {x : α} (h : l[i]? = some x) : l.take (i + 1) = l.take i ++ [x] := by
  rw [List.take_add_one, h]; rfl
mutual
/-- ints below 2^1900, texts of plain signs, no instance, no dict -/
def D.fine : D → Bool
  | .non | .bl _ => true
  | .int i => decide (i.natAbs.log2 < 1900)
  | .str x => PyData.strOk x && x.cps.toList.all fun c => decide (c < 16 ^ 8)
  | .lst ds | .tup ds => D.fines ds
  | .ins _ _ | .dic _ => false
def D.fines : List D → Bool
  | [] => true
  | d :: ds => D.fine d && D.fines ds
end
mutual
def D.wt : D → Nat
  | .non | .bl _ | .int _ => 0
  | .str x => x.cps.size
  | .lst ds | .tup ds => D.wts ds
  | .ins _ _ | .dic _ => 0
def D.wts : List D → Nat
  | [] => 0
  | d :: ds => D.wt d + 1 + D.wts ds
end
mutual
def D.dep : D → Nat
  | .lst ds | .tup ds => D.deps ds + 1
  | .non | .bl _ | .int _ | .str _ | .ins _ _ | .dic _ => 0
def D.deps : List D → Nat
  | [] => 0
  | d :: ds => max (D.dep d) (D.deps ds)
end
mutual
theorem D.fine_flat : ∀ d : D, d.fine = true → d.flat = true
  | .non, _ => rfl
  | .bl _, _ => rfl
  | .int _, _ => rfl
  | .str _, _ => rfl
  | .lst ds, h => by simp only [D.flat]; exact D.fines_flat ds (by simpa only [D.fine] using h)
  | .tup ds, h => by simp only [D.flat]; exact D.fines_flat ds (by simpa only [D.fine] using h)
  | .ins _ _, h => by simp [D.fine] at h
  | .dic _, h => by simp [D.fine] at h
theorem D.fines_flat : ∀ ds : List D, D.fines ds = true → D.flats ds = true
  | [], _ => rfl
  | d :: ds, h => by
    simp only [D.fines, Bool.and_eq_true] at h
    simp only [D.flats, D.fine_flat d h.1, D.fines_flat ds h.2, Bool.and_self]
end
mutual
theorem D.fine_lay : ∀ d : D, d.fine = true → d.py.canLay0 = true
  | .non, _ => by simp only [D.py, PyData.canLay0]
  | .bl _, _ => by simp only [D.py, PyData.canLay0]
  | .int _, _ => by simp only [D.py, PyData.canLay0]
  | .str x, h => by
    simp only [D.fine, Bool.and_eq_true] at h
    simp only [D.py, PyData.canLay0]; exact h.1
  | .lst ds, h => by simp only [D.py, PyData.canLay0]; exact D.fines_lay ds (by simpa only [D.fine] using h)
  | .tup ds, h => by simp only [D.py, PyData.canLay0]; exact D.fines_lay ds (by simpa only [D.fine] using h)
  | .ins _ _, h => by simp [D.fine] at h
  | .dic _, h => by simp [D.fine] at h
theorem D.fines_lay : ∀ ds : List D, D.fines ds = true → PyData.canLayAll0 (D.pys ds) = true
  | [], _ => by simp only [D.pys, PyData.canLayAll0]
  | d :: ds, h => by
    simp only [D.fines, Bool.and_eq_true] at h
    simp only [D.pys, PyData.canLayAll0, D.fine_lay d h.1, D.fines_lay ds h.2, Bool.and_self]
end
mutual
theorem D.fine_show : ∀ d : D, d.fine = true → d.py.showable = true
  | .non, _ => by simp only [D.py, PyData.showable]
  | .bl _, _ => by simp only [D.py, PyData.showable]
  | .int i, h => by
    simp only [D.fine, decide_eq_true_eq] at h
    simp only [D.py, PyData.showable, decide_eq_true_eq]
    omega
  | .str x, h => by simp only [D.py, PyData.showable]
  | .lst ds, h => by simp only [D.py, PyData.showable]; exact D.fines_show ds (by simpa only [D.fine] using h)
  | .tup ds, h => by simp only [D.py, PyData.showable]; exact D.fines_show ds (by simpa only [D.fine] using h)
  | .ins _ _, h => by simp [D.fine] at h
  | .dic _, h => by simp [D.fine] at h
theorem D.fines_show : ∀ ds : List D, D.fines ds = true → PyData.showableAll (D.pys ds) = true
  | [], _ => by simp only [D.pys, PyData.showableAll]
  | d :: ds, h => by
    simp only [D.fines, Bool.and_eq_true] at h
    simp only [D.pys, PyData.showableAll, D.fine_show d h.1, D.fines_show ds h.2, Bool.and_self]
end
mutual
theorem D.fine_short : ∀ d : D, d.fine = true → d.py.leavesShort 1910 = true
  | .non, _ => by simp only [D.py, PyData.leavesShort]
  | .bl _, _ => by simp only [D.py, PyData.leavesShort]
  | .int i, h => by
    simp only [D.fine, decide_eq_true_eq] at h
    simp only [D.py, PyData.leavesShort, decide_eq_true_eq]
    rw [PyData.shown_int]
    show (Str.ofString (toString i)).length ≤ 1910
    rw [PySem.ofString_length]
    exact Nat.le_trans (int_text_length_le (k := 1900) (by decide) h) (by decide)
  | .str x, h => by
    simp only [D.fine, Bool.and_eq_true] at h
    simp only [D.py, PyData.leavesShort]; exact h.2
  | .lst ds, h => by simp only [D.py, PyData.leavesShort]; exact D.fines_short ds (by simpa only [D.fine] using h)
  | .tup ds, h => by simp only [D.py, PyData.leavesShort]; exact D.fines_short ds (by simpa only [D.fine] using h)
  | .ins _ _, h => by simp [D.fine] at h
  | .dic _, h => by simp [D.fine] at h
theorem D.fines_short : ∀ ds : List D, D.fines ds = true → PyData.leavesShortAll 1910 (D.pys ds) = true
  | [], _ => by simp only [D.pys, PyData.leavesShortAll]
  | d :: ds, h => by
    simp only [D.fines, Bool.and_eq_true] at h
    simp only [D.pys, PyData.leavesShortAll, D.fine_short d h.1, D.fines_short ds h.2, Bool.and_self]
end
mutual
theorem D.py_bulk : ∀ d : D, d.fine = true → d.py.bulk = d.wt
  | .non, _ => by simp only [D.py, PyData.bulk, D.wt]
  | .bl _, _ => by simp only [D.py, PyData.bulk, D.wt]
  | .int i, h => by simp only [D.py, PyData.bulk, D.wt]
  | .str x, h => by simp only [D.py, PyData.bulk, D.wt]
  | .lst ds, h => by simp only [D.py, PyData.bulk, D.wt]; exact D.pys_bulk ds (by simpa only [D.fine] using h)
  | .tup ds, h => by simp only [D.py, PyData.bulk, D.wt]; exact D.pys_bulk ds (by simpa only [D.fine] using h)
  | .ins _ _, h => by simp [D.fine] at h
  | .dic _, h => by simp [D.fine] at h
theorem D.pys_bulk : ∀ ds : List D, D.fines ds = true → PyData.bulkAll (D.pys ds) = D.wts ds
  | [], _ => by simp only [D.pys, PyData.bulkAll, D.wts]
  | d :: ds, h => by
    simp only [D.fines, Bool.and_eq_true] at h
    simp only [D.pys, PyData.bulkAll, D.wts, D.py_bulk d h.1, D.pys_bulk ds h.2]
end
mutual
theorem D.py_dep : ∀ d : D, d.fine = true → d.py.depth = d.dep
  | .non, _ => by simp only [D.py, PyData.depth, D.dep]
  | .bl _, _ => by simp only [D.py, PyData.depth, D.dep]
  | .int i, h => by simp only [D.py, PyData.depth, D.dep]
  | .str x, h => by simp only [D.py, PyData.depth, D.dep]
  | .lst ds, h => by simp only [D.py, PyData.depth, D.dep, D.pys_dep ds (by simpa only [D.fine] using h)]
  | .tup ds, h => by simp only [D.py, PyData.depth, D.dep, D.pys_dep ds (by simpa only [D.fine] using h)]
  | .ins _ _, h => by simp [D.fine] at h
  | .dic _, h => by simp [D.fine] at h
theorem D.pys_dep : ∀ ds : List D, D.fines ds = true → PyData.depthAll (D.pys ds) = D.deps ds
  | [], _ => by simp only [D.pys, PyData.depthAll, D.deps]
  | d :: ds, h => by
    simp only [D.fines, Bool.and_eq_true] at h
    simp only [D.pys, PyData.depthAll, D.deps, D.py_dep d h.1, D.pys_dep ds h.2]
end
/-- may be compared and shown -/
structure D.Ok (d : D) : Prop where
  fine : d.fine = true
  wt : d.wt ≤ 8000
  dep : d.dep ≤ 60
theorem D.Ok.flat {d : D} (h : d.Ok) : d.flat = true := D.fine_flat d h.fine
theorem D.Ok.shaped {d : D} (h : d.Ok) : SeqAt.shaped d.py = true := by
  unfold SeqAt.shaped
  rw [D.fine_lay d h.fine, D.py_dep d h.fine]
  have := h.dep
  simp only [Bool.true_and, decide_eq_true_eq]
  omega
theorem D.Ok.show {d : D} (h : d.Ok) : d.py.showable = true := D.fine_show d h.fine
theorem D.Ok.dep' {d : D} (h : d.Ok) : d.py.depth ≤ 60 := by rw [D.py_dep d h.fine]; exact h.dep
theorem D.Ok.size {d : D} (h : d.Ok) : d.py.shown.length ≤ sizeLine := by
  have e := PyData.shown_le_bulk 1910 (by decide) d.py (D.fine_short d h.fine)
  rw [D.py_bulk d h.fine] at e
  have := h.wt
  rw [sizeLine_eq]
  omega
theorem D.Ok.refl {d : D} (h : d.Ok) : PyData.eqv d.py d.py = true := SeqAt.eqv_refl d.py (D.fine_lay d h.fine)
section
variable {K : PySem.W.Frag} {S : AS} {H : Hp} {Q : VK} {x y : V} {d e : D}
theorem o_eq (h1 : Dz K S H d x) (h2 : Dz K S H e y) (o1 : d.Ok) (o2 : e.Ok) (q : Q (.bl (PyData.eqv d.py e.py)) H) : rEqG K x y H Q := d_eq h1 h2 o1.flat o2.flat o1.shaped o2.shaped q
theorem o_ne (h1 : Dz K S H d x) (h2 : Dz K S H e y) (o1 : d.Ok) (o2 : e.Ok) (q : Q (.bl (!PyData.eqv d.py e.py)) H) : rNeG K x y H Q := d_ne h1 h2 o1.flat o2.flat o1.shaped o2.shaped q
theorem o_eqT (h1 : Dz K S H d x) (h2 : Dz K S H d y) (o1 : d.Ok) (q : Q (.bl true) H) : rEqG K x y H Q := o_eq h1 h2 o1 o1 (by rw [o1.refl]; exact q)
theorem o_neF (h1 : Dz K S H d x) (h2 : Dz K S H d y) (o1 : d.Ok) (q : Q (.bl false) H) : rNeG K x y H Q := o_ne h1 h2 o1 o1 (by rw [o1.refl]; exact q)
theorem o_repr (h1 : Dz K S H d x) (o : d.Ok) (q : Q (.str d.py.shown) H) : rRepr K [x] H Q := d_repr h1 o.flat o.show o.dep' o.size q
end
end Vf
namespace Vf
open PySem PySem.Spec PyProof.Rows L2 RZ
/-! ## 12. defs with defaults; objects that do not change; enumerate -/
section
variable {P : Program} {w : World} {K : PySem.W.Frag} {mg : Str → Option Value} {base : Heap}
theorem okD {x qual : Str} {st : Stmt} {dvs : List V} {kws : List (Str × V)} {f : Addr} {fd : FuncData} {N ps : List Str} {k : Nat} {sp : Sp} (F : FunD K x qual (defArgs st) (defBody st) (defScope st) dvs kws f fd) (S : FnScope N ps (defScope st)) (len : ∀ vs H Q E, sp vs H Q E → vs.length = ps.length)
    (hbody : ∀ (cdv : Value) (A : Around) (outer : List Env) (s : Shared) (H : Hp) (vs : List V) (Q : VK) (E : XK), Room k (A.deeper (envOfC qual (defScope st) s.heap.objs.size f cdv)) → sp vs H Q E →
      ∃ t, PSs (cxOf CX0 P w K mg base N qual (defScope st) f cdv A outer s H E).nox (defBody st) t ∧ t { nx := fun _ H' => Q .non H', rt := Q } (start N vs) H) : FnOk P w K mg base CX0 (k + 1) f fd ps sp := by
  refine F.ok S len fun cdv A outer s H vs Q E hr h => ?_
  obtain ⟨t, h1, h2⟩ := hbody cdv A outer s H vs Q E hr h
  exact ⟨t, h1.nox, h2⟩
end
section
variable {K : PySem.W.Frag} {S M : AS} {H0 H : Hp} {G : List (V × D)} {L : List (Addr × List D)} {B : List Addr} {Q : VK} {ds : List D} {d : D} {a C : Addr} {fs : List (Str × D)} {x : V}
/-- o.f -/
def FFld (K : PySem.W.Frag) (f : Str) (Q : VK) : VK := fun x H => ∃ a C dx fs v, x = .ref a ∧ H a = some (.ins C dx fs) ∧ Cls K C ∧ NoAttr K C f ∧ fs.lookup f = some v ∧ Q v H
theorem g_fld {ta : TE} {f : Str} {σ : L2.St} (h : ta σ H (FFld K f Q)) : tFld K ta f σ H Q := h
theorem d_fld {f : Str} (h : Dz K S H (.ins C fs) (.ref a)) (cl : Cls K C) (na : NoAttr K C f) (hl : fs.lookup f = some d) (q : ∀ v, Dz K S H d v → Q v H) : FFld K f Q (.ref a) H := by
  obtain ⟨b, dx, gs, e, _, h2, h3⟩ := h
  cases e
  obtain ⟨v, hv, hz⟩ := h3.get hl
  exact ⟨a, C, dx, gs, v, rfl, h2, cl, na, hv, q v hz⟩
theorem DzF.none : ∀ {fs : List (Str × D)} {gs : List (Str × V)} {n : Str}, DzF K S H fs gs → fs.lookup n = none → gs.lookup n = none
  | [], _, n, h, _ => by cases h; rfl
  | (m, d) :: fs, _, n, h, e => by
    obtain ⟨x, r, e1, h1, h2⟩ := h
    subst e1
    by_cases q : (n == m) = true
    · simp only [List.lookup, q] at e
      cases e
    · have q' : (n == m) = false := by simpa using q
      simp only [List.lookup, q'] at e ⊢
      exact DzF.none h2 e
/-- o.m(..) -/
def FMeth (C : Addr) (m : Str) (sp : Sp) (dvs : List V) (E : XK) (t : TA) (σ : L2.St) (Q : VK) : VK := fun x H => ∃ a dx fs, x = .ref a ∧ H a = some (.ins C dx fs) ∧ fs.lookup m = none ∧ t σ H fun vs H2 => sp (x :: (vs ++ dvs)) H2 Q E
theorem g_meth {m : Str} {sp : Sp} {dvs : List V} {E : XK} {ta : TE} {t : TA} {σ : L2.St} (h : ta σ H (FMeth C m sp dvs E t σ Q)) : tMeth C m sp dvs E ta t σ H Q := h
theorem d_meth {m : Str} {sp : Sp} {E : XK} {t : TA} {σ : L2.St} (h : Dz K S H (.ins C fs) (.ref a)) (hl : fs.lookup m = none) (q : t σ H fun vs H2 => sp (.ref a :: vs) H2 Q E) : FMeth C m sp [] E t σ Q (.ref a) H := by
  obtain ⟨b, dx, gs, e, _, h2, h3⟩ := h
  cases e
  refine ⟨a, dx, gs, rfl, h2, h3.none hl, ?_⟩
  simpa only [List.append_nil] using q
/-- C(.., k = v): the instance is made -/
def FMake (C : Addr) (n m : Nat) (sp : Sp) (gV : List V → List V → List V) (E : XK) (vs : List V) (Q : VK) : List V → Hp → Prop := fun zs H2 => vs.length = n ∧ zs.length = m ∧ ∀ x dx, H2 x = none → H2 dx = none → dx ≠ x →
  sp (gV (.ref x :: vs) zs) (upd (upd H2 dx (.own x)) x (.ins C dx [])) (fun v H3 => v = .non ∧ Q (.ref x) H3) E
theorem g_make {n m : Nat} {sp : Sp} {gV : List V → List V → List V} {E : XK} {t tk : TA} {σ : L2.St} (h : t σ H fun vs H1 => tk σ H1 (FMake C n m sp gV E vs Q)) : tMakeK C n m sp gV E t tk σ H Q := h
theorem St.isI (st : St K S M H0 H G L B) (m : (x, .ins C fs) ∈ G) : ∃ a, x = .ref a := by
  obtain ⟨a, _, _, e, _⟩ := st.dz m
  exact ⟨a, e⟩
/-- what an __init__ promises of data: the new instance at a, its arguments, then the fields -/
def spInit {α : Type} (K : PySem.W.Frag) (C : Addr) (enc : α → List D) (pre : α → Prop) (fs : α → List (Str × D)) : Sp := fun vs H Q _ => ∃ S x a dx r, vs = .ref a :: r ∧ Okk S H ∧ S a ∧ H a = some (.ins C dx []) ∧ DzL K S H (enc x) r ∧ pre x ∧
  ∀ H' gs, (∀ b o, b ≠ a → H b = some o → H' b = some o) → H' a = some (.ins C dx gs) → DzF K S H' (fs x) gs → Q .non H'
theorem spInit_len {α : Type} {enc : α → List D} {pre : α → Prop} {fs : α → List (Str × D)} {vs : List V} {E : XK} {n : Nat} (hn : ∀ a, (enc a).length + 1 = n) (h : spInit K C enc pre fs vs H Q E) : vs.length = n := by
  obtain ⟨S, x, a, dx, r, e, _, _, _, hz, _⟩ := h
  rw [e, List.length_cons, hz.len, hn]
theorem DzF.weak {S S' : AS} (ms : ∀ b, S' b → S b) {d : List (Str × D)} {v : List (Str × V)} (h : DzF K S H d v) : DzF K S' H d v :=
  DzF.map (fun _ _ => LzL.weak ms) (fun _ _ => LzT.weak ms) (fun a o n e => ⟨fun z => n (ms _ z), e⟩) d v h
theorem c_make {α : Type} {enc : α → List D} {pre : α → Prop} {fs : α → List (Str × D)} {n m : Nat} {gV : List V → List V → List V} {E : XK} {vs zs : List V} (x : α) (st : St K S M H0 H G L B) (hn : vs.length = n) (hm : zs.length = m) (r : List V) (hg : ∀ a, gV (.ref a :: vs) zs = .ref a :: r) (hz : DzL K S H (enc x) r) (hp : pre x)
    (q : ∀ a H', St K S M H0 H' ((.ref a, .ins C (fs x)) :: G) L B → Q (.ref a) H') : FMake C n m (spInit K C enc pre fs) gV E vs Q zs H := by
  refine ⟨hn, hm, fun a dx na nd ne => ?_⟩
  have e1 : Same H (upd (upd H dx (.own a)) a (.ins C dx [])) := fun b o h => by
    rw [upd_ne (ne_of_none h na), upd_ne (ne_of_none h nd)]
    exact h
  have ok2 : Okk (fun b => S b ∨ b = a) (upd (upd H dx (.own a)) a (.ins C dx [])) := fun b s => by
    rcases s with s | s
    · exact st.ok.same e1 b s
    · subst s; rw [upd_same]; exact fun w => by cases w
  refine ⟨fun b => S b ∨ b = a, x, a, dx, r, hg a, ok2, .inr rfl, upd_same, DzL.same e1 (DzL.fresh na hz), hp, fun H' gs k ha hd => ⟨rfl, q a H' ?_⟩⟩
  have e2 : Same H H' := fun b o h => k b o (ne_of_none h na) (e1 b o h)
  exact (st.same e2).add ⟨a, dx, gs, rfl, st.nS na, ha, DzF.weak (fun _ => .inl) hd⟩
/-- self.f = y -/
def FSet (K : PySem.W.Frag) (f : Str) (y : V) (E : Ends) (σ : L2.St) : VK := fun x H => ∃ a C dx fs, x = .ref a ∧ H a = some (.ins C dx fs) ∧ Cls K C ∧ NoAttr K C f ∧ fs.length < 1000 ∧ E.nx σ (upd H a (.ins C dx (putF f y fs)))
theorem g_setf {ta tv : TE} {f : Str} {E : Ends} {σ : L2.St} (h : tv σ H fun y H1 => ta σ H1 (FSet K f y E σ)) : sFld K ta tv f E σ H := h
theorem putF_app {f : Str} {y : V} : ∀ {gs : List (Str × V)} (ns : List Str), gs.map (·.1) = ns → ns.contains f = false → putF f y gs = gs ++ [(f, y)]
  | [], _, _, _ => rfl
  | (n, v) :: gs, ns, e, h => by
    subst e
    rw [List.map_cons, List.contains_cons, Bool.or_eq_false_iff] at h
    have ne : ¬ n = f := fun e => by
      have := h.1
      rw [e] at this
      simp at this
    show (if n = f then _ else _) = _
    rw [if_neg ne, putF_app (gs := gs) _ rfl h.2]
    rfl
theorem d_setf {f : Str} {y : V} {dx : Addr} {gs : List (Str × V)} {E : Ends} {σ : L2.St} (st : St K S (fun _ => False) H0 H G [] []) (sa : S a) (ha : H0 a = some (.ins C dx gs)) (cl : Cls K C) (na : NoAttr K C f) (ns : List Str) (hn : gs.map (·.1) = ns) (hc : ns.contains f = false) (hl : gs.length < 1000)
    (q : ∀ H', H' a = some (.ins C dx (gs ++ [(f, y)])) → (∀ b o, b ≠ a → H0 b = some o → H' b = some o) → St K S (fun _ => False) H' H' G [] [] → E.nx σ H') : FSet K f y E σ (.ref a) H := by
  refine ⟨a, C, dx, gs, rfl, st.end_ _ _ ha, cl, na, hl, ?_⟩
  rw [putF_app ns hn hc]
  have kp : Kp S H (upd H a (.ins C dx (gs ++ [(f, y)]))) := fun b o n e => by rw [upd_ne (fun z => n (by rw [z]; exact sa))]; exact e
  refine q _ upd_same (fun b o n e => by rw [upd_ne n]; exact st.end_ _ _ e) ⟨fun b s => ?_, fun b o n e => e, fun b n => n, fun q hq => Dz.keep kp (fun _ z => z) (st.ga q hq), fun p hp => by simp at hp, fun p hp => by simp at hp, by simp⟩
  by_cases z : b = a
  · subst z; rw [upd_same]; exact fun w => by cases w
  · rw [upd_ne z]; exact st.ok b s
theorem zf_nil : DzF K S H [] [] := rfl
theorem zf_cons {n : Str} {fs : List (Str × D)} {gs : List (Str × V)} (h : Dz K S H d x) (r : DzF K S H fs gs) : DzF K S H ((n, d) :: fs) ((n, x) :: gs) := ⟨x, gs, rfl, h, r⟩
/-- what isinstance asks of an own class -/
structure InsQ (K : PySem.W.Frag) (C : Addr) : Prop where
  cl : Cls K C
  ha : PySem.W.findIn K (.ref C) "__class__" = some (some (.builtin "object.__class__"))
  hn : PySem.W.specialIn K (.builtin "object.__class__") "__get__" = some (some (.builtin "getset_descriptor.__get__"))
  ht : PySem.W.takesIn K (.builtin "object.__class__") = some true
  hm : PySem.W.mroIn K C (.type "object") = some true
  me : PySem.W.kitOne K (.ref C) (.ref C) = some true
theorem d_isC (c : InsQ K C) (h : Dz K S H (.ins C fs) x) (q : Q (.bl true) H) : rIsiG K [x, .ref C] H Q := by
  obtain ⟨b, dx, gs, e, _, h2, h3⟩ := h
  subst e
  exact .inl ⟨.ref b, .ref C, _, _, true, rfl, .own C, .base (.ins h2 c.cl c.ha c.hn c.ht c.hm), c.me, q⟩
theorem int_ok {i : Int} (h : i.natAbs < 2 ^ 200) : (D.int i).Ok := by
  refine ⟨?_, by simp only [D.wt]; omega, by simp only [D.dep]; omega⟩
  simp only [D.fine, decide_eq_true_eq]
  exact PySem.Flt.log2_lt_of (by decide) (Nat.lt_of_lt_of_le h (Nat.pow_le_pow_right (by decide) (by decide)))
theorem int_okB {i : Int} (h : i.natAbs < 2 ^ 1900) : (D.int i).Ok := by
  refine ⟨?_, by simp only [D.wt]; omega, by simp only [D.dep]; omega⟩
  simp only [D.fine, decide_eq_true_eq]
  exact PySem.Flt.log2_lt_of (by decide) h
/-- where the law has made its bag -/
theorem St.law {K : PySem.W.Frag} {H H' : Hp} {b : Addr} (e : Same H H') (n : H b = none) (bg : Bag K (fun c => c = b) H' b) : St K (fun c => c = b) (fun _ => False) H H' [] [] [b] := by
  refine ⟨fun c hc => ?_, fun c o _ h => e c o h, fun c hc => ?_, fun p hp => by simp at hp, fun p hp => by simp at hp, fun a ha => ?_, by simp⟩
  · obtain ⟨r, h, i, cc, ns, q, _⟩ := bg.ex
    rw [hc, q]
    exact fun w => by cases w
  · cases q : H c with
    | none => exact absurd q hc
    | some o => rw [e c o q]; exact fun w => by cases w
  · rw [List.mem_singleton.mp ha]
    exact ⟨rfl, .inl n, bg⟩
/-- enumerate of a list of data -/
theorem for_E {g : TG} {tb : TS} {E : Ends} {σ : L2.St} (Pv : Nat → L2.St → Hp → Prop) (hG : ∀ i σ H, Pv i σ H → Dz K S H (.lst ds) (.ref a)) (h0 : Pv 0 σ H)
    (hs : ∀ i d x T σ H, ds[i]? = some d → i < ds.length → Dz K S H d x → Pv i σ H → H T = none → g (.ref T) σ (upd H T (.tup [.int (i : Nat), x])) fun σ2 H2 => tb { E with nx := Pv (i + 1), ct := Pv (i + 1), bk := E.nx } σ2 H2) (hd : ∀ σ H, Pv ds.length σ H → E.nx σ H) : FEnum K (FFor g tb E σ) [.ref a] H := by
  obtain ⟨xs, h1, _⟩ := z_lst (hG _ _ _ h0)
  have wk : Walk (Ite K a) ds.length (fun H => Dz K S H (.lst ds) (.ref a)) (fun i H v H' => ∃ T x d, v = .ref T ∧ H T = none ∧ H' = upd H T (.tup [.int (i : Nat), x]) ∧ ds[i]? = some d ∧ Dz K S H d x) := by
    refine ⟨fun i H hi h => ?_, fun H h => ?_, fun i H v H' hi h y => ?_⟩
    · obtain ⟨xs, h1, h2⟩ := z_lst h
      obtain ⟨v, e, _⟩ := h2.get (d := ds[i]) (List.getElem?_eq_getElem hi)
      exact ⟨xs, v, h1.sq, e⟩
    · obtain ⟨xs, h1, h2⟩ := z_lst h
      exact ⟨xs, h1.sq, by rw [h2.len]; exact Nat.le_refl _⟩
    · obtain ⟨xs, h1, h2⟩ := z_lst h
      obtain ⟨v', e, hv⟩ := h2.get (d := ds[i]) (List.getElem?_eq_getElem hi)
      obtain ⟨T, x, q1, q2, q3, q4⟩ := y
      have r := q4 xs h1.sq
      rw [e] at r
      cases r
      exact ⟨T, _, _, q1, q2, q3, List.getElem?_eq_getElem hi, hv⟩
  refine ⟨a, xs, rfl, h1.sq, for_it wk Pv h0 (fun i σ H _ p => hG i σ H p) (fun i x σ H H' hi p y => ?_) hd⟩
  obtain ⟨T, x', d, rfl, nT, rfl, q1, q2⟩ := y
  exact hs i d x' T σ H q1 hi q2 p nT
end
end Vf
namespace Vf
open PySem PySem.Spec PyProof.Rows L2
/-! ## 13. the end: a law whose promise is a FnG -/
section
variable {P : Program} {w : World} {K : PySem.W.Frag} {mg mb : Str → Option Value} {k : Nat} {fa a : Addr} {fd : FuncData} {x : Str} {sp : Sp} {s : Shared} {vs : List Value} {ns : List Int}
/-- the heap of which the law's call knows: the script alone, if it is none of K's -/
def scriptH (K : PySem.W.Frag) (a : Addr) (vs : List Value) (ns : List Int) : Hp := fun b => if b = a ∧ K.lookup a = none then some (.frz { cls := .type "list", data := .seq vs.toArray } (.lst (ns.map V.int))) else none
theorem scriptH_some {b : Addr} {u : HO} (e : scriptH K a vs ns b = some u) : b = a ∧ K.lookup a = none ∧ u = .frz { cls := .type "list", data := .seq vs.toArray } (.lst (ns.map V.int)) := by
  unfold scriptH at e
  split at e
  · rename_i q
    exact ⟨q.1, q.2, (Option.some.inj e).symm⟩
  · cases e
theorem scriptH_none {b : Addr} {o : Obj} {es : Array DictEntry} {n : Nat} (ha : s.heap.get? a = some { cls := .type "list", data := .seq vs.toArray }) (e : s.heap.get? b = some o) (d : o.data = .dict es n) : scriptH K a vs ns b = none := by
  cases q : scriptH K a vs ns b with
  | none => rfl
  | some u =>
    obtain ⟨rfl, _, _⟩ := scriptH_some q
    rw [ha] at e
    obtain rfl := Option.some.inj e
    cases d
theorem law_callG (KX : K.In s.heap) (hns : s.heap.Ns mainGlobals mg) (hb : s.heap.Ns builtinsNs mb) (hbb : ∀ y : Str, y ≠ "__name__" → mb y = bootBuiltins y) (hlim : s.heap.NoLimit) (hg : s.gens = #[])
    (ha : s.heap.get? a = some { cls := .type "list", data := .seq vs.toArray }) (hi : IntsAre vs ns) (hl : ns.length ≤ sizeLine) (hr : Room k callerA)
    (F : ∀ base : Heap, K.In base → base.Ns mainGlobals mg → FnG P w K mg base CX0 k fa fd [x] sp) (hbind : ∀ (s : Shared) (u : Value), BindsTo s fd ⟨[u], []⟩ [(x, u)])
    (hsp : ∀ H : Hp, SqL K H a (ns.map V.int) → sp [.ref a] H (fun v _ => v = .bl true) fun _ _ _ => False) :
    codeAny (model P w) callerA (.call (.ref fa) ⟨[.ref a], []⟩) (fun r s' => r = .ok (.ret (.bool true)) ∧ OldK s.heap s'.heap ∧ s'.os = s.os ∧ AllBare s'.gens) s := by
  have rv := vals_ints hi
  have ln := hi.length
  have hA := fun b u => scriptH_some (K := K) (a := a) (vs := vs) (ns := ns) (b := b) (u := u)
  have hD := fun b o es n => scriptH_none (K := K) (ns := ns) (b := b) (o := o) (es := es) (n := n) ha
  generalize eH : scriptH K a vs ns = H at hA hD
  have hok : HOk P w H s.heap := fun b u z => by
    obtain ⟨rfl, _, rfl⟩ := hA b u z
    exact ⟨ha, by rw [List.length_map]; exact hl, vs, _, rv, ha⟩
  have hS : SqL K H a (ns.map V.int) := by
    cases q : K.lookup a with
    | none =>
      have z : H a = some (.frz { cls := .type "list", data := .seq vs.toArray } (.lst (ns.map V.int))) := by rw [← eH]; exact if_pos ⟨rfl, q⟩
      exact .inl (.inr ⟨_, z⟩)
    | some o =>
      have e := KX a o q
      rw [ha] at e
      obtain rfl := Option.some.inj e
      exact .inr ⟨_, vs.toArray, _, q, rfl, rfl, rfl, by rw [List.size_toArray, ln]; exact hl, by simpa using rv⟩
  have nsK : ∀ {b : Addr} {m : Str → Option Value}, s.heap.Ns b m → (hidT s.heap H).Ns b m := fun {b m} h => by
    obtain ⟨o, es, ep, e, d, r⟩ := h
    exact ⟨o, es, ep, hidT_get e (hD b o es ep e d), d, r⟩
  have hK : K.In (hidT s.heap H) := fun b o e => hidT_get (KX b o e) (by
    cases q : H b with
    | none => rfl
    | some u =>
      obtain ⟨rfl, z, _⟩ := hA b u q
      rw [z] at e
      cases e)
  have hM : Mod K mg (hidT s.heap H) := ⟨hK, nsK hns, ⟨mb, nsK hb, hbb⟩, hlim.imp fun _ h => ⟨nsK h.1, h.2⟩⟩
  have e0 : Env0 P w K mg (hidT s.heap H) callerA [] s H := ⟨rfl, hM, fun b o e => of_hidT e, Nat.le_of_eq (hidT_size _ _), trivial, fun b hb => absurd (show b ∈ ([] : List Addr) from hb) (by simp), hok, .of_eq hg⟩
  refine codeAny_mono ((F _ hK (nsK hns)).run callerA [] s H ⟨[.ref a], []⟩ [.ref a] [.ref a] _ _ hr rfl e0 (hbind s (.ref a)) (.cons rfl .nil) (hsp H hS)) fun r s' h => ?_
  match r, h with
  | .error e, h => exact False.elim h
  | .ok .next, h => exact False.elim h
  | .ok .brk, h => exact False.elim h
  | .ok .cont, h => exact False.elim h
  | .ok (.ret u), h =>
    obtain ⟨v, H', os, bare, un, hok', r', q⟩ := h
    obtain rfl : v = V.bl true := q
    obtain rfl : u = Value.bool true := r'
    refine ⟨rfl, OldK.of_keep fun b o e => ?_, os, bare⟩
    cases q : H b with
    | none => exact un.keep b o e q (fun z => absurd (show b ∈ ([] : List Addr) from z) (by simp)) (by simp)
    | some u =>
      obtain ⟨rfl, _, rfl⟩ := hA b u q
      have e1 := (hok' b _ (un.frzs b _ _ q)).1
      rw [ha] at e
      obtain rfl := Option.some.inj e
      exact e1
end
theorem kitOne_self {K : PySem.W.Frag} {C : Addr} : PySem.W.kitOne K (.ref C) (.ref C) = some true := if_pos (beq_iff_eq.mpr rfl)
/-- the law's walk, from its promise -/
theorem walk_ofG {l : PySem.W.OpenLaw} {n k : Nat} {q : Program} {loose : List Str} {XP : (Str → Option Value) → Heap → Prop} {YP : World → Heap → Prop} {d : DefRec} {K : Params → PySem.W.Frag} {sp : PySem.W.Frag → Sp} {x : Str}
    (hn : l.most = some n) (hn2 : n ≤ sizeLine) (hdf : d.params.defaults = []) (hr : Room k callerA) (hY : ∀ (w : World) (h : Heap), YP w h → (K w.params).In h)
    (hsp : ∀ (K : PySem.W.Frag) (H : Hp) (a : Addr) (ns : List Int), ns.length ≤ n → SqL K H a (ns.map V.int) → sp K [.ref a] H (fun v _ => v = .bl true) fun _ _ _ => False)
    (F : ∀ (w : World) (mg : Str → Option Value) (fa : Addr) (h : Heap), (K w.params).In h → h.Ns mainGlobals mg → mg d.name = some (.ref fa) →
      ∃ fd : FuncData, (∀ (s : Shared) (u : Value), BindsTo s fd ⟨[u], []⟩ [(x, u)]) ∧
        ∀ base : Heap, (K w.params).In base → base.Ns mainGlobals mg → FnG l.prog w (K w.params) mg base CX0 k fa fd [x] (sp (K w.params))) :
    PySem.W.WalkO q loose XP YP l.row.toRowW d [] (fun f vs => PySem.call f vs) := by
  refine Att.attach_call hn hdf fun w s₀ s₁ mg mb fa o pm cd doc a vs ns G Y ho hd hcd hmg hobj hints hlen hg => ?_
  obtain ⟨fd, hb, hF⟩ := F w mg fa _ (hY w _ Y) G.T.g hmg
  exact law_callG (hY w _ Y) G.T.g G.T.b G.T.builtins G.T.nolimit hg hobj hints (Nat.le_trans hlen hn2) hr hF hb fun H hS => hsp _ H a ns hlen hS
end Vf
namespace Vf
open PySem PySem.Spec PyProof.Rows L2
/-! ## 14. more steps -/
section
variable {K : PySem.W.Frag} {S M : AS} {H0 H : Hp} {G : List (V × D)} {L : List (Addr × List D)} {B : List Addr} {Q : VK} {ds : List D} {d : D} {a C : Addr} {x y : V} {σ : L2.St} {D0 : Ends}
def FPar (i j : Nat) (E : Ends) (σ : L2.St) : List V → Hp → Prop := fun vs H1 => ∃ v w, vs = [v, w] ∧ E.nx ((σ.set i (some v)).set j (some w)) H1
theorem g_parS {i j : Nat} {t : TA} (h : t σ H (FPar i j D0 σ)) : tPar i j t D0 σ H := h
theorem g_parE {i j : Nat} (h : D0.nx ((σ.set i (some x)).set j (some y)) H) : FPar i j D0 σ [x, y] H := ⟨x, y, rfl, h⟩
/-- f(.., k = v) -/
def FCallN (n m : Nat) (sp : Sp) (gV : List V → List V → List V) (E : XK) (Q : VK) (vs : List V) : List V → Hp → Prop := fun zs H2 => vs.length = n ∧ zs.length = m ∧ sp (gV vs zs) H2 Q E
theorem g_callN {n m : Nat} {sp : Sp} {gV : List V → List V → List V} {E : XK} {t tk : TA} (h : t σ H fun vs H1 => tk σ H1 (FCallN n m sp gV E Q vs)) : tCallN n m sp gV E t tk σ H Q := h
theorem c_callN {n m : Nat} {sp : Sp} {gV : List V → List V → List V} {E : XK} {vs zs : List V} (hn : vs.length = n) (hm : zs.length = m) (h : sp (gV vs zs) H Q E) : FCallN n m sp gV E Q vs zs H := ⟨hn, hm, h⟩
/-- the last item of a list -/
theorem d_ixLast {ds : List D} (h : Dz K S H (.lst (ds ++ [d])) (.ref a)) (q : ∀ v, Dz K S H d v → Q v H) : rIxG K (.ref a) (.int (-1)) H Q := by
  obtain ⟨xs, h1, h2⟩ := z_lst h
  have hl := h2.len
  rw [List.length_append, List.length_singleton] at hl
  obtain ⟨v, e, hv⟩ := h2.get (i := ds.length) (d := d) (by simp)
  refine .inl ⟨a, xs, _, v, rfl, rfl, h1.sq, ?_, q v hv⟩
  unfold atI ixN
  rw [if_neg (by decide), if_pos (by omega)]
  show xs[(-1 + (xs.length : Int)).toNat]? = some v
  rw [show (-1 + (xs.length : Int)).toNat = ds.length by omega]
  exact e
/-- a test on a call's promise: a bool -/
theorem g_truB {b : Bool} {P : Bool → Hp → Prop} (h : P b H) : ∃ k, TruV K (.bl b) H k ∧ P k H := ⟨b, rfl, h⟩
/-- min and max of two ints -/
def FMin (Q : VK) : List V → Hp → Prop := fun xs H => ∃ i j, xs = [V.int i, V.int j] ∧ Q (V.int (if j < i then j else i)) H
def FMax (Q : VK) : List V → Hp → Prop := fun xs H => ∃ i j, xs = [V.int i, V.int j] ∧ Q (V.int (if j > i then j else i)) H
theorem v_min {i j : Int} (h : Q (.int (if j < i then j else i)) H) : ∃ i' j', ([.int i, .int j] : List V) = [V.int i', V.int j'] ∧ Q (V.int (if j' < i' then j' else i')) H := ⟨i, j, rfl, h⟩
theorem v_max {i j : Int} (h : Q (.int (if j > i then j else i)) H) : ∃ i' j', ([.int i, .int j] : List V) = [V.int i', V.int j'] ∧ Q (V.int (if j' > i' then j' else i')) H := ⟨i, j, rfl, h⟩
/-- two ways that go on alike -/
theorem g_join {R A B' : Prop} {p : Prop} [Decidable p] (r : R) (h1 : p → R → A) (h2 : ¬p → R → B') : if decide p = true then A else B' := by
  by_cases h : p
  · rw [if_pos (decide_eq_true h)]; exact h1 h r
  · rw [if_neg (by simpa using h)]; exact h2 h r
theorem g_joinH {P : Hp → Prop} {A : Prop} {p : Prop} [Decidable p] (st : St K S M H0 H G L B) (r : ∀ H', St K S M H0 H' G L B → P H') (h1 : p → (∀ H', St K S M H0 H' G L B → P H') → A) : if decide p = true then A else P H := g_join r h1 fun _ r => r H st
/-- where items of G are kept -/
theorem St.keep2 (st : St K S M H0 H G L B) {p q : V × D} (hp : p ∈ G) (hq : q ∈ G) : St K S M H0 H [p, q] L B := st.sub fun r hr => by
  rcases List.mem_cons.mp hr with h | hr
  · rw [h]; exact hp
  · rw [List.mem_singleton.mp hr]; exact hq
theorem St.keep1 (st : St K S M H0 H G L B) {p : V × D} (hp : p ∈ G) : St K S M H0 H [p] L B := st.sub fun r hr => by rw [List.mem_singleton.mp hr]; exact hp
theorem St.keep0 (st : St K S M H0 H G L B) : St K S M H0 H [] L B := st.sub fun r hr => by simp at hr
theorem St.keep3 (st : St K S M H0 H G L B) {p q r : V × D} (hp : p ∈ G) (hq : q ∈ G) (hr : r ∈ G) : St K S M H0 H [p, q, r] L B := st.sub fun z hz => by
  rcases List.mem_cons.mp hz with h | hz
  · rw [h]; exact hp
  rcases List.mem_cons.mp hz with h | hz
  · rw [h]; exact hq
  · rw [List.mem_singleton.mp hz]; exact hr
end
/-! ### data without lists -/
mutual
def D.imm : D → Bool
  | .lst _ | .dic _ => false
  | .tup ds => D.imms ds
  | .ins _ fs => D.immF fs
  | .non | .bl _ | .int _ | .str _ => true
def D.imms : List D → Bool
  | [] => true
  | d :: ds => D.imm d && D.imms ds
def D.immF : List (Str × D) → Bool
  | [] => true
  | (_, d) :: ds => D.imm d && D.immF ds
end
section
variable {K : PySem.W.Frag} {S S' : AS} {H : Hp}
mutual
theorem Dz.imm (sep : ∀ b, S' b → S b ∨ ∃ ys, H b = some (.lst ys)) : ∀ (d : D) (v : V), d.imm = true → Dz K S H d v → Dz K S' H d v
  | .non, _, _, h => h
  | .bl _, _, _, h => h
  | .int _, _, _, h => h
  | .str _, _, _, h => h
  | .tup ds, _, i, h => by
    obtain ⟨a, xs, e, h1, h2⟩ := h
    refine ⟨a, xs, e, ?_, DzL.imm sep ds xs i h2⟩
    rcases h1 with ⟨n, r⟩ | h1
    · refine .inl ⟨fun z => ?_, r⟩
      rcases sep a z with z | ⟨ys, z⟩
      · exact n z
      · rcases r with r | ⟨o, r⟩ <;> rw [z] at r <;> cases r
    · exact .inr h1
  | .ins C fs, _, i, h => by
    obtain ⟨a, dx, gs, e, h1, h2, h3⟩ := h
    refine ⟨a, dx, gs, e, fun z => ?_, h2, DzF.imm sep fs gs i h3⟩
    rcases sep a z with z | ⟨ys, z⟩
    · exact h1 z
    · rw [z] at h2; cases h2
theorem DzL.imm (sep : ∀ b, S' b → S b ∨ ∃ ys, H b = some (.lst ys)) : ∀ (ds : List D) (xs : List V), D.imms ds = true → DzL K S H ds xs → DzL K S' H ds xs
  | [], _, _, h => h
  | d :: ds, _, i, h => by
    obtain ⟨x, r, e, h1, h2⟩ := h
    rw [D.imms, Bool.and_eq_true] at i
    exact ⟨x, r, e, Dz.imm sep d x i.1 h1, DzL.imm sep ds r i.2 h2⟩
theorem DzF.imm (sep : ∀ b, S' b → S b ∨ ∃ ys, H b = some (.lst ys)) : ∀ (ds : List (Str × D)) (xs : List (Str × V)), D.immF ds = true → DzF K S H ds xs → DzF K S' H ds xs
  | [], _, _, h => h
  | (n, d) :: ds, _, i, h => by
    obtain ⟨x, r, e, h1, h2⟩ := h
    rw [D.immF, Bool.and_eq_true] at i
    exact ⟨x, r, e, Dz.imm sep d x i.1 h1, DzF.imm sep ds r i.2 h2⟩
end
end
section
variable {K : PySem.W.Frag} {S M : AS} {H0 H H' : Hp} {G : List (V × D)} {L : List (Addr × List D)} {B : List Addr} {Q : VK} {ds : List D} {d : D} {a p C : Addr} {xs : List V} {vs : List V} {E : XK} {α : Type} {enc : α → List D} {pre : α → Prop}
/-- a list that a call has made becomes the def's own -/
theorem St.adopt (st : St K S M H0 H G L B) (e : Same H H') (n : H p = none) (hp : H' p = some (.lst xs)) (h : DzL K (fun b => S b ∨ b = p) H' ds xs) : St K (fun b => S b ∨ b = p) M H0 H' G ((p, ds) :: L) B := by
  have s1 := st.same e
  refine ⟨fun b s => ?_, s1.kp, s1.dm, fun q hq => Dz.same e (Dz.fresh n (st.ga q hq)), fun q hq => ?_, fun a ha => ?_, ?_⟩
  · rcases s with s | s
    · exact s1.ok b s
    · subst s; rw [hp]; exact fun w => by cases w
  · rcases List.mem_cons.mp hq with z | z
    · subst z
      exact ⟨.inr rfl, .inl (st.h0 n), xs, hp, h⟩
    · obtain ⟨h1, h2, ys, h3, h4⟩ := st.la q z
      exact ⟨.inl h1, h2, ys, e _ _ h3, DzL.same e (DzL.fresh n h4)⟩
  · obtain ⟨h1, h2, h3⟩ := st.ba a ha
    exact ⟨.inl h1, h2, (h3.fresh n).same e⟩
  · rw [List.map_cons, List.cons_append, List.nodup_cons]
    refine ⟨fun m => ?_, st.nd⟩
    rcases List.mem_append.mp m with m | m
    · obtain ⟨q, hq, eq⟩ := List.mem_map.mp m
      have := (st.la q hq).1
      rw [eq] at this
      exact st.nS n this
    · exact st.nS n (st.ba p m).1
/-- an own list is forgotten -/
theorem St.drop {es : List D} (st : St K (fun b => S b ∨ b = p) M H0 H G ((p, es) :: L) B) (n : ¬ S p) : St K S M H0 H G L B := (st.give n).sub fun _ h => List.mem_cons_of_mem _ h
/-- the result is a list, a new one -/
def spNewL {α : Type} (K : PySem.W.Frag) (enc : α → List D) (pre : α → Prop) (f : α → List D) : Sp := fun vs H Q _ => ∃ S x, Okk S H ∧ DzL K S H (enc x) vs ∧ pre x ∧
  ∀ b H' xs, Same H H' → H b = none → H' b = some (.lst xs) → DzL K (fun c => S c ∨ c = b) H' (f x) xs → Q (.ref b) H'
theorem spNewL_len {f : α → List D} {n : Nat} (hn : ∀ a, (enc a).length = n) (h : spNewL K enc pre f vs H Q E) : vs.length = n := by
  obtain ⟨S, x, _, hz, _⟩ := h
  rw [hz.len, hn]
theorem c_New {f : α → List D} (x : α) (st : St K S M H0 H G L B) (hz : DzL K S H (enc x) vs) (hp : pre x) (q : ∀ b H', ¬ S b → St K (fun c => S c ∨ c = b) M H0 H' G ((b, f x) :: L) B → Q (.ref b) H') : spNewL K enc pre f vs H Q E :=
  ⟨S, x, st.ok, hz, hp, fun b H' _ e n hb h => q b H' (st.nS n) (st.adopt e n hb h)⟩
theorem c_NewG {f : α → List D} (x : α) (st : St K S M H0 H G L B) (hz : DzL K S H (enc x) vs) (hp : pre x) (q : ∀ b H', St K S M H0 H' ((.ref b, .lst (f x)) :: G) L B → Q (.ref b) H') : spNewL K enc pre f vs H Q E :=
  c_New x st hz hp fun b H' n st => q b H' (st.give n)
/-- list(t), the def's own -/
theorem d_listTo (st : St K S M H0 H G L B) (h : Dz K S H (.tup ds) (.ref a)) (q : ∀ p H', ¬ S p → H p = none → St K (fun c => S c ∨ c = p) M H0 H' G ((p, ds) :: L) B → Q (.ref p) H') : rListG K [.ref a] H Q := by
  obtain ⟨xs, h1, h2⟩ := z_tup h
  exact ⟨a, xs, rfl, .inr h1.sq, fun l n => q l _ (st.nS n) n (st.own n h2)⟩
theorem d_listLo (st : St K S M H0 H G L B) (h : Dz K S H (.lst ds) (.ref a)) (q : ∀ p H', ¬ S p → H p = none → St K (fun c => S c ∨ c = p) M H0 H' G ((p, ds) :: L) B → Q (.ref p) H') : rListG K [.ref a] H Q := by
  obtain ⟨xs, h1, h2⟩ := z_lst h
  exact ⟨a, xs, rfl, .inl h1.sq, fun l n => q l _ (st.nS n) n (st.own n h2)⟩
/-- the end of a def that tells a new list -/
theorem St.new {es : List D} (st : St K (fun b => S b ∨ b = p) (fun _ => False) H0 H G ((p, es) :: L) B) (k : ∀ b H' xs, Same H0 H' → H0 b = none → H' b = some (.lst xs) → DzL K (fun c => S c ∨ c = b) H' es xs → Q (.ref b) H') : Q (.ref p) H := by
  obtain ⟨_, h2, xs, h3, h4⟩ := st.la (p, es) (List.mem_cons_self ..)
  exact k p H xs st.end_ (h2.elim id False.elim) h3 h4
/-- C(..) of things of which some are the def's own lists: all that is kept of it is no list -/
theorem c_make2 {fs : α → List (Str × D)} {n m : Nat} {gV : List V → List V → List V} {zs : List V} {S1 : AS} (x : α) (st : St K S M H0 H G L B) (ok1 : Okk S1 H) (s1 : ∀ b, S1 b → S b) (sep : ∀ b, S b → S1 b ∨ ∃ ys, H b = some (.lst ys)) (im : D.immF (fs x) = true) (hn : vs.length = n) (hm : zs.length = m) (r : List V) (hg : ∀ a, gV (.ref a :: vs) zs = .ref a :: r) (hz : DzL K S1 H (enc x) r) (hp : pre x)
    (q : ∀ a H', St K S M H0 H' ((.ref a, .ins C (fs x)) :: G) L B → Q (.ref a) H') : FMake C n m (spInit K C enc pre fs) gV E vs Q zs H := by
  refine ⟨hn, hm, fun a dx na nd ne => ?_⟩
  have e1 : Same H (upd (upd H dx (.own a)) a (.ins C dx [])) := fun b o h => by
    rw [upd_ne (ne_of_none h na), upd_ne (ne_of_none h nd)]
    exact h
  have ok2 : Okk (fun b => S1 b ∨ b = a) (upd (upd H dx (.own a)) a (.ins C dx [])) := fun b s => by
    rcases s with s | s
    · exact ok1.same e1 b s
    · subst s; rw [upd_same]; exact fun w => by cases w
  refine ⟨fun b => S1 b ∨ b = a, x, a, dx, r, hg a, ok2, .inr rfl, upd_same, DzL.same e1 (DzL.fresh na hz), hp, fun H' gs k ha hd => ⟨rfl, q a H' ?_⟩⟩
  have e2 : Same H H' := fun b o h => k b o (ne_of_none h na) (e1 b o h)
  refine (st.same e2).add ⟨a, dx, gs, rfl, st.nS na, ha, DzF.imm (S := S1) (fun b s => ?_) _ _ im (DzF.weak (fun _ => .inl) hd)⟩
  rcases sep b s with s | ⟨ys, s⟩
  · exact .inl s
  · exact .inr ⟨ys, e2 _ _ s⟩
end
end Vf
namespace Vf
open PySem PySem.Spec PyProof.Rows L2
/-! ## 15. chains of three, as a test -/
section
variable {X : Cx} {a b c d : Expr} {ta tb tc td : TE} {pos : Pos}
def FCh (QB : Bool → Hp → Prop) (P : Hp → Prop) : VK := fun z H => ∃ k, z = .bl k ∧ (if k = true then P H else QB false H)
def tChain3 (r1 r2 r3 : R2) (ta tb tc td : TE) : TT := fun σ H QB => ta σ H fun x H1 => tb σ H1 fun y H2 => r1 x y H2 (FCh QB fun H3 => tc σ H3 fun w H4 => r2 y w H4 (FCh QB fun H5 => td σ H5 fun u H6 => r3 w u H6 (FB QB)))
theorem pt_chain3 {op1 op2 op3 : CmpOp} {r1 r2 r3 : R2} (h1 : OpR X (compareOp op1) r1) (h2 : OpR X (compareOp op2) r2) (h3 : OpR X (compareOp op3) r3) (ha : PE X a ta) (hb : PE X b tb) (hc : PE X c tc) (hd : PE X d td)
    (hm : lastMarks [op1, op2, op3] [b, c, d] = false := by with_unfolding_all rfl) : PT X (.Compare a [op1, op2, op3] [b, c, d] pos) (tChain3 r1 r2 r3 ta tb tc td) := by
  refine ⟨fun pins s σ H Q I h => ?_⟩
  refine isTrue_chain (thn (ha.run pins s σ H _ I h) fun v1 s1 ⟨x, H1, I1, e1, q1⟩ => test_link (thn (hb.run pins s1 σ H1 _ I1 q1) fun v2 s2 ⟨y, H2, I2, e2, q2⟩ =>
    thn (h1 pins s2 σ H2 x y v1 v2 _ I2 e1 e2 q2) fun d3 s3 ⟨z, H3, I3, e3, k, ez, q3⟩ => ?_)) hm
  subst ez
  cases e3
  refine wpAny_truthy_bool ?_
  cases k with
  | false => exact ite_ff ⟨H3, I3, q3⟩
  | true =>
    refine ite_tt (test_link (thn (hc.run pins s3 σ H3 _ I3 q3) fun v4 s4 ⟨w', H4, I4, e4, q4⟩ =>
      thn (h2 pins s4 σ H4 y w' v2 v4 _ I4 e2 e4 q4) fun d5 s5 ⟨z5, H5, I5, e5, k5, ez5, q5⟩ => ?_))
    subst ez5
    cases e5
    refine wpAny_truthy_bool ?_
    cases k5 with
    | false => exact ite_ff ⟨H5, I5, q5⟩
    | true =>
      refine ite_tt (test_last (thn (hd.run pins s5 σ H5 _ I5 q5) fun v6 s6 ⟨u, H6, I6, e6, q6⟩ => thn (h3 pins s6 σ H6 w' u v4 v6 _ I6 e4 e6 q6) fun d7 s7 ⟨z7, H7, I7, e7, k7, ez7, q7⟩ => ?_))
      subst ez7
      cases e7
      exact wpAny_truthy_bool ⟨H7, I7, q7⟩
variable {QB : Bool → Hp → Prop} {P : Hp → Prop} {H : Hp} {σ : L2.St}
theorem g_ch3 {r1 r2 r3 : R2} (h : ta σ H fun x H1 => tb σ H1 fun y H2 => r1 x y H2 (FCh QB fun H3 => tc σ H3 fun w H4 => r2 y w H4 (FCh QB fun H5 => td σ H5 fun u H6 => r3 w u H6 (FB QB)))) : tChain3 r1 r2 r3 ta tb tc td σ H QB := h
theorem g_chT (h : P H) : FCh QB P (.bl true) H := ⟨true, rfl, h⟩
theorem g_chF (h : QB false H) : FCh QB P (.bl false) H := ⟨false, rfl, h⟩
end
end Vf
namespace Vf
open PySem PySem.Spec PyProof.Rows L2 RZ
/-! ## lists of ranges, lists turned about, chains of four, None -/
section
variable {K : PySem.W.Frag} {S M : AS} {H0 H : Hp} {G : List (V × D)} {L : List (Addr × List D)} {B : List Addr} {Q : VK} {a : Addr} {ds : List D} {x : V} {d : D}
def FLrg (Q : VK) : Int → Int → Hp → Prop := fun a b H1 => RgOk a b ∧ ∀ q, H1 q = none → Q (.ref q) (upd H1 q (.lst (rgV a b)))
def FLr1 (Q : Int → Int → Hp → Prop) : VK := fun x H1 => ∃ n, x = .int n ∧ Q 0 n H1
theorem g_lrg {te : L2.St → Hp → (Int → Int → Hp → Prop) → Prop} {σ : L2.St} (h : te σ H (FLrg Q)) : tLstRg te σ H Q := h
theorem g_rg1 {ta : TE} {σ : L2.St} {P : Int → Int → Hp → Prop} (h : ta σ H (FLr1 P)) : tRg1 ta σ H P := h
theorem rgV_data (a : Int) (n : Nat) : DzL K S H ((List.range n).map fun i => D.int (a + (i : Nat))) ((List.range n).map fun i => V.int (a + (i : Nat))) := by
  have e : ((List.range n).map fun i => D.int (a + (i : Nat))) = ((List.range n).map fun (i : Nat) => a + (i : Int)).map D.int := by rw [List.map_map]; rfl
  have e2 : ((List.range n).map fun i => V.int (a + (i : Nat))) = ((List.range n).map fun (i : Nat) => a + (i : Int)).map V.int := by rw [List.map_map]; rfl
  rw [e, e2]
  exact DzL.of_ints _
/-- list(range(n)) -/
theorem d_lrg {n : Int} (st : St K S M H0 H G L B) (h0 : 0 ≤ n) (h1 : n ≤ 1000000) (q : ∀ p H', St K S M H0 H' ((.ref p, .lst ((List.range n.toNat).map fun i => D.int (0 + (i : Nat)))) :: G) L B → Q (.ref p) H') : FLr1 (FLrg Q) (.int n) H := by
  refine ⟨n, rfl, ⟨by decide, by decide, by omega, by omega, by omega⟩, fun p np => ?_⟩
  refine q p _ ?_
  have e : rgV 0 n = (List.range n.toNat).map fun i => V.int (0 + (i : Nat)) := by
    unfold rgV
    rw [Int.sub_zero]
  rw [e]
  exact st.lst np (rgV_data 0 _)
def FRevL (K : PySem.W.Frag) (Q : VK) : VK := fun x H1 => ∃ a xs, x = .ref a ∧ SqL K H1 a xs ∧ ∀ p, H1 p = none → Q (.ref p) (upd H1 p (.lst xs.reverse))
theorem g_rev {te : TE} {σ : L2.St} (h : te σ H (FRevL K Q)) : tRevL K te σ H Q := h
theorem d_rev (st : St K S M H0 H G L B) (h : Dz K S H (.lst ds) (.ref a)) (q : ∀ p H', St K S M H0 H' ((.ref p, .lst ds.reverse) :: G) L B → Q (.ref p) H') : FRevL K Q (.ref a) H := by
  obtain ⟨xs, h1, h2⟩ := z_lst h
  exact ⟨a, xs, rfl, h1.sq, fun p np => q p _ (st.lst np h2.rev)⟩
/-- is None -/
def rIsNo : R2 := fun x y H Q => y = .non ∧ Q (.bl (decide (x = .non))) H
def rNotNo : R2 := fun x y H Q => y = .non ∧ Q (.bl (!decide (x = .non))) H
theorem opIs {X : Cx} : OpR X (compareOp .Is) rIsNo := op_isN
theorem opNot {X : Cx} : OpR X (compareOp .IsNot) rNotNo := op_notN
theorem v_isNN (q : Q (.bl true) H) : rIsNo .non .non H Q := ⟨rfl, q⟩
theorem v_isNR (q : Q (.bl false) H) : rIsNo (.ref a) .non H Q := ⟨rfl, q⟩
theorem v_isNI {i : Int} (q : Q (.bl false) H) : rIsNo (.int i) .non H Q := ⟨rfl, q⟩
theorem v_notNN (q : Q (.bl false) H) : rNotNo .non .non H Q := ⟨rfl, q⟩
theorem v_notNR (q : Q (.bl true) H) : rNotNo (.ref a) .non H Q := ⟨rfl, q⟩
theorem v_notNI {i : Int} (q : Q (.bl true) H) : rNotNo (.int i) .non H Q := ⟨rfl, q⟩
theorem d_allT {n : Nat} (h : Dz K S H (.lst (List.replicate n (D.bl true))) (.ref a)) (q : Q (.bl true) H) : rAll K [.ref a] H Q := by
  have e : (List.replicate n (D.bl true)) = (List.replicate n true).map D.bl := by rw [List.map_replicate]
  rw [e] at h
  refine d_all h ?_
  have e2 : (List.replicate n true).all id = true := by simp
  rw [e2]
  exact q
theorem rep_succ {α : Type} {n : Nat} {x : α} : List.replicate n x ++ [x] = List.replicate (n + 1) x := List.replicate_succ'.symm
end
end Vf
namespace Vf
open PySem PySem.Spec PyProof.Rows L2 RZ
/-! ## kinds, wanes, walking: the arithmetic alone -/
/-- whole numbers -/
def isWhole : D → Bool
  | .int _ => true
  | _ => false
def isWithin (d : D) (lo hi : Int) : Bool := match d with
  | .int i => decide (lo ≤ i ∧ i ≤ hi)
  | _ => false
def isStep : D → Bool
  | .tup [a, b] => isWithin a 1 9 && isWithin b 0 (10 ^ 9)
  | _ => false
def areSteps : D → Bool
  | .lst ds => ds.all isStep
  | _ => false
def tails : List Int := [1, 2, 3, 4, 6, 8, 12, 24]
def signOk (c : Nat) : Bool := c == 46 || c == 97
def isRow (d : D) : Bool := match d with
  | .str z => decide (z.cps.size ≤ 200) && z.cps.toList.all signOk
  | _ => false
theorem sgn_eq (k c : Nat) : ((⟨#[k]⟩ : Str) == ⟨#[c]⟩) = (c == k) := by
  rw [Bool.eq_iff_iff, beq_iff_eq, beq_iff_eq, Str.mk.injEq]
  constructor
  · intro e
    have := congrArg (fun a : Array Nat => a.toList) e
    simp at this
    exact this.symm
  · intro e
    rw [e]
theorem sign_in (c : Nat) : inV (.str ⟨#[c]⟩) [.str (Str.ofString "."), .str (Str.ofString "a")] = signOk c := by
  show ((⟨#[46]⟩ : Str) == ⟨#[c]⟩ || ((⟨#[97]⟩ : Str) == ⟨#[c]⟩ || false)) = _
  rw [sgn_eq, sgn_eq, Bool.or_false]
  rfl
/-! ### a wane as data -/
structure Wn where
  head : List (Int × Int)
  tail : List (Int × Int)
  cap : Int
  lift : Int
  anew : Bool
def stepOk (s : Int × Int) : Prop := 1 ≤ s.1 ∧ s.1 ≤ 9 ∧ 0 ≤ s.2 ∧ s.2 ≤ 10 ^ 9
def stepD (s : Int × Int) : D := .tup [.int s.1, .int s.2]
structure Wn.Ok (w : Wn) : Prop where
  hl : w.head.length ≤ 24
  tl : (w.tail.length : Int) ∈ tails
  hs : ∀ s ∈ w.head, stepOk s
  ts : ∀ s ∈ w.tail, stepOk s
  c1 : 1 ≤ w.cap
  c2 : w.cap ≤ 10 ^ 9
  l1 : 0 ≤ w.lift
  l2 : w.lift ≤ 10 ^ 9
theorem Wn.Ok.t0 {w : Wn} (h : w.Ok) : 0 < w.tail.length := by
  have := h.tl
  simp only [tails, List.mem_cons, List.not_mem_nil, or_false] at this
  omega
theorem Wn.Ok.t24 {w : Wn} (h : w.Ok) : w.tail.length ≤ 24 := by
  have := h.tl
  simp only [tails, List.mem_cons, List.not_mem_nil, or_false] at this
  omega
def Wn.fs (w : Wn) : List (Str × D) := [("_head", .tup (w.head.map stepD)), ("_tail", .tup (w.tail.map stepD)), ("_steps", .tup ((w.head ++ w.tail).map stepD)), ("_cap", .int w.cap), ("_lift", .int w.lift), ("_anew", .bl w.anew)]
def Wn.d (C : Addr) (w : Wn) : D := .ins C w.fs
theorem isStep_ok {s : Int × Int} (h : stepOk s) : isStep (stepD s) = true := by
  obtain ⟨h1, h2, h3, h4⟩ := h
  simp [stepD, isStep, isWithin, h1, h2, h3]
  exact h4
theorem areSteps_ok {l : List (Int × Int)} (h : ∀ s ∈ l, stepOk s) : areSteps (.lst (l.map stepD)) = true := by
  show (l.map stepD).all isStep = true
  rw [List.all_map, List.all_eq_true]
  exact fun s hs => isStep_ok (h s hs)
theorem steps_fine : ∀ {l : List (Int × Int)}, (∀ s ∈ l, stepOk s) → D.fines (l.map stepD) = true ∧ D.wts (l.map stepD) = 3 * l.length ∧ D.deps (l.map stepD) ≤ 1
  | [], _ => ⟨rfl, rfl, Nat.zero_le _⟩
  | s :: l, h => by
    obtain ⟨h1, h2, h3⟩ := steps_fine (l := l) fun s m => h s (List.mem_cons_of_mem _ m)
    obtain ⟨q1, q2, q3, q4⟩ := h s (List.mem_cons_self ..)
    have o1 := int_ok (i := s.1) (by omega)
    have o2 := int_ok (i := s.2) (by omega)
    have f : (stepD s).fine = true := by
      simp only [stepD, D.fine, D.fines, Bool.and_eq_true] at *
      exact ⟨o1.fine, o2.fine, trivial⟩
    refine ⟨?_, ?_, ?_⟩
    · rw [List.map_cons, D.fines, f, h1]; rfl
    · rw [List.map_cons, D.wts, h2, List.length_cons]
      simp only [stepD, D.wt, D.wts]
      omega
    · rw [List.map_cons, D.deps]
      simp only [stepD, D.dep, D.deps]
      omega
theorem lst_ok {l : List (Int × Int)} (h : ∀ s ∈ l, stepOk s) (hl : l.length ≤ 100) : (D.lst (l.map stepD)).Ok := by
  obtain ⟨h1, h2, h3⟩ := steps_fine h
  exact ⟨h1, by simp only [D.wt]; omega, by simp only [D.dep]; omega⟩
theorem stepD_ok {s : Int × Int} (h : stepOk s) : (stepD s).Ok := by
  obtain ⟨h1, h2, h3, h4⟩ := h
  have o1 := int_ok (i := s.1) (by omega)
  have o2 := int_ok (i := s.2) (by omega)
  refine ⟨?_, ?_, ?_⟩
  · simp only [stepD, D.fine, D.fines, Bool.and_eq_true] at *
    exact ⟨o1.fine, o2.fine, trivial⟩
  · simp only [stepD, D.wt, D.wts]; omega
  · simp only [stepD, D.dep, D.deps]; omega
def encW (w : Wn) : List D := [.lst (w.head.map stepD), .lst (w.tail.map stepD), .int w.cap, .int w.lift, .bl w.anew]
theorem W_head (w : Wn) : w.fs.lookup ("_head" : Str) = some (D.tup (w.head.map stepD)) := rfl
theorem W_tail (w : Wn) : w.fs.lookup ("_tail" : Str) = some (D.tup (w.tail.map stepD)) := by
  first | rfl | with_unfolding_all rfl
theorem W_steps (w : Wn) : w.fs.lookup ("_steps" : Str) = some (D.tup ((w.head ++ w.tail).map stepD)) := by
  first | rfl | with_unfolding_all rfl
theorem W_cap (w : Wn) : w.fs.lookup ("_cap" : Str) = some (D.int w.cap) := by
  first | rfl | with_unfolding_all rfl
theorem W_lift (w : Wn) : w.fs.lookup ("_lift" : Str) = some (D.int w.lift) := by
  first | rfl | with_unfolding_all rfl
theorem W_anew (w : Wn) : w.fs.lookup ("_anew" : Str) = some (D.bl w.anew) := by
  first | rfl | with_unfolding_all rfl
/-- the phase of a since, the step that comes -/
def phase (w : Wn) (n : Int) : Int := if n < (w.head.length : Int) then n else w.head.length + (n - w.head.length) % (w.tail.length : Int)
def stepAt (w : Wn) (n : Int) : Int × Int := ((w.head ++ w.tail)[(phase w n).toNat]?).getD (1, 0)
theorem phase_lt {w : Wn} (h : w.Ok) {n : Int} (hn : 0 ≤ n) : 0 ≤ phase w n ∧ phase w n < ((w.head ++ w.tail).length : Int) := by
  have t0 := h.t0
  have e := Int.emod_nonneg (n - w.head.length) (by omega : (w.tail.length : Int) ≠ 0)
  have e2 := Int.emod_lt_of_pos (n - w.head.length) (by omega : (0 : Int) < (w.tail.length : Int))
  rw [List.length_append]
  unfold phase
  split <;> constructor <;> omega
theorem stepAt_get {w : Wn} (h : w.Ok) {n : Int} (hn : 0 ≤ n) : (w.head ++ w.tail)[(phase w n).toNat]? = some (stepAt w n) := by
  obtain ⟨h1, h2⟩ := phase_lt h hn
  have h3 : (phase w n).toNat < (w.head ++ w.tail).length := by omega
  unfold stepAt
  rw [List.getElem?_eq_getElem h3]
  rfl
theorem stepAt_ok {w : Wn} (h : w.Ok) {n : Int} (hn : 0 ≤ n) : stepOk (stepAt w n) := by
  have m := List.mem_of_getElem? (stepAt_get h hn)
  rcases List.mem_append.mp m with m | m
  · exact h.hs _ m
  · exact h.ts _ m
/-- methods: the fields' names are no methods' names -/
theorem W_no {m : Str} (h : (["_head", "_tail", "_steps", "_cap", "_lift", "_anew"] : List Str).contains m = false) (w : Wn) : w.fs.lookup m = none := by
  simp only [List.contains_cons, List.contains_nil, Bool.or_false, Bool.or_eq_false_iff] at h
  obtain ⟨h1, h2, h3, h4, h5, h6⟩ := h
  simp only [Wn.fs, List.lookup, h1, h2, h3, h4, h5, h6]
def planD (w : Wn) : D := .tup [.lst (w.head.map stepD), .lst (w.tail.map stepD), .int w.cap, .int w.lift, .bl w.anew]
theorem dot_eq (c : Nat) : decide ((⟨#[c]⟩ : Str) = Str.ofString ".") = decide (c = 46) := by
  rw [decide_eq_decide]
  constructor
  · intro e
    have e2 : (#[c] : Array Nat) = #[46] := (congrArg Str.cps e).trans rfl
    have e3 := congrArg (fun a : Array Nat => a.toList) e2
    simpa using e3
  · intro e
    subst e
    rfl
def waned1 (w : Wn) (x n : Int) : Int := if x / (stepAt w n).1 - (stepAt w n).2 > 0 then x / (stepAt w n).1 - (stepAt w n).2 else 0
theorem waned1_bd {w : Wn} (h : w.Ok) {n x : Int} (hn : 0 ≤ n) (h0 : 0 ≤ x) (h1 : x ≤ w.cap) : 0 ≤ waned1 w x n ∧ waned1 w x n ≤ w.cap := by
  obtain ⟨s1, s2, s3, s4⟩ := stepAt_ok h hn
  have c1 := h.c1
  have e1 : x / (stepAt w n).1 ≤ x := Int.ediv_le_self _ h0
  unfold waned1
  split <;> constructor <;> omega
def lifted1 (w : Wn) (x : Int) : Int := if x = 0 then 0 else if w.cap < x + w.lift then w.cap else x + w.lift
theorem lifted1_bd {w : Wn} (h : w.Ok) {x : Int} (h0 : 0 ≤ x) : 0 ≤ lifted1 w x ∧ lifted1 w x ≤ w.cap := by
  have c1 := h.c1
  have l1 := h.l1
  unfold lifted1
  split
  · constructor <;> omega
  · split <;> constructor <;> omega
theorem lifted1_eq {w : Wn} {x : Int} (h0 : 0 ≤ x) : (if x + w.lift < w.cap then x + w.lift else w.cap) * (if decide (0 < x) = true then 1 else 0) = lifted1 w x := by
  unfold lifted1
  by_cases h : x = 0
  · subst h; simp
  · have h2 : 0 < x := by omega
    rw [if_neg h]
    simp only [h2, decide_true, if_true, Int.mul_one]
    by_cases h3 : x + w.lift < w.cap
    · rw [if_pos h3, if_neg (by omega)]
    · rw [if_neg h3]
      by_cases h4 : w.cap < x + w.lift
      · rw [if_pos h4]
      · rw [if_neg h4]; omega
/-! ### a row walked -/
def stp (w : Wn) (s : Int × Int) (c : Nat) : Int × Int := (if c = 46 then waned1 w s.1 s.2 else lifted1 w s.1, if c = 46 then s.2 + 1 else if w.anew = true then 0 else s.2)
def stt (w : Wn) (s : Int × Int) (cs : List Nat) : Int × Int := cs.foldl (stp w) s
def walkL (w : Wn) (s : Int × Int) (n : Nat) (cs : List Nat) : List D := (List.range n).map fun j => stepD (stt w s (cs.take j))
theorem stt_succ {w : Wn} {s : Int × Int} {cs : List Nat} {i c : Nat} (h : cs[i]? = some c) : stt w s (cs.take (i + 1)) = stp w (stt w s (cs.take i)) c := by
  unfold stt
  rw [take_snoc h, List.foldl_append]
  rfl
theorem walkL_succ {w : Wn} {s : Int × Int} {cs : List Nat} {n : Nat} : walkL w s (n + 1) cs = walkL w s n cs ++ [stepD (stt w s (cs.take n))] := by
  unfold walkL
  rw [List.range_succ, List.map_append]
  rfl
theorem stt_ok {w : Wn} (h : w.Ok) : ∀ (cs : List Nat) {s : Int × Int}, 0 ≤ s.1 ∧ s.1 ≤ w.cap → 0 ≤ s.2 → (0 ≤ (stt w s cs).1 ∧ (stt w s cs).1 ≤ w.cap) ∧ 0 ≤ (stt w s cs).2 ∧ (stt w s cs).2 ≤ s.2 + cs.length
  | [], s, h0, hn => ⟨h0, hn, by show s.2 ≤ s.2 + ((0 : Nat) : Int); omega⟩
  | c :: cs, s, h0, hn => by
    have a1 := waned1_bd h hn h0.1 h0.2
    have a2 := lifted1_bd h h0.1
    have q1 : 0 ≤ (stp w s c).1 ∧ (stp w s c).1 ≤ w.cap := by
      show 0 ≤ (if c = 46 then _ else _) ∧ (if c = 46 then _ else _) ≤ w.cap
      split <;> assumption
    have q2 : 0 ≤ (stp w s c).2 ∧ (stp w s c).2 ≤ s.2 + 1 := by
      show 0 ≤ (if c = 46 then _ else _) ∧ (if c = 46 then _ else _) ≤ s.2 + 1
      split
      · constructor <;> omega
      · split <;> constructor <;> omega
    obtain ⟨r1, r2, r3⟩ := stt_ok h cs q1 q2.1
    refine ⟨r1, r2, ?_⟩
    show (stt w (stp w s c) cs).2 ≤ s.2 + ((cs.length + 1 : Nat) : Int)
    omega
theorem isRow_len {z : Str} (h : isRow (.str z) = true) : z.cps.size ≤ 200 := by
  have h : (decide (z.cps.size ≤ 200) && z.cps.toList.all signOk) = true := h
  rw [Bool.and_eq_true] at h
  exact of_decide_eq_true h.1
theorem stt_snd {w : Wn} : ∀ (cs : List Nat) {x y n : Int}, (stt w (x, n) cs).2 = (stt w (y, n) cs).2
  | [], _, _, _ => rfl
  | c :: cs, x, y, n => by
    show (stt w (stp w (x, n) c) cs).2 = (stt w (stp w (y, n) c) cs).2
    exact stt_snd cs
theorem tail_of {w : Wn} (h : w.Ok) : (w.tail.length : Int) = 1 ∨ (w.tail.length : Int) = 2 ∨ (w.tail.length : Int) = 3 ∨ (w.tail.length : Int) = 4 ∨ (w.tail.length : Int) = 6 ∨ (w.tail.length : Int) = 8 ∨ (w.tail.length : Int) = 12 ∨ (w.tail.length : Int) = 24 := by
  have := h.tl
  simp only [tails, List.mem_cons, List.not_mem_nil, or_false] at this
  exact this
section
variable {w : Wn} {n d j : Int}
theorem ph_le (h : w.Ok) (hn : 0 ≤ n) : phase w n ≤ n := by
  rcases tail_of h with e | e | e | e | e | e | e | e <;> unfold phase <;> rw [e] <;> (repeat split) <;> omega
theorem ph_ph (h : w.Ok) (hn : 0 ≤ n) : phase w (phase w n) = phase w n := by
  rcases tail_of h with e | e | e | e | e | e | e | e <;> unfold phase <;> rw [e] <;> (repeat split) <;> omega
theorem ph_id (h : w.Ok) (hn : 0 ≤ n) (hl : n < w.head.length + w.tail.length) : phase w n = n := by
  rcases tail_of h with e | e | e | e | e | e | e | e <;> unfold phase <;> rw [e] <;> (repeat split) <;> omega
theorem ph_24 (h : w.Ok) (hn : w.head.length ≤ n) (hd : 0 ≤ d) : phase w (n + 24 * d) = phase w n := by
  rcases tail_of h with e | e | e | e | e | e | e | e <;> unfold phase <;> rw [e] <;> (repeat split) <;> omega
theorem ph_mod (h : w.Ok) (hn : w.head.length ≤ n) : (n - phase w n) % w.tail.length = 0 := by
  rcases tail_of h with e | e | e | e | e | e | e | e <;> unfold phase <;> rw [e] <;> (repeat split) <;> omega
theorem ph_add (h : w.Ok) (hn : 0 ≤ n) (hj : 0 ≤ j) : phase w (phase w n + j) = phase w (n + j) := by
  rcases tail_of h with e | e | e | e | e | e | e | e <;> unfold phase <;> rw [e] <;> (repeat split) <;> omega
theorem ph_next (h : w.Ok) (hn : 0 ≤ n) : phase w (n + 1) = if phase w n + 1 = w.head.length + w.tail.length then (w.head.length : Int) else phase w n + 1 := by
  rcases tail_of h with e | e | e | e | e | e | e | e <;> unfold phase <;> rw [e] <;> (repeat split) <;> omega
end
theorem pairs_fine : ∀ {l : List (Int × Int)}, (∀ s ∈ l, s.1.natAbs < 2 ^ 190 ∧ s.2.natAbs < 2 ^ 190) → D.fines (l.map stepD) = true ∧ D.wts (l.map stepD) = 3 * l.length ∧ D.deps (l.map stepD) ≤ 1
  | [], _ => ⟨rfl, rfl, Nat.zero_le _⟩
  | s :: l, h => by
    obtain ⟨h1, h2, h3⟩ := pairs_fine (l := l) fun s m => h s (List.mem_cons_of_mem _ m)
    obtain ⟨q1, q2⟩ := h s (List.mem_cons_self ..)
    have o1 := int_ok (i := s.1) (by omega)
    have o2 := int_ok (i := s.2) (by omega)
    have f : (stepD s).fine = true := by
      simp only [stepD, D.fine, D.fines, Bool.and_eq_true] at *
      exact ⟨o1.fine, o2.fine, trivial⟩
    refine ⟨?_, ?_, ?_⟩
    · rw [List.map_cons, D.fines, f, h1]; rfl
    · rw [List.map_cons, D.wts, h2, List.length_cons]
      simp only [stepD, D.wt, D.wts]
      omega
    · rw [List.map_cons, D.deps]
      simp only [stepD, D.dep, D.deps]
      omega
theorem walkL_ok {w : Wn} (h : w.Ok) {s : Int × Int} (h0 : 0 ≤ s.1 ∧ s.1 ≤ w.cap) (hn : 0 ≤ s.2 ∧ s.2 ≤ 10 ^ 30) {cs : List Nat} (hl : cs.length ≤ 200) : (D.lst (walkL w s (cs.length + 1) cs)).Ok := by
  have hc := h.c2
  have e : walkL w s (cs.length + 1) cs = ((List.range (cs.length + 1)).map fun j => stt w s (cs.take j)).map stepD := by unfold walkL; rw [List.map_map]; rfl
  obtain ⟨h1, h2, h3⟩ := pairs_fine (l := (List.range (cs.length + 1)).map fun j => stt w s (cs.take j)) fun p hp => by
    obtain ⟨j, _, rfl⟩ := List.mem_map.mp hp
    obtain ⟨b1, b2, b3⟩ := stt_ok h (cs.take j) h0 hn.1
    have : (cs.take j).length ≤ 200 := by rw [List.length_take]; omega
    constructor <;> omega
  rw [e]
  rw [List.length_map, List.length_range] at h2
  exact ⟨h1, by simp only [D.wt]; omega, by simp only [D.dep]; omega⟩
theorem stp_mono {w : Wn} (h : w.Ok) {x y n : Int} {c : Nat} (h0 : 0 ≤ x) (h1 : x ≤ y) (h2 : y ≤ w.cap) (hn : 0 ≤ n) : (stp w (x, n) c).1 ≤ (stp w (y, n) c).1 := by
  show (if c = 46 then _ else _) ≤ (if c = 46 then _ else _)
  split
  · obtain ⟨s1, s2, s3, s4⟩ := stepAt_ok h hn
    have e := Int.ediv_le_ediv (by omega : 0 < (stepAt w n).1) h1
    show waned1 w x n ≤ waned1 w y n
    unfold waned1
    split <;> split <;> omega
  · have c1 := h.c1
    have l1 := h.l1
    show lifted1 w x ≤ lifted1 w y
    unfold lifted1
    (repeat split) <;> omega
theorem stt_mono {w : Wn} (h : w.Ok) : ∀ (cs : List Nat) {x y n : Int}, 0 ≤ x → x ≤ y → y ≤ w.cap → 0 ≤ n → (stt w (x, n) cs).1 ≤ (stt w (y, n) cs).1
  | [], _, _, _, _, h1, _, _ => h1
  | c :: cs, x, y, n, h0, h1, h2, hn => by
    show (stt w (stp w (x, n) c) cs).1 ≤ (stt w (stp w (y, n) c) cs).1
    have b1 := stt_ok h [c] (s := (x, n)) ⟨h0, by show x ≤ w.cap; omega⟩ hn
    have b2 := stt_ok h [c] (s := (y, n)) ⟨by show 0 ≤ y; omega, h2⟩ hn
    exact stt_mono h cs (x := (stp w (x, n) c).1) (y := (stp w (y, n) c).1) (n := (stp w (x, n) c).2) b1.1.1 (stp_mono h h0 h1 h2 hn) b2.1.2 b1.2.1
theorem stp_zero {w : Wn} (h : w.Ok) {s : Int × Int} {c : Nat} (h0 : s.1 = 0) (hn : 0 ≤ s.2) : (stp w s c).1 = 0 := by
  show (if c = 46 then _ else _) = 0
  rw [h0]
  split
  · obtain ⟨s1, s2, s3, s4⟩ := stepAt_ok h hn
    unfold waned1
    rw [Int.zero_ediv]
    split <;> omega
  · unfold lifted1
    rw [if_pos rfl]
theorem walkL_get {w : Wn} {s : Int × Int} {n : Nat} {cs : List Nat} {j : Nat} (h : j < n) : (walkL w s n cs)[j]? = some (stepD (stt w s (cs.take j))) := by
  unfold walkL
  rw [List.getElem?_map, List.getElem?_range h]
  rfl
end Vf
namespace Vf
open PySem PySem.Spec PyProof.Rows L2 RZ
/-! ## effects: the arithmetic alone -/
/-! ### effects as data -/
structure Ef where
  least : Int
  add : Int
  by_ : Int
  top : Int
def Ef.d (e : Ef) : D := .tup [.int e.least, .int e.add, .int e.by_, .int e.top]
def efD : Option Ef → D
  | none => .non
  | some e => e.d
def noE (w : Wn) : Ef := ⟨1, 0, 1, w.cap⟩
def turnE (w : Wn) (n : Int) : Option Ef := if w.cap / (stepAt w n).1 - (stepAt w n).2 < 1 then none else some ⟨(stepAt w n).1 * ((stepAt w n).2 + 1), -((stepAt w n).1 * (stepAt w n).2), (stepAt w n).1, w.cap / (stepAt w n).1 - (stepAt w n).2⟩
def mn (i j : Int) : Int := if j < i then j else i
def mx (i j : Int) : Int := if j > i then j else i
def shiftE (w : Wn) (s : Int) : Option Ef := if mn w.cap (w.cap + s) < 1 then none else some ⟨mx 1 (1 - s), s, 1, mn w.cap (w.cap + s)⟩
def chn : Option Ef → Option Ef → Option Ef
  | some a, some b => if a.top < b.least then none else some ⟨mx a.least (b.least * a.by_ - a.add), a.add + b.add * a.by_, a.by_ * b.by_, mn b.top ((a.top + b.add) / b.by_)⟩
  | _, _ => none
/-- numbers below 2^b -/
structure Ef.In (e : Ef) (b : Nat) : Prop where
  l : e.least.natAbs < 2 ^ b
  a : e.add.natAbs < 2 ^ b
  p : 1 ≤ e.by_
  y : e.by_.natAbs < 2 ^ b
  t : e.top.natAbs < 2 ^ b
def oIn (o : Option Ef) (b : Nat) : Prop := ∀ e, o = some e → e.In b
def thr : Option Ef → Int → Int
  | none, _ => 0
  | some e, x => if x < e.least then 0 else mn e.top ((x + e.add) / e.by_)
/-- the effect of one sign -/
def signE (w : Wn) (n : Int) (c : Nat) : Option Ef := if c = 46 then turnE w n else shiftE w w.lift
def esp (w : Wn) (p : Option Ef × Int) (c : Nat) : Option Ef × Int := (chn p.1 (signE w p.2 c), (stp w (0, p.2) c).2)
/-- the effect of signs behind an effect -/
def eff (w : Wn) (p : Option Ef × Int) (cs : List Nat) : Option Ef × Int := cs.foldl (esp w) p
theorem eff_succ {w : Wn} {p : Option Ef × Int} {cs : List Nat} {i c : Nat} (h : cs[i]? = some c) : eff w p (cs.take (i + 1)) = esp w (eff w p (cs.take i)) c := by
  unfold eff
  rw [take_snoc h, List.foldl_append]
  rfl
theorem eff_snd {w : Wn} : ∀ (cs : List Nat) {o : Option Ef} {n : Int}, (eff w (o, n) cs).2 = (stt w (0, n) cs).2
  | [], _, _ => rfl
  | c :: cs, o, n => by
    show (eff w (esp w (o, n) c) cs).2 = (stt w (stp w (0, n) c) cs).2
    rw [show esp w (o, n) c = (chn o (signE w n c), (stp w (0, n) c).2) from rfl, eff_snd cs]
    have e := stt_snd (w := w) cs (x := 0) (y := (stp w (0, n) c).1) (n := (stp w (0, n) c).2)
    rw [e]
structure Ef.Sg (e : Ef) : Prop where
  p : 1 ≤ e.by_
  y : e.by_ ≤ 9
  a1 : -17179869184 ≤ e.add
  a2 : e.add ≤ 17179869184
  l1 : 1 ≤ e.least
  l2 : e.least ≤ 17179869184
  t1 : 1 ≤ e.top
  t2 : e.top ≤ 10 ^ 9
  s : e.by_ ≤ e.least + e.add
structure Ef.At (e : Ef) (m : Nat) : Prop where
  p : 1 ≤ e.by_
  y : e.by_ ≤ 2 ^ (4 * m)
  a1 : -(2 ^ (4 * m) * 68719476736) ≤ e.add
  a2 : e.add ≤ 2 ^ (4 * m) * 68719476736
  l1 : 1 ≤ e.least
  l2 : e.least ≤ 2 ^ (4 * m) * 1099511627776
  t1 : 1 ≤ e.top
  t2 : e.top ≤ 10 ^ 9
theorem mulB {x y X Y : Int} (h1 : -X ≤ x) (h2 : x ≤ X) (h3 : 0 ≤ y) (h4 : y ≤ Y) : -(X * Y) ≤ x * y ∧ x * y ≤ X * Y := by
  have hX : 0 ≤ X := by omega
  have e1 := Int.mul_le_mul_of_nonneg_right h2 h3
  have e2 := Int.mul_le_mul_of_nonneg_left h4 hX
  have e3 := Int.mul_le_mul_of_nonneg_right h1 h3
  rw [Int.neg_mul] at e3
  constructor <;> omega
theorem natAbs_two {x : Int} {k b : Nat} (h1 : -(2 ^ k) ≤ x) (h2 : x ≤ 2 ^ k) (hk : k < b) : x.natAbs < 2 ^ b := by
  have e : ((2 : Int) ^ k) = ((2 ^ k : Nat) : Int) := by simp
  rw [e] at h1 h2
  have : 2 ^ k < 2 ^ b := Nat.pow_lt_pow_right (by decide) hk
  omega
theorem two4 (m : Nat) : (2 : Int) ^ (4 * (m + 1)) = 2 ^ (4 * m) * 16 := by
  rw [show 4 * (m + 1) = 4 * m + 4 by omega, Int.pow_add]
  rfl
theorem two_pos (m : Nat) : (1 : Int) ≤ 2 ^ m := by
  have e : ((2 : Int) ^ m) = ((2 ^ m : Nat) : Int) := by simp
  have := Nat.pow_pos (n := m) (by decide : 0 < 2)
  rw [e]
  omega
theorem Ef.At.In {e : Ef} {m : Nat} (h : e.At m) (hm : m ≤ 400) : e.In 1800 := by
  have h0 := two_pos (4 * m)
  have e1 : (2 : Int) ^ (4 * m + 40) = 2 ^ (4 * m) * 1099511627776 := by rw [Int.pow_add]; rfl
  obtain ⟨p, y, a1, a2, l1, l2, t1, t2⟩ := h
  refine ⟨?_, ?_, p, ?_, ?_⟩
  all_goals
    refine natAbs_two (k := 4 * m + 40) ?_ ?_ (by omega) <;> rw [e1] <;> generalize (2 : Int) ^ (4 * m) = z at * <;> omega
theorem Ef.Sg.In {e : Ef} (h : e.Sg) : e.In 40 := by
  obtain ⟨p, y, a1, a2, l1, l2, t1, t2, _⟩ := h
  refine ⟨?_, ?_, p, ?_, ?_⟩ <;> omega
theorem Ef.In.mono {e : Ef} {b c : Nat} (h : e.In b) (hb : b ≤ c) : e.In c := by
  have := Nat.pow_le_pow_right (n := 2) (by decide) hb
  obtain ⟨l, a, p, y, t⟩ := h
  exact ⟨by omega, by omega, p, by omega, by omega⟩
theorem chn_some {a b e : Ef} (h : chn (some a) (some b) = some e) : b.least ≤ a.top ∧ e = ⟨mx a.least (b.least * a.by_ - a.add), a.add + b.add * a.by_, a.by_ * b.by_, mn b.top ((a.top + b.add) / b.by_)⟩ := by
  have h : (if a.top < b.least then none else some (Ef.mk (mx a.least (b.least * a.by_ - a.add)) (a.add + b.add * a.by_) (a.by_ * b.by_) (mn b.top ((a.top + b.add) / b.by_)))) = some e := h
  by_cases h3 : a.top < b.least
  · rw [if_pos h3] at h; cases h
  · rw [if_neg h3] at h; cases h; exact ⟨by omega, rfl⟩
theorem chn_at {a b e : Ef} {m : Nat} (ha : a.At m) (hb : b.Sg) (h : chn (some a) (some b) = some e) : e.At (m + 1) := by
  obtain ⟨h3, rfl⟩ := chn_some h
  obtain ⟨p, y, a1, a2, l1, l2, t1, t2⟩ := ha
  obtain ⟨q, z, b1, b2, k1, k2, u1, u2, sm⟩ := hb
  obtain ⟨m1, m2⟩ := mulB b1 b2 (by omega : 0 ≤ a.by_) y
  obtain ⟨n1, n2⟩ := mulB (x := b.least) (X := 17179869184) (by omega) k2 (by omega : 0 ≤ a.by_) y
  have o2 := (mulB (x := a.by_) (y := b.by_) (X := 2 ^ (4 * m)) (Y := 9) (by omega) y (by omega) z).2
  have r1 : 1 * 1 ≤ a.by_ * b.by_ := Int.mul_le_mul p q (by decide) (by omega)
  have d1 : 1 ≤ (a.top + b.add) / b.by_ := by
    rw [Int.le_ediv_iff_mul_le (by omega)]
    omega
  have e4 := two4 m
  have z0 := two_pos (4 * m)
  refine ⟨?_, ?_, ?_, ?_, ?_, ?_, ?_, ?_⟩
  all_goals
    show _ ≤ _
    (try rw [e4])
    generalize (2 : Int) ^ (4 * m) = z at *
    simp only [mx, mn]
    (try split) <;> omega
theorem turnE_sg {w : Wn} (h : w.Ok) {n : Int} (hn : 0 ≤ n) {e : Ef} (he : turnE w n = some e) : e.Sg := by
  obtain ⟨s1, s2, s3, s4⟩ := stepAt_ok h hn
  have c1 := h.c1
  have c2 := h.c2
  unfold turnE at he
  split at he
  · cases he
  · rename_i h3
    cases he
    generalize stepAt w n = s at *
    obtain ⟨b, t⟩ := s
    have s1 : 1 ≤ b := s1
    have s2 : b ≤ 9 := s2
    have s3 : 0 ≤ t := s3
    have s4 : t ≤ 10 ^ 9 := s4
    have h3 : ¬ w.cap / b - t < 1 := h3
    have d2 : w.cap / b ≤ w.cap := Int.ediv_le_self _ (by omega)
    obtain ⟨m1, m2⟩ := mulB (x := b) (y := t) (X := 9) (Y := 10 ^ 9) (by omega) s2 s3 s4
    have m3 : 0 ≤ b * t := Int.mul_nonneg (by omega) s3
    have m4 : b * (t + 1) = b * t + b := by rw [Int.mul_add, Int.mul_one]
    refine ⟨s1, s2, ?_, ?_, ?_, ?_, ?_, ?_, ?_⟩ <;> simp only [m4] <;> omega
theorem askE_sg {w : Wn} (h : w.Ok) {e : Ef} (he : shiftE w w.lift = some e) : e.Sg := by
  have c1 := h.c1
  have c2 := h.c2
  have l1 := h.l1
  have l2 := h.l2
  have e1 : mn w.cap (w.cap + w.lift) = w.cap := by unfold mn; split <;> omega
  have e2 : mx 1 (1 - w.lift) = 1 := by unfold mx; split <;> omega
  unfold shiftE at he
  rw [e1, e2, if_neg (by omega)] at he
  cases he
  refine ⟨?_, ?_, ?_, ?_, ?_, ?_, ?_, ?_, ?_⟩ <;> (try simp only []) <;> omega
theorem signE_sg {w : Wn} (h : w.Ok) {n : Int} (hn : 0 ≤ n) {c : Nat} {e : Ef} (he : signE w n c = some e) : e.Sg := by
  unfold signE at he
  split at he
  · exact turnE_sg h hn he
  · exact askE_sg h he
theorem noE_at {w : Wn} (h : w.Ok) : (noE w).At 0 := by
  have c1 := h.c1
  have c2 := h.c2
  refine ⟨?_, ?_, ?_, ?_, ?_, ?_, ?_, ?_⟩ <;> simp only [noE] <;> omega
theorem eff_at {w : Wn} (h : w.Ok) : ∀ (cs : List Nat) {o : Option Ef} {n : Int} {m : Nat}, 0 ≤ n → (∀ e, o = some e → e.At m) → ∀ e, (eff w (o, n) cs).1 = some e → e.At (m + cs.length)
  | [], _, _, _, _, h1 => h1
  | c :: cs, o, n, m, hn, h1 => by
    intro e he
    have b1 := stt_ok h [c] (s := (0, n)) ⟨Int.le_refl _, by have := h.c1; show (0 : Int) ≤ w.cap; omega⟩ hn
    have := eff_at h cs (o := chn o (signE w n c)) (n := (stp w (0, n) c).2) (m := m + 1) b1.2.1 (fun e' he' => ?_) e he
    · rw [List.length_cons, show m + (cs.length + 1) = m + 1 + cs.length by omega]
      exact this
    · cases ho : o with
      | none => rw [ho] at he'; cases he'
      | some a =>
        cases hs : signE w n c with
        | none => rw [ho, hs] at he'; cases he'
        | some b =>
          rw [ho, hs] at he'
          exact chn_at (h1 a ho) (signE_sg h hn hs) he'
def rowE (w : Wn) (n : Int) (cs : List Nat) : Option Ef := (eff w (some (noE w), n) cs).1
theorem rowE_at {w : Wn} (h : w.Ok) {n : Int} (hn : 0 ≤ n) (cs : List Nat) : ∀ e, rowE w n cs = some e → e.At cs.length := fun e he => by
  have := eff_at h cs hn (o := some (noE w)) (m := 0) (fun e he => by cases he; exact noE_at h) e he
  rw [Nat.zero_add] at this
  exact this
theorem eE_ok {o : Option Ef} (h : oIn o 1800) : (efD o).Ok := by
  cases o with
  | none => exact ⟨rfl, by simp only [efD, D.wt]; omega, by simp only [efD, D.dep]; omega⟩
  | some e =>
    obtain ⟨l, a, p, y, t⟩ := h e rfl
    have m : 2 ^ 1800 ≤ 2 ^ 1900 := Nat.pow_le_pow_right (by decide) (by decide)
    have o1 := int_okB (Nat.lt_of_lt_of_le l m)
    have o2 := int_okB (Nat.lt_of_lt_of_le a m)
    have o3 := int_okB (Nat.lt_of_lt_of_le y m)
    have o4 := int_okB (Nat.lt_of_lt_of_le t m)
    refine ⟨?_, ?_, ?_⟩
    · simp only [efD, Ef.d, D.fine, D.fines, Bool.and_eq_true]
      exact ⟨o1.fine, o2.fine, o3.fine, o4.fine, trivial⟩
    · simp only [efD, Ef.d, D.wt, D.wts]; omega
    · simp only [efD, Ef.d, D.dep, D.deps]; omega
theorem chn_no {w : Wn} {e : Ef} (h : e.Sg) (hl : 0 ≤ e.least + e.add - e.by_) (hw : e.least ≤ w.cap) (ht : e.top = (w.cap + e.add) / e.by_) : chn (some (noE w)) (some e) = some e := by
  have h1 := h.l1
  show (if w.cap < e.least then none else _) = _
  rw [if_neg (by omega)]
  show some (Ef.mk (mx 1 (e.least * 1 - 0)) (0 + e.add * 1) (1 * e.by_) (mn e.top ((w.cap + e.add) / e.by_))) = some e
  rw [← ht, show mn e.top e.top = e.top by unfold mn; split <;> rfl, show mx 1 (e.least * 1 - 0) = e.least by unfold mx; split <;> omega]
  simp
theorem row0 (w : Wn) (n : Int) : rowE w n [] = some (noE w) := rfl
theorem row_ask {w : Wn} (h : w.Ok) (n : Int) : rowE w n [97] = some ⟨1, w.lift, 1, w.cap⟩ := by
  have c1 := h.c1
  have l1 := h.l1
  have e1 : mn w.cap (w.cap + w.lift) = w.cap := by unfold mn; split <;> omega
  have e2 : mx 1 (1 - w.lift) = 1 := by unfold mx; split <;> omega
  have e : signE w n 97 = some ⟨1, w.lift, 1, w.cap⟩ := by
    show shiftE w w.lift = _
    unfold shiftE
    rw [e1, e2, if_neg (by omega)]
  show chn (some (noE w)) (signE w n 97) = _
  rw [e]
  show (if w.cap < 1 then none else some (Ef.mk (mx 1 (1 * 1 - 0)) (0 + w.lift * 1) (1 * 1) (mn w.cap ((w.cap + w.lift) / 1)))) = _
  rw [if_neg (by omega), Int.ediv_one, e1, show mx 1 (1 * 1 - 0) = 1 by decide]
  simp
theorem row_turn {w : Wn} (h : w.Ok) {n : Int} (hn : 0 ≤ n) : rowE w n [46] = turnE w n := by
  have c1 := h.c1
  obtain ⟨s1, s2, s3, s4⟩ := stepAt_ok h hn
  show chn (some (noE w)) (turnE w n) = _
  unfold turnE
  split
  · rfl
  · rename_i h3
    generalize stepAt w n = s at *
    obtain ⟨b, t⟩ := s
    have s1 : 1 ≤ b := s1
    have s3 : 0 ≤ t := s3
    have h3 : ¬ w.cap / b - t < 1 := h3
    have q : (t + 1) * b ≤ w.cap := by rw [← Int.le_ediv_iff_mul_le (by omega)]; omega
    have q2 : (w.cap + -(b * t)) / b = w.cap / b - t := by
      rw [show w.cap + -(b * t) = w.cap + b * (-t) by rw [Int.mul_neg], Int.add_mul_ediv_left _ _ (by omega)]
      omega
    have q3 : b * (t + 1) = (t + 1) * b := Int.mul_comm _ _
    have q4 : 1 ≤ b * (t + 1) := by
      have := Int.mul_le_mul s1 (show 1 ≤ t + 1 by omega) (by decide) (by omega)
      omega
    show (if w.cap < b * (t + 1) then none else some (Ef.mk (mx 1 (b * (t + 1) * 1 - 0)) (0 + -(b * t) * 1) (1 * b) (mn (w.cap / b - t) ((w.cap + -(b * t)) / b)))) = _
    rw [if_neg (by omega), q2, show mn (w.cap / b - t) (w.cap / b - t) = w.cap / b - t by unfold mn; split <;> rfl, show mx 1 (b * (t + 1) * 1 - 0) = b * (t + 1) by unfold mx; split <;> omega]
    simp
theorem row_in {w : Wn} (h : w.Ok) {n : Int} (hn : 0 ≤ n) {cs : List Nat} (hl : cs.length ≤ 400) : oIn (rowE w n cs) 1800 := fun e he => (rowE_at h hn cs e he).In hl
theorem efD_wt (o : Option Ef) : (efD o).wt ≤ 4 := by
  cases o <;> simp only [efD, Ef.d, D.wt, D.wts] <;> omega
theorem efD_dep (o : Option Ef) : (efD o).dep ≤ 1 := by
  cases o <;> simp only [efD, Ef.d, D.dep, D.deps] <;> omega
end Vf
namespace Vf
open PySem PySem.Spec PyProof.Rows L2 RZ
/-! ## what passes through effects: the arithmetic alone -/
structure Ef.Wf (e : Ef) : Prop where
  l : 1 ≤ e.least
  p : 1 ≤ e.by_
  t : 1 ≤ e.top
  s : e.by_ ≤ e.least + e.add
def oWf (o : Option Ef) : Prop := ∀ e, o = some e → e.Wf
theorem Ef.At.In1 {e : Ef} {m : Nat} (h : e.At m) (hm : m ≤ 300) : e.In 1300 := by
  have h0 := two_pos (4 * m)
  have e1 : (2 : Int) ^ (4 * m + 40) = 2 ^ (4 * m) * 1099511627776 := by rw [Int.pow_add]; rfl
  obtain ⟨p, y, a1, a2, l1, l2, t1, t2⟩ := h
  refine ⟨?_, ?_, p, ?_, ?_⟩
  all_goals
    refine natAbs_two (k := 4 * m + 40) ?_ ?_ (by omega) <;> rw [e1] <;> generalize (2 : Int) ^ (4 * m) = z at * <;> omega
theorem thr_lt {e : Ef} {x : Int} (h : x < e.least) : thr (some e) x = 0 := by
  show (if x < e.least then (0 : Int) else _) = 0
  rw [if_pos h]
theorem thr_ge {e : Ef} {x : Int} (h : ¬ x < e.least) : thr (some e) x = mn e.top ((x + e.add) / e.by_) := by
  show (if x < e.least then (0 : Int) else _) = _
  rw [if_neg h]
theorem thr_zero {o : Option Ef} (h : oWf o) : thr o 0 = 0 := by
  cases o with
  | none => rfl
  | some e =>
    have := (h e rfl).l
    exact thr_lt (by omega)
theorem mn_le_l (i j : Int) : mn i j ≤ i := by unfold mn; split <;> omega
theorem mn_le_r (i j : Int) : mn i j ≤ j := by unfold mn; split <;> omega
theorem mn_ge {i j k : Int} (h1 : k ≤ i) (h2 : k ≤ j) : k ≤ mn i j := by unfold mn; split <;> omega
theorem mn_add_div {i j a b : Int} (hb : 0 < b) : (mn i j + a) / b = mn ((i + a) / b) ((j + a) / b) := by
  unfold mn
  by_cases h : j < i
  · have := Int.ediv_le_ediv hb (by omega : j + a ≤ i + a)
    rw [if_pos h]
    split <;> omega
  · have := Int.ediv_le_ediv hb (by omega : i + a ≤ j + a)
    rw [if_neg h]
    split <;> omega
theorem mn_assoc (i j k : Int) : mn (mn i j) k = mn i (mn j k) := by
  unfold mn
  (repeat split) <;> omega
theorem wf_ge {e : Ef} (h : e.Wf) {x : Int} (hx : e.least ≤ x) : 1 ≤ mn e.top ((x + e.add) / e.by_) := by
  have p := h.p
  have s := h.s
  refine mn_ge h.t ?_
  rw [Int.le_ediv_iff_mul_le (by omega)]
  omega
theorem thr_pos {e : Ef} (h : e.Wf) {x : Int} : 1 ≤ thr (some e) x ↔ e.least ≤ x := by
  constructor
  · intro q
    by_cases z : x < e.least
    · rw [thr_lt z] at q; omega
    · omega
  · intro q
    rw [thr_ge (by omega)]
    exact wf_ge h q
theorem thr_chn1 {a b : Ef} (ha : a.Wf) (hb : b.Wf) {x : Int} (hx : 0 ≤ x) : thr (chn (some a) (some b)) x = thr (some b) (thr (some a) x) := by
  obtain ⟨al, ap, at_, as_⟩ := ha
  obtain ⟨bl, bp, bt, bs⟩ := hb
  by_cases h1 : x < a.least
  · have e1 : thr (some a) x = 0 := thr_lt h1
    rw [e1, thr_zero (fun e h => by cases h; exact ⟨bl, bp, bt, bs⟩)]
    unfold chn
    show thr (if a.top < b.least then none else _) x = 0
    split
    · rfl
    · show (if x < mx a.least _ then 0 else _) = 0
      rw [if_pos (by unfold mx; split <;> omega)]
  · have e1 : thr (some a) x = mn a.top ((x + a.add) / a.by_) := thr_ge h1
    rw [e1]
    unfold chn
    show thr (if a.top < b.least then none else _) x = _
    by_cases h2 : a.top < b.least
    · rw [if_pos h2]
      have := mn_le_l a.top ((x + a.add) / a.by_)
      show 0 = (if mn a.top ((x + a.add) / a.by_) < b.least then 0 else _)
      rw [if_pos (by omega)]
    · rw [if_neg h2]
      have q : b.least ≤ (x + a.add) / a.by_ ↔ b.least * a.by_ ≤ x + a.add := Int.le_ediv_iff_mul_le (by omega)
      by_cases h3 : b.least ≤ (x + a.add) / a.by_
      · have h4 := q.mp h3
        have h5 : ¬ x < mx a.least (b.least * a.by_ - a.add) := by unfold mx; split <;> omega
        have h6 : ¬ mn a.top ((x + a.add) / a.by_) < b.least := by have := mn_ge (k := b.least) (by omega : b.least ≤ a.top) h3; omega
        show (if x < mx a.least (b.least * a.by_ - a.add) then 0 else mn (mn b.top ((a.top + b.add) / b.by_)) ((x + (a.add + b.add * a.by_)) / (a.by_ * b.by_))) = (if mn a.top ((x + a.add) / a.by_) < b.least then 0 else mn b.top ((mn a.top ((x + a.add) / a.by_) + b.add) / b.by_))
        rw [if_neg h5, if_neg h6, mn_add_div (by omega), mn_assoc, show (x + (a.add + b.add * a.by_)) / (a.by_ * b.by_) = ((x + a.add) / a.by_ + b.add) / b.by_ by
          rw [← Int.ediv_ediv_of_nonneg (by omega), ← Int.add_assoc, Int.add_mul_ediv_right _ _ (by omega)]]
      · have h4 : ¬ b.least * a.by_ ≤ x + a.add := fun z => h3 (q.mpr z)
        have h5 : x < mx a.least (b.least * a.by_ - a.add) := by unfold mx; split <;> omega
        have h6 := mn_le_r a.top ((x + a.add) / a.by_)
        show (if x < mx a.least (b.least * a.by_ - a.add) then 0 else _) = (if mn a.top ((x + a.add) / a.by_) < b.least then 0 else _)
        rw [if_pos h5, if_pos (by omega)]
theorem thr_chn {a b : Option Ef} (ha : oWf a) (hb : oWf b) {x : Int} (hx : 0 ≤ x) : thr (chn a b) x = thr b (thr a x) := by
  cases a with
  | none => exact (thr_zero hb).symm
  | some a =>
    cases b with
    | none => rfl
    | some b => exact thr_chn1 (ha a rfl) (hb b rfl) hx
theorem chn_wf {a b : Option Ef} (ha : oWf a) (hb : oWf b) : oWf (chn a b) := by
  intro e h
  cases a with
  | none => cases h
  | some a =>
    cases b with
    | none => cases h
    | some b =>
      obtain ⟨h3, rfl⟩ := chn_some h
      obtain ⟨al, ap, at_, as_⟩ := ha a rfl
      obtain ⟨bl, bp, bt, bs⟩ := hb b rfl
      have r1 : 1 * 1 ≤ a.by_ * b.by_ := Int.mul_le_mul ap bp (by decide) (by omega)
      have d1 : 1 ≤ (a.top + b.add) / b.by_ := by
        rw [Int.le_ediv_iff_mul_le (by omega)]
        omega
      have m1 : b.by_ * a.by_ ≤ (b.least + b.add) * a.by_ := Int.mul_le_mul_of_nonneg_right bs (by omega)
      rw [Int.add_mul] at m1
      have m2 : a.by_ * b.by_ = b.by_ * a.by_ := Int.mul_comm _ _
      refine ⟨?_, r1, mn_ge bt d1, ?_⟩
      · show 1 ≤ mx a.least _
        unfold mx; split <;> omega
      · show a.by_ * b.by_ ≤ mx a.least (b.least * a.by_ - a.add) + (a.add + b.add * a.by_)
        have : b.least * a.by_ - a.add ≤ mx a.least (b.least * a.by_ - a.add) := by unfold mx; split <;> omega
        omega
theorem Ef.Sg.Wf {e : Ef} (h : e.Sg) : e.Wf := ⟨h.l1, h.p, h.t1, h.s⟩
theorem signE_wf {w : Wn} (h : w.Ok) {n : Int} (hn : 0 ≤ n) {c : Nat} : oWf (signE w n c) := fun _ he => (signE_sg h hn he).Wf
theorem thr_sign {w : Wn} (h : w.Ok) {n x : Int} (hn : 0 ≤ n) (h0 : 0 ≤ x) (h1 : x ≤ w.cap) {c : Nat} : thr (signE w n c) x = (stp w (x, n) c).1 := by
  have c1 := h.c1
  have l1 := h.l1
  show _ = (if c = 46 then waned1 w x n else lifted1 w x)
  unfold signE
  split
  · obtain ⟨s1, s2, s3, s4⟩ := stepAt_ok h hn
    unfold turnE waned1
    generalize stepAt w n = s at *
    obtain ⟨b, t⟩ := s
    have s1 : 1 ≤ b := s1
    have s3 : 0 ≤ t := s3
    have d := Int.ediv_le_ediv (by omega : 0 < b) h1
    show thr (if w.cap / b - t < 1 then none else some ⟨b * (t + 1), -(b * t), b, w.cap / b - t⟩) x = if x / b - t > 0 then x / b - t else 0
    have q : t + 1 ≤ x / b ↔ (t + 1) * b ≤ x := Int.le_ediv_iff_mul_le (by omega)
    have q3 : b * (t + 1) = (t + 1) * b := Int.mul_comm _ _
    split
    · rw [if_neg (by omega)]; rfl
    · show (if x < b * (t + 1) then 0 else mn (w.cap / b - t) ((x + -(b * t)) / b)) = _
      have q2 : (x + -(b * t)) / b = x / b - t := by
        rw [show x + -(b * t) = x + b * (-t) by rw [Int.mul_neg], Int.add_mul_ediv_left _ _ (by omega)]
        omega
      by_cases h5 : t + 1 ≤ x / b
      · have := q.mp h5
        rw [if_neg (by omega), if_pos (by omega), q2]
        unfold mn; split <;> omega
      · have : ¬ (t + 1) * b ≤ x := fun z => h5 (q.mpr z)
        rw [if_pos (by omega), if_neg (by omega)]
  · have e1 : mn w.cap (w.cap + w.lift) = w.cap := by unfold mn; split <;> omega
    have e2 : mx 1 (1 - w.lift) = 1 := by unfold mx; split <;> omega
    unfold shiftE lifted1
    rw [e1, e2, if_neg (by omega)]
    show (if x < 1 then 0 else mn w.cap ((x + w.lift) / 1)) = _
    rw [Int.ediv_one]
    unfold mn
    (repeat split) <;> omega
theorem eff_thr {w : Wn} (h : w.Ok) : ∀ (cs : List Nat) {o : Option Ef} {n x : Int}, oWf o → 0 ≤ n → 0 ≤ x → 0 ≤ thr o x → thr o x ≤ w.cap → thr (eff w (o, n) cs).1 x = (stt w (thr o x, n) cs).1
  | [], _, _, _, _, _, _, _, _ => rfl
  | c :: cs, o, n, x, hw, hn, hx, h0, h1 => by
    have b1 := stt_ok h [c] (s := (thr o x, n)) ⟨h0, h1⟩ hn
    have e := thr_chn hw (signE_wf h hn (c := c)) hx
    rw [thr_sign h hn h0 h1] at e
    have s2 : (stp w (0, n) c).2 = (stp w (thr o x, n) c).2 := rfl
    have := eff_thr h cs (o := chn o (signE w n c)) (n := (stp w (0, n) c).2) (x := x) (chn_wf hw (signE_wf h hn)) b1.2.1 hx (by rw [e]; exact b1.1.1) (by rw [e]; exact b1.1.2)
    rw [e, s2] at this
    exact this
theorem noE_wf {w : Wn} (h : w.Ok) : oWf (some (noE w)) := fun e he => by
  cases he
  have c1 := h.c1
  exact ⟨by show (1 : Int) ≤ 1; omega, by show (1 : Int) ≤ 1; omega, c1, by show (1 : Int) ≤ 1 + 0; omega⟩
theorem thr_no {w : Wn} {x : Int} (h0 : 0 ≤ x) (h1 : x ≤ w.cap) : thr (some (noE w)) x = x := by
  show (if x < 1 then 0 else mn w.cap ((x + 0) / 1)) = x
  rw [Int.ediv_one, Int.add_zero]
  unfold mn
  (repeat split) <;> omega
theorem eff_wf {w : Wn} (h : w.Ok) : ∀ (cs : List Nat) {o : Option Ef} {n : Int}, oWf o → 0 ≤ n → oWf (eff w (o, n) cs).1
  | [], _, _, hw, _ => hw
  | c :: cs, o, n, hw, hn => by
    have b1 := stt_ok h [c] (s := (0, n)) ⟨Int.le_refl _, by have := h.c1; show (0 : Int) ≤ w.cap; omega⟩ hn
    exact eff_wf h cs (o := chn o (signE w n c)) (chn_wf hw (signE_wf h hn)) b1.2.1
theorem row_wf {w : Wn} (h : w.Ok) {n : Int} (hn : 0 ≤ n) (cs : List Nat) : oWf (rowE w n cs) := eff_wf h cs (noE_wf h) hn
/-- the effect of a row tells what walking does -/
theorem row_thr {w : Wn} (h : w.Ok) {n x : Int} (hn : 0 ≤ n) (h0 : 0 ≤ x) (h1 : x ≤ w.cap) (cs : List Nat) : thr (rowE w n cs) x = (stt w (x, n) cs).1 := by
  have e := thr_no h0 h1
  have := eff_thr h cs (o := some (noE w)) (n := n) (x := x) (noE_wf h) hn h0 (by rw [e]; exact h0) (by rw [e]; exact h1)
  rw [e] at this
  exact this
theorem thr_top {w : Wn} (h : w.Ok) {a b e : Ef} {n : Int} {c : Nat} (hb : signE w n c = some b) (he : chn (some a) (some b) = some e) : e.top = thr (some b) a.top := by
  obtain ⟨h3, rfl⟩ := chn_some he
  show mn b.top _ = (if a.top < b.least then 0 else _)
  rw [if_neg (by omega)]
theorem eff_top {w : Wn} (h : w.Ok) : ∀ (cs : List Nat) {a e : Ef} {n : Int}, 0 ≤ n → 0 ≤ a.top → a.top ≤ w.cap → (eff w (some a, n) cs).1 = some e → e.top = (stt w (a.top, n) cs).1
  | [], a, e, n, hn, h0, h1, he => by cases he; rfl
  | c :: cs, a, e, n, hn, h0, h1, he => by
    have b1 := stt_ok h [c] (s := (a.top, n)) ⟨h0, h1⟩ hn
    have he : (eff w (chn (some a) (signE w n c), (stp w (0, n) c).2) cs).1 = some e := he
    cases hs : chn (some a) (signE w n c) with
    | none =>
      rw [hs] at he
      have : ∀ (cs : List Nat) (m : Int), (eff w (none, m) cs).1 = none := by
        intro cs
        induction cs with
        | nil => intro m; rfl
        | cons d ds ih => intro m; exact ih _
      rw [this] at he
      cases he
    | some a2 =>
      rw [hs] at he
      cases hb : signE w n c with
      | none => rw [hb] at hs; cases hs
      | some b =>
        rw [hb] at hs
        have e1 := thr_top h hb hs
        rw [← hb, thr_sign h hn h0 h1] at e1
        have := eff_top h cs (a := a2) (n := (stp w (0, n) c).2) b1.2.1 (by rw [e1]; exact b1.1.1) (by rw [e1]; exact b1.1.2) he
        rw [this, e1]
        rfl
theorem row_top {w : Wn} (h : w.Ok) {n : Int} (hn : 0 ≤ n) {cs : List Nat} {e : Ef} (he : rowE w n cs = some e) : e.top = (stt w (w.cap, n) cs).1 :=
  eff_top h cs (a := noE w) hn (by have := h.c1; show 0 ≤ w.cap; omega) (Int.le_refl _) he
theorem row_none {w : Wn} (h : w.Ok) {n : Int} (hn : 0 ≤ n) {cs : List Nat} (he : rowE w n cs = none) : (stt w (w.cap, n) cs).1 = 0 := by
  rw [← row_thr h hn (by have := h.c1; omega) (Int.le_refl _), he]
  rfl
theorem row_least {w : Wn} (h : w.Ok) {n : Int} (hn : 0 ≤ n) {cs : List Nat} {e : Ef} (he : rowE w n cs = some e) : 1 ≤ e.least ∧ e.least ≤ w.cap ∧ 1 ≤ e.top ∧ (stt w (e.least, n) cs).1 ≠ 0 ∧ (stt w (e.least - 1, n) cs).1 = 0 := by
  have c1 := h.c1
  have wf := row_wf h hn cs e he
  have t := row_top h hn he
  have l := wf.l
  have q := row_thr h hn (x := w.cap) (by omega) (Int.le_refl _) cs
  rw [he, ← t] at q
  have g : e.least ≤ w.cap := (thr_pos wf).mp (by rw [q]; exact wf.t)
  have q1 := row_thr h hn (x := e.least) (by omega) g cs
  have q2 := row_thr h hn (x := e.least - 1) (by omega) (by omega) cs
  rw [he] at q1 q2
  have q3 := (thr_pos wf).mpr (Int.le_refl e.least)
  have q4 : ¬ 1 ≤ thr (some e) (e.least - 1) := fun z => by have := (thr_pos wf).mp z; omega
  have q5 := (stt_ok h cs (s := (e.least - 1, n)) ⟨by show 0 ≤ e.least - 1; omega, by show e.least - 1 ≤ w.cap; omega⟩ hn).1.1
  exact ⟨l, g, wf.t, by omega, by omega⟩
section
variable {K : PySem.W.Frag} {S M : AS} {H0 H : Hp} {G : List (V × D)} {L : List (Addr × List D)} {B : List Addr} {Q : VK}
/-- [.. for x in range(lo, hi)] -/
theorem lc_R2 {g : TG} {tt : TT} {te : TE} {ws : List Nat} {σ : L2.St} {lo hi : Int} (hb : -1000000 ≤ lo ∧ lo ≤ 1000000 ∧ -1000000 ≤ hi ∧ hi ≤ 1000000) (st : St K S M H0 H G L B) (P : Nat → List D → Prop) (p0 : P 0 [])
    (hs : ∀ p i x H1 es, ¬ S p → i < (hi - lo).toNat → es.length ≤ i → P i es → St K (fun b => S b ∨ b = p) M H0 H1 G ((p, es) :: L) B → x = .int (lo + (i : Nat)) → g x (wipe σ ws) H1 fun σ2 H3 => wipe σ2 ws = wipe σ ws ∧ tt σ2 H3 fun b H4 =>
      if b = true then te σ2 H4 (LcE K S M H0 G L B p P (i + 1)) else LcP K S M H0 G L B p P (i + 1) H4)
    (hd : ∀ p H' es, P (hi - lo).toNat es → es.length ≤ (hi - lo).toNat → St K S M H0 H' ((.ref p, .lst es) :: G) L B → Q (.ref p) H') : FRng2 (FLc g tt te ws σ Q) [.int lo, .int hi] H := by
  refine ⟨lo, hi, rfl, ⟨by omega, by omega, by omega, by omega⟩, ?_⟩
  refine d_lc (fun p => walk_range) st (fun p es H' s => trivial) P p0 (fun p i x H1 H2 es n hi hl pe s y => ?_) hd
  obtain ⟨e, hx⟩ := y
  subst e
  exact hs p i x _ es n hi hl pe s hx
theorem for_R2 {g : TG} {tb : TS} {E : Ends} {σ : L2.St} {lo hi : Int} (hb : -1000000 ≤ lo ∧ lo ≤ 1000000 ∧ -1000000 ≤ hi ∧ hi ≤ 1000000) (Pv : Nat → L2.St → Hp → Prop) (h0 : Pv 0 σ H)
    (hs : ∀ (i : Nat) σ H, i < (hi - lo).toNat → Pv i σ H → g (.int (lo + (i : Nat))) σ H fun σ2 H2 => tb { E with nx := Pv (i + 1), ct := Pv (i + 1), bk := E.nx } σ2 H2) (hd : ∀ σ H, Pv (hi - lo).toNat σ H → E.nx σ H) : FRng2 (FFor g tb E σ) [.int lo, .int hi] H := by
  refine ⟨lo, hi, rfl, ⟨by omega, by omega, by omega, by omega⟩, for_it walk_range Pv h0 (fun i σ H _ p => trivial) (fun i x σ H H' hi p y => ?_) hd⟩
  obtain ⟨e, q⟩ := y
  subst e
  subst q
  exact hs i σ _ hi p
end
section
variable {K : PySem.W.Frag} {S M : AS} {H0 H H' : Hp} {G G' : List (V × D)} {L L' : List (Addr × List D)} {b : Addr} {B : List Addr}
/-- a call that draws from the bag, by a promise of its own -/
theorem St.at (st : Vf.St K S M H0 H G L B) (hb : b ∈ B) (hg : ∀ p ∈ G', p ∈ G) : Vf.St K S (fun c => c = b) H H G' [] [b] := by
  refine ⟨st.ok, fun _ _ _ h => h, fun _ h => h, fun p hp => st.ga p (hg p hp), fun p hp => by simp at hp, fun a ha => ?_, by simp⟩
  obtain ⟨h1, _, h3⟩ := st.ba b hb
  rw [List.mem_singleton.mp ha]
  exact ⟨h1, .inr rfl, h3⟩
theorem St.back (st : Vf.St K S M H0 H G L [b]) (s2 : Vf.St K S (fun c => c = b) H H' G' L' [b]) : Vf.St K S M H0 H' G L [b] :=
  st.bag (List.mem_singleton.mpr rfl) s2.kp (s2.ba b (List.mem_singleton.mpr rfl)).2.2 rfl
end
end Vf
namespace Vf
open PySem PySem.Spec PyProof.Rows L2
/-! ## chains of four, as a test -/
section
variable {X : Cx} {a b c d e : Expr} {ta tb tc td te : TE} {pos : Pos}
def tChain4 (r1 r2 r3 r4 : R2) (ta tb tc td te : TE) : TT := fun σ H QB => ta σ H fun x H1 => tb σ H1 fun y H2 => r1 x y H2 (FCh QB fun H3 => tc σ H3 fun w H4 => r2 y w H4 (FCh QB fun H5 => td σ H5 fun u H6 => r3 w u H6 (FCh QB fun H7 => te σ H7 fun v H8 => r4 u v H8 (FB QB))))
theorem pt_chain4 {op1 op2 op3 op4 : CmpOp} {r1 r2 r3 r4 : R2} (h1 : OpR X (compareOp op1) r1) (h2 : OpR X (compareOp op2) r2) (h3 : OpR X (compareOp op3) r3) (h4 : OpR X (compareOp op4) r4) (ha : PE X a ta) (hb : PE X b tb) (hc : PE X c tc) (hd : PE X d td) (he : PE X e te)
    (hm : lastMarks [op1, op2, op3, op4] [b, c, d, e] = false := by with_unfolding_all rfl) : PT X (.Compare a [op1, op2, op3, op4] [b, c, d, e] pos) (tChain4 r1 r2 r3 r4 ta tb tc td te) := by
  refine ⟨fun pins s σ H Q I h => ?_⟩
  refine isTrue_chain (thn (ha.run pins s σ H _ I h) fun v1 s1 ⟨x, H1, I1, e1, q1⟩ => test_link (thn (hb.run pins s1 σ H1 _ I1 q1) fun v2 s2 ⟨y, H2, I2, e2, q2⟩ =>
    thn (h1 pins s2 σ H2 x y v1 v2 _ I2 e1 e2 q2) fun d3 s3 ⟨z, H3, I3, e3, k, ez, q3⟩ => ?_)) hm
  subst ez
  cases e3
  refine wpAny_truthy_bool ?_
  cases k with
  | false => exact ite_ff ⟨H3, I3, q3⟩
  | true =>
    refine ite_tt (test_link (thn (hc.run pins s3 σ H3 _ I3 q3) fun v4 s4 ⟨w', H4, I4, e4, q4⟩ =>
      thn (h2 pins s4 σ H4 y w' v2 v4 _ I4 e2 e4 q4) fun d5 s5 ⟨z5, H5, I5, e5, k5, ez5, q5⟩ => ?_))
    subst ez5
    cases e5
    refine wpAny_truthy_bool ?_
    cases k5 with
    | false => exact ite_ff ⟨H5, I5, q5⟩
    | true =>
      refine ite_tt (test_link (thn (hd.run pins s5 σ H5 _ I5 q5) fun v6 s6 ⟨u, H6, I6, e6, q6⟩ =>
        thn (h3 pins s6 σ H6 w' u v4 v6 _ I6 e4 e6 q6) fun d7 s7 ⟨z7, H7, I7, e7, k7, ez7, q7⟩ => ?_))
      subst ez7
      cases e7
      refine wpAny_truthy_bool ?_
      cases k7 with
      | false => exact ite_ff ⟨H7, I7, q7⟩
      | true =>
        refine ite_tt (test_last (thn (he.run pins s7 σ H7 _ I7 q7) fun v8 s8 ⟨t, H8, I8, e8, q8⟩ => thn (h4 pins s8 σ H8 u t v6 v8 _ I8 e6 e8 q8) fun d9 s9 ⟨z9, H9, I9, e9, k9, ez9, q9⟩ => ?_))
        subst ez9
        cases e9
        exact wpAny_truthy_bool ⟨H9, I9, q9⟩
variable {QB : Bool → Hp → Prop} {P : Hp → Prop} {H : Hp} {σ : L2.St}
theorem g_ch4 {r1 r2 r3 r4 : R2} (h : ta σ H fun x H1 => tb σ H1 fun y H2 => r1 x y H2 (FCh QB fun H3 => tc σ H3 fun w H4 => r2 y w H4 (FCh QB fun H5 => td σ H5 fun u H6 => r3 w u H6 (FCh QB fun H7 => te σ H7 fun v H8 => r4 u v H8 (FB QB))))) : tChain4 r1 r2 r3 r4 ta tb tc td te σ H QB := h
end
end Vf
namespace Vf
open PySem PySem.Spec PyProof.Rows L2 RZ
/-! ## joining is associative; rows in parts -/
theorem mx_assoc (i j k : Int) : mx (mx i j) k = mx i (mx j k) := by
  unfold mx
  (repeat split) <;> omega
theorem mx_sub (i j a : Int) : mx i j - a = mx (i - a) (j - a) := by
  unfold mx
  (repeat split) <;> omega
theorem mx_mul {i j y : Int} (h : 0 < y) : mx i j * y = mx (i * y) (j * y) := by
  unfold mx
  by_cases q : j > i
  · have := Int.mul_lt_mul_of_pos_right q h
    rw [if_pos q, if_pos this]
  · have := Int.mul_le_mul_of_nonneg_right (by omega : j ≤ i) (by omega : 0 ≤ y)
    rw [if_neg q, if_neg (by omega)]
theorem mx_le {i j k : Int} : mx i j ≤ k ↔ i ≤ k ∧ j ≤ k := by
  unfold mx
  split <;> omega
theorem le_mn {i j k : Int} : k ≤ mn i j ↔ k ≤ i ∧ k ≤ j := by
  unfold mn
  split <;> omega
def jn (a b : Ef) : Ef := ⟨mx a.least (b.least * a.by_ - a.add), a.add + b.add * a.by_, a.by_ * b.by_, mn b.top ((a.top + b.add) / b.by_)⟩
theorem chn_def (a b : Ef) : chn (some a) (some b) = if a.top < b.least then none else some (jn a b) := rfl
theorem jn_assoc {a b c : Ef} (ha : 0 < a.by_) (hb : 0 < b.by_) (hc : 0 < c.by_) : jn (jn a b) c = jn a (jn b c) := by
  obtain ⟨al, aa, ay, at_⟩ := a
  obtain ⟨bl, ba, by_, bt⟩ := b
  obtain ⟨cl, ca, cy, ct⟩ := c
  have ha : 0 < ay := ha
  have hb : 0 < by_ := hb
  have hc : 0 < cy := hc
  simp only [jn, Ef.mk.injEq]
  refine ⟨?_, ?_, ?_, ?_⟩
  · rw [mx_mul ha, mx_sub, mx_assoc, Int.sub_mul]
    congr 2
    rw [show cl * (ay * by_) = cl * by_ * ay by rw [Int.mul_comm ay, Int.mul_assoc]]
    omega
  · rw [Int.add_mul, show ca * (ay * by_) = ca * by_ * ay by rw [Int.mul_comm ay, Int.mul_assoc]]
    omega
  · exact Int.mul_assoc _ _ _
  · rw [mn_add_div hc, mn_assoc]
    congr 1
    rw [← Int.ediv_ediv_of_nonneg (by omega), ← Int.add_assoc, Int.add_mul_ediv_right _ _ (by omega)]
theorem chn_assoc {a b c : Option Ef} (ha : ∀ e, a = some e → 0 < e.by_) (hb : ∀ e, b = some e → 0 < e.by_) (hc : ∀ e, c = some e → 0 < e.by_) : chn (chn a b) c = chn a (chn b c) := by
  cases a with
  | none => rfl
  | some a =>
    cases b with
    | none => rfl
    | some b =>
      cases c with
      | none =>
        rw [chn_def]
        split <;> rfl
      | some c =>
        have ha := ha a rfl
        have hb := hb b rfl
        have hc := hc c rfl
        have q : c.least ≤ (a.top + b.add) / b.by_ ↔ c.least * b.by_ ≤ a.top + b.add := Int.le_ediv_iff_mul_le hb
        have l : c.least ≤ (jn a b).top ↔ c.least ≤ b.top ∧ c.least ≤ (a.top + b.add) / b.by_ := le_mn
        have r : (jn b c).least ≤ a.top ↔ b.least ≤ a.top ∧ c.least * b.by_ - b.add ≤ a.top := mx_le
        rw [chn_def, chn_def]
        by_cases h1 : a.top < b.least
        · rw [if_pos h1]
          show none = _
          by_cases h2 : b.top < c.least
          · rw [if_pos h2]; rfl
          · rw [if_neg h2, chn_def, if_pos (by omega)]
        · rw [if_neg h1, chn_def]
          by_cases h2 : b.top < c.least
          · rw [if_pos h2, if_pos (by omega)]; rfl
          · rw [if_neg h2, chn_def]
            by_cases h3 : c.least ≤ (jn a b).top
            · rw [if_neg (by omega), if_neg (by omega), jn_assoc ha hb hc]
            · rw [if_pos (by omega), if_pos (by omega)]
theorem oWf.y {o : Option Ef} (h : oWf o) : ∀ e, o = some e → 0 < e.by_ := fun e he => by have := (h e he).p; omega
/-- nothing behind -/
def oTop (w : Wn) (o : Option Ef) : Prop := ∀ e, o = some e → e.top ≤ w.cap
theorem chn_noR {w : Wn} {o : Option Ef} (h : oWf o) (ht : oTop w o) : chn o (some (noE w)) = o := by
  cases o with
  | none => rfl
  | some e =>
    obtain ⟨l, p, t, s⟩ := h e rfl
    have ht := ht e rfl
    rw [chn_def, if_neg (by show ¬ e.top < 1; omega)]
    obtain ⟨el, ea, ey, et⟩ := e
    simp only [jn, noE, Int.ediv_one, Int.add_zero, Int.zero_mul, Int.one_mul, Int.mul_one, Option.some.injEq, Ef.mk.injEq, true_and]
    have l : 1 ≤ el := l
    have s : ey ≤ el + ea := s
    have ht : et ≤ w.cap := ht
    constructor
    · unfold mx; split <;> omega
    · unfold mn; split <;> omega
theorem chn_top {w : Wn} {a b : Option Ef} (hb : oTop w b) : oTop w (chn a b) := by
  intro e he
  cases a with
  | none => cases he
  | some a =>
    cases b with
    | none => cases he
    | some b =>
      obtain ⟨_, rfl⟩ := chn_some he
      have := hb b rfl
      have := mn_le_l b.top ((a.top + b.add) / b.by_)
      show mn b.top _ ≤ w.cap
      omega
theorem signE_top {w : Wn} (h : w.Ok) {n : Int} (hn : 0 ≤ n) {c : Nat} : oTop w (signE w n c) := by
  intro e he
  have c1 := h.c1
  unfold signE at he
  split at he
  · obtain ⟨s1, s2, s3, s4⟩ := stepAt_ok h hn
    unfold turnE at he
    split at he
    · cases he
    · cases he
      have d2 : w.cap / (stepAt w n).1 ≤ w.cap := Int.ediv_le_self _ (by omega)
      show w.cap / (stepAt w n).1 - (stepAt w n).2 ≤ w.cap
      omega
  · unfold shiftE at he
    split at he
    · cases he
    · cases he
      exact mn_le_l _ _
theorem noE_top (w : Wn) : oTop w (some (noE w)) := fun e he => by cases he; exact Int.le_refl _
theorem eff_chn {w : Wn} (h : w.Ok) : ∀ (cs : List Nat) {o : Option Ef} {n : Int}, oWf o → oTop w o → 0 ≤ n → (eff w (o, n) cs).1 = chn o (rowE w n cs)
  | [], o, n, hw, ht, _ => (chn_noR hw ht).symm
  | c :: cs, o, n, hw, ht, hn => by
    have b1 := (stt_ok h [c] (s := (0, n)) ⟨Int.le_refl _, by have := h.c1; show (0 : Int) ≤ w.cap; omega⟩ hn).2.1
    have b1 : 0 ≤ (stp w (0, n) c).2 := b1
    have sw := signE_wf h hn (c := c)
    have st := signE_top h hn (c := c)
    have rw_ := row_wf h b1 cs
    have e1 := eff_chn h cs (o := chn o (signE w n c)) (n := (stp w (0, n) c).2) (chn_wf hw sw) (chn_top st) b1
    have e2 := eff_chn h cs (o := chn (some (noE w)) (signE w n c)) (n := (stp w (0, n) c).2) (chn_wf (noE_wf h) sw) (chn_top st) b1
    show (eff w (chn o (signE w n c), (stp w (0, n) c).2) cs).1 = chn o (eff w (chn (some (noE w)) (signE w n c), (stp w (0, n) c).2) cs).1
    rw [e1, e2, chn_assoc hw.y sw.y rw_.y, chn_assoc (noE_wf h).y sw.y rw_.y, ← chn_assoc hw.y (noE_wf h).y (chn_wf sw rw_).y, chn_noR hw ht]
theorem eff_top2 {w : Wn} (h : w.Ok) : ∀ (cs : List Nat) {o : Option Ef} {n : Int}, oTop w o → 0 ≤ n → oTop w (eff w (o, n) cs).1
  | [], _, _, ht, _ => ht
  | c :: cs, o, n, ht, hn => by
    have b1 := (stt_ok h [c] (s := (0, n)) ⟨Int.le_refl _, by have := h.c1; show (0 : Int) ≤ w.cap; omega⟩ hn).2.1
    exact eff_top2 h cs (chn_top (signE_top h hn)) b1
theorem row_oTop {w : Wn} (h : w.Ok) {n : Int} (hn : 0 ≤ n) (cs : List Nat) : oTop w (rowE w n cs) := eff_top2 h cs (noE_top w) hn
/-- parts joined -/
theorem row_app {w : Wn} (h : w.Ok) {n : Int} (hn : 0 ≤ n) (cs ds : List Nat) : rowE w n (cs ++ ds) = chn (rowE w n cs) (rowE w (stt w (0, n) cs).2 ds) := by
  have b1 := (stt_ok h cs (s := (0, n)) ⟨Int.le_refl _, by have := h.c1; show (0 : Int) ≤ w.cap; omega⟩ hn).2.1
  rw [← eff_chn h ds (row_wf h hn cs) (row_oTop h hn cs) b1]
  have e := eff_snd (w := w) cs (o := some (noE w)) (n := n)
  unfold rowE eff
  rw [List.foldl_append]
  rw [← e]
  rfl
theorem stt_app {w : Wn} {s : Int × Int} {cs ds : List Nat} : stt w s (cs ++ ds) = stt w (stt w s cs) ds := by
  unfold stt
  rw [List.foldl_append]
section
variable {K : PySem.W.Frag} {S M : AS} {H0 H : Hp} {G : List (V × D)} {L : List (Addr × List D)} {B : List Addr} {Q : VK} {a : Addr}
/-- sorted of whole numbers -/
theorem d_sortI {ns : List Int} (st : Vf.St K S M H0 H G L B) (h : Dz K S H (.lst (ns.map D.int)) (.ref a)) (q : ∀ p H' (ns' : List Int), ns'.Perm ns → ns'.Pairwise (fun i j => i ≤ j) → Vf.St K S M H0 H' ((.ref p, .lst (ns'.map D.int)) :: G) L B → Q (.ref p) H') : rSortedI K [.ref a] H Q := by
  obtain ⟨xs, h1, h2⟩ := z_lst h
  have e := DzL.ints ns h2
  subst e
  exact ⟨a, ns, rfl, h1.sq, fun ns' p pm pw np => q p _ ns' pm pw (st.lst np (DzL.of_ints _))⟩
end
theorem sub_nil {α : Type} {G : List α} : ∀ p ∈ ([] : List α), p ∈ G := fun p h => by simp at h
theorem sub_cons {α : Type} {G l : List α} {p : α} (h : p ∈ G) (r : ∀ q ∈ l, q ∈ G) : ∀ q ∈ p :: l, q ∈ G := fun q hq => by
  rcases List.mem_cons.mp hq with e | e
  · rw [e]; exact h
  · exact r q e
end Vf
namespace Vf
open PySem PySem.Spec PyProof.Rows L2 RZ
/-! ## what a row makes hangs on the phase alone; rows cut -/
theorem ph_suc {w : Wn} (h : w.Ok) {n m : Int} (hn : 0 ≤ n) (hm : 0 ≤ m) (e : phase w n = phase w m) : phase w (n + 1) = phase w (m + 1) := by
  rw [← ph_add h hn (by decide : (0 : Int) ≤ 1), ← ph_add h hm (by decide : (0 : Int) ≤ 1), e]
theorem stepAt_ph {w : Wn} {n m : Int} (e : phase w n = phase w m) : stepAt w n = stepAt w m := by
  unfold stepAt
  rw [e]
theorem waned1_ph {w : Wn} {x n m : Int} (e : phase w n = phase w m) : waned1 w x n = waned1 w x m := by
  unfold waned1
  rw [stepAt_ph e]
theorem stt_ph {w : Wn} (h : w.Ok) : ∀ (cs : List Nat) {x n m : Int}, 0 ≤ n → 0 ≤ m → phase w n = phase w m → (stt w (x, n) cs).1 = (stt w (x, m) cs).1 ∧ phase w (stt w (x, n) cs).2 = phase w (stt w (x, m) cs).2
  | [], _, _, _, _, _, e => ⟨rfl, e⟩
  | c :: cs, x, n, m, hn, hm, e => by
    show (stt w (stp w (x, n) c) cs).1 = (stt w (stp w (x, m) c) cs).1 ∧ phase w (stt w (stp w (x, n) c) cs).2 = phase w (stt w (stp w (x, m) c) cs).2
    by_cases h1 : c = 46
    · have e1 : stp w (x, n) c = (waned1 w x n, n + 1) := by unfold stp; rw [if_pos h1, if_pos h1]
      have e2 : stp w (x, m) c = (waned1 w x m, m + 1) := by unfold stp; rw [if_pos h1, if_pos h1]
      rw [e1, e2, waned1_ph e]
      exact stt_ph h cs (by omega) (by omega) (ph_suc h hn hm e)
    · have e1 : stp w (x, n) c = (lifted1 w x, if w.anew = true then 0 else n) := by unfold stp; rw [if_neg h1, if_neg h1]
      have e2 : stp w (x, m) c = (lifted1 w x, if w.anew = true then 0 else m) := by unfold stp; rw [if_neg h1, if_neg h1]
      rw [e1, e2]
      by_cases h2 : w.anew = true
      · rw [if_pos h2, if_pos h2]
        exact ⟨rfl, rfl⟩
      · rw [if_neg h2, if_neg h2]
        exact stt_ph h cs hn hm e
theorem cut_take {l : List Nat} {i j k : Nat} (h : i ≤ j) (hk : k ≤ j - i) : l.take i ++ ((l.drop i).take (j - i)).take k = l.take (i + k) := by
  rw [List.take_take, Nat.min_eq_left hk, ← List.take_add]
/-- the walk along a part is the part of the walk -/
theorem walkL_cut {w : Wn} {s : Int × Int} {cs : List Nat} {i j : Nat} (h : i ≤ j) (hj : j ≤ cs.length) : walkL w (stt w s (cs.take i)) (j - i + 1) ((cs.drop i).take (j - i)) = ((walkL w s (cs.length + 1) cs).drop i).take (j + 1 - i) := by
  refine List.ext_getElem? fun k => ?_
  by_cases hk : k < j - i + 1
  · rw [walkL_get hk, List.getElem?_take_of_lt (by omega), List.getElem?_drop, walkL_get (by omega)]
    have e : stt w (stt w s (cs.take i)) (((cs.drop i).take (j - i)).take k) = stt w s (cs.take (i + k)) := by
      unfold stt
      rw [← List.foldl_append, cut_take h (by omega)]
    rw [e]
  · have l1 : (walkL w (stt w s (cs.take i)) (j - i + 1) ((cs.drop i).take (j - i))).length = j - i + 1 := by unfold walkL; rw [List.length_map, List.length_range]
    have l2 : (((walkL w s (cs.length + 1) cs).drop i).take (j + 1 - i)).length ≤ j + 1 - i := by rw [List.length_take]; omega
    rw [List.getElem?_eq_none (by omega), List.getElem?_eq_none (by omega)]
theorem isRow_cut {z : Str} (h : isRow (.str z) = true) {cs : List Nat} (hs : ∀ c ∈ cs, c ∈ z.cps.toList) (hl : cs.length ≤ z.cps.size) {y : Str} (hy : y.cps.toList = cs) : isRow (.str y) = true := by
  have h : (decide (z.cps.size ≤ 200) && z.cps.toList.all signOk) = true := h
  rw [Bool.and_eq_true] at h
  have h1 := of_decide_eq_true h.1
  have h2 := List.all_eq_true.mp h.2
  show (decide (y.cps.size ≤ 200) && y.cps.toList.all signOk) = true
  rw [Bool.and_eq_true]
  rw [← hy, Array.length_toList] at hl
  refine ⟨decide_eq_true (by omega), List.all_eq_true.mpr fun c hc => h2 c (hs c ?_)⟩
  rw [← hy]
  exact hc
theorem cutS_eq {z : Str} {i j : Int} (h0 : 0 ≤ i) (h1 : i ≤ j) (h2 : j ≤ z.cps.size) : (cutS z (some i) (some j)).cps.toList = (z.cps.toList.drop i.toNat).take (j.toNat - i.toNat) := by
  have e : z.length = z.cps.size := rfl
  have a1 : HT.sIx z.length 0 (some i) = i.toNat := by
    show (if i < 0 then _ else min i.toNat z.length) = _
    rw [if_neg (by omega)]; omega
  have a2 : HT.sIx z.length z.length (some j) = j.toNat := by
    show (if j < 0 then _ else min j.toNat z.length) = _
    rw [if_neg (by omega)]; omega
  unfold cutS
  rw [a1, a2]
theorem cutD_eq {ds : List D} {i j : Int} (h0 : 0 ≤ i) (h1 : i ≤ j) (h2 : j ≤ ds.length) : cutD ds (some i) (some j) = (ds.drop i.toNat).take (j.toNat - i.toNat) := by
  have a1 : HT.sIx ds.length 0 (some i) = i.toNat := by
    show (if i < 0 then _ else min i.toNat ds.length) = _
    rw [if_neg (by omega)]; omega
  have a2 : HT.sIx ds.length ds.length (some j) = j.toNat := by
    show (if j < 0 then _ else min j.toNat ds.length) = _
    rw [if_neg (by omega)]; omega
  unfold cutD
  rw [a1, a2]
theorem cut_step {l : List Nat} {i j : Nat} (h : i ≤ j) : l.take i ++ (l.drop i).take (j - i) = l.take j := by
  rw [← List.take_add, show i + (j - i) = j by omega]
end Vf
namespace Vf
open PySem PySem.Spec PyProof.Rows L2 RZ
/-! ## rounds: the arithmetic alone -/
theorem signE_ph {w : Wn} {n m : Int} (e : phase w n = phase w m) (c : Nat) : signE w n c = signE w m c := by
  unfold signE turnE
  rw [stepAt_ph e]
theorem eff_ph {w : Wn} (h : w.Ok) : ∀ (cs : List Nat) {o : Option Ef} {n m : Int}, 0 ≤ n → 0 ≤ m → phase w n = phase w m → (eff w (o, n) cs).1 = (eff w (o, m) cs).1
  | [], _, _, _, _, _, _ => rfl
  | c :: cs, o, n, m, hn, hm, e => by
    show (eff w (chn o (signE w n c), (stp w (0, n) c).2) cs).1 = (eff w (chn o (signE w m c), (stp w (0, m) c).2) cs).1
    rw [signE_ph e c]
    have p := (stt_ph h [c] (x := 0) hn hm e).2
    have b1 := (stt_ok h [c] (s := (0, n)) ⟨Int.le_refl _, by have := h.c1; show (0 : Int) ≤ w.cap; omega⟩ hn).2.1
    have b2 := (stt_ok h [c] (s := (0, m)) ⟨Int.le_refl _, by have := h.c1; show (0 : Int) ≤ w.cap; omega⟩ hm).2.1
    exact eff_ph h cs b1 b2 p
theorem row_ph {w : Wn} (h : w.Ok) {cs : List Nat} {n m : Int} (hn : 0 ≤ n) (hm : 0 ≤ m) (e : phase w n = phase w m) : rowE w n cs = rowE w m cs := eff_ph h cs hn hm e
/-- the since behind a round; behind so many -/
def nx (w : Wn) (cs : List Nat) (n : Int) : Int := (stt w (0, n) cs).2
def nxs (w : Wn) (cs : List Nat) (n : Int) : Nat → Int
  | 0 => n
  | k + 1 => nx w cs (nxs w cs n k)
/-- walking so many rounds -/
def stR (w : Wn) (cs : List Nat) (s : Int × Int) : Nat → Int × Int
  | 0 => s
  | k + 1 => stt w (stR w cs s k) cs
theorem nx_ok {w : Wn} (h : w.Ok) {cs : List Nat} {n : Int} (hn : 0 ≤ n) : 0 ≤ nx w cs n ∧ nx w cs n ≤ n + cs.length :=
  (stt_ok h cs (s := (0, n)) ⟨Int.le_refl _, by have := h.c1; show (0 : Int) ≤ w.cap; omega⟩ hn).2
theorem nxs_ok {w : Wn} (h : w.Ok) {cs : List Nat} {n : Int} (hn : 0 ≤ n) : ∀ k, 0 ≤ nxs w cs n k
  | 0 => hn
  | k + 1 => (nx_ok h (nxs_ok h hn k)).1
theorem nx_ph {w : Wn} (h : w.Ok) {cs : List Nat} {n m : Int} (hn : 0 ≤ n) (hm : 0 ≤ m) (e : phase w n = phase w m) : phase w (nx w cs n) = phase w (nx w cs m) := (stt_ph h cs (x := 0) hn hm e).2
theorem nxs_add {w : Wn} {cs : List Nat} {n : Int} : ∀ j k, nxs w cs n (j + k) = nxs w cs (nxs w cs n j) k
  | _, 0 => rfl
  | j, k + 1 => congrArg (nx w cs) (nxs_add j k)
theorem nxs_ph {w : Wn} (h : w.Ok) {cs : List Nat} {n m : Int} (hn : 0 ≤ n) (hm : 0 ≤ m) (e : phase w n = phase w m) : ∀ k, phase w (nxs w cs n k) = phase w (nxs w cs m k)
  | 0 => e
  | k + 1 => nx_ph h (nxs_ok h hn k) (nxs_ok h hm k) (nxs_ph h hn hm e k)
/-- from the lead on the phases come again -/
theorem nxs_mod {w : Wn} (h : w.Ok) {cs : List Nat} {n : Int} (hn : 0 ≤ n) {lead K : Nat} (hl : lead < K) (e : phase w (nxs w cs n K) = phase w (nxs w cs n lead)) (k : Nat) : phase w (nxs w cs n (lead + k)) = phase w (nxs w cs n (lead + k % (K - lead))) := by
  induction k using Nat.strongRecOn with
  | ind k ih =>
    by_cases q : k < K - lead
    · rw [Nat.mod_eq_of_lt q]
    · have e1 := ih (k - (K - lead)) (by omega)
      have e2 : k % (K - lead) = (k - (K - lead)) % (K - lead) := by
        conv => lhs; rw [show k = (k - (K - lead)) + (K - lead) by omega, Nat.add_mod_right]
      rw [e2, ← e1, show lead + k = K + (k - (K - lead)) by omega, nxs_add, nxs_add]
      exact nxs_ph h (nxs_ok h hn K) (nxs_ok h hn lead) e _
theorem stR_snd {w : Wn} {cs : List Nat} {x n : Int} : ∀ k, (stR w cs (x, n) k).2 = nxs w cs n k
  | 0 => rfl
  | k + 1 => by
    show (stt w (stR w cs (x, n) k) cs).2 = nx w cs (nxs w cs n k)
    rw [← stR_snd k]
    exact stt_snd cs
theorem stR_ok {w : Wn} (h : w.Ok) {cs : List Nat} {x n : Int} (hx : 0 ≤ x ∧ x ≤ w.cap) (hn : 0 ≤ n) : ∀ k, (0 ≤ (stR w cs (x, n) k).1 ∧ (stR w cs (x, n) k).1 ≤ w.cap) ∧ 0 ≤ (stR w cs (x, n) k).2
  | 0 => ⟨hx, hn⟩
  | k + 1 => by
    obtain ⟨h1, h2⟩ := stR_ok h hx hn k
    have := stt_ok h cs h1 h2
    exact ⟨this.1, this.2.1⟩
/-- the effect of the round number k -/
def rdE (w : Wn) (cs : List Nat) (n : Int) (k : Nat) : Option Ef := rowE w (nxs w cs n k) cs
theorem stR_thr {w : Wn} (h : w.Ok) {cs : List Nat} {x n : Int} (hx : 0 ≤ x ∧ x ≤ w.cap) (hn : 0 ≤ n) (k : Nat) : (stR w cs (x, n) (k + 1)).1 = thr (rdE w cs n k) (stR w cs (x, n) k).1 := by
  obtain ⟨h1, h2⟩ := stR_ok h (cs := cs) hx hn k
  have e := row_thr h h2 h1.1 h1.2 cs
  rw [stR_snd] at e
  rw [rdE, e, ← stR_snd (x := x)]
  rfl
/-- through effects, one behind another -/
def thrL (es : List (Option Ef)) (x : Int) : Int := es.foldl (fun x e => thr e x) x
theorem thrL_stR {w : Wn} (h : w.Ok) {cs : List Nat} {x n : Int} (hx : 0 ≤ x ∧ x ≤ w.cap) (hn : 0 ≤ n) : ∀ (l j : Nat), thrL ((List.range' j l).map (rdE w cs n)) (stR w cs (x, n) j).1 = (stR w cs (x, n) (j + l)).1
  | 0, _ => rfl
  | l + 1, j => by
    rw [List.range'_succ, List.map_cons]
    show thrL ((List.range' (j + 1) l).map (rdE w cs n)) (thr (rdE w cs n j) (stR w cs (x, n) j).1) = _
    rw [← stR_thr h hx hn, thrL_stR h hx hn l (j + 1), show j + 1 + l = j + (l + 1) by omega]
def iter (f : Int → Int) : Nat → Int → Int
  | 0, x => x
  | k + 1, x => f (iter f k x)
theorem iter_add (f : Int → Int) (j k : Nat) (x : Int) : iter f (j + k) x = iter f k (iter f j x) := by
  induction k with
  | zero => rfl
  | succ k ih => exact congrArg f ih
theorem iter_fix {f : Int → Int} {x : Int} (h : f x = x) : ∀ k, iter f k x = x
  | 0 => rfl
  | k + 1 => by show f (iter f k x) = x; rw [iter_fix h k]; exact h
/-- the cycle again and again -/
theorem cyc_eff {w : Wn} (h : w.Ok) {cs : List Nat} {n : Int} (hn : 0 ≤ n) {lead K : Nat} (hl : lead < K) (e : phase w (nxs w cs n K) = phase w (nxs w cs n lead)) (c : Nat) : (List.range' (lead + c * (K - lead)) (K - lead)).map (rdE w cs n) = (List.range' lead (K - lead)).map (rdE w cs n) := by
  refine List.ext_getElem? fun i => ?_
  rw [List.getElem?_map, List.getElem?_map]
  by_cases q : i < K - lead
  · rw [List.getElem?_range' q, List.getElem?_range' q]
    show some (rdE w cs n _) = some (rdE w cs n _)
    have e1 := nxs_mod h hn hl e (c * (K - lead) + i)
    rw [Nat.mul_comm c, Nat.mul_add_mod, Nat.mod_eq_of_lt q] at e1
    have e2 : rdE w cs n (lead + ((K - lead) * c + i)) = rdE w cs n (lead + i) := row_ph h (nxs_ok h hn _) (nxs_ok h hn _) e1
    rw [show lead + c * (K - lead) + 1 * i = lead + ((K - lead) * c + i) by rw [Nat.mul_comm c]; omega, Nat.one_mul, e2]
  · rw [List.getElem?_eq_none (by rw [List.length_range']; omega), List.getElem?_eq_none (by rw [List.length_range']; omega)]
theorem cyc_iter {w : Wn} (h : w.Ok) {cs : List Nat} {x n : Int} (hx : 0 ≤ x ∧ x ≤ w.cap) (hn : 0 ≤ n) {lead K : Nat} (hl : lead < K) (e : phase w (nxs w cs n K) = phase w (nxs w cs n lead)) : ∀ c, iter (thrL ((List.range' lead (K - lead)).map (rdE w cs n))) c (stR w cs (x, n) lead).1 = (stR w cs (x, n) (lead + c * (K - lead))).1
  | 0 => by rw [Nat.zero_mul]; rfl
  | c + 1 => by
    show thrL _ (iter _ c _) = _
    rw [cyc_iter h hx hn hl e c, ← cyc_eff h hn hl e c, thrL_stR h hx hn, Nat.succ_mul]
    congr 2
    omega
theorem take_rng {s n r : Nat} (h : r ≤ n) : (List.range' s n).take r = List.range' s r := by
  refine List.ext_getElem? fun i => ?_
  by_cases q : i < r
  · rw [List.getElem?_take_of_lt q, List.getElem?_range' (by omega), List.getElem?_range' q]
  · rw [List.getElem?_eq_none (by rw [List.length_take]; omega), List.getElem?_eq_none (by rw [List.length_range']; omega)]
/-- what _strength_behind tells -/
theorem behind_eq {w : Wn} (h : w.Ok) {cs : List Nat} {x n : Int} (hx : 0 ≤ x ∧ x ≤ w.cap) (hn : 0 ≤ n) {lead K : Nat} (hl : lead < K) (e : phase w (nxs w cs n K) = phase w (nxs w cs n lead)) (c r : Nat) (hr : r ≤ K - lead) : thrL (((List.range' lead (K - lead)).map (rdE w cs n)).take r) (iter (thrL ((List.range' lead (K - lead)).map (rdE w cs n))) c (thrL ((List.range' 0 lead).map (rdE w cs n)) x)) = (stR w cs (x, n) (lead + (c * (K - lead) + r))).1 := by
  have e1 : thrL ((List.range' 0 lead).map (rdE w cs n)) x = (stR w cs (x, n) lead).1 := by
    have := thrL_stR h hx hn (cs := cs) lead 0
    rw [Nat.zero_add] at this
    exact this
  rw [e1, cyc_iter h hx hn hl e, ← cyc_eff h hn hl e c, ← List.map_take, take_rng hr, thrL_stR h hx hn]
  congr 2
  omega
/-! ## count and rfind of one sign -/
theorem forIn_id {α β : Type} (l : List α) (f : α → β → β) (g : α → β → Id (ForInStep β)) (hg : ∀ a b, g a b = pure (ForInStep.yield (f a b))) (init : β) : (forIn l init g : Id β) = l.foldl (fun b a => f a b) init := by
  have : g = fun a b => pure (ForInStep.yield (f a b)) := by funext a b; exact hg a b
  rw [this, List.forIn_pure_yield_eq_foldl]
  rfl
theorem subAt_one (z : Str) (c i : Nat) : Builtin.Str.subAt z ⟨#[c]⟩ i = decide (z.cps.toList[i]? = some c) := by
  unfold Builtin.Str.subAt
  show (z.cps.extract i (i + 1) == #[c]) = _
  rw [Bool.eq_iff_iff, beq_iff_eq, decide_eq_true_iff]
  have e : (z.cps.extract i (i + 1)).toList = (z.cps.toList.drop i).take 1 := by
    rw [Array.toList_extract, List.extract_eq_take_drop, show i + 1 - i = 1 by omega]
  constructor
  · intro h
    have h2 := congrArg Array.toList h
    rw [e] at h2
    have h3 : ((z.cps.toList.drop i).take 1)[0]? = some c := by rw [h2]; rfl
    rw [List.getElem?_take_of_lt (by decide), List.getElem?_drop] at h3
    exact h3
  · intro h
    refine Array.toList_inj.mp ?_
    rw [e]
    have hi : i < z.cps.toList.length := (List.getElem?_eq_some_iff.mp h).1
    rw [List.drop_eq_getElem_cons hi, List.take_succ_cons, List.take_zero]
    have := (List.getElem?_eq_some_iff.mp h).2
    rw [this]
theorem count_one (z : Str) (c : Nat) : Txt.count z ⟨#[c]⟩ = (z.cps.toList.count c : Nat) := by
  unfold Txt.count Builtin.Str.occurrences
  let F : Nat → Array Nat × Nat → Array Nat × Nat := fun i s => if (decide (s.1.size < z.length + 1) && decide (s.2 ≤ i) && decide (i + 1 ≤ z.length) && Builtin.Str.subAt z ⟨#[c]⟩ i) = true then (s.1.push i, i + 1) else s
  have hF : ∀ i s, (if (decide (s.1.size < z.length + 1) && decide (s.2 ≤ i) && decide (i + ({ cps := #[c] } : Str).length ≤ z.length) && Builtin.Str.subAt z { cps := #[c] } i) = true then (pure (ForInStep.yield (s.1.push i, i + ({ cps := #[c] } : Str).length)) : Id (ForInStep (Array Nat × Nat))) else pure (ForInStep.yield (s.1, s.2))) = pure (ForInStep.yield (F i s)) := by
    intro i s
    show _ = pure (ForInStep.yield (if _ then _ else _))
    by_cases h : (decide (s.1.size < z.length + 1) && decide (s.2 ≤ i) && decide (i + 1 ≤ z.length) && Builtin.Str.subAt z ⟨#[c]⟩ i) = true
    · rw [if_pos h]; exact if_pos h
    · rw [if_neg h]; exact if_neg h
  simp only [Std.Legacy.Range.forIn_eq_forIn_range', Id.run]
  have zl : z.length = z.cps.toList.length := by rw [Array.length_toList]; rfl
  have key : ∀ j, j ≤ z.length + 1 → ((List.range' 0 j).foldl (fun b a => F a b) (#[], 0)).1.size = (z.cps.toList.take j).count c ∧ ((List.range' 0 j).foldl (fun b a => F a b) (#[], 0)).2 ≤ j := by
    intro j
    induction j with
    | zero => intro _; exact ⟨by simp, Nat.le_refl _⟩
    | succ j ih =>
      intro hj
      obtain ⟨h1, h2⟩ := ih (by omega)
      rw [List.range'_1_concat, List.foldl_append]
      generalize (List.range' 0 j).foldl (fun b a => F a b) (#[], 0) = s at h1 h2 ⊢
      rw [Nat.zero_add]
      show (F j s).1.size = _ ∧ (F j s).2 ≤ j + 1
      have hs : s.1.size ≤ j := by
        rw [h1]
        exact Nat.le_trans List.count_le_length (by rw [List.length_take]; omega)
      by_cases q : z.cps.toList[j]? = some c
      · have hjl : j < z.cps.toList.length := (List.getElem?_eq_some_iff.mp q).1
        have e : F j s = (s.1.push j, j + 1) := if_pos (by
          rw [subAt_one, decide_eq_true q, decide_eq_true (by omega : s.1.size < z.length + 1), decide_eq_true h2, decide_eq_true (by omega : j + 1 ≤ z.length)]; rfl)
        rw [e, take_snoc q, List.count_append]
        refine ⟨?_, Nat.le_refl _⟩
        rw [Array.size_push, h1]
        simp
      · have e : F j s = s := if_neg (by rw [subAt_one, decide_eq_false q]; simp)
        rw [e]
        refine ⟨?_, by omega⟩
        rw [h1]
        by_cases hjl : j < z.cps.toList.length
        · rw [take_snoc (List.getElem?_eq_getElem hjl), List.count_append]
          have : z.cps.toList[j] ≠ c := fun z' => q (by rw [List.getElem?_eq_getElem hjl, z'])
          rw [List.count_eq_zero.mpr (fun m => this (List.mem_singleton.mp m).symm), Nat.add_zero]
        · rw [List.take_of_length_le (by omega), List.take_of_length_le (by omega)]
  have e := (key (z.length + 1) (Nat.le_refl _)).1
  rw [List.take_of_length_le (by omega)] at e
  rw [← e]
  have sz : [:z.length + 1].size = z.length + 1 := by simp [Std.Legacy.Range.size]
  rw [forIn_id _ F _ (fun i s => hF i s), sz]
  show (((List.foldl (fun b a => F a b) (#[], 0) (List.range' 0 (z.length + 1))).1.toList.length : Nat) : Int) = _
  rw [Array.length_toList]
theorem rfind_one (z : Str) (c : Nat) {i : Nat} (h : z.cps.toList[i]? = some c) (hl : ∀ j, i < j → z.cps.toList[j]? ≠ some c) : Txt.rfind z ⟨#[c]⟩ = i := by
  unfold Txt.rfind Builtin.Str.lastOccurrence
  let F : Nat → Option Nat → Option Nat := fun i s => if (decide (i + 1 ≤ z.length) && Builtin.Str.subAt z ⟨#[c]⟩ i) = true then some i else s
  have hF : ∀ i s, (if (decide (i + ({ cps := #[c] } : Str).length ≤ z.length) && Builtin.Str.subAt z { cps := #[c] } i) = true then (pure (ForInStep.yield (some i)) : Id (ForInStep (Option Nat))) else pure (ForInStep.yield s)) = pure (ForInStep.yield (F i s)) := by
    intro i s
    show _ = pure (ForInStep.yield (if _ then _ else _))
    by_cases h : (decide (i + 1 ≤ z.length) && Builtin.Str.subAt z ⟨#[c]⟩ i) = true
    · rw [if_pos h]; exact if_pos h
    · rw [if_neg h]; exact if_neg h
  simp only [Std.Legacy.Range.forIn_eq_forIn_range', Id.run]
  have zl : z.length = z.cps.toList.length := by rw [Array.length_toList]; rfl
  have hi : i < z.cps.toList.length := (List.getElem?_eq_some_iff.mp h).1
  have key : ∀ j, (List.range' 0 j).foldl (fun b a => F a b) none = if i < j then some i else ((List.range' 0 j).foldl (fun b a => F a b) none) := by
    intro j
    induction j with
    | zero => rfl
    | succ j ih =>
      by_cases q : i < j + 1
      · rw [if_pos q, List.range'_1_concat, List.foldl_append, Nat.zero_add]
        show F j _ = some i
        by_cases q2 : i = j
        · subst q2
          exact if_pos (by rw [subAt_one, decide_eq_true h, decide_eq_true (by omega : i + 1 ≤ z.length)]; rfl)
        · rw [if_pos (by omega : i < j)] at ih
          rw [ih]
          exact if_neg (by rw [subAt_one, decide_eq_false (hl j (by omega))]; simp)
      · rw [if_neg q]
  have sz : [:z.length + 1].size = z.length + 1 := by simp [Std.Legacy.Range.size]
  rw [forIn_id _ F _ (fun i s => hF i s), sz]
  have e := key (z.length + 1)
  rw [if_pos (by omega)] at e
  simp [e]
end Vf
namespace Vf
open PySem PySem.Spec PyProof.Rows L2 RZ
/-! ## the since behind rounds -/
theorem last_ix {c : Nat} : ∀ {cs : List Nat}, c ∈ cs → ∃ i : Nat, cs[i]? = some c ∧ ∀ j, i < j → cs[j]? ≠ some c
  | d :: cs, h => by
    by_cases q : c ∈ cs
    · obtain ⟨i, h1, h2⟩ := last_ix q
      refine ⟨i + 1, h1, fun j hj => ?_⟩
      obtain ⟨j, rfl⟩ : ∃ k, j = k + 1 := ⟨j - 1, by omega⟩
      exact h2 j (by omega)
    · rcases List.mem_cons.mp h with h | h
      · refine ⟨0, by rw [h]; rfl, fun j hj => ?_⟩
        obtain ⟨j, rfl⟩ : ∃ k, j = k + 1 := ⟨j - 1, by omega⟩
        intro e
        exact q (List.mem_of_getElem? e)
      · exact absurd h q
theorem stt_cnt {w : Wn} : ∀ (cs : List Nat) {x n : Int}, (w.anew = false ∨ ∀ c ∈ cs, c = 46) → (stt w (x, n) cs).2 = n + (cs.count 46 : Nat)
  | [], _, n, _ => by show n = n + ((0 : Nat) : Int); omega
  | c :: cs, x, n, h => by
    have h2 : w.anew = false ∨ ∀ c ∈ cs, c = 46 := h.imp id fun h c m => h c (List.mem_cons_of_mem _ m)
    by_cases q : c = 46
    · subst q
      have e : stp w (x, n) 46 = (waned1 w x n, n + 1) := rfl
      show (stt w (stp w (x, n) 46) cs).2 = _
      rw [e, stt_cnt cs h2, List.count_cons_self]
      omega
    · have a : w.anew = false := h.elim id fun h => absurd (h c (List.mem_cons_self ..)) q
      have e : stp w (x, n) c = (lifted1 w x, n) := by unfold stp; rw [if_neg q, if_neg q, if_neg (by rw [a]; exact Bool.false_ne_true)]
      show (stt w (stp w (x, n) c) cs).2 = _
      rw [e, stt_cnt cs h2, List.count_cons_of_ne q]
theorem nxs_cnt {w : Wn} {cs : List Nat} {n : Int} (h : w.anew = false ∨ ∀ c ∈ cs, c = 46) : ∀ k : Nat, nxs w cs n k = n + (k : Nat) * (cs.count 46 : Nat)
  | 0 => by show n = n + ((0 : Nat) : Int) * _; rw [Int.natCast_zero, Int.zero_mul]; omega
  | k + 1 => by
    show (stt w (0, nxs w cs n k) cs).2 = _
    rw [stt_cnt cs h, nxs_cnt h k, Int.natCast_add, Int.add_mul]
    show n + _ + _ = n + (_ + 1 * _)
    omega
theorem row_sign {z : Str} (h : isRow (.str z) = true) {c : Nat} (m : c ∈ z.cps.toList) : c = 46 ∨ c = 97 := by
  have h : (decide (z.cps.size ≤ 200) && z.cps.toList.all signOk) = true := h
  rw [Bool.and_eq_true] at h
  have := List.all_eq_true.mp h.2 c m
  unfold signOk at this
  rw [Bool.or_eq_true, beq_iff_eq, beq_iff_eq] at this
  exact this
theorem nx_last {w : Wn} {z : Str} (h : isRow (.str z) = true) (ha : w.anew = true) {i : Nat} (hi : z.cps.toList[i]? = some 97) (hl : ∀ j, i < j → z.cps.toList[j]? ≠ some 97) (n : Int) : nx w z.cps.toList n = z.cps.size - 1 - (i : Nat) := by
  have hlt : i < z.cps.toList.length := (List.getElem?_eq_some_iff.mp hi).1
  have e : z.cps.toList = z.cps.toList.take (i + 1) ++ z.cps.toList.drop (i + 1) := (List.take_append_drop _ _).symm
  show (stt w (0, n) z.cps.toList).2 = _
  have e1 : (stt w (0, n) (z.cps.toList.take (i + 1))).2 = 0 := by
    rw [take_snoc hi]
    unfold stt
    rw [List.foldl_append]
    show (if (97 : Nat) = 46 then (List.foldl (stp w) (0, n) (z.cps.toList.take i)).2 + 1 else if w.anew = true then (0 : Int) else (List.foldl (stp w) (0, n) (z.cps.toList.take i)).2) = 0
    rw [if_neg (by decide), if_pos ha]
  have hd : ∀ c ∈ z.cps.toList.drop (i + 1), c = 46 := by
    intro c m
    rcases row_sign h (List.mem_of_mem_drop m) with q | q
    · exact q
    · obtain ⟨j, hj, ej⟩ := List.mem_iff_getElem.mp m
      rw [List.getElem_drop] at ej
      exfalso
      refine hl (i + 1 + j) (by omega) ?_
      rw [List.length_drop] at hj
      rw [List.getElem?_eq_getElem (by omega), ej, q]
  have cnt : (z.cps.toList.drop (i + 1)).count 46 = z.cps.toList.length - (i + 1) := by
    rw [List.count_eq_length.mpr fun b hb => (hd b hb).symm, List.length_drop]
  rw [e, stt_app]
  generalize hs : stt w (0, n) (z.cps.toList.take (i + 1)) = s at e1
  obtain ⟨s1, s2⟩ := s
  have e1 : s2 = 0 := e1
  rw [stt_cnt _ (.inr hd), cnt, e1]
  rw [Array.length_toList] at *
  omega
end Vf
namespace Vf
open PySem PySem.Spec PyProof.Rows L2 RZ
/-! ## a dict of a def's own, whole numbers its keys -/
section
variable {K : PySem.W.Frag} {S S2 M : AS} {H0 H H' : Hp} {G G2 : List (V × D)} {L Lq : List (Addr × List D)} {Q : VK} {pd : Addr}
theorem kp_upd {o : HO} : Kp (fun b => b = pd) H (upd H pd o) := fun b u n e => by rw [upd_ne n]; exact e
/-- a new object that is no known data -/
theorem St.newS (st : Vf.St K S M H0 H G L []) (n : H pd = none) (o : HO) : Vf.St K (fun b => S b ∨ b = pd) M H0 (upd H pd o) G L [] := by
  refine ⟨fun b s => ?_, fun b u nm e => ?_, fun b e => ?_, fun p hp => Dz.keep kp_upd (fun b e => .inr e) (Dz.fresh n (st.ga p hp)), fun p hp => ?_, fun a ha => by simp at ha, st.nd⟩
  · by_cases z : b = pd
    · subst z; rw [upd_same]; exact fun w => by cases w
    · rw [upd_ne z]
      exact s.elim (st.ok b) fun e => absurd e z
  · have z : b ≠ pd := fun z => by rw [z, st.h0 n] at e; cases e
    rw [upd_ne z]; exact st.kp b u nm e
  · by_cases z : b = pd
    · subst z; rw [upd_same]; exact fun w => by cases w
    · rw [upd_ne z]; exact st.dm b e
  · obtain ⟨h1, h2, xs, h3, h4⟩ := st.la p hp
    have z : p.1 ≠ pd := fun z => by rw [z, n] at h3; cases h3
    exact ⟨.inl h1, h2, xs, by rw [upd_ne z]; exact h3, DzL.keep kp_upd (fun b e => .inr e) (DzL.fresh n h4)⟩
theorem St.updS (st : Vf.St K S M H0 H G L []) (hs : S pd) (hL : ∀ p ∈ L, p.1 ≠ pd) (hm : H0 pd = none ∨ M pd) (o : HO) : Vf.St K S M H0 (upd H pd o) G L [] := by
  refine ⟨fun b s => ?_, fun b u nm e => ?_, fun b e => ?_, fun p hp => Dz.keep kp_upd (fun b e => by rw [e]; exact hs) (st.ga p hp), fun p hp => ?_, fun a ha => by simp at ha, st.nd⟩
  · by_cases z : b = pd
    · subst z; rw [upd_same]; exact fun w => by cases w
    · rw [upd_ne z]; exact st.ok b s
  · have z : b ≠ pd := fun z => by
      rw [z] at e nm
      exact hm.elim (fun q => by rw [q] at e; cases e) nm
    rw [upd_ne z]; exact st.kp b u nm e
  · by_cases z : b = pd
    · subst z; rw [upd_same]; exact fun w => by cases w
    · rw [upd_ne z]; exact st.dm b e
  · obtain ⟨h1, h2, xs, h3, h4⟩ := st.la p hp
    exact ⟨h1, h2, xs, by rw [upd_ne (hL p hp)]; exact h3, DzL.keep kp_upd (fun b e => by rw [e]; exact hs) h4⟩
/-- from here on: what isn't an own list is as it is now -/
theorem St.rebase (st : Vf.St K S M H0 H G L []) : Vf.St K S (fun c => ∃ ds, (c, ds) ∈ L) H H G L [] :=
  ⟨st.ok, fun _ _ _ e => e, fun _ e => e, st.ga, fun p hp => ⟨(st.la p hp).1, .inr ⟨p.2, hp⟩, (st.la p hp).2.2⟩, fun a ha => by simp at ha, st.nd⟩
theorem St.trans (st : Vf.St K S M H0 H G L []) (s2 : Vf.St K S2 (fun c => ∃ ds, (c, ds) ∈ L) H H' G2 Lq []) : Vf.St K S2 M H0 H' G2 Lq [] := by
  refine ⟨s2.ok, fun b o nm e => s2.kp b o (fun ⟨ds, m⟩ => ?_) (st.kp b o nm e), fun b e => s2.dm b (st.dm b e), s2.ga, fun p hp => ?_, fun a ha => by simp at ha, s2.nd⟩
  · rcases (st.la _ m).2.1 with q | q
    · have q : H0 b = none := q
      rw [q] at e; cases e
    · exact nm q
  · obtain ⟨h1, h2, h3⟩ := s2.la p hp
    refine ⟨h1, ?_, h3⟩
    rcases h2 with q | ⟨ds, m⟩
    · exact .inl (st.h0 q)
    · exact (st.la _ m).2.1
theorem St.stays (s2 : Vf.St K S (fun c => ∃ ds, (c, ds) ∈ L) H H' G2 Lq []) (hL : ∀ p ∈ L, p.1 ≠ pd) {o : HO} (e : H pd = some o) : H' pd = some o :=
  s2.kp pd o (fun ⟨ds, m⟩ => hL _ m rfl) e
theorem d_dnew (st : Vf.St K S M H0 H G L []) (q : ∀ p H', H' p = some (.dK []) → H0 p = none → ¬ S p → (∀ x ∈ L, x.1 ≠ p) → Vf.St K (fun b => S b ∨ b = p) M H0 H' G L [] → Q (.ref p) H') {σ : L2.St} : tDNewK σ H Q := by
  intro p n
  refine q p _ upd_same (st.h0 n) (st.nS n) (fun x hx e => ?_) (st.newS n _)
  obtain ⟨_, _, xs, h3, _⟩ := st.la x hx
  rw [e, n] at h3
  cases h3
theorem d_lenO {a : Addr} {ds : List D} (st : Vf.St K S M H0 H G L []) (m : (a, ds) ∈ L) (q : Q (.int (ds.length : Nat)) H) : rLenG K [.ref a] H Q := by
  obtain ⟨_, _, xs, h3, h4⟩ := st.la (a, ds) m
  exact ⟨_, ds.length, rfl, .inl ⟨xs, SqL.of h3, h4.len.symm⟩, q⟩
end
/-! the steps of a walk over dicts -/
def FDni (y : V) (Q : VK) : VK := fun x H2 => ∃ a o, x = V.ref a ∧ DGet H2 a y o ∧ Q (V.bl !o.isSome) H2
def FDin (y : V) (Q : VK) : VK := fun x H2 => ∃ a o, x = V.ref a ∧ DGet H2 a y o ∧ Q (V.bl o.isSome) H2
def FDgt (x : V) (Q : VK) : VK := fun y H2 => ∃ a v, x = V.ref a ∧ DGet H2 a y (some v) ∧ Q v H2
def FDpt (v x : V) (D : Ends) (σ : L2.St) : VK := fun y H3 => ∃ a H4, x = V.ref a ∧ DPut H3 a y v H4 ∧ D.nx σ H4
theorem g_dni {ty td : TE} {σ : L2.St} {H : Hp} {Q : VK} (h : ty σ H fun y H1 => td σ H1 (FDni y Q)) : tDNotIn ty td σ H Q := h
theorem g_din {ty td : TE} {σ : L2.St} {H : Hp} {Q : VK} (h : ty σ H fun y H1 => td σ H1 (FDin y Q)) : tDIn ty td σ H Q := h
theorem g_dgt {ty td : TE} {σ : L2.St} {H : Hp} {Q : VK} (h : td σ H fun x H1 => ty σ H1 (FDgt x Q)) : tDGet td ty σ H Q := h
theorem g_dpt {ty td tv : TE} {D : Ends} {σ : L2.St} {H : Hp} (h : tv σ H fun v H1 => td σ H1 fun x H2 => ty σ H2 (FDpt v x D σ)) : sDPut td ty tv D σ H := h
theorem k_dni {H : Hp} {Q : VK} {a : Addr} {kvs : List (Key × V)} {i : Int} (h : H a = some (.dK kvs)) (q : Q (.bl !(valV kvs (.inl i : Key)).isSome) H) : FDni (.int i) Q (.ref a) H := ⟨a, _, rfl, DGet.k (k := .inl i) h, q⟩
theorem k_din {H : Hp} {Q : VK} {a : Addr} {kvs : List (Key × V)} {i : Int} (h : H a = some (.dK kvs)) (q : Q (.bl (valV kvs (.inl i : Key)).isSome) H) : FDin (.int i) Q (.ref a) H := ⟨a, _, rfl, DGet.k (k := .inl i) h, q⟩
theorem k_dgt {H : Hp} {Q : VK} {a : Addr} {kvs : List (Key × V)} {i : Int} {v : V} (h : H a = some (.dK kvs)) (e : valV kvs (.inl i : Key) = some v) (q : Q v H) : FDgt (.ref a) Q (.int i) H := ⟨a, v, rfl, by rw [← e]; exact DGet.k (k := .inl i) h, q⟩
theorem k_dpt {D : Ends} {σ : L2.St} {H : Hp} {a : Addr} {kvs : List (Key × V)} {i : Int} {v : V} (h : H a = some (.dK kvs)) (hl : kvs.length < 100000) (q : D.nx σ (upd H a (.dK (putK kvs (.inl i : Key) v)))) : FDpt v (.ref a) D σ (.int i) H := ⟨a, _, rfl, DPut.k (k := .inl i) h (Nat.lt_of_lt_of_le hl (by decide)), q⟩
/-- keys by a function of the place, the values the places -/
def kvF (f : Nat → Int) (k : Nat) : List (Key × V) := (List.range k).map fun j => (.inl (f j), V.int (j : Nat))
theorem kvF_none {f : Nat → Int} {k : Nat} {p : Int} (h : ∀ j, j < k → f j ≠ p) : valV (kvF f k) (.inl p : Key) = none := by
  unfold valV kvF
  rw [List.find?_eq_none.mpr]
  · rfl
  · intro kv hkv
    obtain ⟨j, hj, rfl⟩ := List.mem_map.mp hkv
    have := h j (List.mem_range.mp hj)
    simpa using this
theorem kvF_some {f : Nat → Int} {k : Nat} {p : Int} {v : V} (h : valV (kvF f k) (.inl p : Key) = some v) : ∃ j, j < k ∧ f j = p ∧ v = V.int (j : Nat) := by
  unfold valV kvF at h
  obtain ⟨kv, h1, h2⟩ := Option.map_eq_some_iff.mp h
  have m := List.mem_of_find?_eq_some h1
  have t := List.find?_some h1
  obtain ⟨j, hj, rfl⟩ := List.mem_map.mp m
  refine ⟨j, List.mem_range.mp hj, ?_, h2.symm⟩
  simpa using t
theorem kvF_fresh {f : Nat → Int} {k : Nat} {p : Int} (h : valV (kvF f k) (.inl p : Key) = none) : ∀ j, j < k → f j ≠ p := by
  intro j hj e
  unfold valV kvF at h
  rw [Option.map_eq_none_iff, List.find?_eq_none] at h
  refine h (.inl (f j), V.int (j : Nat)) (List.mem_map.mpr ⟨j, List.mem_range.mpr hj, rfl⟩) ?_
  rw [e]
  simp
theorem kvF_put {f : Nat → Int} {k : Nat} (h : ∀ j, j < k → f j ≠ f k) : putK (kvF f k) (.inl (f k) : Key) (V.int (k : Nat)) = kvF f (k + 1) := by
  unfold putK
  rw [if_neg ?_]
  · unfold kvF
    rw [List.range_succ, List.map_append]
    rfl
  · intro e
    obtain ⟨kv, h1, h2⟩ := List.any_eq_true.mp e
    obtain ⟨j, hj, rfl⟩ := List.mem_map.mp h1
    exact h j (List.mem_range.mp hj) (by simpa using h2)
theorem kvF_len (f : Nat → Int) (k : Nat) : (kvF f k).length = k := by unfold kvF; rw [List.length_map, List.length_range]
theorem pigeon : ∀ (m : Nat) (l : List Nat), l.Nodup → (∀ x ∈ l, x < m) → l.length ≤ m
  | 0, [], _, _ => Nat.le_refl _
  | 0, x :: _, _, h => absurd (h x (List.mem_cons_self ..)) (Nat.not_lt_zero _)
  | m + 1, l, hn, h => by
    have ih := pigeon m (l.erase m) (hn.erase m) fun x hx => by
      have h1 := h x (List.mem_of_mem_erase hx)
      have h2 : x ≠ m := fun e => by
        rw [e] at hx
        exact (List.Nodup.not_mem_erase hn) hx
      omega
    by_cases q : m ∈ l
    · rw [List.length_erase_of_mem q] at ih
      omega
    · rw [List.erase_of_not_mem q] at ih
      omega
theorem pigeonF {f : Nat → Int} {m k : Nat} (hb : ∀ j, 0 ≤ f j ∧ f j < (m : Int)) (hd : ∀ i j, i < j → j < k → f i ≠ f j) : k ≤ m := by
  have := pigeon m ((List.range k).map fun j => (f j).toNat) (by
    rw [List.nodup_iff_pairwise_ne, List.pairwise_map]
    refine List.Pairwise.imp_of_mem ?_ (List.nodup_iff_pairwise_ne.mp (List.nodup_range (n := k)))
    intro i j hi hj hij e
    have h1 := List.mem_range.mp hi
    have h2 := List.mem_range.mp hj
    have b1 := hb i
    have b2 := hb j
    rcases Nat.lt_or_gt_of_ne hij with q | q
    · exact hd i j q h2 (by omega)
    · exact hd j i q h1 (by omega)) (by
    intro x hx
    obtain ⟨j, _, rfl⟩ := List.mem_map.mp hx
    have := hb j
    omega)
  rw [List.length_map, List.length_range] at this
  exact this
end Vf
namespace Vf
open PySem PySem.Spec PyProof.Rows L2 RZ
/-! ## effects gone through again and again: the arithmetic alone -/
/-- numbers of effects that don't divide: small sums -/
structure Ef.Ev (e : Ef) (i : Nat) : Prop where
  l : e.least.natAbs ≤ (i + 2) * 2 ^ 232
  a : e.add.natAbs ≤ (i + 1) * 2 ^ 232
  p : e.by_ = 1
  t : e.top.natAbs ≤ (i + 1) * 2 ^ 232
theorem Ef.Ev.In {e : Ef} {i : Nat} (h : e.Ev i) (hi : i ≤ 100) : e.In 240 := by
  obtain ⟨l, a, p, t⟩ := h
  have e1 : (2 : Nat) ^ 240 = 256 * 2 ^ 232 := by decide +kernel
  have m1 : (i + 2) * 2 ^ 232 ≤ 102 * 2 ^ 232 := Nat.mul_le_mul_right _ (by omega)
  have m2 : (i + 1) * 2 ^ 232 ≤ 102 * 2 ^ 232 := Nat.mul_le_mul_right _ (by omega)
  have z : 0 < (2 : Nat) ^ 232 := Nat.pow_pos (by decide)
  refine ⟨?_, ?_, Int.le_of_eq p.symm, ?_, ?_⟩ <;> rw [e1] <;> clear e1 <;> generalize (2 : Nat) ^ 232 = z at * <;> omega
theorem Ef.Ev.first {e : Ef} (h : e.In 232) (hp : e.by_ = 1) : e.Ev 0 := by
  obtain ⟨l, a, p, y, t⟩ := h
  exact ⟨by omega, by omega, hp, by omega⟩
theorem Ef.Ev.step {a b e : Ef} {i : Nat} (ha : a.Ev i) (hb : b.In 232) (h : chn (some a) (some b) = some e) (hp : e.by_ = 1) : e.Ev (i + 1) := by
  obtain ⟨h3, rfl⟩ := chn_some h
  obtain ⟨l, ad, p, t⟩ := ha
  obtain ⟨bl, ba, bp, by', bt⟩ := hb
  have hp : a.by_ * b.by_ = 1 := hp
  rw [p, Int.one_mul] at hp
  have k1 : (i + 2) * 2 ^ 232 = (i + 1) * 2 ^ 232 + 2 ^ 232 := Nat.succ_mul (i + 1) _
  have k2 : (i + 1 + 2) * 2 ^ 232 = (i + 2) * 2 ^ 232 + 2 ^ 232 := Nat.succ_mul (i + 2) _
  have k3 : (i + 1 + 1) * 2 ^ 232 = (i + 1) * 2 ^ 232 + 2 ^ 232 := Nat.succ_mul (i + 1) _
  suffices hh : (jn a b).least.natAbs ≤ (i + 1 + 2) * 2 ^ 232 ∧ (jn a b).add.natAbs ≤ (i + 1 + 1) * 2 ^ 232 ∧ (jn a b).by_ = 1 ∧ (jn a b).top.natAbs ≤ (i + 1 + 1) * 2 ^ 232 from ⟨hh.1, hh.2.1, hh.2.2.1, hh.2.2.2⟩
  rw [k2, k3]
  try rw [k1]
  rw [k1] at l
  clear k1 k2 k3 h3 h
  generalize (i + 1) * 2 ^ 232 = A at *
  generalize 2 ^ 232 = z at *
  refine ⟨?_, ?_, ?_, ?_⟩
  · show (mx a.least (b.least * a.by_ - a.add)).natAbs ≤ _
    rw [p, Int.mul_one]
    unfold mx
    split <;> omega
  · show (a.add + b.add * a.by_).natAbs ≤ _
    rw [p, Int.mul_one]
    omega
  · show a.by_ * b.by_ = 1
    rw [p, hp]; rfl
  · show (mn b.top ((a.top + b.add) / b.by_)).natAbs ≤ _
    rw [hp, Int.ediv_one]
    unfold mn
    split <;> omega
theorem thrL_snoc {es : List (Option Ef)} {i : Nat} {o : Option Ef} (h : es[i]? = some o) (x : Int) : thrL (es.take (i + 1)) x = thr o (thrL (es.take i) x) := by
  rw [take_snoc h]
  unfold thrL
  rw [List.foldl_append]
  rfl
def evT : Option Ef → Int → Int
  | none, _ => 0
  | some e, x => if e.by_ ≠ 1 ∨ e.add = 0 ∨ ¬ (e.least ≤ x ∧ x ≤ e.top) then 0 else if e.add > 0 then (e.top - x) / e.add else (x - e.least) / -e.add
theorem evT_zero_or {o : Option Ef} {x : Int} (h : 0 < evT o x) : ∃ e, o = some e ∧ e.by_ = 1 ∧ e.add ≠ 0 ∧ e.least ≤ x ∧ x ≤ e.top ∧ evT o x = if e.add > 0 then (e.top - x) / e.add else (x - e.least) / -e.add := by
  cases o with
  | none => exact absurd h (Int.lt_irrefl 0)
  | some e =>
    have h' : 0 < (if e.by_ ≠ 1 ∨ e.add = 0 ∨ ¬ (e.least ≤ x ∧ x ≤ e.top) then 0 else if e.add > 0 then (e.top - x) / e.add else (x - e.least) / -e.add) := h
    by_cases q : e.by_ ≠ 1 ∨ e.add = 0 ∨ ¬ (e.least ≤ x ∧ x ≤ e.top)
    · rw [if_pos q] at h'
      exact absurd h' (Int.lt_irrefl 0)
    · refine ⟨e, rfl, ?_, ?_, ?_, ?_, if_neg q⟩
      · exact Decidable.not_not.mp fun z => q (.inl z)
      · exact fun z => q (.inr (.inl z))
      · exact Decidable.not_not.mp fun z => q (.inr (.inr fun y => z y.1))
      · exact Decidable.not_not.mp fun z => q (.inr (.inr fun y => z y.2))
theorem leap {f : Int → Int} {o : Option Ef} (hf : ∀ e, o = some e → ∀ y, 0 ≤ y → f y = thr (some e) y) (hw : oWf o) {x : Int} (hx : 0 ≤ x) : ∀ k : Nat, (k : Int) ≤ evT o x → ∀ e, o = some e → 0 < (k : Int) → iter f k x = x + (k : Int) * e.add ∧ 0 ≤ x + (k : Int) * e.add
  | 0, _, _, _, h0 => absurd h0 (Int.lt_irrefl 0)
  | k + 1, hk, e, he, _ => by
    obtain ⟨e', he', p, a0, x0, x1, ev⟩ := evT_zero_or (o := o) (x := x) (by omega)
    rw [he] at he'
    cases he'
    have l1 := (hw e he).l
    have ih : iter f k x = x + (k : Int) * e.add ∧ 0 ≤ x + (k : Int) * e.add := by
      by_cases z : k = 0
      · subst z
        refine ⟨?_, ?_⟩
        · show x = x + ((0 : Nat) : Int) * e.add
          simp
        · simp; exact hx
      · exact leap hf hw hx k (by omega) e he (by omega)
    rw [ev] at hk
    have hk1 : ((k + 1 : Nat) : Int) * e.add = (k : Int) * e.add + e.add := by rw [Int.natCast_add, Int.add_mul]; simp
    have key : e.least ≤ x + (k : Int) * e.add ∧ x + ((k + 1 : Nat) : Int) * e.add ≤ e.top ∧ 0 ≤ x + ((k + 1 : Nat) : Int) * e.add := by
      by_cases s : e.add > 0
      · rw [if_pos s] at hk
        have q := (Int.le_ediv_iff_mul_le s).mp hk
        have m : 0 ≤ (k : Int) * e.add := Int.mul_nonneg (by omega) (by omega)
        refine ⟨by omega, by omega, by omega⟩
      · rw [if_neg s] at hk
        have s2 : 0 < -e.add := by omega
        have q := (Int.le_ediv_iff_mul_le s2).mp hk
        rw [Int.mul_neg] at q
        have m : 0 ≤ (k : Int) * -e.add := Int.mul_nonneg (by omega) (by omega)
        rw [Int.mul_neg] at m
        refine ⟨by omega, by omega, by omega⟩
    refine ⟨?_, key.2.2⟩
    show f (iter f k x) = _
    rw [ih.1, hf e he _ ih.2, thr_ge (by omega), p, Int.ediv_one, hk1]
    unfold mn
    rw [hk1] at key
    split <;> omega
theorem thr_nn {o : Option Ef} (hw : oWf o) {x : Int} : 0 ≤ thr o x := by
  cases o with
  | none => exact Int.le_refl 0
  | some e =>
    by_cases q : x < e.least
    · rw [thr_lt q]; exact Int.le_refl 0
    · have := (thr_pos (hw e rfl) (x := x)).mpr (by omega)
      omega
theorem thrL_nn : ∀ {es : List (Option Ef)}, (∀ o ∈ es, oWf o) → ∀ {x : Int}, 0 ≤ x → 0 ≤ thrL es x
  | [], _, _, hx => hx
  | o :: es, h, x, _ => by
    show 0 ≤ thrL es (thr o x)
    exact thrL_nn (fun o m => h o (List.mem_cons_of_mem _ m)) (thr_nn (h o (List.mem_cons_self ..)))
theorem iter_nn {f : Int → Int} (hf : ∀ x, 0 ≤ x → 0 ≤ f x) {x : Int} (hx : 0 ≤ x) : ∀ k, 0 ≤ iter f k x
  | 0 => hx
  | k + 1 => hf _ (iter_nn hf hx k)
end Vf
namespace Vf
open PySem PySem.Spec PyProof.Rows L2 RZ
/-! ## a comprehension's list that is changed behind; its items set -/
section
variable {K : PySem.W.Frag} {S M : AS} {H0 H : Hp} {G : List (V × D)} {L : List (Addr × List D)} {B : List Addr} {Q : VK}
theorem d_lcO {J : It} {n : Nat} {Gq : Addr → Hp → Prop} {Y : Addr → Nat → Hp → V → Hp → Prop} {σ : L2.St} {g : TG} {tt : TT} {te : TE} {ws : List Nat} (w : ∀ p, Walk J n (Gq p) (Y p)) (st : Vf.St K S M H0 H G L B)
    (hG : ∀ p es H', Vf.St K (fun b => S b ∨ b = p) M H0 H' G ((p, es) :: L) B → Gq p H') (P : Nat → List D → Prop) (p0 : P 0 [])
    (hs : ∀ p i x H1 H2 es, ¬ S p → i < n → es.length ≤ i → P i es → Vf.St K (fun b => S b ∨ b = p) M H0 H1 G ((p, es) :: L) B → Y p i H1 x H2 → g x (wipe σ ws) H2 fun σ2 H3 => wipe σ2 ws = wipe σ ws ∧ tt σ2 H3 fun b H4 =>
      if b = true then te σ2 H4 (LcE K S M H0 G L B p P (i + 1)) else LcP K S M H0 G L B p P (i + 1) H4)
    (hd : ∀ p H' es, ¬ S p → P n es → es.length ≤ n → Vf.St K (fun b => S b ∨ b = p) M H0 H' G ((p, es) :: L) B → Q (.ref p) H') :
    FLc g tt te ws σ Q J H := by
  intro p np
  have ns := st.nS np
  refine lc_it (w p) (LcP K S M H0 G L B p P) ⟨[], Nat.le_refl _, p0, st.own np zl_nil⟩ (fun i H' _ ⟨es, _, _, s⟩ => hG p es H' s) (fun i x H1 H2 hi ⟨es, hl, pp, s⟩ y => hs p i x H1 H2 es ns hi hl pp s y) fun H' ⟨es, hl, pp, s⟩ => hd p H' es ns pp hl s
theorem lc_RIO {g : TG} {tt : TT} {te : TE} {ws : List Nat} {σ : L2.St} {n : Int} (h0 : 0 ≤ n) (hn : n ≤ 1000000) (st : Vf.St K S M H0 H G L B) (P : Nat → List D → Prop) (p0 : P 0 [])
    (hs : ∀ p i x H1 es, ¬ S p → i < n.toNat → es.length ≤ i → P i es → Vf.St K (fun b => S b ∨ b = p) M H0 H1 G ((p, es) :: L) B → x = .int (i : Nat) → g x (wipe σ ws) H1 fun σ2 H3 => wipe σ2 ws = wipe σ ws ∧ tt σ2 H3 fun b H4 =>
      if b = true then te σ2 H4 (LcE K S M H0 G L B p P (i + 1)) else LcP K S M H0 G L B p P (i + 1) H4)
    (hd : ∀ p H' es, ¬ S p → P n.toNat es → es.length ≤ n.toNat → Vf.St K (fun b => S b ∨ b = p) M H0 H' G ((p, es) :: L) B → Q (.ref p) H') : FRng (FLc g tt te ws σ Q) [.int n] H := by
  refine ⟨n, rfl, by omega, by omega, ?_⟩
  refine d_lcO (fun p => walk_range) st (fun p es H' s => trivial) P p0 (fun p i x H1 H2 es n hi hl pe s y => ?_) hd
  obtain ⟨e, hx⟩ := y
  subst e
  exact hs p i x _ es n hi hl pe s (by rw [hx]; simp)
theorem d_setO {a : Addr} {ds : List D} {i : Nat} {j : Nat} {d : D} {y : V} {N : Hp → Prop} (st : Vf.St K S M H0 H G L B) (hl : L[i]? = some (a, ds)) (hj : j < ds.length) (hz : Dz K S H d y) (q : ∀ H', Vf.St K S M H0 H' G (L.set i (a, ds.set j d)) B → N H') : rSetL (.ref a) (.int (j : Nat)) y H N := by
  obtain ⟨_, _, xs, h3, h4⟩ := st.la (a, ds) (List.mem_of_getElem? hl)
  have e := h4.len
  exact b_set j h3 (by rw [e]; exact hj) (q _ (st.put hl (h4.set hz)))
theorem d_lenB {a : Addr} {ds : List D} (st : Vf.St K S M H0 H G L B) (m : (a, ds) ∈ L) (q : Q (.int (ds.length : Nat)) H) : rLenG K [.ref a] H Q := by
  obtain ⟨_, _, xs, h3, h4⟩ := st.la (a, ds) m
  exact ⟨_, ds.length, rfl, .inl ⟨xs, SqL.of h3, h4.len.symm⟩, q⟩
end
theorem join_signs : ∀ cs : List Nat, Str.join (Str.ofString "") (cs.map fun c => (⟨#[c]⟩ : Str)) = ⟨cs.toArray⟩
  | [] => rfl
  | [c] => rfl
  | c :: d :: r => by
    have ih := join_signs (d :: r)
    show ((⟨#[c]⟩ : Str) ++ Str.ofString "" ++ Str.join (Str.ofString "") ((d :: r).map fun c => (⟨#[c]⟩ : Str)) : Str) = _
    rw [ih]
    show Str.mk (#[c] ++ #[] ++ (d :: r).toArray) = _
    simp
theorem sum_one : ∀ cs : List Nat, ((cs.map fun c => (⟨#[c]⟩ : Str)).map (·.length)).sum = cs.length
  | [] => rfl
  | c :: cs => by
    rw [List.map_cons, List.map_cons, List.sum_cons, sum_one cs, List.length_cons]
    show 1 + cs.length = _
    omega
theorem isRow_of {cs : List Nat} (h : cs.length ≤ 200) (hs : ∀ c ∈ cs, signOk c = true) : isRow (.str ⟨cs.toArray⟩) = true := by
  show (decide (cs.toArray.size ≤ 200) && cs.toArray.toList.all signOk) = true
  rw [Bool.and_eq_true]
  exact ⟨decide_eq_true (by simpa using h), by simpa [List.all_eq_true] using hs⟩
theorem app_list (x y : Str) : (x ++ y).cps.toList = x.cps.toList ++ y.cps.toList := by
  show (x.cps ++ y.cps).toList = _
  exact Array.toList_append
theorem cutS_to {z : Str} {i : Nat} : (cutS z none (some ((i : Nat) : Int))).cps.toList = z.cps.toList.take i := by
  have e : z.length = z.cps.size := rfl
  have a2 : HT.sIx z.length z.length (some ((i : Nat) : Int)) = min i z.length := by
    show (if ((i : Nat) : Int) < 0 then (((i : Nat) : Int) + (z.length : Nat)).toNat else min ((i : Nat) : Int).toNat z.length) = _
    rw [if_neg (by omega), Int.toNat_natCast]
  unfold cutS
  show (z.cps.toList.drop (HT.sIx z.length 0 none)).take (HT.sIx z.length z.length (some ((i : Nat) : Int)) - HT.sIx z.length 0 none) = _
  rw [a2, show HT.sIx z.length 0 none = 0 from rfl, List.drop_zero, Nat.sub_zero]
  by_cases q : i ≤ z.length
  · rw [Nat.min_eq_left q]
  · rw [Nat.min_eq_right (by omega), List.take_of_length_le (by rw [Array.length_toList]; omega), List.take_of_length_le (by rw [Array.length_toList]; omega)]
theorem cutS_from {z : Str} {i : Nat} : (cutS z (some ((i : Nat) : Int)) none).cps.toList = z.cps.toList.drop i := by
  have e : z.length = z.cps.size := rfl
  have a2 : HT.sIx z.length 0 (some ((i : Nat) : Int)) = min i z.length := by
    show (if ((i : Nat) : Int) < 0 then (((i : Nat) : Int) + (z.length : Nat)).toNat else min ((i : Nat) : Int).toNat z.length) = _
    rw [if_neg (by omega), Int.toNat_natCast]
  unfold cutS
  show (z.cps.toList.drop (HT.sIx z.length 0 (some ((i : Nat) : Int)))).take (HT.sIx z.length z.length none - HT.sIx z.length 0 (some ((i : Nat) : Int))) = _
  rw [a2, show HT.sIx z.length z.length none = z.length from rfl]
  by_cases q : i ≤ z.length
  · rw [Nat.min_eq_left q, List.take_of_length_le (by rw [List.length_drop, Array.length_toList]; omega)]
  · rw [Nat.min_eq_right (by omega), List.drop_of_length_le (by rw [Array.length_toList]; omega), List.drop_of_length_le (by rw [Array.length_toList]; omega), List.take_nil]
end Vf
namespace Vf
open PySem PySem.Spec PyProof.Rows L2 RZ
/-! ## what becomes of a thing in rounds: the arithmetic alone -/
theorem mn_mono {t a b : Int} (h : a ≤ b) : mn t a ≤ mn t b := by
  unfold mn
  (repeat split) <;> omega
theorem thr_mono {o : Option Ef} (hw : oWf o) {x y : Int} (h : x ≤ y) : thr o x ≤ thr o y := by
  cases o with
  | none => exact Int.le_refl 0
  | some e =>
    by_cases q : x < e.least
    · rw [thr_lt q]; exact thr_nn hw
    · rw [thr_ge q, thr_ge (by omega)]
      have p := (hw e rfl).p
      exact mn_mono (Int.ediv_le_ediv (by omega) (by omega))
theorem thrL_mono : ∀ {es : List (Option Ef)}, (∀ o ∈ es, oWf o) → ∀ {x y : Int}, x ≤ y → thrL es x ≤ thrL es y
  | [], _, _, _, h => h
  | o :: es, hw, x, y, h => thrL_mono (es := es) (fun o m => hw o (List.mem_cons_of_mem _ m)) (thr_mono (hw o (List.mem_cons_self ..)) h)
theorem thrL_0 : ∀ {es : List (Option Ef)}, (∀ o ∈ es, oWf o) → thrL es 0 = 0
  | [], _ => rfl
  | o :: es, hw => by
    show thrL es (thr o 0) = 0
    rw [thr_zero (hw o (List.mem_cons_self ..))]
    exact thrL_0 fun o m => hw o (List.mem_cons_of_mem _ m)
section
variable {f : Int → Int} (hm : ∀ x y, x ≤ y → f x ≤ f y)
include hm
theorem iter_up {x : Int} (h : x ≤ f x) : ∀ j, iter f j x ≤ iter f (j + 1) x
  | 0 => h
  | j + 1 => hm _ _ (iter_up h j)
theorem iter_dn {x : Int} (h : f x ≤ x) : ∀ j, iter f (j + 1) x ≤ iter f j x
  | 0 => h
  | j + 1 => hm _ _ (iter_dn h j)
/-- so many strict changes lead so far -/
theorem iter_far {x : Int} : ∀ d : Nat, (∀ j, j < d → iter f (j + 1) x ≠ iter f j x) → x + d ≤ iter f d x ∨ iter f d x ≤ x - d
  | 0, _ => .inl (by show x + ((0 : Nat) : Int) ≤ x; omega)
  | d + 1, hc => by
    have ih := iter_far d fun j h => hc j (by omega)
    have hd := hc d (by omega)
    by_cases q : x ≤ f x
    · have u := iter_up hm q d
      rcases ih with ih | ih
      · exact .inl (by omega)
      · have u2 : x ≤ iter f d x := by
          clear ih hd u
          induction d with
          | zero => exact Int.le_refl _
          | succ d id => exact Int.le_trans (id (fun j h => hc j (by omega))) (iter_up hm q d)
        exact .inl (by omega)
    · have u := iter_dn hm (by omega : f x ≤ x) d
      rcases ih with ih | ih
      · have u2 : iter f d x ≤ x := by
          clear ih hd u
          induction d with
          | zero => exact Int.le_refl _
          | succ d id => exact Int.le_trans (iter_dn hm (by omega : f x ≤ x) d) (id (fun j h => hc j (by omega)))
        exact .inr (by omega)
      · exact .inr (by omega)
end
/-- there all the time -/
def stays (w : Wn) (cs : List Nat) (x n : Int) : Prop := ∀ t, 0 < (stR w cs (x, n) t).1
theorem stt_zero {w : Wn} (h : w.Ok) : ∀ (cs : List Nat) {n : Int}, 0 ≤ n → (stt w (0, n) cs).1 = 0
  | [], _, _ => rfl
  | c :: cs, n, hn => by
    have b := (stt_ok h [c] (s := (0, n)) ⟨Int.le_refl _, by have := h.c1; show (0 : Int) ≤ w.cap; omega⟩ hn).2.1
    have z := stp_zero h (s := (0, n)) (c := c) rfl hn
    show (stt w (stp w (0, n) c) cs).1 = 0
    rw [show stp w (0, n) c = ((stp w (0, n) c).1, (stp w (0, n) c).2) from rfl, z]
    exact stt_zero h cs b
theorem stR_gone {w : Wn} (h : w.Ok) {cs : List Nat} {x n : Int} (hx : 0 ≤ x ∧ x ≤ w.cap) (hn : 0 ≤ n) {t : Nat} (h0 : (stR w cs (x, n) t).1 = 0) : ∀ k, (stR w cs (x, n) (t + k)).1 = 0
  | 0 => h0
  | k + 1 => by
    have ih := stR_gone h hx hn h0 k
    have b := stR_ok h (cs := cs) hx hn (t + k)
    show (stt w (stR w cs (x, n) (t + k)) cs).1 = 0
    generalize stR w cs (x, n) (t + k) = s at ih b
    obtain ⟨a, m⟩ := s
    have ih : a = 0 := ih
    subst ih
    exact stt_zero h cs b.2
theorem stR_mono {w : Wn} (h : w.Ok) {cs : List Nat} {x y n : Int} (h0 : 0 ≤ x) (h1 : x ≤ y) (h2 : y ≤ w.cap) (hn : 0 ≤ n) : ∀ t, (stR w cs (x, n) t).1 ≤ (stR w cs (y, n) t).1
  | 0 => h1
  | t + 1 => by
    have ih := stR_mono h (cs := cs) h0 h1 h2 hn t
    have b1 := stR_ok h (cs := cs) (x := x) ⟨h0, by omega⟩ hn t
    have b2 := stR_ok h (cs := cs) (x := y) ⟨by omega, h2⟩ hn t
    have e1 := stR_snd (w := w) (cs := cs) (x := x) (n := n) t
    have e2 := stR_snd (w := w) (cs := cs) (x := y) (n := n) t
    show (stt w (stR w cs (x, n) t) cs).1 ≤ (stt w (stR w cs (y, n) t) cs).1
    generalize stR w cs (x, n) t = s at *
    generalize stR w cs (y, n) t = u at *
    obtain ⟨a, p⟩ := s
    obtain ⟨b, q⟩ := u
    have e1 : p = _ := e1
    have e2 : q = _ := e2
    rw [e1] at b1 ⊢
    rw [e2]
    exact stt_mono h cs b1.1.1 ih b2.1.2 b1.2
theorem stays_mono {w : Wn} (h : w.Ok) {cs : List Nat} {x y n : Int} (h0 : 0 ≤ x) (h1 : x ≤ y) (h2 : y ≤ w.cap) (hn : 0 ≤ n) (s : stays w cs x n) : stays w cs y n := fun t => Int.lt_of_lt_of_le (s t) (stR_mono h h0 h1 h2 hn t)
/-- the last strength tells whether a thing stays -/
theorem stays_iff {w : Wn} (h : w.Ok) {cs : List Nat} {x n : Int} (hx : 0 ≤ x ∧ x ≤ w.cap) (hn : 0 ≤ n) {lead K : Nat} (hl : lead < K) (e : phase w (nxs w cs n K) = phase w (nxs w cs n lead)) {d T : Nat} (hd : iter (thrL ((List.range' lead (K - lead)).map (rdE w cs n))) d (stR w cs (x, n) lead).1 = iter (thrL ((List.range' lead (K - lead)).map (rdE w cs n))) T (stR w cs (x, n) lead).1) (hf : thrL ((List.range' lead (K - lead)).map (rdE w cs n)) (iter (thrL ((List.range' lead (K - lead)).map (rdE w cs n))) d (stR w cs (x, n) lead).1) = iter (thrL ((List.range' lead (K - lead)).map (rdE w cs n))) d (stR w cs (x, n) lead).1) : 0 < iter (thrL ((List.range' lead (K - lead)).map (rdE w cs n))) T (stR w cs (x, n) lead).1 ↔ stays w cs x n := by
  constructor
  · intro hp t
    rw [← hd] at hp
    have e1 := cyc_iter h hx hn hl e (d + t)
    rw [iter_add, iter_fix hf] at e1
    have b := stR_ok h (cs := cs) hx hn t
    refine Decidable.byContradiction fun z => ?_
    have z0 : (stR w cs (x, n) t).1 = 0 := by omega
    have le : t ≤ lead + (d + t) * (K - lead) := by
      have : (d + t) * 1 ≤ (d + t) * (K - lead) := Nat.mul_le_mul_left _ (by omega)
      omega
    have g := stR_gone h hx hn z0 (lead + (d + t) * (K - lead) - t)
    rw [show t + (lead + (d + t) * (K - lead) - t) = lead + (d + t) * (K - lead) by omega, ← e1] at g
    omega
  · intro s
    rw [cyc_iter h hx hn hl e T]
    exact s _
end Vf
namespace Vf
open PySem PySem.Spec PyProof.Rows L2 RZ
/-! ## enumerate of a text -/
def Ites (x : Str) : It where
  go := fun i _ => i < x.cps.size
  yld := fun i H v H' => ∃ T c, v = V.ref T ∧ H T = none ∧ x.cps[i]? = some c ∧ H' = upd H T (.tup [.int (i : Nat), .str ⟨#[c]⟩])
  stop := fun i _ => x.cps.size ≤ i
theorem turn_enumS {P : Program} {w : World} {K : W.Frag} {elts : List Expr} {kk : Nat} {tpos : Pos} (x : Str) (t : Tok) (ty : String) (hty : ty = "str_ascii_iterator" ∨ ty = "str_iterator") (e it : Addr) : Turn P w K (Expr.Tuple elts kk tpos) (Ites x) [e, it] e fun i h => (∃ old, IsEnum h e it ((i : Nat) : Int) old) ∧ h.IsStrIter it ty x t i ∧ e ≠ it ∧ i ≤ x.cps.size := by
  refine ⟨List.Mem.head _, fun i h hh b hb => ?_, fun i h h' hh hk => ?_, ?_, ?_, ?_⟩
  · obtain ⟨⟨old, h1⟩, ⟨o, h2, h3, h4⟩, h5, _⟩ := hh
    rcases List.mem_cons.mp hb with hb | hb
    · subst hb
      exact ⟨_, h1, fun v z => by cases z⟩
    · rw [List.mem_singleton.mp hb]
      exact ⟨o, h2, fun v z => by rw [h4] at z; cases z⟩
  · obtain ⟨⟨old, h1⟩, ⟨o, h2, h3, h4⟩, h5, h6⟩ := hh
    exact ⟨⟨old, hk e (List.Mem.head _) _ h1⟩, ⟨o, hk it (List.Mem.tail _ (List.Mem.head _)) _ h2, h3, h4⟩, h5, h6⟩
  · intro X hp hw hK hc i pins s σ H E I hf hh hg
    subst hp; subst hw
    obtain ⟨⟨old, h1⟩, h2, h5, h6⟩ := hh
    have dr : Draws X.prog X.w X.A.in1 it [it] x.cps.size (fun i v => ∃ c u, x.cps[i]? = some c ∧ v = Value.str { cps := #[c] } u) fun i h => h.IsStrIter it ty x t i := by
      rcases hty with z | z
      · subst z
        exact Draws.strAscii (A := X.A.in1) (show X.A.in1.handled = none from I.ok.hd hc) it x t
      · subst z
        exact Draws.strWide (A := X.A.in1) (show X.A.in1.handled = none from I.ok.hd hc) it x t
    refine wpAny_pyNext_enum_itemD dr h1 h2 hg h5 (fun z => h5 (List.mem_singleton.mp z)) fun v h' tk hv ho hst ht hsz hfr => ?_
    obtain ⟨c, u, hcx, rfl⟩ := hv
    have nT : s.heap.objs.size ≠ e := fun z => by
      have ho : h'.get? e = _ := ho
      rw [z, ho] at ht
      exact absurd (Value.type.inj (congrArg Obj.cls (Option.some.inj ht))) (by decide)
    have nU : s.heap.objs.size ≠ it := fun z => by
      obtain ⟨o, g1, g2, g3⟩ := hst
      rw [z, g1] at ht
      have q := congrArg Obj.cls (Option.some.inj ht)
      rw [g2] at q
      have q := Value.type.inj q
      rcases hty with r | r <;> (rw [r] at q; exact absurd q (by decide))
    refine ⟨_, rfl, ?_⟩
    refine wpAny_letOwnedTupleGo_enum ho fun h'' hE hS => ?_
    refine ⟨.ref s.heap.objs.size, upd H s.heap.objs.size (.tup [.int (i : Nat), .str ⟨#[c]⟩]), ?_, rfl, ⟨_, c, rfl, ?_, hcx, rfl⟩, ?_, ?_⟩
    · refine I.turnedNew (ch := [e, it]) (fun b o nb hb => ?_) hf (Nat.le_refl _) ?_
      · have n1 : b ≠ e := fun z => nb (by rw [z]; exact List.Mem.head _)
        have n2 : b ≠ it := fun z => nb (by rw [z]; exact List.Mem.tail _ (List.Mem.head _))
        rw [hS.2 b n1]
        exact hfr b o n1 n2 hb
      · have g : h''.get? s.heap.objs.size = some { cls := Value.type "tuple", data := Data.seq #[Value.int (↑i) tk, Value.str { cps := #[c] } u] } := by
          rw [hS.2 _ nT]
          exact ht
        simp only [ObjOk]
        exact ⟨by show 2 ≤ sizeLine; decide, [Value.int (↑i) tk, Value.str { cps := #[c] } u], .cons ⟨_, rfl⟩ (.cons ⟨_, rfl⟩ .nil), by
          exact ⟨_, g, rfl, _, rfl⟩⟩
    · exact I.fresh
    · obtain ⟨o, g1, g2, g3⟩ := hst
      refine ⟨⟨Value.str { cps := #[c] } u, ?_⟩, ⟨o, ?_, g2, g3⟩, h5, by show i + 1 ≤ x.cps.size; exact hg⟩
      · have := hE
        rw [show (((i + 1 : Nat) : Nat) : Int) = (i : Int) + 1 by omega]
        exact this
      · rw [hS.2 it (fun z => h5 z.symm)]
        exact g1
    · intro b hb
      have ne : b ≠ s.heap.objs.size := fun z => by
        rcases List.mem_cons.mp hb with q | q
        · exact nT (by rw [← z, q])
        · exact nU (by rw [← z, List.mem_singleton.mp q])
      rw [upd_ne ne]
      exact (hf b hb).1
  · intro X hp hw hK hc i pins s σ H E I hf hh hg
    subst hp; subst hw
    obtain ⟨⟨old, h1⟩, h2, h5, h6⟩ := hh
    have hg : x.cps.size ≤ i := hg
    have hi : i = x.cps.size := by omega
    have dr : Draws X.prog X.w X.A.in1 it [it] x.cps.size (fun i v => ∃ c u, x.cps[i]? = some c ∧ v = Value.str { cps := #[c] } u) fun i h => h.IsStrIter it ty x t i := by
      rcases hty with z | z
      · subst z
        exact Draws.strAscii (A := X.A.in1) (show X.A.in1.handled = none from I.ok.hd hc) it x t
      · subst z
        exact Draws.strWide (A := X.A.in1) (show X.A.in1.handled = none from I.ok.hd hc) it x t
    rw [hi] at h2
    refine wpAny_pyNext_enum_endD dr h1 h2 fun h' hx => ⟨rfl, ?_⟩
    refine I.turnedL (ch := [e, it]) (fun b o nb hb => hx b o (fun z => nb (by rw [z]; exact List.Mem.tail _ (List.Mem.head _))) hb) hf
  · intro A i s Q E hh q
    obtain ⟨⟨old, h1⟩, _⟩ := hh
    exact wpAny_pyIter_enum h1 q


def iEnumS (ta : TA) : TI := fun σ H R => ta σ H fun vs H1 => ∃ z : Str, vs = [V.str z] ∧ R (Ites z) H1
theorem pi_enumS {X : Cx} {e : Expr} {ta : TA} {p pos tpos : Pos} {elts : List Expr} {kk : Nat} (hg : Gl X (Str.ofString "enumerate")) (hm : X.mg (Str.ofString "enumerate") = none) (ha : PA X [e] ta) (hs : starEach [e] X.env = [(false, eval e X.env)] := by rfl) : PI X (Expr.Tuple elts kk tpos) ((Expr.Name (Str.ofString "enumerate") p).Call [e] [] pos) (iEnumS ta) := by
  refine ⟨fun pins s σ H R I h => ?_⟩
  have q := (pe_bltn (X := X) (x := Str.ofString "enumerate") (v := .ty "enumerate") (pos := p) hg hm (by decide +kernel) rfl).run pins s σ H (fun v H1 => v = .ty "enumerate" ∧ H1 = H) I ⟨rfl, rfl⟩
  refine wpAny_Call_NameR (thn q fun f s1 ⟨x, H1, I1, e1, ex, eH⟩ => ?_)
  subst ex; subst eH
  have e1 : f = Value.type "enumerate" := e1
  subst e1
  refine PyProof.Rows.callWith_type1 (thn (ha.run pos pins s1 σ H1 _ I1 h) fun us s2 ⟨vs, H2, I2, hv, z, ez, hR⟩ => ?_) hs rfl
  subst ez
  obtain ⟨t, rfl⟩ : ∃ t, us = [Value.str z t] := by
    cases hv with
    | cons h r =>
      cases r
      obtain ⟨t, ht⟩ := h
      exact ⟨t, by rw [ht]⟩
  refine call_enumerate_str fun h' h1 h2 h3 h4 => ?_
  have I3 : L2.Inv X pins σ H2 { heap := h', gens := s2.gens, drawn := s2.drawn, toks := s2.toks, os := s2.os } := I2.turnedL (ch := []) (fun b o _ hb => h4 b o hb) (fun b hb => by simp at hb)
  have f0 : H2 s2.heap.objs.size = none := I2.fresh
  have f1 : H2 (s2.heap.objs.size + 1) = none := by
    have I4 : L2.Inv X pins σ H2 { heap := s2.heap.push { cls := Value.type "list", data := Data.seq #[] }, gens := s2.gens, drawn := s2.drawn, toks := s2.toks, os := s2.os } := I2.turnedL (ch := []) (fun b o _ hb => Heap.get?_push_of_some _ hb) (fun b hb => by simp at hb)
    have := I4.fresh
    have sz : (s2.heap.push { cls := Value.type "list", data := Data.seq #[] }).objs.size = s2.heap.objs.size + 1 := by simp [Heap.push]
    rw [← sz]
    exact this
  refine wpAny_pyIter_enum h1 ⟨_, [s2.heap.objs.size + 1, s2.heap.objs.size], _, Ites z, H2, rfl, I3, turn_enumS z t (strIterType z) ?_ _ _, ⟨⟨_, h1⟩, h2, Nat.succ_ne_self _, Nat.zero_le _⟩, fun b hb => ?_, hR⟩
  · unfold strIterType
    split
    · exact .inl rfl
    · exact .inr rfl
  · rcases List.mem_cons.mp hb with r | r
    · rw [r]; exact I2.fpOk (Nat.le_succ _) f1
    · rw [List.mem_singleton.mp r]; exact I2.fpOk (Nat.le_refl _) f0

def FEnumS (R : It → Hp → Prop) : List V → Hp → Prop := fun vs H1 => ∃ z : Str, vs = [V.str z] ∧ R (Ites z) H1
theorem i_enumS {σ : L2.St} {H : Hp} {ta : TA} {R : It → Hp → Prop} (h : ta σ H (FEnumS R)) : iEnumS ta σ H R := h
theorem walk_enumS {z : Str} : Walk (Ites z) z.cps.size (fun _ => True) (fun i H v H' => ∃ T c, v = V.ref T ∧ H T = none ∧ z.cps[i]? = some c ∧ H' = upd H T (.tup [.int (i : Nat), .str ⟨#[c]⟩])) :=
  ⟨fun i H hi _ => hi, fun H _ => Nat.le_refl _, fun i H v H' hi _ y => y⟩
/-- for i, sign in enumerate(text) -/
theorem for_ES {g : TG} {tb : TS} {E : Ends} {σ : L2.St} {H : Hp} {z : Str} (Pv : Nat → L2.St → Hp → Prop) (h0 : Pv 0 σ H)
    (hs : ∀ i c T σ H, z.cps[i]? = some c → i < z.cps.size → Pv i σ H → H T = none → g (.ref T) σ (upd H T (.tup [.int (i : Nat), .str ⟨#[c]⟩])) fun σ2 H2 => tb { E with nx := Pv (i + 1), ct := Pv (i + 1), bk := E.nx } σ2 H2) (hd : ∀ σ H, Pv z.cps.size σ H → E.nx σ H) : FEnumS (FFor g tb E σ) [.str z] H := by
  refine ⟨z, rfl, for_it walk_enumS Pv h0 (fun i σ H _ p => trivial) (fun i x σ H H' hi p y => ?_) hd⟩
  obtain ⟨T, c, q1, q2, q3, q4⟩ := y
  subst q1
  subst q4
  exact hs i c T σ H q3 hi p q2
end Vf
namespace Vf
open PySem PySem.Spec PyProof.Rows L2 RZ
/-- an expression with a word behind it: what follows is walked once -/
def tMidE (t : TE) : TE := fun σ H Q => ∃ Mid : VK, t σ H Mid ∧ ∀ v H', Mid v H' → Q v H'
theorem pe_midE {X : Cx} {e : Expr} {t : TE} (h : PE X e t) : PE X e (tMidE t) := by
  refine ⟨fun pins s σ H Q I ⟨Mid, h1, h2⟩ => ?_⟩
  exact thn (h.run pins s σ H Mid I h1) fun u s' ⟨v, H', I', r, q⟩ => ⟨v, H', I', r, h2 v H' q⟩
theorem g_midE {t : TE} {σ : L2.St} {H : Hp} {Q : VK} (Mid : VK) (h1 : t σ H Mid) (h2 : ∀ v H', Mid v H' → Q v H') : tMidE t σ H Q := ⟨Mid, h1, h2⟩
/-- list + list -/
theorem v_cat {K : PySem.W.Frag} {S M : AS} {H0 H : Hp} {G : List (V × D)} {L : List (Addr × List D)} {B : List Addr} {Q : VK} {a b : Addr} {ds es : List D} (st : Vf.St K S M H0 H G L B) (h : Dz K S H (.lst ds) (.ref a)) (h' : Dz K S H (.lst es) (.ref b)) (hl : ds.length + es.length ≤ sizeLine) (q : ∀ p H', Vf.St K S M H0 H' ((.ref p, .lst (ds ++ es)) :: G) L B → Q (.ref p) H') : rAddG K (.ref a) (.ref b) H Q := by
  obtain ⟨xs, h1, h2⟩ := z_lst h
  obtain ⟨ys, h3, h4⟩ := z_lst h'
  exact .inr (.inr (.inl ⟨a, b, xs, ys, rfl, rfl, h1.2, h3.2, by rw [h2.len, h4.len]; exact hl, fun p n => q p _ (st.lst n (h2.app h4))⟩))
/-! ## what fate tells: the arithmetic alone -/
section
variable {w : Wn} {cs : List Nat} {x n : Int}
theorem stR_pair (k : Nat) : stR w cs (x, n) k = ((stR w cs (x, n) k).1, nxs w cs n k) := by
  rw [← stR_snd (x := x) k]
theorem stR_same (h : w.Ok) (hx : 0 ≤ x ∧ x ≤ w.cap) (hn : 0 ≤ n) {a b : Nat} (e1 : (stR w cs (x, n) a).1 = (stR w cs (x, n) b).1) (e2 : phase w (nxs w cs n a) = phase w (nxs w cs n b)) : ∀ i, (stR w cs (x, n) (a + i)).1 = (stR w cs (x, n) (b + i)).1 ∧ phase w (nxs w cs n (a + i)) = phase w (nxs w cs n (b + i))
  | 0 => ⟨e1, e2⟩
  | i + 1 => by
    obtain ⟨h1, h2⟩ := stR_same h hx hn e1 e2 i
    have p := stt_ph h cs (x := (stR w cs (x, n) (a + i)).1) (nxs_ok h (cs := cs) hn (a + i)) (nxs_ok h (cs := cs) hn (b + i)) h2
    constructor
    · show (stt w (stR w cs (x, n) (a + i)) cs).1 = (stt w (stR w cs (x, n) (b + i)) cs).1
      rw [stR_pair (a + i), stR_pair (b + i), ← h1]
      exact p.1
    · exact nx_ph h (nxs_ok h hn _) (nxs_ok h hn _) h2
theorem ph_cyc (h : w.Ok) (hn : 0 ≤ n) {lead kk : Nat} (hl : lead < kk) (e : phase w (nxs w cs n kk) = phase w (nxs w cs n lead)) {t : Nat} (ht : lead ≤ t) : phase w (nxs w cs n (t + (kk - lead))) = phase w (nxs w cs n t) := by
  have e1 := nxs_mod h hn hl e (t - lead + (kk - lead))
  have e2 := nxs_mod h hn hl e (t - lead)
  rw [Nat.add_mod_right] at e1
  rw [show lead + (t - lead + (kk - lead)) = t + (kk - lead) by omega] at e1
  rw [show lead + (t - lead) = t by omega] at e2
  rw [e1, e2]
end
/-- what fate tells of a thing that stays -/
structure FateS (w : Wn) (cs : List Nat) (x n : Int) (r : Nat) (ds : List Int) : Prop where
  st : stays w cs x n
  cyc : ∃ lead kk : Nat, lead < kk ∧ kk ≤ 48 ∧ phase w (nxs w cs n kk) = phase w (nxs w cs n lead) ∧ (∀ i j, i < j → j < kk → phase w (nxs w cs n i) ≠ phase w (nxs w cs n j)) ∧
    ds = (List.range (kk - lead)).map (fun i => (stR w cs (x, n) (r + i)).1) ∧ lead ≤ r ∧ (stR w cs (x, n) (r + (kk - lead))).1 = (stR w cs (x, n) r).1 ∧
    (∀ m, r = m + 1 → ¬ ((stR w cs (x, n) (m + (kk - lead))).1 = (stR w cs (x, n) m).1 ∧ phase w (nxs w cs n (m + (kk - lead))) = phase w (nxs w cs n m)))
  far : r ≤ 10 ^ 11
theorem range_map_get {α : Type} {f : Nat → α} {n i : Nat} (h : i < n) : ((List.range n).map f)[i]? = some (f i) := by
  rw [List.getElem?_map, List.getElem?_range h]
  rfl
section
variable {w : Wn} {cs : List Nat} {x n : Int}
/-- settled at once -/
theorem fate_0 (h : w.Ok) (hx : 0 ≤ x ∧ x ≤ w.cap) (hn : 0 ≤ n) {lead kk : Nat} (hl : lead < kk) (hk : kk ≤ 48) (e : phase w (nxs w cs n kk) = phase w (nxs w cs n lead)) (hd : ∀ i j, i < j → j < kk → phase w (nxs w cs n i) ≠ phase w (nxs w cs n j)) (hst : stays w cs x n)
    (hf : (stR w cs (x, n) (lead + (kk - lead))).1 = (stR w cs (x, n) lead).1) : FateS w cs x n lead ((List.range (kk - lead)).map (fun i => (stR w cs (x, n) (lead + i)).1)) := by
  refine ⟨hst, ⟨lead, kk, hl, hk, e, hd, rfl, Nat.le_refl _, hf, fun m hm z => ?_⟩, Nat.le_trans (by omega : lead ≤ 48) (by decide)⟩
  subst hm
  exact hd m (m + (kk - (m + 1))) (by omega) (by omega) z.2.symm
/-- settled behind so many cycles -/
theorem fate_1 (h : w.Ok) (hx : 0 ≤ x ∧ x ≤ w.cap) (hn : 0 ≤ n) {lead kk : Nat} (hl : lead < kk) (hk : kk ≤ 48) (e : phase w (nxs w cs n kk) = phase w (nxs w cs n lead)) (hd : ∀ i j, i < j → j < kk → phase w (nxs w cs n i) ≠ phase w (nxs w cs n j)) (hst : stays w cs x n)
    {t : Nat} (ht : lead ≤ t) (ht2 : t + 48 ≤ 10 ^ 11) (hne : (stR w cs (x, n) (t + (kk - lead))).1 ≠ (stR w cs (x, n) t).1) (hf : (stR w cs (x, n) (t + (kk - lead) + (kk - lead))).1 = (stR w cs (x, n) (t + (kk - lead))).1)
    {p : Nat} (hp : p ≤ kk - lead) (hpe : p < kk - lead → (stR w cs (x, n) (t + p)).1 = (stR w cs (x, n) (t + (kk - lead) + p)).1) (hpm : ∀ j, j < p → (stR w cs (x, n) (t + j)).1 ≠ (stR w cs (x, n) (t + (kk - lead) + j)).1) :
    FateS w cs x n (t + p) (((List.range (kk - lead)).map (fun i => (stR w cs (x, n) (t + (kk - lead) + i)).1)).drop p ++ ((List.range (kk - lead)).map (fun i => (stR w cs (x, n) (t + (kk - lead) + i)).1)).take p) := by
  have p0 : 0 < p := Nat.pos_of_ne_zero fun z => by
    subst z
    exact hne (hpe (by omega)).symm
  have again : (stR w cs (x, n) (t + p + (kk - lead))).1 = (stR w cs (x, n) (t + p)).1 := by
    by_cases q : p < kk - lead
    · rw [hpe q]; congr 2; omega
    · rw [show p = kk - lead by omega]; exact hf
  refine ⟨hst, ⟨lead, kk, hl, hk, e, hd, ?_, by omega, again, fun m hm z => ?_⟩, by omega⟩
  · refine List.ext_getElem? fun i => ?_
    by_cases qi : i < kk - lead
    · rw [range_map_get qi]
      by_cases q : i < kk - lead - p
      · rw [List.getElem?_append_left (by rw [List.length_drop, List.length_map, List.length_range]; exact q), List.getElem?_drop, range_map_get (by omega)]
        congr 1
        have s := (stR_same h hx hn (cs := cs) again (ph_cyc h hn hl e (by omega)) i).1
        rw [← s]
        congr 2
        omega
      · rw [List.getElem?_append_right (by rw [List.length_drop, List.length_map, List.length_range]; omega), List.length_drop, List.length_map, List.length_range, List.getElem?_take_of_lt (by omega), range_map_get (by omega)]
        congr 3
        omega
    · rw [List.getElem?_eq_none (by rw [List.length_append, List.length_drop, List.length_take, List.length_map, List.length_range]; omega), List.getElem?_eq_none (by rw [List.length_map, List.length_range]; omega)]
  · have := hpm (p - 1) (by omega)
    rw [show m = t + (p - 1) by omega] at z
    refine this ?_
    rw [← z.1]
    congr 2
    omega
end
end Vf
namespace Vf
open PySem PySem.Spec PyProof.Rows L2 RZ
/-! ## a text, its signs the other way round -/
def revS (z : Str) : Str := ⟨z.cps.toList.reverse.toArray⟩
def FRevS (Q : VK) : VK := fun x H => ∃ z : Str, x = .str z ∧ z.length ≤ sizeLine ∧ Q (.str (revS z)) H
def tRevS (te : TE) : TE := fun σ H Q => te σ H (FRevS Q)
theorem rev_pick (z : Str) : ((Builtin.Str.strSliceIndices none none (-1) z.length).filterMap (z.cps[·]?)).toArray = z.cps.toList.reverse.toArray := by
  rw [picked_rev, PySem.W.krv_range, List.filterMap_reverse]
  show ((List.range z.cps.size).filterMap (z.cps[·]?)).reverse.toArray = _
  rw [PySem.W.krv_all]
theorem pe_revS {X : Cx} {e : Expr} {te : TE} {k : Nat} {p1 p2 p3 pos : Pos} (h0 : PE X e te) : PE X (.Subscript e (.Slice none none (some (.UnaryOp .USub (.Constant (.int 1) k p1) p2)) p3) pos) (tRevS te) := by
  refine ⟨fun pins s σ H Q I h => ?_⟩
  have minus : PO X (some (.UnaryOp .USub (.Constant (.int 1) k p1) p2)) (tPart (tUn (rU fun i => .int (-i)) (tC (.int 1)))) := po_some (pe_un un_neg pe_int)
  refine Subscript_ (thn (h0.run pins s σ H _ I h) fun v s1 hh => ?_)
  obtain ⟨x, H1, I1, rx, z, ex, hz, q⟩ := hh
  subst ex
  obtain ⟨t, rfl⟩ := rx
  refine wpAny_Slice (thn (po_none.run pins s1 σ H1 (fun o H2 => o = none ∧ H2 = H1) I1 ⟨rfl, rfl⟩) fun vl s2 hl => ?_)
  obtain ⟨ol, H2, I2, pl, rfl, rfl⟩ := hl
  refine thn (po_none.run pins s2 σ H2 (fun o H3 => o = none ∧ H3 = H2) I2 ⟨rfl, rfl⟩) fun vu s3 hu => ?_
  obtain ⟨ou, H3, I3, pu, rfl, rfl⟩ := hu
  refine thn (minus.run pins s3 σ H3 (fun o H4 => o = some (-1) ∧ H4 = H3) I3 ⟨1, rfl, -1, rfl, rfl, rfl⟩) fun vs s4 hs => ?_
  obtain ⟨os, H4, I4, ps, rfl, rfl⟩ := hs
  obtain ⟨l, rfl, hl⟩ := IsPart.raw pl
  obtain ⟨u, rfl, hu⟩ := IsPart.raw pu
  obtain ⟨st, rfl, hst⟩ := IsPart.raw ps
  have J : Inv X pins σ H4 { s4 with heap := s4.heap.push { cls := .type "slice", data := .fields #[partValue l, partValue u, partValue st] } } := I4.kept (t' := s4.toks) fun b ob g => Heap.get?_push_of_some _ g
  show wpAny (model X.prog X.w) X.A (subscriptTail e (.Slice none none (some (.UnaryOp .USub (.Constant (.int 1) k p1) p2)) p3) (.str z t) (.ref s4.heap.objs.size)) (EP X pins σ Q) X.xe _
  refine tail_any (ops := [.str z t, .ref s4.heap.objs.size]) (typeIs_str _ _ _) F.slot_str_getitem.lookup ?_ (by with_unfolding_all rfl)
  refine wpAny_getItem_str_slice (l := l) (u := u) (st := st) ⟨_, Heap.get?_push_size _ rfl, rfl, rfl⟩ (by rw [hst]; rfl) ?_
  have em : sliceMade z t l u st = Made.str (revS z) := by
    unfold sliceMade slicePicked
    rw [hl, hu, hst]
    show (if ((-1 : Int) == 1 && _) = true then _ else Made.str ⟨((Builtin.Str.strSliceIndices none none (-1) z.length).filterMap (z.cps[·]?)).toArray⟩) = _
    rw [rev_pick]
    rfl
  rw [em]
  refine ⟨?_, .str _, H4, J.tok _, ⟨_, rfl⟩, q⟩
  show z.cps.toList.reverse.toArray.size ≤ sizeLine
  rw [List.size_toArray, List.length_reverse, Array.length_toList]
  exact hz
section
variable {σ : L2.St} {H : Hp} {Q : VK} {te : TE}
theorem g_revS (h : te σ H (FRevS Q)) : tRevS te σ H Q := h
theorem v_revS {z : Str} (hz : z.length ≤ sizeLine) (q : Q (.str (revS z)) H) : FRevS Q (.str z) H := ⟨z, rfl, hz, q⟩
end
theorem g_iteNT {A B : Prop} (h : B) : if (!true) = true then A else B := h
theorem g_iteNF {A B : Prop} (h : A) : if (!false) = true then A else B := h
theorem revS_size (z : Str) : (revS z).cps.size = z.cps.size := by
  show z.cps.toList.reverse.toArray.size = _
  rw [List.size_toArray, List.length_reverse, Array.length_toList]
theorem revS_list (z : Str) : (revS z).cps.toList = z.cps.toList.reverse := rfl
end Vf
namespace Vf
open PySem PySem.Spec PyProof.Rows L2 RZ
/-! ## how long the strengths' circle is; what fate tells is one thing alone -/
structure FateG (w : Wn) (cs : List Nat) (x n : Int) (r i : Nat) : Prop where
  hi : i < cs.length
  z : (stt w (stR w cs (x, n) r) (cs.take (i + 1))).1 = 0
  a : ∀ j, j ≤ i → (stt w (stR w cs (x, n) r) (cs.take j)).1 ≠ 0
  far : r ≤ 10 ^ 11
theorem FateG.gone {w : Wn} (h : w.Ok) {cs : List Nat} {x n : Int} (hx : 0 ≤ x ∧ x ≤ w.cap) (hn : 0 ≤ n) {r i : Nat} (g : FateG w cs x n r i) : (stR w cs (x, n) (r + 1)).1 = 0 := by
  have b := stR_ok h (cs := cs) hx hn r
  have b2 := stt_ok h (cs.take (i + 1)) b.1 b.2
  have e : stt w (stR w cs (x, n) r) cs = stt w (stt w (stR w cs (x, n) r) (cs.take (i + 1))) (cs.drop (i + 1)) := by
    rw [← stt_app, List.take_append_drop]
  have z := g.z
  show (stt w (stR w cs (x, n) r) cs).1 = 0
  rw [e]
  generalize stt w (stR w cs (x, n) r) (cs.take (i + 1)) = s at *
  obtain ⟨s1, s2⟩ := s
  have z : s1 = 0 := z
  subst z
  exact stt_zero h _ b2.2.1
theorem FateG.not {w : Wn} (h : w.Ok) {cs : List Nat} {x n : Int} (hx : 0 ≤ x ∧ x ≤ w.cap) (hn : 0 ≤ n) {r i : Nat} (g : FateG w cs x n r i) : ¬ stays w cs x n := fun s => by
  have a := s (r + 1)
  rw [g.gone h hx hn] at a
  exact absurd a (by decide)
theorem FateG.uniq {w : Wn} (h : w.Ok) {cs : List Nat} {x n : Int} (hx : 0 ≤ x ∧ x ≤ w.cap) (hn : 0 ≤ n) {r i r' i' : Nat} (g : FateG w cs x n r i) (g' : FateG w cs x n r' i') : r = r' ∧ i = i' := by
  have key : ∀ {r i r' i' : Nat}, FateG w cs x n r i → FateG w cs x n r' i' → ¬ r < r' := fun {r i r' i'} g g' q => by
    have z := stR_gone h hx hn (g.gone h hx hn) (r' - (r + 1))
    rw [show r + 1 + (r' - (r + 1)) = r' by omega] at z
    exact g'.a 0 (Nat.zero_le _) z
  have e : r = r' := by
    have a := key g g'
    have b := key g' g
    omega
  subst e
  refine ⟨rfl, ?_⟩
  have a : ¬ i < i' := fun q => g'.a (i + 1) q g.z
  have b : ¬ i' < i := fun q => g.a (i' + 1) q g'.z
  omega
theorem FateS.uniq {w : Wn} (h : w.Ok) {cs : List Nat} {x n : Int} (hx : 0 ≤ x ∧ x ≤ w.cap) (hn : 0 ≤ n) {r r' : Nat} {ds ds' : List Int} (g : FateS w cs x n r ds) (g' : FateS w cs x n r' ds') : r = r' ∧ ds = ds' := by
  obtain ⟨lead, kk, h1, h2, h3, h4, h5, h6, h7, h8⟩ := g.cyc
  obtain ⟨lead', kk', p1, p2, p3, p4, p5, p6, p7, p8⟩ := g'.cyc
  have ek : kk = kk' := by
    have a : ¬ kk < kk' := fun q => p4 lead kk h1 q h3.symm
    have b : ¬ kk' < kk := fun q => h4 lead' kk' p1 q p3.symm
    omega
  subst ek
  have el : lead = lead' := by
    have e : phase w (nxs w cs n lead) = phase w (nxs w cs n lead') := h3.symm.trans p3
    have a : ¬ lead < lead' := fun q => h4 lead lead' q p1 e
    have b : ¬ lead' < lead := fun q => h4 lead' lead q h1 e.symm
    omega
  subst el
  have key : ∀ {r r' : Nat}, lead ≤ r → (stR w cs (x, n) (r + (kk - lead))).1 = (stR w cs (x, n) r).1 → (∀ m, r' = m + 1 → ¬ ((stR w cs (x, n) (m + (kk - lead))).1 = (stR w cs (x, n) m).1 ∧ phase w (nxs w cs n (m + (kk - lead))) = phase w (nxs w cs n m))) → ¬ r < r' := fun {r r'} a b c q => by
    have s := stR_same h hx hn (cs := cs) b (ph_cyc h hn h1 h3 a) (r' - 1 - r)
    rw [show r + (kk - lead) + (r' - 1 - r) = r' - 1 + (kk - lead) by omega, show r + (r' - 1 - r) = r' - 1 by omega] at s
    exact c (r' - 1) (by omega) s
  have er : r = r' := by
    have a := key h6 h7 p8
    have b := key p6 p7 h8
    omega
  subst er
  exact ⟨rfl, by rw [h5, p5]⟩
theorem stR_plus {w : Wn} {cs : List Nat} {s : Int × Int} (j : Nat) : ∀ k, stR w cs s (j + k) = stR w cs (stR w cs s j) k
  | 0 => rfl
  | k + 1 => congrArg (fun s => stt w s cs) (stR_plus j k)
/-- what fate tells -/
def FateR (w : Wn) (cs : List Nat) (x n : Int) (d : D) : Prop := (∃ r i : Nat, d = .tup [.str (Str.ofString "goes"), .int (r : Nat), .int (i : Nat)] ∧ FateG w cs x n r i) ∨ (∃ (r : Nat) (ds : List Int), d = .tup [.str (Str.ofString "stays"), .int (r : Nat), .lst (ds.map D.int)] ∧ FateS w cs x n r ds)
theorem FateR.uniq {w : Wn} (h : w.Ok) {cs : List Nat} {x n : Int} (hx : 0 ≤ x ∧ x ≤ w.cap) (hn : 0 ≤ n) {d d' : D} (g : FateR w cs x n d) (g' : FateR w cs x n d') : d = d' := by
  rcases g with ⟨r, i, rfl, g⟩ | ⟨r, ds, rfl, g⟩ <;> rcases g' with ⟨r', i', rfl, g'⟩ | ⟨r', ds', rfl, g'⟩
  · obtain ⟨rfl, rfl⟩ := g.uniq h hx hn g'
    rfl
  · exact absurd g'.st (g.not h hx hn)
  · exact absurd g.st (g'.not h hx hn)
  · obtain ⟨rfl, rfl⟩ := g.uniq h hx hn g'
    rfl
theorem ints_fine : ∀ {ns : List Int}, (∀ n ∈ ns, n.natAbs < 2 ^ 200) → D.fines (ns.map D.int) = true ∧ D.wts (ns.map D.int) = ns.length ∧ D.deps (ns.map D.int) = 0
  | [], _ => ⟨rfl, rfl, rfl⟩
  | n :: ns, h => by
    obtain ⟨h1, h2, h3⟩ := ints_fine (ns := ns) fun m hm => h m (List.mem_cons_of_mem _ hm)
    have o := int_ok (h n (List.mem_cons_self ..))
    refine ⟨?_, ?_, ?_⟩
    · rw [List.map_cons, D.fines, o.fine, h1]; rfl
    · rw [List.map_cons, D.wts, h2, List.length_cons]
      simp only [D.wt]
      omega
    · rw [List.map_cons, D.deps, h3]
      simp only [D.dep]
      rfl
theorem ints_ok {ns : List Int} (h : ∀ n ∈ ns, n.natAbs < 2 ^ 200) (hl : ns.length ≤ 1000) : (D.lst (ns.map D.int)).Ok := by
  obtain ⟨h1, h2, h3⟩ := ints_fine h
  exact ⟨h1, by simp only [D.wt]; omega, by simp only [D.dep]; omega⟩
theorem FateS.len {w : Wn} {cs : List Nat} {x n : Int} {r : Nat} {ds : List Int} (g : FateS w cs x n r ds) : ds.length ≤ 48 := by
  obtain ⟨lead, kk, h1, h2, h3, h4, h5, h6, h7, h8⟩ := g.cyc
  rw [h5, List.length_map, List.length_range]
  omega
theorem FateS.bd {w : Wn} (h : w.Ok) {cs : List Nat} {x n : Int} (hx : 0 ≤ x ∧ x ≤ w.cap) (hn : 0 ≤ n) {r : Nat} {ds : List Int} (g : FateS w cs x n r ds) : ∀ y ∈ ds, 0 ≤ y ∧ y ≤ w.cap := by
  obtain ⟨lead, kk, h1, h2, h3, h4, h5, h6, h7, h8⟩ := g.cyc
  intro y m
  rw [h5] at m
  obtain ⟨i, _, rfl⟩ := List.mem_map.mp m
  exact (stR_ok h hx hn _).1
theorem FateS.listOk {w : Wn} (h : w.Ok) {cs : List Nat} {x n : Int} (hx : 0 ≤ x ∧ x ≤ w.cap) (hn : 0 ≤ n) {r : Nat} {ds : List Int} (g : FateS w cs x n r ds) : (D.lst (ds.map D.int)).Ok := by
  have c2 := h.c2
  refine ints_ok (fun y m => ?_) (by have := g.len; omega)
  have := g.bd h hx hn y m
  omega
theorem fine3 (a b c : D) : (D.tup [a, b, c]).fine = (a.fine && (b.fine && (c.fine && true))) := by simp only [D.fine, D.fines]
theorem FateR.ok {w : Wn} (h : w.Ok) {cs : List Nat} (hc : cs.length ≤ 48) {x n : Int} (hx : 0 ≤ x ∧ x ≤ w.cap) (hn : 0 ≤ n) {d : D} (g : FateR w cs x n d) : d.Ok := by
  have c2 := h.c2
  rcases g with ⟨r, i, rfl, g⟩ | ⟨r, ds, rfl, g⟩
  · have f := g.far
    have o1 := int_ok (i := ((r : Nat) : Int)) (by omega)
    have hi := g.hi
    have o2 := int_ok (i := ((i : Nat) : Int)) (by omega)
    have os : (D.str (Str.ofString "goes")).fine = true := by simp only [D.fine]; decide +kernel
    refine ⟨?_, ?_, ?_⟩
    · rw [fine3, os, o1.fine, o2.fine]; rfl
    · simp only [D.wt, D.wts]; decide
    · simp only [D.dep, D.deps]; decide
  · have f := g.far
    have o1 := int_ok (i := ((r : Nat) : Int)) (by omega)
    have o2 := g.listOk h hx hn
    have l := g.len
    obtain ⟨_, q2, q3⟩ := ints_fine (ns := ds) (fun y m => by have := g.bd h hx hn y m; omega)
    refine ⟨?_, ?_, ?_⟩
    · have os : (D.str (Str.ofString "stays")).fine = true := by simp only [D.fine]; decide +kernel
      rw [fine3, os, o1.fine, o2.fine]; rfl
    · simp only [D.wt, D.wts, q2]
      show 5 + 1 + (0 + 1 + (ds.length + 1 + 0)) ≤ 8000
      omega
    · simp only [D.dep, D.deps, q3]; decide
section
variable {K : PySem.W.Frag} {H : Hp} {Q : VK} {i : Int} {b : Bool} {z : Str}
theorem v_isiIB (q : Q (.bl false) H) : rIsiG K [.int i, .ty "bool"] H Q := d_isi (S := fun _ => False) (T := "bool") (d := .int i) z_int rfl (q := q)
theorem v_isiII (q : Q (.bl true) H) : rIsiG K [.int i, .ty "int"] H Q := d_isi (S := fun _ => False) (T := "int") (d := .int i) z_int rfl (q := q)
theorem v_isiSS (q : Q (.bl true) H) : rIsiG K [.str z, .ty "str"] H Q := d_isi (S := fun _ => False) (T := "str") (d := .str z) z_str rfl (q := q)
end
theorem eqv_step (s u : Int × Int) : PyData.eqv (stepD s).py (stepD u).py = (s.1 == u.1 && (s.2 == u.2 && true)) := by
  simp only [stepD, D.py, D.pys, PyData.eqv, PyData.eqvAll]
theorem eqv_stepF {s u : Int × Int} (h : ¬ (s.1 = u.1 ∧ s.2 = u.2)) : PyData.eqv (stepD s).py (stepD u).py = false := by
  rw [eqv_step]
  by_cases a : s.1 = u.1
  · have b : ¬ s.2 = u.2 := fun q => h ⟨a, q⟩
    simp [b]
  · simp [a]
theorem pair2_ok {s : Int × Int} (h1 : s.1.natAbs < 2 ^ 190) (h2 : s.2.natAbs < 2 ^ 190) : (stepD s).Ok := by
  have o1 := int_ok (i := s.1) (by omega)
  have o2 := int_ok (i := s.2) (by omega)
  refine ⟨?_, ?_, ?_⟩
  · simp only [stepD, D.fine, D.fines, Bool.and_eq_true] at *
    exact ⟨o1.fine, o2.fine, trivial⟩
  · simp only [stepD, D.wt, D.wts]; omega
  · simp only [stepD, D.dep, D.deps]; omega
/-- settled, at the most: the last strength -/
theorem last_of {w : Wn} (ho : w.Ok) {cs : List Nat} (hc : cs.length ≤ 48) {x n : Int} (hx : 0 ≤ x ∧ x ≤ w.cap) (hn : 0 ≤ n) {lead kk : Nat} (hlk : lead < kk) (he : phase w (nxs w cs n kk) = phase w (nxs w cs n lead)) {d : Int} (hd : 0 ≤ d ∧ d ≤ 10 ^ 30) (h1 : iter (thrL ((List.range' lead (kk - lead)).map (rdE w cs n))) d.toNat (stR w cs (x, n) lead).1 = iter (thrL ((List.range' lead (kk - lead)).map (rdE w cs n))) ((10 : Int) ^ 30).toNat (stR w cs (x, n) lead).1) (h2 : ∀ j, j < d.toNat → iter (thrL ((List.range' lead (kk - lead)).map (rdE w cs n))) (j + 1) (stR w cs (x, n) lead).1 ≠ iter (thrL ((List.range' lead (kk - lead)).map (rdE w cs n))) j (stR w cs (x, n) lead).1) (h3 : d < 10 ^ 30 → thrL ((List.range' lead (kk - lead)).map (rdE w cs n)) (iter (thrL ((List.range' lead (kk - lead)).map (rdE w cs n))) d.toNat (stR w cs (x, n) lead).1) = iter (thrL ((List.range' lead (kk - lead)).map (rdE w cs n))) d.toNat (stR w cs (x, n) lead).1) : d ≤ w.cap ∧ (0 < iter (thrL ((List.range' lead (kk - lead)).map (rdE w cs n))) ((10 : Int) ^ 30).toNat (stR w cs (x, n) lead).1 ↔ stays w cs x n) := by
  have wf : ∀ o ∈ (List.range' lead (kk - lead)).map (rdE w cs n), oWf o := fun o m => by
    obtain ⟨j, _, rfl⟩ := List.mem_map.mp m
    exact row_wf ho (nxs_ok ho (cs := cs) hn j) cs
  have b0 := stR_ok ho (cs := cs) hx hn lead
  have far := iter_far (f := thrL ((List.range' lead (kk - lead)).map (rdE w cs n))) (fun x y h => thrL_mono wf h) d.toNat h2
  have bd := cyc_iter ho hx hn hlk he d.toNat
  have b1 := stR_ok ho (cs := cs) hx hn (lead + d.toNat * (kk - lead))
  rw [bd] at far
  have c2 := ho.c2
  have dc : d ≤ w.cap := by omega
  exact ⟨dc, stays_iff ho hx hn hlk he h1 (h3 (by omega))⟩
/-! ### the period -/
def perW (w : Wn) (cs : List Nat) : Nat := if cs.count 46 = 0 ∨ (w.anew = true ∧ 97 ∈ cs) then 1 else w.tail.length / Nat.gcd w.tail.length (cs.count 46)
theorem stt_reset {w : Wn} (ha : w.anew = true) : ∀ {cs : List Nat} {x n y m : Int}, 97 ∈ cs → (stt w (x, n) cs).2 = (stt w (y, m) cs).2
  | c :: cs, x, n, y, m, h => by
    by_cases q : 97 ∈ cs
    · show (stt w (stp w (x, n) c) cs).2 = (stt w (stp w (y, m) c) cs).2
      exact stt_reset ha q
    · have e : c = 97 := by
        rcases List.mem_cons.mp h with h | h
        · exact h.symm
        · exact absurd h q
      subst e
      show (stt w (stp w (x, n) 97) cs).2 = (stt w (stp w (y, m) 97) cs).2
      have s : ∀ x n, stp w (x, n) 97 = (lifted1 w x, 0) := fun x n => by
        unfold stp
        rw [if_neg (by decide), if_neg (by decide), if_pos ha]
      rw [s, s]
      exact stt_snd cs
theorem ph_lt {w : Wn} (h : w.Ok) {a b : Int} (hab : a < b) (e : phase w a = phase w b) : (w.head.length : Int) ≤ a ∧ (b - a) % (w.tail.length : Int) = 0 := by
  have t0 := h.t0
  unfold phase at e
  have m1 := Int.emod_nonneg (b - (w.head.length : Int)) (by omega : (w.tail.length : Int) ≠ 0)
  by_cases q : a < (w.head.length : Int)
  · rw [if_pos q] at e
    split at e <;> omega
  · rw [if_neg q, if_neg (by omega)] at e
    refine ⟨by omega, ?_⟩
    have e2 : (b - (w.head.length : Int)) % (w.tail.length : Int) = (a - (w.head.length : Int)) % (w.tail.length : Int) := by omega
    have := Int.emod_eq_emod_iff_emod_sub_eq_zero.mp e2
    rw [show b - (w.head.length : Int) - (a - (w.head.length : Int)) = b - a by omega] at this
    exact this
theorem ph_same {w : Wn} {a b : Int} (ha : (w.head.length : Int) ≤ a) (hab : a ≤ b) (e : (b - a) % (w.tail.length : Int) = 0) : phase w a = phase w b := by
  unfold phase
  rw [if_neg (by omega), if_neg (by omega)]
  have : (b - (w.head.length : Int)) % (w.tail.length : Int) = (a - (w.head.length : Int)) % (w.tail.length : Int) := by
    refine Int.emod_eq_emod_iff_emod_sub_eq_zero.mpr ?_
    rw [show b - (w.head.length : Int) - (a - (w.head.length : Int)) = b - a by omega]
    exact e
  rw [this]
theorem order_of {l t p : Nat} (hl : 0 < l) (ht : 0 < t) (hp : 0 < p) (hd : l ∣ p * t) (hm : ∀ q, 0 < q → q < p → ¬ l ∣ q * t) : p = l / Nat.gcd l t := by
  have g0 : 0 < Nat.gcd l t := Nat.gcd_pos_of_pos_left _ hl
  have co := Nat.coprime_div_gcd_div_gcd g0
  have e1 : Nat.gcd l t * (l / Nat.gcd l t) = l := Nat.mul_div_cancel' (Nat.gcd_dvd_left l t)
  have e2 : Nat.gcd l t * (t / Nat.gcd l t) = t := Nat.mul_div_cancel' (Nat.gcd_dvd_right l t)
  generalize Nat.gcd l t = g at *
  generalize hu : l / g = u at *
  generalize hv : t / g = v at *
  have u0 : 0 < u := Nat.pos_of_ne_zero fun z => by
    subst z
    rw [Nat.mul_zero] at e1
    omega
  have a : ¬ u < p := fun q => hm u u0 q ⟨v, by rw [← e1, ← e2, Nat.mul_comm g u, Nat.mul_assoc, ]⟩
  have b : u ∣ p := by
    have d1 : g * u ∣ g * (p * v) := by
      rw [e1, show g * (p * v) = p * t by rw [← e2, Nat.mul_left_comm]]
      exact hd
    exact co.dvd_of_dvd_mul_right (Nat.dvd_of_mul_dvd_mul_left g0 d1)
  have c := Nat.le_of_dvd hp b
  omega
theorem per_eq {w : Wn} (h : w.Ok) {cs : List Nat} (hs : ∀ c ∈ cs, c = 46 ∨ c = 97) {n : Int} (hn : 0 ≤ n) {lead kk : Nat} (hl : lead < kk) (e : phase w (nxs w cs n kk) = phase w (nxs w cs n lead)) (hd : ∀ i j, i < j → j < kk → phase w (nxs w cs n i) ≠ phase w (nxs w cs n j)) : kk - lead = perW w cs := by
  by_cases A : w.anew = true ∧ 97 ∈ cs
  · have pw : perW w cs = 1 := by unfold perW; rw [if_pos (.inr A)]
    have c : ∀ a b, nxs w cs n (a + 1) = nxs w cs n (b + 1) := fun a b => stt_reset A.1 A.2
    rw [pw]
    have k3 : kk ≤ 2 := by
      refine Decidable.byContradiction fun q => hd 1 2 (by decide) (by omega) ?_
      rw [c 0 1]
    by_cases q : kk - lead = 1
    · exact q
    · exfalso
      have z1 : kk = 2 := by omega
      have z2 : lead = 0 := by omega
      subst z1 z2
      refine hd 0 1 (by decide) (by decide) ?_
      rw [← e, c 0 1]
  · have cnt : w.anew = false ∨ ∀ c ∈ cs, c = 46 := by
      cases q : w.anew with
      | false => exact .inl rfl
      | true =>
        refine .inr fun c m => ?_
        rcases hs c m with z | z
        · exact z
        · rw [z] at m; exact absurd ⟨q, m⟩ A
    have nk := fun k => nxs_cnt (n := n) cnt k
    by_cases T : cs.count 46 = 0
    · have pw : perW w cs = 1 := by unfold perW; rw [if_pos (.inl T)]
      have k2 : kk ≤ 1 := by
        refine Decidable.byContradiction fun q => hd 0 1 (by decide) (by omega) ?_
        rw [nk, nk, T]
        simp
      omega
    · have pw : perW w cs = w.tail.length / Nat.gcd w.tail.length (cs.count 46) := by
        unfold perW
        rw [if_neg (fun z => z.elim T A)]
      rw [pw]
      have t0 := h.t0
      generalize hT : cs.count 46 = t at *
      have up : ∀ a b : Nat, nxs w cs n (a + b) - nxs w cs n a = ((b * t : Nat) : Int) := fun a b => by
        rw [nk, nk, Int.natCast_add, Int.add_mul, Int.natCast_mul]
        omega
      have lt : nxs w cs n lead < nxs w cs n kk := by
        have := up lead (kk - lead)
        rw [show lead + (kk - lead) = kk by omega] at this
        have p : 0 < (kk - lead) * t := Nat.mul_pos (by omega) (by omega)
        omega
      have ph := ph_lt h lt e.symm
      have up1 := up lead (kk - lead)
      rw [show lead + (kk - lead) = kk by omega] at up1
      rw [up1] at ph
      refine order_of t0 (by omega) (by omega) (Int.natCast_dvd_natCast.mp (Int.dvd_of_emod_eq_zero ph.2)) fun q q0 q1 dv => ?_
      refine hd lead (lead + q) (by omega) (by omega) (ph_same ph.1 ?_ ?_)
      · have := up lead q
        omega
      · rw [up]
        exact Int.emod_eq_zero_of_dvd (Int.natCast_dvd_natCast.mpr dv)
theorem FateS.per {w : Wn} (h : w.Ok) {cs : List Nat} (hs : ∀ c ∈ cs, c = 46 ∨ c = 97) {x n : Int} (hn : 0 ≤ n) {r : Nat} {ds : List Int} (g : FateS w cs x n r ds) :
    ds = (List.range (perW w cs)).map (fun i => (stR w cs (x, n) (r + i)).1) ∧ (stR w cs (x, n) (r + perW w cs)).1 = (stR w cs (x, n) r).1 ∧ phase w (nxs w cs n (r + perW w cs)) = phase w (nxs w cs n r) ∧
    (∀ m, r = m + 1 → ¬ ((stR w cs (x, n) (m + perW w cs)).1 = (stR w cs (x, n) m).1 ∧ phase w (nxs w cs n (m + perW w cs)) = phase w (nxs w cs n m))) := by
  obtain ⟨lead, kk, h1, h2, h3, h4, h5, h6, h7, h8⟩ := g.cyc
  have e := per_eq h hs hn h1 h3 h4
  rw [← e]
  exact ⟨h5, h7, ph_cyc h hn h1 h3 h6, h8⟩
end Vf
namespace Vf
open PySem PySem.Spec PyProof.Rows L2 RZ
/-! ## refusals: own exception classes, made, raised, caught, looked at -/
/-- what the written part says of an exception class of the program -/
structure XCls (K : PySem.W.Frag) (C : Addr) : Prop where
  ob : OexC K C
  xf : XfC K C
  ic : ExcC K C
  cl : (PySem.W.clsIn K C).isSome = true
  ss : PySem.W.subIn K (.ref C) (.ref C) = some true
theorem xcls_mk {K : PySem.W.Frag} {C : Addr} {nm q : Str} {N : Addr} {bs bm : List Value} {sn : List Str} {sub : List Value} {ab : Bool} {col : Option Bool} {dd : Option Addr} {k0 k1 k2 k3 k5 : Option Value}
    (l : K.lookup C = some (excClassObj nm q C N bs bm true sn sub ab col dd k0 k1 k2 k3 k5 "ValueError.__new__")) (r : PySem.HandSPX.refsVE bm = true)
    (sa : PySem.W.findIn K (.ref C) "__setattr__" = some (some (.builtin "object.__setattr__"))) (ex : PySem.W.subIn K (.ref C) (.type "BaseException") = some true) (ty : PySem.W.typeIn K (.ref C) = some (.type "type")) (kp : PySem.W.keepIn K (.ref C) = true)
    (ga : PySem.W.findIn K (.ref C) "__getattribute__" = some (some (.builtin "BaseException.__getattribute__"))) (gg : PySem.W.findIn K (.ref C) "__getattr__" = some none) (hd : PySem.W.hasDictIn K C = true)
    (ca : PySem.W.findIn K (.ref C) "__class__" = some (some (.builtin "object.__class__"))) (hn : PySem.W.specialIn K (.builtin "object.__class__") "__get__" = some (some (.builtin "getset_descriptor.__get__"))) (ht : PySem.W.takesIn K (.builtin "object.__class__") = some true)
    (hm : PySem.W.mroIn K C (.type "object") = some true) (ss : PySem.W.subIn K (.ref C) (.ref C) = some true) : XCls K C :=
  ⟨⟨⟨nm, q, N, bs, bm, sn, sub, ab, col, dd, k0, k1, k2, k3, k5, l, r⟩, sa, ex, ty, kp⟩, ⟨ga, gg, ex, hd⟩, ⟨ga, gg, ex, hd, ca, hn, ht, hm⟩, by
    unfold PySem.W.hasDictIn at hd
    cases h : PySem.W.clsIn K C with
    | none => rw [h] at hd; cases hd
    | some c => rfl, ss⟩
theorem ve0 : PySem.HandSPX.refsVE [.type "ValueError", .type "Exception", .type "BaseException", .type "object"] = true := by decide +kernel
theorem ve1 {C : Addr} : PySem.HandSPX.refsVE [.ref C, .type "ValueError", .type "Exception", .type "BaseException", .type "object"] = true := ve0
theorem exm_own {K : PySem.W.Frag} {D T : Addr} {b : Bool} (x : XCls K T) (s : PySem.W.subIn K (.ref D) (.ref T) = some b) : PySem.W.exmOne K (.ref D) (.ref T) = some b := PySem.W.exm_ref x.xf.exC x.xf.hdC x.ob.tyC s
theorem kit_own {K : PySem.W.Frag} {D T : Addr} {b : Bool} (xD : XCls K D) (x : XCls K T) (s : PySem.W.subIn K (.ref D) (.ref T) = some b) : PySem.W.kitOne K (.ref D) (.ref T) = some b := by
  unfold PySem.W.kitOne
  by_cases e : (Value.ref D == Value.ref T) = true
  · rw [if_pos e]
    have e2 : D = T := Value.ref.inj (beq_iff_eq.mp e)
    subst e2
    rw [xD.ss] at s
    exact s
  · rw [if_neg e]
    show (if ((PySem.W.clsIn K T).isSome && PySem.W.typeIn K (.ref T) == some (.type "type")) = true then PySem.W.subIn K (.ref D) (.ref T) else none) = some b
    rw [if_pos (by rw [x.cl, x.ob.tyC]; rfl)]
    exact s
theorem kit_ve {K : PySem.W.Frag} {D : Addr} {b : Bool} (s : PySem.W.subIn K (.ref D) (.type "ValueError") = some b) : PySem.W.kitOne K (.ref D) (.type "ValueError") = some b := by
  unfold PySem.W.kitOne
  rw [if_neg (by intro e; have := beq_iff_eq.mp e; cases this)]
  show (if PySem.W.kitMeta "ValueError" = true then PySem.W.subIn K (.ref D) (.type "ValueError") else none) = some b
  rw [if_pos (by decide +kernel)]
  exact s
/-- is the exception's dict there? -/
def XD (d : Option Addr) (H : Hp) : Prop := d = none ∨ ∃ dd fs, d = some dd ∧ H dd = some (.xd fs)
/-- isinstance(e, T), isinstance(e, (T, ..)), e the exception that the suite holds -/
def rIsEX (K : PySem.W.Frag) (a : Addr) (cls : Value) (d : Option Addr) : List V → Hp → VK → Prop := fun xs H Q => ∃ (D : Addr), cls = .ref D ∧ ExcC K D ∧ XD d H ∧
  ((∃ (c : V) (u : Value) (b : Bool), xs = [.ref a, c] ∧ ClsV c u ∧ PySem.W.kitOne K (.ref D) u = some b ∧ Q (.bl b) H) ∨
    ∃ (tp : Addr) (cs : List V) (us : List Value) (b : Bool), xs = [.ref a, .ref tp] ∧ H tp = some (.tup cs) ∧ Paired ClsV cs us ∧ PySem.W.kitAny K (.ref D) us = some b ∧ Q (.bl b) H)
theorem call_isEX {X : Cx} {a : Addr} {cls : Value} {d : Option Addr} {oe : Obj} {pn : List (Addr × Obj)} (hz : Zc cls d oe) (hf : ∃ vs, oe.data = .fields vs) : CallR (X.suite a ((a, oe) :: pn)) (.builtin "isinstance") (rIsEX X.K a cls d) := by
  intro pins s σ H xs us Q I r h
  obtain ⟨D, rfl, C, hxd, h⟩ := h
  obtain ⟨hget, _⟩ := I.pin (a, oe) (List.mem_append.mpr (.inl List.mem_cons_self))
  obtain ⟨vs, hv⟩ := hf
  obtain ⟨h1, h2⟩ := hz
  have J : ∃ od, PySem.W.InstAt s.heap a oe D od := by
    rcases hxd with rfl | ⟨dd, fs, rfl, ea⟩
    · exact ⟨none, hget, h1, by unfold PySem.W.notCls; rw [hv] <;> rfl, by rw [h2]; trivial⟩
    · have hx : ObjOk X.prog X.w H s.heap dd (.xd fs) := I.hok dd _ ea
      obtain ⟨mA, hns, hr⟩ := hx
      obtain ⟨od, ho, hl⟩ := lookIn_ns hns
      exact ⟨some od, hget, h1, by unfold PySem.W.notCls; rw [hv] <;> rfl, by rw [h2]; exact ho⟩
  obtain ⟨od, J⟩ := J
  have hcl : (PySem.W.clsIn X.K D).isSome = true := by
    have hd := C.hd
    unfold PySem.W.hasDictIn at hd
    cases h : PySem.W.clsIn X.K D with
    | none => rw [h] at hd; cases hd
    | some c => rfl
  have Z := PySem.W.kitx_exc (K := X.K) (x := a) (C := D) (ox := oe) (od := od) hcl C.hg C.hk C.hs C.ha C.hn C.ht C.hm
  rcases h with ⟨c, u, b, rfl, k, e, q⟩ | ⟨tp, cs, ws, b, rfl, hT, k, e, q⟩
  · obtain ⟨u1, u2, rfl, r1, r2⟩ := vals2 r
    cases (show u1 = Value.ref a from r1)
    have e2 := k.eq r2
    subst e2
    exact PySem.W.kia_one Z I.kIn J e (fun z => nomatch z) fun tk => ⟨.bl b, H, I.kept (t' := tk) fun _ _ z => z, rfl, q⟩
  · obtain ⟨u1, u2, rfl, r1, r2⟩ := vals2 r
    cases (show u1 = Value.ref a from r1)
    cases (show u2 = Value.ref tp from r2)
    obtain ⟨_, its, rv, o, o1, o2, n, o3⟩ := (show ObjOk X.prog X.w H s.heap tp (.tup cs) from I.hok tp _ hT)
    have e3 := ClsV.all k rv
    subst e3
    obtain ⟨oc, odd, dt, sl⟩ := o
    simp only at o2 o3
    subst o2 o3
    exact PySem.W.kia_tup Z I.kIn J o1 e (fun z => nomatch z) fun tk => ⟨.bl b, H, I.kept (t' := tk) fun _ _ z => z, rfl, q⟩
/-! ### C(v), its __init__ keeping the one field -/
/-- what the __init__ of such a class promises -/
def spExI (K : PySem.W.Frag) (f : Str) : Sp := fun vs H Q _ => ∃ (a C : Addr) (v : V), vs = [.ref a, v] ∧ OexC K C ∧ PySem.W.findIn K (.ref C) f = some none ∧ H a = some (exo a C none) ∧ ∀ dx, H dx = none → dx ≠ a → Q .non (upd (upd H dx (exd dx [(f, v)])) a (exo a C (some dx)))
theorem spExI_len {K : PySem.W.Frag} {f : Str} {vs : List V} {H : Hp} {Q : VK} {E : XK} (h : spExI K f vs H Q E) : vs.length = 2 := by
  obtain ⟨a, C, v, rfl, _⟩ := h
  rfl
theorem exi_body {K : PySem.W.Frag} {f : Str} {σ : L2.St} {H : Hp} {D : Ends} {a C : Addr} {v : V} (h0 : σ[0]? = some (some (.ref a))) (h1 : σ[1]? = some (some v)) (o : OexC K C) (n : PySem.W.findIn K (.ref C) f = some none) (e : H a = some (exo a C none)) (q : ∀ dx, H dx = none → dx ≠ a → D.nx σ (upd (upd H dx (exd dx [(f, v)])) a (exo a C (some dx)))) : tOst K f (tVar 0) (tVar 1) D σ H :=
  ⟨v, h1, .ref a, h0, a, C, rfl, o, n, .inl ⟨e, q⟩⟩
theorem upd_ex {H : Hp} {a d : Addr} {o1 o2 o3 o4 : HO} (n : H a = none) (ne : d ≠ a) : upd (del (upd (upd (upd H a o1) d o2) a o3) a) d o4 = upd H d o4 := by
  funext b
  by_cases hb : b = d
  · subst hb; rw [upd_same, upd_same]
  · rw [upd_ne hb, upd_ne hb]
    by_cases ha : b = a
    · subst ha; rw [del_same, n]
    · rw [del_ne ha, upd_ne ha, upd_ne hb, upd_ne ha]
/-- the reading of C(v) -/
def FMk (C : Addr) (sp : Sp) (Q : XK) : List V → Hp → Prop := fun vs H1 => vs.length ≤ 1000 ∧ ∀ a, H1 a = none → sp (.ref a :: (vs ++ [])) (upd H1 a (exo a C none))
  (fun v H2 => v = .non ∧ ∃ (d : Addr) (fs : List (Str × V)), H2 a = some (exo a C (some d)) ∧ H2 d = some (exd d fs) ∧ H1 d = none ∧ Q (.ref C) (some d) (upd (del H2 a) d (.xd fs))) (fun _ _ _ => False)
theorem g_mkO {C : Addr} {sp : Sp} {Q : XK} {σ : L2.St} {H : Hp} {ta : TA} (h : ta σ H (FMk C sp Q)) : tMkO C sp [] ta σ H Q := h
theorem d_mkO {K : PySem.W.Frag} {f : Str} {C : Addr} {H1 : Hp} {Q : XK} {v : V} (o : OexC K C) (n : PySem.W.findIn K (.ref C) f = some none) (q : ∀ d, H1 d = none → Q (.ref C) (some d) (upd H1 d (.xd [(f, v)]))) : FMk C (spExI K f) Q [v] H1 := by
  refine ⟨by show 1 ≤ 1000; decide, fun a na => ⟨a, C, v, rfl, o, n, upd_same, fun dx nd ne => ⟨rfl, dx, [(f, v)], ?_, ?_, ?_, ?_⟩⟩⟩
  · rw [upd_same]
  · rw [upd_ne ne, upd_same]
  · rw [upd_ne ne] at nd; exact nd
  · rw [upd_ne ne] at nd
    rw [upd_ex na ne]
    exact q dx nd
/-- raise e -/
def tRaise (W : WX) (t : L2.St → Hp → XK → Prop) : TS := fun _ σ H => t σ H fun cls d H' => W cls d σ H'
theorem ps_raiseV {X : Cx} {W : WX} {e : Expr} {t : L2.St → Hp → XK → Prop} {pos : Pos} (hc : X.calm = true) (tk : Takes X W) (he : PMk X e t) : PS X (.Raise (some e) none pos) (tRaise W t) := ps_raise hc tk he
theorem g_raise {W : WX} {t : L2.St → Hp → XK → Prop} {D : Ends} {σ : L2.St} {H : Hp} (h : t σ H fun cls d H' => W cls d σ H') : tRaise W t D σ H := h
/-- what a def lets out, whatever its slots -/
abbrev wOut (E : XK) : WX := fun cls d _ H => E cls d H
/-- a wish whatever the slots -/
def wAll (n : Nat) (W : WX) : XK := fun cls d H => ∀ σ : L2.St, σ.length = n → W cls d σ H
theorem passAll {X : Cx} {W : WX} (tk : Takes X W) : Passes (L2.CX X.prog X.w) X (wAll X.N.length W) :=
  fun _ σ _ _ e s' I c => tk e s' (XE.of_call I (fun _ _ _ h => h σ I.len) c)
theorem passN {X : Cx} {W : WX} (m : Nat) (hm : X.N.length = m) (tk : Takes X W) : Passes (L2.CX X.prog X.w) X (wAll m W) := by
  subst hm
  exact passAll tk
/-- try .. except T as e -/
def tTryAs (K : PySem.W.Frag) (c : Value) (i : Nat) (tb : WX → TS) (ts : Addr → Value → Option Addr → TS) : TS := fun D σ H => tb (wAs K c i ts (fun _ _ _ _ => False) D) D σ H
theorem g_tryAs {K : PySem.W.Frag} {c : Value} {i : Nat} {tb : WX → TS} {ts : Addr → Value → Option Addr → TS} {D : Ends} {σ : L2.St} {H : Hp} (h : tb (wAs K c i ts (fun _ _ _ _ => False) D) D σ H) : tTryAs K c i tb ts D σ H := h
theorem w_as {K : PySem.W.Frag} {n i : Nat} {T C : Addr} {ts : Addr → Value → Option Addr → TS} {Wout : WX} {D : Ends} {d : Option Addr} {H : Hp} (e : PySem.W.exmOne K (.ref C) (.ref T) = some true)
    (h : ∀ (σ : L2.St) a, σ.length = n → H a = none → ts a (.ref C) d { nx := fun σ' H' => D.nx (σ'.set i none) H', rt := D.rt, bk := fun σ' H' => D.bk (σ'.set i none) H', ct := fun σ' H' => D.ct (σ'.set i none) H' } (σ.set i (some (.ref a))) H) : wAll n (wAs K (.ref T) i ts Wout D) (.ref C) d H :=
  fun σ hl => ⟨true, e, fun _ a na => h σ a hl na, fun z => nomatch z⟩
theorem get_set {σ : L2.St} {i n : Nat} {v : V} (hl : σ.length = n) (hi : i < n) : (σ.set i (some v))[i]? = some (some v) := List.getElem?_set_self (by omega)
theorem ps_tryAs {X : Cx} {x n : Str} {c : Value} {i : Nat} {body suite : List Stmt} {b₀ : Stmt} {np pos pos' : Pos} {tb : WX → TS} {ts : Addr → Value → Option Addr → TS} (hs : X.stack = X.env :: X.outer) (hf : X.env.frame = some X.env.locals) (hN : X.N.Nodup) (hi : X.N[i]? = some n) (hln : X.env.kindOf n = some .local) (hc : Names X x c)
    (hb : ∀ (W : WX) (pn : List (Addr × Obj)) (xe : Value → Shared → Prop), Takes (X.tr pn xe) W → PassesOwn (model X.prog X.w) X.A X.env xe → PSs (X.tr pn xe) body (tb W))
    (hsu : ∀ (a : Addr) (oe : Obj) (cls : Value) (d : Option Addr) (pn : List (Addr × Obj)), Zc cls d oe → (∃ vs, oe.data = .fields vs) → PSs (X.suite a ((a, oe) :: pn)) (b₀ :: suite) (ts a cls d)) :
    PS X (.Try body [.ExceptHandler (some (.Name x np)) (some n) (b₀ :: suite) pos'] [] [] pos) (tTryAs X.K c i tb ts) := ps_try_as hs hf hN hi hln hc takes0 hb hsu
/-- e.f in the suite -/
def FXf (a : Addr) (cls : Value) (d : Option Addr) (C : Addr) (f : Str) (Q : VK) : VK := fun x H1 => x = .ref a ∧ cls = .ref C ∧ ∃ (dd : Addr) (fs : List (Str × V)) (v : V), d = some dd ∧ H1 dd = some (.xd fs) ∧ fs.lookup f = some v ∧ Q v H1
theorem g_xf {a : Addr} {cls : Value} {d : Option Addr} {C : Addr} {f : Str} {te : TE} {σ : L2.St} {H : Hp} {Q : VK} (h : te σ H (FXf a cls d C f Q)) : tXf a cls d C f te σ H Q := h
theorem d_xf {a dx C : Addr} {f : Str} {v : V} {H : Hp} {Q : VK} (e : H dx = some (.xd [(f, v)])) (q : Q v H) : FXf a (.ref C) (some dx) C f Q (.ref a) H := ⟨rfl, rfl, dx, _, v, rfl, e, by simp [List.lookup], q⟩
theorem d_isX {K : PySem.W.Frag} {a dx D T : Addr} {f : Str} {v : V} {b : Bool} {H : Hp} {Q : VK} (x : XCls K D) (e : H dx = some (.xd [(f, v)])) (k : PySem.W.kitOne K (.ref D) (.ref T) = some b) (q : Q (.bl b) H) : rIsEX K a (.ref D) (some dx) [.ref a, .ref T] H Q :=
  ⟨D, rfl, x.ic, .inr ⟨dx, _, rfl, e⟩, .inl ⟨.ref T, .ref T, b, rfl, .own T, k, q⟩⟩
theorem d_isXT {K : PySem.W.Frag} {a dx D tp : Addr} {f : Str} {v : V} {b : Bool} {H : Hp} {Q : VK} {ts : List Addr} (x : XCls K D) (e : H dx = some (.xd [(f, v)])) (ht : H tp = some (.tup (ts.map V.ref))) (k : PySem.W.kitAny K (.ref D) (ts.map Value.ref) = some b) (q : Q (.bl b) H) : rIsEX K a (.ref D) (some dx) [.ref a, .ref tp] H Q := by
  refine ⟨D, rfl, x.ic, .inr ⟨dx, _, rfl, e⟩, .inr ⟨tp, _, _, b, rfl, ht, ?_, k, q⟩⟩
  clear k ht
  induction ts with
  | nil => exact .nil
  | cons t ts ih => exact .cons (.own t) ih
theorem d_isXV {K : PySem.W.Frag} {a dx D : Addr} {f : Str} {v : V} {b : Bool} {H : Hp} {Q : VK} (x : XCls K D) (e : H dx = some (.xd [(f, v)])) (k : PySem.W.kitOne K (.ref D) (.type "ValueError") = some b) (q : Q (.bl b) H) : rIsEX K a (.ref D) (some dx) [.ref a, .ty "ValueError"] H Q :=
  ⟨D, rfl, x.ic, .inr ⟨dx, _, rfl, e⟩, .inl ⟨.ty "ValueError", .type "ValueError", b, rfl, .ty _, k, q⟩⟩
theorem ka_nil {K : PySem.W.Frag} {D : Addr} : PySem.W.kitAny K (.ref D) [] = some false := rfl
theorem ka_no {K : PySem.W.Frag} {D T : Addr} {ts : List Value} {b : Bool} (h : PySem.W.kitOne K (.ref D) (.ref T) = some false) (r : PySem.W.kitAny K (.ref D) ts = some b) : PySem.W.kitAny K (.ref D) (.ref T :: ts) = some b := by
  unfold PySem.W.kitAny
  rw [h]
  exact r
/-! ### what a def that may refuse promises -/
section
variable {α : Type} (K : PySem.W.Frag) (enc : α → List D) (pre : α → Prop) (post : α → D → Prop) (bad : α → Addr → Option (Str × D) → Prop)
def spX : Sp := fun vs H Q E => ∃ S a, Okk S H ∧ DzL K S H (enc a) vs ∧ pre a ∧ (∀ v d H', Same H H' → Dz K S H' d v → post a d → Q v H') ∧ (∀ C H', Same H H' → bad a C none → E (.ref C) none H') ∧
  ∀ C dx f v d H', Same H H' → H dx = none → H' dx = some (.xd [(f, v)]) → Dz K S H' d v → bad a C (some (f, d)) → E (.ref C) (some dx) H'
end
section
variable {α : Type} {K : PySem.W.Frag} {enc : α → List D} {pre : α → Prop} {post : α → D → Prop} {bad : α → Addr → Option (Str × D) → Prop} {S M : AS} {H0 H : Hp} {G : List (V × D)} {L : List (Addr × List D)} {B : List Addr} {Q : VK} {E : XK} {vs : List V} {n : Nat}
theorem spX_len (hn : ∀ a, (enc a).length = n) (h : spX K enc pre post bad vs H Q E) : vs.length = n := by
  obtain ⟨S, a, _, hz, _⟩ := h
  rw [hz.len, hn]
theorem c_X (a : α) (st : Vf.St K S M H0 H G L B) (hz : DzL K S H (enc a) vs) (hp : pre a) (q : ∀ v d H', post a d → Vf.St K S M H0 H' ((v, d) :: G) L B → Q v H') (r1 : ∀ C H', bad a C none → Vf.St K S M H0 H' G L B → E (.ref C) none H')
    (r2 : ∀ C dx f v d H', bad a C (some (f, d)) → H dx = none → H' dx = some (.xd [(f, v)]) → Vf.St K S M H0 H' ((v, d) :: G) L B → E (.ref C) (some dx) H') : spX K enc pre post bad vs H Q E :=
  ⟨S, a, st.ok, hz, hp, fun v d H' e hv po => q v d H' po ((st.same e).add hv), fun C H' e b => r1 C H' b (st.same e), fun C dx f v d H' e n hx hv b => r2 C dx f v d H' b n hx ((st.same e).add hv)⟩
end
end Vf
namespace Vf
open PySem PySem.Spec PyProof.Rows L2 RZ
/-! ## hours, plans, the row that they make: the arithmetic alone -/
structure HoursOk (hs : List Int) : Prop where
  l1 : 1 ≤ hs.length
  l2 : hs.length ≤ 24
  bd : ∀ h ∈ hs, 0 ≤ h ∧ h ≤ 23
  up : ∀ (i : Nat) (a b : Int), hs[i]? = some a → hs[i + 1]? = some b → a < b
def hoursD (hs : List Int) : D := .tup (hs.map D.int)
structure PlansOk (ps : List (List Int)) : Prop where
  l : ps.length ≤ 8
  h : ∀ hs ∈ ps, HoursOk hs
def plansD (ps : List (List Int)) : D := .lst (ps.map hoursD)
/-- how many ask at the hour of a moment -/
def asksAt (ps : List (List Int)) (m : Int) : Nat := (ps.filter fun hs => decide (m % 24 ∈ hs)).length
def turnL (ps : List (List Int)) (m : Int) : List Nat := 46 :: List.replicate (asksAt ps m) 97
/-- the row behind a moment, of so many turns -/
def rowL (ps : List (List Int)) (b : Int) (n : Nat) : List Nat := ((List.range n).map fun j => turnL ps (b + (j : Nat) + 1)).flatten
theorem rowL_succ (ps : List (List Int)) (b : Int) (n : Nat) : rowL ps b (n + 1) = rowL ps b n ++ turnL ps (b + (n : Nat) + 1) := by
  unfold rowL
  rw [List.range_succ, List.map_append, List.flatten_append]
  simp
theorem asks_le (ps : List (List Int)) (m : Int) : asksAt ps m ≤ ps.length := List.length_filter_le ..
theorem turnL_len (ps : List (List Int)) (m : Int) : (turnL ps m).length = asksAt ps m + 1 := by
  unfold turnL
  rw [List.length_cons, List.length_replicate]
theorem rowL_len {ps : List (List Int)} (h : ps.length ≤ 8) (b : Int) : ∀ n : Nat, (rowL ps b n).length ≤ 9 * n
  | 0 => Nat.le_refl _
  | n + 1 => by
    have := rowL_len h b n
    have a := asks_le ps (b + (n : Nat) + 1)
    rw [rowL_succ, List.length_append, turnL_len]
    omega
theorem turnL_sign {ps : List (List Int)} {m : Int} : ∀ c ∈ turnL ps m, signOk c = true := fun c h => by
  rcases List.mem_cons.mp h with h | h
  · rw [h]; rfl
  · rw [(List.mem_replicate.mp h).2]; rfl
theorem rowL_sign {ps : List (List Int)} {b : Int} : ∀ n : Nat, ∀ c ∈ rowL ps b n, signOk c = true
  | 0, c, h => by simp [rowL] at h
  | n + 1, c, h => by
    rw [rowL_succ] at h
    rcases List.mem_append.mp h with h | h
    · exact rowL_sign n c h
    · exact turnL_sign c h
theorem join_lists : ∀ ls : List (List Nat), Str.join (Str.ofString "") (ls.map fun l => (⟨l.toArray⟩ : Str)) = ⟨ls.flatten.toArray⟩
  | [] => rfl
  | [l] => by
    show (⟨l.toArray⟩ : Str) = ⟨(l ++ []).toArray⟩
    rw [List.append_nil]
  | l :: d :: r => by
    have ih := join_lists (d :: r)
    show ((⟨l.toArray⟩ : Str) ++ Str.ofString "" ++ Str.join (Str.ofString "") ((d :: r).map fun c => (⟨c.toArray⟩ : Str)) : Str) = _
    rw [ih]
    show Str.mk (l.toArray ++ #[] ++ (d :: r).flatten.toArray) = _
    simp
theorem sum_lists : ∀ ls : List (List Nat), ((ls.map fun l => (⟨l.toArray⟩ : Str)).map (·.length)).sum = ls.flatten.length
  | [] => rfl
  | l :: ls => by
    rw [List.map_cons, List.map_cons, List.sum_cons, sum_lists ls, List.flatten_cons, List.length_append]
    show l.toArray.size + _ = _
    rw [List.size_toArray]
theorem fold_rep (c : Nat) : ∀ (n : Nat) (a : Array Nat), (List.replicate n (#[c] : Array Nat)).foldl (· ++ ·) a = a ++ (List.replicate n c).toArray
  | 0, a => by simp
  | n + 1, a => by
    rw [List.replicate_succ, List.foldl_cons, fold_rep c n, List.replicate_succ]
    apply Array.toList_inj.mp
    simp [Array.toList_append]
theorem str_fine {cs : List Nat} (h : ∀ c ∈ cs, signOk c = true) : (D.str ⟨cs.toArray⟩).fine = true := by
  have small : ∀ c ∈ cs, c ≤ 97 := fun c m => by
    have := h c m
    unfold signOk at this
    rw [Bool.or_eq_true, beq_iff_eq, beq_iff_eq] at this
    omega
  simp only [D.fine, Bool.and_eq_true]
  constructor
  · show (cs.toArray.all fun c => decide (c < 0x110000)) = true
    rw [List.all_toArray, List.all_eq_true]
    intro c m
    have := small c m
    exact decide_eq_true (by omega)
  · rw [List.all_eq_true]
    intro c m
    have := small c (by simpa using m)
    exact decide_eq_true (by omega)
theorem pairS_ok {z : Str} {d : D} (hz : (D.str z).fine = true) (hl : z.cps.size ≤ 100) (h : d.Ok) (hw : d.wt ≤ 7000) (hd : d.dep ≤ 50) : (D.tup [.str z, d]).Ok := by
  refine ⟨?_, ?_, ?_⟩
  · have : (D.tup [.str z, d]).fine = ((D.str z).fine && (d.fine && true)) := by simp only [D.fine, D.fines]
    rw [this, hz, h.fine]; rfl
  · simp only [D.wt, D.wts]; omega
  · simp only [D.dep, D.deps]; omega
end Vf
namespace Vf
open PySem PySem.Spec PyProof.Rows L2 RZ
/-! ## numbers written, wanes written: the arithmetic alone -/
def numS (n : Int) : Str := Str.ofString (toString n)
theorem numS_tl (n : Nat) : (numS (n : Int)).cps.toList = TL.numL n := TL.tl_num n
theorem numS_len {n : Nat} (h : n < 10 ^ 10) : (numS (n : Int)).length ≤ 10 := by
  show (numS (n : Int)).cps.size ≤ 10
  rw [← Array.length_toList, numS_tl]
  exact TL.numL_len (by decide) h
theorem numS_pos (n : Nat) : 0 < (numS (n : Int)).length := by
  show 0 < (numS (n : Int)).cps.size
  rw [← Array.length_toList, numS_tl]
  exact List.length_pos_iff.mpr (TL.numL_ne n)
theorem dec_digit : ∀ d, d < 10 → Unicode.isDecimal (48 + d) = true := by decide +kernel
theorem numS_ascii (n : Nat) : Txt.isascii (numS (n : Int)) = true := by
  unfold Txt.isascii
  rw [← Array.all_toList, numS_tl, List.all_eq_true]
  intro c m
  have := TL.numL_digits n c m
  exact decide_eq_true (by omega)
theorem numS_dec (n : Nat) : Txt.isdecimal (numS (n : Int)) = true := by
  unfold Txt.isdecimal
  rw [Bool.and_eq_true]
  refine ⟨decide_eq_true (numS_pos n), ?_⟩
  rw [← Array.all_toList, numS_tl, List.all_eq_true]
  intro c m
  have h := TL.numL_digits n c m
  have := dec_digit (c - 48) (by omega)
  rw [show 48 + (c - 48) = c by omega] at this
  exact this
theorem numL_head : ∀ n : Nat, ∃ c r, TL.numL n = c :: r ∧ (c = 48 → n = 0) := fun n => by
  induction n using Nat.strongRecOn with
  | _ n ih =>
    by_cases h : n < 10
    · exact ⟨48 + n, [], TL.numL_lt h, fun e => by omega⟩
    · obtain ⟨c, r, e, z⟩ := ih (n / 10) (by omega)
      refine ⟨c, r ++ [48 + n % 10], by rw [TL.numL_step (by omega), e]; rfl, fun q => ?_⟩
      have := z q
      omega
theorem numS_0 : numS 0 = Str.ofString "0" := by decide +kernel
theorem numS_int {n : Nat} (h : n < 10 ^ 10) : PySem.intText? (numS (n : Int)) = some (n : Int) := TL.int_num (Nat.le_trans (TL.numL_len (by decide) h) (by decide))
/-- try .. except T: -/
def tTryOnly (K : PySem.W.Frag) (c : Value) (tb : WX → TS) (ts : Addr → Value → Option Addr → TS) (Wout : WX) : TS := fun D σ H => tb (wOnly K c ts Wout D) D σ H
theorem ps_tryOnly {X : Cx} {x : Str} {c : Value} {body suite : List Stmt} {b₀ : Stmt} {np pos pos' : Pos} {tb : WX → TS} {ts : Addr → Value → Option Addr → TS} {Wout : WX} (hs : X.stack = X.env :: X.outer) (hf : X.env.frame = some X.env.locals) (hc : Names X x c) (tk : Takes X Wout)
    (hb : ∀ (W : WX) (pn : List (Addr × Obj)) (xe : Value → Shared → Prop), Takes (X.tr pn xe) W → PassesOwn (model X.prog X.w) X.A X.env xe → PSs (X.tr pn xe) body (tb W))
    (hsu : ∀ (a : Addr) (oe : Obj) (cls : Value) (d : Option Addr) (pn : List (Addr × Obj)), Zc cls d oe → (∃ vs, oe.data = .fields vs) → PSs (X.suite a ((a, oe) :: pn)) (b₀ :: suite) (ts a cls d)) :
    PS X (.Try body [.ExceptHandler (some (.Name x np)) none (b₀ :: suite) pos'] [] [] pos) (tTryOnly X.K c tb ts Wout) := ps_try_only hs hf hc tk hb hsu
theorem g_tryOnly {K : PySem.W.Frag} {c : Value} {tb : WX → TS} {ts : Addr → Value → Option Addr → TS} {Wout : WX} {D : Ends} {σ : L2.St} {H : Hp} (h : tb (wOnly K c ts Wout D) D σ H) : tTryOnly K c tb ts Wout D σ H := h
/-- f'..' by its parts -/
theorem g_joinedS {ts : List TE} {σ : L2.St} {H : Hp} {Q : VK} (h : tJs ts Str.empty σ H fun out H1 => Q (.str out) H1) : (fun (σ : L2.St) (H : Hp) (Q : VK) => tJs ts Str.empty σ H fun out H1 => Q (.str out) H1) σ H Q := h
theorem emp_app (z : Str) : Str.empty ++ z = z := by
  show Str.mk (#[] ++ z.cps) = z
  rw [Array.empty_append]
section
variable {K : PySem.W.Frag} {S : AS} {H : Hp} {Q : VK}
/-- the k-th item from the end -/
theorem d_ixEnd {a : Addr} {ds : List D} {d : D} (k : Nat) (h : Dz K S H (.lst ds) (.ref a)) (h0 : 0 < k) (h1 : k ≤ ds.length) (hd : ds[ds.length - k]? = some d) (q : ∀ v, Dz K S H d v → Q v H) : rIxG K (.ref a) (.int (-(k : Nat))) H Q := by
  obtain ⟨xs, z1, z2⟩ := z_lst h
  have hl := z2.len
  obtain ⟨v, e, hv⟩ := z2.get hd
  refine .inl ⟨a, xs, _, v, rfl, rfl, z1.sq, ?_, q v hv⟩
  unfold atI ixN
  rw [if_neg (by omega), if_pos (by omega)]
  show xs[(-((k : Nat) : Int) + (xs.length : Int)).toNat]? = some v
  rw [show (-((k : Nat) : Int) + (xs.length : Int)).toNat = ds.length - k by omega]
  exact e
/-- a sign of a text -/
theorem d_ixS {z : Str} {i c : Nat} (hz : z.length ≤ sizeLine) (hc : z.cps.toList[i]? = some c) (q : Q (.str ⟨#[c]⟩) H) : rIxG K (.str z) (.int (i : Nat)) H Q :=
  .inr (.inr ⟨z, _, c, rfl, rfl, hz, atI_nat hc, q⟩)
theorem inV_strs {y : Str} : ∀ ws : List Str, inV (.str y) (ws.map V.str) = decide (y ∈ ws)
  | [] => by simp [inV]
  | z :: ws => by
    have ih := inV_strs (y := y) ws
    unfold inV at ih ⊢
    rw [List.map_cons, List.any_cons, ih]
    by_cases h : y = z
    · subst h; simp [eqV]
    · have h' : ¬ z = y := fun e => h e.symm
      simp [eqV, h, h']
theorem flat_strs : ∀ ws : List Str, (ws.map V.str).all flatV = true
  | [] => rfl
  | z :: ws => by rw [List.map_cons, List.all_cons, flat_strs ws]; rfl
theorem d_niLS {a : Addr} {y : Str} {ws : List Str} (h : Dz K S H (.lst (ws.map D.str)) (.ref a)) (q : Q (.bl (!decide (y ∈ ws))) H) : rNiG K (.str y) (.ref a) H Q := by
  obtain ⟨xs, h1, h2⟩ := z_lst h
  have ex := DzL.strs _ h2
  subst ex
  refine .inl ⟨a, ws.map V.str, rfl, .inl h1.sq, rfl, flat_strs ws, ?_⟩
  show Q (.bl (!inV (.str y) (ws.map V.str))) H
  rw [inV_strs]
  exact q
/-- where a text stands first in a list -/
theorem d_indexS {a : Addr} {y : Str} {ws : List Str} {j : Nat} (h : Dz K S H (.lst (ws.map D.str)) (.ref a)) (hj : ws[j]? = some y) (hn : ∀ m, m < j → ws[m]? ≠ some y) (q : Q (.int (j : Nat)) H) : rIndex K (.ref a) [.str y] H Q := by
  obtain ⟨xs, h1, h2⟩ := z_lst h
  have ex := DzL.strs _ h2
  subst ex
  refine ⟨a, ws.map V.str, .str y, j, .str y, rfl, rfl, h1.sq, rfl, flat_strs ws, by rw [List.getElem?_map, hj]; rfl, by simp [eqV], fun m z' hm e => ?_, q⟩
  rw [List.getElem?_map] at e
  obtain ⟨w, hw, rfl⟩ := Option.map_eq_some_iff.mp e
  have ne : ¬ w = y := fun z => hn m hm (by rw [hw, z])
  simp [eqV, ne]
end
/-! ### a wane's text -/
def stepW (s : Int × Int) : Str := numS s.1 ++ Str.ofString "-" ++ numS s.2
def lastW (w : Wn) : List Str := [Str.ofString "cap", numS w.cap, Str.ofString "lift", numS w.lift, if w.anew = true then Str.ofString "anew" else Str.ofString "on"]
def wordsW (w : Wn) : List Str := w.head.map stepW ++ ([Str.ofString "|"] ++ (w.tail.map stepW ++ lastW w))
def textW (w : Wn) : Str := Str.join (Str.ofString " ") (wordsW w)
theorem nat_of {i : Int} (h : 0 ≤ i) : ∃ n : Nat, i = (n : Int) := ⟨i.toNat, by omega⟩
theorem stepW_tl {s : Int × Int} {a b : Nat} (h1 : s.1 = (a : Int)) (h2 : s.2 = (b : Int)) : (stepW s).cps.toList = TL.numL a ++ [45] ++ TL.numL b := by
  unfold stepW
  rw [app_list, app_list, h1, h2, numS_tl, numS_tl]
  rfl
theorem stepW_free {s : Int × Int} (h : stepOk s) {c : Nat} (hc : c < 45) : c ∉ (stepW s).cps.toList := by
  obtain ⟨h1, h2, h3, h4⟩ := h
  obtain ⟨a, ea⟩ := nat_of (show 0 ≤ s.1 by omega)
  obtain ⟨b, eb⟩ := nat_of h3
  rw [stepW_tl ea eb]
  intro m
  rcases List.mem_append.mp m with m | m
  · rcases List.mem_append.mp m with m | m
    · exact TL.numL_free (.inl (by omega)) m
    · rw [List.mem_singleton.mp m] at hc; omega
  · exact TL.numL_free (.inl (by omega)) m
theorem stepW_bar {s : Int × Int} (h : stepOk s) : stepW s ≠ Str.ofString "|" := fun e => by
  obtain ⟨h1, h2, h3, h4⟩ := h
  obtain ⟨a, ea⟩ := nat_of (show 0 ≤ s.1 by omega)
  obtain ⟨b, eb⟩ := nat_of h3
  have e1 := congrArg (fun z : Str => z.cps.toList) e
  rw [stepW_tl ea eb] at e1
  have m : (45 : Nat) ∈ (Str.ofString "|").cps.toList := by rw [← e1]; simp
  have : (Str.ofString "|").cps.toList = [124] := by decide +kernel
  rw [this] at m
  simp at m
theorem stepW_len {s : Int × Int} (h : stepOk s) : (stepW s).length ≤ 21 := by
  obtain ⟨h1, h2, h3, h4⟩ := h
  obtain ⟨a, ea⟩ := nat_of (show 0 ≤ s.1 by omega)
  obtain ⟨b, eb⟩ := nat_of h3
  show (stepW s).cps.size ≤ 21
  rw [← Array.length_toList, stepW_tl ea eb, List.length_append, List.length_append]
  have l1 := TL.numL_len (n := a) (k := 10) (by decide) (by omega)
  have l2 := TL.numL_len (n := b) (k := 10) (by decide) (by omega)
  show _ + 1 + _ ≤ 21
  omega
/-- no word has a blank -/
theorem words_free {w : Wn} (h : w.Ok) : ∀ p ∈ wordsW w, (32 : Nat) ∉ p.cps.toList := fun p m => by
  have hc := h.c1
  have hl := h.l1
  obtain ⟨c, ec⟩ := nat_of (show 0 ≤ w.cap by omega)
  obtain ⟨l, el⟩ := nat_of hl
  unfold wordsW at m
  rcases List.mem_append.mp m with m | m
  · obtain ⟨s, hs, rfl⟩ := List.mem_map.mp m
    exact stepW_free (h.hs s hs) (by decide)
  rcases List.mem_append.mp m with m | m
  · rw [List.mem_singleton.mp m]; decide +kernel
  rcases List.mem_append.mp m with m | m
  · obtain ⟨s, hs, rfl⟩ := List.mem_map.mp m
    exact stepW_free (h.ts s hs) (by decide)
  · simp only [lastW, List.mem_cons, List.not_mem_nil, or_false] at m
    rcases m with rfl | rfl | rfl | rfl | rfl
    · decide +kernel
    · rw [ec, numS_tl]; exact TL.numL_free (.inl (by decide))
    · decide +kernel
    · rw [el, numS_tl]; exact TL.numL_free (.inl (by decide))
    · split <;> decide +kernel
theorem words_ne (w : Wn) : wordsW w ≠ [] := fun e => by
  have := congrArg List.length e
  simp [wordsW] at this
theorem text_split {w : Wn} (h : w.Ok) : Txt.split (textW w) (Str.ofString " ") = wordsW w := by
  unfold textW
  rw [← TL.join_eq]
  exact TL.split_join (s := 32) (S := []) (by decide +kernel) (by decide +kernel) (words_ne w) (words_free h)
theorem step_part {s : Int × Int} (h : stepOk s) : Txt.partition (stepW s) (Str.ofString "-") = (numS s.1, Str.ofString "-", numS s.2) := by
  obtain ⟨h1, h2, h3, h4⟩ := h
  obtain ⟨a, ea⟩ := nat_of (show 0 ≤ s.1 by omega)
  refine TL.partition_app (s := 45) (S := []) (by decide +kernel) ?_
  show (45 : Nat) ∉ (numS s.1).cps.toList
  rw [ea, numS_tl]
  exact TL.numL_free (.inl (by decide))
theorem words_len {w : Wn} (h : w.Ok) : (wordsW w).length = w.head.length + w.tail.length + 6 := by
  unfold wordsW lastW
  simp
  omega
theorem words_sum {w : Wn} (h : w.Ok) : ((wordsW w).map (·.length)).sum ≤ 1200 := by
  have steps : ∀ l : List (Int × Int), (∀ s ∈ l, stepOk s) → ((l.map stepW).map (·.length)).sum ≤ 21 * l.length := fun l => by
    induction l with
    | nil => intro _; exact Nat.le_refl _
    | cons s l ih =>
      intro hs
      have a := stepW_len (hs s (List.mem_cons_self ..))
      have b := ih fun x m => hs x (List.mem_cons_of_mem _ m)
      rw [List.map_cons, List.map_cons, List.sum_cons, List.length_cons]
      omega
  have c1 := h.c1
  have c2 := h.c2
  have l1 := h.l1
  have l2 := h.l2
  obtain ⟨c, ec⟩ := nat_of (show 0 ≤ w.cap by omega)
  obtain ⟨l, el⟩ := nat_of l1
  have a := steps w.head h.hs
  have b := steps w.tail h.ts
  have hl := h.hl
  have t24 := h.t24
  have nc := numS_len (n := c) (by omega)
  have nl := numS_len (n := l) (by omega)
  rw [← ec] at nc
  rw [← el] at nl
  have la : (if w.anew = true then Str.ofString "anew" else Str.ofString "on").length ≤ 4 := by split <;> decide
  unfold wordsW lastW
  rw [List.map_append, List.sum_append, List.map_append, List.sum_append, List.map_append, List.sum_append]
  simp only [List.map_cons, List.map_nil, List.sum_cons, List.sum_nil]
  have e1 : (Str.ofString "|").length = 1 := by decide
  have e2 : (Str.ofString "cap").length = 3 := by decide
  have e3 : (Str.ofString "lift").length = 4 := by decide
  omega
theorem join_len (y : Str) : ∀ ps : List Str, (Str.join y ps).length ≤ (ps.map (·.length)).sum + y.length * ps.length
  | [] => Nat.zero_le _
  | [p] => by
    show p.length ≤ p.length + 0 + y.length * 1
    omega
  | p :: q :: r => by
    have ih := join_len y (q :: r)
    show (p ++ y ++ Str.join y (q :: r)).cps.size ≤ _
    have e : (p ++ y ++ Str.join y (q :: r)).cps.size = p.length + y.length + (Str.join y (q :: r)).length := by
      show ((p.cps ++ y.cps) ++ _).size = _
      rw [Array.size_append, Array.size_append]
      rfl
    rw [e, List.map_cons, List.sum_cons, List.length_cons (a := p), Nat.mul_succ]
    omega
theorem text_len {w : Wn} (h : w.Ok) : (textW w).length ≤ 1300 := by
  have a := join_len (Str.ofString " ") (wordsW w)
  have b := words_sum h
  have c := words_len h
  have hl := h.hl
  have t24 := h.t24
  have e1 : (Str.ofString " ").length = 1 := by decide
  unfold textW
  rw [e1, c] at a
  omega
section
variable {K : PySem.W.Frag} {S M : AS} {H0 H : Hp} {G : List (V × D)} {L : List (Addr × List D)} {B : List Addr} {Q : VK}
/-- a comprehension over a tuple, its list changed behind -/
theorem lc_TO {a : Addr} {ds : List D} {g : TG} {tt : TT} {te : TE} {ws : List Nat} {σ : L2.St} (st : Vf.St K S M H0 H G L B) (m : (V.ref a, D.tup ds) ∈ G) (P : Nat → List D → Prop) (p0 : P 0 [])
    (hs : ∀ p i d x H1 es, ¬ S p → ds[i]? = some d → i < ds.length → es.length ≤ i → P i es → Vf.St K (fun b => S b ∨ b = p) M H0 H1 ((x, d) :: G) ((p, es) :: L) B → g x (wipe σ ws) H1 fun σ2 H3 => wipe σ2 ws = wipe σ ws ∧ tt σ2 H3 fun b H4 =>
      if b = true then te σ2 H4 (LcE K S M H0 G L B p P (i + 1)) else LcP K S M H0 G L B p P (i + 1) H4)
    (hd : ∀ p H' es, ¬ S p → P ds.length es → es.length ≤ ds.length → Vf.St K (fun b => S b ∨ b = p) M H0 H' G ((p, es) :: L) B → Q (.ref p) H') : FItt K (FLc g tt te ws σ Q) (.ref a) H := by
  obtain ⟨xs, h1, _⟩ := z_tup (st.dz m)
  refine ⟨a, rfl, ⟨xs, h1.sq⟩, d_lcO (fun p => walk_Td (S := fun b => S b ∨ b = p)) st (fun p es H' s => s.dz m) P p0 (fun p i x H1 H2 es n hi hl pe s y => ?_) hd⟩
  obtain ⟨e, d, hd', hx⟩ := y
  subst e
  exact hs p i d x _ es n hd' hi hl pe (s.add hx)
/-- xs.extend(a list of data), xs the def's own -/
theorem d_extend {a b : Addr} {es ds : List D} {L' : List (Addr × List D)} {i : Nat} (st : Vf.St K S M H0 H G L B) (hl : L[i]? = some (a, es)) (h : Dz K S H (.lst ds) (.ref b)) (hL : L.set i (a, es ++ ds) = L') (hn : es.length + ds.length < 100000) (q : ∀ H', Vf.St K S M H0 H' G L' B → Q .non H') : rExtend (.ref a) [.ref b] H Q := by
  obtain ⟨_, _, xs, h3, h4⟩ := st.la (a, es) (List.mem_of_getElem? hl)
  obtain ⟨zs, z1, z2⟩ := z_lst h
  refine ⟨a, b, xs, zs, rfl, rfl, h3, z1.2, ?_, ?_⟩
  · have l4 : xs.length = es.length := h4.len
    rw [l4, z2.len, sizeLine_eq]; omega
  · subst hL
    exact q _ (st.put hl (h4.app z2))
theorem zl_strs : ∀ ys : List Str, DzL K S H (ys.map D.str) (ys.map V.str)
  | [] => zl_nil
  | y :: ys => zl_cons z_str (zl_strs ys)
/-- text.split(..) -/
theorem d_newStrs {ys : List Str} (st : Vf.St K S M H0 H G L B) (q : ∀ p H', Vf.St K S M H0 H' ((.ref p, .lst (ys.map D.str)) :: G) L B → Q (.ref p) H') : rNewStrs ys H Q := fun p n => q p _ (st.lst n (zl_strs ys))
theorem cutD_to {ds : List D} {i : Nat} (h : i ≤ ds.length) : cutD ds none (some ((i : Nat) : Int)) = ds.take i := by
  unfold cutD
  rw [HT.sIx_none, HT.sIx_nat, List.drop_zero, Nat.sub_zero, Nat.min_eq_left h]
theorem cutD_mid {ds : List D} {i k : Nat} (h0 : 0 < k) (h : i + k ≤ ds.length) : cutD ds (some ((i : Nat) : Int)) (some (-((k : Nat) : Int))) = (ds.drop i).take (ds.length - k - i) := by
  unfold cutD
  have e : HT.sIx ds.length ds.length (some (-((k : Nat) : Int))) = ds.length - k := by
    show (if -((k : Nat) : Int) < 0 then (-((k : Nat) : Int) + (ds.length : Nat)).toNat else _) = _
    rw [if_pos (by omega)]
    omega
  rw [e, HT.sIx_nat, Nat.min_eq_left (by omega)]
end
/-! ### where the words stand -/
theorem words_eq (w : Wn) : wordsW w = (w.head.map stepW ++ ([Str.ofString "|"] ++ w.tail.map stepW)) ++ lastW w := by
  unfold wordsW
  simp only [List.append_assoc]
theorem words_bar (w : Wn) : (wordsW w)[w.head.length]? = some (Str.ofString "|") := by
  unfold wordsW
  rw [List.getElem?_append_right (by rw [List.length_map]; exact Nat.le_refl _), List.length_map, Nat.sub_self]
  rfl
theorem words_nobar {w : Wn} (h : w.Ok) : ∀ m, m < w.head.length → (wordsW w)[m]? ≠ some (Str.ofString "|") := fun m hm e => by
  unfold wordsW at e
  rw [List.getElem?_append_left (by rw [List.length_map]; exact hm), List.getElem?_map] at e
  obtain ⟨s, hs, es⟩ := Option.map_eq_some_iff.mp e
  exact stepW_bar (h.hs s (List.mem_of_getElem? hs)) es
theorem words_in (w : Wn) : Str.ofString "|" ∈ wordsW w := List.mem_of_getElem? (words_bar w)
theorem words_head (w : Wn) : (wordsW w).take w.head.length = w.head.map stepW := by
  unfold wordsW
  rw [List.take_append_of_le_length (by rw [List.length_map]; exact Nat.le_refl _), List.take_of_length_le (by rw [List.length_map]; exact Nat.le_refl _)]
theorem lastW_len (w : Wn) : (lastW w).length = 5 := rfl
theorem words_tail (w : Wn) : ((wordsW w).drop (w.head.length + 1)).take ((wordsW w).length - 5 - (w.head.length + 1)) = w.tail.map stepW := by
  have e : wordsW w = (w.head.map stepW ++ [Str.ofString "|"]) ++ (w.tail.map stepW ++ lastW w) := by
    unfold wordsW
    simp only [List.append_assoc]
  have l1 : (w.head.map stepW ++ [Str.ofString "|"]).length = w.head.length + 1 := by simp
  have l2 : (wordsW w).length - 5 - (w.head.length + 1) = w.tail.length := by
    rw [e, List.length_append, l1, List.length_append, lastW_len, List.length_map]
    omega
  rw [l2, e, ← l1, List.drop_left, List.take_append_of_le_length (by rw [List.length_map]; exact Nat.le_refl _), List.take_of_length_le (by rw [List.length_map]; exact Nat.le_refl _)]
theorem words_last {w : Wn} {k : Nat} {z : Str} (h0 : 0 < k) (h5 : k ≤ 5) (hz : (lastW w)[5 - k]? = some z) : ((wordsW w).map D.str)[((wordsW w).map D.str).length - k]? = some (.str z) := by
  rw [List.getElem?_map, List.length_map, words_eq w]
  have l : (w.head.map stepW ++ ([Str.ofString "|"] ++ w.tail.map stepW) ++ lastW w).length = (w.head.map stepW ++ ([Str.ofString "|"] ++ w.tail.map stepW)).length + 5 := by rw [List.length_append, lastW_len]
  rw [l, List.getElem?_append_right (by omega), show (w.head.map stepW ++ ([Str.ofString "|"] ++ w.tail.map stepW)).length + 5 - k - (w.head.map stepW ++ ([Str.ofString "|"] ++ w.tail.map stepW)).length = 5 - k by omega, hz]
  rfl
end Vf
namespace Vf
open PySem PySem.Spec PyProof.Rows L2 RZ
/-! ## a wane's text is plain -/
theorem join_mem (y : Str) {c : Nat} : ∀ {ps : List Str}, c ∈ (Str.join y ps).cps.toList → c ∈ y.cps.toList ∨ ∃ p ∈ ps, c ∈ p.cps.toList
  | [], h => by
    have : (Str.join y []).cps.toList = [] := rfl
    rw [this] at h
    simp at h
  | [p], h => .inr ⟨p, List.mem_singleton.mpr rfl, h⟩
  | p :: q :: r, h => by
    have e : (Str.join y (p :: q :: r)).cps.toList = p.cps.toList ++ y.cps.toList ++ (Str.join y (q :: r)).cps.toList := by
      show (p ++ y ++ Str.join y (q :: r)).cps.toList = _
      rw [app_list, app_list]
    rw [e] at h
    rcases List.mem_append.mp h with h | h
    · rcases List.mem_append.mp h with h | h
      · exact .inr ⟨p, List.mem_cons_self .., h⟩
      · exact .inl h
    · rcases join_mem y h with h | ⟨x, m, h⟩
      · exact .inl h
      · exact .inr ⟨x, List.mem_cons_of_mem _ m, h⟩
/-- a text of signs below 128 -/
def plain (z : Str) : Prop := ∀ c ∈ z.cps.toList, c < 128
theorem plain_fine {z : Str} (h : plain z) : (D.str z).fine = true := by
  simp only [D.fine, Bool.and_eq_true]
  constructor
  · show (z.cps.all fun c => decide (c < 0x110000)) = true
    rw [← Array.all_toList, List.all_eq_true]
    intro c m
    have := h c m
    exact decide_eq_true (by omega)
  · rw [List.all_eq_true]
    intro c m
    have := h c m
    exact decide_eq_true (by omega)
theorem plain_num (n : Nat) : plain (numS (n : Int)) := fun c m => by
  rw [numS_tl] at m
  have := TL.numL_digits n c m
  omega
theorem plain_step {s : Int × Int} (h : stepOk s) : plain (stepW s) := fun c m => by
  obtain ⟨h1, h2, h3, h4⟩ := h
  obtain ⟨a, ea⟩ := nat_of (show 0 ≤ s.1 by omega)
  obtain ⟨b, eb⟩ := nat_of h3
  rw [stepW_tl ea eb] at m
  rcases List.mem_append.mp m with m | m
  · rcases List.mem_append.mp m with m | m
    · have := TL.numL_digits a c m; omega
    · rw [List.mem_singleton.mp m]; decide
  · have := TL.numL_digits b c m; omega
theorem plain_dec {z : Str} (h : (z.cps.toList.all fun c => decide (c < 128)) = true) : plain z := fun c m => of_decide_eq_true (List.all_eq_true.mp h c m)
theorem plain_words {w : Wn} (h : w.Ok) : ∀ p ∈ wordsW w, plain p := fun p m => by
  have hc := h.c1
  have hl := h.l1
  obtain ⟨c, ec⟩ := nat_of (show 0 ≤ w.cap by omega)
  obtain ⟨l, el⟩ := nat_of hl
  unfold wordsW at m
  rcases List.mem_append.mp m with m | m
  · obtain ⟨s, hs, rfl⟩ := List.mem_map.mp m
    exact plain_step (h.hs s hs)
  rcases List.mem_append.mp m with m | m
  · rw [List.mem_singleton.mp m]; exact plain_dec (by decide +kernel)
  rcases List.mem_append.mp m with m | m
  · obtain ⟨s, hs, rfl⟩ := List.mem_map.mp m
    exact plain_step (h.ts s hs)
  · simp only [lastW, List.mem_cons, List.not_mem_nil, or_false] at m
    rcases m with rfl | rfl | rfl | rfl | rfl
    · exact plain_dec (by decide +kernel)
    · rw [ec]; exact plain_num c
    · exact plain_dec (by decide +kernel)
    · rw [el]; exact plain_num l
    · split <;> exact plain_dec (by decide +kernel)
theorem plain_text {w : Wn} (h : w.Ok) : plain (textW w) := fun c m => by
  unfold textW at m
  rcases join_mem _ m with m | ⟨p, mp, m⟩
  · exact plain_dec (z := Str.ofString " ") (by decide +kernel) c m
  · exact plain_words h p mp c m
theorem text_ok {w : Wn} (h : w.Ok) : (D.str (textW w)).Ok := by
  have a := text_len h
  have a' : (textW w).cps.size ≤ 1300 := a
  refine ⟨plain_fine (plain_text h), ?_, ?_⟩
  · simp only [D.wt]; omega
  · simp only [D.dep]; omega
end Vf
namespace Vf
open PySem PySem.Spec PyProof.Rows L2 RZ
/-! ## zip of three lists -/
def Itz3 (K : PySem.W.Frag) (a b c : Addr) : It :=
  ⟨fun i H => ∃ (xs ys zs : List V) (x y z : V), SqL K H a xs ∧ SqL K H b ys ∧ SqL K H c zs ∧ xs[i]? = some x ∧ ys[i]? = some y ∧ zs[i]? = some z,
    fun i H v H' => ∃ T x y z, v = .ref T ∧ H T = none ∧ H' = upd H T (.tup [x, y, z]) ∧ (∀ xs, SqL K H a xs → xs[i]? = some x) ∧ (∀ ys, SqL K H b ys → ys[i]? = some y) ∧ ∀ zs, SqL K H c zs → zs[i]? = some z,
    fun i H => ∃ xs ys zs : List V, SqL K H a xs ∧ SqL K H b ys ∧ SqL K H c zs ∧ xs.length = i ∧ ys.length = i ∧ zs.length = i⟩
structure Zip3 (z TI TO i1 i2 i3 a b c : Addr) : Prop where
  S : ZipSep3 z TI TO i1 i2 i3 [i1, a] [i2, b] [i3, c]
  a1 : a ≠ i1
  b2 : b ≠ i2
  c3 : c ≠ i3
theorem turn_zip3 {P : Program} {w : World} {K : PySem.W.Frag} {elts : List Expr} {kk : Nat} {tpos : Pos} {a b c z TI TO i1 i2 i3 : Addr} (D : Zip3 z TI TO i1 i2 i3 a b c) :
    Turn P w K (.Tuple elts kk tpos) (Itz3 K a b c) [z, TI, TO, i1, i2, i3] z (fun i h => IsZip h z TI TO .none ∧ IsTupOf3 h TI (.ref i1) (.ref i2) (.ref i3) ∧ (∃ x y u, IsTupOf3 h TO x y u) ∧ h.IsListIter i1 a i ∧ h.IsListIter i2 b i ∧ h.IsListIter i3 c i) where
  mem := by simp
  obj := fun i h st c hc => by
    obtain ⟨hz, hTI, ⟨x, y, u, hTO⟩, ⟨o1, e1, _, d1⟩, ⟨o2, e2, _, d2⟩, ⟨o3, e3, _, d3⟩⟩ := st
    have e' : c = z ∨ c = TI ∨ c = TO ∨ c = i1 ∨ c = i2 ∨ c = i3 := by simpa using hc
    rcases e' with q | q | q | q | q | q
    · rw [q]; exact ⟨_, hz, fun v q => nomatch q⟩
    · rw [q]; exact ⟨_, hTI, fun v q => nomatch q⟩
    · rw [q]; exact ⟨_, hTO, fun v q => nomatch q⟩
    · rw [q]; exact ⟨o1, e1, fun v q => by rw [d1] at q; cases q⟩
    · rw [q]; exact ⟨o2, e2, fun v q => by rw [d2] at q; cases q⟩
    · rw [q]; exact ⟨o3, e3, fun v q => by rw [d3] at q; cases q⟩
  keep := fun i h h' st k => by
    obtain ⟨hz, hTI, ⟨x, y, u, hTO⟩, h1, h2, h3⟩ := st
    exact ⟨k z (by simp) _ hz, k TI (by simp) _ hTI, ⟨x, y, u, k TO (by simp) _ hTO⟩, h1.at fun o q => k i1 (by simp) o q, h2.at fun o q => k i2 (by simp) o q, h3.at fun o q => k i3 (by simp) o q⟩
  item := by
    intro X hP hw hK hc i pins s σ H E I hf st hg
    subst hP hw hK
    obtain ⟨hz, hTI, ⟨x0, y0, u0, hTO⟩, h1, h2, h3⟩ := st
    obtain ⟨xs, ys, zs, x, y, u, hqx, hqy, hqz, hx, hy, hu⟩ := hg
    obtain ⟨its, rv, p, _⟩ := I.list hqx
    obtain ⟨its2, rv2, p2, _⟩ := I.list hqy
    obtain ⟨its3, rv3, p3, _⟩ := I.list hqz
    obtain ⟨v1, hv1, rv1'⟩ := rv.get hx
    obtain ⟨v2, hv2, rv2'⟩ := rv2.get hy
    obtain ⟨v3, hv3, rv3'⟩ := rv3.get hu
    have hzl : z < s.heap.objs.size := Heap.lt_size hz
    have hh : X.A.in1.handled = none := I.ok.hd hc
    have b1 : i < its.toArray.size := by have := (List.getElem?_eq_some_iff.mp hv1).1; simpa using this
    have b2 : i < its2.toArray.size := by have := (List.getElem?_eq_some_iff.mp hv2).1; simpa using this
    have b3 : i < its3.toArray.size := by have := (List.getElem?_eq_some_iff.mp hv3).1; simpa using this
    refine wpAny_pyNext_zipD3_item D.S (Draws.list hh i1 a D.a1 its.toArray) (Draws.list hh i2 b D.b2 its2.toArray) (Draws.list hh i3 c D.c3 its3.toArray) hz hTI hTO ⟨h1, p.isList⟩ ⟨h2, p2.isList⟩ ⟨h3, p3.isList⟩ b1 b2 b3 fun w1 w2 w3 h' tk q1 q2 q3 z' TO' s1 s2 s3 hT hsz hk => ?_
    have q1 : w1 = v1 := by
      have q1 : its.toArray[i]? = some w1 := q1
      rw [List.getElem?_toArray, hv1] at q1
      exact (Option.some.inj q1).symm
    have q2 : w2 = v2 := by
      have q2 : its2.toArray[i]? = some w2 := q2
      rw [List.getElem?_toArray, hv2] at q2
      exact (Option.some.inj q2).symm
    have q3 : w3 = v3 := by
      have q3 : its3.toArray[i]? = some w3 := q3
      rw [List.getElem?_toArray, hv3] at q3
      exact (Option.some.inj q3).symm
    subst q1 q2 q3
    refine ⟨_, rfl, wpAny_letOwnedTupleGo_zip (s := { s with heap := h', toks := tk }) z' fun h'' z'' sb => ?_⟩
    have hT2 : h''.get? s.heap.objs.size = some { cls := .type "tuple", data := .seq #[w1, w2, w3] } := (sb.2 _ (Nat.ne_of_gt hzl)).trans hT
    have new : ObjOk X.prog X.w (upd H s.heap.objs.size (.tup [x, y, u])) h'' s.heap.objs.size (.tup [x, y, u]) :=
      ⟨by show 3 ≤ sizeLine; decide, [w1, w2, w3], .cons rv1' (.cons rv2' (.cons rv3' .nil)), ⟨_, hT2, rfl, _, rfl⟩⟩
    have I1 : Inv X pins σ (upd H s.heap.objs.size (.tup [x, y, u])) { s with heap := h'', toks := tk } :=
      I.turnedNew (t' := tk) (ch := [z, TI, TO, i1, i2, i3]) (fun c o hb q => (sb.2 c (fun q' => hb (by simp [q']))).trans (hk c o (fun q' => hb (by simp [q'])) (fun q' => hb (by simp [q'])) (fun q' => hb (by simp [q'])) (fun q' => hb (by simp [q'])) (fun q' => hb (by simp [q'])) q)) hf (Nat.le_refl _) new
    refine ⟨.ref s.heap.objs.size, _, I1, rfl, ⟨_, x, y, u, rfl, I.hok.fresh (Nat.le_refl _), rfl, fun l hl => by rw [I.list_inj hl hqx]; exact hx, fun l hl => by rw [I.list_inj hl hqy]; exact hy, fun l hl => by rw [I.list_inj hl hqz]; exact hu⟩, ⟨z'', ?_, ⟨w1, w2, w3, ?_⟩, ?_, ?_, ?_⟩, fun c hcm => ?_⟩
    · exact (sb.2 _ D.S.TIz).trans (hk _ _ D.S.TIz D.S.TITO D.S.TIi1 D.S.TIi2 D.S.TIi3 hTI)
    · exact (sb.2 _ D.S.TOz).trans TO'
    · exact s1.1.at fun o q => (sb.2 _ (fun e => D.S.zi1 e.symm)).trans q
    · exact s2.1.at fun o q => (sb.2 _ (fun e => D.S.zi2 e.symm)).trans q
    · exact s3.1.at fun o q => (sb.2 _ (fun e => D.S.zi3 e.symm)).trans q
    · have hlt : c < s.heap.objs.size := by
        have e' : c = z ∨ c = TI ∨ c = TO ∨ c = i1 ∨ c = i2 ∨ c = i3 := by simpa using hcm
        rcases e' with q | q | q | q | q | q
        · rw [q]; exact hzl
        · rw [q]; exact Heap.lt_size hTI
        · rw [q]; exact Heap.lt_size hTO
        · rw [q]; obtain ⟨_, e1, _⟩ := h1; exact Heap.lt_size e1
        · rw [q]; obtain ⟨_, e2, _⟩ := h2; exact Heap.lt_size e2
        · rw [q]; obtain ⟨_, e3, _⟩ := h3; exact Heap.lt_size e3
      rw [upd_ne (Nat.ne_of_lt hlt)]
      exact (hf c hcm).1
  done := by
    intro X hP hw hK hc i pins s σ H E I hf st hg
    subst hP hw hK
    obtain ⟨hz, hTI, ⟨x0, y0, u0, hTO⟩, h1, h2, h3⟩ := st
    obtain ⟨xs, ys, zs, hqx, hqy, hqz, l1, l2, l3⟩ := hg
    obtain ⟨its, rv, p, _⟩ := I.list hqx
    obtain ⟨its2, rv2, p2, _⟩ := I.list hqy
    obtain ⟨its3, rv3, p3, _⟩ := I.list hqz
    have m1 := rv.length
    have m2 := rv2.length
    have m3 := rv3.length
    have hh : X.A.in1.handled = none := I.ok.hd hc
    refine wpAny_pyNext_zipD3_end D.S (Draws.list hh i1 a D.a1 its.toArray) (Draws.list hh i2 b D.b2 its2.toArray) (Draws.list hh i3 c D.c3 its3.toArray) hz hTI hTO ⟨h1, p.isList⟩ ⟨h2, p2.isList⟩ ⟨h3, p3.isList⟩ (by simp; omega) (by simp; omega) (by simp; omega) (.inl (by simp; omega)) fun h' tk hk => ⟨rfl, I.turnedL (t' := tk) (ch := [z, TI, TO, i1, i2, i3]) (fun c o hb q =>
      hk c o (fun q' => hb (by simp [q'])) (fun q' => hb (by simp [q'])) (fun q' => hb (by simp [q'])) (fun q' => hb (by simp [q'])) (fun q' => hb (by simp [q'])) q) hf⟩
  self := fun A i s Q E st h => wpAny_pyIter_zip st.1 h
theorem zip3_new (n a b c : Nat) (ha : a < n) (hb : b < n) (hc : c < n) : Zip3 (n + 5) (n + 3) (n + 4) n (n + 1) (n + 2) a b c := by
  refine ⟨⟨?_, ?_, ?_, ?_, ?_, ?_, ?_, ?_, ?_, ?_, ?_, ?_, ?_, ?_, ?_, ?_, ?_, ?_, ?_, ?_, ?_⟩, ?_, ?_, ?_⟩
  all_goals first
    | exact List.Mem.head _
    | (intro m; have m : @Eq Nat _ _ := m; omega)
    | (intro m; rcases List.mem_cons.mp m with m | m; (have m : @Eq Nat _ _ := m; omega); have m : @Eq Nat _ _ := List.mem_singleton.mp m; omega)
def FZip3 (K : PySem.W.Frag) (R : It → Hp → Prop) : List V → Hp → Prop := fun vs H1 => ∃ a b c xs ys zs, vs = [.ref a, .ref b, .ref c] ∧ SqL K H1 a xs ∧ SqL K H1 b ys ∧ SqL K H1 c zs ∧ R (Itz3 K a b c) H1
def iZip3 (K : PySem.W.Frag) (ta : TA) : TI := fun σ H R => ta σ H (FZip3 K R)
theorem pi_zip3 {X : Cx} {e e2 e3 : Expr} {ta : TA} {p pos tpos : Pos} {elts : List Expr} {kk : Nat} (hg : Gl X "zip") (hm : X.mg "zip" = none) (ha : PA X [e, e2, e3] ta)
    (hs : starEach [e, e2, e3] X.env = (false, eval e X.env) :: starEach [e2, e3] X.env := by rfl) (hpl : (backTo pos (starEach [e2, e3] X.env)).any (·.1) = false := by rfl) :
    PI X (.Tuple elts kk tpos) (.Call (.Name "zip" p) [e, e2, e3] [] pos) (iZip3 X.K ta) := by
  refine ⟨fun pins s σ H R I h => ?_⟩
  refine Call_ (ld_blt I hg hm PyProof.Rows.boot_zip (PyProof.Rows.callWith_type1 (thn (ha.run pos pins s σ H _ I h) fun us s1 ⟨vs, H1, I1, r1, q1⟩ => ?_) hs hpl))
  obtain ⟨a, b, c, xs, ys, zs, ex, hqx, hqy, hqz, q⟩ := q1
  subst ex
  cases r1 with
  | cons r rr =>
    cases rr with
    | cons r' rr =>
      cases rr with
      | cons r'' rr =>
        cases rr
        cases r
        cases r'
        cases r''
        obtain ⟨its, rv, p1, _⟩ := I1.list hqx
        obtain ⟨its2, rv2, p2, _⟩ := I1.list hqy
        obtain ⟨its3, rv3, p3, _⟩ := I1.list hqz
        have la : a < s1.heap.objs.size := p1.lt
        have lb : b < s1.heap.objs.size := p2.lt
        have lc : c < s1.heap.objs.size := p3.lt
        refine zip_begins3 (begins_list a its.toArray) (begins_list b its2.toArray) (begins_list c its3.toArray) p1.isList p2.isList p3.isList fun h' hz hTI hTO h1 h2 h3 hsz hk => wpAny_pyIter_zip hz ?_
        have I2 : Inv X pins σ H1 { s1 with heap := h' } := I1.kept (t' := s1.toks) hk
        refine ⟨s1.heap.objs.size + 5, [s1.heap.objs.size + 5, s1.heap.objs.size + 3, s1.heap.objs.size + 4, s1.heap.objs.size, s1.heap.objs.size + 1, s1.heap.objs.size + 2], _, _, H1, rfl, I2, turn_zip3 (zip3_new s1.heap.objs.size a b c la lb lc), ⟨hz, hTI, ⟨_, _, _, hTO⟩, ⟨_, h1, rfl, rfl⟩, ⟨_, h2, rfl, rfl⟩, ⟨_, h3, rfl, rfl⟩⟩, fun d hdm => ?_, q⟩
        have e' : d = s1.heap.objs.size + 5 ∨ d = s1.heap.objs.size + 3 ∨ d = s1.heap.objs.size + 4 ∨ d = s1.heap.objs.size ∨ d = s1.heap.objs.size + 1 ∨ d = s1.heap.objs.size + 2 := by simpa using hdm
        have hle : s1.heap.objs.size ≤ d := by
          rcases e' with z | z | z | z | z | z
          · rw [z]; exact Nat.le_add_right _ _
          · rw [z]; exact Nat.le_add_right _ _
          · rw [z]; exact Nat.le_add_right _ _
          · rw [z]; exact Nat.le_refl _
          · rw [z]; exact Nat.le_add_right _ _
          · rw [z]; exact Nat.le_add_right _ _
        exact I1.fpOk hle (I1.hok.fresh hle)
theorem i_zip3 {K : PySem.W.Frag} {H : Hp} {σ : L2.St} {ta : TA} {R : It → Hp → Prop} (h : ta σ H (FZip3 K R)) : iZip3 K ta σ H R := h
def YZ3 (K : PySem.W.Frag) (S : AS) (ds es fs : List D) : Nat → Hp → V → Hp → Prop := fun i H v H' => ∃ T x y z d e f, v = .ref T ∧ H T = none ∧ H' = upd H T (.tup [x, y, z]) ∧ (ds[i]? = some d ∧ es[i]? = some e ∧ fs[i]? = some f) ∧ Dz K S H d x ∧ Dz K S H e y ∧ Dz K S H f z
theorem walk_Z3 {K : PySem.W.Frag} {S : AS} {a b c : Addr} {ds es fs : List D} {n : Nat} (h1 : ds.length = n) (h2 : es.length = n) (h3 : fs.length = n) : Walk (Itz3 K a b c) n (fun H => Dz K S H (.lst ds) (.ref a) ∧ Dz K S H (.lst es) (.ref b) ∧ Dz K S H (.lst fs) (.ref c)) (YZ3 K S ds es fs) := by
  refine ⟨fun i H hi h => ?_, fun H h => ?_, fun i H v H' hi h y => ?_⟩
  · obtain ⟨xs, q1, q2⟩ := z_lst h.1
    obtain ⟨ys, q3, q4⟩ := z_lst h.2.1
    obtain ⟨zs, q5, q6⟩ := z_lst h.2.2
    obtain ⟨v, e, _⟩ := q2.get (d := ds[i]'(by omega)) (List.getElem?_eq_getElem (by omega))
    obtain ⟨w, e', _⟩ := q4.get (d := es[i]'(by omega)) (List.getElem?_eq_getElem (by omega))
    obtain ⟨u, e'', _⟩ := q6.get (d := fs[i]'(by omega)) (List.getElem?_eq_getElem (by omega))
    exact ⟨xs, ys, zs, v, w, u, q1.sq, q3.sq, q5.sq, e, e', e''⟩
  · obtain ⟨xs, q1, q2⟩ := z_lst h.1
    obtain ⟨ys, q3, q4⟩ := z_lst h.2.1
    obtain ⟨zs, q5, q6⟩ := z_lst h.2.2
    exact ⟨xs, ys, zs, q1.sq, q3.sq, q5.sq, by rw [q2.len]; exact h1, by rw [q4.len]; exact h2, by rw [q6.len]; exact h3⟩
  · obtain ⟨xs, q1, q2⟩ := z_lst h.1
    obtain ⟨ys, q3, q4⟩ := z_lst h.2.1
    obtain ⟨zs, q5, q6⟩ := z_lst h.2.2
    obtain ⟨v', e, hv⟩ := q2.get (d := ds[i]'(by omega)) (List.getElem?_eq_getElem (by omega))
    obtain ⟨w, e', hw⟩ := q4.get (d := es[i]'(by omega)) (List.getElem?_eq_getElem (by omega))
    obtain ⟨u, e'', hu⟩ := q6.get (d := fs[i]'(by omega)) (List.getElem?_eq_getElem (by omega))
    obtain ⟨T, x, y, z, rfl, nT, rfl, y1, y2, y3⟩ := y
    have y1 := y1 _ q1.sq
    have y2 := y2 _ q3.sq
    have y3 := y3 _ q5.sq
    rw [e] at y1
    rw [e'] at y2
    rw [e''] at y3
    cases y1
    cases y2
    cases y3
    exact ⟨T, _, _, _, _, _, _, rfl, nT, rfl, ⟨List.getElem?_eq_getElem (by omega), List.getElem?_eq_getElem (by omega), List.getElem?_eq_getElem (by omega)⟩, hv, hw, hu⟩
/-- for x, y, z in zip(three lists of one length) -/
theorem for_Z3 {K : PySem.W.Frag} {S : AS} {H : Hp} {a b c : Addr} {ds es fs : List D} {g : TG} {tb : TS} {E : Ends} {σ : L2.St} {n : Nat} (h1 : ds.length = n) (h2 : es.length = n) (h3 : fs.length = n) (Pv : Nat → L2.St → Hp → Prop) (hG : ∀ i σ H, Pv i σ H → Dz K S H (.lst ds) (.ref a) ∧ Dz K S H (.lst es) (.ref b) ∧ Dz K S H (.lst fs) (.ref c)) (h0 : Pv 0 σ H)
    (hs : ∀ i d e f x y z T σ H, ds[i]? = some d → es[i]? = some e → fs[i]? = some f → Dz K S H d x → Dz K S H e y → Dz K S H f z → Pv i σ H → H T = none → g (.ref T) σ (upd H T (.tup [x, y, z])) fun σ2 H2 => tb { E with nx := Pv (i + 1), ct := Pv (i + 1), bk := E.nx } σ2 H2) (hd : ∀ σ H, Pv n σ H → E.nx σ H) : FZip3 K (FFor g tb E σ) [.ref a, .ref b, .ref c] H := by
  obtain ⟨g1, g2, g3⟩ := hG _ _ _ h0
  obtain ⟨xs, q1, _⟩ := z_lst g1
  obtain ⟨ys, q2, _⟩ := z_lst g2
  obtain ⟨zs, q3, _⟩ := z_lst g3
  refine ⟨a, b, c, xs, ys, zs, rfl, q1.sq, q2.sq, q3.sq, for_it (walk_Z3 (S := S) h1 h2 h3) Pv h0 (fun i σ H _ p => hG i σ H p) (fun i x σ H H' hi p y => ?_) hd⟩
  obtain ⟨T, x', y', z', d, e, f, r1, nT, r2, ⟨k1, k2, k3⟩, d1, d2, d3⟩ := y
  subst r1 r2
  exact hs i d e f x' y' z' T σ H k1 k2 k3 d1 d2 d3 p nT
end Vf
namespace Vf
open PySem PySem.Spec PyProof.Rows L2 RZ
/-! ## more strength, more asking: no less -/
theorem row_mono {w : Wn} (h : w.Ok) {cs : List Nat} {x y n : Int} (h0 : 0 ≤ x) (h1 : x ≤ y) (h2 : y ≤ w.cap) (hn : 0 ≤ n) : (stt w (x, n) cs).1 ≤ (stt w (y, n) cs).1 := stR_mono h (cs := cs) h0 h1 h2 hn 1
theorem ask_step {w : Wn} (h : w.Ok) {x n : Int} (h0 : 0 ≤ x) (h1 : x ≤ w.cap) : x ≤ (stt w (x, n) [97]).1 ∧ (stt w (x, n) [97]).1 ≤ w.cap ∧ (x = 0 ↔ (stt w (x, n) [97]).1 = 0) := by
  have c1 := h.c1
  have l1 := h.l1
  have e : (stt w (x, n) [97]).1 = lifted1 w x := rfl
  rw [e]
  unfold lifted1
  refine ⟨?_, ?_, ?_⟩
  all_goals (split <;> try split) <;> omega
theorem turn_step {w : Wn} (h : w.Ok) {x n : Int} (h0 : 0 ≤ x) (h1 : x ≤ w.cap) (hn : 0 ≤ n) : 0 ≤ (stt w (x, n) [46]).1 ∧ (stt w (x, n) [46]).1 ≤ x := by
  have e : (stt w (x, n) [46]).1 = waned1 w x n := rfl
  obtain ⟨s1, s2, s3, s4⟩ := stepAt_ok h hn
  have e1 : x / (stepAt w n).1 ≤ x := Int.ediv_le_self _ h0
  rw [e]
  unfold waned1
  split <;> omega
section
variable {w : Wn} (h : w.Ok) {cs : List Nat} {n : Int} (hn : 0 ≤ n)
include h hn
theorem three {x : Int} (h0 : 0 ≤ x) (h1 : x ≤ w.cap) : 0 ≤ (stt w (x, n) (cs ++ [46])).1 ∧ (stt w (x, n) (cs ++ [46])).1 ≤ (stt w (x, n) cs).1 ∧ (stt w (x, n) cs).1 ≤ (stt w (x, n) (cs ++ [97])).1 ∧ (stt w (x, n) (cs ++ [97])).1 ≤ w.cap ∧ ((stt w (x, n) cs).1 = 0 ↔ (stt w (x, n) (cs ++ [97])).1 = 0) := by
  have b := stt_ok h cs (s := (x, n)) ⟨h0, h1⟩ hn
  rw [stt_app, stt_app]
  generalize stt w (x, n) cs = s at b ⊢
  obtain ⟨y, m⟩ := s
  have a := ask_step h (n := m) b.1.1 b.1.2
  have t := turn_step h b.1.1 b.1.2 b.2.1
  exact ⟨t.1, t.2, a.1, a.2.1, a.2.2⟩
theorem gone_more (ds : List Nat) (e : rowE w n cs = none) : rowE w n (cs ++ ds) = none := by
  rw [row_app h hn, e]
  rfl
theorem ask_least {e : Ef} (he : rowE w n cs = some e) : ∃ a, rowE w n (cs ++ [97]) = some a ∧ a.least = e.least := by
  have c1 := h.c1
  obtain ⟨p1, p2, p3, p4, p5⟩ := row_least h hn he
  have t := row_top h hn he
  cases ha : rowE w n (cs ++ [97]) with
  | none =>
    have z := row_none h hn ha
    have q := (three h hn (cs := cs) (x := w.cap) (by omega) (Int.le_refl _)).2.2.2.2.mpr z
    omega
  | some a =>
    refine ⟨a, rfl, ?_⟩
    obtain ⟨q1, q2, q3, q4, q5⟩ := row_least h hn ha
    rcases Int.lt_trichotomy a.least e.least with lt | eq | gt
    · have z := (three h hn (cs := cs) (x := a.least) (by omega) q2).2.2.2.2
      have m := row_mono h (cs := cs) (x := a.least) (y := e.least - 1) (by omega) (by omega) (by omega) hn
      have b := (stt_ok h cs (s := (a.least, n)) ⟨by show 0 ≤ a.least; omega, q2⟩ hn).1.1
      exact absurd (z.mp (by omega)) q4
    · exact eq
    · have z := (three h hn (cs := cs) (x := a.least - 1) (by omega) (by omega)).2.2.2.2
      have m := row_mono h (cs := cs) (x := e.least) (y := a.least - 1) (by omega) (by omega) (by omega) hn
      have b := (stt_ok h cs (s := (e.least, n)) ⟨by show 0 ≤ e.least; omega, p2⟩ hn).1.1
      have y := z.mpr q5
      exact absurd (by omega) p4
theorem turn_least {e a : Ef} (he : rowE w n cs = some e) (ha : rowE w n (cs ++ [46]) = some a) : e.least ≤ a.least := by
  obtain ⟨p1, p2, p3, p4, p5⟩ := row_least h hn he
  obtain ⟨q1, q2, q3, q4, q5⟩ := row_least h hn ha
  rcases Int.lt_or_le a.least e.least with lt | le
  · have z := three h hn (cs := cs) (x := a.least) (by omega) q2
    have m := row_mono h (cs := cs) (x := a.least) (y := e.least - 1) (by omega) (by omega) (by omega) hn
    exact absurd (by omega) q4
  · exact le
end
end Vf
namespace Vf
open PySem PySem.Spec PyProof.Rows L2 RZ
/-! ## d.setdefault(k, v), the keys tuples of numbers and texts -/
def rSetdT : V → List V → Hp → VK → Prop := fun x xs H Q => ∃ (a : Addr) (kvs : List (List L2.Key × V)) (k : List L2.Key) (b : Addr) (d : V), x = .ref a ∧ xs = [.ref b, d] ∧ H a = some (.dT kvs) ∧ H b = some (.tup (k.map kV)) ∧ kvs.length < sizeLine ∧
  (∀ v, valV kvs k = some v → Q v H) ∧ (valV kvs k = none → Q d (upd H a (.dT (putK kvs k d))))
theorem mt_setdT {X : Cx} (hu : X.A.units + 1 < cLine) : MtR X "dict.setdefault" rSetdT := by
  intro pins s σ H x xs v us Q I rx rxs h
  obtain ⟨a, kvs, k, b, d, rfl, rfl, ha, hb, hl, q1, q2⟩ := h
  cases rx
  obtain ⟨u1, u2, rfl, r1, r2⟩ := vals2 rxs
  cases r1
  obtain ⟨z, hd, xs', rel, dd⟩ := dt_of I.hok ha
  have hz : xs'.length ≤ sizeLine := by rw [← Paired.length rel]; exact z
  refine call_setdefault_heap (hsz := hz) (knd := tupleKind (mixKind X.prog X.w)) (k := k) (tupleKind_room_in1 hu) (key_of I.hok hb) hd dd (fun p hp => ?_) fun hn h' dd' hs => ?_
  · have r := rel.val k
    rw [hp] at r
    obtain ⟨v0, ev, rv⟩ : ∃ v0, valV kvs k = some v0 ∧ RelV v0 p.2 := by
      cases ev : valV kvs k with
      | none =>
        rw [ev] at r
        exact (show False from r).elim
      | some v0 =>
        rw [ev] at r
        exact ⟨v0, rfl, r⟩
    show EP X pins σ Q p.2 _
    exact ⟨v0, H, I.tok _, rv, q1 v0 ev⟩
  · have r := rel.val k
    rw [hn] at r
    have e : valV kvs k = none := by
      cases ev : valV kvs k with
      | none => rfl
      | some v0 =>
        rw [ev] at r
        exact (show False from r).elim
    obtain ⟨o, es, ep, hq, h2, h3, h4, _, h5⟩ := dd'
    have hl2 : (putK kvs k d).length ≤ sizeLine := by
      have := length_putK kvs k d
      omega
    have I2 : Inv X pins σ (upd H a (.dT (putK kvs k d))) { s with heap := h', toks := s.toks + (tupleKind (mixKind X.prog X.w)).draws k } :=
      d_write I (by rw [ha]; exact True.intro) hs ⟨o, hq⟩ ⟨hl2, hd, _, (KT.put rel k hb r2).keeps (fun c ys ec => (by rw [upd_ne (ne_of ec ha (fun z => nomatch z))]; exact ec)), o, es, ep, hq, h2, h3, h4, h5⟩
    show EP X pins σ Q u2 _
    exact ⟨d, _, I2, r2, q2 e⟩
/-! ### such a dict beside the bag -/
section
variable {K : PySem.W.Frag} {S M : AS} {H0 H H' : Hp} {G : List (V × D)} {B : List Addr} {Q : VK} {pd : Addr}
theorem Bag.upd {a : Addr} {o : HO} (hs : S pd) (n : a ≠ pd) (h : Bag K S H a) : Bag K S (L2.upd H pd o) a := by
  obtain ⟨r, x, i, c, ns, h1, hc, h2, h3, h4, h5, h6, h7⟩ := h.get
  have nc : c ≠ pd := fun e => hc (by rw [e]; exact hs)
  have e1 : L2.upd H pd o a = some (.lst [.int r, .int x, .int i, .ref c]) := by rw [upd_ne n]; exact h1
  have e2 : L2.upd H pd o c = some (.lst (ns.map V.int)) := by rw [upd_ne nc]; exact h2
  exact Bag.mk' e1 hc e2 h3 h4 h5 h6 h7
theorem St.updB (st : Vf.St K S M H0 H G [] B) (hs : S pd) (hB : pd ∉ B) (hm : H0 pd = none ∨ M pd) (o : HO) : Vf.St K S M H0 (L2.upd H pd o) G [] B := by
  refine ⟨fun b s => ?_, fun b u nm e => ?_, fun b e => ?_, fun p hp => Dz.keep kp_upd (fun b e => by rw [e]; exact hs) (st.ga p hp), fun p hp => by simp at hp, fun a ha => ?_, st.nd⟩
  · by_cases z : b = pd
    · subst z; rw [upd_same]; exact fun w => by cases w
    · rw [upd_ne z]; exact st.ok b s
  · have z : b ≠ pd := fun z => by
      rw [z] at e nm
      exact hm.elim (fun q => by rw [q] at e; cases e) nm
    rw [upd_ne z]; exact st.kp b u nm e
  · by_cases z : b = pd
    · subst z; rw [upd_same]; exact fun w => by cases w
    · rw [upd_ne z]; exact st.dm b e
  · obtain ⟨h1, h2, h3⟩ := st.ba a ha
    exact ⟨h1, h2, h3.upd hs fun e => hB (by rw [← e]; exact ha)⟩
theorem St.newB (st : Vf.St K S M H0 H G [] B) (n : H pd = none) (o : HO) : Vf.St K (fun b => S b ∨ b = pd) M H0 (L2.upd H pd o) G [] B := by
  have hB : pd ∉ B := fun m => by
    obtain ⟨_, _, h3⟩ := st.ba pd m
    obtain ⟨r, x, i, c, ns, h1, _⟩ := h3.get
    rw [n] at h1; cases h1
  refine ⟨fun b s => ?_, fun b u nm e => ?_, fun b e => ?_, fun p hp => Dz.keep kp_upd (fun b e => .inr e) (Dz.fresh n (st.ga p hp)), fun p hp => by simp at hp, fun a ha => ?_, st.nd⟩
  · by_cases z : b = pd
    · subst z; rw [upd_same]; exact fun w => by cases w
    · rw [upd_ne z]
      exact s.elim (st.ok b) fun e => absurd e z
  · have z : b ≠ pd := fun z => by rw [z, st.h0 n] at e; cases e
    rw [upd_ne z]; exact st.kp b u nm e
  · by_cases z : b = pd
    · subst z; rw [upd_same]; exact fun w => by cases w
    · rw [upd_ne z]; exact st.dm b e
  · obtain ⟨h1, h2, h3⟩ := st.ba a ha
    exact ⟨.inl h1, h2, (h3.fresh n).upd (.inr rfl) fun e => hB (by rw [← e]; exact ha)⟩
/-- from here on: what isn't the bag is as it is now -/
theorem St.rebaseB (st : Vf.St K S M H0 H G [] B) : Vf.St K S (fun c => c ∈ B) H H G [] B :=
  ⟨st.ok, fun _ _ _ e => e, fun _ e => e, st.ga, fun p hp => by simp at hp, fun a ha => ⟨(st.ba a ha).1, .inr ha, (st.ba a ha).2.2⟩, st.nd⟩
end
end Vf
namespace Vf
open PySem PySem.Spec PyProof.Rows L2 RZ
/-! ## two effects behind each other, their size -/
theorem Ef.At.In2 {e : Ef} {m : Nat} (h : e.At m) (hm : m ≤ 30) : e.In 200 := by
  have h0 := two_pos (4 * m)
  have e1 : (2 : Int) ^ (4 * m + 40) = 2 ^ (4 * m) * 1099511627776 := by rw [Int.pow_add]; rfl
  obtain ⟨p, y, a1, a2, l1, l2, t1, t2⟩ := h
  refine ⟨?_, ?_, p, ?_, ?_⟩
  all_goals
    refine natAbs_two (k := 4 * m + 40) ?_ ?_ (by omega) <;> rw [e1] <;> generalize (2 : Int) ^ (4 * m) = z at * <;> omega
theorem ediv_abs {x y : Int} (h : 1 ≤ y) : (x / y).natAbs ≤ x.natAbs := by
  have h1 := Int.ediv_mul_le x (show y ≠ 0 by omega)
  have h2 := Int.lt_ediv_add_one_mul_self x (show 0 < y by omega)
  by_cases hx : 0 ≤ x
  · have a := Int.ediv_le_self y hx
    have b := Int.ediv_nonneg hx (show 0 ≤ y by omega)
    omega
  · have b : x / y < 0 := Int.ediv_neg_of_neg_of_pos (by omega) (by omega)
    have c : x ≤ x / y := Int.le_ediv_of_mul_le (by omega) (by
      have : x * y ≤ x * 1 := Int.mul_le_mul_of_nonpos_left (by omega) (by omega)
      omega)
    omega
theorem chn_In {a b e : Ef} (ha : a.In 200) (hb : b.In 200) (h : chn (some a) (some b) = some e) : e.In 500 := by
  obtain ⟨_, rfl⟩ := chn_some h
  obtain ⟨al, aa, ap, ay, at_⟩ := ha
  obtain ⟨bl, ba, bp, by_, bt⟩ := hb
  have m1 : (b.least * a.by_).natAbs ≤ 2 ^ 200 * 2 ^ 200 := by rw [Int.natAbs_mul]; exact Nat.mul_le_mul (Nat.le_of_lt bl) (Nat.le_of_lt ay)
  have m2 : (b.add * a.by_).natAbs ≤ 2 ^ 200 * 2 ^ 200 := by rw [Int.natAbs_mul]; exact Nat.mul_le_mul (Nat.le_of_lt ba) (Nat.le_of_lt ay)
  have m3 : (a.by_ * b.by_).natAbs ≤ 2 ^ 200 * 2 ^ 200 := by rw [Int.natAbs_mul]; exact Nat.mul_le_mul (Nat.le_of_lt ay) (Nat.le_of_lt by_)
  have m4 : 1 ≤ a.by_ * b.by_ := by
    have := Int.mul_le_mul ap bp (by decide) (by omega)
    omega
  have d := ediv_abs (x := a.top + b.add) bp
  have big : 2 ^ 200 * 2 ^ 200 + 2 ^ 200 < 2 ^ 500 := by decide +kernel
  have two : 2 ^ 200 + 2 ^ 200 < 2 ^ 500 := by decide +kernel
  have g : (mx a.least (b.least * a.by_ - a.add)).natAbs < 2 ^ 500 ∧ (a.add + b.add * a.by_).natAbs < 2 ^ 500 ∧ (a.by_ * b.by_).natAbs < 2 ^ 500 ∧ (mn b.top ((a.top + b.add) / b.by_)).natAbs < 2 ^ 500 := by
    generalize 2 ^ 500 = Z at *
    generalize 2 ^ 200 * 2 ^ 200 = Y at *
    generalize 2 ^ 200 = X at *
    refine ⟨?_, ?_, ?_, ?_⟩
    · unfold mx
      split <;> omega
    · omega
    · omega
    · unfold mn
      split <;> omega
  exact ⟨g.1, g.2.1, m4, g.2.2.1, g.2.2.2⟩
theorem efIn_fine {e : Ef} (h : e.In 500) : e.d.fine = true := by
  have f : ∀ i : Int, i.natAbs < 2 ^ 500 → (D.int i).fine = true := fun i hi => (int_okB (Nat.lt_trans hi (Nat.pow_lt_pow_right (by decide) (by decide)))).fine
  have e1 := f _ h.l
  have e2 := f _ h.a
  have e3 := f _ h.y
  have e4 := f _ h.t
  simp only [Ef.d, D.fine, D.fines, Bool.and_eq_true] at *
  exact ⟨e1, e2, e3, e4, trivial⟩
theorem efO_ok {o : Option Ef} (h : ∀ e, o = some e → e.In 500) : (efD o).Ok := by
  have w := efD_wt o
  have d := efD_dep o
  refine ⟨?_, by omega, by omega⟩
  cases o with
  | none => rfl
  | some e => exact efIn_fine (h e rfl)
theorem ef2_ok {o p : Option Ef} (h1 : ∀ e, o = some e → e.In 500) (h2 : ∀ e, p = some e → e.In 500) : (D.tup [efD o, efD p]).Ok := by
  have f1 := (efO_ok h1).fine
  have f2 := (efO_ok h2).fine
  have w1 := efD_wt o
  have w2 := efD_wt p
  have d1 := efD_dep o
  have d2 := efD_dep p
  refine ⟨?_, ?_, ?_⟩
  · have : (D.tup [efD o, efD p]).fine = ((efD o).fine && ((efD p).fine && true)) := by simp only [D.fine, D.fines]
    rw [this, f1, f2]; rfl
  · simp only [D.wt, D.wts]; omega
  · simp only [D.dep, D.deps]; omega
theorem g_par3 {D0 : Ends} {σ : L2.St} {H : Hp} {i j l : Nat} {t : TA} (h : t σ H fun vs H1 => ∃ u v w, vs = [u, v, w] ∧ D0.nx (((σ.set i (some u)).set j (some v)).set l (some w)) H1) : tPar3 i j l t D0 σ H := h
/-- from here on -/
theorem St.rebaseT {K : PySem.W.Frag} {S M : AS} {H0 H : Hp} {G : List (V × D)} {B : List Addr} (st : Vf.St K S M H0 H G [] B) : Vf.St K S (fun _ => True) H H G [] B :=
  ⟨st.ok, fun _ _ _ e => e, fun _ e => e, st.ga, fun p hp => by simp at hp, fun a ha => ⟨(st.ba a ha).1, .inr trivial, (st.ba a ha).2.2⟩, st.nd⟩
end Vf
namespace Vf
open PySem PySem.Spec PyProof.Rows L2 RZ
/-! ## new things told as new; fates by walking -/
section
variable {K : PySem.W.Frag} {S M : AS} {H0 H : Hp} {G : List (V × D)} {L : List (Addr × List D)} {B : List Addr} {Q : VK} {E : XK} {ds : List D} {xs vs : List V}
theorem d_tupH (st : Vf.St K S M H0 H G L B) (hz : DzL K S H ds xs) (hl : xs.length ≤ 100000) (q : ∀ p H', H p = none → H' p = some (.tup xs) → Vf.St K S M H0 H' ((.ref p, .tup ds) :: G) L B → Q (.ref p) H') : FTup Q xs H :=
  ⟨Nat.le_trans hl (by decide), fun p n => q p _ n upd_same (st.tup n hz)⟩
theorem v_catN {a b : Addr} {es : List D} (st : Vf.St K S M H0 H G L B) (h : Dz K S H (.lst ds) (.ref a)) (h' : Dz K S H (.lst es) (.ref b)) (hl : ds.length + es.length ≤ sizeLine) (q : ∀ p H', H p = none → Vf.St K S M H0 H' ((.ref p, .lst (ds ++ es)) :: G) L B → Q (.ref p) H') : rAddG K (.ref a) (.ref b) H Q := by
  obtain ⟨xs, h1, h2⟩ := z_lst h
  obtain ⟨ys, h3, h4⟩ := z_lst h'
  exact .inr (.inr (.inl ⟨a, b, xs, ys, rfl, rfl, h1.2, h3.2, by rw [h2.len, h4.len]; exact hl, fun p n => q p _ n (st.lst n (h2.app h4))⟩))
theorem c_NewGn {α : Type} {enc : α → List D} {pre : α → Prop} {f : α → List D} (x : α) (st : Vf.St K S M H0 H G L B) (hz : DzL K S H (enc x) vs) (hp : pre x) (q : ∀ b H', H b = none → Vf.St K S M H0 H' ((.ref b, .lst (f x)) :: G) L B → Q (.ref b) H') : spNewL K enc pre f vs H Q E :=
  ⟨S, x, st.ok, hz, hp, fun b H' _ e n hb h => q b H' n ((st.adopt e n hb h).give (st.nS n))⟩
theorem St.fresh0 (st : Vf.St K S M H0 H G L B) : Vf.St K S (fun _ => False) H H G [] [] :=
  ⟨st.ok, fun _ _ _ e => e, fun _ e => e, st.ga, fun p hp => by simp at hp, fun a ha => by simp at ha, List.nodup_nil⟩
end
section
variable {H : Hp} {Q : VK} {a b : Addr} {kvs : List (List L2.Key × V)} {k : List L2.Key} {v : V}
theorem t_din (h : H a = some (.dT kvs)) (hb : H b = some (.tup (k.map kV))) (q : Q (.bl (valV kvs k).isSome) H) : FDin (.ref b) Q (.ref a) H := ⟨a, _, rfl, DGet.t h hb, q⟩
theorem t_dgt (h : H a = some (.dT kvs)) (hb : H b = some (.tup (k.map kV))) (e : valV kvs k = some v) (q : Q v H) : FDgt (.ref a) Q (.ref b) H := ⟨a, v, rfl, by rw [← e]; exact DGet.t h hb, q⟩
theorem t_dpt {D : Ends} {σ : L2.St} (h : H a = some (.dT kvs)) (hb : H b = some (.tup (k.map kV))) (hl : kvs.length < 100000) (q : D.nx σ (upd H a (.dT (putK kvs k v)))) : FDpt v (.ref a) D σ (.ref b) H := ⟨a, _, rfl, DPut.t h hb (Nat.lt_of_lt_of_le hl (by decide)), q⟩
end
theorem sIx_n {n d j : Nat} : HT.sIx n d (some ((j : Nat) : Int)) = min j n := by
  show (if ((j : Nat) : Int) < 0 then (((j : Nat) : Int) + (n : Nat)).toNat else min ((j : Nat) : Int).toNat n) = _
  rw [if_neg (by omega), Int.toNat_natCast]
/-- keys by a function of the place, the values the places -/
def kvT (f : Nat → List L2.Key) (k : Nat) : List (List L2.Key × V) := (List.range k).map fun j => (f j, V.int (j : Nat))
theorem kvT_some {f : Nat → List L2.Key} {k : Nat} {p : List L2.Key} {v : V} (h : valV (kvT f k) p = some v) : ∃ j, j < k ∧ f j = p ∧ v = V.int (j : Nat) := by
  unfold valV kvT at h
  obtain ⟨kv, h1, h2⟩ := Option.map_eq_some_iff.mp h
  have m := List.mem_of_find?_eq_some h1
  have t := List.find?_some h1
  obtain ⟨j, hj, rfl⟩ := List.mem_map.mp m
  refine ⟨j, List.mem_range.mp hj, ?_, h2.symm⟩
  simpa using t
theorem kvT_fresh {f : Nat → List L2.Key} {k : Nat} {p : List L2.Key} (h : valV (kvT f k) p = none) : ∀ j, j < k → f j ≠ p := by
  intro j hj e
  unfold valV kvT at h
  rw [Option.map_eq_none_iff, List.find?_eq_none] at h
  refine h (f j, V.int (j : Nat)) (List.mem_map.mpr ⟨j, List.mem_range.mpr hj, rfl⟩) ?_
  rw [e]
  simp
theorem kvT_put {f : Nat → List L2.Key} {k : Nat} (h : ∀ j, j < k → f j ≠ f k) : putK (kvT f k) (f k) (V.int (k : Nat)) = kvT f (k + 1) := by
  unfold putK
  rw [if_neg ?_]
  · unfold kvT
    rw [List.range_succ, List.map_append]
    rfl
  · intro e
    obtain ⟨kv, h1, h2⟩ := List.any_eq_true.mp e
    obtain ⟨j, hj, rfl⟩ := List.mem_map.mp h1
    exact h j (List.mem_range.mp hj) (by simpa using h2)
theorem kvT_len (f : Nat → List L2.Key) (k : Nat) : (kvT f k).length = k := by unfold kvT; rw [List.length_map, List.length_range]
/-! ### the fate, by walking till a state comes again -/
section
variable {w : Wn} {cs : List Nat} {x n : Int}
/-- the states ahead of the t-th are all apart -/
def Apart (w : Wn) (cs : List Nat) (x n : Int) (t : Nat) : Prop := ∀ i j, i < j → j < t → ¬ ((stR w cs (x, n) i).1 = (stR w cs (x, n) j).1 ∧ phase w (nxs w cs n i) = phase w (nxs w cs n j))
theorem FateS.again (h : w.Ok) (hx : 0 ≤ x ∧ x ≤ w.cap) (hn : 0 ≤ n) {r : Nat} {ds : List Int} (g : FateS w cs x n r ds) :
    0 < ds.length ∧ (stR w cs (x, n) (r + ds.length)).1 = (stR w cs (x, n) r).1 ∧ phase w (nxs w cs n (r + ds.length)) = phase w (nxs w cs n r) ∧ ds = (List.range ds.length).map fun i => (stR w cs (x, n) (r + i)).1 := by
  obtain ⟨lead, kk, h1, h2, h3, h4, h5, h6, h7, h8⟩ := g.cyc
  have e : ds.length = kk - lead := by rw [h5, List.length_map, List.length_range]
  rw [e]
  exact ⟨by omega, h7, ph_cyc h hn h1 h3 h6, h5⟩
theorem FateS.bound (h : w.Ok) (hx : 0 ≤ x ∧ x ≤ w.cap) (hn : 0 ≤ n) {r : Nat} {ds : List Int} (g : FateS w cs x n r ds) {t : Nat} (hd : Apart w cs x n t) : t ≤ r + ds.length := by
  obtain ⟨p, e1, e2, _⟩ := g.again h hx hn
  refine Decidable.byContradiction fun q => hd r (r + ds.length) (by omega) (by omega) ⟨e1.symm, e2.symm⟩
/-- so many times around -/
theorem around (h : w.Ok) (hx : 0 ≤ x ∧ x ≤ w.cap) (hn : 0 ≤ n) {k c : Nat} (e1 : (stR w cs (x, n) (k + c)).1 = (stR w cs (x, n) k).1) (e2 : phase w (nxs w cs n (k + c)) = phase w (nxs w cs n k)) (i : Nat) : ∀ j, (stR w cs (x, n) (k + j * c + i)).1 = (stR w cs (x, n) (k + i)).1 ∧ phase w (nxs w cs n (k + j * c + i)) = phase w (nxs w cs n (k + i))
  | 0 => by rw [Nat.zero_mul, Nat.add_zero]; exact ⟨rfl, rfl⟩
  | j + 1 => by
    have ih := around h hx hn e1 e2 i j
    have s := stR_same h hx hn e1 e2 (j * c + i)
    rw [show k + (j + 1) * c + i = k + c + (j * c + i) by rw [Nat.succ_mul]; omega]
    rw [show k + (j * c + i) = k + j * c + i by omega] at s
    exact ⟨s.1.trans ih.1, s.2.trans ih.2⟩
theorem FateS.found (h : w.Ok) (hx : 0 ≤ x ∧ x ≤ w.cap) (hn : 0 ≤ n) {r : Nat} {ds : List Int} (g : FateS w cs x n r ds) {k t : Nat} (hkt : k < t) (hd : Apart w cs x n t) (e1 : (stR w cs (x, n) t).1 = (stR w cs (x, n) k).1) (e2 : phase w (nxs w cs n t) = phase w (nxs w cs n k)) :
    k = r ∧ t = r + ds.length := by
  have bd := g.bound h hx hn hd
  obtain ⟨p0, a1, a2, _⟩ := g.again h hx hn
  obtain ⟨lead, kk, h1, h2, h3, h4, h5, h6, h7, h8⟩ := g.cyc
  have hP : kk - lead = ds.length := by rw [h5, List.length_map, List.length_range]
  obtain ⟨c, rfl⟩ : ∃ c, t = k + c := ⟨t - k, by omega⟩
  clear h5
  rw [hP] at h7 h8
  generalize ds.length = P at *
  have c0 : 0 < c := by omega
  -- from k on the states come again each P rounds
  have kr : ¬ k < r := fun q => by
    have far : r ≤ k + r * c := by
      have : r * 1 ≤ r * c := Nat.mul_le_mul_left _ c0
      omega
    have s := stR_same h hx hn a1 a2 (k + r * c - r)
    rw [show r + P + (k + r * c - r) = k + r * c + P by omega, show r + (k + r * c - r) = k + r * c + 0 by omega] at s
    have s1 := around h hx hn e1 e2 P r
    have s2 := around h hx hn e1 e2 0 r
    have kP1 : (stR w cs (x, n) (k + P)).1 = (stR w cs (x, n) k).1 := (s1.1.symm.trans s.1).trans s2.1
    have kP2 : phase w (nxs w cs n (k + P)) = phase w (nxs w cs n k) := (s1.2.symm.trans s.2).trans s2.2
    have z := stR_same h hx hn kP1 kP2 (r - 1 - k)
    rw [show k + P + (r - 1 - k) = r - 1 + P by omega, show k + (r - 1 - k) = r - 1 by omega] at z
    exact h8 (r - 1) (by omega) z
  have cP : ¬ c < P := fun q => by
    have m1 := nxs_mod h hn h1 h3 (k - lead)
    have m2 := nxs_mod h hn h1 h3 (k + c - lead)
    rw [show lead + (k - lead) = k by omega] at m1
    rw [show lead + (k + c - lead) = k + c by omega] at m2
    rw [hP] at m1 m2
    rw [m1, m2] at e2
    have b1 := Nat.mod_lt (k - lead) p0
    have b2 := Nat.mod_lt (k + c - lead) p0
    have ne : (k + c - lead) % P ≠ (k - lead) % P := fun z => by
      have z2 : ((k - lead) + c) % P = (k - lead) % P := by rw [← z]; congr 1; omega
      have d : P ∣ c := by
        have := (Nat.dvd_sub_mod (k - lead + c) (n := P))
        have t := Nat.dvd_sub_mod (k - lead) (n := P)
        rw [z2] at this
        have q3 := Nat.dvd_sub this t
        rw [show k - lead + c - (k - lead) % P - (k - lead - (k - lead) % P) = c by
          have := Nat.mod_le (k - lead) P
          omega] at q3
        exact q3
      have := Nat.le_of_dvd c0 d
      omega
    rcases Nat.lt_or_gt_of_ne ne with z | z
    · exact h4 _ _ (by omega : lead + (k + c - lead) % P < lead + (k - lead) % P) (by omega) e2
    · exact h4 _ _ (by omega : lead + (k - lead) % P < lead + (k + c - lead) % P) (by omega) e2.symm
  exact ⟨by omega, by omega⟩
theorem FateG.bound (h : w.Ok) (hx : 0 ≤ x ∧ x ≤ w.cap) (hn : 0 ≤ n) {r i : Nat} (g : FateG w cs x n r i) {t : Nat} (ht : (stR w cs (x, n) t).1 ≠ 0) : t ≤ r := by
  refine Decidable.byContradiction fun q => ht ?_
  have := stR_gone h hx hn (g.gone h hx hn) (t - (r + 1))
  rw [show r + 1 + (t - (r + 1)) = t by omega] at this
  exact this
theorem FateR.bound (h : w.Ok) (hx : 0 ≤ x ∧ x ≤ w.cap) (hn : 0 ≤ n) {d : D} (g : FateR w cs x n d) : ∃ b, b ≤ 10 ^ 11 + 48 ∧ ∀ t, Apart w cs x n t → (stR w cs (x, n) t).1 ≠ 0 → t ≤ b := by
  rcases g with ⟨r, i, _, g⟩ | ⟨r, ds, _, g⟩
  · exact ⟨r, Nat.le_trans g.far (by decide), fun t _ ht => g.bound h hx hn ht⟩
  · exact ⟨r + ds.length, Nat.add_le_add g.far g.len, fun t hd _ => g.bound h hx hn hd⟩
theorem FateR.goes (h : w.Ok) (hx : 0 ≤ x ∧ x ≤ w.cap) (hn : 0 ≤ n) {d : D} (g : FateR w cs x n d) {t i : Nat} (hi : i < cs.length) (hz : (stt w (stR w cs (x, n) t) (cs.take (i + 1))).1 = 0) (ha : ∀ j, j ≤ i → (stt w (stR w cs (x, n) t) (cs.take j)).1 ≠ 0) :
    FateR w cs x n (.tup [.str (Str.ofString "goes"), .int (t : Nat), .int (i : Nat)]) := by
  have h0 : (stR w cs (x, n) t).1 ≠ 0 := ha 0 (Nat.zero_le _)
  have far : t ≤ 10 ^ 11 := by
    rcases g with ⟨r, i, _, g⟩ | ⟨r, ds, _, g⟩
    · exact Nat.le_trans (g.bound h hx hn h0) g.far
    · exfalso
      have b := stR_ok h (cs := cs) hx hn t
      have b2 := stt_ok h (cs.take (i + 1)) b.1 b.2
      have e : stt w (stR w cs (x, n) t) cs = stt w (stt w (stR w cs (x, n) t) (cs.take (i + 1))) (cs.drop (i + 1)) := by
        rw [← stt_app, List.take_append_drop]
      have s := g.st (t + 1)
      have s : 0 < (stt w (stR w cs (x, n) t) cs).1 := s
      rw [e] at s
      generalize stt w (stR w cs (x, n) t) (cs.take (i + 1)) = u at *
      obtain ⟨u1, u2⟩ := u
      have hz : u1 = 0 := hz
      subst hz
      rw [stt_zero h _ b2.2.1] at s
      exact absurd s (by decide)
  exact .inl ⟨t, i, rfl, hi, hz, ha, far⟩
theorem FateR.stays (h : w.Ok) (hx : 0 ≤ x ∧ x ≤ w.cap) (hn : 0 ≤ n) {d : D} (g : FateR w cs x n d) {k t : Nat} (hkt : k < t) (hd : Apart w cs x n t) (h0 : (stR w cs (x, n) k).1 ≠ 0) (e1 : (stR w cs (x, n) t).1 = (stR w cs (x, n) k).1) (e2 : phase w (nxs w cs n t) = phase w (nxs w cs n k)) :
    FateR w cs x n (.tup [.str (Str.ofString "stays"), .int (k : Nat), .lst (((List.range (t - k)).map fun i => (stR w cs (x, n) (k + i)).1).map D.int)]) := by
  rcases g with ⟨r, i, _, g⟩ | ⟨r, ds, _, g⟩
  · exfalso
    obtain ⟨c, rfl⟩ : ∃ c, t = k + c := ⟨t - k, by omega⟩
    have a := (around h hx hn e1 e2 0 (r + 1)).1
    have b := g.bound h hx hn (t := k + (r + 1) * c + 0) (by rw [a]; exact h0)
    have : (r + 1) * 1 ≤ (r + 1) * c := Nat.mul_le_mul_left _ (by omega)
    omega
  · obtain ⟨rfl, rfl⟩ := g.found h hx hn hkt hd e1 e2
    have e := (g.again h hx hn).2.2.2
    refine .inr ⟨k, ds, ?_, g⟩
    rw [show k + ds.length - k = ds.length by omega, ← e]
end
end Vf
namespace Vf
open PySem PySem.Spec PyProof.Rows L2 RZ
/-! ## what a def tells of good things, and how it refuses the others -/
theorem FnOk.lift {P : Program} {w : World} {K : PySem.W.Frag} {mg : Str → Option Value} {base : Heap} {CX : CXT} {k : Nat} {f : Addr} {fd : FuncData} {ps : List Str} {sp : Sp} (F : FnOk P w K mg base CX0 k f fd ps sp) : FnOk P w K mg base CX k f fd ps sp :=
  ⟨F.len, fun A outer s H args us vs Q E hr he hb hv hs => codeAny_mono (F.run A outer s H args us vs Q E hr he hb hv hs) fun r s' h => by
    cases r with
    | ok u => cases u <;> exact h
    | error e => exact False.elim h⟩
def spOr (a b : Sp) : Sp := fun vs H Q E => a vs H Q E ∨ b vs H Q E
theorem FnOk.or {P : Program} {w : World} {K : PySem.W.Frag} {mg : Str → Option Value} {base : Heap} {CX : CXT} {k : Nat} {f : Addr} {fd : FuncData} {ps : List Str} {a b : Sp} (F : FnOk P w K mg base CX k f fd ps a) (G : FnOk P w K mg base CX k f fd ps b) : FnOk P w K mg base CX k f fd ps (spOr a b) :=
  ⟨fun vs H Q E h => h.elim (F.len vs H Q E) (G.len vs H Q E), fun A outer s H args us vs Q E hr he hb hv h => h.elim (F.run A outer s H args us vs Q E hr he hb hv) (G.run A outer s H args us vs Q E hr he hb hv)⟩
section
variable {α : Type} (K : PySem.W.Frag) (Wr : Addr) (enc : α → List D) (pre : α → Prop) (plc : α → Nat)
/-- refused, with the place -/
def spBad : Sp := fun vs H Q E => ∃ S a, Okk S H ∧ DzL K S H (enc a) vs ∧ pre a ∧ ∀ dx H', Same H H' → H dx = none → H' dx = some (.xd [("place", .int (plc a : Nat))]) → E (.ref Wr) (some dx) H'
end
section
variable {α : Type} {K : PySem.W.Frag} {Wr : Addr} {enc : α → List D} {pre : α → Prop} {plc : α → Nat} {S M : AS} {H0 H : Hp} {G : List (V × D)} {L : List (Addr × List D)} {B : List Addr} {Q : VK} {E : XK} {vs : List V} {n : Nat}
theorem spBad_len (hn : ∀ a, (enc a).length = n) (h : spBad K Wr enc pre plc vs H Q E) : vs.length = n := by
  obtain ⟨S, a, _, hz, _⟩ := h
  rw [hz.len, hn]
theorem c_Bad (a : α) (st : Vf.St K S M H0 H G L B) (hz : DzL K S H (enc a) vs) (hp : pre a) (q : ∀ dx H', H dx = none → H' dx = some (.xd [("place", .int (plc a : Nat))]) → Vf.St K S M H0 H' G L B → E (.ref Wr) (some dx) H') : spBad K Wr enc pre plc vs H Q E :=
  ⟨S, a, st.ok, hz, hp, fun dx H' e n hx => q dx H' n hx (st.same e)⟩
end
/-- isinstance(plain thing, own class) -/
theorem kit_noC {K : PySem.W.Frag} {C : Addr} {d : D} (ic : InsQ K C) (ty : PySem.W.typeIn K (.ref C) = some (.type "type")) (n : d.noIns = true) : PySem.W.kitOne K (.type d.tn) (.ref C) = some false := by
  have cl : (PySem.W.clsIn K C).isSome = true := by
    have hd := ic.cl.hd
    unfold PySem.W.hasDictIn at hd
    cases h : PySem.W.clsIn K C with
    | none => rw [h] at hd; cases hd
    | some c => rfl
  unfold PySem.W.kitOne
  rw [if_neg (by intro e; have := beq_iff_eq.mp e; cases this)]
  show (if ((PySem.W.clsIn K C).isSome && PySem.W.typeIn K (.ref C) == some (.type "type")) = true then PySem.W.subIn K (.type d.tn) (.ref C) else none) = some false
  rw [if_pos (by rw [cl, ty]; rfl)]
  cases d <;> first | (cases n; done) | rfl
theorem d_isCn {K : PySem.W.Frag} {S : AS} {H : Hp} {C : Addr} {d : D} {x : V} {Q : VK} (c : InsQ K C) (ty : PySem.W.typeIn K (.ref C) = some (.type "type")) (h : Dz K S H d x) (n : d.noIns = true) (q : Q (.bl false) H) : rIsiG K [x, .ref C] H Q :=
  .inl ⟨x, .ref C, _, _, false, rfl, .own C, d_ty h n, kit_noC c ty n, q⟩
/-- the first that is no -/
theorem idx_first {bs : List Bool} {i : Nat} (h : bs[i]? = some false) (hn : ∀ j, j < i → bs[j]? = some true) : bs.idxOf false = i := by
  induction bs generalizing i with
  | nil => cases h
  | cons b bs ih =>
    cases i with
    | zero =>
      have h : b = false := Option.some.inj h
      subst h
      rfl
    | succ i =>
      have h0 : b = true := Option.some.inj (hn 0 (Nat.succ_pos _))
      subst h0
      rw [List.idxOf_cons, ih (i := i) h fun j hj => hn (j + 1) (by omega)]
      rfl
theorem idx_get {bs : List Bool} (h : false ∈ bs) : bs[bs.idxOf false]? = some false ∧ ∀ j, j < bs.idxOf false → bs[j]? = some true := by
  induction bs with
  | nil => cases h
  | cons b bs ih =>
    cases b with
    | false => exact ⟨rfl, fun j hj => absurd hj (Nat.not_lt_zero _)⟩
    | true =>
      have h2 : false ∈ bs := (List.mem_cons.mp h).elim (fun e => by cases e) id
      obtain ⟨h3, h4⟩ := ih h2
      have e : (true :: bs).idxOf false = bs.idxOf false + 1 := by rw [List.idxOf_cons]; rfl
      rw [e]
      refine ⟨h3, fun j hj => ?_⟩
      cases j with
      | zero => rfl
      | succ j => exact h4 j (by omega)
theorem all_true {bs : List Bool} (h : false ∉ bs) : bs = List.replicate bs.length true := by
  induction bs with
  | nil => rfl
  | cons b bs ih =>
    cases b with
    | false => exact absurd (List.mem_cons_self ..) h
    | true => rw [List.length_cons, List.replicate_succ, ← ih fun m => h (List.mem_cons_of_mem _ m)]
end Vf
namespace Vf
open PySem PySem.Spec PyProof.Rows L2 RZ
/-! ## a wane, or whatever is none -/
inductive Tg where
  | wn (w : Wn) | pl (d : D)
def Tg.d (C : Addr) : Tg → D
  | .wn w => w.d C
  | .pl d => d
def Tg.Ok : Tg → Prop
  | .wn w => w.Ok
  | .pl d => d.noIns = true
def Tg.is : Tg → Bool
  | .wn _ => true
  | .pl _ => false
def Tg.lev (x : D) (lo : Int) : Tg → Bool
  | .wn w => isWithin x lo w.cap
  | .pl _ => false
def roundD : D → Bool
  | .str z => isRow (.str z) && (decide (1 ≤ z.cps.size) && decide (z.cps.size ≤ 48))
  | _ => false
theorem roundD_of {z : Str} (h : roundD (.str z) = true) : isRow (.str z) = true ∧ 1 ≤ z.cps.size ∧ z.cps.size ≤ 48 := by
  unfold roundD at h
  rw [Bool.and_eq_true, Bool.and_eq_true, decide_eq_true_eq, decide_eq_true_eq] at h
  exact h
theorem within_int {d : D} {lo hi : Int} (h : isWithin d lo hi = true) : ∃ i : Int, d = .int i ∧ lo ≤ i ∧ i ≤ hi := by
  cases d with
  | int i => exact ⟨i, rfl, of_decide_eq_true h⟩
  | _ => cases h
theorem round_str {d : D} (h : roundD d = true) : ∃ z : Str, d = .str z ∧ isRow (.str z) = true ∧ 1 ≤ z.cps.size ∧ z.cps.size ≤ 48 := by
  cases d with
  | str z => exact ⟨z, rfl, roundD_of h⟩
  | _ => cases h
theorem lev_wn {t : Tg} {x : D} {lo : Int} (h : t.lev x lo = true) : ∃ (w : Wn) (i : Int), t = .wn w ∧ x = .int i ∧ lo ≤ i ∧ i ≤ w.cap := by
  cases t with
  | wn w =>
    obtain ⟨i, e, h1, h2⟩ := within_int h
    exact ⟨w, i, rfl, e, h1, h2⟩
  | pl d => cases h
structure Th3 where
  t : Tg
  z : D
  n : D
structure Th4 where
  t : Tg
  x : D
  z : D
  n : D
structure Th5 where
  t : Tg
  x : D
  z : D
  m : D
  n : D
/-- a plain thing, no text too long -/
def fewD (d : D) : Prop := d.noIns = true ∧ ∀ z, d = .str z → z.length ≤ 100000
def Th3.gs (a : Th3) : List Bool := [a.t.is, roundD a.z, isWithin a.n 0 (10 ^ 30)]
def Th4.gs (a : Th4) : List Bool := [a.t.is, a.t.lev a.x 1, roundD a.z, isWithin a.n 0 (10 ^ 30)]
def Th5.gs (a : Th5) : List Bool := [a.t.is, a.t.lev a.x 0, roundD a.z, isWithin a.m 0 (10 ^ 30), isWithin a.n 0 (10 ^ 30)]
def Th3.Ok (a : Th3) : Prop := a.t.Ok ∧ fewD a.z ∧ a.n.noIns = true
def Th4.Ok (a : Th4) : Prop := a.t.Ok ∧ a.x.noIns = true ∧ fewD a.z ∧ a.n.noIns = true
def Th5.Ok (a : Th5) : Prop := a.t.Ok ∧ a.x.noIns = true ∧ fewD a.z ∧ a.m.noIns = true ∧ a.n.noIns = true
end Vf
namespace Vf
open PySem PySem.Spec PyProof.Rows L2 RZ
/-! ## lists of truths; a list of texts that is empty -/
section
variable {K : PySem.W.Frag} {S : AS} {H : Hp} {Q : VK} {x y : V}
theorem flat_bls : ∀ bs : List Bool, (bs.map V.bl).all flatV = true
  | [] => rfl
  | z :: ws => by rw [List.map_cons, List.all_cons, flat_bls ws]; rfl
theorem inV_bls {b : Bool} : ∀ bs : List Bool, inV (.bl b) (bs.map V.bl) = decide (b ∈ bs)
  | [] => by simp [inV]
  | z :: ws => by
    have ih := inV_bls (b := b) ws
    unfold inV at ih ⊢
    rw [List.map_cons, List.any_cons, ih]
    by_cases h : b = z
    · subst h; simp [eqV]
    · have h' : ¬ z = b := fun e => h e.symm
      cases b <;> cases z <;> simp_all [eqV]
theorem d_inB {a : Addr} {b : Bool} {bs : List Bool} (h : Dz K S H (.lst (bs.map D.bl)) (.ref a)) (q : Q (.bl (decide (b ∈ bs))) H) : rInG K (.bl b) (.ref a) H Q := by
  refine d_inL h rfl (fun xs hx => ?_) fun xs hx => ?_
  · rw [DzL.bls _ hx]; exact flat_bls bs
  · rw [DzL.bls _ hx, inV_bls]; exact q
theorem d_indexB {a : Addr} {bs : List Bool} (h : Dz K S H (.lst (bs.map D.bl)) (.ref a)) (hf : false ∈ bs) (q : Q (.int (bs.idxOf false : Nat)) H) : rIndex K (.ref a) [.bl false] H Q := by
  obtain ⟨xs, h1, h2⟩ := z_lst h
  have ex := DzL.bls _ h2
  subst ex
  obtain ⟨g1, g2⟩ := idx_get hf
  refine ⟨a, bs.map V.bl, .bl false, bs.idxOf false, .bl false, rfl, rfl, h1.sq, rfl, flat_bls bs, by rw [List.getElem?_map, g1]; rfl, rfl, fun m z' hm e => ?_, q⟩
  rw [List.getElem?_map, g2 m hm] at e
  cases e
  rfl
theorem strs_flat : ∀ ws : List Str, D.flats (ws.map D.str) = true
  | [] => rfl
  | z :: ws => by rw [List.map_cons, D.flats, strs_flat ws]; rfl
theorem strs_lay : ∀ {ws : List Str}, (∀ z ∈ ws, PyData.strOk z = true) → PyData.canLayAll0 (D.pys (ws.map D.str)) = true ∧ PyData.depthAll (D.pys (ws.map D.str)) = 0
  | [], _ => ⟨rfl, rfl⟩
  | z :: ws, h => by
    obtain ⟨h1, h2⟩ := strs_lay (ws := ws) fun y m => h y (List.mem_cons_of_mem _ m)
    constructor
    · show (PyData.strOk z && PyData.canLayAll0 (D.pys (ws.map D.str))) = true
      rw [h z (List.mem_cons_self ..), h1]; rfl
    · show max 0 (PyData.depthAll (D.pys (ws.map D.str))) = 0
      rw [h2]; rfl
theorem d_eqNil {ws : List Str} (hx : Dz K S H (.lst (ws.map D.str)) x) (hy : Dz K S H (.lst []) y) (ho : ∀ z ∈ ws, PyData.strOk z = true) (q : Q (.bl ws.isEmpty) H) : rEqG K x y H Q := by
  obtain ⟨h1, h2⟩ := strs_lay ho
  refine d_eq hx hy (strs_flat ws) rfl ?_ (by decide) ?_
  · show (PyData.canLayAll0 (D.pys (ws.map D.str)) && decide (PyData.depthAll (D.pys (ws.map D.str)) + 1 ≤ 64)) = true
    rw [h1, h2]; rfl
  · have e : PyData.eqv (D.lst (ws.map D.str)).py (D.lst []).py = ws.isEmpty := by
      cases ws <;> rfl
    rw [e]
    exact q
end
/-- so many turns -/
def dots (n : Nat) : Str := ⟨(List.replicate n (Str.ofString ".").cps).foldl (· ++ ·) #[]⟩
end Vf
namespace Vf
open PySem PySem.Spec PyProof.Rows L2 RZ
/-! ## repr of data in which an empty dict may stand -/
def D.itemE (d : D) : Bool := match d with
  | .dic kvs => kvs.isEmpty
  | d => d.flat
section
variable {X : Cx} {pins : List (Addr × Obj)} {σ : L2.St} {H : Hp} {s : Shared} {S : AS}
theorem one_reads (I : Inv X pins σ H s) {d : D} {v : V} {u : Value} (f : d.itemE = true) (h : Dz X.K S H d v) (r : RelV v u) : ∃ as, Reads s.heap u d.py as ∧ (d.py.hasDict = true → sysModules ∉ as) := by
  by_cases q : d.flat = true
  · have dp := Dz.dp d v q h
    obtain ⟨as, rd⟩ := Dp.reads I d.py v u dp r
    exact ⟨as, rd, fun z => by rw [Dp.noDict d.py v dp] at z; cases z⟩
  · cases d with
    | dic kvs =>
      obtain ⟨a, e, _, h1⟩ := h
      subst e
      cases r
      have e0 : kvs = [] := List.isEmpty_iff.mp f
      subst e0
      obtain ⟨_, hsm, vs, rel, dd⟩ := dk_of I.hok h1
      have ev : vs = [] := by
        have := Paired.length rel
        exact List.length_eq_zero_iff.mp (by simpa using this.symm)
      subst ev
      obtain ⟨o, es, ep, ho, hx, hd, hk, hp, _⟩ := dd
      obtain ⟨es⟩ := es
      have ees : es = [] := by
        cases es with
        | nil => rfl
        | cons _ _ => cases hp
      subst ees
      simp only [D.py, List.map_nil]
      refine ⟨[a] ++ [] ++ [], Reads.dict (as := []) (bs := []) ho hx.1 hd ReadsAll.nil ReadsAll.nil, fun _ m => ?_⟩
      have m : sysModules = a := by simpa using m
      rw [m] at hsm
      simp at hsm
    | _ => exact absurd f q
theorem items_read (I : Inv X pins σ H s) : ∀ {ds : List D} {vs : List V} {us : List Value}, (∀ d ∈ ds, d.itemE = true ∧ d.py.showable = true ∧ d.py.shown.length ≤ sizeLine) → DzL X.K S H ds vs → Vals vs us →
    ∃ as bs, ReadsAll s.heap us (D.pys ds) as ∧ ReadAtMost s.heap (PyData.depthAll (D.pys ds)) bs ∧ ReprAllK X.prog X.w bs s.heap (PyData.depthAll (D.pys ds)) us (PyData.shownAll (D.pys ds))
  | [], _, _, _, h, r => by
    cases h
    cases r
    simp only [D.pys, PyData.shownAll]
    exact ⟨[], [], ReadsAll.nil, fun b hb => by simp at hb, ReprAllK.nil⟩
  | d :: ds, _, _, hf, h, r => by
    obtain ⟨x, rr, e, h1, h2⟩ := h
    subst e
    cases r with
    | cons r1 r2 =>
      obtain ⟨f1, f2, f3⟩ := hf d (List.mem_cons_self ..)
      obtain ⟨as, rd, nm⟩ := one_reads I f1 h1 r1
      obtain ⟨cs, c1, c2⟩ := ReprK.of_reads (prog := X.prog) (w := X.w) rd f2 nm f3
      obtain ⟨as', bs, g1, g2, g3⟩ := items_read I (fun e m => hf e (List.mem_cons_of_mem _ m)) h2 r2
      have l1 : d.py.depth ≤ PyData.depthAll (D.pys (d :: ds)) := by simp only [D.pys, PyData.depthAll]; omega
      have l2 : PyData.depthAll (D.pys ds) ≤ PyData.depthAll (D.pys (d :: ds)) := by simp only [D.pys, PyData.depthAll]; omega
      refine ⟨as ++ as', cs ++ bs, ?_, (c1.mono l1).append (g2.mono l2), ?_⟩
      · simp only [D.pys]
        exact ReadsAll.cons rd g1
      · have q := ReprAllK.more_le (as' := cs ++ bs) (fun b m => List.mem_append_right _ m) l2 g3
        have p := ReprAllK.more_le (as' := cs ++ bs) (fun b m => List.mem_append_left _ m) l1 (ReprAllK.cons c2 ReprAllK.nil)
        simp only [D.pys, PyData.shownAll] at p q ⊢
        cases p with
        | cons p1 _ => exact ReprAllK.cons p1 q
end
/-- repr of a list whose items may be empty dicts -/
def rReprE (K : PySem.W.Frag) : List V → Hp → VK → Prop := fun xs H Q => ∃ (S : AS) (ds : List D) (x : V), xs = [x] ∧ Dz K S H (.lst ds) x ∧ ds ≠ [] ∧ (∀ d ∈ ds, d.itemE = true ∧ d.py.showable = true ∧ d.py.shown.length ≤ sizeLine) ∧ (D.lst ds).py.depth ≤ 60 ∧ (D.lst ds).py.shown.length ≤ sizeLine ∧ Q (.str (D.lst ds).py.shown) H
theorem call_reprE {X : Cx} (hgd : X.A.guards = some []) (hu : X.A.units + 64 < cLine) : CallR X (.builtin "repr") (rReprE X.K) := by
  intro pins s σ H xs us Q I r h
  obtain ⟨S, ds, x, rfl, hd, hne, hf, hdp, hsz, q⟩ := h
  obtain ⟨u, rfl, ru⟩ := vals1 r
  obtain ⟨a, xs, e, h1, h2⟩ := hd
  subst e
  cases ru
  obtain ⟨its, rv, ⟨o, n, ho, hc, _, hda⟩, _⟩ := I.list h1.sq
  obtain ⟨as, bs, g1, g2, g3⟩ := items_read I hf h2 rv
  have rd : Reads s.heap (.ref a) (D.lst ds).py (a :: as) := by simp only [D.py]; exact Reads.list ho hc hda g1
  have hdp2 : PyData.depthAll (D.pys ds) + 1 ≤ 60 := by simpa only [D.py, PyData.depth] using hdp
  have hna : a ∉ bs := not_mem_of_deeper rd (by simp only [D.py, PyData.depth]; omega) g2
  have q : Q (.str (listText (PyData.shownAll (D.pys ds)))) H := by simpa only [D.py, PyData.shown] using q
  have hsz : (listText (PyData.shownAll (D.pys ds))).length ≤ sizeLine := by simpa only [D.py, PyData.shown] using hsz
  refine call_repr_slot (idr := "list.__repr__") (T := "list") (by omega) ⟨o, ho, hc⟩ PySem.F.slot_list_repr.toG ?_
  cases its with
  | nil =>
    exfalso
    cases rv
    obtain ⟨d, dd, rfl⟩ := List.exists_cons_of_ne_nil hne
    obtain ⟨_, _, e, _⟩ := h2
    cases e
  | cons y ys =>
    refine call_list_reprK ho hc hda hna (by simpa using g3.length_eq) (fun i z e => g3.item i z (by simpa using e)) (show X.A.in1.guards = some [] from hgd) (fun b _ => Clear.nil b) (by show X.A.units + 1 + _ < cLine; omega) (fun _ _ e => e) (fun h' u tk k => ?_) hsz
    exact ⟨_, _, rfl, lift_kept I q k⟩
def rReprG (K : PySem.W.Frag) : List V → Hp → VK → Prop := fun xs H Q => rRepr K xs H Q ∨ rReprE K xs H Q
theorem call_reprG {X : Cx} (hgd : X.A.guards = some []) (hu : X.A.units + 64 < cLine) : CallR X (.builtin "repr") (rReprG X.K) := CallR.or (call_reprD hgd hu) (call_reprE hgd hu)
theorem o_reprG {K : PySem.W.Frag} {S : AS} {H : Hp} {d : D} {x : V} {Q : VK} (h1 : Dz K S H d x) (o : d.Ok) (q : Q (.str d.py.shown) H) : rReprG K [x] H Q := .inl (o_repr h1 o q)
/-- an item: may be shown, or is an empty dict -/
def D.OkI (d : D) : Prop := (d.fine = true ∧ d.wt ≤ 700 ∧ d.dep ≤ 40) ∨ d = .dic []
theorem OkI.parts {d : D} (h : d.OkI) : (d.itemE = true ∧ d.py.showable = true) ∧ d.py.depth ≤ 40 ∧ d.py.leavesShort 1910 = true ∧ d.py.bulk ≤ 700 := by
  rcases h with ⟨h1, h2, h3⟩ | rfl
  · refine ⟨⟨?_, D.fine_show d h1⟩, by rw [D.py_dep d h1]; exact h3, D.fine_short d h1, by rw [D.py_bulk d h1]; exact h2⟩
    have := D.fine_flat d h1
    cases d <;> first | exact this | (cases this; done)
  · exact ⟨⟨rfl, rfl⟩, by decide, by decide, by decide⟩
theorem listE {K : PySem.W.Frag} {S : AS} {H : Hp} {ds : List D} {x : V} {Q : VK} (h1 : Dz K S H (.lst ds) x) (hne : ds ≠ []) (hl : ds.length ≤ 9) (o : ∀ d ∈ ds, d.OkI) (q : Q (.str (D.lst ds).py.shown) H) : rReprG K [x] H Q := by
  have key : ∀ ds : List D, (∀ d ∈ ds, d.OkI) → PyData.depthAll (D.pys ds) ≤ 40 ∧ PyData.leavesShortAll 1910 (D.pys ds) = true ∧ PyData.bulkAll (D.pys ds) ≤ 701 * ds.length := by
    intro ds
    induction ds with
    | nil => intro _; exact ⟨Nat.zero_le _, rfl, Nat.zero_le _⟩
    | cons d ds ih =>
      intro h
      obtain ⟨_, a3, a4, a5⟩ := OkI.parts (h d (List.mem_cons_self ..))
      obtain ⟨b3, b4, b5⟩ := ih fun e m => h e (List.mem_cons_of_mem _ m)
      refine ⟨by simp only [D.pys, PyData.depthAll]; omega, by simp only [D.pys, PyData.leavesShortAll, a4, b4]; rfl, by simp only [D.pys, PyData.bulkAll, List.length_cons]; omega⟩
  obtain ⟨c3, c4, c5⟩ := key ds o
  have short : ∀ d : PyData, d.leavesShort 1910 = true → d.bulk ≤ 7000 → d.shown.length ≤ sizeLine := fun d h1 h2 => by
    have e := PyData.shown_le_bulk 1910 (by decide) d h1
    rw [sizeLine_eq]
    omega
  refine .inr ⟨S, ds, x, rfl, h1, hne, fun d m => ?_, by simp only [D.py, PyData.depth]; omega, short _ (by simp only [D.py, PyData.leavesShort]; exact c4) (by simp only [D.py, PyData.bulk]; omega), q⟩
  obtain ⟨p, _, p4, p5⟩ := OkI.parts (o d m)
  exact ⟨p.1, p.2, short _ p4 (by omega)⟩
theorem notNon {K : PySem.W.Frag} {S : AS} {H : Hp} {d : D} {x : V} (h : Dz K S H d x) (n : d ≠ .non) : decide (x = V.non) = false := by
  refine decide_eq_false fun e => ?_
  subst e
  cases d with
  | non => exact n rfl
  | lst ds => obtain ⟨_, _, e, _⟩ := h; cases e
  | tup ds => obtain ⟨_, _, e, _⟩ := h; cases e
  | ins C fs => obtain ⟨_, _, _, e, _⟩ := h; cases e
  | dic kvs => obtain ⟨_, e, _⟩ := h; cases e
  | _ => cases h
end Vf
namespace Vf
open PySem PySem.Spec PyProof.Rows L2 RZ
/-! ## x *= y of whole numbers; what is seen behind a row, by bounds of strengths -/
def ipM : TIp := fun x y H Q => ∃ i j, x = .int i ∧ y = .int j ∧ CMulW i j ∧ Q (.int (i * j)) H
theorem ip_mul {X : Cx} : PIp X .Mult ipM := by
  intro pins s σ H x y v u Q I r1 r2 h
  obtain ⟨i, j, rfl, rfl, hc, q⟩ := h
  obtain ⟨t, rfl⟩ := r1
  obtain ⟨t', rfl⟩ := r2
  exact imul_int ⟨.int _, H, I.tok _, ⟨_, rfl⟩, q⟩ hc.ok
/-- f( *y ), f a def of the module -/
def tStarC (K : PySem.W.Frag) (sp : Sp) (dvs : List V) (E : XK) (te : TE) : TE := fun σ H Q => te σ H fun y H1 => ∃ a xs, y = V.ref a ∧ (SqT K H1 a xs ∨ SqL K H1 a xs) ∧ sp (xs ++ dvs) H1 Q E
theorem pe_star {X : Cx} {K' : PySem.W.Frag} {CX : CXT} {k : Nat} {f : Addr} {fd : FuncData} {ps : List Str} {ds : List Value} {dvs : List V} {sp : Sp} {E : XK} {x : Str} {e : Expr} {te : TE} {p sp_ pos : Pos} (F : FnOk X.prog X.w X.K X.mg X.base CX k f fd ps sp) (hr : Room k X.A) (hg : Gl X x) (hm : X.mg x = some (.ref f)) (hk : PySem.W.keepIn X.K (.ref f) = true) (hb : Binds X.K fd ps ds) (hd : Vals dvs ds) (hx : Passes CX X E) (he : PE X e te) (hK : X.K = K' := by rfl)
    (hdb : (x == ("__debug__" : Str)) = false := by decide) (hst : starEach [.Starred e sp_] X.env = [(true, eval e X.env)] := by rfl) : PE X (.Call (.Name x p) [.Starred e sp_] [] pos) (tStarC K' sp dvs E te) := by
  subst hK
  exact StX.pe_callS1 (FnOk.raw F hb hd) hr hk hg hm hx he hdb hst
/-- the lower and the upper bound of what is seen as s through an effect, up to the cap -/
def boundsE (o : Option Ef) (cap : Int) (seen : Option Int) : Int × Int :=
  match seen with
  | none => (match o with | none => cap + 1 | some e => e.least, cap)
  | some s =>
    if s = 0 then (1, (match o with | none => cap + 1 | some e => e.least) - 1)
    else match o with
      | none => (cap + 1, cap)
      | some e => if s > e.top then (cap + 1, cap) else (mx e.least (s * e.by_ - e.add), if s = e.top then cap else s * e.by_ - e.add + e.by_ - 1)
/-- is it seen so? -/
def fits (seen : Option Int) (y : Int) : Prop := match seen with
  | none => 0 < y
  | some s => y = s
theorem bounds_iff {o : Option Ef} (hw : oWf o) {cap : Int} {seen : Option Int} (hs : ∀ s, seen = some s → 0 ≤ s) {x : Int} (hx : 1 ≤ x ∧ x ≤ cap) : fits seen (thr o x) ↔ (boundsE o cap seen).1 ≤ x ∧ x ≤ (boundsE o cap seen).2 := by
  have nn := thr_nn hw (x := x)
  cases o with
  | none =>
    have e0 : thr none x = 0 := rfl
    cases seen with
    | none =>
      show 0 < thr none x ↔ cap + 1 ≤ x ∧ x ≤ cap
      omega
    | some s =>
      have h0 := hs s rfl
      show thr none x = s ↔ _
      unfold boundsE
      by_cases q : s = 0
      · simp only [if_pos q]
        omega
      · simp only [if_neg q]
        omega
  | some e =>
    have w := hw e rfl
    by_cases lt : x < e.least
    · rw [thr_lt lt] at nn ⊢
      cases seen with
      | none =>
        show (0 : Int) < 0 ↔ e.least ≤ x ∧ x ≤ cap
        omega
      | some s =>
        have h0 := hs s rfl
        show (0 : Int) = s ↔ _
        unfold boundsE
        by_cases q : s = 0
        · simp only [if_pos q]
          omega
        · simp only [if_neg q]
          have mxl : ∀ y, e.least ≤ mx e.least y := fun y => by unfold mx; split <;> omega
          by_cases q2 : s > e.top
          · simp only [if_pos q2]
            omega
          · simp only [if_neg q2]
            have := mxl (s * e.by_ - e.add)
            constructor
            · intro z; exact absurd z.symm q
            · intro z; omega
    · rw [thr_ge lt] at nn ⊢
      have wp := w.p
      have wt := w.t
      have ws := w.s
      have k1 : ∀ s : Int, s ≤ (x + e.add) / e.by_ ↔ s * e.by_ ≤ x + e.add := fun s => Int.le_ediv_iff_mul_le (by omega)
      have q1 := (k1 1).mpr (by omega)
      generalize hq : (x + e.add) / e.by_ = q at *
      have mnp : 1 ≤ mn e.top q := by unfold mn; split <;> omega
      have mnt : mn e.top q ≤ e.top := by unfold mn; split <;> omega
      cases seen with
      | none =>
        show 0 < mn e.top q ↔ e.least ≤ x ∧ x ≤ cap
        omega
      | some s =>
        have h0 := hs s rfl
        show mn e.top q = s ↔ _
        unfold boundsE
        by_cases z : s = 0
        · simp only [if_pos z]
          omega
        · simp only [if_neg z]
          by_cases z2 : s > e.top
          · simp only [if_pos z2]
            omega
          · simp only [if_neg z2]
            have ks := k1 s
            have ks1 := k1 (s + 1)
            rw [Int.add_mul, Int.one_mul] at ks1
            have mxi : mx e.least (s * e.by_ - e.add) ≤ x ↔ s * e.by_ ≤ x + e.add := by
              unfold mx
              split <;> omega
            rw [mxi]
            generalize s * e.by_ = sb at *
            by_cases z3 : s = e.top
            · rw [if_pos z3]
              unfold mn
              split <;> omega
            · rw [if_neg z3]
              unfold mn
              split <;> omega
end Vf
namespace Vf
open PySem PySem.Spec PyProof.Rows L2 RZ
/-! ## repr of a dict of plain values; a dict told out by its pairs -/
def vScal (v : V) : Bool := match v with
  | .non | .bl _ | .int _ | .str _ => true
  | _ => false
section
variable {X : Cx} {pins : List (Addr × Obj)} {σ : L2.St} {H : Hp} {s : Shared} {S : AS}
theorem scal_reads {h : Heap} {v : V} {u : Value} (f : vScal v = true) (r : RelV v u) : Reads h u (vPy v) [] := by
  cases v with
  | non => cases r; exact .none
  | bl b => cases r; exact .bool b
  | int i => obtain ⟨t, rfl⟩ := r; exact .int i t
  | str z => obtain ⟨t, rfl⟩ := r; exact .str z t
  | _ => cases f
theorem key_reads {h : Heap} {k : Key} {u : Value} (r : (mixKind X.prog X.w).is k u = true) : Reads h u (keyPy k) [] := by
  rcases keyIs_shape r with ⟨i, t, rfl, rfl⟩ | ⟨x, t, rfl, rfl⟩
  · exact .int i t
  · exact .str x t
theorem pairs_reads {h : Heap} {kvs : List (Key × V)} : ∀ {vs : List (Key × Value)} {es : List DictEntry}, (∀ p ∈ kvs, vScal p.2 = true) → KV kvs vs → Pairs (mixKind X.prog X.w) es vs →
    ReadsAll h (es.map (·.key)) ((kvs.map fun p => (keyPy p.1, vPy p.2)).map (·.1)) [] ∧ ReadsAll h (es.map (·.val)) ((kvs.map fun p => (keyPy p.1, vPy p.2)).map (·.2)) [] := by
  induction kvs with
  | nil =>
    intro vs es _ r p
    cases r
    cases p
    exact ⟨.nil, .nil⟩
  | cons kv kvs ih =>
    intro vs es f r p
    cases r with
    | cons r1 r2 =>
      cases p with
      | cons p1 p2 p3 =>
        obtain ⟨g1, g2⟩ := ih (fun q m => f q (List.mem_cons_of_mem _ m)) r2 p3
        refine ⟨?_, ?_⟩
        · have e := key_reads (h := h) p1
          rw [← r1.1] at e
          exact ReadsAll.cons (as := []) (bs := []) e g1
        · have e := scal_reads (h := h) (f kv (List.mem_cons_self ..)) r1.2
          rw [← p2] at e
          exact ReadsAll.cons (as := []) (bs := []) e g2
theorem dic_reads (I : Inv X pins σ H s) {a : Addr} {kvs : List (Key × V)} (f : ∀ p ∈ kvs, vScal p.2 = true) (h1 : H a = some (.dK kvs)) : Reads s.heap (.ref a) (D.dic kvs).py [a] ∧ sysModules ∉ [a] := by
  obtain ⟨_, hsm, vs, rel, dd⟩ := dk_of I.hok h1
  obtain ⟨o, es, ep, ho, hx, hd, hk, hp, _⟩ := dd
  obtain ⟨g1, g2⟩ := pairs_reads (h := s.heap) f rel hp
  simp only [D.py]
  refine ⟨Reads.dict (as := []) (bs := []) ho hx.1 hd g1 g2, fun m => ?_⟩
  have m : sysModules = a := by simpa using m
  rw [m] at hsm
  simp at hsm
end
/-- repr of a dict of plain values -/
def rReprDic (K : PySem.W.Frag) : List V → Hp → VK → Prop := fun xs H Q => ∃ (a : Addr) (kvs : List (Key × V)), xs = [.ref a] ∧ H a = some (.dK kvs) ∧ (∀ p ∈ kvs, vScal p.2 = true) ∧ (D.dic kvs).py.showable = true ∧ (D.dic kvs).py.depth ≤ 60 ∧ (D.dic kvs).py.shown.length ≤ sizeLine ∧ Q (.str (D.dic kvs).py.shown) H
theorem call_reprDic {X : Cx} (hgd : X.A.guards = some []) (hu : X.A.units + 64 < cLine) : CallR X (.builtin "repr") (rReprDic X.K) := by
  intro pins s σ H xs us Q I r h
  obtain ⟨a, kvs, rfl, h1, hf, hsh, hdp, hsz, q⟩ := h
  obtain ⟨u, rfl, ru⟩ := vals1 r
  cases ru
  obtain ⟨rd, hsm⟩ := dic_reads I hf h1
  exact repr_of_reads' rd hsh (fun _ => hsm) hgd (by omega) (fun _ _ e => e) (fun h' u tk k => lift_kept I q k) hsz
def rReprH (K : PySem.W.Frag) : List V → Hp → VK → Prop := fun xs H Q => rReprG K xs H Q ∨ rReprDic K xs H Q
theorem call_reprH {X : Cx} (hgd : X.A.guards = some []) (hu : X.A.units + 64 < cLine) : CallR X (.builtin "repr") (rReprH X.K) := CallR.or (call_reprG hgd hu) (call_reprDic hgd hu)
theorem o_reprH {K : PySem.W.Frag} {S : AS} {H : Hp} {d : D} {x : V} {Q : VK} (h1 : Dz K S H d x) (o : d.Ok) (q : Q (.str d.py.shown) H) : rReprH K [x] H Q := .inl (o_reprG h1 o q)
theorem o_reprDic {K : PySem.W.Frag} {S : AS} {H : Hp} {kvs : List (Key × V)} {x : V} {Q : VK} (h1 : Dz K S H (.dic kvs) x) (f : (kvs.all fun p => vScal p.2) = true) (o : ((D.dic kvs).py.showable && (decide ((D.dic kvs).py.depth ≤ 60) && decide ((D.dic kvs).py.shown.length ≤ 1000000))) = true) (q : Q (.str (D.dic kvs).py.shown) H) : rReprH K [x] H Q := by
  obtain ⟨a, rfl, _, h⟩ := h1
  rw [Bool.and_eq_true, Bool.and_eq_true] at o
  exact .inr ⟨a, kvs, rfl, h, fun p m => List.all_eq_true.mp f p m, o.1, of_decide_eq_true o.2.1, by rw [sizeLine_eq]; have := of_decide_eq_true o.2.2; omega, q⟩
/-- {} -/
theorem d_dic0 {K : PySem.W.Frag} {S M : AS} {H0 H : Hp} {G : List (V × D)} {L : List (Addr × List D)} {B : List Addr} {Q : VK} {σ : L2.St} (st : Vf.St K S M H0 H G L B) (q : ∀ p H', Vf.St K S M H0 H' ((.ref p, .dic []) :: G) L B → Q (.ref p) H') : tDNewK σ H Q :=
  fun p n => q p _ ((st.same (Same.upd n)).add ⟨p, rfl, st.nS n, upd_same⟩)
/-- {k: v} with constants -/
theorem d_dic1 {K : PySem.W.Frag} {S M : AS} {H0 H : Hp} {G : List (V × D)} {L : List (Addr × List D)} {B : List Addr} {Q : VK} {σ : L2.St} {k : Key} {v : V} (st : Vf.St K S M H0 H G L B) (q : ∀ p H', Vf.St K S M H0 H' ((.ref p, .dic [(k, v)]) :: G) L B → Q (.ref p) H') : tDisp [(tC (kV k), tC v)] σ H Q := by
  intro p n
  refine ⟨upd_same, [(k, v)], rfl, (by show 1 ≤ 15; omega), ?_⟩
  refine q p _ ((st.same ?_).add ⟨p, rfl, st.nS n, upd_same⟩)
  refine fun a o e => ?_
  have na : a ≠ p := fun z => by rw [z, n] at e; cases e
  rw [upd_ne na, upd_ne na]
  exact e
end Vf
namespace Vf
open PySem PySem.Spec PyProof.Rows L2 RZ
/-! ## the kinds, asked of plain data -/
def letOk (c : Nat) : Bool := decide (97 ≤ c) && decide (c ≤ 122)
theorem let_in (c : Nat) : decide (c ∈ (Str.ofString "abcdefghijklmnopqrstuvwxyz").cps.toList) = letOk c := by
  have e : (Str.ofString "abcdefghijklmnopqrstuvwxyz").cps.toList = [97, 98, 99, 100, 101, 102, 103, 104, 105, 106, 107, 108, 109, 110, 111, 112, 113, 114, 115, 116, 117, 118, 119, 120, 121, 122] := by decide +kernel
  rw [e]
  unfold letOk
  rw [← Bool.decide_and, decide_eq_decide]
  simp only [List.mem_cons, List.not_mem_nil, or_false]
  omega
def isName (d : D) : Bool := match d with
  | .str z => (decide (1 ≤ z.cps.size) && decide (z.cps.size ≤ 8)) && z.cps.toList.all letOk
  | _ => false
theorem isName_eq {z : Str} (h1 : 1 ≤ z.cps.size) (h2 : z.cps.size ≤ 8) : isName (.str z) = (z.cps.toList.filter fun c => !decide (c ∈ (Str.ofString "abcdefghijklmnopqrstuvwxyz").cps.toList)).isEmpty := by
  show ((decide (1 ≤ z.cps.size) && decide (z.cps.size ≤ 8)) && z.cps.toList.all letOk) = _
  rw [decide_eq_true h1, decide_eq_true h2, Bool.true_and, Bool.true_and]
  induction z.cps.toList with
  | nil => rfl
  | cons c cs ih =>
    rw [List.all_cons, List.filter_cons, ih, let_in]
    cases letOk c <;> rfl
theorem isRow_iff3 {z : Str} (h2 : z.cps.size ≤ 200) : isRow (.str z) = (z.cps.toList.filter fun c => !decide (c ∈ (Str.ofString ".a").cps.toList)).isEmpty := by
  show (decide (z.cps.size ≤ 200) && z.cps.toList.all signOk) = _
  rw [decide_eq_true (by omega), Bool.true_and]
  induction z.cps.toList with
  | nil => rfl
  | cons c cs ih =>
    rw [List.all_cons, List.filter_cons, ih]
    have e : signOk c = decide (c ∈ (Str.ofString ".a").cps.toList) := by
      have : (Str.ofString ".a").cps.toList = [46, 97] := by decide +kernel
      rw [this]
      unfold signOk
      by_cases a : c = 46
      · subst a; rfl
      · by_cases b : c = 97
        · subst b; rfl
        · simp [a, b]
    rw [e]
    by_cases q : c ∈ (Str.ofString ".a").cps.toList
    · rw [decide_eq_true q]; rfl
    · rw [decide_eq_false q]; rfl
/-- a plain thing: no instance, its text plain and not long -/
def fewS (d : D) : Prop := d.noIns = true ∧ ∀ z, d = .str z → z.length ≤ 100000 ∧ PyData.strOk z = true
/-- .. and no instance in a tuple -/
structure kindPre (d : D) : Prop where
  few : fewS d
  tup : ∀ ds, d = .tup ds → ds.length ≤ 100000 ∧ (∀ x ∈ ds, x.noIns = true) ∧ d.Ok
theorem kindPre.no {d : D} (h : kindPre d) : d.noIns = true := h.few.1
def valI (d : D) : Int := match d with
  | .int i => i
  | _ => 0
def risingB : List D → Bool
  | a :: b :: r => decide (valI a < valI b) && risingB (b :: r)
  | _ => true
def isHours (d : D) : Bool := match d with
  | .tup ds => (decide (1 ≤ ds.length) && decide (ds.length ≤ 24)) && (ds.all (fun x => isWithin x 0 23) && risingB ds)
  | _ => false
theorem within_val {d : D} {lo hi : Int} (h : isWithin d lo hi = true) : d = .int (valI d) ∧ lo ≤ valI d ∧ valI d ≤ hi := by
  cases d with
  | int i =>
    have h : decide (lo ≤ i ∧ i ≤ hi) = true := h
    exact ⟨rfl, of_decide_eq_true h⟩
  | _ => cases h
theorem rising_low : ∀ {ds : List D} {k : Int}, (∀ d ∈ ds, isWithin d 0 23 = true) → risingB ds = true → (∀ d, ds.head? = some d → k ≤ valI d) → ds ≠ [] → k + (ds.length : Nat) ≤ 24
  | [], _, _, _, _, h => absurd rfl h
  | [a], k, h, _, hk, _ => by
    have := (within_val (h a (List.mem_cons_self ..))).2.2
    have := hk a rfl
    show k + ((1 : Nat) : Int) ≤ 24
    omega
  | a :: b :: r, k, h, hr, hk, _ => by
    have hr : (decide (valI a < valI b) && risingB (b :: r)) = true := hr
    rw [Bool.and_eq_true] at hr
    have lt := of_decide_eq_true hr.1
    have ka := hk a rfl
    have ih := rising_low (ds := b :: r) (k := k + 1) (fun d m => h d (List.mem_cons_of_mem _ m)) hr.2 (fun d e => by cases e; omega) (by simp)
    simp only [List.length_cons] at ih ⊢
    omega
/-- hours without their number looked at -/
theorem hours_alt {ds : List D} (h1 : ds ≠ []) (h2 : (ds.all fun x => isWithin x 0 23) = true) : isHours (.tup ds) = risingB ds := by
  show ((decide (1 ≤ ds.length) && decide (ds.length ≤ 24)) && (ds.all (fun x => isWithin x 0 23) && risingB ds)) = _
  rw [h2, decide_eq_true (show 1 ≤ ds.length from List.length_pos_iff.mpr h1)]
  cases hr : risingB ds with
  | false => simp
  | true =>
    have := rising_low (k := 0) (fun d m => List.all_eq_true.mp h2 d m) hr (fun d e => (within_val (List.all_eq_true.mp h2 d (List.mem_of_head? e))).2.1) h1
    rw [decide_eq_true (by omega : ds.length ≤ 24)]
    rfl
theorem rising_get : ∀ {ds : List D}, risingB ds = ((List.range (ds.length - 1)).map fun k => decide (valI (ds.getD k .non) < valI (ds.getD (k + 1) .non))).all id
  | [] => rfl
  | [_] => rfl
  | a :: b :: r => by
    show (decide (valI a < valI b) && risingB (b :: r)) = _
    rw [rising_get (ds := b :: r)]
    rw [show (a :: b :: r).length - 1 = ((b :: r).length - 1) + 1 by simp only [List.length_cons]; omega, List.range_succ_eq_map, List.map_cons, List.map_map, List.all_cons]
    rfl
def kindsD (d : D) : D := .lst [.bl (isWhole d), .bl (isName d), .bl (isWithin d 0 9), .bl (isWithin d 1 (10 ^ 9)), .bl (isWithin d 0 (10 ^ 9)), .bl (isWithin d (-(10 ^ 9)) (10 ^ 9)), .bl (isWithin d 1 (10 ^ 12)), .bl (isWithin d 0 (10 ^ 30)), .bl (isHours d), .bl (isRow d), .bl (isStep d)]
theorem flat_noIns {d : D} (h : d.flat = true) : d.noIns = true := by
  cases d <;> first | rfl | (cases h; done)
theorem flats_mem : ∀ {ds : List D}, D.flats ds = true → ∀ d ∈ ds, d.flat = true
  | [], _, _, m => by simp at m
  | e :: ds, h, d, m => by
    simp only [D.flats, Bool.and_eq_true] at h
    rcases List.mem_cons.mp m with rfl | m
    · exact h.1
    · exact flats_mem h.2 d m
theorem wts_len : ∀ ds : List D, ds.length ≤ D.wts ds
  | [] => Nat.zero_le _
  | d :: ds => by
    have := wts_len ds
    simp only [D.wts, List.length_cons]
    omega
theorem ok_ask {d : D} (h : d.Ok) : kindPre d := by
  have hf := h.flat
  have no := flat_noIns hf
  have hw := h.wt
  have tp : ∀ ds, d = .tup ds → ds.length ≤ 100000 ∧ ∀ x ∈ ds, x.noIns = true := by
    intro ds e
    subst e
    refine ⟨?_, fun x m => flat_noIns (flats_mem (by simpa only [D.flat] using hf) x m)⟩
    have := wts_len ds
    simp only [D.wt] at hw
    omega
  have tx : ∀ z, d = .str z → z.length ≤ 100000 ∧ PyData.strOk z = true := by
    intro z e
    subst e
    have hfi := h.fine
    simp only [D.fine, Bool.and_eq_true] at hfi
    simp only [D.wt] at hw
    exact ⟨by show z.cps.size ≤ 100000; omega, hfi.1⟩
  exact ⟨⟨no, tx⟩, fun ds e => ⟨(tp ds e).1, (tp ds e).2, h⟩⟩
/-- a thing that is drawn: it may be shown, or is a dict of none or one -/
def dicA : D := .dic [(.inr (Str.ofString "a"), .int 1)]
def thK (d : D) : Prop := d.Ok ∨ d = .dic [] ∨ d = dicA
theorem thK.ask {d : D} (h : thK d) : kindPre d := by
  rcases h with h | rfl | rfl
  · exact ok_ask h
  · exact ⟨⟨rfl, fun z e => by cases e⟩, fun ds e => by cases e⟩
  · exact ⟨⟨rfl, fun z e => by cases e⟩, fun ds e => by cases e⟩
theorem thK.repr {K : PySem.W.Frag} {S : AS} {H : Hp} {d : D} {x : V} {Q : VK} (h : thK d) (hz : Dz K S H d x) (q : Q (.str d.py.shown) H) : rReprH K [x] H Q := by
  rcases h with h | rfl | rfl
  · exact o_reprH hz h q
  · exact o_reprDic hz (by decide +kernel) (by decide +kernel) q
  · exact o_reprDic hz (by decide +kernel) (by decide +kernel) q
/-- by looking, for what is written out -/
def okB (d : D) : Bool := d.fine && (decide (d.wt ≤ 8000) && decide (d.dep ≤ 60))
theorem okB_ok {d : D} (h : okB d = true) : d.Ok := by
  unfold okB at h
  rw [Bool.and_eq_true, Bool.and_eq_true] at h
  exact ⟨h.1, of_decide_eq_true h.2.1, of_decide_eq_true h.2.2⟩
theorem str_ok {z : Str} (h1 : z.cps.size ≤ 1000) (h2 : ∀ c ∈ z.cps.toList, c < 128) : (D.str z).Ok := by
  refine ⟨?_, by simp only [D.wt]; omega, by simp only [D.dep]; decide⟩
  have so : PyData.strOk z = true := by
    show z.cps.all (· < 0x110000) = true
    rw [Array.all_eq_true_iff_forall_mem]
    intro c hc
    have := h2 c (Array.mem_toList_iff.mpr hc)
    simp
    omega
  simp only [D.fine, so, Bool.true_and, List.all_eq_true, decide_eq_true_eq]
  intro c hc
  have := h2 c hc
  omega
/-- plain values one beside another -/
def scalB (d : D) : Bool := match d with
  | .non | .bl _ => true
  | .int i => decide (i.natAbs < 2 ^ 1900)
  | _ => false
theorem scals_ok : ∀ {ds : List D}, (∀ d ∈ ds, d.Ok ∧ d.wt ≤ 10 ∧ d.dep ≤ 3) → D.fines ds = true ∧ D.wts ds ≤ 11 * ds.length ∧ D.deps ds ≤ 4
  | [], _ => ⟨rfl, Nat.zero_le _, by simp only [D.deps]; decide⟩
  | d :: ds, h => by
    obtain ⟨a, b, c⟩ := scals_ok fun e m => h e (List.mem_cons_of_mem _ m)
    obtain ⟨h1, h2, h3⟩ := h d (List.mem_cons_self ..)
    refine ⟨by simp only [D.fines, h1.fine, a, Bool.and_self], by simp only [D.wts, List.length_cons]; omega, by simp only [D.deps]; omega⟩
theorem tup_ok {ds : List D} (h : ∀ d ∈ ds, d.Ok ∧ d.wt ≤ 10 ∧ d.dep ≤ 3) (hl : ds.length ≤ 300) : (D.tup ds).Ok ∧ (D.lst ds).Ok := by
  obtain ⟨a, b, c⟩ := scals_ok h
  refine ⟨⟨by simp only [D.fine]; exact a, by simp only [D.wt]; omega, by simp only [D.dep]; omega⟩, ⟨by simp only [D.fine]; exact a, by simp only [D.wt]; omega, by simp only [D.dep]; omega⟩⟩
theorem St.seeO {K : PySem.W.Frag} {S M : AS} {H0 H : Hp} {G : List (V × D)} {L : List (Addr × List D)} {B : List Addr} {p : Addr} {ds : List D} (st : Vf.St K S M H0 H G L B) (m : (p, ds) ∈ L) : Dz K (fun _ => False) H (.lst ds) (.ref p) := by
  obtain ⟨_, _, xs, h3, h4⟩ := st.la (p, ds) m
  exact ⟨p, xs, rfl, ⟨fun h => h, h3⟩, DzL.weak (fun _ h => h.elim) h4⟩
theorem eqv_nilL {ds : List D} : PyData.eqv (D.lst ds).py (D.lst []).py = ds.isEmpty := by
  cases ds <;> rfl
theorem ints_okL {ns : List Int} (hl : ns.length ≤ 300) (h : ∀ n ∈ ns, n.natAbs < 2 ^ 200) : (D.lst (ns.map D.int)).Ok := by
  refine (tup_ok (fun d m => ?_) (by rw [List.length_map]; exact hl)).2
  obtain ⟨n, hn, rfl⟩ := List.mem_map.mp m
  exact ⟨Vf.int_ok (h n hn), by simp only [D.wt]; omega, by simp only [D.dep]; omega⟩
/-- a plain text -/
def plainZ (k : Nat) (z : Str) : Prop := z.cps.size ≤ k ∧ ∀ c ∈ z.cps.toList, c < 128
/-- tuple + tuple -/
theorem v_catT {K : PySem.W.Frag} {S M : AS} {H0 H : Hp} {G : List (V × D)} {L : List (Addr × List D)} {B : List Addr} {Q : VK} {a b : Addr} {ds es : List D} (st : Vf.St K S M H0 H G L B) (h : Dz K S H (.tup ds) (.ref a)) (h' : Dz K S H (.tup es) (.ref b)) (hl : ds.length + es.length ≤ sizeLine) (q : ∀ p H', Vf.St K S M H0 H' ((.ref p, .tup (ds ++ es)) :: G) L B → Q (.ref p) H') : rAddG K (.ref a) (.ref b) H Q := by
  obtain ⟨xs, h1, h2⟩ := z_tup h
  obtain ⟨ys, h3, h4⟩ := z_tup h'
  refine .inr (.inr (.inr ⟨a, b, xs, ys, rfl, rfl, h1.sq, h3.sq, by rw [h2.len, h4.len]; exact hl, fun e => ?_, fun _ e => ?_, fun _ _ p n => q p _ (st.tup n (h2.app h4))⟩))
  · have e0 : ds = [] := by
      have := h2.len
      rw [e] at this
      exact List.length_eq_zero_iff.mp this.symm
    refine q b H (st.add ?_)
    rw [e0]
    exact h'
  · have e0 : es = [] := by
      have := h4.len
      rw [e] at this
      exact List.length_eq_zero_iff.mp this.symm
    refine q a H (st.add ?_)
    rw [e0, List.append_nil]
    exact h
end Vf
namespace Vf
open PySem PySem.Spec PyProof.Rows L2 RZ
/-! ## lists of the very same things are alike, whatever these are -/
/-- == and != of two lists whose items are the very same objects -/
def rSameL (K : PySem.W.Frag) (b : Bool) : R2 := fun x y H Q => ∃ (p q : Addr) (as : List Addr), x = .ref p ∧ y = .ref q ∧ SqL K H p (as.map V.ref) ∧ SqL K H q (as.map V.ref) ∧ Q (.bl b) H
theorem vals_refs : ∀ {as : List Addr} {us : List Value}, Vals (as.map V.ref) us → us = as.map Value.ref
  | [], _, h => by cases h; rfl
  | a :: as, _, h => by
    cases h with
    | cons h1 h2 =>
      cases h1
      rw [vals_refs h2]
      rfl
theorem range_true (n : Nat) : (List.range n).all (fun _ => true) = true := by simp
theorem op_sameEq {X : Cx} (hu : X.A.units + 64 < cLine) : OpR X (compareOp .Eq) (rSameL X.K true) := by
  intro pins s σ H x y v u Q I rx ry h
  obtain ⟨p, q, as, rfl, rfl, h1, h2, k⟩ := h
  cases rx
  cases ry
  obtain ⟨its, r1, ⟨o, n, ho, hc, _, hd⟩, _⟩ := I.list h1
  obtain ⟨its2, r2, ⟨o2, n2, ho2, hc2, _, hd2⟩, _⟩ := I.list h2
  have e1 := vals_refs r1
  have e2 := vals_refs r2
  subst e1 e2
  refine SeqAt.eq_listAt (e := fun _ => true) ⟨o, ho, hc, n, hd⟩ ⟨o2, ho2, hc2, n2, hd2⟩ rfl (by omega) (fun j _ _ => SeqAt.EqAt.same _) ?_
  rw [range_true]
  exact ⟨.bl true, H, I, rfl, k⟩
theorem op_sameNe {X : Cx} (hu : X.A.units + 64 < cLine) : OpR X (compareOp .NotEq) (rSameL X.K false) := by
  intro pins s σ H x y v u Q I rx ry h
  obtain ⟨p, q, as, rfl, rfl, h1, h2, k⟩ := h
  cases rx
  cases ry
  obtain ⟨its, r1, ⟨o, n, ho, hc, _, hd⟩, _⟩ := I.list h1
  obtain ⟨its2, r2, ⟨o2, n2, ho2, hc2, _, hd2⟩, _⟩ := I.list h2
  have e1 := vals_refs r1
  have e2 := vals_refs r2
  subst e1 e2
  have z := SeqAt.RcNeAt.lists (A := X.A) (e := fun _ => true) (s := s) ⟨o, ho, hc, n, hd⟩ ⟨o2, ho2, hc2, n2, hd2⟩ rfl (by omega) (fun j _ _ => SeqAt.EqAt.same _)
  rw [range_true] at z
  exact z X.prog X.w _ _ ⟨.bl false, H, I, rfl, k⟩
def rEqH (K : PySem.W.Frag) : R2 := fun x y H Q => rEqG K x y H Q ∨ rSameL K true x y H Q
def rNeH (K : PySem.W.Frag) : R2 := fun x y H Q => rNeG K x y H Q ∨ rSameL K false x y H Q
theorem opEqH {X : Cx} (hu : X.A.units + 64 < cLine) : OpR X (compareOp .Eq) (rEqH X.K) := OpR.or (opEq hu) (op_sameEq hu)
theorem opNeH {X : Cx} (hu : X.A.units + 64 < cLine) : OpR X (compareOp .NotEq) (rNeH X.K) := OpR.or (opNe hu) (op_sameNe hu)
/-! ## [x] * n -/
theorem zl_repS {K : PySem.W.Frag} {S : AS} {H : Hp} {d : D} {x : V} (h : Dz K S H d x) : ∀ n : Nat, DzL K S H (List.replicate n d) ((List.replicate n [x]).flatten)
  | 0 => zl_nil
  | n + 1 => by
    rw [List.replicate_succ, List.replicate_succ, List.flatten_cons]
    exact zl_cons h (zl_repS h n)
theorem d_repG {K : PySem.W.Frag} {S M : AS} {H0 H : Hp} {G : List (V × D)} {L : List (Addr × List D)} {B : List Addr} {Q : VK} {d : D} {a : Addr} {k : Int} (st : Vf.St K S M H0 H G L B) (h : Dz K S H (.lst [d]) (.ref a)) (hk : 0 ≤ k ∧ k ≤ 1000) (q : ∀ p H', Vf.St K S M H0 H' ((.ref p, .lst (List.replicate k.toNat d)) :: G) L B → Q (.ref p) H') : rRep (.ref a) (.int k) H Q := by
  obtain ⟨xs, h1, h2⟩ := z_lst h
  obtain ⟨x, _, rfl, hx, rfl⟩ := h2
  refine ⟨a, k, [x], rfl, rfl, h1.2, by omega, by omega, ?_, fun p n => q p _ (st.lst n (zl_repS hx k.toNat))⟩
  rw [sizeLine_eq]
  show 1 * k.toNat ≤ _
  omega
theorem d_repO {K : PySem.W.Frag} {S M : AS} {H0 H : Hp} {G : List (V × D)} {L : List (Addr × List D)} {B : List Addr} {Q : VK} {d : D} {a : Addr} {k : Int} (st : Vf.St K S M H0 H G L B) (h : Dz K S H (.lst [d]) (.ref a)) (hk : 0 ≤ k ∧ k ≤ 1000) (q : ∀ p H', ¬ S p → Vf.St K (fun b => S b ∨ b = p) M H0 H' G ((p, List.replicate k.toNat d) :: L) B → Q (.ref p) H') : rRep (.ref a) (.int k) H Q := by
  obtain ⟨xs, h1, h2⟩ := z_lst h
  obtain ⟨x, _, rfl, hx, rfl⟩ := h2
  refine ⟨a, k, [x], rfl, rfl, h1.2, by omega, by omega, ?_, fun p n => q p _ (st.nS n) (st.own n (zl_repS hx k.toNat))⟩
  rw [sizeLine_eq]
  show 1 * k.toNat ≤ _
  omega
/-! ## a def that is given an own list beside the bag -/
section
variable {K : PySem.W.Frag} {S M : AS} {H0 H H' : Hp} {G G' : List (V × D)} {L : List (Addr × List D)} {b p : Addr} {ds : List D} {xs r : List V}
def spDrO {α : Type} (K : PySem.W.Frag) (encL enc : α → List D) (pre : α → Prop) (post : α → D → Prop) : Sp := fun vs H Q _ => ∃ S b p r a xs, vs = .ref b :: .ref p :: r ∧ Okk S H ∧ S b ∧ S p ∧ p ≠ b ∧ Bag K S H b ∧ H p = some (.lst xs) ∧ DzL K S H (encL a) xs ∧ DzL K S H (enc a) r ∧ pre a ∧
  ∀ v d H', Kp (fun c => c = b ∨ c = p) H H' → Bag K S H' b → (∃ xs', H' p = some (.lst xs') ∧ DzL K S H' (encL a) xs') → Dz K S H' d v → post a d → Q v H'
theorem spDrO_len {α : Type} {encL enc : α → List D} {pre : α → Prop} {post : α → D → Prop} {vs : List V} {Q : VK} {E : XK} {n : Nat} (hn : ∀ a, (enc a).length = n) (h : spDrO K encL enc pre post vs H Q E) : vs.length = n + 2 := by
  obtain ⟨S, b, p, r, a, xs, rfl, _, _, _, _, _, _, _, hz, _⟩ := h
  show (r.length + 1) + 1 = _
  rw [hz.len, hn]
theorem St.startBO (ok : Okk S H) (sb : S b) (sp : S p) (ne : p ≠ b) (bg : Bag K S H b) (hp : H p = some (.lst xs)) (hx : DzL K S H ds xs) : Vf.St K S (fun c => c = b ∨ c = p) H H [] [(p, ds)] [b] :=
  ⟨ok, fun _ _ _ h => h, fun _ h => h, fun q m => by simp at m, fun q m => by
    rw [List.mem_singleton.mp m]
    exact ⟨sp, .inr (.inr rfl), xs, hp, hx⟩, fun a m => by
    rw [List.mem_singleton.mp m]
    exact ⟨sb, .inr (.inl rfl), bg⟩, by simp [ne]⟩
theorem St.bagO (st : Vf.St K S M H0 H G ((p, ds) :: L) [b]) (k : Kp (fun c => c = b ∨ c = p) H H') (bg : Bag K S H' b) (hp : ∃ xs', H' p = some (.lst xs') ∧ DzL K S H' ds xs') : Vf.St K S M H0 H' G ((p, ds) :: L) [b] := by
  obtain ⟨h1, h2, _⟩ := st.ba b (List.mem_singleton.mpr rfl)
  obtain ⟨p1, p2, _⟩ := st.la (p, ds) (List.mem_cons_self ..)
  have p1 : S p := p1
  have p2 : H0 p = none ∨ M p := p2
  obtain ⟨xs', hp1, hp2⟩ := hp
  have ms : ∀ c, (c = b ∨ c = p) → S c := fun c e => e.elim (fun e => e ▸ h1) (fun e => e ▸ p1)
  have dm : ∀ c, H c ≠ none → H' c ≠ none := fun c n => by
    by_cases z : c = b
    · subst z
      obtain ⟨r, x, i, cc, ns, q, _⟩ := bg.ex
      rw [q]; exact fun w => by cases w
    · by_cases z2 : c = p
      · subst z2
        rw [hp1]; exact fun w => by cases w
      · cases q : H c with
        | none => exact absurd q n
        | some o => rw [k c o (fun w => w.elim z z2) q]; exact fun w => by cases w
  have nd := st.nd
  rw [List.map_cons, List.cons_append, List.nodup_cons] at nd
  refine ⟨fun c s => dm c (st.ok c s), fun c o n e => ?_, fun c n => dm c (st.dm c n), fun q hq => Dz.keep k ms (st.ga q hq), fun q hq => ?_, fun c hc => ?_, st.nd⟩
  · refine k c o (fun z => ?_) (st.kp c o n e)
    rcases z with rfl | rfl
    · rcases h2 with h2 | h2
      · rw [e] at h2; cases h2
      · exact n h2
    · rcases p2 with h2 | h2
      · rw [e] at h2; cases h2
      · exact n h2
  · rcases List.mem_cons.mp hq with z | z
    · subst z
      exact ⟨p1, p2, xs', hp1, hp2⟩
    · obtain ⟨q1, q2, ys, q3, q4⟩ := st.la q hq
      have ne1 : q.1 ≠ p := fun e => nd.1 (List.mem_append_left _ (List.mem_map.mpr ⟨q, z, e⟩))
      have ne2 : q.1 ≠ b := fun e => (List.nodup_append.mp nd.2).2.2 q.1 (List.mem_map.mpr ⟨q, z, rfl⟩) b (List.mem_singleton.mpr rfl) e
      exact ⟨q1, q2, ys, k _ _ (fun w => w.elim ne2 ne1) q3, DzL.keep k ms q4⟩
  · rw [List.mem_singleton.mp hc]
    exact ⟨h1, h2, bg⟩
theorem c_DrO {α : Type} {encL enc : α → List D} {pre : α → Prop} {post : α → D → Prop} {vs : List V} {Q : VK} {E : XK} (a : α) (st : Vf.St K S M H0 H G ((p, encL a) :: L) [b]) (hz : DzL K S H (enc a) vs) (hp : pre a) (q : ∀ v d H', post a d → Vf.St K S M H0 H' ((v, d) :: G) ((p, encL a) :: L) [b] → Q v H') : spDrO K encL enc pre post (.ref b :: .ref p :: vs) H Q E := by
  obtain ⟨h1, h2, h3⟩ := st.ba b (List.mem_singleton.mpr rfl)
  obtain ⟨p1, p2, xs, p3, p4⟩ := st.la (p, encL a) (List.mem_cons_self ..)
  have nd := st.nd
  rw [List.map_cons, List.cons_append, List.nodup_cons] at nd
  refine ⟨S, b, p, vs, a, xs, rfl, st.ok, h1, p1, fun e => nd.1 (List.mem_append_right _ (List.mem_singleton.mpr e)), h3, p3, p4, hz, hp, fun v d H' k bg hx hv po => q v d H' po ((st.bagO k bg hx).add hv)⟩
/-- the last item of an own list -/
theorem d_own_end {a : Addr} {es : List D} {d : D} {L : List (Addr × List D)} {B : List Addr} {Q : VK} (k : Nat) (st : Vf.St K S M H0 H G L B) (hl : (a, es) ∈ L) (h0 : 0 < k) (h1 : k ≤ es.length) (hd : es[es.length - k]? = some d) (q : ∀ v, Dz K S H d v → Q v H) : rIxG K (.ref a) (.int (-(k : Nat))) H Q := by
  obtain ⟨_, _, xs, h3, z2⟩ := st.la (a, es) hl
  have z2 : DzL K S H es xs := z2
  have hl := z2.len
  obtain ⟨v, e, hv⟩ := z2.get hd
  refine .inl ⟨a, xs, _, v, rfl, rfl, SqL.of h3, ?_, q v hv⟩
  unfold atI ixN
  rw [if_neg (by omega), if_pos (by omega)]
  show xs[(-((k : Nat) : Int) + (xs.length : Int)).toNat]? = some v
  rw [show (-((k : Nat) : Int) + (xs.length : Int)).toNat = es.length - k by omega]
  exact e
end
/-- a plan may be compared -/
theorem planD_ok2 {w : Wn} (h : w.Ok) : (planD w).fine = true ∧ (planD w).wt ≤ 200 ∧ (planD w).dep ≤ 5 := by
  obtain ⟨a1, a2, a3⟩ := steps_fine h.hs
  obtain ⟨b1, b2, b3⟩ := steps_fine h.ts
  have c1 := h.c1
  have c2 := h.c2
  have l1 := h.l1
  have l2 := h.l2
  have hl := h.hl
  have tl := h.t24
  have i1 := (Vf.int_ok (i := w.cap) (by omega)).fine
  have i2 := (Vf.int_ok (i := w.lift) (by omega)).fine
  refine ⟨?_, ?_, ?_⟩
  · simp only [planD, D.fine, D.fines, Bool.and_eq_true]
    simp only [D.fine] at i1 i2
    exact ⟨a1, b1, i1, i2, trivial, trivial⟩
  · simp only [planD, D.wt, D.wts]; omega
  · simp only [planD, D.dep, D.deps]; omega
/-! ## C(..) of an own list, with what stays as it is -/
section
variable {α : Type} {K : PySem.W.Frag} {S M : AS} {H0 H : Hp} {G : List (V × D)} {L : List (Addr × List D)} {B : List Addr} {Q : VK} {E : XK} {vs : List V} {C : Addr} {enc : α → List D} {pre : α → Prop}
theorem c_make3 {fs : α → List (Str × D)} {n m : Nat} {gV : List V → List V → List V} {zs : List V} (x : α) (st : Vf.St K S M H0 H G L B) (sep : ∀ b, S b → ∃ ys, H b = some (.lst ys)) (im : D.immF (fs x) = true) (hn : vs.length = n) (hm : zs.length = m) (r : List V) (hg : ∀ a, gV (.ref a :: vs) zs = .ref a :: r) (hz : DzL K (fun _ => False) H (enc x) r) (hp : pre x)
    (q : ∀ a H', Same H H' → Vf.St K S M H0 H' ((.ref a, .ins C (fs x)) :: G) L B → Q (.ref a) H') : FMake C n m (spInit K C enc pre fs) gV E vs Q zs H := by
  refine ⟨hn, hm, fun a dx na nd ne => ?_⟩
  have e1 : Same H (upd (upd H dx (.own a)) a (.ins C dx [])) := fun b o h => by
    rw [upd_ne (ne_of_none h na), upd_ne (ne_of_none h nd)]
    exact h
  have ok2 : Okk (fun b => False ∨ b = a) (upd (upd H dx (.own a)) a (.ins C dx [])) := fun b s => by
    rcases s with s | s
    · exact s.elim
    · subst s; rw [upd_same]; exact fun w => by cases w
  refine ⟨fun b => False ∨ b = a, x, a, dx, r, hg a, ok2, .inr rfl, upd_same, DzL.same e1 (DzL.fresh na hz), hp, fun H' gs k ha hd => ⟨rfl, ?_⟩⟩
  have e2 : Same H H' := fun b o h => k b o (ne_of_none h na) (e1 b o h)
  refine q a H' e2 ((st.same e2).add ⟨a, dx, gs, rfl, st.nS na, ha, DzF.imm (S := fun _ => False) (fun b s => ?_) _ _ im (DzF.weak (fun _ => .inl) hd)⟩)
  obtain ⟨ys, s⟩ := sep b s
  exact .inr ⟨ys, e2 _ _ s⟩
/-- a call told of data, own lists among them, that changes nothing -/
theorem c_Bl0 {f : α → Bool} (a : α) (st : Vf.St K S M H0 H G L B) (hz : DzL K (fun _ => False) H (enc a) vs) (hp : pre a) (q : ∀ H', Vf.St K S M H0 H' G L B → Q (.bl (f a)) H') : spBl K enc pre f vs H Q E :=
  ⟨fun _ => False, a, fun _ h => h.elim, hz, hp, fun H' e => q H' (st.same e)⟩
theorem St.dz0 (st : Vf.St K S M H0 H G L B) {x : V} {d : D} (m : (x, d) ∈ G) : Dz K (fun _ => False) H d x := Dz.weak (fun _ h => h.elim) (st.dz m)
/-- a list of tuples is a list of references -/
theorem tups_refs {S : AS} {H : Hp} : ∀ {dss : List (List D)} {xs : List V}, DzL K S H (dss.map D.tup) xs → ∃ as : List Addr, xs = as.map V.ref
  | [], _, h => by cases h; exact ⟨[], rfl⟩
  | ds :: dss, _, h => by
    obtain ⟨x, r, rfl, ⟨a, _, rfl, _, _⟩, h2⟩ := h
    obtain ⟨as, rfl⟩ := tups_refs h2
    exact ⟨a :: as, rfl⟩
/-- list(p) of an own list of tuples: the very same things stand in both -/
theorem d_listSame {p : Addr} {dss : List (List D)} (st : Vf.St K S M H0 H G L B) (m : (p, dss.map D.tup) ∈ L) (q : ∀ l H' (as : List Addr), H' p = some (.lst (as.map V.ref)) → H' l = some (.lst (as.map V.ref)) → Vf.St K S M H0 H' ((.ref l, .lst (dss.map D.tup)) :: G) L B → Q (.ref l) H') : rListG K [.ref p] H Q := by
  obtain ⟨_, _, xs, h3, h4⟩ := st.la (p, dss.map D.tup) m
  obtain ⟨as, rfl⟩ := tups_refs h4
  refine ⟨p, _, rfl, .inl (SqL.of h3), fun l n => q l _ as ?_ upd_same (st.lst n h4)⟩
  rw [upd_ne (fun e => by rw [e] at h3; rw [n] at h3; cases h3)]
  exact h3
end
/-! ## plans that are alike -/
theorem eqv_steps : ∀ {l k : List (Int × Int)}, PyData.eqvAll (D.pys (l.map stepD)) (D.pys (k.map stepD)) = true → l = k
  | [], [], _ => rfl
  | [], _ :: _, h => by simp [D.pys, PyData.eqvAll] at h
  | _ :: _, [], h => by simp [D.pys, PyData.eqvAll] at h
  | (a, b) :: l, (c, d) :: k, h => by
    simp only [List.map_cons, stepD, D.pys, D.py, PyData.eqvAll, PyData.eqv, Bool.and_eq_true, decide_eq_true_eq, beq_iff_eq] at h
    obtain ⟨⟨h1, h2, _⟩, h3⟩ := h
    rw [eqv_steps h3, h1, h2]
theorem eqv_plan {w v : Wn} (h : PyData.eqv (planD w).py (planD v).py = true) : w = v := by
  obtain ⟨h1, t1, c1, l1, a1⟩ := w
  obtain ⟨h2, t2, c2, l2, a2⟩ := v
  simp only [planD, D.py, D.pys, PyData.eqvAll, PyData.eqv, Bool.and_eq_true, decide_eq_true_eq, beq_iff_eq] at h
  obtain ⟨e1, e2, e3, e4, e5, _⟩ := h
  rw [eqv_steps e1, eqv_steps e2, e3, e4, e5]
section
variable {K : PySem.W.Frag} {S M : AS} {H0 H : Hp} {G : List (V × D)} {L : List (Addr × List D)} {B : List Addr} {Q : VK} {a : Addr} {ds : List D} {x : V} {d : D}
/-- list(range(i, j)) -/
theorem g_rg2 {ta tb : TE} {σ : L2.St} {P : Int → Int → Hp → Prop} (h : ta σ H fun x H1 => tb σ H1 fun y H2 => ∃ i j, x = .int i ∧ y = .int j ∧ P i j H2) : tRg2 ta tb σ H P := h
theorem d_lrg2 {i j : Int} (st : Vf.St K S M H0 H G L B) (h : RgOk i j) (q : ∀ p H', Vf.St K S M H0 H' ((.ref p, .lst ((List.range (j - i).toNat).map fun k => D.int (i + (k : Nat)))) :: G) L B → Q (.ref p) H') : FLrg Q i j H :=
  ⟨h, fun p np => q p _ (st.lst np (rgV_data i _))⟩
/-- [.. for x in l], the new list the def's own -/
theorem lc_LO {g : TG} {tt : TT} {te : TE} {ws : List Nat} {σ : L2.St} (st : Vf.St K S M H0 H G L B) (m : (V.ref a, D.lst ds) ∈ G) (P : Nat → List D → Prop) (p0 : P 0 [])
    (hs : ∀ p i d x H1 es, ¬ S p → ds[i]? = some d → i < ds.length → es.length ≤ i → P i es → Vf.St K (fun b => S b ∨ b = p) M H0 H1 ((x, d) :: G) ((p, es) :: L) B → g x (wipe σ ws) H1 fun σ2 H3 => wipe σ2 ws = wipe σ ws ∧ tt σ2 H3 fun b H4 =>
      if b = true then te σ2 H4 (LcE K S M H0 G L B p P (i + 1)) else LcP K S M H0 G L B p P (i + 1) H4)
    (hd : ∀ p H' es, ¬ S p → P ds.length es → es.length ≤ ds.length → Vf.St K (fun b => S b ∨ b = p) M H0 H' G ((p, es) :: L) B → Q (.ref p) H') : FItl K (FLc g tt te ws σ Q) (.ref a) H := by
  obtain ⟨xs, h1, _⟩ := z_lst (st.dz m)
  refine ⟨a, rfl, ⟨xs, h1.sq⟩, d_lcO (fun p => walk_Ld (S := fun b => S b ∨ b = p)) st (fun p es H' s => s.dz m) P p0 (fun p i x H1 H2 es n hi hl pe s y => ?_) hd⟩
  obtain ⟨e, d, hd', hx⟩ := y
  subst e
  exact hs p i d x _ es n hd' hi hl pe (s.add hx)
end
end Vf
namespace Vf
open PySem PySem.Spec PyProof.Rows L2 RZ
/-! ## fractions -/
/-- a fraction in lowest terms -/
def lowZ (x : Int × Int) : Int × Int := (x.1 / ((Nat.gcd x.1.natAbs x.2.natAbs : Nat) : Int), x.2 / ((Nat.gcd x.1.natAbs x.2.natAbs : Nat) : Int))
def addF (x y : Int × Int) : Int × Int := (x.1 * y.2 + y.1 * x.2, x.2 * y.2)
def sumF (l : List (Int × Int)) : Int × Int := l.foldl addF (0, 1)
def sumL (l : List (Int × Int)) : Int × Int := l.foldl (fun x y => lowZ (addF x y)) (0, 1)
/-- a top of 0 or more, a bottom of 1 or more -/
def FrP (x : Int × Int) : Prop := 0 ≤ x.1 ∧ 0 < x.2
theorem gcd_pos {x : Int × Int} (h : FrP x) : 0 < Nat.gcd x.1.natAbs x.2.natAbs := Nat.gcd_pos_of_pos_right _ (by have := h.2; omega)
theorem low_split {x : Int × Int} (h : FrP x) : ∃ g : Int, 0 < g ∧ x = (g * (lowZ x).1, g * (lowZ x).2) := by
  have g0 := gcd_pos h
  refine ⟨((Nat.gcd x.1.natAbs x.2.natAbs : Nat) : Int), by omega, ?_⟩
  have d1 : ((Nat.gcd x.1.natAbs x.2.natAbs : Nat) : Int) ∣ x.1 := Int.ofNat_dvd_left.2 (Nat.gcd_dvd_left ..)
  have d2 : ((Nat.gcd x.1.natAbs x.2.natAbs : Nat) : Int) ∣ x.2 := Int.ofNat_dvd_left.2 (Nat.gcd_dvd_right ..)
  show x = (_ * (x.1 / _), _ * (x.2 / _))
  rw [Int.mul_ediv_cancel' d1, Int.mul_ediv_cancel' d2]
theorem low_mul {g : Int} (h : 0 < g) (a b : Int) : lowZ (g * a, g * b) = lowZ (a, b) := by
  have hg : ((g.natAbs : Nat) : Int) = g := by omega
  unfold lowZ
  dsimp only
  rw [Int.natAbs_mul, Int.natAbs_mul, Nat.gcd_mul_left, Int.natCast_mul, hg, Int.mul_ediv_mul_of_pos _ _ h, Int.mul_ediv_mul_of_pos _ _ h]
theorem low_pos {x : Int × Int} (h : FrP x) : FrP (lowZ x) ∧ (lowZ x).1 ≤ x.1 ∧ (lowZ x).2 ≤ x.2 := by
  obtain ⟨g, g0, e⟩ := low_split h
  obtain ⟨h1, h2⟩ := h
  have e1 : x.1 = g * (lowZ x).1 := congrArg Prod.fst e
  have e2 : x.2 = g * (lowZ x).2 := congrArg Prod.snd e
  unfold FrP
  generalize (lowZ x).1 = p at e1 ⊢
  generalize (lowZ x).2 = q at e2 ⊢
  rw [e1] at h1
  rw [e2] at h2
  have p0 : 0 ≤ p := by
    refine Int.not_lt.mp fun z => ?_
    have := Int.mul_neg_of_pos_of_neg g0 z
    omega
  have q0 : 0 < q := by
    refine Int.not_le.mp fun z => ?_
    have := Int.mul_nonpos_of_nonneg_of_nonpos (Int.le_of_lt g0) z
    omega
  refine ⟨⟨p0, q0⟩, ?_, ?_⟩
  · rw [e1]
    have := Int.mul_le_mul_of_nonneg_right (show (1 : Int) ≤ g by omega) p0
    omega
  · rw [e2]
    have := Int.mul_le_mul_of_nonneg_right (show (1 : Int) ≤ g by omega) (Int.le_of_lt q0)
    omega
theorem addF_pos {x y : Int × Int} (h : FrP x) (k : FrP y) : FrP (addF x y) :=
  ⟨Int.add_nonneg (Int.mul_nonneg h.1 (Int.le_of_lt k.2)) (Int.mul_nonneg k.1 (Int.le_of_lt h.2)), Int.mul_pos h.2 k.2⟩
theorem low_add {x y : Int × Int} (h : FrP x) : lowZ (addF (lowZ x) y) = lowZ (addF x y) := by
  obtain ⟨g, g0, e⟩ := low_split h
  have e1 : x.1 = g * (lowZ x).1 := congrArg Prod.fst e
  have e2 : x.2 = g * (lowZ x).2 := congrArg Prod.snd e
  have : addF x y = (g * (addF (lowZ x) y).1, g * (addF (lowZ x) y).2) := by
    unfold addF
    dsimp only
    rw [Prod.mk.injEq]
    refine ⟨?_, ?_⟩
    · conv => lhs; rw [e1, e2]
      rw [Int.mul_add, Int.mul_assoc, Int.mul_left_comm y.1]
    · conv => lhs; rw [e2]
      rw [Int.mul_assoc]
  rw [this, low_mul g0]
theorem low_fold : ∀ (l : List (Int × Int)) (x : Int × Int), FrP x → (∀ y ∈ l, FrP y) → l.foldl (fun x y => lowZ (addF x y)) (lowZ x) = lowZ (l.foldl addF x)
  | [], _, _, _ => rfl
  | y :: l, x, h, k => by
    rw [List.foldl_cons, List.foldl_cons, low_add h]
    exact low_fold l _ (addF_pos h (k y (List.mem_cons_self ..))) fun z m => k z (List.mem_cons_of_mem _ m)
theorem sumL_low {l : List (Int × Int)} (k : ∀ y ∈ l, FrP y) : sumL l = lowZ (sumF l) := low_fold l (0, 1) ⟨by decide, by decide⟩ k
theorem sumF_snoc {l : List (Int × Int)} {y : Int × Int} : sumF (l ++ [y]) = addF (sumF l) y := by
  unfold sumF
  rw [List.foldl_append]
  rfl
theorem sumL_snoc {l : List (Int × Int)} {y : Int × Int} : sumL (l ++ [y]) = lowZ (addF (sumL l) y) := by
  unfold sumL
  rw [List.foldl_append]
  rfl
/-- what may be added: tops and bottoms that are small -/
def FrS (y : Int × Int) : Prop := 0 ≤ y.1 ∧ y.1 ≤ 24000000000 ∧ 1 ≤ y.2 ∧ y.2 ≤ 1000000000
theorem FrS.p {y : Int × Int} (h : FrS y) : FrP y := ⟨h.1, h.2.2.1⟩
def FrB (n : Nat) (x : Int × Int) : Prop := 0 ≤ x.1 ∧ x.1 ≤ (n : Int) * (24000000000) * 1000000000 ^ n ∧ 0 < x.2 ∧ x.2 ≤ 1000000000 ^ n
theorem FrB.p {n : Nat} {x : Int × Int} (h : FrB n x) : FrP x := ⟨h.1, h.2.2.1⟩
theorem FrB.add {n : Nat} {x y : Int × Int} (h : FrB n x) (k : FrS y) : FrB (n + 1) (addF x y) := by
  obtain ⟨a1, a2, a3, a4⟩ := h
  obtain ⟨b1, b2, b3, b4⟩ := k
  have p0 : (0 : Int) < 1000000000 ^ n := Int.pow_pos (by decide)
  obtain ⟨B, hB⟩ : ∃ B : Int, 1000000000 ^ n = B := ⟨_, rfl⟩
  have p := addF_pos ⟨a1, a3⟩ (FrS.p ⟨b1, b2, b3, b4⟩)
  unfold FrB
  rw [Int.pow_succ]
  rw [hB] at a2 a4 p0 ⊢
  refine ⟨p.1, ?_, p.2, ?_⟩
  · show x.1 * y.2 + y.1 * x.2 ≤ _
    have h1 : x.1 * y.2 ≤ ((n : Int) * (24000000000) * B) * 1000000000 := Int.mul_le_mul a2 b4 (by omega) (by have := Int.mul_nonneg (Int.mul_nonneg (Int.natCast_nonneg n) (show (0 : Int) ≤ 24000000000 by decide)) (Int.le_of_lt p0); omega)
    have h2 : y.1 * x.2 ≤ (24000000000) * B := Int.mul_le_mul b2 a4 (by omega) (by decide)
    have h3 : (24000000000) * B ≤ ((24000000000) * B) * 1000000000 := by omega
    have h4 : (((n + 1 : Nat) : Int) * (24000000000)) * (B * 1000000000) = ((n : Int) * (24000000000) * B) * 1000000000 + ((24000000000) * B) * 1000000000 := by
      rw [Int.natCast_add, Int.add_mul, Int.add_mul, ← Int.mul_assoc, ← Int.mul_assoc]
      rfl
    rw [h4]
    omega
  · exact Int.mul_le_mul a4 b4 (by omega) (Int.le_of_lt p0)
theorem FrB.low {n : Nat} {x : Int × Int} (h : FrB n x) : FrB n (lowZ x) := by
  obtain ⟨a1, a2, a3, a4⟩ := h
  obtain ⟨p, l1, l2⟩ := low_pos ⟨a1, a3⟩
  exact ⟨p.1, by omega, p.2, by omega⟩
theorem frB0 : FrB 0 (0, 1) := by unfold FrB; decide
theorem FrB.all : ∀ (l : List (Int × Int)), (∀ y ∈ l, FrS y) → ∀ {n : Nat} {x : Int × Int}, FrB n x → FrB (n + l.length) (l.foldl addF x)
  | [], _, _, _, h => h
  | y :: l, k, n, x, h => by
    rw [List.foldl_cons, List.length_cons, show n + (l.length + 1) = (n + 1) + l.length by omega]
    exact FrB.all l (fun z m => k z (List.mem_cons_of_mem _ m)) (h.add (k y (List.mem_cons_self ..)))
theorem sumF_bd {l : List (Int × Int)} (k : ∀ y ∈ l, FrS y) : FrB l.length (sumF l) := by
  have := FrB.all l k frB0
  rw [Nat.zero_add] at this
  exact this
theorem FrB.big {n : Nat} {x : Int × Int} (h : FrB n x) (hn : n ≤ 8) : x.1.natAbs < 2 ^ 290 ∧ x.2.natAbs < 2 ^ 290 := by
  have a : ∀ n : Nat, n ≤ 8 → (n : Int) * (24000000000) * 1000000000 ^ n < 2 ^ 290 ∧ (1000000000 : Int) ^ n < 2 ^ 290 := by decide +kernel
  obtain ⟨c1, c2⟩ := a n hn
  obtain ⟨h1, h2, h3, h4⟩ := h
  generalize (n : Int) * (24000000000) * 1000000000 ^ n = u at *
  generalize (1000000000 : Int) ^ n = v at *
  rw [show ((2 : Int) ^ 290) = ((2 ^ 290 : Nat) : Int) by norm_cast] at c1 c2
  generalize (2 : Nat) ^ 290 = z at *
  omega
theorem mulW_of {i j : Int} (hi : i.natAbs < 2 ^ 2000) (hj : j.natAbs < 2 ^ 2000) : CMulW i j := by
  have b : ∀ x : Int, x.natAbs < 2 ^ 2000 → x.natAbs.log2 < 2000 := fun x h => by
    by_cases z : x.natAbs = 0
    · rw [z]; decide
    · exact (Nat.log2_lt z).mpr h
  have := b i hi
  have := b j hj
  unfold CMulW
  omega
theorem divW_of {i j : Int} (h0 : 0 < j) (hj : j.natAbs < 2 ^ 2000) : CDivW i j := ⟨h0, by
  have : j.natAbs.log2 < 2000 := (Nat.log2_lt (by omega)).mpr hj
  omega⟩
theorem pow_up {a : Nat} {m n : Nat} (h : a < 2 ^ m) (k : m ≤ n) : a < 2 ^ n := Nat.lt_of_lt_of_le h (Nat.pow_le_pow_right (by decide) k)
theorem mul_bits {i j : Int} {m n : Nat} (hi : i.natAbs < 2 ^ m) (hj : j.natAbs < 2 ^ n) : (i * j).natAbs < 2 ^ (m + n) := by
  rw [Int.natAbs_mul, Nat.pow_add]
  exact Nat.mul_lt_mul'' hi hj
/-! ## what a day takes -/
theorem sum_map_mul {f : Nat → Int} {n : Nat} (h : 0 < n) : ∀ m : Nat, ((List.range (n * m)).map fun i => f (i % n)).sum = ((List.range n).map f).sum * (m : Int)
  | 0 => by simp
  | m + 1 => by
    rw [Nat.mul_succ, List.range_add, List.map_append, List.sum_append, sum_map_mul h m, List.map_map]
    have e : ((List.range n).map ((fun i => f (i % n)) ∘ fun x => n * m + x)) = (List.range n).map f := by
      refine List.map_congr_left fun i hi => ?_
      have hi := List.mem_range.mp hi
      show f ((n * m + i) % n) = f i
      rw [Nat.mul_add_mod, Nat.mod_eq_of_lt hi]
    rw [e, Int.natCast_add, Int.mul_add]
    omega
theorem sum_range_get : ∀ (l : List Int), ((List.range l.length).map fun i => l.getD i 0).sum = l.sum := by
  intro l
  congr 1
  refine List.ext_getElem? fun i => ?_
  rw [List.getElem?_map]
  by_cases h : i < l.length
  · rw [List.getElem?_range h, List.getElem?_eq_getElem h]
    show some (l.getD i 0) = _
    rw [List.getD_eq_getElem?_getD, List.getElem?_eq_getElem h]
    rfl
  · rw [List.getElem?_eq_none (by rw [List.length_range]; omega), List.getElem?_eq_none (by omega)]
    rfl
theorem sum_bd {c : Int} : ∀ {l : List Int}, (∀ x ∈ l, 0 ≤ x ∧ x ≤ c) → 0 ≤ l.sum ∧ l.sum ≤ l.length * c
  | [], _ => by simp
  | x :: l, h => by
    obtain ⟨a, b⟩ := sum_bd (l := l) fun y m => h y (List.mem_cons_of_mem _ m)
    obtain ⟨c1, c2⟩ := h x (List.mem_cons_self ..)
    rw [List.sum_cons, List.length_cons, Int.natCast_add, Int.add_mul]
    omega
/-! ## the days by which all of one is gone -/
theorem lost_right {x y : Int} (hx : 0 ≤ x) (hy : 0 < y) : 1 ≤ x / y + 1 ∧ x < (x / y + 1) * y ∧ ¬ x < (x / y + 1 - 1) * y := by
  have h0 := Int.ediv_nonneg hx (Int.le_of_lt hy)
  have h1 := Int.emod_add_mul_ediv x y
  have h2 := Int.emod_nonneg x (show y ≠ 0 by omega)
  have h3 := Int.emod_lt_of_pos x hy
  rw [Int.mul_comm] at h1
  refine ⟨by omega, ?_, ?_⟩
  · rw [Int.add_mul]; omega
  · rw [show x / y + 1 - 1 = x / y by omega]; omega
theorem short_iff {s t by_ bot days : Int} : (s + 24 * days * by_) * bot < days * t * by_ ↔ s * bot < days * (by_ * (t - 24 * bot)) := by
  have : days * t * by_ - (s + 24 * days * by_) * bot = days * (by_ * (t - 24 * bot)) - s * bot := by
    rw [Int.add_mul, Int.mul_sub, Int.mul_sub, Int.mul_assoc days t by_, Int.mul_comm t by_]
    rw [show 24 * days * by_ * bot = days * (by_ * (24 * bot)) by
      rw [Int.mul_assoc, Int.mul_assoc, Int.mul_left_comm 24 days, Int.mul_left_comm 24 by_]]
    omega
  omega
theorem sumF_mono : ∀ {α : Type} (f g h : α → Int) (l : List α), (∀ a ∈ l, f a ≤ g a ∧ 0 < h a) → ∀ {x y : Int × Int}, 0 < x.2 → x.2 = y.2 → x.1 ≤ y.1 →
    ((l.map fun a => (f a, h a)).foldl addF x).2 = ((l.map fun a => (g a, h a)).foldl addF y).2 ∧ ((l.map fun a => (f a, h a)).foldl addF x).1 ≤ ((l.map fun a => (g a, h a)).foldl addF y).1
  | _, _, _, _, [], _, _, _, _, e, l => ⟨e, l⟩
  | _, f, g, h, a :: l, k, x, y, p, e, le => by
    obtain ⟨k1, k2⟩ := k a (List.mem_cons_self ..)
    rw [List.map_cons, List.map_cons, List.foldl_cons, List.foldl_cons]
    refine sumF_mono f g h l (fun b m => k b (List.mem_cons_of_mem _ m)) ?_ ?_ ?_
    · exact Int.mul_pos p k2
    · show x.2 * h a = y.2 * h a
      rw [e]
    · show x.1 * h a + f a * x.2 ≤ y.1 * h a + g a * y.2
      rw [← e]
      have := Int.mul_le_mul_of_nonneg_right le (Int.le_of_lt k2)
      have := Int.mul_le_mul_of_nonneg_right k1 (Int.le_of_lt p)
      omega
theorem low_div {x : Int × Int} (h : FrP x) {a b : Int} : (lowZ x).1 * a / ((lowZ x).2 * b) = x.1 * a / (x.2 * b) := by
  obtain ⟨g, g0, e⟩ := low_split h
  have e1 : x.1 = g * (lowZ x).1 := congrArg Prod.fst e
  have e2 : x.2 = g * (lowZ x).2 := congrArg Prod.snd e
  rw [e1, e2, Int.mul_assoc, Int.mul_assoc, Int.mul_ediv_mul_of_pos _ _ g0]
theorem lost_mono {x y : Int × Int} (hx : FrP x) (hy : FrP y) (e : x.2 = y.2) (l : x.1 ≤ y.1) {a b : Int} (ha : 0 ≤ a) (hb : 0 < b) :
    (lowZ x).1 * a / ((lowZ x).2 * b) ≤ (lowZ y).1 * a / ((lowZ y).2 * b) := by
  rw [low_div hx, low_div hy, e]
  exact Int.ediv_le_ediv (Int.mul_pos hy.2 hb) (Int.mul_le_mul_of_nonneg_right l ha)
/-! ## the sums of a day -/
def takesI (w : Wn) : Int := (w.tail.map (·.2)).sum * (24 / (w.tail.length : Int))
theorem tail_div {w : Wn} (h : w.Ok) : ∃ m : Nat, w.tail.length * m = 24 ∧ (24 : Int) / (w.tail.length : Int) = (m : Int) := by
  have ht := h.tl
  simp only [tails, List.mem_cons, List.not_mem_nil, or_false] at ht
  rcases ht with e | e | e | e | e | e | e | e
  · exact ⟨24, by omega, by rw [e]; rfl⟩
  · exact ⟨12, by omega, by rw [e]; rfl⟩
  · exact ⟨8, by omega, by rw [e]; rfl⟩
  · exact ⟨6, by omega, by rw [e]; rfl⟩
  · exact ⟨4, by omega, by rw [e]; rfl⟩
  · exact ⟨3, by omega, by rw [e]; rfl⟩
  · exact ⟨2, by omega, by rw [e]; rfl⟩
  · exact ⟨1, by omega, by rw [e]; rfl⟩
theorem takes_each {w : Wn} (h : w.Ok) : ∀ x ∈ w.tail.map (·.2), 0 ≤ x ∧ x ≤ 1000000000 := fun x m => by
  obtain ⟨s, hs, rfl⟩ := List.mem_map.mp m
  obtain ⟨_, _, a, b⟩ := h.ts s hs
  exact ⟨a, by omega⟩
theorem takes_bd {w : Wn} (h : w.Ok) : 0 ≤ takesI w ∧ takesI w ≤ 24000000000 := by
  obtain ⟨m, e1, e2⟩ := tail_div h
  obtain ⟨a, b⟩ := sum_bd (takes_each h)
  rw [List.length_map] at b
  unfold takesI
  rw [e2]
  refine ⟨Int.mul_nonneg a (by omega), ?_⟩
  have := Int.mul_le_mul_of_nonneg_right b (show (0 : Int) ≤ (m : Int) by omega)
  have e3 : ((w.tail.length : Nat) : Int) * 1000000000 * (m : Int) = ((w.tail.length * m : Nat) : Int) * 1000000000 := by
    rw [Int.natCast_mul, Int.mul_right_comm]
  rw [e3, e1] at this
  omega
theorem takes_law {w : Wn} (h : w.Ok) : ((List.range 24).map fun i => (w.tail.map (·.2)).getD (i % w.tail.length) 0).sum = takesI w := by
  obtain ⟨m, e1, e2⟩ := tail_div h
  unfold takesI
  rw [e2, ← e1, sum_map_mul (f := fun j => (w.tail.map (·.2)).getD j 0) h.t0 m]
  have := sum_range_get (w.tail.map (·.2))
  rw [List.length_map] at this
  rw [this]
/-- a part whose day is summed up -/
def need1 (w : Wn) : Int × Int := (takesI w, w.lift)
theorem need1_ok {w : Wn} (h : w.Ok) (hl : 1 ≤ w.lift) : FrS (need1 w) := ⟨(takes_bd h).1, (takes_bd h).2, hl, by have := h.l2; show w.lift ≤ _; omega⟩
theorem frD_ok {x : Int × Int} (h1 : x.1.natAbs < 2 ^ 290) (h2 : x.2.natAbs < 2 ^ 290) : (D.tup [.int x.1, .int x.2]).Ok := by
  have f : ∀ i : Int, i.natAbs < 2 ^ 290 → (D.int i).fine = true := fun i hi => (int_okB (Nat.lt_trans hi (Nat.pow_lt_pow_right (by decide) (by decide)))).fine
  refine ⟨?_, ?_, ?_⟩
  · have e : ∀ x y : D, (D.tup [x, y]).fine = (x.fine && (y.fine && true)) := fun x y => by simp only [D.fine, D.fines]
    rw [e, f _ h1, f _ h2]; rfl
  · simp only [D.wt, D.wts]; decide
  · simp only [D.dep, D.deps]; decide
end Vf
namespace Vf
open PySem PySem.Spec PyProof.Rows L2 RZ
/-! ## a local name that holds one of two defs, called; what these refuse goes on -/
def tCallV2 (i : Nat) (f1 f2 : Addr) (sp1 sp2 : Sp) (E : XK) (t : TA) : TE := fun σ H Q => (σ[i]? = some (some (.ref f1)) ∧ t σ H fun vs H1 => sp1 vs H1 Q E) ∨ (σ[i]? = some (some (.ref f2)) ∧ t σ H fun vs H1 => sp2 vs H1 Q E)
theorem pe_callV2 {X : Cx} {x : Str} {p pos : Pos} {e : Expr} {es : List Expr} {t : TA} {CX : CXT} {i k1 k2 : Nat} {f1 f2 : Addr} {fd1 fd2 : FuncData} {ps1 ps2 : List Str} {sp1 sp2 : Sp} {E : XK}
    (F1 : FnOk X.prog X.w X.K X.mg X.base CX k1 f1 fd1 ps1 sp1) (F2 : FnOk X.prog X.w X.K X.mg X.base CX k2 f2 fd2 ps2 sp2) (r1 : Room k1 X.A) (r2 : Room k2 X.A) (q1 : PySem.W.keepIn X.K (.ref f1) = true) (q2 : PySem.W.keepIn X.K (.ref f2) = true)
    (b1 : Binds X.K fd1 ps1 []) (b2 : Binds X.K fd2 ps2 []) (hx : Passes CX X E) (ha : PA X (e :: es) t)
    (hN : X.N[i]? = some x := by rfl) (hv : Vis X.env.scope x := by first | exact Or.inl rfl | exact Or.inr (Or.inl rfl) | exact Or.inr (Or.inr rfl))
    (hd : (x == ("__debug__" : Str)) = false := by decide) (hcd : (x == ("__classdict__" : Str)) = false := by decide)
    (he : starEach (e :: es) X.env = (false, eval e X.env) :: starEach es X.env := by rfl) (hpl : (backTo pos (starEach es X.env)).any (·.1) = false := by rfl) :
    PE X (.Call (.Name x p) (e :: es) [] pos) (tCallV2 i f1 f2 sp1 sp2 E t) := by
  refine ⟨fun pins s σ H Q I h => ?_⟩
  have go : ∀ {k : Nat} {f : Addr} {fd : FuncData} {ps : List Str} {sp : Sp}, FnOk X.prog X.w X.K X.mg X.base CX k f fd ps sp → Room k X.A → PySem.W.keepIn X.K (.ref f) = true → Binds X.K fd ps [] → σ[i]? = some (some (.ref f)) → (t σ H fun vs H1 => sp vs H1 Q E) → wpAny (model X.prog X.w) X.A (eval (.Call (.Name x p) (e :: es) [] pos) X.env) (EP X pins σ Q) X.xe s := fun {k f fd ps sp} F hr kp b hs ht => by
    refine wpAny_Call_Name_kw (thn ((pe_var (pos := p) hN hv hd hcd).run pins s σ H (fun v H1 => v = .ref f ∧ H1 = H) I ⟨.ref f, hs, rfl, rfl⟩) fun u s1 ⟨v, H1, I1, r1, q1⟩ => ?_)
    obtain ⟨rfl, rfl⟩ := q1
    cases r1
    refine PySem.W.callWith_K (h₀ := X.base) I.ok.mod.kin kp (thn (ha.run pos pins s1 σ _ _ I1 ht) fun us s2 ⟨vs, H2, I2, r, q⟩ => ⟨I2.kIn, ?_⟩) he hpl
    exact run_fn F hr b .nil hx I2 r (by rw [List.append_nil]; exact q)
  rcases h with ⟨h1, h2⟩ | ⟨h1, h2⟩
  · exact go F1 r1 q1 b1 h1 h2
  · exact go F2 r2 q2 b2 h1 h2
theorem g_cv2a {i : Nat} {f1 f2 : Addr} {sp1 sp2 : Sp} {E : XK} {t : TA} {σ : L2.St} {H : Hp} {Q : VK} (h : σ[i]? = some (some (.ref f1))) (k : t σ H fun vs H1 => sp1 vs H1 Q E) : tCallV2 i f1 f2 sp1 sp2 E t σ H Q := .inl ⟨h, k⟩
theorem g_cv2b {i : Nat} {f1 f2 : Addr} {sp1 sp2 : Sp} {E : XK} {t : TA} {σ : L2.St} {H : Hp} {Q : VK} (h : σ[i]? = some (some (.ref f2))) (k : t σ H fun vs H1 => sp2 vs H1 Q E) : tCallV2 i f1 f2 sp1 sp2 E t σ H Q := .inr ⟨h, k⟩
/-! ## what a call lets out, with the caller's names as they are at the call -/
theorem run_fnS {X : Cx} {k : Nat} {f : Addr} {fd : FuncData} {ps : List Str} {sp : Sp} {dvs : List V} {ds : List Value} {W : WX} {pins : List (Addr × Obj)} {σ : L2.St} {H : Hp} {s : Shared} {Q : VK} {us : List Value} {vs : List V} (F : FnOk X.prog X.w X.K X.mg X.base (L2.CX X.prog X.w) k f fd ps sp) (hr : Room k X.A) (hb : Binds X.K fd ps ds) (hd : Vals dvs ds) (tk : Takes X W)
    (I : Inv X pins σ H s) (r : Vals vs us) (h : sp (vs ++ dvs) H Q (fun c d H' => W c d σ H')) : wpAny (model X.prog X.w) X.A (call (.ref f) us) (EP X pins σ Q) X.xe s := by
  have r2 : Vals (vs ++ dvs) (us ++ ds) := r.append hd
  have hl : (us ++ ds).length = ps.length := by rw [← r2.length]; exact F.len _ _ _ _ h
  refine wpAny_call (codeAny_mono (F.run X.A X.stack s H ⟨us, []⟩ (us ++ ds) (vs ++ dvs) Q _ hr I.env0 (hb s us I.kIn hl) r2 h) fun r s' hq => ?_)
  cases r with
  | error e => exact tk e s' (XE.of_call I (fun _ _ _ h => h) hq)
  | ok fl =>
    cases fl with
    | ret u => exact I.after hq
    | next => exact False.elim hq
    | brk => exact False.elim hq
    | cont => exact False.elim hq
def tCallS (sp : Sp) (dvs : List V) (W : WX) (t : TA) : TE := fun σ H Q => t σ H fun vs H1 => sp (vs ++ dvs) H1 Q (fun c d H' => W c d σ H')
theorem pe_callS {X : Cx} {x : Str} {p pos : Pos} {e : Expr} {es : List Expr} {t : TA} {k : Nat} {f : Addr} {fd : FuncData} {ps : List Str} {sp : Sp} {dvs : List V} {ds : List Value} {W : WX} (F : FnOk X.prog X.w X.K X.mg X.base (L2.CX X.prog X.w) k f fd ps sp) (hr : Room k X.A) (hg : Gl X x) (hm : X.mg x = some (.ref f)) (hk : PySem.W.keepIn X.K (.ref f) = true) (hb : Binds X.K fd ps ds) (hd : Vals dvs ds) (tk : Takes X W)
    (ha : PA X (e :: es) t) (hdb : (x == ("__debug__" : Str)) = false := by decide) (he : starEach (e :: es) X.env = (false, eval e X.env) :: starEach es X.env := by rfl) (hpl : (backTo pos (starEach es X.env)).any (·.1) = false := by rfl) :
    PE X (.Call (.Name x p) (e :: es) [] pos) (tCallS sp dvs W t) := by
  refine ⟨fun pins s σ H Q I h => ?_⟩
  refine wpAny_Call_Name_kw (ld_glob I hg hm ?_ hdb)
  refine PySem.W.callWith_K (h₀ := X.base) I.ok.mod.kin hk (thn (ha.run pos pins s σ H _ I h) fun us s1 ⟨vs, H1, I1, r, q⟩ => ⟨I1.kIn, ?_⟩) he hpl
  exact run_fnS F hr hb hd tk I1 r q
theorem g_callS {sp : Sp} {W : WX} {t : TA} {σ : L2.St} {H : Hp} {Q : VK} (h : t σ H fun vs H1 => sp (vs ++ []) H1 Q (fun c d H' => W c d σ H')) : tCallS sp [] W t σ H Q := h
def tMethS (C : Addr) (m : Str) (sp : Sp) (W : WX) (ta : TE) (t : TA) : TE := fun σ H Q => ta σ H fun x H1 => ∃ a dx fs, x = .ref a ∧ H1 a = some (.ins C dx fs) ∧ fs.lookup m = none ∧ t σ H1 fun vs H2 => sp (x :: vs) H2 Q (fun c d H' => W c d σ H')
def tCallV2S (i : Nat) (f1 f2 : Addr) (sp1 sp2 : Sp) (W : WX) (t : TA) : TE := fun σ H Q => (σ[i]? = some (some (.ref f1)) ∧ t σ H fun vs H1 => sp1 vs H1 Q (fun c d H' => W c d σ H')) ∨ (σ[i]? = some (some (.ref f2)) ∧ t σ H fun vs H1 => sp2 vs H1 Q (fun c d H' => W c d σ H'))
theorem pe_callV2S {X : Cx} {x : Str} {p pos : Pos} {e : Expr} {es : List Expr} {t : TA} {i k1 k2 : Nat} {f1 f2 : Addr} {fd1 fd2 : FuncData} {ps1 ps2 : List Str} {sp1 sp2 : Sp} {W : WX}
    (F1 : FnOk X.prog X.w X.K X.mg X.base (L2.CX X.prog X.w) k1 f1 fd1 ps1 sp1) (F2 : FnOk X.prog X.w X.K X.mg X.base (L2.CX X.prog X.w) k2 f2 fd2 ps2 sp2) (r1 : Room k1 X.A) (r2 : Room k2 X.A) (q1 : PySem.W.keepIn X.K (.ref f1) = true) (q2 : PySem.W.keepIn X.K (.ref f2) = true)
    (b1 : Binds X.K fd1 ps1 []) (b2 : Binds X.K fd2 ps2 []) (tk : Takes X W) (ha : PA X (e :: es) t)
    (hN : X.N[i]? = some x := by rfl) (hv : Vis X.env.scope x := by first | exact Or.inl rfl | exact Or.inr (Or.inl rfl) | exact Or.inr (Or.inr rfl))
    (hd : (x == ("__debug__" : Str)) = false := by decide) (hcd : (x == ("__classdict__" : Str)) = false := by decide)
    (he : starEach (e :: es) X.env = (false, eval e X.env) :: starEach es X.env := by rfl) (hpl : (backTo pos (starEach es X.env)).any (·.1) = false := by rfl) :
    PE X (.Call (.Name x p) (e :: es) [] pos) (tCallV2S i f1 f2 sp1 sp2 W t) := by
  refine ⟨fun pins s σ H Q I h => ?_⟩
  have go : ∀ {k : Nat} {f : Addr} {fd : FuncData} {ps : List Str} {sp : Sp}, FnOk X.prog X.w X.K X.mg X.base (L2.CX X.prog X.w) k f fd ps sp → Room k X.A → PySem.W.keepIn X.K (.ref f) = true → Binds X.K fd ps [] → σ[i]? = some (some (.ref f)) → (t σ H fun vs H1 => sp vs H1 Q (fun c d H' => W c d σ H')) → wpAny (model X.prog X.w) X.A (eval (.Call (.Name x p) (e :: es) [] pos) X.env) (EP X pins σ Q) X.xe s := fun {k f fd ps sp} F hr kp b hs ht => by
    refine wpAny_Call_Name_kw (thn ((pe_var (pos := p) hN hv hd hcd).run pins s σ H (fun v H1 => v = .ref f ∧ H1 = H) I ⟨.ref f, hs, rfl, rfl⟩) fun u s1 ⟨v, H1, I1, r1, q1⟩ => ?_)
    obtain ⟨rfl, rfl⟩ := q1
    cases r1
    refine PySem.W.callWith_K (h₀ := X.base) I.ok.mod.kin kp (thn (ha.run pos pins s1 σ _ _ I1 ht) fun us s2 ⟨vs, H2, I2, r, q⟩ => ⟨I2.kIn, ?_⟩) he hpl
    exact run_fnS F hr b .nil tk I2 r (by rw [List.append_nil]; exact q)
  rcases h with ⟨h1, h2⟩ | ⟨h1, h2⟩
  · exact go F1 r1 q1 b1 h1 h2
  · exact go F2 r2 q2 b2 h1 h2
theorem g_cv2aS {i : Nat} {f1 f2 : Addr} {sp1 sp2 : Sp} {W : WX} {t : TA} {σ : L2.St} {H : Hp} {Q : VK} (h : σ[i]? = some (some (.ref f1))) (k : t σ H fun vs H1 => sp1 vs H1 Q (fun c d H' => W c d σ H')) : tCallV2S i f1 f2 sp1 sp2 W t σ H Q := .inl ⟨h, k⟩
theorem g_cv2bS {i : Nat} {f1 f2 : Addr} {sp1 sp2 : Sp} {W : WX} {t : TA} {σ : L2.St} {H : Hp} {Q : VK} (h : σ[i]? = some (some (.ref f2))) (k : t σ H fun vs H1 => sp2 vs H1 Q (fun c d H' => W c d σ H')) : tCallV2S i f1 f2 sp1 sp2 W t σ H Q := .inr ⟨h, k⟩
theorem w_asS {K : PySem.W.Frag} {i : Nat} {T C : Addr} {ts : Addr → Value → Option Addr → TS} {Wout : WX} {D : Ends} {d : Option Addr} {σ : L2.St} {H : Hp} (e : PySem.W.exmOne K (.ref C) (.ref T) = some true)
    (h : ∀ a, H a = none → ts a (.ref C) d { nx := fun σ' H' => D.nx (σ'.set i none) H', rt := D.rt, bk := fun σ' H' => D.bk (σ'.set i none) H', ct := fun σ' H' => D.ct (σ'.set i none) H' } (σ.set i (some (.ref a))) H) : wAs K (.ref T) i ts Wout D (.ref C) d σ H :=
  ⟨true, e, fun _ a na => h a na, fun z => nomatch z⟩
/-! ## for x in (f, g): a tuple of whatever things -/
theorem walk_Tv {K : PySem.W.Frag} {a : Addr} {xs : List V} : Walk (Itt K a) xs.length (fun H => SqT K H a xs) (fun i H x H' => H' = H ∧ xs[i]? = some x) := by
  refine ⟨fun i H hi h => ?_, fun H h => ?_, fun i H x H' hi h y => ?_⟩
  · exact ⟨xs, xs[i], h, List.getElem?_eq_getElem hi⟩
  · exact ⟨xs, h, Nat.le_refl _⟩
  · have q := y.2 xs h
    exact ⟨y.1, q⟩
theorem for_TV {K : PySem.W.Frag} {a : Addr} {xs : List V} {H : Hp} {g : TG} {tb : TS} {E : Ends} {σ : L2.St} (Pv : Nat → L2.St → Hp → Prop) (hG : ∀ i σ H, Pv i σ H → SqT K H a xs) (h0 : Pv 0 σ H)
    (hs : ∀ i x σ H, xs[i]? = some x → i < xs.length → Pv i σ H → g x σ H fun σ2 H2 => tb { E with nx := Pv (i + 1), ct := Pv (i + 1), bk := E.nx } σ2 H2) (hd : ∀ σ H, Pv xs.length σ H → E.nx σ H) : FItt K (FFor g tb E σ) (.ref a) H := by
  refine ⟨a, rfl, ⟨xs, hG _ _ _ h0⟩, for_it walk_Tv Pv h0 (fun i σ H _ p => hG i σ H p) (fun i x σ H H' hi p y => ?_) hd⟩
  obtain ⟨e, q⟩ := y
  subst e
  exact hs i x σ _ q hi p
/-! ## lists made: a slice, a sum, [..] * n, an item put in -/
section
variable {K : PySem.W.Frag} {S M : AS} {H0 H : Hp} {G : List (V × D)} {L : List (Addr × List D)} {B : List Addr} {Q : VK} {ds es : List D} {a b : Addr}
/-- l[i:j], the def's own -/
theorem d_slLO {lo hi : Option Int} (st : Vf.St K S M H0 H G L B) (h : Dz K S H (.lst ds) (.ref a)) (q : ∀ p H', ¬ S p → Vf.St K (fun c => S c ∨ c = p) M H0 H' G ((p, Vf.cutD ds lo hi) :: L) B → Q (.ref p) H') : rSlG K (.ref a) lo hi H Q := by
  obtain ⟨xs, h1, h2⟩ := z_lst h
  exact .inl ⟨a, xs, rfl, h1.sq, fun p n => q p _ (st.nS n) (st.own n h2.cut)⟩
/-- l + m, the def's own -/
theorem v_catO (st : Vf.St K S M H0 H G L B) (h : Dz K S H (.lst ds) (.ref a)) (h' : Dz K S H (.lst es) (.ref b)) (hl : ds.length + es.length ≤ sizeLine) (q : ∀ p H', ¬ S p → Vf.St K (fun c => S c ∨ c = p) M H0 H' G ((p, ds ++ es) :: L) B → Q (.ref p) H') : rAddG K (.ref a) (.ref b) H Q := by
  obtain ⟨xs, h1, h2⟩ := z_lst h
  obtain ⟨ys, h3, h4⟩ := z_lst h'
  exact .inr (.inr (.inl ⟨a, b, xs, ys, rfl, rfl, h1.2, h3.2, by rw [h2.len, h4.len]; exact hl, fun p n => q p _ (st.nS n) (st.own n (h2.app h4))⟩))
theorem zl_repL {S : AS} {H : Hp} {xs : List V} (h : DzL K S H ds xs) : ∀ n : Nat, DzL K S H ((List.replicate n ds).flatten) ((List.replicate n xs).flatten)
  | 0 => zl_nil
  | n + 1 => by
    rw [List.replicate_succ, List.replicate_succ, List.flatten_cons, List.flatten_cons]
    exact h.app (zl_repL h n)
/-- l * n -/
theorem d_repL {k : Int} (st : Vf.St K S M H0 H G L B) (h : Dz K S H (.lst ds) (.ref a)) (hk : 0 ≤ k ∧ k ≤ 1000) (hl : ds.length ≤ 100) (q : ∀ p H', Vf.St K S M H0 H' ((.ref p, .lst ((List.replicate k.toNat ds).flatten)) :: G) L B → Q (.ref p) H') : rRep (.ref a) (.int k) H Q := by
  obtain ⟨xs, h1, h2⟩ := z_lst h
  refine ⟨a, k, xs, rfl, rfl, h1.2, by omega, by omega, ?_, fun p n => q p _ (st.lst n (zl_repL h2 k.toNat))⟩
  rw [sizeLine_eq, h2.len]
  have : ds.length * k.toNat ≤ 100 * 1000 := Nat.mul_le_mul hl (by omega)
  omega
/-- l.insert(j, x) -/
theorem d_insert {i : Nat} {j : Int} {d : D} {y : V} (st : Vf.St K S M H0 H G L B) (hl : L[i]? = some (a, ds)) (hz : Dz K S H d y) (h0 : 0 ≤ j ∧ j ≤ 100000) (hn : ds.length < 100000) (q : ∀ H', Vf.St K S M H0 H' G (L.set i (a, ds.take j.toNat ++ [d] ++ ds.drop j.toNat)) B → Q .non H') :
    ∃ (l : Addr) (xs : List V) (i : Int) (y0 : V), V.ref a = .ref l ∧ [V.int j, y] = [.int i, y0] ∧ H l = some (.lst xs) ∧ xs.length < sizeLine ∧ 0 ≤ i ∧ i < 2 ^ 63 ∧ Q .non (upd H l (.lst (xs.take i.toNat ++ [y0] ++ xs.drop i.toNat))) := by
  obtain ⟨_, _, xs, h3, h4⟩ := st.la (a, ds) (List.mem_of_getElem? hl)
  refine ⟨a, xs, j, y, rfl, rfl, h3, ?_, h0.1, by omega, q _ (st.put hl (((h4.take _).app (zl_cons hz zl_nil)).app (h4.drop _)))⟩
  rw [h4.len, sizeLine_eq]
  show ds.length < _
  omega
/-- what stays as it is over a call -/
theorem c_VS {α : Type} {E : XK} {vs : List V} {enc : α → List D} {pre : α → Prop} {f : α → D} (a : α) (st : Vf.St K S M H0 H G L B) (hz : DzL K S H (enc a) vs) (hp : pre a) (q : ∀ v H', Same H H' → Vf.St K S M H0 H' ((v, f a) :: G) L B → Q v H') : spV K enc pre f vs H Q E :=
  ⟨S, a, st.ok, hz, hp, fun v H' e hv => q v H' e ((st.same e).add hv)⟩
theorem c_BlS {α : Type} {E : XK} {vs : List V} {enc : α → List D} {pre : α → Prop} {f : α → Bool} (a : α) (st : Vf.St K S M H0 H G L B) (hz : DzL K S H (enc a) vs) (hp : pre a) (q : ∀ H', Same H H' → Vf.St K S M H0 H' G L B → Q (.bl (f a)) H') : spBl K enc pre f vs H Q E :=
  ⟨S, a, st.ok, hz, hp, fun H' e => q H' e (st.same e)⟩
end
end Vf
namespace Vf
open PySem PySem.Spec PyProof.Rows L2 RZ
/-! ## l[i:] = m, l[:] = m -/
section
variable {prog : Program} {w : World} {A : Around} {E : Value → Shared → Prop} {s : Shared}
theorem cut_put (its zs : List Value) (a c : Nat) : its.toArray.extract 0 a ++ zs.toArray ++ its.toArray.extract c its.toArray.size = (its.take a ++ zs ++ its.drop c).toArray := L2.splice_eq its zs a c
set_option maxRecDepth 100000 in
theorem put_part {l b sl : Addr} {old new : Array Value} {m k : Nat} {vl vu : Value} {lo hi : Option Int} {R : Unit → Shared → Prop}
    (gl : s.heap.get? l = some { cls := .type "list", data := .seq old m }) (gb : s.heap.get? b = some { cls := .type "list", data := .seq new k }) (ne : l ≠ b)
    (hs : s.heap.IsSliceOf sl vl vu .none) (pl : IsPart vl lo) (pu : IsPart vu hi) (sz : old.size + new.size ≤ sizeLine)
    (hR : R () { s with heap := s.heap.update l (Obj.mapSeq fun xs => xs.extract 0 (PySem.W.kms_lo lo old.size) ++ new ++ xs.extract (max (PySem.W.kms_lo lo old.size) (PySem.W.kms_hi hi old.size)) xs.size) }) :
    wpAny (model prog w) A (setItem (.ref l) (.ref sl) (.ref b)) R E s := by
  have il : s.heap.IsList l old := PySem.IsL.isList gl
  have ib : s.heap.IsList b new := PySem.IsL.isList gb
  obtain ⟨ob, o1, o2, o3⟩ := id hs
  have ty : s.TypeIs (.ref sl) "slice" := ⟨ob, o1, o2⟩
  have n0 : ¬ ((rawPart none == rawInt 0) = true) := Bool.false_ne_true
  have n1 : Builtin.List.listSameRef (.ref l) (.ref b) = false := by unfold Builtin.List.listSameRef; exact beq_eq_false_iff_ne.mpr ne
  have lh : PySem.W.kms_lo lo old.size ≤ old.size := by
    unfold PySem.W.kms_lo
    split
    · omega
    · split <;> omega
  have hh : PySem.W.kms_hi hi old.size ≤ old.size := by
    unfold PySem.W.kms_hi
    split
    · omega
    · split <;> omega
  have mx : (max ((PySem.W.kms_lo lo old.size : Nat) : Int) ((PySem.W.kms_hi hi old.size : Nat) : Int)).toNat = max (PySem.W.kms_lo lo old.size) (PySem.W.kms_hi hi old.size) := by omega
  have z9 : ((fun xs : Array Value => xs.extract 0 (PySem.W.kms_lo lo old.size) ++ new ++ xs.extract (max (PySem.W.kms_lo lo old.size) (PySem.W.kms_hi hi old.size)) xs.size) old).size ≤ sizeLine + 1 := by
    simp only [Array.size_append, Array.size_extract]; omega
  unfold setItem
  try with_reducible refine wpAny_holding ?_
  first | refine wpAny_bind (wpAny_pure ?_) | skip
  refine wpAny_bind (wpAny_sequenceKey il.typeIs (by decide) (wpAny_bind (wpAny_callSpecial?_slot (name := Str.ofString "__setitem__") il.typeIs slot_list_setitem (wpAny_call_entry slot_list_setitem il.typeIs entry_list_setitem ?_ (args_list_setitem _ _ _)))))
  show wpAny _ _ (Builtin.List.listSubscript? (.ref sl) >>= _) _ _ s
  refine wpAny_bind ?_
  unfold Builtin.List.listSubscript?
  refine wpAny_bind (wpAny_specialOf ty slice_no_index ?_)
  simp only [Option.isNone_none, if_true]
  refine wpAny_pure ?_
  show wpAny _ _ (typeOf (.ref sl) >>= _) _ _ s
  refine wpAny_bind (wpAny_typeOf ty ?_)
  first | rw [if_neg (by decide)] | refine PySem.W.KFB.if_not (by decide) ?_
  rw [listSliceParts_eq]
  refine wpAny_bind (wpAny_bind (wpAny_field o1 o3 (x := .none) rfl (wpAny_bind (wpAny_listPart .none ?_))))
  rw [if_neg n0]
  refine wpAny_bind (wpAny_field o1 o3 (x := vl) rfl (wpAny_bind (wpAny_listPart pl (wpAny_bind (wpAny_field o1 o3 (x := vu) rfl (wpAny_bind (wpAny_listPart pu (wpAny_pure ?_))))))))
  first | simp only [n1, Bool.false_eq_true, if_false] | refine PySem.W.KFB.if_not n1 ?_ | (dsimp only; rw [if_neg (by rw [n1]; exact Bool.false_ne_true)])
  refine wpAny_bind (m := Builtin.List.listAllItems (.ref b) "must assign iterable to extended slice") ?_
  unfold Builtin.List.listAllItems
  refine wpAny_bind (wpAny_typeOf ib.typeIs ?_)
  first | refine PySem.W.KFB.if_so (by decide) ?_ | rw [if_pos (by decide)] | simp only [beq_self_eq_true, Bool.true_or, if_true]
  unfold Builtin.List.listItems
  refine wpAny_bind (wpAny_seqItems gb rfl (wpAny_pure (wpAny_bind (wpAny_bind (wpAny_seqItems gl rfl (wpAny_pure ?_))))))
  refine wpAny_bind (wpAny_of_eq ((sliceIndices_raw lo hi none old.size (by simp)).trans (congrArg (pure : Int × Int × Int → Sem (Int × Int × Int)) (PySem.W.kms_bounds lo hi old.size))) ?_)
  show wpAny _ _ (if ((1 : Int) == 1) = true then _ else _) _ _ s
  rw [if_pos (by decide)]
  refine wpAny_bind (wpAny_rule ?_)
  first | simp only [notLongL sz, Bool.false_eq_true, if_false] | refine PySem.W.KFB.if_not (notLongL sz) ?_
  first | refine wpAny_bind (wpAny_pure ?_) | skip
  show wpAny _ _ (updateSeq l (fun xs => xs.extract 0 (((PySem.W.kms_lo lo old.size : Nat) : Int)).toNat ++ new ++ xs.extract (max ((PySem.W.kms_lo lo old.size : Nat) : Int) ((PySem.W.kms_hi hi old.size : Nat) : Int)).toNat xs.size) >>= _) _ _ s
  rw [mx, Int.toNat_natCast]
  refine wpAny_bind (wpAny_updateSeq (hz := Nat.le_trans (Nat.le_add_right _ _) sz) (_hz' := z9) gl rfl (wpAny_bind (wpAny_letGo ?_)))
  first | exact wpAny_bind (wpAny_pure (wpAny_pure ⟨.none, rfl, wpAny_pure hR⟩)) | exact wpAny_pure ⟨.none, rfl, wpAny_pure hR⟩
end
/-- l[i:j] = m at the values -/
def rSlW (lo hi : Option Int) (x v : V) (H : Hp) (N : Hp → Prop) : Prop := ∃ (l b : Addr) (xs ys : List V), x = .ref l ∧ v = .ref b ∧ H l = some (.lst xs) ∧ H b = some (.lst ys) ∧ l ≠ b ∧ xs.length + ys.length ≤ sizeLine ∧
  N (upd H l (.lst (xs.take (PySem.W.kms_lo lo xs.length) ++ ys ++ xs.drop (max (PySem.W.kms_lo lo xs.length) (PySem.W.kms_hi hi xs.length)))))
def gSlW (to : TE) (tl th : TO) : TG := fun v σ H Q => to σ H fun x H1 => tl σ H1 fun a H2 => th σ H2 fun c H3 => rSlW a c x v H3 (fun H4 => Q σ H4)
theorem pg_slw {X : Cx} {o : Expr} {lo hi : Option Expr} {p2 pos : Pos} {to : TE} {tl th : TO} (ho : PE X o to) (hl : PO X lo tl) (hu : PO X hi th)
    (ha : ∀ v, assign (.Subscript o (.Slice lo hi none p2) pos) X.env v = (do
      let a ← holding [v] (eval o X.env)
      let c ← holding [v, a] (eval (.Slice lo hi none p2) X.env)
      standAt pos
      holding [v, a, c] (setItem a c v)
      release [c, v, a] []) := by intro _; rfl) : PG X (.Subscript o (.Slice lo hi none p2) pos) (gSlW to tl th) := by
  refine ⟨fun pins s σ H v u Q I r h => ?_⟩
  rw [ha]
  refine wpAny_bind (wpAny_holding (thn (ho.run pins s σ H _ I h) fun ov s1 ⟨x, H1, I1, r1, q1⟩ => wpAny_bind (wpAny_holding (wpAny_Slice (thn (hl.run pins s1 σ H1 _ I1 q1) fun vl s2 ⟨a, H2, I2, pl, q2⟩ => thn (hu.run pins s2 σ H2 _ I2 q2) fun vu s3 ⟨c, H3, I3, pu, q3⟩ => ?_)))))
  rw [evalPart_none]
  refine wpAny_pure ?_
  obtain ⟨l, b, xs, ys, rfl, rfl, hL, hB, ne, sz, q⟩ := q3
  cases r1
  cases r
  have I4 : Inv X pins σ H3 { s3 with heap := s3.heap.push { cls := .type "slice", data := .fields #[vl, vu, .none] } } := I3.kept (t' := s3.toks) fun b ob q => Heap.get?_push_of_some _ q
  obtain ⟨z, its, n, rv, hz, e⟩ := I4.lstM hL
  obtain ⟨z2, its2, n2, rv2, hz2, e2⟩ := I4.lstM hB
  have el : its.toArray.size = xs.length := by rw [List.size_toArray]; exact rv.length.symm
  have el2 : its2.toArray.size = ys.length := by rw [List.size_toArray]; exact rv2.length.symm
  refine wpAny_bind (wpAny_standAt (wpAny_bind (wpAny_holding (put_part e e2 ne (Heap.IsSliceOf.new ..) pl pu (by rw [el, el2]; exact sz) ?_))))
  rw [el]
  refine wpAny_release ⟨σ, _, I4.lset (its' := its.take (PySem.W.kms_lo a xs.length) ++ its2 ++ its.drop (max (PySem.W.kms_lo a xs.length) (PySem.W.kms_hi c xs.length))) (t' := s3.toks) hL e (cut_put its its2 _ _) ((rv.take _).append rv2 |>.append (rv.drop _)) ?_, q⟩
  rw [List.length_append, List.length_append, List.length_take, List.length_drop]
  omega
/-! ## C(), an exception class of one's own without an __init__ -/
theorem pmk_own0 {X : Cx} {C : Addr} {bmB : List Value} {B newId initId : String} {x : Str} {p pos : Pos} (F : ExcBaseFacts B newId initId bmB) (q : PySem.W.excIn X.K C bmB newId = true) (gC : X.mg x = some (.ref C)) (kC : PySem.W.keepIn X.K (.ref C) = true) (r : Raises X (.ref C)) (hg : Gl X x)
    (hdb : (x == ("__debug__" : Str)) = false := by decide) : PMk X (.Call (.Name x p) [] [] pos) (fun _ H Q => Q (.ref C) none H) := by
  intro pins s σ H Q I h
  refine wpAny_Call_Name_kw (ld_glob I hg gC (PySem.W.callWith_K0 I.kIn kC ?_) hdb)
  obtain ⟨bm, N, nm, qn, bs, hdct, sn, sub, ab, col, dd, k0, k1, k2, k3, k5, mN, hC, hN, hni, T⟩ := exc_obj I.kIn q
  refine wpAny_call_exc_subT F T hC hN hni (fun h' e hm => mk_of I hm r h (I.hok.gone hm.new)) ?_
  show 0 ≤ sizeLine
  omega
/-! ## a method's refusal, with the caller's names as they are at the call -/
section
variable {X : Cx} {k : Nat} {f C : Addr} {fd : FuncData} {ps : List Str} {sp : Sp} {m : Str} {pos apos : Pos} {e o : Expr} {es : List Expr} {ta : TE} {t : TA} {W : WX}
def tMethW (C : Addr) (m : Str) (sp : Sp) (W : WX) (ta : TE) (t : TA) : TE := fun σ H Q => ta σ H fun x H1 => ∃ a dx fs, x = .ref a ∧ H1 a = some (.ins C dx fs) ∧ fs.lookup m = none ∧ t σ H1 fun vs H2 => sp (x :: vs) H2 Q (fun c d H' => W c d σ H')
theorem pe_methW {pl : Sem Bool} (he : PE X o ta) (c : Cls X.K C) (hm : Meth X.K C m f) (F : FnOk X.prog X.w X.K X.mg X.base (L2.CX X.prog X.w) k f fd ps sp) (hr : Room k X.A) (hb : Binds X.K fd ps []) (tk : Takes X W) (ha : PA X (e :: es) t)
    (hst : starEach (e :: es) X.env = (false, eval e X.env) :: starEach es X.env := by rfl) (hpl : (backTo pos (starEach es X.env)).any (·.1) = false := by rfl)
    (ht : eval (.Call (.Attribute o m apos) (e :: es) [] pos) X.env = (do
      let a ← eval o X.env
      standAt apos.atName
      let (g, first) ← holding [a] (getMethod a m pl)
      callWith pos g first (backTo pos (starEach (e :: es) X.env)) (backToKw pos (keywordEach [] X.env))) := by rfl) :
    PE X (.Call (.Attribute o m apos) (e :: es) [] pos) (tMethW C m sp W ta t) := by
  refine ⟨fun pins s σ H Q I h => PySem.W.methodCall_KW (pl := pl) (thn (he.run pins s σ H _ I h) fun u s1 ⟨x, H1, I1, rx, a, dx, fs, ex, ea, l, q⟩ => ?_) ht⟩
  subst ex
  obtain rfl : u = Value.ref a := rx
  refine getmeth_ok I1 ea c hm l (PySem.W.callWith_K (first := [.ref a]) (h₀ := X.base) I.ok.mod.kin hm.kp (thn (ha.run pos pins s1 σ H1 _ I1 q) fun us s2 ⟨vs, H2, I2, r, q2⟩ => ⟨I2.kIn, ?_⟩) hst hpl)
  exact run_fnS (us := .ref a :: us) (vs := .ref a :: vs) F hr hb .nil tk I2 (.cons rfl r) (by rw [List.append_nil]; exact q2)
theorem g_methW {σ : L2.St} {H : Hp} {Q : VK} (h : ta σ H fun x H1 => ∃ a dx fs, x = .ref a ∧ H1 a = some (.ins C dx fs) ∧ fs.lookup m = none ∧ t σ H1 fun vs H2 => sp (x :: vs) H2 Q (fun c d H' => W c d σ H')) : tMethW C m sp W ta t σ H Q := h
theorem d_methW {K : PySem.W.Frag} {S : AS} {H : Hp} {fs : List (Str × D)} {a : Addr} {σ : L2.St} {Q : VK} (h : Dz K S H (.ins C fs) (.ref a)) (hl : fs.lookup m = none) (q : t σ H fun vs H2 => sp (.ref a :: vs) H2 Q (fun c d H' => W c d σ H')) :
    ∃ (b dx : Addr) (gs : List (Str × V)), V.ref a = .ref b ∧ H b = some (.ins C dx gs) ∧ gs.lookup m = none ∧ t σ H fun vs H2 => sp (V.ref a :: vs) H2 Q (fun c d H' => W c d σ H') := by
  obtain ⟨b, dx, gs, e, _, h2, h3⟩ := h
  cases e
  exact ⟨a, dx, gs, rfl, h2, h3.none hl, q⟩
end
/-! ## isinstance of a refusal without a field -/
theorem d_isX0 {K : PySem.W.Frag} {a D T : Addr} {b : Bool} {H : Hp} {Q : VK} (x : XCls K D) (k : PySem.W.kitOne K (.ref D) (.ref T) = some b) (q : Q (.bl b) H) : rIsEX K a (.ref D) none [.ref a, .ref T] H Q :=
  ⟨D, rfl, x.ic, .inl rfl, .inl ⟨.ref T, .ref T, b, rfl, .own T, k, q⟩⟩
/-! ## x in a list of data -/
theorem o_niD {K : PySem.W.Frag} {S : AS} {H : Hp} {d : D} {ds : List D} {x y : V} {Q : VK} (h1 : Dz K S H d x) (h2 : Dz K S H (.lst ds) y) (o1 : d.Ok) (o2 : (D.lst ds).Ok) (q : Q (.bl (!(D.pys ds).any fun z => PyData.eqv z d.py)) H) : rNotInD K x y H Q := by
  have e : (D.lst ds).py = .list (D.pys ds) := by simp only [D.py]
  have a := Dz.dp _ _ o2.flat h2
  have b := o2.shaped
  rw [e] at a b
  exact ⟨d.py, D.pys ds, Dz.dp _ _ o1.flat h1, a, o1.shaped, b, q⟩
/-! ## t[::-1] of a tuple -/
section
variable {prog : Program} {w : World} {A : Around} {E : Value → Shared → Prop} {s : Shared}
theorem applied_rev {sl : Addr} {vk : Value} {n : Nat} {R : Int × Int × Nat → Shared → Prop} (hs : s.heap.IsSliceOf sl .none .none vk) (pk : IsPart vk (some (-1))) (h : R ((n : Int) - 1, -1, n) s) : wpAny (model prog w) A (Builtin.Slice.sliceApplied (.ref sl) (pure (n : Int))) R E s := by
  obtain ⟨ob, o1, o2, o3⟩ := id hs
  unfold Builtin.Slice.sliceApplied Builtin.Slice.sliceFields
  refine wpAny_bind (wpAny_bind (wpAny_field o1 o3 (x := .none) rfl (wpAny_bind (wpAny_field o1 o3 (x := .none) rfl (wpAny_bind (wpAny_field o1 o3 (x := vk) rfl (wpAny_pure (wpAny_bind (HT.slicePart_ pk ?_)))))))))
  show wpAny _ _ (if ((-1 : Int) == 0) = true then _ else _) _ _ s
  rw [if_neg (by decide)]
  refine wpAny_bind (HT.slicePart_ .none (wpAny_bind (HT.slicePart_ .none (wpAny_bind (wpAny_pure ?_)))))
  have e : Builtin.Slice.slicePlaces ((n : Int) - 1) (-1) (-1) = n := by
    unfold Builtin.Slice.slicePlaces
    rw [if_neg (by decide)]
    split
    · rw [show (-(-1) : Int) = 1 by decide, Int.ediv_one]; omega
    · omega
  show wpAny _ _ (pure ((n : Int) - 1, (-1 : Int), Builtin.Slice.slicePlaces ((n : Int) - 1) (-1) (-1))) _ _ s
  rw [e]
  exact wpAny_pure h
theorem pick_rev (xs : Array Value) : ((List.range xs.size).filterMap fun (m : Nat) => xs[(((xs.size : Nat) : Int) - 1 + (m : Int) * -1).toNat]?).toArray = xs.toList.reverse.toArray := by
  have e : (List.range xs.size).filterMap (fun (m : Nat) => xs[(((xs.size : Nat) : Int) - 1 + (m : Int) * -1).toNat]?) = ((List.range xs.size).map fun m => xs.size - 1 - m).filterMap (xs[·]?) := by
    rw [List.filterMap_map]
    congr 1
    funext m
    show _ = xs[xs.size - 1 - m]?
    rw [show (((xs.size : Nat) : Int) - 1 + (m : Int) * -1).toNat = xs.size - 1 - m by omega]
  rw [e, PySem.W.krv_range, List.filterMap_reverse, PySem.W.krv_all]
theorem get_rev {t sl : Addr} {its : Array Value} {vk : Value} {R : Value → Shared → Prop} (ht : IsTup s.heap t its) (hs : s.heap.IsSliceOf sl .none .none vk) (pk : IsPart vk (some (-1)))
    (h : R (.ref s.heap.objs.size) { s with heap := s.heap.push { cls := .type "tuple", data := .seq its.toList.reverse.toArray } }) (hz : its.size ≤ sizeLine) : wpAny (model prog w) A (getItem (.ref t) (.ref sl)) R E s := by
  have so : sizeOk (.seq its.toList.reverse.toArray) := by
    show its.toList.reverse.toArray.size ≤ sizeLine
    rw [List.size_toArray, List.length_reverse, Array.length_toList]
    exact hz
  obtain ⟨ob, o1, o2, o3⟩ := id hs
  have ty : s.TypeIs (.ref sl) "slice" := ⟨ob, o1, o2⟩
  unfold getItem
  try with_reducible refine wpAny_holding ?_
  first | refine wpAny_bind (wpAny_pure ?_) | skip
  refine wpAny_bind (wpAny_sequenceKey ht.typeIs (by decide) (wpAny_bind (wpAny_callSpecial?_slot (name := Str.ofString "__getitem__") ht.typeIs PyProof.Rows.slot_tuple_getitem (wpAny_call_entry PyProof.Rows.slot_tuple_getitem ht.typeIs entry_tuple_getitem ?_ (args_tuple_getitem _ _)))))
  show wpAny _ _ (Builtin.Tuple.tupleItemsOf (.ref t) >>= _) _ _ s
  refine wpAny_bind (tupleItemsOf_ ht (wpAny_bind (wpAny_typeOf ty ?_)))
  rw [if_pos (by decide)]
  refine wpAny_bind (applied_rev hs pk ?_)
  have no : ¬ ((((its.size : Nat) : Int) - 1 == 0 && (-1 : Int) == 1 && its.size == its.size) = true) := by
    rw [show ((-1 : Int) == 1) = false by decide, Bool.and_false, Bool.false_and]
    decide
  show wpAny _ _ (if (((its.size : Nat) : Int) - 1 == 0 && (-1 : Int) == 1 && its.size == its.size) = true then _ else _) _ _ s
  rw [if_neg no, pick_rev]
  first
    | exact wpAny_bind (m := Builtin.Tuple.tupleExact _) (wpAny_newObj_type (wpAny_pure ⟨_, rfl, wpAny_pure h⟩) so)
    | exact wpAny_bind (m := Builtin.Tuple.tupleExact _) (wpAny_newObj_type (wpAny_bind (wpAny_pure (wpAny_pure ⟨_, rfl, wpAny_pure h⟩))) so)
    | exact wpAny_bind (wpAny_bind (m := Builtin.Tuple.tupleExact _) (wpAny_newObj_type (wpAny_pure (wpAny_pure ⟨_, rfl, wpAny_pure h⟩)) so))
    | exact wpAny_bind (wpAny_bind (m := Builtin.Tuple.tupleExact _) (wpAny_newObj_type (wpAny_pure ⟨_, rfl, wpAny_pure h⟩) so))
end
def tRevT (K : PySem.W.Frag) (te : TE) : TE := fun σ H Q => te σ H fun x H1 => ∃ a xs, x = .ref a ∧ SqT K H1 a xs ∧ ∀ p, H1 p = none → Q (.ref p) (upd H1 p (.tup xs.reverse))
theorem pe_revT {X : Cx} {e : Expr} {te : TE} {k : Nat} {p1 p2 p3 pos : Pos} (he : PE X e te) : PE X (.Subscript e (.Slice none none (some (.UnaryOp .USub (.Constant (.int 1) k p1) p2)) p3) pos) (tRevT X.K te) := by
  refine ⟨fun pins s σ H Q I h => Subscript_ (thn (he.run pins s σ H _ I h) fun v s1 ⟨x, H1, I1, r1, a, xs, ex, hx, q⟩ => ?_)⟩
  subst ex
  cases r1
  have hst : PO X (some (.UnaryOp .USub (.Constant (.int 1) k p1) p2)) (tPart (tUn (rU fun i => .int (-i)) (tC (.int 1)))) := po_some (pe_un un_neg pe_int)
  refine wpAny_Slice ?_
  rw [evalPart_none]
  refine wpAny_pure (wpAny_pure (thn (hst.run pins s1 σ H1 (fun o H4 => o = some (-1) ∧ H4 = H1) I1 ⟨1, rfl, -1, rfl, rfl, rfl⟩) fun vs s4 ⟨o, H4, I4, ps, eo, e4⟩ => ?_))
  subst eo e4
  have I5 : Inv X pins σ H4 { s4 with heap := s4.heap.push { cls := .type "slice", data := .fields #[.none, .none, vs] } } := I4.kept (t' := s4.toks) fun b ob q => Heap.get?_push_of_some _ q
  obtain ⟨its, r, ht, hz⟩ := I5.tuple hx
  have hlen := r.length
  have zz : its.toArray.size ≤ sizeLine := by rw [List.size_toArray]; omega
  refine tail_any (ops := [.ref a, .ref s4.heap.objs.size]) ht.typeIs (PyProof.Rows.slot_tuple_getitem.lookup) (get_rev ht (Heap.IsSliceOf.new _ .none .none vs) ps ?_ zz) (by with_unfolding_all rfl)
  refine ⟨.ref _, _, I5.laid (t' := s4.toks) (o := .tup xs.reverse) (fun b ob q => Heap.get?_push_of_some _ q) (Nat.le_refl _) ?_, rfl, q _ (I5.hok.fresh (Nat.le_refl _))⟩
  exact ⟨by rw [List.length_reverse]; omega, _, r.reverse, IsTup.new _ _⟩
theorem g_revT {K : PySem.W.Frag} {te : TE} {σ : L2.St} {H : Hp} {Q : VK} (h : te σ H fun x H1 => ∃ a xs, x = .ref a ∧ SqT K H1 a xs ∧ ∀ p, H1 p = none → Q (.ref p) (upd H1 p (.tup xs.reverse))) : tRevT K te σ H Q := h
theorem d_revT {K : PySem.W.Frag} {S M : AS} {H0 H : Hp} {G : List (V × D)} {L : List (Addr × List D)} {B : List Addr} {Q : VK} {ds : List D} {a : Addr} (st : Vf.St K S M H0 H G L B) (h : Dz K S H (.tup ds) (.ref a)) (q : ∀ p H', Vf.St K S M H0 H' ((.ref p, .tup ds.reverse) :: G) L B → Q (.ref p) H') :
    ∃ (b : Addr) (xs : List V), V.ref a = .ref b ∧ SqT K H b xs ∧ ∀ p, H p = none → Q (.ref p) (upd H p (.tup xs.reverse)) := by
  obtain ⟨xs, h1, h2⟩ := z_tup h
  exact ⟨a, xs, rfl, h1.sq, fun p np => q p _ (st.tup np h2.rev)⟩
end Vf
namespace Vf
open PySem PySem.Spec PyProof.Rows L2 RZ
/-! ## zip of a list and a tuple of one length -/
def ItzM (K : PySem.W.Frag) (a b : Addr) : It :=
  ⟨fun i H => ∃ (xs ys : List V) (x y : V), SqL K H a xs ∧ SqT K H b ys ∧ xs[i]? = some x ∧ ys[i]? = some y,
    fun i H v H' => ∃ T x y, v = .ref T ∧ H T = none ∧ H' = upd H T (.tup [x, y]) ∧ (∀ xs, SqL K H a xs → xs[i]? = some x) ∧ ∀ ys, SqT K H b ys → ys[i]? = some y,
    fun i H => ∃ xs ys : List V, SqL K H a xs ∧ SqT K H b ys ∧ xs.length = i ∧ ys.length = i⟩
structure ZipM (z TI TO i1 i2 a b : Addr) : Prop where
  S : ZipSep2 z TI TO i1 i2 [i1, a] [i2, b]
  a1 : a ≠ i1
  b2 : b ≠ i2
theorem turn_zipM {P : Program} {w : World} {K : PySem.W.Frag} {elts : List Expr} {kk : Nat} {tpos : Pos} {a b z TI TO i1 i2 : Addr} (D : ZipM z TI TO i1 i2 a b) :
    Turn P w K (.Tuple elts kk tpos) (ItzM K a b) [z, TI, TO, i1, i2] z (fun i h => IsZip h z TI TO .none ∧ IsTupOf2 h TI (.ref i1) (.ref i2) ∧ (∃ x y, IsTupOf2 h TO x y) ∧ h.IsListIter i1 a i ∧ h.IsTupleIter i2 b i) where
  mem := by simp
  obj := fun i h st c hc => by
    obtain ⟨hz, hTI, ⟨x, y, hTO⟩, ⟨o1, e1, _, d1⟩, ⟨o2, e2, _, d2⟩⟩ := st
    have e' : c = z ∨ c = TI ∨ c = TO ∨ c = i1 ∨ c = i2 := by simpa using hc
    rcases e' with q | q | q | q | q
    · rw [q]; exact ⟨_, hz, fun v q => nomatch q⟩
    · rw [q]; exact ⟨_, hTI, fun v q => nomatch q⟩
    · rw [q]; exact ⟨_, hTO, fun v q => nomatch q⟩
    · rw [q]; exact ⟨o1, e1, fun v q => by rw [d1] at q; cases q⟩
    · rw [q]; exact ⟨o2, e2, fun v q => by rw [d2] at q; cases q⟩
  keep := fun i h h' st k => by
    obtain ⟨hz, hTI, ⟨x, y, hTO⟩, h1, h2⟩ := st
    exact ⟨k z (by simp) _ hz, k TI (by simp) _ hTI, ⟨x, y, k TO (by simp) _ hTO⟩, h1.at fun o q => k i1 (by simp) o q, h2.at fun o q => k i2 (by simp) o q⟩
  item := by
    intro X hP hw hK hc i pins s σ H E I hf st hg
    subst hP hw hK
    obtain ⟨hz, hTI, ⟨x0, y0, hTO⟩, h1, h2⟩ := st
    obtain ⟨xs, ys, x, y, hqx, hqy, hx, hy⟩ := hg
    obtain ⟨its, rv, p, _⟩ := I.list hqx
    obtain ⟨its2, rv2, p2, _⟩ := I.tuple hqy
    obtain ⟨v1, hv1, rv1'⟩ := rv.get hx
    obtain ⟨v2, hv2, rv2'⟩ := rv2.get hy
    have hzl : z < s.heap.objs.size := Heap.lt_size hz
    have hh : X.A.in1.handled = none := I.ok.hd hc
    have b1 : i < its.toArray.size := by have := (List.getElem?_eq_some_iff.mp hv1).1; simpa using this
    have b2 : i < its2.toArray.size := by have := (List.getElem?_eq_some_iff.mp hv2).1; simpa using this
    refine wpAny_pyNext_zipD2_item D.S (Draws.list hh i1 a D.a1 its.toArray) (Draws.tuple hh i2 b D.b2 its2.toArray) hz hTI hTO ⟨h1, p.isList⟩ ⟨h2, p2⟩ b1 b2 fun w1 w2 h' tk q1 q2 z' TO' s1 s2 hT hsz hk => ?_
    have q1 : w1 = v1 := by
      have q1 : its.toArray[i]? = some w1 := q1
      rw [List.getElem?_toArray, hv1] at q1
      exact (Option.some.inj q1).symm
    have q2 : w2 = v2 := by
      have q2 : its2.toArray[i]? = some w2 := q2
      rw [List.getElem?_toArray, hv2] at q2
      exact (Option.some.inj q2).symm
    subst q1 q2
    refine ⟨_, rfl, wpAny_letOwnedTupleGo_zip (s := { s with heap := h', toks := tk }) z' fun h'' z'' sb => ?_⟩
    have hT2 : h''.get? s.heap.objs.size = some { cls := .type "tuple", data := .seq #[w1, w2] } := (sb.2 _ (Nat.ne_of_gt hzl)).trans hT
    have new : ObjOk X.prog X.w (upd H s.heap.objs.size (.tup [x, y])) h'' s.heap.objs.size (.tup [x, y]) :=
      ⟨by show 2 ≤ sizeLine; decide, [w1, w2], .cons rv1' (.cons rv2' .nil), ⟨_, hT2, rfl, _, rfl⟩⟩
    have I1 : Inv X pins σ (upd H s.heap.objs.size (.tup [x, y])) { s with heap := h'', toks := tk } :=
      I.turnedNew (t' := tk) (ch := [z, TI, TO, i1, i2]) (fun c o hb q => (sb.2 c (fun q' => hb (by simp [q']))).trans (hk c o (fun q' => hb (by simp [q'])) (fun q' => hb (by simp [q'])) (fun q' => hb (by simp [q'])) (fun q' => hb (by simp [q'])) q)) hf (Nat.le_refl _) new
    refine ⟨.ref s.heap.objs.size, _, I1, rfl, ⟨_, x, y, rfl, I.hok.fresh (Nat.le_refl _), rfl, fun l hl => by rw [I.list_inj hl hqx]; exact hx, fun l hl => by rw [I.tuple_inj hl hqy]; exact hy⟩, ⟨z'', ?_, ⟨w1, w2, ?_⟩, ?_, ?_⟩, fun c hcm => ?_⟩
    · exact (sb.2 _ D.S.TIz).trans (hk _ _ D.S.TIz D.S.TITO D.S.TIi1 D.S.TIi2 hTI)
    · exact (sb.2 _ D.S.TOz).trans TO'
    · exact s1.1.at fun o q => (sb.2 _ (fun e => D.S.zi1 e.symm)).trans q
    · exact s2.1.at fun o q => (sb.2 _ (fun e => D.S.zi2 e.symm)).trans q
    · have hlt : c < s.heap.objs.size := by
        have e' : c = z ∨ c = TI ∨ c = TO ∨ c = i1 ∨ c = i2 := by simpa using hcm
        rcases e' with q | q | q | q | q
        · rw [q]; exact hzl
        · rw [q]; exact Heap.lt_size hTI
        · rw [q]; exact Heap.lt_size hTO
        · rw [q]; obtain ⟨_, e1, _⟩ := h1; exact Heap.lt_size e1
        · rw [q]; obtain ⟨_, e2, _⟩ := h2; exact Heap.lt_size e2
      rw [upd_ne (Nat.ne_of_lt hlt)]
      exact (hf c hcm).1
  done := by
    intro X hP hw hK hc i pins s σ H E I hf st hg
    subst hP hw hK
    obtain ⟨hz, hTI, ⟨x0, y0, hTO⟩, h1, h2⟩ := st
    obtain ⟨xs, ys, hqx, hqy, l1, l2⟩ := hg
    obtain ⟨its, rv, p, _⟩ := I.list hqx
    obtain ⟨its2, rv2, p2, _⟩ := I.tuple hqy
    have m1 := rv.length
    have m2 := rv2.length
    have hh : X.A.in1.handled = none := I.ok.hd hc
    refine wpAny_pyNext_zipD2_end D.S (Draws.list hh i1 a D.a1 its.toArray) (Draws.tuple hh i2 b D.b2 its2.toArray) hz hTI hTO ⟨h1, p.isList⟩ ⟨h2, p2⟩ (by simp; omega) (by simp; omega) (.inl (by simp; omega)) fun h' tk hk => ⟨rfl, I.turnedL (t' := tk) (ch := [z, TI, TO, i1, i2]) (fun c o hb q =>
      hk c o (fun q' => hb (by simp [q'])) (fun q' => hb (by simp [q'])) (fun q' => hb (by simp [q'])) (fun q' => hb (by simp [q'])) q) hf⟩
  self := fun A i s Q E st h => wpAny_pyIter_zip st.1 h
theorem zipM_new (n a b : Nat) (ha : a < n) (hb : b < n) : ZipM (n + 4) (n + 2) (n + 3) n (n + 1) a b := by
  refine ⟨⟨?_, ?_, ?_, ?_, ?_, ?_, ?_, ?_, ?_, ?_, ?_, ?_, ?_⟩, ?_, ?_⟩
  all_goals first
    | exact List.Mem.head _
    | (intro m; have m : @Eq Nat _ _ := m; omega)
    | (intro m; rcases List.mem_cons.mp m with m | m; (have m : @Eq Nat _ _ := m; omega); have m : @Eq Nat _ _ := List.mem_singleton.mp m; omega)
def FZipM (K : PySem.W.Frag) (R : It → Hp → Prop) : List V → Hp → Prop := fun vs H1 => ∃ a b xs ys, vs = [.ref a, .ref b] ∧ SqL K H1 a xs ∧ SqT K H1 b ys ∧ R (ItzM K a b) H1
def iZipM (K : PySem.W.Frag) (ta : TA) : TI := fun σ H R => ta σ H (FZipM K R)
theorem pi_zipM {X : Cx} {e e2 : Expr} {ta : TA} {p pos tpos : Pos} {elts : List Expr} {kk : Nat} (hg : Gl X "zip") (hm : X.mg "zip" = none) (ha : PA X [e, e2] ta)
    (hs : starEach [e, e2] X.env = (false, eval e X.env) :: starEach [e2] X.env := by rfl) (hpl : (backTo pos (starEach [e2] X.env)).any (·.1) = false := by rfl) :
    PI X (.Tuple elts kk tpos) (.Call (.Name "zip" p) [e, e2] [] pos) (iZipM X.K ta) := by
  refine ⟨fun pins s σ H R I h => ?_⟩
  refine Call_ (ld_blt I hg hm PyProof.Rows.boot_zip (PyProof.Rows.callWith_type1 (thn (ha.run pos pins s σ H _ I h) fun us s1 ⟨vs, H1, I1, r1, q1⟩ => ?_) hs hpl))
  obtain ⟨a, b, xs, ys, ex, hqx, hqy, q⟩ := q1
  subst ex
  cases r1 with
  | cons r rr =>
    cases rr with
    | cons r' rr =>
      cases rr
      cases r
      cases r'
      obtain ⟨its, rv, p1, _⟩ := I1.list hqx
      obtain ⟨its2, rv2, p2, _⟩ := I1.tuple hqy
      obtain ⟨o2, ho2, _⟩ := id p2
      have la : a < s1.heap.objs.size := p1.lt
      have lb : b < s1.heap.objs.size := Heap.lt_size ho2
      refine zip_begins2 (begins_list a its.toArray) (begins_tuple b its2.toArray) p1.isList (show s1.heap.IsTuple b its2.toArray from p2) fun h' hz hTI hTO h1 h2 hsz hk => wpAny_pyIter_zip hz ?_
      have I2 : Inv X pins σ H1 { s1 with heap := h' } := I1.kept (t' := s1.toks) hk
      refine ⟨s1.heap.objs.size + 4, [s1.heap.objs.size + 4, s1.heap.objs.size + 2, s1.heap.objs.size + 3, s1.heap.objs.size, s1.heap.objs.size + 1], _, _, H1, rfl, I2, turn_zipM (zipM_new s1.heap.objs.size a b la lb), ⟨hz, hTI, ⟨_, _, hTO⟩, ⟨_, h1, rfl, rfl⟩, ⟨_, h2, rfl, rfl⟩⟩, fun d hdm => ?_, q⟩
      have e' : d = s1.heap.objs.size + 4 ∨ d = s1.heap.objs.size + 2 ∨ d = s1.heap.objs.size + 3 ∨ d = s1.heap.objs.size ∨ d = s1.heap.objs.size + 1 := by simpa using hdm
      have hle : s1.heap.objs.size ≤ d := by
        rcases e' with z | z | z | z | z
        · rw [z]; exact Nat.le_add_right _ _
        · rw [z]; exact Nat.le_add_right _ _
        · rw [z]; exact Nat.le_add_right _ _
        · rw [z]; exact Nat.le_refl _
        · rw [z]; exact Nat.le_add_right _ _
      exact I1.fpOk hle (I1.hok.fresh hle)
theorem i_zipM {K : PySem.W.Frag} {H : Hp} {σ : L2.St} {ta : TA} {R : It → Hp → Prop} (h : ta σ H (FZipM K R)) : iZipM K ta σ H R := h
def YZM (K : PySem.W.Frag) (S : AS) (ds es : List D) : Nat → Hp → V → Hp → Prop := fun i H v H' => ∃ T x y d e, v = .ref T ∧ H T = none ∧ H' = upd H T (.tup [x, y]) ∧ (ds[i]? = some d ∧ es[i]? = some e) ∧ Dz K S H d x ∧ Dz K S H e y
theorem walk_ZM {K : PySem.W.Frag} {S : AS} {a b : Addr} {ds es : List D} {n : Nat} (h1 : ds.length = n) (h2 : es.length = n) : Walk (ItzM K a b) n (fun H => Dz K S H (.lst ds) (.ref a) ∧ Dz K S H (.tup es) (.ref b)) (YZM K S ds es) := by
  refine ⟨fun i H hi h => ?_, fun H h => ?_, fun i H v H' hi h y => ?_⟩
  · obtain ⟨xs, q1, q2⟩ := z_lst h.1
    obtain ⟨ys, q3, q4⟩ := z_tup h.2
    obtain ⟨x, e1, _⟩ := q2.get (d := ds[i]) (List.getElem?_eq_getElem (by omega))
    obtain ⟨y, e2, _⟩ := q4.get (d := es[i]) (List.getElem?_eq_getElem (by omega))
    exact ⟨xs, ys, x, y, q1.sq, q3.sq, e1, e2⟩
  · obtain ⟨xs, q1, q2⟩ := z_lst h.1
    obtain ⟨ys, q3, q4⟩ := z_tup h.2
    exact ⟨xs, ys, q1.sq, q3.sq, by rw [q2.len, h1], by rw [q4.len, h2]⟩
  · obtain ⟨T, x, y, rfl, nT, rfl, g1, g2⟩ := y
    obtain ⟨xs, q1, q2⟩ := z_lst h.1
    obtain ⟨ys, q3, q4⟩ := z_tup h.2
    obtain ⟨x', e1, hx⟩ := q2.get (d := ds[i]) (List.getElem?_eq_getElem (by omega))
    obtain ⟨y', e2, hy⟩ := q4.get (d := es[i]) (List.getElem?_eq_getElem (by omega))
    have z1 := g1 xs q1.sq
    rw [e1] at z1
    cases z1
    have z2 := g2 ys q3.sq
    rw [e2] at z2
    cases z2
    exact ⟨T, x, y, _, _, rfl, nT, rfl, ⟨List.getElem?_eq_getElem (by omega), List.getElem?_eq_getElem (by omega)⟩, hx, hy⟩
/-- for (x, y) in zip(list, tuple) -/
theorem for_ZM {K : PySem.W.Frag} {S : AS} {H : Hp} {a b : Addr} {ds es : List D} {n : Nat} {g : TG} {tb : TS} {E : Ends} {σ : L2.St} (h1 : ds.length = n) (h2 : es.length = n) (Pv : Nat → L2.St → Hp → Prop) (hG : ∀ i σ H, Pv i σ H → Dz K S H (.lst ds) (.ref a) ∧ Dz K S H (.tup es) (.ref b)) (h0 : Pv 0 σ H)
    (hs : ∀ i d e x y T σ H, ds[i]? = some d → es[i]? = some e → i < n → Dz K S H d x → Dz K S H e y → Pv i σ H → H T = none → g (.ref T) σ (upd H T (.tup [x, y])) fun σ2 H2 => tb { E with nx := Pv (i + 1), ct := Pv (i + 1), bk := E.nx } σ2 H2) (hd : ∀ σ H, Pv n σ H → E.nx σ H) : FZipM K (FFor g tb E σ) [.ref a, .ref b] H := by
  obtain ⟨z1, z2⟩ := hG _ _ _ h0
  obtain ⟨xs, q1, q2⟩ := z_lst z1
  obtain ⟨ys, q3, q4⟩ := z_tup z2
  refine ⟨a, b, xs, ys, rfl, q1.sq, q3.sq, for_it (walk_ZM h1 h2) Pv h0 (fun i σ H _ p => hG i σ H p) (fun i v σ H H' hi p y => ?_) hd⟩
  obtain ⟨T, x, y, d, e, rfl, nT, rfl, ⟨g1, g2⟩, hx, hy⟩ := y
  exact hs i d e x y T σ H g1 g2 hi hx hy p nT
end Vf
namespace Vf
open PySem PySem.Spec PyProof.Rows L2 RZ
/-! ## a new store: dicts with nothing in them -/
theorem sortedD_nil {X : Cx} (hc : X.calm = true) : CallR X (.builtin "sorted") (fun xs H Q => ∃ a : Addr, xs = [.ref a] ∧ Rd H a (.dK []) ∧ ∀ p, H p = none → Q (.ref p) (upd H p (.lst []))) := by
  intro pins s σ H xs us Q I r q
  obtain ⟨a, ex, hd, q⟩ := q
  refine call_sortedD hc pins s σ H xs us Q I r ⟨a, [], [], ex, hd, rfl, by decide, fun ys p hp _ n => ?_⟩
  rw [List.Perm.eq_nil hp]
  exact q p n
def rSortedE : List V → Hp → VK → Prop := fun xs H Q => ∃ a : Addr, xs = [.ref a] ∧ Rd H a (.dK []) ∧ ∀ p, H p = none → Q (.ref p) (upd H p (.lst []))
theorem cr_sortedE {X : Cx} (hc : X.calm = true) : CallR X (.builtin "sorted") rSortedE := sortedD_nil hc
section
variable {K : PySem.W.Frag} {S M : AS} {H0 H : Hp} {G : List (V × D)} {L : List (Addr × List D)} {B : List Addr} {Q : VK} {σ : L2.St}
/-- sorted of a dict with nothing in it -/
theorem d_sortedE {x : V} (st : St K S M H0 H G L B) (h : Dz K S H (.dic []) x) (q : ∀ p H', St K S M H0 H' ((.ref p, .lst []) :: G) L B → Q (.ref p) H') : rSortedE [x] H Q := by
  obtain ⟨a, rfl, _, h1⟩ := h
  exact ⟨a, rfl, .inl h1, fun p n => q p _ (st.lst n zl_nil)⟩
/-- .. the new list is one's own -/
theorem d_sortedEo {x : V} (st : St K S M H0 H G L B) (h : Dz K S H (.dic []) x) (q : ∀ p H', ¬ S p → St K (fun c => S c ∨ c = p) M H0 H' G ((p, []) :: L) B → Q (.ref p) H') : rSortedE [x] H Q := by
  obtain ⟨a, rfl, _, h1⟩ := h
  exact ⟨a, rfl, .inl h1, fun p n => q p _ (st.nS n) (st.own n zl_nil)⟩
/-- d.get(k, x) of a dict with nothing in it -/
theorem g_dget2 {td ty tx : TE} (h : td σ H fun x H1 => ∃ a, x = .ref a ∧ IsD H1 a ∧ ty σ H1 fun y H2 => tx σ H2 fun z H3 => ∃ o, DGet H3 a y o ∧ Q (o.getD z) H3) : tDGet2 td ty tx σ H Q := h
theorem d_isD {x : V} {kvs : List (Key × V)} {R : Addr → Prop} (h : Dz K S H (.dic kvs) x) (q : ∀ a, x = .ref a → R a) : ∃ a, x = .ref a ∧ IsD H a ∧ R a := by
  obtain ⟨a, rfl, _, h1⟩ := h
  exact ⟨a, rfl, .inl ⟨kvs, .inl h1⟩, q a rfl⟩
theorem d_get0 {a : Addr} {y : Str} {z : V} {R : V → Prop} (h : Dz K S H (.dic []) (.ref a)) (q : R z) : ∃ o, DGet H a (.str y) o ∧ R (o.getD z) := by
  obtain ⟨b, e, _, h1⟩ := h
  cases e
  exact ⟨none, .inl ⟨[], .inr y, .inl h1, rfl, rfl⟩, q⟩
/-- [.. for x in o.f.values() ..] of a dict with nothing in it -/
theorem g_vals0 {td : TE} {g : TG} {tt : TT} {te : TE} {vs : List Nat} {d : Addr} (hd : H d = some (.dK [])) (e : ∀ od (R : VK), R (.ref d) (upd H d (.frz od (.dK []))) → td σ (upd H d (.frz od (.dK []))) R)
    (q : ∀ p, H p = none → Q (.ref p) (upd H p (.lst []))) : tLockE (tLc (iVals td) g tt te vs) σ H Q := by
  refine ⟨d, .dK [], hd, by simp [Mut], fun od => ?_⟩
  refine e od _ ⟨d, od, [], rfl, upd_same, ?_⟩
  intro D hD
  have ne : D ≠ d := fun z => by rw [z, upd_same] at hD; cases hD
  have hD' : H D = none := by rw [upd_ne ne] at hD; exact hD
  refine ⟨fun i m H' => i = 0 ∧ m = 0 ∧ H' = upd (upd H d (.frz od (.dK []))) D (.lst []), ⟨0, rfl, rfl, rfl⟩, ?_⟩
  rintro i m H' ⟨rfl, rfl, rfl⟩
  have ed : (upd (upd H d (.frz od (.dK []))) D (.lst [])) d = some (.frz od (.dK [])) := by rw [upd_ne (Ne.symm ne), upd_same]
  refine .inl ⟨⟨ed, Nat.le_refl _⟩, ed, ?_⟩
  have eh : upd (upd (upd H d (.frz od (.dK []))) D (.lst [])) d (.dK []) = upd H D (.lst []) := by
    funext b
    by_cases hb : b = d
    · rw [hb, upd_same, upd_ne (Ne.symm ne), hd]
    · rw [upd_ne hb]
      by_cases hb2 : b = D
      · rw [hb2, upd_same, upd_same]
      · rw [upd_ne hb2, upd_ne hb2, upd_ne hb]
  rw [eh]
  exact q D hD'
end
theorem pe_fldK {X : Cx} {e : Expr} {ta : TE} {f : Str} {pos : Pos} {K : PySem.W.Frag} (he : PE X e ta) (hb : attributeBase e f X.env (eval e X.env) = eval e X.env) (hK : X.K = K := by rfl) : PE X (.Attribute e f pos) (tFld K ta f) := by
  subst hK
  exact pe_fld he hb
/-! ### C(..) without keywords -/
def FMk1 (C : Addr) (sp : Sp) (dvs : List V) (E : XK) (Q : VK) : List V → Hp → Prop := fun vs H1 => ∀ x dx, H1 x = none → H1 dx = none → dx ≠ x → sp (.ref x :: (vs ++ dvs)) (upd (upd H1 dx (.own x)) x (.ins C dx [])) (fun v H2 => v = .non ∧ Q (.ref x) H2) E
theorem g_mk1 {C : Addr} {sp : Sp} {dvs : List V} {E : XK} {Q : VK} {t : TA} {σ : L2.St} {H : Hp} (h : t σ H (FMk1 C sp dvs E Q)) : tMake C sp dvs E t σ H Q := h
theorem c_mk {α : Type} {K : PySem.W.Frag} {S M : AS} {H0 H : Hp} {G : List (V × D)} {L : List (Addr × List D)} {B : List Addr} {Q : VK} {C : Addr} {enc : α → List D} {pre : α → Prop} {fs : α → List (Str × D)} {dvs : List V} {E : XK} {vs : List V} (x : α) (st : St K S M H0 H G L B) (hz : DzL K S H (enc x) (vs ++ dvs)) (hp : pre x)
    (q : ∀ a H', St K S M H0 H' ((.ref a, .ins C (fs x)) :: G) L B → Q (.ref a) H') : FMk1 C (spInit K C enc pre fs) dvs E Q vs H :=
  (c_make (n := vs.length) (m := 0) (gV := fun vs _ => vs ++ dvs) (zs := []) (vs := vs) (E := E) x st rfl rfl (vs ++ dvs) (fun _ => rfl) hz hp q).2.2
theorem d_sumZ {K : PySem.W.Frag} {S : AS} {H : Hp} {Q : VK} {a : Addr} {ns : List Int} (h : Dz K S H (.lst (ns.map D.int)) (.ref a)) (q : Q (.int ns.sum) H) : rSum K [.ref a] H Q := by
  obtain ⟨xs, h1, h2⟩ := z_lst h
  have e := DzL.ints _ h2
  subst e
  exact ⟨a, ns, rfl, h1.sq, q⟩
/-! ### rooms and stirs as they may be -/
def isRooms : D → Bool
  | .lst ds => decide (1 ≤ ds.length ∧ ds.length ≤ 4) && ds.all fun d => isWithin d 1 (10 ^ 12)
  | _ => false
def isStirs : D → Bool
  | .lst ds => decide (ds.length = 10) && ds.all fun d => isWithin d (-(10 ^ 9)) (10 ^ 9)
  | _ => false
structure PreRow (d : D) : Prop where
  no : d.noIns = true
  few : ∀ ds, d = .lst ds → ds.length ≤ 100000 ∧ ∀ e ∈ ds, e.noIns = true
theorem all_mapX (ds : List D) (f : D → Bool) : ((ds.map f).all id) = ds.all f := by
  induction ds with
  | nil => rfl
  | cons d ds ih => simp [List.all_cons, ih]
/-! ### data whose lists have nothing in them -/
mutual
def D.ime : D → Bool
  | .lst ds => ds.isEmpty
  | .dic kvs => kvs.isEmpty
  | .tup ds => D.imes ds
  | .ins _ fs => D.imeF fs
  | .non | .bl _ | .int _ | .str _ => true
def D.imes : List D → Bool
  | [] => true
  | d :: ds => D.ime d && D.imes ds
def D.imeF : List (Str × D) → Bool
  | [] => true
  | (_, d) :: ds => D.ime d && D.imeF ds
end
section
variable {K : PySem.W.Frag} {S S' : AS} {H : Hp}
mutual
theorem Dz.ime (sep : ∀ b, S' b → S b ∨ ∃ y ys, H b = some (.lst (y :: ys))) : ∀ (d : D) (v : V), D.ime d = true → Dz K S H d v → Dz K S' H d v
  | .non, _, _, h => h
  | .bl _, _, _, h => h
  | .int _, _, _, h => h
  | .str _, _, _, h => h
  | .lst ds, _, i, h => by
    obtain ⟨a, xs, e, h1, h2⟩ := h
    have : ds = [] := List.isEmpty_iff.mp i
    subst this
    obtain rfl : xs = [] := h2
    refine ⟨a, [], e, ⟨fun z => ?_, h1.2⟩, rfl⟩
    rcases sep a z with z | ⟨y, ys, z⟩
    · exact h1.1 z
    · have r := h1.2
      rw [z] at r; cases r
  | .dic kvs, _, i, h => by
    obtain ⟨a, e, h1, h2⟩ := h
    refine ⟨a, e, fun z => ?_, h2⟩
    rcases sep a z with z | ⟨y, ys, z⟩
    · exact h1 z
    · rw [z] at h2; cases h2
  | .tup ds, _, i, h => by
    obtain ⟨a, xs, e, h1, h2⟩ := h
    refine ⟨a, xs, e, ?_, DzL.ime sep ds xs i h2⟩
    rcases h1 with ⟨n, r⟩ | h1
    · refine .inl ⟨fun z => ?_, r⟩
      rcases sep a z with z | ⟨y, ys, z⟩
      · exact n z
      · rcases r with r | ⟨o, r⟩ <;> rw [z] at r <;> cases r
    · exact .inr h1
  | .ins C fs, _, i, h => by
    obtain ⟨a, dx, gs, e, h1, h2, h3⟩ := h
    refine ⟨a, dx, gs, e, fun z => ?_, h2, DzF.ime sep fs gs i h3⟩
    rcases sep a z with z | ⟨y, ys, z⟩
    · exact h1 z
    · rw [z] at h2; cases h2
theorem DzL.ime (sep : ∀ b, S' b → S b ∨ ∃ y ys, H b = some (.lst (y :: ys))) : ∀ (ds : List D) (xs : List V), D.imes ds = true → DzL K S H ds xs → DzL K S' H ds xs
  | [], _, _, h => h
  | d :: ds, _, i, h => by
    obtain ⟨x, r, e, h1, h2⟩ := h
    rw [D.imes, Bool.and_eq_true] at i
    exact ⟨x, r, e, Dz.ime sep d x i.1 h1, DzL.ime sep ds r i.2 h2⟩
theorem DzF.ime (sep : ∀ b, S' b → S b ∨ ∃ y ys, H b = some (.lst (y :: ys))) : ∀ (ds : List (Str × D)) (xs : List (Str × V)), D.imeF ds = true → DzF K S H ds xs → DzF K S' H ds xs
  | [], _, _, h => h
  | (n, d) :: ds, _, i, h => by
    obtain ⟨x, r, e, h1, h2⟩ := h
    rw [D.imeF, Bool.and_eq_true] at i
    exact ⟨x, r, e, Dz.ime sep d x i.1 h1, DzF.ime sep ds r i.2 h2⟩
end
end
theorem imes_ints : ∀ l : List Int, D.imes (l.map D.int) = true
  | [] => rfl
  | i :: l => by rw [List.map_cons, D.imes, D.ime, imes_ints l]; rfl
/-! ### what a new store is made of -/
structure Sq where
  rooms : List Int
  stirs : List Int
  grain : Int
  fade : Int
def intsD (l : List Int) : List D := l.map D.int
def storyFs : List (Str × D) := [("shared", .lst []), ("length", .int 0)]
def Sq.shelf (C : Addr) (s : Sq) : List (Str × D) :=
  [("limits", .tup (s.rooms.map D.int)), ("shifts", .tup (s.stirs.map D.int)), ("per_asking", .int s.grain), ("per_turn", .int s.fade), ("moment", .int 0), ("things", .dic []), ("traces", .dic []), ("plans", .lst []), ("hired", .int 0), ("mark", .non), ("rows", .ins C storyFs)]
def Sq.shelfD (C C' : Addr) (s : Sq) : D := .ins C (s.shelf C')
def Sq.fs (C C' : Addr) (s : Sq) : List (Str × D) := [("shelf", s.shelfD C C')]
/-- rooms and stirs as a store may have them -/
structure Sq.Ok (s : Sq) : Prop where
  rl : 1 ≤ s.rooms.length ∧ s.rooms.length ≤ 4
  rs : ∀ r ∈ s.rooms, 1 ≤ r ∧ r ≤ 10 ^ 12
  sl : s.stirs.length = 10
  ss : ∀ r ∈ s.stirs, -(10 ^ 9) ≤ r ∧ r ≤ 10 ^ 9
  g : 0 ≤ s.grain ∧ s.grain ≤ 10 ^ 9
  f : 1 ≤ s.fade ∧ s.fade ≤ 10 ^ 9
end Vf
namespace Vf
open PySem PySem.Spec PyProof.Rows L2 RZ
/-! ## a caught exception handed to a def: it stays a pin of the def's context -/
/-- what such a def promises: a, cls, d tell of the exception that it is handed -/
structure FnP (P : Program) (w : World) (K : PySem.W.Frag) (mg : Str → Option Value) (base : Heap) (k : Nat) (f : Addr) (fd : FuncData) (ps : List Str) (sp : Addr → Value → Option Addr → Sp) : Prop where
  len : ∀ a cls d vs H Q E, sp a cls d vs H Q E → vs.length = ps.length
  run : ∀ (A : Around) (outer : List Env) (s : Shared) (H : Hp) (args : Args) (us : List Value) (vs : List V) (Q : VK) (E : XK) (p : Addr × Obj) (cls : Value) (d : Option Addr), L2H.RoomH k A → Zc cls d p.2 → (∃ vs, p.2.data = .fields vs) → L2H.PinOk outer H s p →
    Env0 P w K mg base A outer s H → BindsTo s fd args (ps.zip us) → Vals vs us → sp p.1 cls d vs H Q E → codeAny (model P w) A (.call (.ref f) args) (CR CX0 outer P w H s Q E) s
abbrev cxP (P : Program) (w : World) (K : PySem.W.Frag) (mg : Str → Option Value) (base : Heap) (N : List Str) (qual : Str) (scope : Scope) (f : Addr) (cd : Value) (A : Around) (outer : List Env) (s : Shared) (H : Hp) (E : XK) (p : Addr × Obj) : Cx := L2H.cxH CX0 P w K mg base N qual scope f cd A outer s H E p
section
variable {P : Program} {w : World} {K : PySem.W.Frag} {mg : Str → Option Value} {base : Heap}
theorem fn_ofP {k : Nat} {f : Addr} {name qual : Str} {params : Arguments} {body : List Stmt} {scope : Scope} {dV kV doc pm cdv ct oc : Value} {an od : Option Addr}
    {osl : Array (Option Value)} {N ps : List Str} {sp : Addr → Value → Option Addr → Sp} (lk : K.lookup f = some ⟨oc, od, .func (PySem.W.fnOf name qual params body scope dV kV doc pm an cdv ct), osl⟩) (hcd : PySem.W.codeIn K cdv qual = true) (S : FnScope N ps scope)
    (len : ∀ a cls d vs H Q E, sp a cls d vs H Q E → vs.length = ps.length)
    (hbody : ∀ (A : Around) (outer : List Env) (s : Shared) (H : Hp) (vs : List V) (Q : VK) (E : XK) (p : Addr × Obj) (cls : Value) (d : Option Addr), Zc cls d p.2 → (∃ vs, p.2.data = .fields vs) → L2H.RoomH k (A.deeper (envOfC qual scope s.heap.objs.size f cdv)) → sp p.1 cls d vs H Q E →
      ∃ t, PSs (cxP P w K mg base N qual scope f cdv A outer s H E p) body t ∧ t { nx := fun _ H' => Q .non H', rt := Q } (L2.start N vs) H) :
    FnP P w K mg base (k + 1) f (PySem.W.fnOf name qual params body scope dV kV doc pm an cdv ct) ps sp := by
  refine ⟨len, fun A outer s H args us vs Q E p cls d hr hz hf hpin e0 hb r hsp => ?_⟩
  have hl := len _ _ _ _ _ _ _ hsp
  have KX : K.In s.heap := e0.mod.kin.keeps fun b o e => (e0.bs b o e).1
  have lim : s.heap.NoLimit := e0.mod.nolimit.keeps fun b o e => (e0.bs b o e).1
  have hkind : ∀ y ∈ ps.zip us, scope.names.lookup y.1 = some .local ∨ (scope.names.lookup y.1 = some .cell ∧ ((cellsFrom (s.heap.objs.size + 1) scope.names []).lookup y.1).isSome = true) := fun ⟨n, v⟩ hy => by
    rcases S.par n (List.of_mem_zip hy).1 with q | q
    · exact .inl q
    · exact .inr ⟨q, PySem.W.cellsFrom_some _ _ _ (.inl q)⟩
  refine codeAny_call_function hr.depth (KX _ _ lk) rfl S.co S.gen rfl (PySem.W.codeRec_of KX hcd) (hb _ _ _ _ ?_)
  refine wpAny_newFunctionEnv_cells S.kind hkind fun env he s1 x => ?_
  subst he
  refine ⟨lim.keeps x.toInCall.keep, codeAny_func ?_⟩
  obtain ⟨t, ht, hq⟩ := hbody A outer s H vs Q E p cls d hz hf (hr.deeper _) hsp
  have I : Inv (cxP P w K mg base N qual scope f cdv A outer s H E p) [] (L2.start N vs) H s1 := L2H.inv_startH S hpin e0 hl r x
  refine wpAny_mono (ht.run [] s1 (L2.start N vs) H _ I hq) (fun fl s' hs => ?_) fun e s' hs => hs
  have fin : ∀ {σ' : L2.St} {H' : Hp} {v : V} {u : Value}, Inv (cxP P w K mg base N qual scope f cdv A outer s H E p) [] σ' H' s' → RelV v u → Q v H' → CE outer P w H s Q u s' :=
    fun {σ' H' v u} J rv q => ⟨v, H', J.os, J.bare, J.base, J.hok, rv, q⟩
  cases fl with
  | ret u =>
    obtain ⟨v, σ', H', J, rv, q⟩ := hs
    exact fin J rv q
  | next =>
    obtain ⟨σ', H', J, q⟩ := hs
    exact fin (v := V.non) (u := Value.none) J rfl q
  | brk =>
    obtain ⟨_, _, _, q⟩ := hs
    exact False.elim q
  | cont =>
    obtain ⟨_, _, _, q⟩ := hs
    exact False.elim q
/-- as Fun.ok, for a def that is handed a caught exception -/
theorem okP {x qual : Str} {st : Stmt} {f : Addr} {fd : FuncData} {N ps : List Str} {k : Nat} {sp : Addr → Value → Option Addr → Sp} (F : Fun K x qual st f fd) (S : FnScope N ps (defScope st)) (len : ∀ a cls d vs H Q E, sp a cls d vs H Q E → vs.length = ps.length)
    (hbody : ∀ (cdv : Value) (A : Around) (outer : List Env) (s : Shared) (H : Hp) (vs : List V) (Q : VK) (E : XK) (a : Addr) (oe : Obj) (cls : Value) (d : Option Addr), Zc cls d oe → (∃ vs, oe.data = .fields vs) → L2H.RoomH k (A.deeper (envOfC qual (defScope st) s.heap.objs.size f cdv)) → sp a cls d vs H Q E →
      ∃ t, PSs (cxP P w K mg base N qual (defScope st) f cdv A outer s H E (a, oe)).nox (defBody st) t ∧ t { nx := fun _ H' => Q .non H', rt := Q } (start N vs) H) : FnP P w K mg base (k + 1) f fd ps sp := by
  obtain ⟨oc, od, kV, doc, pm, an, cdv, ct, osl, rfl, lk, hcd⟩ := F.ex
  refine fn_ofP lk hcd S len fun A outer s H vs Q E p cls d hz hf hr hsp => ?_
  obtain ⟨a, oe⟩ := p
  obtain ⟨t, h, q⟩ := hbody cdv A outer s H vs Q E a oe cls d hz hf hr hsp
  exact ⟨t, h.nox, q⟩
end
section
variable {X : Cx} {k : Nat} {f a : Addr} {fd : FuncData} {ps : List Str} {sp : Addr → Value → Option Addr → Sp} {cls : Value} {d : Option Addr} {oe : Obj}
theorem run_fnP {pins : List (Addr × Obj)} {σ : L2.St} {H : Hp} {s : Shared} {Q : VK} {us : List Value} {vs : List V} (F : FnP X.prog X.w X.K X.mg X.base k f fd ps sp) (hr : L2H.RoomH k X.A) (hb : Binds X.K fd ps [])
    (hz : Zc cls d oe) (hf : ∃ vs, oe.data = .fields vs) (hp : (a, oe) ∈ X.pn) (I : Inv X pins σ H s) (r : Vals vs us) (h : sp a cls d vs H Q E0) : wpAny (model X.prog X.w) X.A (call (.ref f) us) (EP X pins σ Q) X.xe s := by
  have hl : us.length = ps.length := by rw [← r.length]; exact F.len _ _ _ _ _ _ _ h
  have b := hb s us I.kIn (by rw [List.append_nil]; exact hl)
  rw [List.append_nil] at b
  have P1 := I.pin (a, oe) (List.mem_append_left _ hp)
  have hpin : L2H.PinOk X.stack H s (a, oe) := ⟨P1.1, P1.2.1, fun hm => (List.mem_cons.mp (I.stkSub a hm)).elim P1.2.2.1 P1.2.2.2.1, P1.2.2.2.2⟩
  refine wpAny_call (codeAny_mono (F.run X.A X.stack s H ⟨us, []⟩ us vs Q E0 (a, oe) cls d hr hz hf hpin I.env0 b r h) fun r s' hq => ?_)
  cases r with
  | error e => exact False.elim hq
  | ok fl =>
    cases fl with
    | ret u => exact I.after hq
    | next => exact False.elim hq
    | brk => exact False.elim hq
    | cont => exact False.elim hq
/-- f(.., e, ..), e the exception that the suite holds -/
def tCallP (sp : Addr → Value → Option Addr → Sp) (a : Addr) (cls : Value) (d : Option Addr) (t : TA) : TE := fun σ H Q => t σ H fun vs H1 => sp a cls d vs H1 Q E0
theorem g_callP {cls : Value} {d : Option Addr} {t : TA} {σ : L2.St} {H : Hp} {Q : VK} (h : t σ H fun vs H1 => sp a cls d vs H1 Q E0) : tCallP sp a cls d t σ H Q := h
theorem pe_callP {e : Expr} {es : List Expr} {x : Str} {p pos : Pos} {t : TA} (F : FnP X.prog X.w X.K X.mg X.base k f fd ps sp) (hr : L2H.RoomH k X.A) (hg : Gl X x) (hm : X.mg x = some (.ref f)) (hk : PySem.W.keepIn X.K (.ref f) = true) (hb : Binds X.K fd ps [])
    (hz : Zc cls d oe) (hf : ∃ vs, oe.data = .fields vs) (hp : (a, oe) ∈ X.pn) (ha : PA X (e :: es) t) (hdb : (x == ("__debug__" : Str)) = false := by decide) (he : starEach (e :: es) X.env = (false, eval e X.env) :: starEach es X.env := by rfl) (hpl : (backTo pos (starEach es X.env)).any (·.1) = false := by rfl) :
    PE X (.Call (.Name x p) (e :: es) [] pos) (tCallP sp a cls d t) := by
  refine ⟨fun pins s σ H Q I h => ?_⟩
  refine wpAny_Call_Name_kw (ld_glob I hg hm ?_ hdb)
  refine PySem.W.callWith_K (h₀ := X.base) I.ok.mod.kin hk (thn (ha.run pos pins s σ H _ I h) fun us s1 ⟨vs, H1, I1, r, q⟩ => ⟨I1.kIn, ?_⟩) he hpl
  exact run_fnP F hr hb hz hf hp I1 r q
/-- room within an except suite -/
theorem roomS {X : Cx} {j k : Nat} {a : Addr} {pn : List (Addr × Obj)} (hr : Room k X.A) (h : j ≤ k) : L2H.RoomH j (X.suite a pn).A := L2H.RoomH.mono ⟨hr.dp, hr.un⟩ h
/-! ### within that def (and within a suite): a pin of the context -/
theorem call_isPN (hz : Zc cls d oe) (hf : ∃ vs, oe.data = .fields vs) (hp : (a, oe) ∈ X.pn) : CallR X (.builtin "isinstance") (rIsEX X.K a cls d) := by
  intro pins s σ H xs us Q I r h
  obtain ⟨D, rfl, C, hxd, h⟩ := h
  obtain ⟨hget, _⟩ := I.pin (a, oe) (List.mem_append_left _ hp)
  obtain ⟨vs, hv⟩ := hf
  obtain ⟨h1, h2⟩ := hz
  have J : ∃ od, PySem.W.InstAt s.heap a oe D od := by
    rcases hxd with rfl | ⟨dd, fs, rfl, ea⟩
    · exact ⟨none, hget, h1, by unfold PySem.W.notCls; rw [hv] <;> rfl, by rw [h2]; trivial⟩
    · have hx : ObjOk X.prog X.w H s.heap dd (.xd fs) := I.hok dd _ ea
      obtain ⟨mA, hns, hr⟩ := hx
      obtain ⟨od, ho, hl⟩ := lookIn_ns hns
      exact ⟨some od, hget, h1, by unfold PySem.W.notCls; rw [hv] <;> rfl, by rw [h2]; exact ho⟩
  obtain ⟨od, J⟩ := J
  have hcl : (PySem.W.clsIn X.K D).isSome = true := by
    have hd := C.hd
    unfold PySem.W.hasDictIn at hd
    cases h : PySem.W.clsIn X.K D with
    | none => rw [h] at hd; cases hd
    | some c => rfl
  have Z := PySem.W.kitx_exc (K := X.K) (x := a) (C := D) (ox := oe) (od := od) hcl C.hg C.hk C.hs C.ha C.hn C.ht C.hm
  rcases h with ⟨c, u, b, rfl, k, e, q⟩ | ⟨tp, cs, ws, b, rfl, hT, k, e, q⟩
  · obtain ⟨u1, u2, rfl, r1, r2⟩ := vals2 r
    cases (show u1 = Value.ref a from r1)
    have e2 := k.eq r2
    subst e2
    exact PySem.W.kia_one Z I.kIn J e (fun z => nomatch z) fun tk => ⟨.bl b, H, I.kept (t' := tk) fun _ _ z => z, rfl, q⟩
  · obtain ⟨u1, u2, rfl, r1, r2⟩ := vals2 r
    cases (show u1 = Value.ref a from r1)
    cases (show u2 = Value.ref tp from r2)
    obtain ⟨_, its, rv, o, o1, o2, n, o3⟩ := (show ObjOk X.prog X.w H s.heap tp (.tup cs) from I.hok tp _ hT)
    have e3 := ClsV.all k rv
    subst e3
    obtain ⟨oc, odd, dt, sl⟩ := o
    simp only at o2 o3
    subst o2 o3
    exact PySem.W.kia_tup Z I.kIn J o1 e (fun z => nomatch z) fun tk => ⟨.bl b, H, I.kept (t' := tk) fun _ _ z => z, rfl, q⟩
theorem pe_pf {C : Addr} {e : Expr} {te : TE} {pos : Pos} {n : Str} (T : XfC X.K C) (hno : PySem.W.findIn X.K (.ref C) n = some none) (hz : Zc cls d oe) (hf : ∃ vs, oe.data = .fields vs) (hp : (a, oe) ∈ X.pn) (he : PE X e te)
    (hb : attributeBase e n X.env (eval e X.env) = eval e X.env := by rfl) : PE X (.Attribute e n pos) (tXf a cls d C n te) := by
  refine ⟨fun pins s σ H Q I h => ?_⟩
  refine attr_of hb (thn (he.run pins s σ H _ I h) fun u s1 hh => ?_)
  obtain ⟨x, H1, I1, rx, ex, ec, dd, fs, v, ed, ea, l, q⟩ := hh
  subst ex
  obtain rfl : u = Value.ref a := rx
  subst ec
  subst ed
  obtain ⟨ha, _⟩ := I1.pin (a, oe) (List.mem_append_left _ hp)
  obtain ⟨vs, hd⟩ := hf
  have hx : ObjOk X.prog X.w H1 s1.heap dd (.xd fs) := I1.hok dd _ ea
  obtain ⟨mA, hns, hr⟩ := hx
  obtain ⟨od, ho, hl⟩ := lookIn_ns hns
  obtain ⟨u, hu, ru⟩ := RelO.some_of (v := v) (o := mA n) (by rw [← l]; exact hr n)
  have J : PySem.W.InstAt s1.heap a oe C (some od) := ⟨ha, hz.1, by unfold PySem.W.notCls; rw [hd] <;> rfl, by rw [hz.2]; exact ho⟩
  exact HandSPX.exc_get I1.kIn J T.ga T.gg T.exC (PySem.W.findObj_own T.hdC hno rfl (by rw [hl, hu])) (handed_of ru) ⟨v, H1, I1.tok _, ru, q⟩
end
end Vf
namespace Vf
open PySem PySem.Spec PyProof.Rows L2 RZ
/-! ## a truth in a comprehension's condition -/
def rTruG (K : PySem.W.Frag) : V → Hp → (Bool → Hp → Prop) → Prop := fun x H Q => ∃ k, TruV K x H k ∧ Q k H
theorem truG {X : Cx} : TruR X (rTruG X.K) := fun pins s σ H x v Q I r h => tru_ok pins s σ H x v Q I r h
/-! ## a def that changes an own list, the bag beside it -/
section
variable {K : PySem.W.Frag} {S M : AS} {H0 H H' : Hp} {G G' : List (V × D)} {L : List (Addr × List D)} {b p : Addr} {ds ds' : List D} {xs r : List V}
/-- the bag, the list, data: tells None; what then stands in the list -/
def spDrM {α : Type} (K : PySem.W.Frag) (encL enc : α → List D) (pre : α → Prop) (post : α → List D → Prop) : Sp := fun vs H Q _ => ∃ S b p r a xs, vs = .ref b :: .ref p :: r ∧ Okk S H ∧ S b ∧ S p ∧ p ≠ b ∧ Bag K S H b ∧ H p = some (.lst xs) ∧ DzL K S H (encL a) xs ∧ DzL K S H (enc a) r ∧ pre a ∧
  ∀ ds' H', Kp (fun c => c = b ∨ c = p) H H' → Bag K S H' b → (∃ xs', H' p = some (.lst xs') ∧ DzL K S H' ds' xs') → post a ds' → Q .non H'
theorem spDrM_len {α : Type} {encL enc : α → List D} {pre : α → Prop} {post : α → List D → Prop} {vs : List V} {Q : VK} {E : XK} {n : Nat} (hn : ∀ a, (enc a).length = n) (h : spDrM K encL enc pre post vs H Q E) : vs.length = n + 2 := by
  obtain ⟨S, b, p, r, a, xs, rfl, _, _, _, _, _, _, _, hz, _⟩ := h
  show (r.length + 1) + 1 = _
  rw [hz.len, hn]
theorem St.bagM (st : Vf.St K S M H0 H G ((p, ds) :: L) [b]) (k : Kp (fun c => c = b ∨ c = p) H H') (bg : Bag K S H' b) (hp : ∃ xs', H' p = some (.lst xs') ∧ DzL K S H' ds' xs') : Vf.St K S M H0 H' G ((p, ds') :: L) [b] := by
  obtain ⟨h1, h2, _⟩ := st.ba b (List.mem_singleton.mpr rfl)
  obtain ⟨p1, p2, _⟩ := st.la (p, ds) (List.mem_cons_self ..)
  have p1 : S p := p1
  have p2 : H0 p = none ∨ M p := p2
  obtain ⟨xs', hp1, hp2⟩ := hp
  have ms : ∀ c, (c = b ∨ c = p) → S c := fun c e => e.elim (fun e => e ▸ h1) (fun e => e ▸ p1)
  have dm : ∀ c, H c ≠ none → H' c ≠ none := fun c n => by
    by_cases z : c = b
    · subst z
      obtain ⟨r, x, i, cc, ns, q, _⟩ := bg.ex
      rw [q]; exact fun w => by cases w
    · by_cases z2 : c = p
      · subst z2
        rw [hp1]; exact fun w => by cases w
      · cases q : H c with
        | none => exact absurd q n
        | some o => rw [k c o (fun w => w.elim z z2) q]; exact fun w => by cases w
  have nd := st.nd
  rw [List.map_cons, List.cons_append, List.nodup_cons] at nd
  refine ⟨fun c s => dm c (st.ok c s), fun c o n e => ?_, fun c n => dm c (st.dm c n), fun q hq => Dz.keep k ms (st.ga q hq), fun q hq => ?_, fun c hc => ?_, st.nd⟩
  · refine k c o (fun z => ?_) (st.kp c o n e)
    rcases z with rfl | rfl
    · rcases h2 with h2 | h2
      · rw [e] at h2; cases h2
      · exact n h2
    · rcases p2 with h2 | h2
      · rw [e] at h2; cases h2
      · exact n h2
  · rcases List.mem_cons.mp hq with z | z
    · subst z
      exact ⟨p1, p2, xs', hp1, hp2⟩
    · obtain ⟨q1, q2, ys, q3, q4⟩ := st.la q (List.mem_cons_of_mem _ z)
      have ne1 : q.1 ≠ p := fun e => nd.1 (List.mem_append_left _ (List.mem_map.mpr ⟨q, z, e⟩))
      have ne2 : q.1 ≠ b := fun e => (List.nodup_append.mp nd.2).2.2 q.1 (List.mem_map.mpr ⟨q, z, rfl⟩) b (List.mem_singleton.mpr rfl) e
      exact ⟨q1, q2, ys, k _ _ (fun w => w.elim ne2 ne1) q3, DzL.keep k ms q4⟩
  · rw [List.mem_singleton.mp hc]
    exact ⟨h1, h2, bg⟩
theorem c_DrM {α : Type} {encL enc : α → List D} {pre : α → Prop} {post : α → List D → Prop} {vs : List V} {Q : VK} {E : XK} (a : α) (st : Vf.St K S M H0 H G ((p, encL a) :: L) [b]) (hz : DzL K S H (enc a) vs) (hp : pre a) (q : ∀ ds' H', post a ds' → Vf.St K S M H0 H' G ((p, ds') :: L) [b] → Q .non H') : spDrM K encL enc pre post (.ref b :: .ref p :: vs) H Q E := by
  obtain ⟨h1, h2, h3⟩ := st.ba b (List.mem_singleton.mpr rfl)
  obtain ⟨p1, p2, xs, p3, p4⟩ := st.la (p, encL a) (List.mem_cons_self ..)
  have nd := st.nd
  rw [List.map_cons, List.cons_append, List.nodup_cons] at nd
  refine ⟨S, b, p, vs, a, xs, rfl, st.ok, h1, p1, fun e => nd.1 (List.mem_append_right _ (List.mem_singleton.mpr e)), h3, p3, p4, hz, hp, fun ds' H' k bg hx po => q ds' H' po (st.bagM k bg hx)⟩
/-- the end of such a def -/
theorem St.endM (st : Vf.St K S (fun c => c = b ∨ c = p) H0 H G ((p, ds) :: L) [b]) : Kp (fun c => c = b ∨ c = p) H0 H ∧ Bag K S H b ∧ ∃ xs, H p = some (.lst xs) ∧ DzL K S H ds xs := by
  obtain ⟨_, _, h3⟩ := st.ba b (List.mem_singleton.mpr rfl)
  obtain ⟨_, _, xs, p3, p4⟩ := st.la (p, ds) (List.mem_cons_self ..)
  exact ⟨st.kp, h3, xs, p3, p4⟩
end
end Vf
namespace Pf
open PySem PySem.Spec PyProof.Rows L2 RZ Vf
def top (i : Nat) : Stmt := PySem.Challenge.pw_wanehold_k14_wanes_refused.main.body.getD i (.Pass ⟨0, 0, 0, 0⟩)
abbrev s_Wrong___init__ : Stmt := (inClass (top 3) 0)
abbrev N_Wrong___init__ : List Str := ["self", "place"]
theorem sc_Wrong___init__ : FnScope N_Wrong___init__ ["self", "place"] (defScope s_Wrong___init__) := ⟨rfl, rfl, rfl, by decide +kernel, rfl, by decide +kernel, by decide +kernel⟩
abbrev s_refuse_wrong : Stmt := (top 7)
abbrev N_refuse_wrong : List Str := ["fits", "place", "fit"]
theorem sc_refuse_wrong : FnScope N_refuse_wrong ["fits"] (defScope s_refuse_wrong) := ⟨rfl, rfl, rfl, by decide +kernel, rfl, by decide +kernel, by decide +kernel⟩
abbrev s_is_whole : Stmt := (top 12)
abbrev N_is_whole : List Str := ["thing"]
theorem sc_is_whole : FnScope N_is_whole ["thing"] (defScope s_is_whole) := ⟨rfl, rfl, rfl, by decide +kernel, rfl, by decide +kernel, by decide +kernel⟩
abbrev s_is_within : Stmt := (top 13)
abbrev N_is_within : List Str := ["thing", "least", "most"]
theorem sc_is_within : FnScope N_is_within ["thing", "least", "most"] (defScope s_is_within) := ⟨rfl, rfl, rfl, by decide +kernel, rfl, by decide +kernel, by decide +kernel⟩
abbrev s_is_strength : Stmt := (top 14)
abbrev N_is_strength : List Str := ["thing"]
theorem sc_is_strength : FnScope N_is_strength ["thing"] (defScope s_is_strength) := ⟨rfl, rfl, rfl, by decide +kernel, rfl, by decide +kernel, by decide +kernel⟩
abbrev s_is_size : Stmt := (top 15)
abbrev N_is_size : List Str := ["thing"]
theorem sc_is_size : FnScope N_is_size ["thing"] (defScope s_is_size) := ⟨rfl, rfl, rfl, by decide +kernel, rfl, by decide +kernel, by decide +kernel⟩
abbrev s_is_moment : Stmt := (top 16)
abbrev N_is_moment : List Str := ["thing"]
theorem sc_is_moment : FnScope N_is_moment ["thing"] (defScope s_is_moment) := ⟨rfl, rfl, rfl, by decide +kernel, rfl, by decide +kernel, by decide +kernel⟩
abbrev s_is_step : Stmt := (top 17)
abbrev N_is_step : List Str := ["thing", "by", "take"]
theorem sc_is_step : FnScope N_is_step ["thing"] (defScope s_is_step) := ⟨rfl, rfl, rfl, by decide +kernel, rfl, by decide +kernel, by decide +kernel⟩
abbrev s_Wane___init__ : Stmt := (inClass (top 23) 0)
abbrev N_Wane___init__ : List Str := ["self", "head", "tail", "cap", "lift", "anew"]
theorem sc_Wane___init__ : FnScope N_Wane___init__ ["self", "head", "tail", "cap", "lift", "anew"] (defScope s_Wane___init__) := ⟨rfl, rfl, rfl, by decide +kernel, rfl, by decide +kernel, by decide +kernel⟩
abbrev s_Wane_step : Stmt := (inClass (top 23) 6)
abbrev N_Wane_step : List Str := ["self", "number"]
theorem sc_Wane_step : FnScope N_Wane_step ["self", "number"] (defScope s_Wane_step) := ⟨rfl, rfl, rfl, by decide +kernel, rfl, by decide +kernel, by decide +kernel⟩
abbrev s_Wane_phase : Stmt := (inClass (top 23) 7)
abbrev N_Wane_phase : List Str := ["self", "since"]
theorem sc_Wane_phase : FnScope N_Wane_phase ["self", "since"] (defScope s_Wane_phase) := ⟨rfl, rfl, rfl, by decide +kernel, rfl, by decide +kernel, by decide +kernel⟩
abbrev s_Wane_step_behind : Stmt := (inClass (top 23) 9)
abbrev N_Wane_step_behind : List Str := ["self", "since"]
theorem sc_Wane_step_behind : FnScope N_Wane_step_behind ["self", "since"] (defScope s_Wane_step_behind) := ⟨rfl, rfl, rfl, by decide +kernel, rfl, by decide +kernel, by decide +kernel⟩
abbrev s_Wane_phase_behind : Stmt := (inClass (top 23) 10)
abbrev N_Wane_phase_behind : List Str := ["self", "since", "lead"]
theorem sc_Wane_phase_behind : FnScope N_Wane_phase_behind ["self", "since"] (defScope s_Wane_phase_behind) := ⟨rfl, rfl, rfl, by decide +kernel, rfl, by decide +kernel, by decide +kernel⟩
abbrev s__is_head : Stmt := (top 24)
abbrev N__is_head : List Str := ["thing"]
theorem sc__is_head : FnScope N__is_head ["thing"] (defScope s__is_head) := ⟨rfl, rfl, rfl, by decide +kernel, rfl, by decide +kernel, by decide +kernel⟩
abbrev s__is_tail : Stmt := (top 25)
abbrev N__is_tail : List Str := ["thing"]
theorem sc__is_tail : FnScope N__is_tail ["thing"] (defScope s__is_tail) := ⟨rfl, rfl, rfl, by decide +kernel, rfl, by decide +kernel, by decide +kernel⟩
abbrev s__are_steps : Stmt := (top 26)
abbrev N__are_steps : List Str := ["thing", "step"]
theorem sc__are_steps : FnScope N__are_steps ["thing"] (defScope s__are_steps) := ⟨rfl, rfl, rfl, by decide +kernel, rfl, by decide +kernel, by decide +kernel⟩
abbrev s__law_bag : Stmt := (top 29)
abbrev N__law_bag : List Str := ["_law_script", "_law_cell"]
theorem sc__law_bag : FnScope N__law_bag ["_law_script"] (defScope s__law_bag) := ⟨rfl, rfl, rfl, by decide +kernel, rfl, by decide +kernel, by decide +kernel⟩
abbrev s__law_take : Stmt := (top 30)
abbrev N__law_take : List Str := ["_law_bag_here", "_law_many", "_law_first", "_law_second", "_law_cell", "_law_value"]
theorem sc__law_take : FnScope N__law_take ["_law_bag_here", "_law_many"] (defScope s__law_take) := ⟨rfl, rfl, rfl, by decide +kernel, rfl, by decide +kernel, by decide +kernel⟩
abbrev s__law_steps : Stmt := (top 31)
abbrev N__law_steps : List Str := ["_law_bag_here", "_law_many", "_law_ceiling", "_law_found", "_law_k", "_law_by", "_law_some"]
theorem sc__law_steps : FnScope N__law_steps ["_law_bag_here", "_law_many", "_law_ceiling"] (defScope s__law_steps) := ⟨rfl, rfl, rfl, by decide +kernel, rfl, by decide +kernel, by decide +kernel⟩
abbrev s__law_plan : Stmt := (top 32)
abbrev N__law_plan : List Str := ["_law_bag_here", "_law_caps", "_law_ceiling", "_law_head", "_law_tail", "_law_lifting"]
theorem sc__law_plan : FnScope N__law_plan ["_law_bag_here"] (defScope s__law_plan) := ⟨rfl, rfl, rfl, by decide +kernel, rfl, by decide +kernel, by decide +kernel⟩
abbrev s__law_within : Stmt := (top 33)
abbrev N__law_within : List Str := ["_law_thing", "_law_low", "_law_high"]
theorem sc__law_within : FnScope N__law_within ["_law_thing", "_law_low", "_law_high"] (defScope s__law_within) := ⟨rfl, rfl, rfl, by decide +kernel, rfl, by decide +kernel, by decide +kernel⟩
abbrev s__law_is_step : Stmt := (top 34)
abbrev N__law_is_step : List Str := ["_law_thing"]
theorem sc__law_is_step : FnScope N__law_is_step ["_law_thing"] (defScope s__law_is_step) := ⟨rfl, rfl, rfl, by decide +kernel, rfl, by decide +kernel, by decide +kernel⟩
abbrev s__law_bent_steps : Stmt := (top 35)
abbrev N__law_bent_steps : List Str := ["_law_bag_here", "_law_steps_here", "_law_odd", "_law_way", "_law_at"]
theorem sc__law_bent_steps : FnScope N__law_bent_steps ["_law_bag_here", "_law_steps_here"] (defScope s__law_bent_steps) := ⟨rfl, rfl, rfl, by decide +kernel, rfl, by decide +kernel, by decide +kernel⟩
abbrev s__law_bent : Stmt := (top 36)
abbrev N__law_bent : List Str := ["_law_bag_here", "_law_things", "_law_at"]
theorem sc__law_bent : FnScope N__law_bent ["_law_bag_here", "_law_things"] (defScope s__law_bent) := ⟨rfl, rfl, rfl, by decide +kernel, rfl, by decide +kernel, by decide +kernel⟩
abbrev s__law_due : Stmt := (top 37)
abbrev N__law_due : List Str := ["_law_things", "_law_good", "_law_head", "_law_tail", "_law_ceiling", "_law_lifting", "_law_afresh", "_law_at", "_law_one"]
theorem sc__law_due : FnScope N__law_due ["_law_things"] (defScope s__law_due) := ⟨rfl, rfl, rfl, by decide +kernel, rfl, by decide +kernel, by decide +kernel⟩
abbrev s__law_refused : Stmt := (top 38)
abbrev N__law_refused : List Str := ["_law_e"]
theorem sc__law_refused : FnScope N__law_refused ["_law_e"] (defScope s__law_refused) := ⟨rfl, rfl, rfl, by decide +kernel, rfl, by decide +kernel, by decide +kernel⟩
abbrev s__law_told : Stmt := (top 39)
abbrev N__law_told : List Str := ["_law_things", "_law_e", "_law_head", "_law_tail", "_law_ceiling", "_law_lifting", "_law_afresh"]
theorem sc__law_told : FnScope N__law_told ["_law_things"] (defScope s__law_told) := ⟨rfl, rfl, rfl, by decide +kernel, rfl, by decide +kernel, by decide +kernel⟩
abbrev s__law_asked : Stmt := (top 40)
abbrev N__law_asked : List Str := ["_law_wane", "_law_way", "_law_number", "_law_e"]
theorem sc__law_asked : FnScope N__law_asked ["_law_wane", "_law_way", "_law_number"] (defScope s__law_asked) := ⟨rfl, rfl, rfl, by decide +kernel, rfl, by decide +kernel, by decide +kernel⟩
abbrev s_law : Stmt := (top 41)
abbrev N_law : List Str := ["_law_script", "_law_bag_here", "_law_turn", "_law_plan_here", "_law_things", "_law_k", "_law_shown", "_law_due_here", "_law_wane", "_law_number", "_law_way"]
theorem sc_law : FnScope N_law ["_law_script"] (defScope s_law) := ⟨rfl, rfl, rfl, by decide +kernel, rfl, by decide +kernel, by decide +kernel⟩
/-- where the top has laid what the defs name -/
structure Wd (K : PySem.W.Frag) (mg : Str → Option Value) where
  n_abs : mg "abs" = none
  n_all : mg "all" = none
  n_bool : mg "bool" = none
  n_enumerate : mg "enumerate" = none
  n_int : mg "int" = none
  n_isinstance : mg "isinstance" = none
  n_len : mg "len" = none
  n_list : mg "list" = none
  n_range : mg "range" = none
  n_repr : mg "repr" = none
  n_tuple : mg "tuple" = none
  t_BILLION : Tok
  c_BILLION : mg "BILLION" = some (.int 1000000000 t_BILLION)
  t_MOST_BY : Tok
  c_MOST_BY : mg "MOST_BY" = some (.int 9 t_MOST_BY)
  t_MOST_HEAD : Tok
  c_MOST_HEAD : mg "MOST_HEAD" = some (.int 24 t_MOST_HEAD)
  t_MOST_MOMENT : Tok
  c_MOST_MOMENT : mg "MOST_MOMENT" = some (.int 1000000000000000000000000000000 t_MOST_MOMENT)
  a_TAILS : Addr
  c_TAILS : mg "TAILS" = some (.ref a_TAILS)
  i_TAILS : KTup K a_TAILS [.int 1, .int 2, .int 3, .int 4, .int 6, .int 8, .int 12, .int 24]
  C_WaneError : Addr
  c_WaneError : mg "WaneError" = some (.ref C_WaneError)
  x_WaneError : XCls K C_WaneError
  sv_WaneError : PySem.W.subIn K (.ref C_WaneError) (.type "ValueError") = some true
  C_Wrong : Addr
  c_Wrong : mg "Wrong" = some (.ref C_Wrong)
  x_Wrong : XCls K C_Wrong
  sv_Wrong : PySem.W.subIn K (.ref C_Wrong) (.type "ValueError") = some true
  C_NoText : Addr
  c_NoText : mg "NoText" = some (.ref C_NoText)
  x_NoText : XCls K C_NoText
  sv_NoText : PySem.W.subIn K (.ref C_NoText) (.type "ValueError") = some true
  C_TooMany : Addr
  c_TooMany : mg "TooMany" = some (.ref C_TooMany)
  x_TooMany : XCls K C_TooMany
  sv_TooMany : PySem.W.subIn K (.ref C_TooMany) (.type "ValueError") = some true
  C_Wane : Addr
  c_Wane : mg "Wane" = some (.ref C_Wane)
  cl_Wane : Cls K C_Wane
  ic_Wane : InsQ K C_Wane
  ty_Wane : PySem.W.typeIn K (.ref C_Wane) = some (.type "type")
  na_Wane__anew : NoAttr K C_Wane "_anew"
  na_Wane__cap : NoAttr K C_Wane "_cap"
  na_Wane__head : NoAttr K C_Wane "_head"
  na_Wane__lift : NoAttr K C_Wane "_lift"
  na_Wane__steps : NoAttr K C_Wane "_steps"
  na_Wane__tail : NoAttr K C_Wane "_tail"
  a_Wrong___init__ : Addr
  d_Wrong___init__ : FuncData
  F_Wrong___init__ : Fun K "__init__" "Wrong.__init__" s_Wrong___init__ a_Wrong___init__ d_Wrong___init__
  a_refuse_wrong : Addr
  d_refuse_wrong : FuncData
  F_refuse_wrong : Fun K "refuse_wrong" "refuse_wrong" s_refuse_wrong a_refuse_wrong d_refuse_wrong
  m_refuse_wrong : mg "refuse_wrong" = some (.ref a_refuse_wrong)
  a_is_whole : Addr
  d_is_whole : FuncData
  F_is_whole : Fun K "is_whole" "is_whole" s_is_whole a_is_whole d_is_whole
  m_is_whole : mg "is_whole" = some (.ref a_is_whole)
  a_is_within : Addr
  d_is_within : FuncData
  F_is_within : Fun K "is_within" "is_within" s_is_within a_is_within d_is_within
  m_is_within : mg "is_within" = some (.ref a_is_within)
  a_is_strength : Addr
  d_is_strength : FuncData
  F_is_strength : Fun K "is_strength" "is_strength" s_is_strength a_is_strength d_is_strength
  m_is_strength : mg "is_strength" = some (.ref a_is_strength)
  a_is_size : Addr
  d_is_size : FuncData
  F_is_size : Fun K "is_size" "is_size" s_is_size a_is_size d_is_size
  m_is_size : mg "is_size" = some (.ref a_is_size)
  a_is_moment : Addr
  d_is_moment : FuncData
  F_is_moment : Fun K "is_moment" "is_moment" s_is_moment a_is_moment d_is_moment
  m_is_moment : mg "is_moment" = some (.ref a_is_moment)
  a_is_step : Addr
  d_is_step : FuncData
  F_is_step : Fun K "is_step" "is_step" s_is_step a_is_step d_is_step
  m_is_step : mg "is_step" = some (.ref a_is_step)
  a_Wane___init__ : Addr
  d_Wane___init__ : FuncData
  D_Wane___init__ : FunD K "__init__" "Wane.__init__" (defArgs s_Wane___init__) (defBody s_Wane___init__) (defScope s_Wane___init__) [] [("anew", (.bl true))] a_Wane___init__ d_Wane___init__
  K_Wane : Mk K C_Wane a_Wane___init__
  a_Wane_step : Addr
  d_Wane_step : FuncData
  F_Wane_step : Fun K "step" "Wane.step" s_Wane_step a_Wane_step d_Wane_step
  M_Wane_step : Meth K C_Wane "step" a_Wane_step
  a_Wane_phase : Addr
  d_Wane_phase : FuncData
  F_Wane_phase : Fun K "phase" "Wane.phase" s_Wane_phase a_Wane_phase d_Wane_phase
  M_Wane_phase : Meth K C_Wane "phase" a_Wane_phase
  a_Wane_step_behind : Addr
  d_Wane_step_behind : FuncData
  F_Wane_step_behind : Fun K "step_behind" "Wane.step_behind" s_Wane_step_behind a_Wane_step_behind d_Wane_step_behind
  M_Wane_step_behind : Meth K C_Wane "step_behind" a_Wane_step_behind
  a_Wane_phase_behind : Addr
  d_Wane_phase_behind : FuncData
  F_Wane_phase_behind : Fun K "phase_behind" "Wane.phase_behind" s_Wane_phase_behind a_Wane_phase_behind d_Wane_phase_behind
  M_Wane_phase_behind : Meth K C_Wane "phase_behind" a_Wane_phase_behind
  a__is_head : Addr
  d__is_head : FuncData
  F__is_head : Fun K "_is_head" "_is_head" s__is_head a__is_head d__is_head
  m__is_head : mg "_is_head" = some (.ref a__is_head)
  a__is_tail : Addr
  d__is_tail : FuncData
  F__is_tail : Fun K "_is_tail" "_is_tail" s__is_tail a__is_tail d__is_tail
  m__is_tail : mg "_is_tail" = some (.ref a__is_tail)
  a__are_steps : Addr
  d__are_steps : FuncData
  F__are_steps : Fun K "_are_steps" "_are_steps" s__are_steps a__are_steps d__are_steps
  m__are_steps : mg "_are_steps" = some (.ref a__are_steps)
  a__law_bag : Addr
  d__law_bag : FuncData
  F__law_bag : Fun K "_law_bag" "_law_bag" s__law_bag a__law_bag d__law_bag
  m__law_bag : mg "_law_bag" = some (.ref a__law_bag)
  a__law_take : Addr
  d__law_take : FuncData
  F__law_take : Fun K "_law_take" "_law_take" s__law_take a__law_take d__law_take
  m__law_take : mg "_law_take" = some (.ref a__law_take)
  a__law_steps : Addr
  d__law_steps : FuncData
  F__law_steps : Fun K "_law_steps" "_law_steps" s__law_steps a__law_steps d__law_steps
  m__law_steps : mg "_law_steps" = some (.ref a__law_steps)
  a__law_plan : Addr
  d__law_plan : FuncData
  F__law_plan : Fun K "_law_plan" "_law_plan" s__law_plan a__law_plan d__law_plan
  m__law_plan : mg "_law_plan" = some (.ref a__law_plan)
  a__law_within : Addr
  d__law_within : FuncData
  F__law_within : Fun K "_law_within" "_law_within" s__law_within a__law_within d__law_within
  m__law_within : mg "_law_within" = some (.ref a__law_within)
  a__law_is_step : Addr
  d__law_is_step : FuncData
  F__law_is_step : Fun K "_law_is_step" "_law_is_step" s__law_is_step a__law_is_step d__law_is_step
  m__law_is_step : mg "_law_is_step" = some (.ref a__law_is_step)
  a__law_bent_steps : Addr
  d__law_bent_steps : FuncData
  F__law_bent_steps : Fun K "_law_bent_steps" "_law_bent_steps" s__law_bent_steps a__law_bent_steps d__law_bent_steps
  m__law_bent_steps : mg "_law_bent_steps" = some (.ref a__law_bent_steps)
  a__law_bent : Addr
  d__law_bent : FuncData
  F__law_bent : Fun K "_law_bent" "_law_bent" s__law_bent a__law_bent d__law_bent
  m__law_bent : mg "_law_bent" = some (.ref a__law_bent)
  a__law_due : Addr
  d__law_due : FuncData
  F__law_due : Fun K "_law_due" "_law_due" s__law_due a__law_due d__law_due
  m__law_due : mg "_law_due" = some (.ref a__law_due)
  a__law_refused : Addr
  d__law_refused : FuncData
  F__law_refused : Fun K "_law_refused" "_law_refused" s__law_refused a__law_refused d__law_refused
  m__law_refused : mg "_law_refused" = some (.ref a__law_refused)
  a__law_told : Addr
  d__law_told : FuncData
  F__law_told : Fun K "_law_told" "_law_told" s__law_told a__law_told d__law_told
  m__law_told : mg "_law_told" = some (.ref a__law_told)
  a__law_asked : Addr
  d__law_asked : FuncData
  F__law_asked : Fun K "_law_asked" "_law_asked" s__law_asked a__law_asked d__law_asked
  m__law_asked : mg "_law_asked" = some (.ref a__law_asked)
  a_law : Addr
  d_law : FuncData
  F_law : Fun K "law" "law" s_law a_law d_law
  m_law : mg "law" = some (.ref a_law)
  su_WaneError_Wrong : PySem.W.subIn K (.ref C_WaneError) (.ref C_Wrong) = some false
  su_WaneError_NoText : PySem.W.subIn K (.ref C_WaneError) (.ref C_NoText) = some false
  su_WaneError_TooMany : PySem.W.subIn K (.ref C_WaneError) (.ref C_TooMany) = some false
  ei_WaneError : PySem.W.excIn K C_WaneError [.type "ValueError", .type "Exception", .type "BaseException", .type "object"] "ValueError.__new__" = true
  su_Wrong_WaneError : PySem.W.subIn K (.ref C_Wrong) (.ref C_WaneError) = some true
  su_Wrong_NoText : PySem.W.subIn K (.ref C_Wrong) (.ref C_NoText) = some false
  su_Wrong_TooMany : PySem.W.subIn K (.ref C_Wrong) (.ref C_TooMany) = some false
  oi_Wrong : PySem.W.findIn K (.ref C_Wrong) "__init__" = some (some (.ref a_Wrong___init__))
  ot_Wrong : PySem.W.typeIn K (.ref a_Wrong___init__) = some (.type "function")
  nf_Wrong : PySem.W.findIn K (.ref C_Wrong) "place" = some none
  su_NoText_WaneError : PySem.W.subIn K (.ref C_NoText) (.ref C_WaneError) = some true
  su_NoText_Wrong : PySem.W.subIn K (.ref C_NoText) (.ref C_Wrong) = some false
  su_NoText_TooMany : PySem.W.subIn K (.ref C_NoText) (.ref C_TooMany) = some false
  ei_NoText : PySem.W.excIn K C_NoText [.type "ValueError", .type "Exception", .type "BaseException", .type "object"] "ValueError.__new__" = true
  su_TooMany_WaneError : PySem.W.subIn K (.ref C_TooMany) (.ref C_WaneError) = some true
  su_TooMany_Wrong : PySem.W.subIn K (.ref C_TooMany) (.ref C_Wrong) = some false
  su_TooMany_NoText : PySem.W.subIn K (.ref C_TooMany) (.ref C_NoText) = some false
section
variable {K : PySem.W.Frag} {mg : Str → Option Value}
theorem b_Wrong___init__ (W : Wd K mg) : Binds K W.d_Wrong___init__ ["self", "place"] [] := W.F_Wrong___init__.binds fun _ _ _ _ _ _ us hl => match us, hl with | [_, _], _ => rfl
theorem b_refuse_wrong (W : Wd K mg) : Binds K W.d_refuse_wrong ["fits"] [] := W.F_refuse_wrong.binds fun _ _ _ _ _ _ us hl => match us, hl with | [_], _ => rfl
theorem b_is_whole (W : Wd K mg) : Binds K W.d_is_whole ["thing"] [] := W.F_is_whole.binds fun _ _ _ _ _ _ us hl => match us, hl with | [_], _ => rfl
theorem b_is_within (W : Wd K mg) : Binds K W.d_is_within ["thing", "least", "most"] [] := W.F_is_within.binds fun _ _ _ _ _ _ us hl => match us, hl with | [_, _, _], _ => rfl
theorem b_is_strength (W : Wd K mg) : Binds K W.d_is_strength ["thing"] [] := W.F_is_strength.binds fun _ _ _ _ _ _ us hl => match us, hl with | [_], _ => rfl
theorem b_is_size (W : Wd K mg) : Binds K W.d_is_size ["thing"] [] := W.F_is_size.binds fun _ _ _ _ _ _ us hl => match us, hl with | [_], _ => rfl
theorem b_is_moment (W : Wd K mg) : Binds K W.d_is_moment ["thing"] [] := W.F_is_moment.binds fun _ _ _ _ _ _ us hl => match us, hl with | [_], _ => rfl
theorem b_is_step (W : Wd K mg) : Binds K W.d_is_step ["thing"] [] := W.F_is_step.binds fun _ _ _ _ _ _ us hl => match us, hl with | [_], _ => rfl
theorem b_Wane_step (W : Wd K mg) : Binds K W.d_Wane_step ["self", "number"] [] := W.F_Wane_step.binds fun _ _ _ _ _ _ us hl => match us, hl with | [_, _], _ => rfl
theorem b_Wane_phase (W : Wd K mg) : Binds K W.d_Wane_phase ["self", "since"] [] := W.F_Wane_phase.binds fun _ _ _ _ _ _ us hl => match us, hl with | [_, _], _ => rfl
theorem b_Wane_step_behind (W : Wd K mg) : Binds K W.d_Wane_step_behind ["self", "since"] [] := W.F_Wane_step_behind.binds fun _ _ _ _ _ _ us hl => match us, hl with | [_, _], _ => rfl
theorem b_Wane_phase_behind (W : Wd K mg) : Binds K W.d_Wane_phase_behind ["self", "since"] [] := W.F_Wane_phase_behind.binds fun _ _ _ _ _ _ us hl => match us, hl with | [_, _], _ => rfl
theorem b__is_head (W : Wd K mg) : Binds K W.d__is_head ["thing"] [] := W.F__is_head.binds fun _ _ _ _ _ _ us hl => match us, hl with | [_], _ => rfl
theorem b__is_tail (W : Wd K mg) : Binds K W.d__is_tail ["thing"] [] := W.F__is_tail.binds fun _ _ _ _ _ _ us hl => match us, hl with | [_], _ => rfl
theorem b__are_steps (W : Wd K mg) : Binds K W.d__are_steps ["thing"] [] := W.F__are_steps.binds fun _ _ _ _ _ _ us hl => match us, hl with | [_], _ => rfl
theorem b__law_bag (W : Wd K mg) : Binds K W.d__law_bag ["_law_script"] [] := W.F__law_bag.binds fun _ _ _ _ _ _ us hl => match us, hl with | [_], _ => rfl
theorem b__law_take (W : Wd K mg) : Binds K W.d__law_take ["_law_bag_here", "_law_many"] [] := W.F__law_take.binds fun _ _ _ _ _ _ us hl => match us, hl with | [_, _], _ => rfl
theorem b__law_steps (W : Wd K mg) : Binds K W.d__law_steps ["_law_bag_here", "_law_many", "_law_ceiling"] [] := W.F__law_steps.binds fun _ _ _ _ _ _ us hl => match us, hl with | [_, _, _], _ => rfl
theorem b__law_plan (W : Wd K mg) : Binds K W.d__law_plan ["_law_bag_here"] [] := W.F__law_plan.binds fun _ _ _ _ _ _ us hl => match us, hl with | [_], _ => rfl
theorem b__law_within (W : Wd K mg) : Binds K W.d__law_within ["_law_thing", "_law_low", "_law_high"] [] := W.F__law_within.binds fun _ _ _ _ _ _ us hl => match us, hl with | [_, _, _], _ => rfl
theorem b__law_is_step (W : Wd K mg) : Binds K W.d__law_is_step ["_law_thing"] [] := W.F__law_is_step.binds fun _ _ _ _ _ _ us hl => match us, hl with | [_], _ => rfl
theorem b__law_bent_steps (W : Wd K mg) : Binds K W.d__law_bent_steps ["_law_bag_here", "_law_steps_here"] [] := W.F__law_bent_steps.binds fun _ _ _ _ _ _ us hl => match us, hl with | [_, _], _ => rfl
theorem b__law_bent (W : Wd K mg) : Binds K W.d__law_bent ["_law_bag_here", "_law_things"] [] := W.F__law_bent.binds fun _ _ _ _ _ _ us hl => match us, hl with | [_, _], _ => rfl
theorem b__law_due (W : Wd K mg) : Binds K W.d__law_due ["_law_things"] [] := W.F__law_due.binds fun _ _ _ _ _ _ us hl => match us, hl with | [_], _ => rfl
theorem b__law_refused (W : Wd K mg) : Binds K W.d__law_refused ["_law_e"] [] := W.F__law_refused.binds fun _ _ _ _ _ _ us hl => match us, hl with | [_], _ => rfl
theorem b__law_told (W : Wd K mg) : Binds K W.d__law_told ["_law_things"] [] := W.F__law_told.binds fun _ _ _ _ _ _ us hl => match us, hl with | [_], _ => rfl
theorem b__law_asked (W : Wd K mg) : Binds K W.d__law_asked ["_law_wane", "_law_way", "_law_number"] [] := W.F__law_asked.binds fun _ _ _ _ _ _ us hl => match us, hl with | [_, _, _], _ => rfl
theorem b_law (W : Wd K mg) : Binds K W.d_law ["_law_script"] [] := W.F_law.binds fun _ _ _ _ _ _ us hl => match us, hl with | [_], _ => rfl
theorem kb_Wane___init___2_anew_lift_cap (W : Wd K mg) : ∃ g, KBn K W.d_Wane___init__ ["self", "head", "tail", "cap", "lift", "anew"] 3 ["anew", "lift", "cap"] g (fun vs zs => vs ++ ((zs.drop 2).take 1 ++ ((zs.drop 1).take 1 ++ ((zs.drop 0).take 1)))) := by
  obtain ⟨mv, h⟩ := W.D_Wane___init__.kbinds0 (ps := ["self", "head", "tail", "cap", "lift", "anew"]) 3 ["anew", "lift", "cap"] [] (fun us mv ws => us ++ ((ws.drop 2).take 1 ++ ((ws.drop 1).take 1 ++ ((ws.drop 0).take 1)))) (by simp) (by simp) (fun hu hm hw => hu.append (((hw.drop 2).take 1).append (((hw.drop 1).take 1).append ((hw.drop 0).take 1)))) (fun D doc pm an cdv ct us mv ws h1 h2 h3 => by
    match us, mv, ws, h1, h2, h3 with
    | [_, _, _], [], [_, _, _], _, _, _ => exact rfl)
  exact ⟨_, h⟩
theorem kb_Wane___init___2_cap_lift_anew (W : Wd K mg) : ∃ g, KBn K W.d_Wane___init__ ["self", "head", "tail", "cap", "lift", "anew"] 3 ["cap", "lift", "anew"] g (fun vs zs => vs ++ ((zs.drop 0).take 1 ++ ((zs.drop 1).take 1 ++ ((zs.drop 2).take 1)))) := by
  obtain ⟨mv, h⟩ := W.D_Wane___init__.kbinds0 (ps := ["self", "head", "tail", "cap", "lift", "anew"]) 3 ["cap", "lift", "anew"] [] (fun us mv ws => us ++ ((ws.drop 0).take 1 ++ ((ws.drop 1).take 1 ++ ((ws.drop 2).take 1)))) (by simp) (by simp) (fun hu hm hw => hu.append (((hw.drop 0).take 1).append (((hw.drop 1).take 1).append ((hw.drop 2).take 1)))) (fun D doc pm an cdv ct us mv ws h1 h2 h3 => by
    match us, mv, ws, h1, h2, h3 with
    | [_, _, _], [], [_, _, _], _, _, _ => exact rfl)
  exact ⟨_, h⟩
end
/-! ## the walk of a reading -/
local macro_rules | `(tactic| walk_at "mem") => `(tactic| first | exact List.Mem.head _ | (refine List.Mem.tail _ ?_; walk_at "mem"))
local macro_rules | `(tactic| walk_at "sub") => `(tactic| first | exact sub_nil | (refine sub_cons ?sa ?sb; (case sa => walk_at "mem"); (case sb => walk_at "sub")))
local macro_rules | `(tactic| walk_at "dz") => `(tactic| first | with_reducible exact z_int | with_reducible exact z_str | with_reducible exact z_bl | with_reducible exact z_non | with_reducible assumption | exact St.dz (by assumption) (by walk_at "mem"))
local macro_rules | `(tactic| walk_at "dzl") => `(tactic| first | exact zl_nil | (refine zl_cons ?zd ?zr; (case zd => walk_at "dz"); (case zr => walk_at "dzl")))
local macro_rules | `(tactic| walk_at "g1") => `(tactic| with_reducible first
  | refine g_var (by with_unfolding_all rfl) ?_
  | refine g_c ?_ | refine g_op ?_ | refine g_cons ?_ | refine g_nil ?_ | refine g_cb ?_ | refine g_seq ?_ | refine g_ret ?_ | refine g_asg ?_ | refine g_name ?_ | refine g_ifS ?_ | refine g_test ?_ | refine g_bl ?_ | refine g_iteT ?_ | refine g_iteF ?_
  | refine g_next ?_ | refine g_drop ?_ | refine g_call ?_ | refine g_tup ?_ | refine g_lst ?_ | refine g_sl ?_ | refine g_nopart ?_ | refine g_part ?_ | refine g_int ?_ | refine g_for ?_ | refine g_lc ?_
  | refine g_and ?_ | refine g_or ?_ | refine g_not ?_ | refine g_tB ?_ | refine g_andV ?_ | refine g_andV1 ?_ | refine g_orV ?_ | refine g_orV1 ?_ | refine g_notV ?_ | refine g_notV1 ?_ | refine g_if ?_ | refine g_chain ?_ | refine g_un ?_
  | refine v_add ?_ | refine v_sub ?_ | refine v_lt ?_ | refine v_le ?_ | refine v_gt ?_ | refine v_ge ?_ | refine v_eqI ?_ | refine v_neI ?_ | refine v_eqS ?_ | refine v_neS ?_ | refine v_eqB ?_ | refine v_neB ?_ | refine v_inSg ?_ | refine v_niSg ?_
  | refine g_bm ?_ | refine g_bm0 ?_ | refine g_m0 ?_ | refine g_m1 ?_ | refine g_str1 ?_ | refine g_str2 ?_ | refine g_orT ?_ | refine g_andT ?_ | refine g_notT ?_ | refine g_gtup ?_ | refine g_gcons ?_ | refine g_gnil ?_ | refine g_retN ?_ | refine g_brk ?_ | refine g_cont ?_
  | refine i_rng ?_ | refine i_rng2 ?_ | refine i_zip ?_ | refine i_enum ?_ | refine g_callD ?_ | refine g_augS ?_ | refine g_ipI ?_ | refine g_sub ?_ | refine g_yes ?_ | refine g_fld ?_ | refine g_meth ?_ | refine g_make ?_ | refine g_tru ?_ | refine g_setf ?_ | refine g_parS ?_ | refine g_parE ?_ | refine g_callN ?_ | refine g_ch3 ?_ | refine g_lrg ?_ | refine g_rg1 ?_ | refine g_rev ?_ | refine v_isNN ?_ | refine v_isNR ?_ | refine v_notNN ?_ | refine v_notNR ?_ | refine v_isNI ?_ | refine v_notNI ?_ | refine g_dni ?_ | refine g_din ?_ | refine g_dgt ?_ | refine g_dpt ?_ | refine i_enumS ?_ | refine g_revS ?_ | refine g_iteNT ?_ | refine g_iteNF ?_ | refine v_isiIB ?_ | refine v_isiII ?_ | refine v_isiSS ?_ | refine i_zip3 ?_ | refine g_par3 ?_)
local macro_rules | `(tactic| walk_at "g") => `(tactic| repeat (walk_at "g1"; try dsimp only [List.set_cons_zero, List.set_cons_succ, wipe, List.map_cons, List.map_nil, Bool.not_true, Bool.not_false]))
section
variable {P : Program} {w : World} {K : PySem.W.Frag} {mg : Str → Option Value} {base : Heap}
/-- nothing is refused where all fits are True -/
def sp_refuse_wrong (K : PySem.W.Frag) : Sp := spUnit K (fun n : Nat => [.lst (List.replicate n (D.bl true))]) (fun _ => True)
theorem ok_refuse_wrong (W : Wd K mg) : FnOk P w K mg base CX0 3 W.a_refuse_wrong W.d_refuse_wrong ["fits"] (sp_refuse_wrong K) := by
  refine W.F_refuse_wrong.ok sc_refuse_wrong (fun vs H Q E h => spUnit_len (n := 1) (fun _ => rfl) h) (fun cdv A outer s H vs Q E hr h => ?_)
  obtain ⟨S, n, ok, hz, hp, k⟩ := h
  have st := St.start ok hz
  obtain ⟨x, _, rfl, hx, rfl⟩ := hz
  obtain ⟨a, rfl⟩ := st.isL (by walk_at "mem")
  refine ⟨_, (pss_one (ps_for PassesOwn.never rfl (pi_enum (by rfl) W.n_enumerate (pa_cons (pv 0) pa_nil)) (pg_tup (by rfl) (pgs_cons (pg_name (i := 1) sc_refuse_wrong.nd rfl (.inl rfl)) (pgs_cons (pg_name (i := 2) sc_refuse_wrong.nd rfl (.inl rfl)) pgs_nil)))
        (pss_one (ps_if (pt_not (pt_truth (pv 2) (by intro _; rfl))) (pss_one ps_never) pss_nil)))), ?_⟩
  rw [show start N_refuse_wrong [.ref a] = [some (.ref a), none, none] from rfl]
  try dsimp only [cxOf]
  walk_at "g"
  refine for_E (K := K) (S := S) (fun i σ H' => (∃ y z, σ = [some (.ref a), y, z]) ∧ Vf.St K S (fun _ => False) H H' [(.ref a, .lst (List.replicate n (D.bl true)))] [] []) (fun i σ H' h => h.2.dz (by walk_at "mem")) ⟨⟨_, _, rfl⟩, st⟩ ?_ ?_
  · rintro i d x T σ H' hd hi hx ⟨⟨y, z, rfl⟩, st⟩ nT
    obtain rfl : d = D.bl true := List.eq_of_mem_replicate (List.mem_of_getElem? hd)
    obtain rfl : x = .bl true := hx
    have st := st.tup nT (zl_cons (z_int (i := (i : Nat))) (zl_cons (z_bl (i := true)) zl_nil))
    walk_at "g"
    refine d_gT (st.dz (by walk_at "mem")) rfl fun xs hxs => ?_
    obtain ⟨_, _, rfl, rfl, _, _, rfl, rfl, rfl⟩ := hxs
    walk_at "g"
    refine ⟨true, rfl, ?_⟩
    walk_at "g"
    exact ⟨⟨_, _, rfl⟩, st.sub (fun p h => List.mem_cons_of_mem _ h)⟩
  · rintro σ H' ⟨_, st⟩
    exact k _ st.end_

theorem isT_whole (d : D) (b : Bool) : isT "int" d = b → (if b = true then !isT "bool" d else false) = isWhole d := by
  intro e
  subst e
  cases d <;> simp [isT, D.tn, isWhole]
def sp_is_whole (K : PySem.W.Frag) : Sp := spBl K (fun d : D => [d]) (fun d => d.noIns = true) isWhole
theorem ok_is_whole (W : Wd K mg) : FnOk P w K mg base CX0 1 W.a_is_whole W.d_is_whole ["thing"] (sp_is_whole K) := by
  refine W.F_is_whole.ok sc_is_whole (fun vs H Q E h => spBl_len (n := 1) (fun _ => rfl) h) (fun cdv A outer s H vs Q E hr h => ?_)
  obtain ⟨S, d, ok, hz, hp, k⟩ := h
  have st := St.start ok hz
  obtain ⟨x, _, rfl, hx, rfl⟩ := hz
  refine ⟨_, (pss_one (ps_ret (pe_and (pe_callB (r := rIsiG K) call_isiG (by rfl) W.n_isinstance (by decide +kernel) (pa_cons (pv 0) (pa_cons (pe_bltn (v := .ty "int") (by rfl) W.n_int (by decide +kernel) rfl) pa_nil))) (pe_one (pe_not (pe_callB (r := rIsiG K) call_isiG (by rfl) W.n_isinstance (by decide +kernel) (pa_cons (pv 0) (pa_cons (pe_bltn (v := .ty "bool") (by rfl) W.n_bool (by decide +kernel) rfl) pa_nil)))))))), ?_⟩
  rw [show start N_is_whole [x] = [some (x)] from rfl]
  try dsimp only [cxOf]
  walk_at "g"
  refine d_isi hx hp (q := ?_)
  walk_at "g"
  have e := isT_whole d _ rfl
  refine g_ite (fun hb => ?_) (fun hb => ?_)
  · rw [hb, if_pos rfl] at e
    walk_at "g"
    refine d_isi hx hp (q := ?_)
    walk_at "g"
    rw [e]
    exact k _ st.end_
  · rw [hb, if_neg Bool.false_ne_true] at e
    rw [e]
    exact k _ st.end_

def sp_is_within (K : PySem.W.Frag) : Sp := spBl K (fun a : D × Int × Int => [a.1, .int a.2.1, .int a.2.2]) (fun a => a.1.noIns = true) (fun a => isWithin a.1 a.2.1 a.2.2)
theorem ok_is_within (W : Wd K mg) : FnOk P w K mg base CX0 2 W.a_is_within W.d_is_within ["thing", "least", "most"] (sp_is_within K) := by
  refine W.F_is_within.ok sc_is_within (fun vs H Q E h => spBl_len (n := 3) (fun _ => rfl) h) (fun cdv A outer s H vs Q E hr h => ?_)
  obtain ⟨S, ⟨d, lo, hi⟩, ok, hz, hd, k⟩ := h
  have st := St.start ok hz
  obtain ⟨x, _, rfl, hx, _, _, rfl, rfl, _, _, rfl, rfl, rfl⟩ := hz
  refine ⟨_, (pss_one (ps_ret (pe_and (pe_call (ok_is_whole W) (hr.mono (by decide)) (by rfl) W.m_is_whole W.F_is_whole.kp (b_is_whole W) .nil pass0 (pa_cons (pv 0) pa_nil)) (pe_one (pe_chain opLe opLe (pv 1) (pv 0) (pv 2)))))), ?_⟩
  rw [show start N_is_within [x, .int lo, .int hi] = [some (x), some (.int lo), some (.int hi)] from rfl]
  try dsimp only [cxOf]
  walk_at "g"
  refine c_Bl d st (zl_cons hx zl_nil) hd fun H1 st => ?_
  walk_at "g"
  refine g_ite (fun hb => ?_) (fun hb => ?_)
  · cases d with
    | int i =>
      obtain rfl : x = .int i := hx
      walk_at "g"
      refine g_dec (fun h1 => ?_) (fun h1 => ?_)
      · walk_at "g"
        have e : decide (i ≤ hi) = isWithin (.int i) lo hi := by simp [isWithin, h1]
        rw [e]
        exact k _ st.end_
      · have e : false = isWithin (.int i) lo hi := by simp [isWithin, h1]
        rw [e]
        exact k _ st.end_
    | _ => cases hb
  · have e : false = isWithin d lo hi := by cases d <;> first | (cases hb; done) | rfl
    rw [e]
    exact k _ st.end_

def sp_is_strength (K : PySem.W.Frag) : Sp := spBl K (fun d : D => [d]) (fun d => d.noIns = true) (fun d => isWithin d 1 (10 ^ 9))
theorem ok_is_strength (W : Wd K mg) : FnOk P w K mg base CX0 3 W.a_is_strength W.d_is_strength ["thing"] (sp_is_strength K) := by
  refine W.F_is_strength.ok sc_is_strength (fun vs H Q E h => spBl_len (n := 1) (fun _ => rfl) h) (fun cdv A outer s H vs Q E hr h => ?_)
  obtain ⟨S, d, ok, hz, hp, k⟩ := h
  have st := St.start ok hz
  obtain ⟨x, _, rfl, hx, rfl⟩ := hz
  refine ⟨_, (pss_one (ps_ret (pe_call (ok_is_within W) (hr.mono (by decide)) (by rfl) W.m_is_within W.F_is_within.kp (b_is_within W) .nil pass0 (pa_cons (pv 0) (pa_cons pe_int (pa_cons (pe_glob (v := V.int 1000000000) rfl W.c_BILLION ⟨_, rfl⟩) pa_nil)))))), ?_⟩
  rw [show start N_is_strength [x] = [some (x)] from rfl]
  try dsimp only [cxOf]
  walk_at "g"
  refine c_Bl (d, 1, 10 ^ 9) st (zl_cons hx (zl_cons z_int (zl_cons (z_int' (by dsimp only; decide)) zl_nil))) hp fun H1 st => ?_
  exact k _ st.end_

def sp_is_size (K : PySem.W.Frag) : Sp := spBl K (fun d : D => [d]) (fun d => d.noIns = true) (fun d => isWithin d 0 (10 ^ 9))
theorem ok_is_size (W : Wd K mg) : FnOk P w K mg base CX0 3 W.a_is_size W.d_is_size ["thing"] (sp_is_size K) := by
  refine W.F_is_size.ok sc_is_size (fun vs H Q E h => spBl_len (n := 1) (fun _ => rfl) h) (fun cdv A outer s H vs Q E hr h => ?_)
  obtain ⟨S, d, ok, hz, hp, k⟩ := h
  have st := St.start ok hz
  obtain ⟨x, _, rfl, hx, rfl⟩ := hz
  refine ⟨_, (pss_one (ps_ret (pe_call (ok_is_within W) (hr.mono (by decide)) (by rfl) W.m_is_within W.F_is_within.kp (b_is_within W) .nil pass0 (pa_cons (pv 0) (pa_cons pe_int (pa_cons (pe_glob (v := V.int 1000000000) rfl W.c_BILLION ⟨_, rfl⟩) pa_nil)))))), ?_⟩
  rw [show start N_is_size [x] = [some (x)] from rfl]
  try dsimp only [cxOf]
  walk_at "g"
  refine c_Bl (d, 0, 10 ^ 9) st (zl_cons hx (zl_cons z_int (zl_cons (z_int' (by dsimp only; decide)) zl_nil))) hp fun H1 st => ?_
  exact k _ st.end_

/-- what may be asked: no instance, none in a pair -/
structure PreStep (d : D) : Prop where
  no : d.noIns = true
  pair : ∀ a b, d = .tup [a, b] → a.noIns = true ∧ b.noIns = true
def sp_is_step (K : PySem.W.Frag) : Sp := spBl K (fun d : D => [d]) PreStep isStep
theorem ok_is_step (W : Wd K mg) : FnOk P w K mg base CX0 4 W.a_is_step W.d_is_step ["thing"] (sp_is_step K) := by
  refine W.F_is_step.ok sc_is_step (fun vs H Q E h => spBl_len (n := 1) (fun _ => rfl) h) (fun cdv A outer s H vs Q E hr h => ?_)
  obtain ⟨S, d, ok, hz, hp, k⟩ := h
  have st := St.start ok hz
  obtain ⟨x, _, rfl, hx, rfl⟩ := hz
  have fin : ∀ b H', Same H H' → b = isStep d → Q (.bl b) H' := fun b H' e eb => by rw [eb]; exact k H' e
  refine ⟨_, (pss_cons (ps_if (PW.pt (pw_or (pt_not (pt_val (pe_callB (r := rIsiG K) call_isiG (by rfl) W.n_isinstance (by decide +kernel) (pa_cons (pv 0) (pa_cons (pe_bltn (v := .ty "tuple") (by rfl) W.n_tuple (by decide +kernel) rfl) pa_nil))))) (pw_or1 (pt_cmpR (r := rNeG K) (opNe hr.units) (pe_callB (r := rLenG K) call_lenG (by rfl) W.n_len PySem.boot_len (pa_cons (pv 0) pa_nil)) pe_int (nomark _))))) (pss_one (ps_ret pe_bl)) pss_nil)
      (pss_cons (ps_asg (pv 0) (pg_tup (by rfl) (pgs_cons (pg_name (i := 1) sc_is_step.nd rfl (.inl rfl)) (pgs_cons (pg_name (i := 2) sc_is_step.nd rfl (.inl rfl)) pgs_nil))))
      (pss_one (ps_ret (pe_and (pe_call (ok_is_within W) (hr.mono (by decide)) (by rfl) W.m_is_within W.F_is_within.kp (b_is_within W) .nil pass0 (pa_cons (pv 1) (pa_cons pe_int (pa_cons (pe_glob (v := V.int 9) rfl W.c_MOST_BY ⟨_, rfl⟩) pa_nil)))) (pe_one (pe_call (ok_is_size W) (hr.mono (by decide)) (by rfl) W.m_is_size W.F_is_size.kp (b_is_size W) .nil pass0 (pa_cons (pv 2) pa_nil)))))))), ?_⟩
  rw [show start N_is_step [x] = [some (x), none, none] from rfl]
  try dsimp only [cxOf]
  walk_at "g"
  refine d_isi hx hp.no (q := ?_)
  walk_at "g"
  refine g_ite (fun hb => ?_) (fun hb => ?_)
  · walk_at "g"
    refine fin _ _ st.end_ ?_
    cases d <;> first | rfl | (simp [isT, D.tn] at hb; done)
  · cases d with
    | tup ds =>
      obtain ⟨a, rfl⟩ := st.isT (by walk_at "mem")
      walk_at "g"
      refine d_lenT (st.dz (by walk_at "mem")) ?_
      walk_at "g"
      refine g_decN (fun h2 => ?_) (fun h2 => ?_)
      · walk_at "g"
        refine fin _ _ st.end_ ?_
        match ds, h2 with
        | [], _ => rfl
        | [_], _ => rfl
        | [_, _], h2 => exact absurd rfl h2
        | _ :: _ :: _ :: _, _ => rfl
      · have h3 : ds.length = 2 := by omega
        match ds, h3 with
        | [d1, d2], _ =>
        obtain ⟨n1, n2⟩ := hp.pair d1 d2 rfl
        walk_at "g"
        refine d_gT (st.dz (by walk_at "mem")) rfl fun xs hxs => ?_
        obtain ⟨x1, _, rfl, hx1, x2, _, rfl, hx2, rfl⟩ := hxs
        have st := (st.add hx1).add hx2
        walk_at "g"
        refine c_Bl (d1, 1, 9) st (zl_cons hx1 (zl_cons z_int (zl_cons z_int zl_nil))) n1 fun H1 st => ?_
        walk_at "g"
        refine g_ite (fun hb1 => ?_) (fun hb1 => ?_)
        · walk_at "g"
          refine c_Bl d2 st (zl_cons (st.dz (by walk_at "mem")) zl_nil) n2 fun H2 st => ?_
          refine fin _ _ st.end_ ?_
          simp only [isStep, hb1, Bool.true_and]
        · walk_at "g"
          refine fin _ _ st.end_ ?_
          simp only [isStep, hb1, Bool.false_and]
    | _ => simp [isT, D.tn] at hb

structure PreSteps (d : D) : Prop where
  no : d.noIns = true
  few : ∀ ds, d = .lst ds → ds.length ≤ 100000 ∧ ∀ e ∈ ds, PreStep e
theorem all_map (ds : List D) (f : D → Bool) : ((ds.map f).all id) = ds.all f := by
  induction ds with
  | nil => rfl
  | cons d ds ih => simp [List.all_cons, ih]
def sp__are_steps (K : PySem.W.Frag) : Sp := spBl K (fun d : D => [d]) PreSteps areSteps
theorem ok__are_steps (W : Wd K mg) : FnOk P w K mg base CX0 5 W.a__are_steps W.d__are_steps ["thing"] (sp__are_steps K) := by
  refine W.F__are_steps.ok sc__are_steps (fun vs H Q E h => spBl_len (n := 1) (fun _ => rfl) h) (fun cdv A outer s H vs Q E hr h => ?_)
  obtain ⟨S, d, ok, hz, hp, k⟩ := h
  have st := St.start ok hz
  obtain ⟨x, _, rfl, hx, rfl⟩ := hz
  have fin : ∀ b H', Same H H' → b = areSteps d → Q (.bl b) H' := fun b H' e eb => by rw [eb]; exact k H' e
  refine ⟨_, (pss_one (ps_ret (pe_and (pe_callB (r := rIsiG K) call_isiG (by rfl) W.n_isinstance (by decide +kernel) (pa_cons (pv 0) (pa_cons (pe_bltn (v := .ty "list") (by rfl) W.n_list (by decide +kernel) rfl) pa_nil))) (pe_one (pe_callB (cr_all rfl) (by rfl) W.n_all (by decide +kernel) (pa_cons (pe_lc (own := [("step", 1)]) rfl sc__are_steps.nd (piG (pv 0)) (blkOk_by (N := N__are_steps) (sc := defScope s__are_steps) (by decide +kernel)) (fun _ _ _ _ _ => (pg_name (i := 1) sc__are_steps.nd rfl (.inl rfl))) (fun _ _ _ _ _ => pts_nil) (fun _ _ _ _ _ => (pe_call (ok_is_step W) (hr.mono (by decide)) (by rfl) W.m_is_step W.F_is_step.kp (b_is_step W) .nil pass0 (pa_cons (pv 1) pa_nil)))) pa_nil)))))), ?_⟩
  rw [show start N__are_steps [x] = [some (x), none] from rfl]
  try dsimp only [cxOf]
  walk_at "g"
  refine d_isi hx hp.no (q := ?_)
  walk_at "g"
  refine g_ite (fun hb => ?_) (fun hb => ?_)
  · cases d with
    | lst ds =>
      obtain ⟨few, pre⟩ := hp.few ds rfl
      obtain ⟨a, rfl⟩ := st.isL (by walk_at "mem")
      walk_at "g"
      refine i_lst ?_
      walk_at "g"
      refine lc_L st (by walk_at "mem") (fun i es => es = (ds.take i).map fun d => D.bl (isStep d)) (by simp) ?_ ?_
      · rintro p i d x H1 es np hd hi hl pe st
        walk_at "g"
        refine ⟨rfl, ?_⟩
        walk_at "g"
        refine c_Bl d st (zl_cons (st.dz (by walk_at "mem")) zl_nil) (pre d (List.mem_of_getElem? hd)) fun H2 st => ?_
        refine lc_end st (fun q h => List.mem_cons_of_mem _ h) (by omega) hl z_bl ?_
        rw [pe, take_snoc hd, List.map_append]
        rfl
      · rintro p H1 es pe hl st
        have e2 : es = (ds.map isStep).map D.bl := by rw [pe, List.take_length, List.map_map]; rfl
        subst e2
        walk_at "g"
        refine d_all (st.dz (by walk_at "mem")) ?_
        refine fin _ _ st.end_ ?_
        rw [all_map]
        rfl
    | _ => simp [isT, D.tn] at hb
  · refine fin _ _ st.end_ ?_
    cases d <;> first | rfl | (simp [isT, D.tn] at hb; done)

def dlen : D → Nat
  | .lst ds => ds.length
  | .tup ds => ds.length
  | _ => 0
def isHead (d : D) : Bool := areSteps d && decide (dlen d ≤ 24)
def sp__is_head (K : PySem.W.Frag) : Sp := spBl K (fun d : D => [d]) PreSteps isHead
theorem ok__is_head (W : Wd K mg) : FnOk P w K mg base CX0 6 W.a__is_head W.d__is_head ["thing"] (sp__is_head K) := by
  refine W.F__is_head.ok sc__is_head (fun vs H Q E h => spBl_len (n := 1) (fun _ => rfl) h) (fun cdv A outer s H vs Q E hr h => ?_)
  obtain ⟨S, d, ok, hz, hp, k⟩ := h
  have st := St.start ok hz
  obtain ⟨x, _, rfl, hx, rfl⟩ := hz
  have fin : ∀ b H', Same H H' → b = isHead d → Q (.bl b) H' := fun b H' e eb => by rw [eb]; exact k H' e
  refine ⟨_, (pss_one (ps_ret (pe_and (pe_call (ok__are_steps W) (hr.mono (by decide)) (by rfl) W.m__are_steps W.F__are_steps.kp (b__are_steps W) .nil pass0 (pa_cons (pv 0) pa_nil)) (pe_one (pe_cmpR opLe (pe_callB (r := rLenG K) call_lenG (by rfl) W.n_len PySem.boot_len (pa_cons (pv 0) pa_nil)) (pe_glob (v := V.int 24) rfl W.c_MOST_HEAD ⟨_, rfl⟩) (nomark _)))))), ?_⟩
  rw [show start N__is_head [x] = [some (x)] from rfl]
  try dsimp only [cxOf]
  walk_at "g"
  refine c_Bl d st (zl_cons hx zl_nil) hp fun H1 st => ?_
  walk_at "g"
  refine g_ite (fun hb => ?_) (fun hb => ?_)
  · cases d with
    | lst ds =>
      obtain ⟨a, rfl⟩ := st.isL (by walk_at "mem")
      walk_at "g"
      refine d_lenL (st.dz (by walk_at "mem")) ?_
      walk_at "g"
      refine fin _ _ st.end_ ?_
      unfold isHead
      rw [hb]
      show decide ((ds.length : Int) ≤ 24) = (true && decide (ds.length ≤ 24))
      rw [Bool.true_and]
      exact decide_eq_decide.mpr (by omega)
    | _ => cases hb
  · refine fin _ _ st.end_ ?_
    unfold isHead
    rw [hb]
    rfl

def isTail (d : D) : Bool := areSteps d && decide ((dlen d : Int) ∈ tails)
def sp__is_tail (K : PySem.W.Frag) : Sp := spBl K (fun d : D => [d]) PreSteps isTail
-- needs: _is_head
theorem ok__is_tail (W : Wd K mg) : FnOk P w K mg base CX0 6 W.a__is_tail W.d__is_tail ["thing"] (sp__is_tail K) := by
  refine W.F__is_tail.ok sc__is_tail (fun vs H Q E h => spBl_len (n := 1) (fun _ => rfl) h) (fun cdv A outer s H vs Q E hr h => ?_)
  obtain ⟨S, d, ok, hz, hp, k⟩ := h
  have st := St.start ok hz
  obtain ⟨x, _, rfl, hx, rfl⟩ := hz
  have fin : ∀ b H', Same H H' → b = isTail d → Q (.bl b) H' := fun b H' e eb => by rw [eb]; exact k H' e
  refine ⟨_, (pss_one (ps_ret (pe_and (pe_call (ok__are_steps W) (hr.mono (by decide)) (by rfl) W.m__are_steps W.F__are_steps.kp (b__are_steps W) .nil pass0 (pa_cons (pv 0) pa_nil)) (pe_one (pe_cmpR (r := rInG K) opIn (pe_callB (r := rLenG K) call_lenG (by rfl) W.n_len PySem.boot_len (pa_cons (pv 0) pa_nil)) (pe_glob (v := V.ref W.a_TAILS) rfl W.c_TAILS rfl) (by rfl)))))), ?_⟩
  rw [show start N__is_tail [x] = [some (x)] from rfl]
  try dsimp only [cxOf]
  walk_at "g"
  refine c_Bl d st (zl_cons hx zl_nil) hp fun H1 st => ?_
  walk_at "g"
  refine g_ite (fun hb => ?_) (fun hb => ?_)
  · cases d with
    | lst ds =>
      obtain ⟨a, rfl⟩ := st.isL (by walk_at "mem")
      walk_at "g"
      refine d_lenL (st.dz (by walk_at "mem")) ?_
      walk_at "g"
      refine d_inTI (S := S) (ns := tails) (W.i_TAILS.dz (DzL.of_ints tails)) ?_
      refine fin _ _ st.end_ ?_
      unfold isTail
      rw [hb]
      rfl
    | _ => cases hb
  · refine fin _ _ st.end_ ?_
    unfold isTail
    rw [hb]
    rfl

theorem preSteps {l : List (Int × Int)} (h : l.length ≤ 24) : PreSteps (.lst (l.map stepD)) := by
  refine ⟨rfl, fun ds e => ?_⟩
  cases e
  refine ⟨by rw [List.length_map]; omega, fun e he => ?_⟩
  obtain ⟨s, _, rfl⟩ := List.mem_map.mp he
  exact ⟨rfl, fun a b e => by cases e; exact ⟨rfl, rfl⟩⟩
theorem isHead_ok {w : Wn} (h : w.Ok) : isHead (.lst (w.head.map stepD)) = true := by
  unfold isHead
  rw [areSteps_ok h.hs]
  show (true && decide ((w.head.map stepD).length ≤ 24)) = true
  rw [List.length_map, Bool.true_and]
  exact decide_eq_true h.hl
theorem isTail_ok {w : Wn} (h : w.Ok) : isTail (.lst (w.tail.map stepD)) = true := by
  unfold isTail
  rw [areSteps_ok h.ts]
  show (true && decide (((w.tail.map stepD).length : Int) ∈ tails)) = true
  rw [List.length_map, Bool.true_and]
  exact decide_eq_true h.tl
def sp_Wane___init__ (K : PySem.W.Frag) (C : Addr) : Sp := spInit K C encW Wn.Ok Wn.fs
theorem ok_Wane___init__ (W : Wd K mg) : FnOk P w K mg base CX0 7 W.a_Wane___init__ W.d_Wane___init__ ["self", "head", "tail", "cap", "lift", "anew"] (sp_Wane___init__ K W.C_Wane) := by
  refine okD W.D_Wane___init__ sc_Wane___init__ (fun vs H Q E h => spInit_len (n := 6) (fun _ => rfl) h) (fun cdv A outer s H vs Q E hr h => ?_)
  obtain ⟨S, wn, a, dx, r, rfl, ok, sa, ha, hz, ho, k⟩ := h
  have st := St.start ok hz
  obtain ⟨x1, _, rfl, hx1, x2, _, rfl, hx2, _, _, rfl, rfl, _, _, rfl, rfl, _, _, rfl, rfl, rfl⟩ := hz
  obtain ⟨a1, rfl⟩ := st.isL (by walk_at "mem")
  obtain ⟨a2, rfl⟩ := st.isL (x := x2) (by walk_at "mem")
  have e1 := isHead_ok ho
  have e2 := isTail_ok ho
  have e3 : isWithin (.int wn.cap) 1 (10 ^ 9) = true := decide_eq_true ⟨ho.c1, ho.c2⟩
  have e4 : isWithin (.int wn.lift) 0 (10 ^ 9) = true := decide_eq_true ⟨ho.l1, ho.l2⟩
  refine ⟨_, (pss_cons (ps_expr (pe_call (ok_refuse_wrong W) (hr.mono (by decide)) (by rfl) W.m_refuse_wrong W.F_refuse_wrong.kp (b_refuse_wrong W) .nil pass0 (pa_cons (pe_lst (pa_cons (pe_call (ok__is_head W) (hr.mono (by decide)) (by rfl) W.m__is_head W.F__is_head.kp (b__is_head W) .nil pass0 (pa_cons (pv 1) pa_nil)) (pa_cons (pe_call (ok__is_tail W) (hr.mono (by decide)) (by rfl) W.m__is_tail W.F__is_tail.kp (b__is_tail W) .nil pass0 (pa_cons (pv 2) pa_nil)) (pa_cons (pe_call (ok_is_strength W) (hr.mono (by decide)) (by rfl) W.m_is_strength W.F_is_strength.kp (b_is_strength W) .nil pass0 (pa_cons (pv 3) pa_nil)) (pa_cons (pe_call (ok_is_size W) (hr.mono (by decide)) (by rfl) W.m_is_size W.F_is_size.kp (b_is_size W) .nil pass0 (pa_cons (pv 4) pa_nil)) (pa_cons (pe_callB (r := rIsiG K) call_isiG (by rfl) W.n_isinstance (by decide +kernel) (pa_cons (pv 5) (pa_cons (pe_bltn (v := .ty "bool") (by rfl) W.n_bool (by decide +kernel) rfl) pa_nil))) pa_nil)))))) pa_nil)))
      (pss_cons (ps_fld (pv 0) (pe_callTy call_tupleG (by rfl) W.n_tuple (by decide +kernel) (pa_cons (pv 1) pa_nil)) rfl)
      (pss_cons (ps_fld (pv 0) (pe_callTy call_tupleG (by rfl) W.n_tuple (by decide +kernel) (pa_cons (pv 2) pa_nil)) rfl)
      (pss_cons (ps_fld (pv 0) (pe_op (r := rAddG K) opAdd (pe_fld (pv 0) rfl) (pe_fld (pv 0) rfl)) rfl)
      (pss_cons (ps_fld (pv 0) (pv 3) rfl)
      (pss_cons (ps_fld (pv 0) (pv 4) rfl)
      (pss_one (ps_fld (pv 0) (pv 5) rfl)))))))), ?_⟩
  rw [show start N_Wane___init__ [.ref a, .ref a1, .ref a2, .int wn.cap, .int wn.lift, .bl wn.anew] = [some (.ref a), some (.ref a1), some (.ref a2), some (.int wn.cap), some (.int wn.lift), some (.bl wn.anew)] from rfl]
  try dsimp only [cxOf]
  walk_at "g"
  refine c_Bl (.lst (wn.head.map stepD)) st (by walk_at "dzl") (preSteps ho.hl) fun H1 st => ?_
  rw [e1]
  walk_at "g"
  refine c_Bl (.lst (wn.tail.map stepD)) st (by walk_at "dzl") (preSteps (by have := ho.t24; omega)) fun H1 st => ?_
  rw [e2]
  walk_at "g"
  refine c_Bl (.int wn.cap) st (by walk_at "dzl") rfl fun H1 st => ?_
  rw [e3]
  walk_at "g"
  refine c_Bl (.int wn.lift) st (by walk_at "dzl") rfl fun H1 st => ?_
  rw [e4]
  walk_at "g"
  refine d_isi (S := S) (z_bl (i := wn.anew)) rfl (q := ?_)
  rw [show isT "bool" (D.bl wn.anew) = true from rfl]
  walk_at "g"
  refine d_lst st (ds := [.bl true, .bl true, .bl true, .bl true, .bl true]) (by walk_at "dzl") (by simp) fun p H1 st => ?_
  walk_at "g"
  refine c_Unit 5 st (zl_cons (show Dz K S H1 (.lst (List.replicate 5 (D.bl true))) _ from st.dz (by walk_at "mem")) zl_nil) trivial fun H1 st => ?_
  walk_at "g"
  refine d_tupleL st (ds := wn.head.map stepD) (by walk_at "dz") fun p1 H1 st => ?_
  walk_at "g"
  refine d_setf st sa ha W.cl_Wane W.na_Wane__head [] rfl rfl (by simp) fun H1 ha1 k1 st => ?_
  walk_at "g"
  refine d_tupleL st (ds := wn.tail.map stepD) (by walk_at "dz") fun p2 H2 st => ?_
  walk_at "g"
  refine d_setf st sa ha1 W.cl_Wane W.na_Wane__tail ["_head"] rfl (by decide +kernel) (by simp) fun H2 ha2 k2 st => ?_
  walk_at "g"
  refine ⟨a, W.C_Wane, dx, _, .ref p1, rfl, ha2, W.cl_Wane, W.na_Wane__head, rfl, ?_⟩
  walk_at "g"
  refine ⟨a, W.C_Wane, dx, _, .ref p2, rfl, ha2, W.cl_Wane, W.na_Wane__tail, (by first | rfl | with_unfolding_all rfl), ?_⟩
  walk_at "g"
  refine d_addT st (ds := wn.head.map stepD) (es := wn.tail.map stepD) (st.dz (x := .ref p1) (by walk_at "mem")) (st.dz (x := .ref p2) (by walk_at "mem")) (by rw [List.length_map, List.length_map]; have := ho.hl; have := ho.t24; omega) fun p3 H3 st => ?_
  rw [← List.map_append] at st
  walk_at "g"
  refine d_setf st sa ha2 W.cl_Wane W.na_Wane__steps ["_head", "_tail"] rfl (by decide +kernel) (by simp) fun H3 ha3 k3 st => ?_
  walk_at "g"
  refine d_setf st sa ha3 W.cl_Wane W.na_Wane__cap ["_head", "_tail", "_steps"] rfl (by decide +kernel) (by simp) fun H4 ha4 k4 st => ?_
  walk_at "g"
  refine d_setf st sa ha4 W.cl_Wane W.na_Wane__lift ["_head", "_tail", "_steps", "_cap"] rfl (by decide +kernel) (by simp) fun H5 ha5 k5 st => ?_
  walk_at "g"
  refine d_setf st sa ha5 W.cl_Wane W.na_Wane__anew ["_head", "_tail", "_steps", "_cap", "_lift"] rfl (by decide +kernel) (by simp) fun H6 ha6 k6 st => ?_
  refine k H6 _ (fun b o n e => k6 b o n (k5 b o n (k4 b o n (k3 b o n (k2 b o n (k1 b o n e)))))) ha6 ?_
  exact zf_cons (st.dz (by walk_at "mem")) (zf_cons (st.dz (by walk_at "mem")) (zf_cons (st.dz (by walk_at "mem")) (zf_cons z_int (zf_cons z_int (zf_cons z_bl zf_nil)))))

-- needs: Wane___init__
def sp_Wane_phase_behind (K : PySem.W.Frag) (C : Addr) : Sp := spInt K (fun a : Wn × Int => [a.1.d C, .int a.2]) (fun a => a.1.Ok ∧ 0 ≤ a.2) (fun a => phase a.1 a.2)
theorem ok_Wane_phase_behind (W : Wd K mg) : FnOk P w K mg base CX0 1 W.a_Wane_phase_behind W.d_Wane_phase_behind ["self", "since"] (sp_Wane_phase_behind K W.C_Wane) := by
  refine W.F_Wane_phase_behind.ok sc_Wane_phase_behind (fun vs H Q E h => spInt_len (n := 2) (fun _ => rfl) h) (fun cdv A outer s H vs Q E hr h => ?_)
  obtain ⟨S, ⟨wn, n⟩, ok, hz, ⟨ho, hn⟩, k⟩ := h
  have ho : wn.Ok := ho
  have hn : 0 ≤ n := hn
  have st := St.start ok hz
  obtain ⟨x, _, rfl, hx, _, _, rfl, rfl, rfl⟩ := hz
  obtain ⟨a, rfl⟩ := st.isI (by walk_at "mem")
  have fin : ∀ r H', Same H H' → r = phase wn n → Q (.int r) H' := fun r H' e er => by rw [er]; exact k H' e
  refine ⟨_, (pss_cons (ps_set (i := 2) sc_Wane_phase_behind.nd rfl (Or.inl rfl) (pe_callB (r := rLenG K) call_lenG (by rfl) W.n_len PySem.boot_len (pa_cons (pe_fld (pv 0) rfl) pa_nil)))
      (pss_cons (ps_if (pt_cmpR opLt (pv 1) (pv 2) (nomark _)) (pss_one (ps_ret (pv 1))) pss_nil)
      (pss_one (ps_ret (pe_op (r := rAddG K) opAdd (pv 2) (pe_op opMod (pe_op opSub (pv 1) (pv 2)) (pe_callB (r := rLenG K) call_lenG (by rfl) W.n_len PySem.boot_len (pa_cons (pe_fld (pv 0) rfl) pa_nil)))))))), ?_⟩
  rw [show start N_Wane_phase_behind [.ref a, .int n] = [some (.ref a), some (.int n), none] from rfl]
  try dsimp only [cxOf]
  walk_at "g"
  refine d_fld (st.dz (by walk_at "mem")) W.cl_Wane W.na_Wane__head (W_head wn) fun v hv => ?_
  obtain ⟨b, _, rfl, _, _⟩ := id hv
  walk_at "g"
  refine d_lenT hv ?_
  walk_at "g"
  rw [List.length_map]
  refine g_dec (fun h1 => ?_) (fun h1 => ?_)
  · walk_at "g"
    exact fin _ _ st.end_ (by unfold phase; rw [if_pos h1])
  · walk_at "g"
    refine d_fld (st.dz (by walk_at "mem")) W.cl_Wane W.na_Wane__tail (W_tail wn) fun v hv => ?_
    obtain ⟨b, _, rfl, _, _⟩ := id hv
    walk_at "g"
    refine d_lenT hv ?_
    rw [List.length_map]
    refine v_mod (by have := ho.t0; omega) ?_
    walk_at "g"
    exact fin _ _ st.end_ (by unfold phase; rw [if_neg h1])

def sp_Wane_step_behind (K : PySem.W.Frag) (C : Addr) : Sp := spV K (fun a : Wn × Int => [a.1.d C, .int a.2]) (fun a => a.1.Ok ∧ 0 ≤ a.2) (fun a => stepD (stepAt a.1 a.2))
theorem ok_Wane_step_behind (W : Wd K mg) : FnOk P w K mg base CX0 2 W.a_Wane_step_behind W.d_Wane_step_behind ["self", "since"] (sp_Wane_step_behind K W.C_Wane) := by
  refine W.F_Wane_step_behind.ok sc_Wane_step_behind (fun vs H Q E h => spV_len (n := 2) (fun _ => rfl) h) (fun cdv A outer s H vs Q E hr h => ?_)
  obtain ⟨S, ⟨wn, n⟩, ok, hz, ⟨ho, hn⟩, k⟩ := h
  have ho : wn.Ok := ho
  have hn : 0 ≤ n := hn
  have st := St.start ok hz
  obtain ⟨x, _, rfl, hx, _, _, rfl, rfl, rfl⟩ := hz
  obtain ⟨a, rfl⟩ := st.isI (by walk_at "mem")
  refine ⟨_, (pss_one (ps_ret (pe_ix (r := rIxG K) ixG (pe_fld (pv 0) rfl) (pe_meth (pv 0) W.cl_Wane W.M_Wane_phase_behind (ok_Wane_phase_behind W) (hr.mono (by decide)) (b_Wane_phase_behind W) .nil pass0 (pa_cons (pv 1) pa_nil)) (fun _ _ => rfl)))), ?_⟩
  rw [show start N_Wane_step_behind [.ref a, .int n] = [some (.ref a), some (.int n)] from rfl]
  try dsimp only [cxOf]
  walk_at "g"
  refine d_fld (st.dz (by walk_at "mem")) W.cl_Wane W.na_Wane__steps (W_steps wn) fun v hv => ?_
  obtain ⟨b, _, rfl, _, _⟩ := id hv
  have st := st.add hv
  walk_at "g"
  refine d_meth (st.dz (x := .ref a) (by walk_at "mem")) (W_no (by decide +kernel) wn) ?_
  walk_at "g"
  refine c_Int (wn, n) st (zl_cons (st.dz (by walk_at "mem")) (zl_cons z_int zl_nil)) ⟨ho, hn⟩ fun H2 st => ?_
  obtain ⟨p0, p1⟩ := phase_lt ho hn
  have g := stepAt_get ho hn
  refine d_ixTI (d := stepD (stepAt wn n)) (st.dz (x := .ref b) (by walk_at "mem")) p0 (by rw [List.getElem?_map, g]; rfl) fun v hv => ?_
  exact k _ _ st.end_ hv

def sp_Wane_step (K : PySem.W.Frag) (C : Addr) : Sp := spV K (fun a : Wn × Int => [a.1.d C, .int a.2]) (fun a => a.1.Ok ∧ 1 ≤ a.2 ∧ a.2 ≤ 10 ^ 30) (fun a => stepD (stepAt a.1 (a.2 - 1)))
theorem ok_Wane_step (W : Wd K mg) : FnOk P w K mg base CX0 4 W.a_Wane_step W.d_Wane_step ["self", "number"] (sp_Wane_step K W.C_Wane) := by
  refine W.F_Wane_step.ok sc_Wane_step (fun vs H Q E h => spV_len (n := 2) (fun _ => rfl) h) (fun cdv A outer s H vs Q E hr h => ?_)
  obtain ⟨S, ⟨wn, n⟩, ok, hz, ⟨ho, hn⟩, k⟩ := h
  have ho : wn.Ok := ho
  have hn : 1 ≤ n ∧ n ≤ 10 ^ 30 := hn
  have st := St.start ok hz
  obtain ⟨x, _, rfl, hx, _, _, rfl, rfl, rfl⟩ := hz
  obtain ⟨a, rfl⟩ := st.isI (by walk_at "mem")
  have e1 : isWithin (.int n) 1 1000000000000000000000000000000 = true := decide_eq_true hn
  refine ⟨_, (pss_cons (ps_expr (pe_call (ok_refuse_wrong W) (hr.mono (by decide)) (by rfl) W.m_refuse_wrong W.F_refuse_wrong.kp (b_refuse_wrong W) .nil pass0 (pa_cons (pe_lst (pa_cons (pe_call (ok_is_within W) (hr.mono (by decide)) (by rfl) W.m_is_within W.F_is_within.kp (b_is_within W) .nil pass0 (pa_cons (pv 1) (pa_cons pe_int (pa_cons (pe_glob (v := V.int 1000000000000000000000000000000) rfl W.c_MOST_MOMENT ⟨_, rfl⟩) pa_nil)))) pa_nil)) pa_nil)))
      (pss_one (ps_ret (pe_meth (pv 0) W.cl_Wane W.M_Wane_step_behind (ok_Wane_step_behind W) (hr.mono (by decide)) (b_Wane_step_behind W) .nil pass0 (pa_cons (pe_op opSub (pv 1) pe_int) pa_nil))))), ?_⟩
  rw [show start N_Wane_step [.ref a, .int n] = [some (.ref a), some (.int n)] from rfl]
  try dsimp only [cxOf]
  walk_at "g"
  refine c_Bl (D.int n, (1 : Int), (1000000000000000000000000000000 : Int)) st (by walk_at "dzl") rfl fun H1 st => ?_
  rw [e1]
  walk_at "g"
  refine d_lst st (ds := [.bl true]) (by walk_at "dzl") (by simp) fun p H1 st => ?_
  walk_at "g"
  refine c_Unit 1 st (zl_cons (show Dz K S H1 (.lst (List.replicate 1 (D.bl true))) _ from st.dz (by walk_at "mem")) zl_nil) trivial fun H1 st => ?_
  walk_at "g"
  refine d_meth (st.dz (by walk_at "mem")) (W_no (by decide +kernel) wn) ?_
  walk_at "g"
  refine c_V (wn, n - 1) st (by walk_at "dzl") ⟨ho, by show 0 ≤ n - 1; omega⟩ fun v H2 st => ?_
  exact k _ _ st.end_ (st.dz (List.Mem.head _))

def sp_is_moment (K : PySem.W.Frag) : Sp := spBl K (fun d : D => [d]) (fun d => d.noIns = true) (fun d => isWithin d 0 (10 ^ 30))
theorem ok_is_moment (W : Wd K mg) : FnOk P w K mg base CX0 3 W.a_is_moment W.d_is_moment ["thing"] (sp_is_moment K) := by
  refine W.F_is_moment.ok sc_is_moment (fun vs H Q E h => spBl_len (n := 1) (fun _ => rfl) h) (fun cdv A outer s H vs Q E hr h => ?_)
  obtain ⟨S, d, ok, hz, hp, k⟩ := h
  have st := St.start ok hz
  obtain ⟨x, _, rfl, hx, rfl⟩ := hz
  refine ⟨_, (pss_one (ps_ret (pe_call (ok_is_within W) (hr.mono (by decide)) (by rfl) W.m_is_within W.F_is_within.kp (b_is_within W) .nil pass0 (pa_cons (pv 0) (pa_cons pe_int (pa_cons (pe_glob (v := V.int 1000000000000000000000000000000) rfl W.c_MOST_MOMENT ⟨_, rfl⟩) pa_nil)))))), ?_⟩
  rw [show start N_is_moment [x] = [some (x)] from rfl]
  try dsimp only [cxOf]
  walk_at "g"
  refine c_Bl (d, 0, 10 ^ 30) st (zl_cons hx (zl_cons z_int (zl_cons (z_int' (by dsimp only; decide)) zl_nil))) hp fun H1 st => ?_
  exact k _ st.end_

def sp_Wane_phase (K : PySem.W.Frag) (C : Addr) : Sp := spInt K (fun a : Wn × Int => [a.1.d C, .int a.2]) (fun a => a.1.Ok ∧ 0 ≤ a.2 ∧ a.2 ≤ 10 ^ 30) (fun a => phase a.1 a.2)
theorem ok_Wane_phase (W : Wd K mg) : FnOk P w K mg base CX0 4 W.a_Wane_phase W.d_Wane_phase ["self", "since"] (sp_Wane_phase K W.C_Wane) := by
  refine W.F_Wane_phase.ok sc_Wane_phase (fun vs H Q E h => spInt_len (n := 2) (fun _ => rfl) h) (fun cdv A outer s H vs Q E hr h => ?_)
  obtain ⟨S, ⟨wn, n⟩, ok, hz, ⟨ho, hn⟩, k⟩ := h
  have ho : wn.Ok := ho
  have hn : 0 ≤ n ∧ n ≤ 10 ^ 30 := hn
  have st := St.start ok hz
  obtain ⟨x, _, rfl, hx, _, _, rfl, rfl, rfl⟩ := hz
  obtain ⟨a, rfl⟩ := st.isI (by walk_at "mem")
  have e1 : isWithin (.int n) 0 (10 ^ 30) = true := decide_eq_true hn
  refine ⟨_, (pss_cons (ps_expr (pe_call (ok_refuse_wrong W) (hr.mono (by decide)) (by rfl) W.m_refuse_wrong W.F_refuse_wrong.kp (b_refuse_wrong W) .nil pass0 (pa_cons (pe_lst (pa_cons (pe_call (ok_is_moment W) (hr.mono (by decide)) (by rfl) W.m_is_moment W.F_is_moment.kp (b_is_moment W) .nil pass0 (pa_cons (pv 1) pa_nil)) pa_nil)) pa_nil)))
      (pss_one (ps_ret (pe_meth (pv 0) W.cl_Wane W.M_Wane_phase_behind (ok_Wane_phase_behind W) (hr.mono (by decide)) (b_Wane_phase_behind W) .nil pass0 (pa_cons (pv 1) pa_nil))))), ?_⟩
  rw [show start N_Wane_phase [.ref a, .int n] = [some (.ref a), some (.int n)] from rfl]
  try dsimp only [cxOf]
  walk_at "g"
  refine c_Bl (.int n) st (by walk_at "dzl") rfl fun H1 st => ?_
  rw [e1]
  walk_at "g"
  refine d_lst st (ds := [.bl true]) (by walk_at "dzl") (by simp) fun p H1 st => ?_
  walk_at "g"
  refine c_Unit 1 st (zl_cons (show Dz K S H1 (.lst (List.replicate 1 (D.bl true))) _ from st.dz (by walk_at "mem")) zl_nil) trivial fun H1 st => ?_
  walk_at "g"
  refine d_meth (st.dz (by walk_at "mem")) (W_no (by decide +kernel) wn) ?_
  walk_at "g"
  refine c_Int (wn, n) st (by walk_at "dzl") ⟨ho, hn.1⟩ fun H2 st => ?_
  exact k _ st.end_

def sp__law_bag (K : PySem.W.Frag) : Sp := fun vs H Q _ => ∃ (a : Addr) (ns : List Int), vs = [.ref a] ∧ SqL K H a (ns.map V.int) ∧ ns.length ≤ 63 ∧ ∀ b H', Same H H' → H b = none → Bag K (fun c => c = b) H' b → Q (.ref b) H'
theorem sp__law_bag_len {vs : List V} {H : Hp} {Q : VK} {E : XK} {n : Nat} (h1 : ∀ _ : Unit, 1 = n) (h : sp__law_bag K vs H Q E) : vs.length = n := by
  obtain ⟨a, ns, rfl, _⟩ := h
  exact h1 ()
theorem ok__law_bag (W : Wd K mg) : FnOk P w K mg base CX0 1 W.a__law_bag W.d__law_bag ["_law_script"] (sp__law_bag K) := by
  refine W.F__law_bag.ok sc__law_bag (fun vs H Q E h => sp__law_bag_len (n := 1) (fun _ => rfl) h) (fun cdv A outer s H vs Q E hr h => ?_)
  obtain ⟨a, ns, rfl, hs, hl63, k⟩ := h
  have st : Vf.St K (fun _ => False) (fun _ => False) H H [] [] [] := St.start (ds := []) (fun _ z => z.elim) zl_nil
  refine ⟨_, (pss_one (ps_ret (pe_lst (pa_cons pe_int (pa_cons pe_int (pa_cons pe_int (pa_cons (pe_lc (own := [("_law_cell", 1)]) rfl sc__law_bag.nd (piG (pe_slice (r := rSlG K) slG (pv 0) po_none (po_some pe_int))) (blkOk_by (N := N__law_bag) (sc := defScope s__law_bag) (by decide +kernel)) (fun _ _ _ _ _ => (pg_name (i := 1) sc__law_bag.nd rfl (.inl rfl))) (fun _ _ _ _ _ => pts_nil) (fun _ _ _ _ _ => (pe_callB call_abs (by rfl) W.n_abs (by decide +kernel) (pa_cons (pv 1) pa_nil)))) pa_nil))))))), ?_⟩
  rw [show start N__law_bag [.ref a] = [some (.ref a), none] from rfl]
  try dsimp only [cxOf]
  walk_at "g"
  refine i_lst ?_
  walk_at "g"
  refine .inl ⟨a, _, rfl, hs, fun p np => ?_⟩
  obtain ⟨ms, em, hms⟩ : ∃ ms : List Int, cutV (ns.map V.int) none (some 63) = ms.map V.int ∧ ms.length ≤ 63 :=
    ⟨_, by unfold cutV; rw [← List.map_drop, ← List.map_take], by rw [List.length_take, List.length_drop]; omega⟩
  rw [em]
  have st := st.lst np (DzL.of_ints ms)
  refine lc_L st (by walk_at "mem") (fun i es => es = (ms.take i).map fun n => D.int (if n < 0 then -n else n)) (by simp) ?_ ?_
  · rintro q i d x H1 es nq hd hi hl pe st
    rw [List.getElem?_map] at hd
    rw [List.length_map] at hi
    have em : ms[i]? = some ms[i] := List.getElem?_eq_getElem hi
    rw [em] at hd
    obtain rfl := Option.some.inj hd
    obtain rfl := st.eqI (List.Mem.head _)
    walk_at "g"
    refine ⟨rfl, ?_⟩
    walk_at "g"
    refine ⟨_, rfl, ?_⟩
    refine lc_end st (fun q h => List.mem_cons_of_mem _ h) (by omega) hl z_int ?_
    rw [pe, take_snoc em, List.map_append]
    rfl
  · rintro q H' es pe hl st
    rw [List.length_map, List.take_length] at pe
    subst pe
    walk_at "g"
    refine ⟨by show 4 ≤ sizeLine; decide, fun b nb => ?_⟩
    obtain ⟨xs, h1, h2⟩ := z_lst (st.dz (x := .ref q) (List.Mem.head _))
    have e2 : (ms.map fun n => D.int (if n < 0 then -n else n)) = (ms.map fun n => if n < 0 then -n else n).map D.int := by rw [List.map_map]; rfl
    rw [e2] at h2
    have ex := DzL.ints _ h2
    subst ex
    have qb : q ≠ b := ne_of_none h1.2 nb
    refine k b _ (fun c o e => by rw [upd_ne (ne_of_none (st.end_ c o e) nb)]; exact st.end_ c o e) ?_ (Bag.mk' upd_same qb (by rw [upd_ne qb]; exact h1.2) (fun n hn => ?_) (by decide) (by decide) (by decide) (by decide))
    · cases z : H b with
      | none => rfl
      | some o => rw [st.end_ b o z] at nb; cases nb
    · obtain ⟨m, _, rfl⟩ := List.mem_map.mp hn
      show 0 ≤ (if m < 0 then -m else m)
      split <;> omega

/-- a draw -/
def drawn (m : Int) (d : D) : Prop := ∃ v : Int, d = .int v ∧ 0 ≤ v ∧ v < m
def sp__law_take (K : PySem.W.Frag) : Sp := spDr K (fun m : Int => [.int m]) (fun m => 0 < m ∧ m < 2 ^ 200) drawn
theorem ok__law_take (W : Wd K mg) : FnOk P w K mg base CX0 1 W.a__law_take W.d__law_take ["_law_bag_here", "_law_many"] (sp__law_take K) := by
  refine W.F__law_take.ok sc__law_take (fun vs H Q E h => spDr_len (n := 1) (fun _ => rfl) h) (fun cdv A outer s H vs Q E hr h => ?_)
  obtain ⟨S, a, _, m, rfl, ok, sa, bg, hz, ⟨hm, hm2⟩, k⟩ := h
  obtain ⟨_, _, rfl, rfl, rfl⟩ := hz
  obtain ⟨r, hh, i, c, ns, hb, nc, hc, hn, hr0, hh0, hh1, hi0⟩ := bg.get
  have ca : c ≠ a := fun e => nc (e ▸ sa)
  have wd : ∀ z : Int, CDivW z m := fun z => wide_div (b := 200) hm (by omega) (by decide) (by decide)
  -- what is left at an end
  have fin : ∀ (r' h' i' v : Int) (H' : Hp), H' a = some (.lst [.int r', .int h', .int i', .ref c]) → (∀ b, b ≠ a → H' b = H b) → 0 ≤ r' → 0 ≤ h' → h' < 2147483647 → 0 ≤ i' → 0 ≤ v → v < m → Q (.int v) H' := by
    intro r' h' i' v H' e1 e2 z1 z2 z3 z4 z5 z6
    exact k (.int v) (.int v) H' (fun b o n e => by rw [e2 b n]; exact e) (Bag.mk' e1 nc (by rw [e2 c ca]; exact hc) hn z1 z2 z3 z4) rfl ⟨v, rfl, z5, z6⟩
  refine ⟨_, (pss_mid (ps_if (pt_cmpR (r := rEqG K) (opEq hr.units) (pe_ix (r := rIxG K) ixG (pv 0) pe_int (fun _ _ => rfl)) pe_int (nomark _)) (pss_cons (ps_set (i := 4) sc__law_take.nd rfl (Or.inl rfl) pe_int)
      (pss_mid (ps_if (pt_cmpR opLt (pe_ix (r := rIxG K) ixG (pv 0) pe_int (fun _ _ => rfl)) (pe_callB (r := rLenG K) call_lenG (by rfl) W.n_len PySem.boot_len (pa_cons (pe_ix (r := rIxG K) ixG (pv 0) pe_int (fun _ _ => rfl)) pa_nil)) (nomark _)) (pss_one (ps_set (i := 4) sc__law_take.nd rfl (Or.inl rfl) (pe_ix (r := rIxG K) ixG (pe_ix (r := rIxG K) ixG (pv 0) pe_int (fun _ _ => rfl)) (pe_ix (r := rIxG K) ixG (pv 0) pe_int (fun _ _ => rfl)) (fun _ _ => rfl)))) pss_nil)
      (pss_cons (ps_augS (pv 0) pe_int pget_ix pe_int ip_add set_list)
      (pss_mid (ps_if (pt_cmpR opGe (pv 4) pe_int (nomark _)) (pss_one (ps_asg (pv 4) (pg_sub (pv 0) pe_int set_list))) pss_nil)
      (pss_one (ps_asg (pe_op opMod (pe_op (r := rAddG K) opAdd (pe_op (r := rAddG K) opAdd (pe_op opMul (pe_ix (r := rIxG K) ixG (pv 0) pe_int (fun _ _ => rfl)) pe_int) (pe_op opMod (pv 4) pe_int)) (pe_op opMul pe_int (pe_ix (r := rIxG K) ixG (pv 0) pe_int (fun _ _ => rfl)))) pe_int) (pg_sub (pv 0) pe_int set_list))))))) pss_nil)
      (pss_cons (ps_if (pt_cmpR opGt (pe_ix (r := rIxG K) ixG (pv 0) pe_int (fun _ _ => rfl)) pe_int (nomark _)) (pss_cons (ps_set (i := 5) sc__law_take.nd rfl (Or.inl rfl) (pe_op opMod (pe_ix (r := rIxG K) ixG (pv 0) pe_int (fun _ _ => rfl)) (pv 1)))
      (pss_cons (ps_asg (pe_op opDiv (pe_ix (r := rIxG K) ixG (pv 0) pe_int (fun _ _ => rfl)) (pv 1)) (pg_sub (pv 0) pe_int set_list))
      (pss_one (ps_ret (pv 5))))) pss_nil)
      (pss_cons (ps_set (i := 2) sc__law_take.nd rfl (Or.inl rfl) (pe_op opMod (pe_op opMul (pe_op (r := rAddG K) opAdd (pe_ix (r := rIxG K) ixG (pv 0) pe_int (fun _ _ => rfl)) pe_int) pe_int) pe_int))
      (pss_cons (ps_set (i := 3) sc__law_take.nd rfl (Or.inl rfl) (pe_op opMod (pe_op opMul (pe_op opMod (pe_op opMul (pv 2) (pv 2)) pe_int) pe_int) pe_int))
      (pss_cons (ps_if (pt_cmpR opGt (pv 1) pe_int (nomark _)) (pss_one (ps_ret (pe_op opMod (pe_op (r := rAddG K) opAdd (pe_op opMul (pv 3) pe_int) (pv 2)) (pv 1)))) pss_nil)
      (pss_one (ps_ret (pe_op opMod (pe_op opDiv (pv 3) pe_int) (pv 1))))))))), ?_⟩
  rw [show start N__law_take [.ref a, .int m] = [some (.ref a), some (.int m), none, none, none, none] from rfl]
  try dsimp only [cxOf]
  walk_at "g"
  refine g_mid (fun σ' H' => ∃ (r' h' i' : Int) (x4 : Option V), σ' = [some (.ref a), some (.int m), none, none, x4, none] ∧ H' a = some (.lst [.int r', .int h', .int i', .ref c]) ∧ (∀ b, b ≠ a → H' b = H b) ∧ 0 ≤ r' ∧ 0 ≤ h' ∧ h' < 2147483647 ∧ 0 ≤ i') ?_ ?_
  · walk_at "g"
    refine b_ix 0 hb rfl ?_
    walk_at "g"
    refine g_dec (fun e0 => ?_) (fun e0 => ⟨r, hh, i, none, rfl, hb, fun _ _ => rfl, hr0, hh0, hh1, hi0⟩)
    walk_at "g"
    refine g_mid (fun σ' H' => ∃ cell : Int, 0 ≤ cell ∧ σ' = [some (.ref a), some (.int m), none, none, some (.int cell), none] ∧ H' = H) ?_ ?_
    · walk_at "g"
      refine b_ix 2 hb rfl ?_
      walk_at "g"
      refine b_ix 3 hb rfl ?_
      walk_at "g"
      refine b_len hc ?_
      walk_at "g"
      refine g_dec (fun e1 => ?_) (fun e1 => ⟨0, by decide, rfl, rfl⟩)
      walk_at "g"
      refine b_ix 3 hb rfl ?_
      walk_at "g"
      refine b_ix 2 hb rfl ?_
      rw [List.length_map] at e1
      have hl : i.toNat < ns.length := by omega
      rw [show i = ((i.toNat : Nat) : Int) by omega]
      refine b_ix i.toNat hc (v := .int ns[i.toNat]) (by simp [hl]) ?_
      walk_at "g"
      exact ⟨ns[i.toNat], hn _ (List.getElem_mem hl), rfl, rfl⟩
    · rintro _ H' ⟨cell, hcell, rfl, eH⟩
      rw [eH]
      clear eH H'
      walk_at "g"
      refine b_get 2 hb rfl ?_
      walk_at "g"
      refine b_set 2 hb (by simp) ?_
      generalize hH2 : upd H a (.lst ([V.int r, .int hh, .int i, .ref c].set 2 (.int (i + 1)))) = H2
      have hb2 : H2 a = some (.lst [.int r, .int hh, .int (i + 1), .ref c]) := by rw [← hH2]; exact upd_same
      have ho2 : ∀ b, b ≠ a → H2 b = H b := fun b n => by rw [← hH2]; exact upd_ne n
      walk_at "g"
      refine g_mid (fun σ' H' => ∃ r' : Int, 0 ≤ r' ∧ σ' = [some (.ref a), some (.int m), none, none, some (.int cell), none] ∧ H' a = some (.lst [.int r', .int hh, .int (i + 1), .ref c]) ∧ ∀ b, b ≠ a → H' b = H b) ?_ ?_
      · walk_at "g"
        refine g_dec (fun e1 => ?_) (fun e1 => ⟨r, hr0, rfl, hb2, ho2⟩)
        walk_at "g"
        refine b_set 0 hb2 (by simp) ?_
        exact ⟨cell, hcell, rfl, upd_same, fun b n => by rw [upd_ne n]; exact ho2 b n⟩
      · rintro _ H3 ⟨r', hr', rfl, hb3, ho3⟩
        walk_at "g"
        refine b_ix 1 hb3 rfl ?_
        walk_at "g"
        refine v_mulR (by decide) ?_
        walk_at "g"
        refine v_mod (by decide) ?_
        walk_at "g"
        refine b_ix 2 hb3 rfl ?_
        walk_at "g"
        refine v_mulL (by decide) ?_
        walk_at "g"
        refine v_mod (by decide) ?_
        walk_at "g"
        refine b_set 1 hb3 (by simp) ?_
        exact ⟨r', _, i + 1, some (.int cell), rfl, upd_same, fun b n => by rw [upd_ne n]; exact ho3 b n, hr', Int.emod_nonneg _ (by decide), Int.emod_lt_of_pos _ (by decide), by omega⟩
  · rintro _ H1 ⟨r', h', i', x4, rfl, hb1, ho1, z1, z2, z3, z4⟩
    walk_at "g"
    refine b_ix 0 hb1 rfl ?_
    walk_at "g"
    refine g_dec (fun e1 => ?_) (fun e1 => ?_)
    · walk_at "g"
      refine b_ix 0 hb1 rfl ?_
      walk_at "g"
      refine v_mod hm ?_
      walk_at "g"
      refine b_ix 0 hb1 rfl ?_
      walk_at "g"
      refine v_div (wd _) ?_
      walk_at "g"
      refine b_set 0 hb1 (by simp) ?_
      walk_at "g"
      exact fin _ h' i' _ _ upd_same (fun b n => by rw [upd_ne n]; exact ho1 b n) (Int.ediv_nonneg z1 (by omega)) z2 z3 z4 (Int.emod_nonneg _ (by omega)) (Int.emod_lt_of_pos _ hm)
    · walk_at "g"
      refine b_ix 1 hb1 rfl ?_
      walk_at "g"
      refine v_mulR (by decide) ?_
      walk_at "g"
      refine v_mod (by decide) ?_
      walk_at "g"
      generalize hf : (h' + 1) * 39373 % 1000000007 = f
      have f0 : 0 ≤ f := by rw [← hf]; exact Int.emod_nonneg _ (by decide)
      have f1 : f < 1000000007 := by rw [← hf]; exact Int.emod_lt_of_pos _ (by decide)
      refine v_mulL (by omega) ?_
      walk_at "g"
      refine v_mod (by decide) ?_
      walk_at "g"
      refine v_mulR (by decide) ?_
      walk_at "g"
      refine v_mod (by decide) ?_
      walk_at "g"
      refine g_dec (fun e2 => ?_) (fun e2 => ?_)
      · walk_at "g"
        refine v_mulR (by decide) ?_
        walk_at "g"
        refine v_mod hm ?_
        exact fin r' h' i' _ _ hb1 ho1 z1 z2 z3 z4 (Int.emod_nonneg _ (by omega)) (Int.emod_lt_of_pos _ hm)
      · walk_at "g"
        refine v_div (wide_div (b := 3) (by decide) (by decide) (by decide) (by decide)) ?_
        walk_at "g"
        refine v_mod hm ?_
        exact fin r' h' i' _ _ hb1 ho1 z1 z2 z3 z4 (Int.emod_nonneg _ (by omega)) (Int.emod_lt_of_pos _ hm)

-- needs: Wane___init__
def sp__law_steps (K : PySem.W.Frag) : Sp := spDr K (fun a : Int × Int => [.int a.1, .int a.2]) (fun a => (0 ≤ a.1 ∧ a.1 ≤ 24) ∧ 1 ≤ a.2 ∧ a.2 ≤ 10 ^ 9) (fun a r => ∃ l : List (Int × Int), r = .lst (l.map stepD) ∧ (l.length : Int) = a.1 ∧ ∀ s ∈ l, stepOk s)
theorem ok__law_steps (W : Wd K mg) : FnOk P w K mg base CX0 2 W.a__law_steps W.d__law_steps ["_law_bag_here", "_law_many", "_law_ceiling"] (sp__law_steps K) := by
  refine W.F__law_steps.ok sc__law_steps (fun vs H Q E h => spDr_len (n := 2) (fun _ => rfl) h) (fun cdv A outer s H vs Q E hr h => ?_)
  obtain ⟨S, b, _, ⟨m, c⟩, rfl, ok, sb, bg, hz, ⟨hm, hc⟩, k⟩ := h
  have hm : 0 ≤ m ∧ m ≤ 24 := hm
  have hc : 1 ≤ c ∧ c ≤ 10 ^ 9 := hc
  have st := St.startB ok sb bg hz
  obtain ⟨_, _, rfl, rfl, _, _, rfl, rfl, rfl⟩ := hz
  refine ⟨_, (pss_cons (ps_set (i := 3) sc__law_steps.nd rfl (Or.inl rfl) (pe_lst pa_nil))
      (pss_cons (ps_for PassesOwn.never rfl (pi_range1 (by rfl) W.n_range (pa_cons (pv 1) pa_nil)) (pg_name (i := 4) sc__law_steps.nd rfl (.inl rfl))
        (pss_cons (ps_set (i := 5) sc__law_steps.nd rfl (Or.inl rfl) (pe_ix (r := rIxG K) ixG (pe_lst (pa_cons pe_int (pa_cons pe_int (pa_cons pe_int (pa_cons (pe_op (r := rAddG K) opAdd pe_int (pe_call (ok__law_take W) (hr.mono (by decide)) (by rfl) W.m__law_take W.F__law_take.kp (b__law_take W) .nil pass0 (pa_cons (pv 0) (pa_cons pe_int pa_nil)))) pa_nil))))) (pe_call (ok__law_take W) (hr.mono (by decide)) (by rfl) W.m__law_take W.F__law_take.kp (b__law_take W) .nil pass0 (pa_cons (pv 0) (pa_cons pe_int pa_nil))) (fun _ _ => rfl)))
      (pss_cons (ps_set (i := 6) sc__law_steps.nd rfl (Or.inl rfl) (pe_lst (pa_cons pe_int (pa_cons pe_int (pa_cons pe_int (pa_cons (pe_call (ok__law_take W) (hr.mono (by decide)) (by rfl) W.m__law_take W.F__law_take.kp (b__law_take W) .nil pass0 (pa_cons (pv 0) (pa_cons (pe_op (r := rAddG K) opAdd pe_int (pe_op opDiv (pv 2) pe_int)) pa_nil))) (pa_cons (pe_call (ok__law_take W) (hr.mono (by decide)) (by rfl) W.m__law_take W.F__law_take.kp (b__law_take W) .nil pass0 (pa_cons (pv 0) (pa_cons (pe_op (r := rAddG K) opAdd (pe_op opPow pe_int pe_int) pe_int) pa_nil))) pa_nil)))))))
      (pss_one (ps_expr (pe_bm PySem.F.plainAttrs_list PySem.F.slot_list_append PySem.F.type_list_append mt_append (pv 3) (pa_cons (pe_tup (pa_cons (pv 5) (pa_cons (pe_ix (r := rIxG K) ixG (pv 6) (pe_op opDiv (pe_call (ok__law_take W) (hr.mono (by decide)) (by rfl) W.m__law_take W.F__law_take.kp (b__law_take W) .nil pass0 (pa_cons (pv 0) (pa_cons pe_int pa_nil))) pe_int) (fun _ _ => rfl)) pa_nil))) pa_nil)))))))
      (pss_one (ps_ret (pv 3))))), ?_⟩
  rw [show start N__law_steps [.ref b, .int m, .int c] = [some (.ref b), some (.int m), some (.int c), none, none, none, none] from rfl]
  try dsimp only [cxOf]
  walk_at "g"
  refine d_own st (ds := []) zl_nil (by simp) fun p H1 np st => ?_
  walk_at "g"
  refine for_R hm.1 (by omega) (fun i σ H' => ∃ (l : List (Int × Int)) (x4 x5 x6 : Option V), σ = [some (.ref b), some (.int m), some (.int c), some (.ref p), x4, x5, x6] ∧ Vf.St K (fun b => S b ∨ b = p) (fun c => c = b) H H' [] [(p, l.map stepD)] [b] ∧ l.length = i ∧ ∀ s ∈ l, stepOk s)
    ⟨[], _, _, _, rfl, st.sub (fun p h => by simp at h), rfl, fun s h => by simp at h⟩ ?_ ?_
  · rintro i σ H2 hi ⟨l, x4, x5, x6, rfl, st, hl, hs⟩
    walk_at "g"
    refine c_Dr 9 st (by walk_at "dzl") ⟨by decide, by decide⟩ fun v d H2 ⟨n1, e1, a1, b1⟩ st => ?_
    subst e1
    obtain rfl := st.eqI (List.Mem.head _)
    walk_at "g"
    refine d_lst st (ds := [.int 1, .int 1, .int 1, .int (1 + n1)]) (by walk_at "dzl") (by simp) fun q H2 st => ?_
    walk_at "g"
    refine c_Dr 4 st (by walk_at "dzl") ⟨by decide, by decide⟩ fun v d H2 ⟨n2, e2, a2, b2⟩ st => ?_
    subst e2
    obtain rfl := st.eqI (List.Mem.head _)
    refine d_ixLP (P := fun d => ∃ y : Int, d = .int y ∧ 1 ≤ y ∧ y ≤ 9) (st.dz (x := .ref q) (by walk_at "mem")) a2 (by simp; omega) (by simp; omega) fun v d ⟨by_, e3, a3, b3⟩ hv => ?_
    subst e3
    cases hv
    walk_at "g"
    refine v_div (wide_div (b := 4) (by decide) (by decide) (by decide) (by decide)) ?_
    walk_at "g"
    refine c_Dr (1 + c / 9) st (by walk_at "dzl") ⟨by omega, by omega⟩ fun v d H2 ⟨n3, e4, a4, b4⟩ st => ?_
    subst e4
    obtain rfl := st.eqI (List.Mem.head _)
    walk_at "g"
    refine v_pow ⟨by decide, by decide, by decide⟩ ?_
    rw [show (10 : Int) ^ (9 : Int).toNat = 1000000000 by decide]
    walk_at "g"
    refine c_Dr (1000000000 + 1) st (by walk_at "dzl") ⟨by decide, by decide⟩ fun v d H2 ⟨n4, e5, a5, b5⟩ st => ?_
    subst e5
    obtain rfl := st.eqI (List.Mem.head _)
    walk_at "g"
    refine d_lst st (ds := [.int 0, .int 0, .int 1, .int n3, .int n4]) (by walk_at "dzl") (by simp) fun q2 H2 st => ?_
    walk_at "g"
    refine d_bm st (by walk_at "mem") ?_
    walk_at "g"
    refine c_Dr 9 st (by walk_at "dzl") ⟨by decide, by decide⟩ fun v d H2 ⟨n5, e6, a6, b6⟩ st => ?_
    subst e6
    obtain rfl := st.eqI (List.Mem.head _)
    walk_at "g"
    refine v_div (wide_div (b := 4) (by decide) (by decide) (by decide) (by decide)) ?_
    refine d_ixLP (P := fun d => ∃ y : Int, d = .int y ∧ 0 ≤ y ∧ y ≤ 10 ^ 9) (st.dz (x := .ref q2) (by walk_at "mem")) (by omega) (by simp; omega) (by simp; omega) fun v d ⟨tk, e7, a7, b7⟩ hv => ?_
    subst e7
    cases hv
    walk_at "g"
    refine d_tup st (ds := [.int by_, .int tk]) (by walk_at "dzl") (by simp) fun q3 H2 st => ?_
    walk_at "g"
    refine d_append (d := stepD (by_, tk)) (i := 0) st rfl rfl (st.dz (by walk_at "mem")) (by rw [List.length_map]; omega) fun H3 st => ?_
    walk_at "g"
    refine ⟨l ++ [(by_, tk)], _, _, _, rfl, ?_, by rw [List.length_append, hl]; rfl, fun s hs' => ?_⟩
    · rw [List.map_append]
      exact st.sub (fun p h => by simp at h)
    · rcases List.mem_append.mp hs' with h | h
      · exact hs s h
      · rw [List.mem_singleton.mp h]
        exact ⟨a3, b3, a7, b7⟩
  · rintro σ H2 ⟨l, x4, x5, x6, rfl, st, hl, hs⟩
    walk_at "g"
    have st := st.give np
    refine k (.ref p) (.lst (l.map stepD)) H2 st.endB st.bagB (st.dz (by walk_at "mem")) ⟨l, rfl, by omega, hs⟩

def sp__law_plan (K : PySem.W.Frag) : Sp := spDr K (fun _ : Unit => []) (fun _ => True) (fun _ r => ∃ w : Wn, w.Ok ∧ r = planD w)
theorem ok__law_plan (W : Wd K mg) : FnOk P w K mg base CX0 3 W.a__law_plan W.d__law_plan ["_law_bag_here"] (sp__law_plan K) := by
  refine W.F__law_plan.ok sc__law_plan (fun vs H Q E h => spDr_len (n := 0) (fun _ => rfl) h) (fun cdv A outer s H vs Q E hr h => ?_)
  obtain ⟨S, b, _, u, rfl, ok, sb, bg, hz, _, k⟩ := h
  have st := St.startB ok sb bg hz
  obtain rfl := hz
  refine ⟨_, (pss_cons (ps_set (i := 1) sc__law_plan.nd rfl (Or.inl rfl) (pe_lst (pa_cons (pe_op (r := rAddG K) opAdd pe_int (pe_call (ok__law_take W) (hr.mono (by decide)) (by rfl) W.m__law_take W.F__law_take.kp (b__law_take W) .nil pass0 (pa_cons (pv 0) (pa_cons pe_int pa_nil)))) (pa_cons (pe_op (r := rAddG K) opAdd pe_int (pe_call (ok__law_take W) (hr.mono (by decide)) (by rfl) W.m__law_take W.F__law_take.kp (b__law_take W) .nil pass0 (pa_cons (pv 0) (pa_cons pe_int pa_nil)))) (pa_cons (pe_op (r := rAddG K) opAdd pe_int (pe_call (ok__law_take W) (hr.mono (by decide)) (by rfl) W.m__law_take W.F__law_take.kp (b__law_take W) .nil pass0 (pa_cons (pv 0) (pa_cons (pe_op opPow pe_int pe_int) pa_nil)))) (pa_cons (pe_op opPow pe_int pe_int) pa_nil))))))
      (pss_cons (ps_set (i := 2) sc__law_plan.nd rfl (Or.inl rfl) (pe_ix (r := rIxG K) ixG (pv 1) (pe_call (ok__law_take W) (hr.mono (by decide)) (by rfl) W.m__law_take W.F__law_take.kp (b__law_take W) .nil pass0 (pa_cons (pv 0) (pa_cons pe_int pa_nil))) (fun _ _ => rfl)))
      (pss_cons (ps_set (i := 3) sc__law_plan.nd rfl (Or.inl rfl) (pe_call (ok__law_steps W) (hr.mono (by decide)) (by rfl) W.m__law_steps W.F__law_steps.kp (b__law_steps W) .nil pass0 (pa_cons (pv 0) (pa_cons (pe_ix (r := rIxG K) ixG (pe_lst (pa_cons pe_int (pa_cons pe_int (pa_cons (pe_op (r := rAddG K) opAdd pe_int (pe_call (ok__law_take W) (hr.mono (by decide)) (by rfl) W.m__law_take W.F__law_take.kp (b__law_take W) .nil pass0 (pa_cons (pv 0) (pa_cons pe_int pa_nil)))) (pa_cons pe_int pa_nil))))) (pe_call (ok__law_take W) (hr.mono (by decide)) (by rfl) W.m__law_take W.F__law_take.kp (b__law_take W) .nil pass0 (pa_cons (pv 0) (pa_cons pe_int pa_nil))) (fun _ _ => rfl)) (pa_cons (pv 2) pa_nil)))))
      (pss_cons (ps_set (i := 4) sc__law_plan.nd rfl (Or.inl rfl) (pe_call (ok__law_steps W) (hr.mono (by decide)) (by rfl) W.m__law_steps W.F__law_steps.kp (b__law_steps W) .nil pass0 (pa_cons (pv 0) (pa_cons (pe_ix (r := rIxG K) ixG (pe_lst (pa_cons pe_int (pa_cons pe_int (pa_cons pe_int (pa_cons pe_int (pa_cons pe_int (pa_cons pe_int (pa_cons pe_int (pa_cons pe_int (pa_cons pe_int pa_nil)))))))))) (pe_call (ok__law_take W) (hr.mono (by decide)) (by rfl) W.m__law_take W.F__law_take.kp (b__law_take W) .nil pass0 (pa_cons (pv 0) (pa_cons pe_int pa_nil))) (fun _ _ => rfl)) (pa_cons (pv 2) pa_nil)))))
      (pss_cons (ps_set (i := 5) sc__law_plan.nd rfl (Or.inl rfl) (pe_ix (r := rIxG K) ixG (pe_lst (pa_cons pe_int (pa_cons pe_int (pa_cons (pe_op (r := rAddG K) opAdd pe_int (pe_op opDiv (pv 2) pe_int)) (pa_cons (pe_call (ok__law_take W) (hr.mono (by decide)) (by rfl) W.m__law_take W.F__law_take.kp (b__law_take W) .nil pass0 (pa_cons (pv 0) (pa_cons (pe_op (r := rAddG K) opAdd (pe_op opPow pe_int pe_int) pe_int) pa_nil))) pa_nil))))) (pe_call (ok__law_take W) (hr.mono (by decide)) (by rfl) W.m__law_take W.F__law_take.kp (b__law_take W) .nil pass0 (pa_cons (pv 0) (pa_cons pe_int pa_nil))) (fun _ _ => rfl)))
      (pss_one (ps_ret (pe_tup (pa_cons (pv 3) (pa_cons (pv 4) (pa_cons (pv 2) (pa_cons (pv 5) (pa_cons (pe_cmpR (r := rEqG K) (opEq hr.units) (pe_call (ok__law_take W) (hr.mono (by decide)) (by rfl) W.m__law_take W.F__law_take.kp (b__law_take W) .nil pass0 (pa_cons (pv 0) (pa_cons pe_int pa_nil))) pe_int (nomark _)) pa_nil))))))))))))), ?_⟩
  rw [show start N__law_plan [.ref b] = [some (.ref b), none, none, none, none, none] from rfl]
  try dsimp only [cxOf]
  walk_at "g"
  refine c_Dr 9 st (by walk_at "dzl") ⟨by decide, by decide⟩ fun v d H1 ⟨n1, e, a1, b1⟩ st => ?_
  subst e
  obtain rfl := st.eqI (List.Mem.head _)
  walk_at "g"
  refine c_Dr 80 st (by walk_at "dzl") ⟨by decide, by decide⟩ fun v d H1 ⟨n2, e, a2, b2⟩ st => ?_
  subst e
  obtain rfl := st.eqI (List.Mem.head _)
  walk_at "g"
  refine v_pow ⟨by decide, by decide, by decide⟩ ?_
  rw [show (10 : Int) ^ (9 : Int).toNat = 1000000000 by decide]
  walk_at "g"
  refine c_Dr 1000000000 st (by walk_at "dzl") ⟨by decide, by decide⟩ fun v d H1 ⟨n3, e, a3, b3⟩ st => ?_
  subst e
  obtain rfl := st.eqI (List.Mem.head _)
  walk_at "g"
  refine v_pow ⟨by decide, by decide, by decide⟩ ?_
  rw [show (10 : Int) ^ (9 : Int).toNat = 1000000000 by decide]
  walk_at "g"
  refine d_lst st (ds := [.int (1 + n1), .int (20 + n2), .int (1 + n3), .int 1000000000]) (by walk_at "dzl") (by simp) fun q H1 st => ?_
  walk_at "g"
  refine c_Dr 4 st (by walk_at "dzl") ⟨by decide, by decide⟩ fun v d H1 ⟨m1, e, c1, c2⟩ st => ?_
  subst e
  obtain rfl := st.eqI (List.Mem.head _)
  refine d_ixLP (P := fun d => ∃ y : Int, d = .int y ∧ 1 ≤ y ∧ y ≤ 1000000000) (st.dz (x := .ref q) (by walk_at "mem")) c1 (by simp; omega) (by simp; omega) fun v d ⟨cl, e3, hc1, hc2⟩ hv => ?_
  subst e3
  cases hv
  walk_at "g"
  refine c_Dr 3 st (by walk_at "dzl") ⟨by decide, by decide⟩ fun v d H1 ⟨n4, e, a4, b4⟩ st => ?_
  subst e
  obtain rfl := st.eqI (List.Mem.head _)
  walk_at "g"
  refine d_lst st (ds := [.int 0, .int 0, .int (1 + n4), .int 24]) (by walk_at "dzl") (by simp) fun q H1 st => ?_
  walk_at "g"
  refine c_Dr 4 st (by walk_at "dzl") ⟨by decide, by decide⟩ fun v d H1 ⟨m2, e, c3, c4⟩ st => ?_
  subst e
  obtain rfl := st.eqI (List.Mem.head _)
  refine d_ixLP (P := fun d => ∃ y : Int, d = .int y ∧ 0 ≤ y ∧ y ≤ 24) (st.dz (x := .ref q) (by walk_at "mem")) c3 (by simp; omega) (by simp; omega) fun v d ⟨hm, e3, hm1, hm2⟩ hv => ?_
  subst e3
  cases hv
  walk_at "g"
  refine c_Dr (hm, cl) st (by walk_at "dzl") ⟨⟨hm1, hm2⟩, hc1, hc2⟩ fun v d H1 ⟨hd, e, lhd, ohd⟩ st => ?_
  subst e
  obtain ⟨ph, rfl⟩ := st.isL (List.Mem.head _)
  walk_at "g"
  refine d_lst st (ds := [.int 1, .int 1, .int 2, .int 3, .int 4, .int 6, .int 8, .int 12, .int 24]) (by walk_at "dzl") (by simp) fun q H1 st => ?_
  walk_at "g"
  refine c_Dr 9 st (by walk_at "dzl") ⟨by decide, by decide⟩ fun v d H1 ⟨m3, e, c5, c6⟩ st => ?_
  subst e
  obtain rfl := st.eqI (List.Mem.head _)
  refine d_ixLP (P := fun d => ∃ y : Int, d = .int y ∧ y ∈ tails) (st.dz (x := .ref q) (by walk_at "mem")) c5 (by simp; omega) (by simp [tails]) fun v d ⟨tm, e3, htm⟩ hv => ?_
  subst e3
  cases hv
  have htm2 : 0 ≤ tm ∧ tm ≤ 24 := by
    simp only [tails, List.mem_cons, List.not_mem_nil, or_false] at htm
    omega
  walk_at "g"
  refine c_Dr (tm, cl) st (by walk_at "dzl") ⟨htm2, hc1, hc2⟩ fun v d H1 ⟨tl, e, ltl, otl⟩ st => ?_
  subst e
  obtain ⟨pt, rfl⟩ := st.isL (List.Mem.head _)
  walk_at "g"
  refine v_div (wide_div (b := 4) (by decide) (by decide) (by decide) (by decide)) ?_
  walk_at "g"
  refine v_pow ⟨by decide, by decide, by decide⟩ ?_
  rw [show (10 : Int) ^ (9 : Int).toNat = 1000000000 by decide]
  walk_at "g"
  refine c_Dr (1000000000 + 1) st (by walk_at "dzl") ⟨by decide, by decide⟩ fun v d H1 ⟨n5, e, a5, b5⟩ st => ?_
  subst e
  obtain rfl := st.eqI (List.Mem.head _)
  walk_at "g"
  refine d_lst st (ds := [.int 0, .int 1, .int (1 + cl / 5), .int n5]) (by walk_at "dzl") (by simp) fun q H1 st => ?_
  walk_at "g"
  refine c_Dr 4 st (by walk_at "dzl") ⟨by decide, by decide⟩ fun v d H1 ⟨m4, e, c7, c8⟩ st => ?_
  subst e
  obtain rfl := st.eqI (List.Mem.head _)
  refine d_ixLP (P := fun d => ∃ y : Int, d = .int y ∧ 0 ≤ y ∧ y ≤ 1000000000) (st.dz (x := .ref q) (by walk_at "mem")) c7 (by simp; omega) (by simp; omega) fun v d ⟨lf, e3, hl1, hl2⟩ hv => ?_
  subst e3
  cases hv
  walk_at "g"
  refine c_Dr 2 st (by walk_at "dzl") ⟨by decide, by decide⟩ fun v d H1 ⟨n6, e, a6, b6⟩ st => ?_
  subst e
  obtain rfl := st.eqI (List.Mem.head _)
  walk_at "g"
  refine d_tup st (ds := [.lst (hd.map stepD), .lst (tl.map stepD), .int cl, .int lf, .bl (decide (n6 = 0))]) (by walk_at "dzl") (by simp) fun q H1 st => ?_
  refine k (.ref q) _ H1 st.endB st.bagB (st.dz (by walk_at "mem")) ⟨⟨hd, tl, cl, lf, decide (n6 = 0)⟩, ⟨?_, ?_, ohd, otl, hc1, hc2, hl1, hl2⟩, rfl⟩
  · have lhd : (hd.length : Int) = hm := lhd
    show hd.length ≤ 24
    omega
  · have ltl : (tl.length : Int) = tm := ltl
    show (tl.length : Int) ∈ tails
    rw [ltl]
    exact htm

def sp__law_within (K : PySem.W.Frag) : Sp := spBl K (fun a : D × Int × Int => [a.1, .int a.2.1, .int a.2.2]) (fun a => a.1.noIns = true) (fun a => isWithin a.1 a.2.1 a.2.2)
theorem ok__law_within (W : Wd K mg) : FnOk P w K mg base CX0 1 W.a__law_within W.d__law_within ["_law_thing", "_law_low", "_law_high"] (sp__law_within K) := by
  refine W.F__law_within.ok sc__law_within (fun vs H Q E h => spBl_len (n := 3) (fun _ => rfl) h) (fun cdv A outer s H vs Q E hr h => ?_)
  obtain ⟨S, ⟨d, lo, hi⟩, ok, hz, hd, k⟩ := h
  have st := St.start ok hz
  have hd : d.noIns = true := hd
  have k : ∀ b H', Same H H' → b = isWithin d lo hi → Q (.bl b) H' := fun b H' e eb => by rw [eb]; exact k H' e
  obtain ⟨x, _, rfl, hx, _, _, rfl, rfl, _, _, rfl, rfl, rfl⟩ := hz
  refine ⟨_, (pss_one (ps_ret (pe_and (pe_callB (r := rIsiG K) call_isiG (by rfl) W.n_isinstance (by decide +kernel) (pa_cons (pv 0) (pa_cons (pe_bltn (v := .ty "int") (by rfl) W.n_int (by decide +kernel) rfl) pa_nil))) (pe_and (pe_not (pe_callB (r := rIsiG K) call_isiG (by rfl) W.n_isinstance (by decide +kernel) (pa_cons (pv 0) (pa_cons (pe_bltn (v := .ty "bool") (by rfl) W.n_bool (by decide +kernel) rfl) pa_nil)))) (pe_one (pe_chain opLe opLe (pv 1) (pv 0) (pv 2))))))), ?_⟩
  rw [show start N__law_within [x, .int lo, .int hi] = [some (x), some (.int lo), some (.int hi)] from rfl]
  try dsimp only [cxOf]
  walk_at "g"
  refine d_isi hx hd (q := ?_)
  walk_at "g"
  cases d with
  | int i =>
    obtain rfl : x = .int i := hx
    rw [show isT "int" (D.int i) = true from rfl]
    walk_at "g"
    by_cases h1 : lo ≤ i
    · rw [decide_eq_true h1]
      walk_at "g"
      exact k _ _ st.end_ (by simp [isWithin, h1])
    · rw [decide_eq_false h1]
      walk_at "g"
      exact k _ _ st.end_ (by simp [isWithin, h1])
  | bl b =>
    rw [show isT "int" (D.bl b) = true from rfl]
    walk_at "g"
    refine d_isi hx hd (q := ?_)
    rw [show isT "bool" (D.bl b) = true from rfl]
    walk_at "g"
    exact k _ _ st.end_ rfl
  | ins C fs => cases hd
  | non => exact k _ _ st.end_ rfl
  | str z => exact k _ _ st.end_ rfl
  | lst ds => exact k _ _ st.end_ rfl
  | tup ds => exact k _ _ st.end_ rfl
  | dic kvs => exact k _ _ st.end_ rfl

def sp_Wrong___init__ (K : PySem.W.Frag) : Sp := spExI K "place"
theorem ok_Wrong___init__ (W : Wd K mg) : FnOk P w K mg base CX0 1 W.a_Wrong___init__ W.d_Wrong___init__ ["self", "place"] (sp_Wrong___init__ K) := by
  refine W.F_Wrong___init__.ok sc_Wrong___init__ (fun vs H Q E h => spExI_len h) (fun cdv A outer s H vs Q E hr h => ?_)
  obtain ⟨a, C, v, rfl, o, n, e, q⟩ := h
  refine ⟨_, (pss_one (ps_ost (pv 0) (pv 1))), ?_⟩
  rw [show start N_Wrong___init__ [.ref a, v] = [some (.ref a), some v] from rfl]
  exact exi_body rfl rfl o n e q

-- needs: Wrong___init__
-- needs: refuse_wrong
def spB_refuse_wrong (K : PySem.W.Frag) (Wr : Addr) : Sp := spBad K Wr (fun bs : List Bool => [.lst (bs.map D.bl)]) (fun bs => false ∈ bs ∧ bs.length ≤ 1000) (fun bs => bs.idxOf false)
def sp_refuse_wrong__x (K : PySem.W.Frag) (Wr : Addr) : Sp := spOr (sp_refuse_wrong K) (spB_refuse_wrong K Wr)
theorem ok_refuse_wrong__x (W : Wd K mg) : FnOk P w K mg base (L2.CX P w) 3 W.a_refuse_wrong W.d_refuse_wrong ["fits"] (sp_refuse_wrong__x K W.C_Wrong) := by
  refine FnOk.or (FnOk.lift (ok_refuse_wrong W)) ?_
  refine W.F_refuse_wrong.okX sc_refuse_wrong (fun vs H Q E h => spBad_len (n := 1) (fun _ => rfl) h) (fun cdv A outer s H vs Q E hr h => ?_)
  obtain ⟨S, bs, ok, hz, ⟨hf, hl⟩, k⟩ := h
  have hf : false ∈ bs := hf
  have st := St.start ok hz
  obtain ⟨x, _, rfl, hx, rfl⟩ := hz
  obtain ⟨a, rfl⟩ := st.isL (by walk_at "mem")
  refine ⟨_, (pss_one (ps_for (passes_of rfl) rfl (pi_enum (by rfl) W.n_enumerate (pa_cons (pv 0) pa_nil)) (pg_tup (by rfl) (pgs_cons (pg_name (i := 1) sc_refuse_wrong.nd rfl (.inl rfl)) (pgs_cons (pg_name (i := 2) sc_refuse_wrong.nd rfl (.inl rfl)) pgs_nil)))
        (pss_one (ps_if (pt_not (pt_truth (pv 2) (by intro _; rfl))) (pss_one (ps_raiseV rfl (takes_of rfl rfl rfl rfl) (pmk_oex W.x_Wrong.ob W.oi_Wrong W.ot_Wrong (ok_Wrong___init__ W) (hr.mono (by decide)) (b_Wrong___init__ W) .nil pass0 (by rfl) W.c_Wrong (pa_cons (pv 1) pa_nil)))) pss_nil)))), ?_⟩
  rw [show start N_refuse_wrong [.ref a] = [some (.ref a), none, none] from rfl]
  try dsimp only [cxOf]
  walk_at "g"
  refine for_E (K := K) (S := S) (fun i σ H' => (∃ y z, σ = [some (.ref a), y, z]) ∧ (∀ j, j < i → bs[j]? = some true) ∧ Vf.St K S (fun _ => False) H H' [(.ref a, .lst (bs.map D.bl))] [] []) (fun i σ H' h => h.2.2.dz (by walk_at "mem")) ⟨⟨_, _, rfl⟩, fun j h => absurd h (Nat.not_lt_zero _), st⟩ ?_ ?_
  · rintro i d x T σ H' hd hi hx ⟨⟨y, z, rfl⟩, ht, st⟩ nT
    rw [List.getElem?_map] at hd
    obtain ⟨b, hb, rfl⟩ := Option.map_eq_some_iff.mp hd
    obtain rfl : x = .bl b := hx
    have st := st.tup nT (zl_cons (z_int (i := (i : Nat))) (zl_cons (z_bl (i := b)) zl_nil))
    walk_at "g"
    refine d_gT (st.dz (by walk_at "mem")) rfl fun xs hxs => ?_
    obtain ⟨_, _, rfl, rfl, _, _, rfl, rfl, rfl⟩ := hxs
    walk_at "g"
    refine ⟨b, rfl, ?_⟩
    cases b with
    | true =>
      walk_at "g"
      refine ⟨⟨_, _, rfl⟩, fun j hj => ?_, st.sub (fun p h => List.mem_cons_of_mem _ h)⟩
      by_cases q : j < i
      · exact ht j q
      · rw [show j = i by omega]; exact hb
    | false =>
      refine g_iteT ?_
      walk_at "g"
      refine g_raise ?_
      refine g_mkO ?_
      walk_at "g"
      refine d_mkO W.x_Wrong.ob W.nf_Wrong fun d nd => ?_
      have st2 := st.same (Same.upd (o := .xd [("place", .int (i : Nat))]) nd)
      have e := idx_first hb ht
      refine k d _ st2.end_ (st.h0 nd) ?_
      show _ = some (HO.xd [("place", V.int ((bs.idxOf false : Nat) : Int))])
      rw [e]
      exact upd_same
  · rintro σ H' ⟨_, ht, st⟩
    exfalso
    obtain ⟨h1, _⟩ := idx_get hf
    have lt : bs.idxOf false < bs.length := by
      refine Decidable.byContradiction fun q => ?_
      rw [List.getElem?_eq_none (by omega)] at h1
      cases h1
    rw [List.length_map] at ht
    rw [ht _ lt] at h1
    cases h1

-- needs: Wrong___init__
-- needs: Wane___init__
-- needs: refuse_wrong__x
/-- what is handed in for a wane -/
structure Wx where
  h : D
  t : D
  c : D
  l : D
  a : D
def Wx.enc (b : Wx) : List D := [b.h, b.t, b.c, b.l, b.a]
def Wx.bs (b : Wx) : List Bool := [isHead b.h, isTail b.t, isWithin b.c 1 (10 ^ 9), isWithin b.l 0 (10 ^ 9), isT "bool" b.a]
structure Wx.Pre (b : Wx) : Prop where
  h : PreSteps b.h
  t : PreSteps b.t
  c : b.c.noIns = true
  l : b.l.noIns = true
  a : b.a.noIns = true
def spInW (K : PySem.W.Frag) (C Wr : Addr) : Sp := fun vs H Q E => ∃ S b a dx r, vs = .ref a :: r ∧ Okk S H ∧ S a ∧ H a = some (.ins C dx []) ∧ DzL K S H (Wx.enc b) r ∧ b.Pre ∧ false ∈ b.bs ∧
  ∀ d H', (∀ c o, H c = some o → H' c = some o) → H d = none → H' d = some (.xd [("place", .int (b.bs.idxOf false : Nat))]) → E (.ref Wr) (some d) H'
theorem spInW_len {K : PySem.W.Frag} {C Wr : Addr} {vs : List V} {H : Hp} {Q : VK} {E : XK} (h : spInW K C Wr vs H Q E) : vs.length = 6 := by
  obtain ⟨S, b, a, dx, r, rfl, _, _, _, hz, _⟩ := h
  rw [List.length_cons, hz.len]; rfl
def sp_Wane___init____x (K : PySem.W.Frag) (C Wr : Addr) : Sp := spOr (sp_Wane___init__ K C) (spInW K C Wr)
theorem ok_Wane___init____x (W : Wd K mg) : FnOk P w K mg base (L2.CX P w) 7 W.a_Wane___init__ W.d_Wane___init__ ["self", "head", "tail", "cap", "lift", "anew"] (sp_Wane___init____x K W.C_Wane W.C_Wrong) := by
  refine FnOk.or (FnOk.lift (ok_Wane___init__ W)) ?_
  refine W.D_Wane___init__.ok sc_Wane___init__ (fun vs H Q E h => spInW_len h) (fun cdv A outer s H vs Q E hr h => ?_)
  obtain ⟨S, ⟨d1, d2, d3, d4, d5⟩, a, dx, _, rfl, ok, sa, ha, hz, hp, bad, k⟩ := h
  have st := St.start ok hz
  obtain ⟨x1, _, rfl, hx1, x2, _, rfl, hx2, x3, _, rfl, hx3, x4, _, rfl, hx4, x5, _, rfl, hx5, rfl⟩ := hz
  refine ⟨_, (pss_cons (ps_expr (pe_call (ok_refuse_wrong__x W) (hr.mono (by decide)) (by rfl) W.m_refuse_wrong W.F_refuse_wrong.kp (b_refuse_wrong W) .nil (passN 6 rfl (takes_of rfl rfl rfl rfl)) (pa_cons (pe_lst (pa_cons (pe_call (ok__is_head W) (hr.mono (by decide)) (by rfl) W.m__is_head W.F__is_head.kp (b__is_head W) .nil pass0 (pa_cons (pv 1) pa_nil)) (pa_cons (pe_call (ok__is_tail W) (hr.mono (by decide)) (by rfl) W.m__is_tail W.F__is_tail.kp (b__is_tail W) .nil pass0 (pa_cons (pv 2) pa_nil)) (pa_cons (pe_call (ok_is_strength W) (hr.mono (by decide)) (by rfl) W.m_is_strength W.F_is_strength.kp (b_is_strength W) .nil pass0 (pa_cons (pv 3) pa_nil)) (pa_cons (pe_call (ok_is_size W) (hr.mono (by decide)) (by rfl) W.m_is_size W.F_is_size.kp (b_is_size W) .nil pass0 (pa_cons (pv 4) pa_nil)) (pa_cons (pe_callB (r := rIsiG K) call_isiG (by rfl) W.n_isinstance (by decide +kernel) (pa_cons (pv 5) (pa_cons (pe_bltn (v := .ty "bool") (by rfl) W.n_bool (by decide +kernel) rfl) pa_nil))) pa_nil)))))) pa_nil)))
      (pss_cons (ps_fld (pv 0) (pe_callTy call_tupleG (by rfl) W.n_tuple (by decide +kernel) (pa_cons (pv 1) pa_nil)) rfl)
      (pss_cons (ps_fld (pv 0) (pe_callTy call_tupleG (by rfl) W.n_tuple (by decide +kernel) (pa_cons (pv 2) pa_nil)) rfl)
      (pss_cons (ps_fld (pv 0) (pe_op (r := rAddG K) opAdd (pe_fld (pv 0) rfl) (pe_fld (pv 0) rfl)) rfl)
      (pss_cons (ps_fld (pv 0) (pv 3) rfl)
      (pss_cons (ps_fld (pv 0) (pv 4) rfl)
      (pss_one (ps_fld (pv 0) (pv 5) rfl)))))))), ?_⟩
  rw [show start N_Wane___init__ [.ref a, x1, x2, x3, x4, x5] = [some (.ref a), some (x1), some (x2), some (x3), some (x4), some (x5)] from rfl]
  try dsimp only [cxOf]
  walk_at "g"
  refine c_Bl d1 st (zl_cons (st.dz (x := x1) (by walk_at "mem")) zl_nil) hp.h fun H1 st => ?_
  walk_at "g"
  refine c_Bl d2 st (zl_cons (st.dz (x := x2) (by walk_at "mem")) zl_nil) hp.t fun H1 st => ?_
  walk_at "g"
  refine c_Bl d3 st (zl_cons (st.dz (x := x3) (by walk_at "mem")) zl_nil) hp.c fun H1 st => ?_
  walk_at "g"
  refine c_Bl d4 st (zl_cons (st.dz (x := x4) (by walk_at "mem")) zl_nil) hp.l fun H1 st => ?_
  walk_at "g"
  refine d_isi (st.dz (x := x5) (by walk_at "mem")) hp.a (q := ?_)
  walk_at "g"
  refine d_lst st (ds := [isHead d1, isTail d2, isWithin d3 1 (10 ^ 9), isWithin d4 0 (10 ^ 9), isT "bool" d5].map D.bl) (zl_cons z_bl (zl_cons z_bl (zl_cons z_bl (zl_cons z_bl (zl_cons z_bl zl_nil))))) (show 5 ≤ 100000 by decide) fun p H1 st => ?_
  walk_at "g"
  have stB := st
  refine .inr ?_
  refine c_Bad [isHead d1, isTail d2, isWithin d3 1 (10 ^ 9), isWithin d4 0 (10 ^ 9), isT "bool" d5] st (zl_cons (st.dz (x := .ref p) (List.Mem.head _)) zl_nil) ⟨bad, show 5 ≤ 1000 by decide⟩ fun dx H2 nd hx st => ?_
  exact fun σ _ => k dx H2 st.end_ (stB.h0 nd) hx

-- needs: _law_take
-- needs: Wane___init____x
theorem d_dic {K : PySem.W.Frag} {S M : AS} {H0 H : Hp} {G : List (V × D)} {L : List (Addr × List D)} {B : List Addr} {Q : VK} {σ : L2.St} (st : Vf.St K S M H0 H G L B) (q : ∀ p H', Vf.St K S M H0 H' ((.ref p, .dic []) :: G) L B → Q (.ref p) H') : tDNewK σ H Q :=
  fun p n => q p _ ((st.same (Same.upd n)).add ⟨p, rfl, st.nS n, upd_same⟩)
theorem fine_noIns {d : D} (h : d.fine = true) : d.noIns = true := by
  cases d <;> first | rfl | (cases h; done)
/-- what may stand in a list of steps -/
def itS (d : D) : Bool := d.fine && (decide (d.wt ≤ 4) && decide (d.dep ≤ 2))
theorem itS_e {d : D} (h : itS d = true) : d.fine = true ∧ d.wt ≤ 4 ∧ d.dep ≤ 2 := by
  unfold itS at h
  simp only [Bool.and_eq_true, decide_eq_true_eq] at h
  exact h
theorem itS_pre {d : D} (h : itS d = true) : PreStep d := by
  have f := (itS_e h).1
  refine ⟨fine_noIns f, fun a b e => ?_⟩
  subst e
  simp only [D.fine, D.fines, Bool.and_eq_true] at f
  exact ⟨fine_noIns f.1, fine_noIns f.2.1⟩
theorem itS_step {s : Int × Int} (h : stepOk s) : itS (stepD s) = true := by
  have o := stepD_ok h
  unfold itS
  rw [o.fine]
  have w : (stepD s).wt = 2 := rfl
  have p : (stepD s).dep = 1 := rfl
  rw [w, p]; rfl
theorem itSs_e : ∀ {ds : List D}, (∀ d ∈ ds, itS d = true) → D.fines ds = true ∧ D.wts ds ≤ 5 * ds.length ∧ D.deps ds ≤ 2
  | [], _ => ⟨rfl, Nat.zero_le _, Nat.zero_le _⟩
  | d :: ds, h => by
    obtain ⟨a, b, c⟩ := itSs_e fun x m => h x (List.mem_cons_of_mem _ m)
    obtain ⟨x, y, z⟩ := itS_e (h d (List.mem_cons_self ..))
    refine ⟨by simp only [D.fines, x, a, Bool.and_self], ?_, ?_⟩
    · simp only [D.wts, List.length_cons]; omega
    · simp only [D.deps]; omega
/-- what may stand at a place -/
structure ElS (n : Nat) (d : D) : Prop where
  o : d.OkI
  l : ∀ ds, d = .lst ds → ds.length ≤ n ∧ ∀ e ∈ ds, itS e = true
theorem ElS.noIns {n : Nat} {d : D} (h : ElS n d) : d.noIns = true := by
  rcases h.o with o | o
  · exact fine_noIns o.1
  · rw [o]; rfl
theorem ElS.pre {n : Nat} {d : D} (h : ElS n d) (hn : n ≤ 100) : PreSteps d := by
  refine ⟨h.noIns, fun ds e => ?_⟩
  obtain ⟨a, b⟩ := h.l ds e
  exact ⟨by omega, fun x m => itS_pre (b x m)⟩
theorem elS_lst {n : Nat} {ds : List D} (h : ∀ d ∈ ds, itS d = true) (hl : ds.length ≤ n) (hn : n ≤ 100) : ElS n (.lst ds) := by
  obtain ⟨a, b, c⟩ := itSs_e h
  refine ⟨.inl ⟨by simp only [D.fine, a], by simp only [D.wt]; omega, by simp only [D.dep]; omega⟩, fun es e => ?_⟩
  cases e
  exact ⟨hl, h⟩
theorem elS_tup {n : Nat} {ds : List D} (h : ∀ d ∈ ds, itS d = true) (hl : ds.length ≤ 100) : ElS n (.tup ds) := by
  obtain ⟨a, b, c⟩ := itSs_e h
  exact ⟨.inl ⟨by simp only [D.fine, a], by simp only [D.wt]; omega, by simp only [D.dep]; omega⟩, fun es e => by cases e⟩
theorem elS_it {n : Nat} {d : D} (h : itS d = true) (q : ∀ ds, d ≠ .lst ds) : ElS n d := by
  obtain ⟨a, b, c⟩ := itS_e h
  exact ⟨.inl ⟨a, by omega, by omega⟩, fun es e => absurd e (q es)⟩
theorem elS_dic {n : Nat} : ElS n (.dic []) := ⟨.inr rfl, fun es e => by cases e⟩
theorem ElS.mono {n m : Nat} {d : D} (h : ElS n d) (q : n ≤ m) : ElS m d := ⟨h.o, fun ds e => ⟨Nat.le_trans (h.l ds e).1 q, (h.l ds e).2⟩⟩
def oddA : List D := [.non, .tup [.int 0, .int 0], .tup [.int 10, .int 0], .tup [.int 1, .int (-1)], .tup [.int 1, .int (10 ^ 9 + 1)], .tup [.bl true, .int 0], .tup [.int 1, .bl true], .tup [.int 1], .tup [.int 1, .int 0, .int 0], .lst [.int 1, .int 0], .str (Str.ofString "1-0"), .int 1]
def oddB : List D := [.tup [.non, .int 0], .tup [.int 1, .str (Str.ofString "0")], .tup [.lst [.int 1], .int 0]]
theorem odd_ok : ∀ d ∈ oddA ++ oddB, itS d = true := fun d m => List.all_eq_true.mp (show (oddA ++ oddB).all itS = true by decide +kernel) d m
theorem cut_ok {ds : List D} {i j : Option Int} {P : D → Prop} (h : ∀ d ∈ ds, P d) : ∀ d ∈ Vf.cutD ds i j, P d := fun d m => h d (List.mem_of_mem_drop (List.mem_of_mem_take m))
theorem cut_from {ds : List D} {i : Nat} : (Vf.cutD ds (some (i : Int)) none).length ≤ ds.length - i := by
  unfold Vf.cutD
  rw [List.length_take, List.length_drop, HT.sIx_nat, HT.sIx_none]
  omega
structure Bst where
  n : Nat
  ds : List D
structure Bst.Ok (b : Bst) : Prop where
  n : 48 ≤ b.n ∧ b.n ≤ 60
  l : b.ds.length ≤ b.n
  i : ∀ d ∈ b.ds, itS d = true
def sp__law_bent_steps (K : PySem.W.Frag) : Sp := spDr K (fun s : Bst => [.lst s.ds]) Bst.Ok (fun s r => ElS (s.n + 1) r)
theorem ok__law_bent_steps (W : Wd K mg) : FnOk P w K mg base CX0 2 W.a__law_bent_steps W.d__law_bent_steps ["_law_bag_here", "_law_steps_here"] (sp__law_bent_steps K) := by
  refine W.F__law_bent_steps.ok sc__law_bent_steps (fun vs H Q E h => spDr_len (n := 1) (fun _ => rfl) h) (fun cdv A outer s H vs Q E hr h => ?_)
  obtain ⟨S, b, _, s, rfl, ok, sb, bg, hz, ho, k⟩ := h
  have ho : s.Ok := ho
  have l1 := ho.l
  have n1 := ho.n
  have st := St.startB ok sb bg hz
  obtain ⟨x, _, rfl, hx, rfl⟩ := hz
  obtain ⟨t, rfl⟩ := st.isL (x := x) (ds := s.ds) (by walk_at "mem")
  refine ⟨_, (pss_cons (ps_set (i := 2) sc__law_bent_steps.nd rfl (Or.inl rfl) (pe_lst (pa_cons pe_non (pa_cons (pe_tup (pa_cons pe_int (pa_cons pe_int pa_nil))) (pa_cons (pe_tup (pa_cons pe_int (pa_cons pe_int pa_nil))) (pa_cons (pe_tup (pa_cons pe_int (pa_cons (pe_un un_neg pe_int) pa_nil))) (pa_cons (pe_tup (pa_cons pe_int (pa_cons (pe_op (r := rAddG K) opAdd (pe_op opPow pe_int pe_int) pe_int) pa_nil))) (pa_cons (pe_tup (pa_cons pe_bl (pa_cons pe_int pa_nil))) (pa_cons (pe_tup (pa_cons pe_int (pa_cons pe_bl pa_nil))) (pa_cons (pe_tup (pa_cons pe_int pa_nil)) (pa_cons (pe_tup (pa_cons pe_int (pa_cons pe_int (pa_cons pe_int pa_nil)))) (pa_cons (pe_lst (pa_cons pe_int (pa_cons pe_int pa_nil))) (pa_cons pe_str (pa_cons pe_int pa_nil))))))))))))))
      (pss_cons (ps_set (i := 2) sc__law_bent_steps.nd rfl (Or.inl rfl) (pe_op (r := rAddG K) opAdd (pv 2) (pe_lst (pa_cons (pe_tup (pa_cons pe_non (pa_cons pe_int pa_nil))) (pa_cons (pe_tup (pa_cons pe_int (pa_cons pe_str pa_nil))) (pa_cons (pe_tup (pa_cons (pe_lst (pa_cons pe_int pa_nil)) (pa_cons pe_int pa_nil))) pa_nil))))))
      (pss_cons (ps_set (i := 3) sc__law_bent_steps.nd rfl (Or.inl rfl) (pe_call (ok__law_take W) (hr.mono (by decide)) (by rfl) W.m__law_take W.F__law_take.kp (b__law_take W) .nil pass0 (pa_cons (pv 0) (pa_cons pe_int pa_nil))))
      (pss_cons (ps_set (i := 4) sc__law_bent_steps.nd rfl (Or.inl rfl) (pe_call (ok__law_take W) (hr.mono (by decide)) (by rfl) W.m__law_take W.F__law_take.kp (b__law_take W) .nil pass0 (pa_cons (pv 0) (pa_cons (pe_op (r := rAddG K) opAdd (pe_callB (r := rLenG K) call_lenG (by rfl) W.n_len PySem.boot_len (pa_cons (pv 1) pa_nil)) pe_int) pa_nil))))
      (pss_cons (ps_if (pt_cmpR opLt (pv 3) pe_int (nomark _)) (pss_one (ps_ret (pe_op (r := rAddG K) opAdd (pe_op (r := rAddG K) opAdd (pe_slice (r := rSlG K) slG (pv 1) po_none (po_some (pv 4))) (pe_lst (pa_cons (pe_ix (r := rIxG K) ixG (pv 2) (pe_call (ok__law_take W) (hr.mono (by decide)) (by rfl) W.m__law_take W.F__law_take.kp (b__law_take W) .nil pass0 (pa_cons (pv 0) (pa_cons pe_int pa_nil))) (fun _ _ => rfl)) pa_nil))) (pe_slice (r := rSlG K) slG (pv 1) (po_some (pe_op (r := rAddG K) opAdd (pv 4) (pv 3))) po_none)))) pss_nil)
      (pss_cons (ps_if (pt_cmpR (r := rEqG K) (opEq hr.units) (pv 3) pe_int (nomark _)) (pss_one (ps_ret (pe_op op_rep (pe_lst (pa_cons (pe_tup (pa_cons pe_int (pa_cons pe_int pa_nil))) pa_nil)) (pe_ix (r := rIxG K) ixG (pe_lst (pa_cons pe_int (pa_cons pe_int (pa_cons pe_int (pa_cons pe_int (pa_cons pe_int (pa_cons pe_int (pa_cons pe_int (pa_cons pe_int (pa_cons pe_int (pa_cons pe_int pa_nil))))))))))) (pe_call (ok__law_take W) (hr.mono (by decide)) (by rfl) W.m__law_take W.F__law_take.kp (b__law_take W) .nil pass0 (pa_cons (pv 0) (pa_cons pe_int pa_nil))) (fun _ _ => rfl))))) pss_nil)
      (pss_one (ps_ret (pe_ix (r := rIxG K) ixG (pe_lst (pa_cons (pe_callTy call_tupleG (by rfl) W.n_tuple (by decide +kernel) (pa_cons (pv 1) pa_nil)) (pa_cons pe_non (pa_cons pe_dnewK (pa_cons pe_str (pa_cons (pv 1) pa_nil)))))) (pe_call (ok__law_take W) (hr.mono (by decide)) (by rfl) W.m__law_take W.F__law_take.kp (b__law_take W) .nil pass0 (pa_cons (pv 0) (pa_cons pe_int pa_nil))) (fun _ _ => rfl)))))))))), ?_⟩
  rw [show start N__law_bent_steps [.ref b, .ref t] = [some (.ref b), some (.ref t), none, none, none] from rfl]
  try dsimp only [cxOf]
  walk_at "g"
  refine d_tup st (ds := [.int 0, .int 0]) (zl_cons z_int (zl_cons z_int zl_nil)) (by simp) fun t1 H1 st => ?_
  walk_at "g"
  refine d_tup st (ds := [.int 10, .int 0]) (zl_cons z_int (zl_cons z_int zl_nil)) (by simp) fun t2 H1 st => ?_
  walk_at "g"
  refine ⟨1, rfl, ?_⟩
  walk_at "g"
  refine d_tup st (ds := [.int 1, .int (-1)]) (zl_cons z_int (zl_cons z_int zl_nil)) (by simp) fun t3 H1 st => ?_
  walk_at "g"
  refine v_pow ⟨by decide, by decide, by decide⟩ ?_
  rw [show (10 : Int) ^ (9 : Int).toNat = 10 ^ 9 from rfl]
  walk_at "g"
  refine d_tup st (ds := [.int 1, .int (10 ^ 9 + 1)]) (zl_cons z_int (zl_cons z_int zl_nil)) (by simp) fun t4 H1 st => ?_
  walk_at "g"
  refine d_tup st (ds := [.bl true, .int 0]) (zl_cons z_bl (zl_cons z_int zl_nil)) (by simp) fun t5 H1 st => ?_
  walk_at "g"
  refine d_tup st (ds := [.int 1, .bl true]) (zl_cons z_int (zl_cons z_bl zl_nil)) (by simp) fun t6 H1 st => ?_
  walk_at "g"
  refine d_tup st (ds := [.int 1]) (zl_cons z_int zl_nil) (by simp) fun t7 H1 st => ?_
  walk_at "g"
  refine d_tup st (ds := [.int 1, .int 0, .int 0]) (zl_cons z_int (zl_cons z_int (zl_cons z_int zl_nil))) (by simp) fun t8 H1 st => ?_
  walk_at "g"
  refine d_lst st (ds := [.int 1, .int 0]) (zl_cons z_int (zl_cons z_int zl_nil)) (by simp) fun t9 H1 st => ?_
  walk_at "g"
  refine d_lst st (ds := oddA) (zl_cons z_non (zl_cons (st.dz (x := .ref t1) (by walk_at "mem")) (zl_cons (st.dz (x := .ref t2) (by walk_at "mem")) (zl_cons (st.dz (x := .ref t3) (by walk_at "mem")) (zl_cons (st.dz (x := .ref t4) (by walk_at "mem")) (zl_cons (st.dz (x := .ref t5) (by walk_at "mem")) (zl_cons (st.dz (x := .ref t6) (by walk_at "mem")) (zl_cons (st.dz (x := .ref t7) (by walk_at "mem")) (zl_cons (st.dz (x := .ref t8) (by walk_at "mem")) (zl_cons (st.dz (x := .ref t9) (by walk_at "mem")) (zl_cons z_str (zl_cons z_int zl_nil)))))))))))) (show 12 ≤ 100000 by decide) fun p1 H1 st => ?_
  have st := st.sub (G' := [(.ref p1, .lst oddA), (.ref t, .lst s.ds)]) (by walk_at "sub")
  walk_at "g"
  refine d_tup st (ds := [.non, .int 0]) (zl_cons z_non (zl_cons z_int zl_nil)) (by simp) fun t1 H1 st => ?_
  walk_at "g"
  refine d_tup st (ds := [.int 1, .str (Str.ofString "0")]) (zl_cons z_int (zl_cons z_str zl_nil)) (by simp) fun t2 H1 st => ?_
  walk_at "g"
  refine d_lst st (ds := [.int 1]) (zl_cons z_int zl_nil) (by simp) fun t3 H1 st => ?_
  walk_at "g"
  refine d_tup st (ds := [.lst [.int 1], .int 0]) (zl_cons (st.dz (x := .ref t3) (by walk_at "mem")) (zl_cons z_int zl_nil)) (by simp) fun t4 H1 st => ?_
  walk_at "g"
  refine d_lst st (ds := oddB) (zl_cons (st.dz (x := .ref t1) (by walk_at "mem")) (zl_cons (st.dz (x := .ref t2) (by walk_at "mem")) (zl_cons (st.dz (x := .ref t4) (by walk_at "mem")) zl_nil))) (show 3 ≤ 100000 by decide) fun p2 H1 st => ?_
  walk_at "g"
  refine v_cat st (st.dz (x := .ref p1) (d := .lst oddA) (by walk_at "mem")) (st.dz (x := .ref p2) (d := .lst oddB) (by walk_at "mem")) (by rw [sizeLine_eq]; show 15 ≤ _; decide) fun p3 H1 st => ?_
  have st := st.sub (G' := [(.ref p3, .lst (oddA ++ oddB)), (.ref t, .lst s.ds)]) (by walk_at "sub")
  walk_at "g"
  refine c_Dr 5 st (by walk_at "dzl") ⟨by decide, by decide⟩ fun v d H1 ⟨w, e, w0, w1⟩ st => ?_
  subst e
  obtain rfl := st.eqI (List.Mem.head _)
  walk_at "g"
  refine d_lenL (st.dz (x := .ref t) (by walk_at "mem")) ?_
  walk_at "g"
  refine c_Dr ((s.ds.length : Int) + 1) st (by walk_at "dzl") ⟨by omega, by omega⟩ fun v d H1 ⟨i, e, i0, i1⟩ st => ?_
  subst e
  obtain rfl := st.eqI (List.Mem.head _)
  obtain ⟨i, rfl⟩ : ∃ j : Nat, i = (j : Int) := ⟨i.toNat, by omega⟩
  obtain ⟨w, rfl⟩ : ∃ j : Nat, w = (j : Int) := ⟨w.toNat, by omega⟩
  walk_at "g"
  by_cases c1 : ((w : Nat) : Int) < 2
  · rw [decide_eq_true c1]
    refine g_iteT ?_
    walk_at "g"
    refine d_slL (lo := none) (hi := some ((i : Nat) : Int)) st (st.dz (x := .ref t) (d := .lst s.ds) (by walk_at "mem")) fun q1 H1 st => ?_
    walk_at "g"
    refine c_Dr 15 st (by walk_at "dzl") ⟨by decide, by decide⟩ fun v d H1 ⟨j, e, j0, j1⟩ st => ?_
    subst e
    obtain rfl := st.eqI (List.Mem.head _)
    walk_at "g"
    refine d_ixLP (P := fun d => itS d = true) (st.dz (x := .ref p3) (d := .lst (oddA ++ oddB)) (by walk_at "mem")) j0 (by show j < 15; omega) odd_ok fun v1 d1 o1 hv => ?_
    walk_at "g"
    refine d_lst st (ds := [d1]) (zl_cons hv zl_nil) (by simp) fun q2 H1 st => ?_
    walk_at "g"
    have b1 : (Vf.cutD s.ds none (some ((i : Nat) : Int))).length ≤ i := by
      rw [cutD_to (by omega), List.length_take]; omega
    have b2 : (Vf.cutD s.ds (some ((i : Nat) + (w : Nat) : Int)) none).length ≤ s.ds.length - i := by
      have := cut_from (ds := s.ds) (i := i + w)
      rw [show (((i + w : Nat)) : Int) = (i : Int) + (w : Int) by omega] at this
      omega
    refine v_cat st (st.dz (x := .ref q1) (d := .lst (Vf.cutD s.ds none (some ((i : Nat) : Int)))) (by walk_at "mem")) (st.dz (x := .ref q2) (List.Mem.head _)) (by rw [sizeLine_eq]; simp only [List.length_cons, List.length_nil]; omega) fun q3 H1 st => ?_
    walk_at "g"
    refine d_slL (lo := some ((i : Nat) + (w : Nat) : Int)) (hi := none) st (st.dz (x := .ref t) (d := .lst s.ds) (by walk_at "mem")) fun q4 H1 st => ?_
    walk_at "g"
    refine v_cat st (st.dz (x := .ref q3) (d := .lst (Vf.cutD s.ds none (some ((i : Nat) : Int)) ++ [d1])) (by walk_at "mem")) (st.dz (x := .ref q4) (List.Mem.head _)) (by rw [sizeLine_eq]; simp only [List.length_append, List.length_cons, List.length_nil]; omega) fun q5 H1 st => ?_
    refine k _ _ _ st.endB st.bagB (st.dz (x := .ref q5) (List.Mem.head _)) (elS_lst (fun d m => ?_) ?_ (by omega))
    · rcases List.mem_append.mp m with m | m
      · rcases List.mem_append.mp m with m | m
        · exact cut_ok ho.i d m
        · rw [List.mem_singleton.mp m]; exact o1
      · exact cut_ok ho.i d m
    · simp only [List.length_append, List.length_cons, List.length_nil]; omega
  · rw [decide_eq_false c1]
    refine g_iteF ?_
    walk_at "g"
    by_cases c2 : ((w : Nat) : Int) = 2
    · rw [decide_eq_true c2]
      refine g_iteT ?_
      walk_at "g"
      refine d_tup st (ds := [.int 1, .int 0]) (zl_cons z_int (zl_cons z_int zl_nil)) (by simp) fun q1 H1 st => ?_
      walk_at "g"
      refine d_lst st (ds := [.tup [.int 1, .int 0]]) (zl_cons (st.dz (x := .ref q1) (by walk_at "mem")) zl_nil) (by simp) fun q2 H1 st => ?_
      walk_at "g"
      refine d_lst st (ds := ([0, 5, 7, 9, 16, 23, 25, 48, 10, 24] : List Int).map D.int) (DzL.of_ints _) (by simp) fun q3 H1 st => ?_
      walk_at "g"
      refine c_Dr 10 st (by walk_at "dzl") ⟨by decide, by decide⟩ fun v d H1 ⟨j, e, j0, j1⟩ st => ?_
      subst e
      obtain rfl := st.eqI (List.Mem.head _)
      walk_at "g"
      refine d_ixLP (P := fun d => ∃ z : Int, d = .int z ∧ 0 ≤ z ∧ z ≤ 48) (st.dz (x := .ref q3) (by walk_at "mem")) j0 (by show j < 10; omega) (fun d m => ?_) fun v1 d1 ⟨z, e1, z0, z1⟩ hv => ?_
      · obtain ⟨z, mz, e9⟩ := List.mem_map.mp m
        refine ⟨z, e9.symm, ?_⟩
        simp only [List.mem_cons, List.not_mem_nil, or_false] at mz
        omega
      subst e1
      cases hv
      walk_at "g"
      refine d_repG (d := .tup [.int 1, .int 0]) (k := z) st (st.dz (x := .ref q2) (by walk_at "mem")) (by omega) fun q4 H1 st => ?_
      refine k _ _ _ st.endB st.bagB (st.dz (x := .ref q4) (List.Mem.head _)) (elS_lst (fun d m => ?_) ?_ (by omega))
      · rw [(List.mem_replicate.mp m).2]; decide +kernel
      · rw [List.length_replicate]; omega
    · rw [decide_eq_false c2]
      refine g_iteF ?_
      walk_at "g"
      refine d_tupleL st (ds := s.ds) (st.dz (x := .ref t) (by walk_at "mem")) fun q1 H1 st => ?_
      walk_at "g"
      refine d_dic st fun q2 H1 st => ?_
      walk_at "g"
      refine d_lst st (ds := [.tup s.ds, .non, .dic [], .str (Str.ofString ""), .lst s.ds]) (zl_cons (st.dz (x := .ref q1) (by walk_at "mem")) (zl_cons z_non (zl_cons (st.dz (x := .ref q2) (by walk_at "mem")) (zl_cons z_str (zl_cons (st.dz (x := .ref t) (by walk_at "mem")) zl_nil))))) (by simp) fun q3 H1 st => ?_
      walk_at "g"
      refine c_Dr 5 st (by walk_at "dzl") ⟨by decide, by decide⟩ fun v d H1 ⟨j, e, j0, j1⟩ st => ?_
      subst e
      obtain rfl := st.eqI (List.Mem.head _)
      walk_at "g"
      refine d_ixLP (P := ElS (s.n + 1)) (st.dz (x := .ref q3) (by walk_at "mem")) j0 (by show j < 5; omega) (fun d m => ?_) fun v1 d1 o1 hv => ?_
      · simp only [List.mem_cons, List.not_mem_nil, or_false] at m
        rcases m with rfl | rfl | rfl | rfl | rfl
        · exact elS_tup ho.i (by omega)
        · exact elS_it (by decide +kernel) (fun _ e => by cases e)
        · exact elS_dic
        · exact elS_it (by decide +kernel) (fun _ e => by cases e)
        · exact elS_lst ho.i (by omega) (by omega)
      exact k _ _ _ st.endB st.bagB hv o1

-- needs: _law_take
-- needs: _law_bent_steps
structure Bnd where
  j : Nat
  b : Wx
structure Bnd.Ok (x : Bnd) : Prop where
  j : 48 ≤ x.j ∧ x.j ≤ 60
  e : ∀ d ∈ x.b.enc, ElS x.j d
theorem enc_set (b : Wx) {i : Nat} (hi : i < 5) (d : D) : ∃ b' : Wx, b.enc.set i d = b'.enc := by
  obtain ⟨d1, d2, d3, d4, d5⟩ := b
  rcases (show i = 0 ∨ i = 1 ∨ i = 2 ∨ i = 3 ∨ i = 4 by omega) with rfl | rfl | rfl | rfl | rfl
  · exact ⟨⟨d, d2, d3, d4, d5⟩, rfl⟩
  · exact ⟨⟨d1, d, d3, d4, d5⟩, rfl⟩
  · exact ⟨⟨d1, d2, d, d4, d5⟩, rfl⟩
  · exact ⟨⟨d1, d2, d3, d, d5⟩, rfl⟩
  · exact ⟨⟨d1, d2, d3, d4, d⟩, rfl⟩
def oddP : List D := [.int 0, .int (-1), .int 1, .int (10 ^ 9), .int (10 ^ 9 + 1), .bl true, .non, .str (Str.ofString "1"), .lst [.int 1], .tup [.int 1]]
def oddQ : List D := [.int 0, .int 1, .non, .str (Str.ofString "anew"), .lst [], .bl true]
theorem elS_small {n : Nat} {d : D} (h : itS d = true) (hn : 1 ≤ n) (q : ∀ ds, d = .lst ds → ds.length ≤ 1 ∧ ∀ e ∈ ds, itS e = true) : ElS n d := by
  obtain ⟨a, b, c⟩ := itS_e h
  exact ⟨.inl ⟨a, by omega, by omega⟩, fun ds e => ⟨by have := (q ds e).1; omega, (q ds e).2⟩⟩
theorem oddP_ok {n : Nat} (hn : 1 ≤ n) : ∀ d ∈ oddP, ElS n d := fun d m => by
  refine elS_small (List.all_eq_true.mp (show oddP.all itS = true by decide +kernel) d m) hn fun ds e => ?_
  subst e
  simp only [oddP, List.mem_cons, List.not_mem_nil, or_false, D.lst.injEq, reduceCtorEq, false_or] at m
  subst m
  exact ⟨by simp, fun e m => by rw [List.mem_singleton.mp m]; decide +kernel⟩
theorem oddQ_ok {n : Nat} (hn : 1 ≤ n) : ∀ d ∈ oddQ, ElS n d := fun d m => by
  refine elS_small (List.all_eq_true.mp (show oddQ.all itS = true by decide +kernel) d m) hn fun ds e => ?_
  subst e
  simp only [oddQ, List.mem_cons, List.not_mem_nil, or_false, D.lst.injEq, reduceCtorEq, false_or] at m
  subst m
  exact ⟨by simp, fun e m => by simp at m⟩
def sp__law_bent (K : PySem.W.Frag) : Sp := spDrM K (fun x : Bnd => x.b.enc) (fun _ => []) Bnd.Ok (fun x ds => ∃ b : Wx, ds = b.enc ∧ ∀ d ∈ b.enc, ElS (x.j + 1) d)
theorem ok__law_bent (W : Wd K mg) : FnOk P w K mg base CX0 3 W.a__law_bent W.d__law_bent ["_law_bag_here", "_law_things"] (sp__law_bent K) := by
  refine W.F__law_bent.ok sc__law_bent (fun vs H Q E h => spDrM_len (n := 0) (fun _ => rfl) h) (fun cdv A outer s H vs Q E hr h => ?_)
  obtain ⟨S, b, pa, _, ⟨j, bx⟩, xs, rfl, ok, sb, sp, npb, bg, hp, hx, hz, ho, k⟩ := h
  have hj : 48 ≤ j ∧ j ≤ 60 := ho.j
  have he : ∀ d ∈ bx.enc, ElS j d := ho.e
  have st := St.startBO ok sb sp npb bg hp hx
  obtain rfl := hz
  have st : Vf.St K S (fun c => c = b ∨ c = pa) H H [] [(pa, bx.enc)] [b] := st
  have fin : ∀ {H1 : Hp} {G : List (V × D)} {i : Nat} {d : D}, i < 5 → ElS (j + 1) d → Vf.St K S (fun c => c = b ∨ c = pa) H H1 G [(pa, bx.enc.set i d)] [b] → Q .non H1 := fun {H1 G i d} hi hd st => by
    obtain ⟨e1, e2, e3⟩ := st.endM
    obtain ⟨b', eb⟩ := enc_set bx hi d
    refine k _ _ e1 e2 e3 ⟨b', eb, fun x m => ?_⟩
    rw [← eb] at m
    rcases List.mem_or_eq_of_mem_set m with m | m
    · exact (he x m).mono (Nat.le_succ j)
    · rw [m]; exact hd
  refine ⟨_, (pss_cons (ps_set (i := 2) sc__law_bent.nd rfl (Or.inl rfl) (pe_call (ok__law_take W) (hr.mono (by decide)) (by rfl) W.m__law_take W.F__law_take.kp (b__law_take W) .nil pass0 (pa_cons (pv 0) (pa_cons pe_int pa_nil))))
      (pss_one (ps_if (PW.pt (pw_and (pt_cmpR opLt (pv 2) pe_int (nomark _)) (pw_and1 (pt_val (pe_callB (r := rIsiG K) call_isiG (by rfl) W.n_isinstance (by decide +kernel) (pa_cons (pe_ix (r := rIxG K) ixG (pv 1) (pv 2) (fun _ _ => rfl)) (pa_cons (pe_bltn (v := .ty "list") (by rfl) W.n_list (by decide +kernel) rfl) pa_nil))))))) (pss_one (ps_asg (pe_call (ok__law_bent_steps W) (hr.mono (by decide)) (by rfl) W.m__law_bent_steps W.F__law_bent_steps.kp (b__law_bent_steps W) .nil pass0 (pa_cons (pv 0) (pa_cons (pe_ix (r := rIxG K) ixG (pv 1) (pv 2) (fun _ _ => rfl)) pa_nil))) (pg_sub (pv 1) (pv 2) set_list))) (pss_one (ps_if (pt_cmpR opLt (pv 2) pe_int (nomark _)) (pss_one (ps_asg (pe_ix (r := rIxG K) ixG (pe_lst (pa_cons pe_int (pa_cons (pe_un un_neg pe_int) (pa_cons pe_int (pa_cons (pe_op opPow pe_int pe_int) (pa_cons (pe_op (r := rAddG K) opAdd (pe_op opPow pe_int pe_int) pe_int) (pa_cons pe_bl (pa_cons pe_non (pa_cons pe_str (pa_cons (pe_lst (pa_cons pe_int pa_nil)) (pa_cons (pe_tup (pa_cons pe_int pa_nil)) pa_nil))))))))))) (pe_call (ok__law_take W) (hr.mono (by decide)) (by rfl) W.m__law_take W.F__law_take.kp (b__law_take W) .nil pass0 (pa_cons (pv 0) (pa_cons pe_int pa_nil))) (fun _ _ => rfl)) (pg_sub (pv 1) (pv 2) set_list))) (pss_one (ps_asg (pe_ix (r := rIxG K) ixG (pe_lst (pa_cons pe_int (pa_cons pe_int (pa_cons pe_non (pa_cons pe_str (pa_cons (pe_lst pa_nil) (pa_cons pe_bl pa_nil))))))) (pe_call (ok__law_take W) (hr.mono (by decide)) (by rfl) W.m__law_take W.F__law_take.kp (b__law_take W) .nil pass0 (pa_cons (pv 0) (pa_cons pe_int pa_nil))) (fun _ _ => rfl)) (pg_sub (pv 1) (pv 2) set_list)))))))), ?_⟩
  rw [show start N__law_bent [.ref b, .ref pa] = [some (.ref b), some (.ref pa), none] from rfl]
  try dsimp only [cxOf]
  walk_at "g"
  refine c_Dr 5 st (by walk_at "dzl") ⟨by decide, by decide⟩ fun v d H1 ⟨i, e, i0, i1⟩ st => ?_
  subst e
  obtain rfl := st.eqI (List.Mem.head _)
  obtain ⟨i, rfl⟩ : ∃ j : Nat, i = (j : Int) := ⟨i.toNat, by omega⟩
  have hi : i < 5 := by omega
  have hd : bx.enc[i]? = some (bx.enc[i]'(show i < 5 from hi)) := List.getElem?_eq_getElem (show i < 5 from hi)
  have hel : ElS j (bx.enc[i]'(show i < 5 from hi)) := he _ (List.getElem_mem _)
  generalize (bx.enc[i]'(show i < 5 from hi)) = dx at hd hel
  walk_at "g"
  by_cases c2 : ((i : Nat) : Int) < 2
  · rw [decide_eq_true c2]
    refine g_iteT ?_
    walk_at "g"
    refine d_own_ix st (i := i) (es := bx.enc) (List.Mem.head _) hd fun v hv => ?_
    walk_at "g"
    refine d_isi hv hel.noIns (q := ?_)
    cases hb : isT "list" dx with
    | true =>
      obtain ⟨es, rfl⟩ : ∃ es, dx = .lst es := by
        cases dx <;> first | exact ⟨_, rfl⟩ | (exact absurd hb (by decide)) | (cases hb; done)
      obtain ⟨l1, l2⟩ := hel.l es rfl
      refine ⟨true, rfl, ?_⟩
      refine g_iteT ?_
      walk_at "g"
      refine d_own_ix st (i := i) (es := bx.enc) (List.Mem.head _) hd fun v hv => ?_
      walk_at "g"
      refine c_Dr (⟨j, es⟩ : Bst) st (zl_cons hv zl_nil) ⟨hj, l1, l2⟩ fun v d H1 o1 st => ?_
      walk_at "g"
      refine d_setO st (i := 0) (j := i) (ds := bx.enc) rfl (show i < 5 from hi) (st.dz (x := v) (d := d) (List.Mem.head _)) fun H1 st => ?_
      dsimp only [List.set_cons_zero] at st
      walk_at "g"
      exact fin hi o1 st
    | false =>
      refine ⟨false, rfl, ?_⟩
      refine g_iteF ?_
      walk_at "g"
      rw [decide_eq_true (show ((i : Nat) : Int) < 4 by omega)]
      refine g_iteT ?_
      walk_at "g"
      refine ⟨1, rfl, ?_⟩
      walk_at "g"
      refine v_pow ⟨by decide, by decide, by decide⟩ ?_
      rw [show (10 : Int) ^ (9 : Int).toNat = 10 ^ 9 from rfl]
      walk_at "g"
      refine v_pow ⟨by decide, by decide, by decide⟩ ?_
      rw [show (10 : Int) ^ (9 : Int).toNat = 10 ^ 9 from rfl]
      walk_at "g"
      refine d_lst st (ds := [.int 1]) (zl_cons z_int zl_nil) (by simp) fun q1 H1 st => ?_
      walk_at "g"
      refine d_tup st (ds := [.int 1]) (zl_cons z_int zl_nil) (by simp) fun q2 H1 st => ?_
      walk_at "g"
      refine d_lst st (ds := oddP) (zl_cons z_int (zl_cons z_int (zl_cons z_int (zl_cons z_int (zl_cons z_int (zl_cons z_bl (zl_cons z_non (zl_cons z_str (zl_cons (st.dz (x := .ref q1) (by walk_at "mem")) (zl_cons (st.dz (x := .ref q2) (by walk_at "mem")) zl_nil)))))))))) (show 10 ≤ 100000 by decide) fun q3 H1 st => ?_
      walk_at "g"
      refine c_Dr 10 st (by walk_at "dzl") ⟨by decide, by decide⟩ fun v d H1 ⟨z, e, z0, z1⟩ st => ?_
      subst e
      obtain rfl := st.eqI (List.Mem.head _)
      walk_at "g"
      refine d_ixLP (P := ElS (j + 1)) (st.dz (x := .ref q3) (d := .lst oddP) (by walk_at "mem")) z0 (by show z < 10; omega) (oddP_ok (by omega)) fun v1 d1 o1 hv => ?_
      walk_at "g"
      refine d_setO st (i := 0) (j := i) (ds := bx.enc) rfl (show i < 5 from hi) hv fun H1 st => ?_
      dsimp only [List.set_cons_zero] at st
      walk_at "g"
      exact fin hi o1 st
  · rw [decide_eq_false c2]
    refine g_iteF ?_
    refine g_iteF ?_
    walk_at "g"
    by_cases c4 : ((i : Nat) : Int) < 4
    · rw [decide_eq_true c4]
      refine g_iteT ?_
      walk_at "g"
      refine ⟨1, rfl, ?_⟩
      walk_at "g"
      refine v_pow ⟨by decide, by decide, by decide⟩ ?_
      rw [show (10 : Int) ^ (9 : Int).toNat = 10 ^ 9 from rfl]
      walk_at "g"
      refine v_pow ⟨by decide, by decide, by decide⟩ ?_
      rw [show (10 : Int) ^ (9 : Int).toNat = 10 ^ 9 from rfl]
      walk_at "g"
      refine d_lst st (ds := [.int 1]) (zl_cons z_int zl_nil) (by simp) fun q1 H1 st => ?_
      walk_at "g"
      refine d_tup st (ds := [.int 1]) (zl_cons z_int zl_nil) (by simp) fun q2 H1 st => ?_
      walk_at "g"
      refine d_lst st (ds := oddP) (zl_cons z_int (zl_cons z_int (zl_cons z_int (zl_cons z_int (zl_cons z_int (zl_cons z_bl (zl_cons z_non (zl_cons z_str (zl_cons (st.dz (x := .ref q1) (by walk_at "mem")) (zl_cons (st.dz (x := .ref q2) (by walk_at "mem")) zl_nil)))))))))) (show 10 ≤ 100000 by decide) fun q3 H1 st => ?_
      walk_at "g"
      refine c_Dr 10 st (by walk_at "dzl") ⟨by decide, by decide⟩ fun v d H1 ⟨z, e, z0, z1⟩ st => ?_
      subst e
      obtain rfl := st.eqI (List.Mem.head _)
      walk_at "g"
      refine d_ixLP (P := ElS (j + 1)) (st.dz (x := .ref q3) (d := .lst oddP) (by walk_at "mem")) z0 (by show z < 10; omega) (oddP_ok (by omega)) fun v1 d1 o1 hv => ?_
      walk_at "g"
      refine d_setO st (i := 0) (j := i) (ds := bx.enc) rfl (show i < 5 from hi) hv fun H1 st => ?_
      dsimp only [List.set_cons_zero] at st
      walk_at "g"
      exact fin hi o1 st
    · rw [decide_eq_false c4]
      refine g_iteF ?_
      walk_at "g"
      refine d_lst st (ds := []) zl_nil (by simp) fun q1 H1 st => ?_
      walk_at "g"
      refine d_lst st (ds := oddQ) (zl_cons z_int (zl_cons z_int (zl_cons z_non (zl_cons z_str (zl_cons (st.dz (x := .ref q1) (by walk_at "mem")) (zl_cons z_bl zl_nil)))))) (show 6 ≤ 100000 by decide) fun q3 H1 st => ?_
      walk_at "g"
      refine c_Dr 6 st (by walk_at "dzl") ⟨by decide, by decide⟩ fun v d H1 ⟨z, e, z0, z1⟩ st => ?_
      subst e
      obtain rfl := st.eqI (List.Mem.head _)
      walk_at "g"
      refine d_ixLP (P := ElS (j + 1)) (st.dz (x := .ref q3) (d := .lst oddQ) (by walk_at "mem")) z0 (by show z < 6; omega) (oddQ_ok (by omega)) fun v1 d1 o1 hv => ?_
      walk_at "g"
      refine d_setO st (i := 0) (j := i) (ds := bx.enc) rfl (show i < 5 from hi) hv fun H1 st => ?_
      dsimp only [List.set_cons_zero] at st
      walk_at "g"
      exact fin hi o1 st

-- needs: _law_within
-- needs: is_step
def sp__law_is_step (K : PySem.W.Frag) : Sp := spBl K (fun d : D => [d]) PreStep isStep
theorem ok__law_is_step (W : Wd K mg) : FnOk P w K mg base CX0 2 W.a__law_is_step W.d__law_is_step ["_law_thing"] (sp__law_is_step K) := by
  refine W.F__law_is_step.ok sc__law_is_step (fun vs H Q E h => spBl_len (n := 1) (fun _ => rfl) h) (fun cdv A outer s H vs Q E hr h => ?_)
  obtain ⟨S, d, ok, hz, hp, k⟩ := h
  have st := St.start ok hz
  obtain ⟨x, _, rfl, hx, rfl⟩ := hz
  have fin : ∀ b H', Same H H' → b = isStep d → Q (.bl b) H' := fun b H' e eb => by rw [eb]; exact k H' e
  refine ⟨_, (pss_cons (ps_if (PW.pt (pw_or (pt_not (pt_val (pe_callB (r := rIsiG K) call_isiG (by rfl) W.n_isinstance (by decide +kernel) (pa_cons (pv 0) (pa_cons (pe_bltn (v := .ty "tuple") (by rfl) W.n_tuple (by decide +kernel) rfl) pa_nil))))) (pw_or1 (pt_cmpR (r := rNeG K) (opNe hr.units) (pe_callB (r := rLenG K) call_lenG (by rfl) W.n_len PySem.boot_len (pa_cons (pv 0) pa_nil)) pe_int (nomark _))))) (pss_one (ps_ret pe_bl)) pss_nil)
      (pss_one (ps_ret (pe_andT (pe_call (ok__law_within W) (hr.mono (by decide)) (by rfl) W.m__law_within W.F__law_within.kp (b__law_within W) .nil pass0 (pa_cons (pe_ix (r := rIxG K) ixG (pv 0) pe_int (fun _ _ => rfl)) (pa_cons pe_int (pa_cons pe_int pa_nil)))) (pe_one (pe_call (ok__law_within W) (hr.mono (by decide)) (by rfl) W.m__law_within W.F__law_within.kp (b__law_within W) .nil pass0 (pa_cons (pe_ix (r := rIxG K) ixG (pv 0) pe_int (fun _ _ => rfl)) (pa_cons pe_int (pa_cons (pe_op opPow pe_int pe_int) pa_nil))))))))), ?_⟩
  rw [show start N__law_is_step [x] = [some (x)] from rfl]
  try dsimp only [cxOf]
  walk_at "g"
  refine d_isi hx hp.no (q := ?_)
  walk_at "g"
  refine g_ite (fun hb => ?_) (fun hb => ?_)
  · walk_at "g"
    refine fin _ _ st.end_ ?_
    cases d <;> first | rfl | (simp [isT, D.tn] at hb; done)
  · cases d with
    | tup ds =>
      obtain ⟨a, rfl⟩ := st.isT (by walk_at "mem")
      walk_at "g"
      refine d_lenT (st.dz (by walk_at "mem")) ?_
      walk_at "g"
      refine g_decN (fun h2 => ?_) (fun h2 => ?_)
      · walk_at "g"
        refine fin _ _ st.end_ ?_
        match ds, h2 with
        | [], _ => rfl
        | [_], _ => rfl
        | [_, _], h2 => exact absurd rfl h2
        | _ :: _ :: _ :: _, _ => rfl
      · have h3 : ds.length = 2 := by omega
        match ds, h3 with
        | [d1, d2], _ =>
        obtain ⟨n1, n2⟩ := hp.pair d1 d2 rfl
        walk_at "g"
        refine d_ixT (i := 0) (st.dz (x := .ref a) (by walk_at "mem")) rfl fun v1 hv1 => ?_
        walk_at "g"
        refine c_Bl (d1, 1, 9) st (zl_cons hv1 (zl_cons z_int (zl_cons z_int zl_nil))) n1 fun H1 st => ?_
        walk_at "g"
        have hk : isWithin (d1, (1 : Int), (9 : Int)).1 (d1, (1 : Int), (9 : Int)).2.1 (d1, (1 : Int), (9 : Int)).2.2 = isWithin d1 1 9 := rfl
        rw [hk]
        cases hb1 : isWithin d1 1 9 with
        | true =>
          refine ⟨true, rfl, ?_⟩
          walk_at "g"
          refine d_ixT (i := 1) (st.dz (x := .ref a) (by walk_at "mem")) rfl fun v2 hv2 => ?_
          walk_at "g"
          refine v_pow ⟨by decide, by decide, by decide⟩ ?_
          rw [show (10 : Int) ^ (9 : Int).toNat = 10 ^ 9 from rfl]
          walk_at "g"
          refine c_Bl (d2, 0, 10 ^ 9) st (zl_cons hv2 (zl_cons z_int (zl_cons z_int zl_nil))) n2 fun H2 st => ?_
          refine fin _ _ st.end_ ?_
          simp only [isStep, hb1, Bool.true_and]
        | false =>
          refine ⟨false, rfl, ?_⟩
          walk_at "g"
          refine fin _ _ st.end_ ?_
          simp only [isStep, hb1, Bool.false_and]
    | _ => simp [isT, D.tn] at hb

-- needs: Wrong___init__
/-- told the place of a Wrong that it is handed -/
def sp__law_refused (Wr : Addr) (a : Addr) (cls : Value) (d : Option Addr) : Sp := fun vs H Q _ => ∃ (dd : Addr) (i : Int), vs = [.ref a] ∧ cls = .ref Wr ∧ d = some dd ∧ H dd = some (.xd [("place", .int i)]) ∧ ∀ H', Same H H' → Q (.int i) H'
theorem ok__law_refused (W : Wd K mg) : FnP P w K mg base 3 W.a__law_refused W.d__law_refused ["_law_e"] (sp__law_refused W.C_Wrong) := by
  refine okP W.F__law_refused sc__law_refused (fun a cls d vs H Q E h => by obtain ⟨_, _, rfl, _⟩ := h; rfl) (fun cdv A outer s H vs Q E a oe cls d hz hf hr h => ?_)
  have hp : (a, oe) ∈ [(a, oe)] := List.mem_cons_self
  obtain ⟨dd, i, rfl, rfl, rfl, hx, k⟩ := h
  refine ⟨_, (pss_cons (ps_if (PW.pt (pw_or (pt_not (pt_val (pe_callB (call_isPN hz hf hp) (by rfl) W.n_isinstance (by decide +kernel) (pa_cons (pv 0) (pa_cons (pe_glob (v := V.ref W.C_Wrong) rfl W.c_Wrong rfl) pa_nil))))) (pw_or1 (pt_val (pe_callB (call_isPN hz hf hp) (by rfl) W.n_isinstance (by decide +kernel) (pa_cons (pv 0) (pa_cons (pe_tup (pa_cons (pe_glob (v := V.ref W.C_NoText) rfl W.c_NoText rfl) (pa_cons (pe_glob (v := V.ref W.C_TooMany) rfl W.c_TooMany rfl) pa_nil))) pa_nil))))))) (pss_one (ps_ret pe_str)) pss_nil)
      (pss_one (ps_ret (pe_pf W.x_Wrong.xf W.nf_Wrong hz hf hp (pv 0))))), ?_⟩
  rw [show start N__law_refused [.ref a] = [some (.ref a)] from rfl]
  try dsimp only [cxOf]
  walk_at "g"
  refine d_isX W.x_Wrong hx (kit_own W.x_Wrong W.x_Wrong W.x_Wrong.ss) ?_
  walk_at "g"
  refine ⟨by show 2 ≤ sizeLine; decide, fun tp n => ?_⟩
  have e1 : Same H (upd H tp (.tup [.ref W.C_NoText, .ref W.C_TooMany])) := Same.upd n
  have ht : (upd H tp (.tup [.ref W.C_NoText, .ref W.C_TooMany])) tp = some (.tup [.ref W.C_NoText, .ref W.C_TooMany]) := upd_same
  generalize upd H tp (.tup [.ref W.C_NoText, .ref W.C_TooMany]) = H1 at e1 ht ⊢
  walk_at "g"
  refine d_isXT (ts := [W.C_NoText, W.C_TooMany]) W.x_Wrong (e1 _ _ hx) ht (ka_no (kit_own W.x_Wrong W.x_NoText W.su_Wrong_NoText) (ka_no (kit_own W.x_Wrong W.x_TooMany W.su_Wrong_TooMany) ka_nil)) ?_
  walk_at "g"
  refine g_var rfl ?_
  exact d_xf (e1 _ _ hx) (k _ e1)

-- needs: Wane___init____x
-- needs: _law_refused
theorem d_gL {K : PySem.W.Frag} {S : AS} {H : Hp} {a : Addr} {ds : List D} {n : Nat} {tg : TGs} {σ : L2.St} {N : L2.St → Hp → Prop} (h : Dz K S H (.lst ds) (.ref a)) (hn : ds.length = n) (q : ∀ xs, DzL K S H ds xs → tg xs σ H N) : gLst K n tg (.ref a) σ H N := by
  obtain ⟨xs, h1, h2⟩ := z_lst h
  exact ⟨a, xs, rfl, h1.sq, by rw [h2.len, hn], q xs h2⟩
theorem c_makeW {K : PySem.W.Frag} {S M : AS} {H0 H : Hp} {G : List (V × D)} {L : List (Addr × List D)} {B : List Addr} {Q : VK} {C Wr : Addr} {n m : Nat} {gV : List V → List V → List V} {E : XK} {vs zs : List V} (b : Wx) (st : Vf.St K S M H0 H G L B) (hn : vs.length = n) (hm : zs.length = m) (r : List V) (hg : ∀ a, gV (.ref a :: vs) zs = .ref a :: r) (hz : DzL K S H b.enc r) (hp : b.Pre) (bad : false ∈ b.bs)
    (q : ∀ d H', H d = none → H' d = some (.xd [("place", .int (b.bs.idxOf false : Nat))]) → Vf.St K S M H0 H' G L B → E (.ref Wr) (some d) H') : FMake C n m (spInW K C Wr) gV E vs Q zs H := by
  refine ⟨hn, hm, fun a dx na nd ne => ?_⟩
  have e1 : Same H (upd (upd H dx (.own a)) a (.ins C dx [])) := fun c o h => by
    rw [upd_ne (ne_of_none h na), upd_ne (ne_of_none h nd)]
    exact h
  have ok2 : Okk (fun c => S c ∨ c = a) (upd (upd H dx (.own a)) a (.ins C dx [])) := fun c s => by
    rcases s with s | s
    · exact st.ok.same e1 c s
    · subst s; rw [upd_same]; exact fun w => by cases w
  refine ⟨fun c => S c ∨ c = a, b, a, dx, r, hg a, ok2, .inr rfl, upd_same, DzL.same e1 (DzL.fresh na hz), hp, bad, fun d H' k hd hx => ?_⟩
  have n1 : d ≠ a := fun z => by rw [z, upd_same] at hd; cases hd
  rw [upd_ne n1] at hd
  have n2 : d ≠ dx := fun z => by rw [z, upd_same] at hd; cases hd
  rw [upd_ne n2] at hd
  exact q d H' hd hx (st.same fun c o h => k c o (e1 c o h))
theorem make_or {C : Addr} {n m : Nat} {sp sp' : Sp} {gV : List V → List V → List V} {E : XK} {vs zs : List V} {Q : VK} {H : Hp} (h : FMake C n m sp gV E vs Q zs H ∨ FMake C n m sp' gV E vs Q zs H) : FMake C n m (spOr sp sp') gV E vs Q zs H :=
  h.elim (fun h => ⟨h.1, h.2.1, fun a dx na nd ne => .inl (h.2.2 a dx na nd ne)⟩) (fun h => ⟨h.1, h.2.1, fun a dx na nd ne => .inr (h.2.2 a dx na nd ne)⟩)
theorem within_of {d : D} {lo hi : Int} (h : isWithin d lo hi = true) : ∃ i, lo ≤ i ∧ i ≤ hi ∧ d = .int i := by
  cases d <;> first | (rename_i i; exact ⟨i, (of_decide_eq_true h).1, (of_decide_eq_true h).2, rfl⟩) | (cases h; done)
theorem step_of {d : D} (h : isStep d = true) : ∃ s, stepOk s ∧ d = stepD s := by
  cases d with
  | tup ds =>
    match ds, h with
    | [a, b], h =>
      have h : (isWithin a 1 9 && isWithin b 0 (10 ^ 9)) = true := h
      rw [Bool.and_eq_true] at h
      obtain ⟨i, i1, i2, rfl⟩ := within_of h.1
      obtain ⟨j, j1, j2, rfl⟩ := within_of h.2
      exact ⟨(i, j), ⟨i1, i2, j1, j2⟩, rfl⟩
    | [], h => cases h
    | [_], h => cases h
    | _ :: _ :: _ :: _, h => cases h
  | _ => cases h
theorem steps_of : ∀ {ds : List D}, ds.all isStep = true → ∃ l : List (Int × Int), (∀ s ∈ l, stepOk s) ∧ ds = l.map stepD
  | [], _ => ⟨[], ⟨fun _ m => absurd m (by simp), rfl⟩⟩
  | d :: ds, h => by
    rw [List.all_cons, Bool.and_eq_true] at h
    obtain ⟨s, hs, rfl⟩ := step_of h.1
    obtain ⟨l, hl, rfl⟩ := steps_of h.2
    refine ⟨s :: l, fun x m => ?_, rfl⟩
    rcases List.mem_cons.mp m with e | m
    · rw [e]; exact hs
    · exact hl x m
theorem Wx.good {b : Wx} (h : false ∉ b.bs) : ∃ wn : Wn, wn.Ok ∧ b.enc = encW wn := by
  obtain ⟨d1, d2, d3, d4, d5⟩ := b
  have g : isHead d1 = true ∧ isTail d2 = true ∧ isWithin d3 1 (10 ^ 9) = true ∧ isWithin d4 0 (10 ^ 9) = true ∧ isT "bool" d5 = true := by
    simp only [Wx.bs, List.mem_cons, List.not_mem_nil, or_false, not_or] at h
    simpa using h
  obtain ⟨g1, g2, g3, g4, g5⟩ := g
  unfold isHead at g1
  unfold isTail at g2
  rw [Bool.and_eq_true] at g1 g2
  obtain ⟨i, i1, i2, rfl⟩ := within_of g3
  obtain ⟨j, j1, j2, rfl⟩ := within_of g4
  obtain ⟨e1, rfl⟩ : ∃ e, d1 = .lst e := by
    cases d1 <;> first | exact ⟨_, rfl⟩ | (cases g1.1; done)
  obtain ⟨e2, rfl⟩ : ∃ e, d2 = .lst e := by
    cases d2 <;> first | exact ⟨_, rfl⟩ | (cases g2.1; done)
  obtain ⟨x, rfl⟩ : ∃ x, d5 = .bl x := by
    cases d5 <;> first | exact ⟨_, rfl⟩ | (exact absurd g5 (by decide)) | (cases g5; done)
  obtain ⟨l1, o1, rfl⟩ := steps_of g1.1
  obtain ⟨l2, o2, rfl⟩ := steps_of g2.1
  have n1 := of_decide_eq_true g1.2
  have n2 := of_decide_eq_true g2.2
  simp only [dlen, List.length_map] at n1 n2
  exact ⟨⟨l1, l2, i, j, x⟩, ⟨n1, n2, o1, o2, i1, i2, j1, j2⟩, rfl⟩
/-- the place that is refused -/
def Wx.due (b : Wx) : D := if false ∈ b.bs then .int (b.bs.idxOf false : Nat) else .non
def sp__law_told (K : PySem.W.Frag) : Sp := spV K (fun b : Wx => [.lst b.enc]) Wx.Pre Wx.due
theorem ok__law_told (W : Wd K mg) : FnOk P w K mg base CX0 9 W.a__law_told W.d__law_told ["_law_things"] (sp__law_told K) := by
  refine W.F__law_told.ok sc__law_told (fun vs H Q E h => spV_len (n := 1) (fun _ => rfl) h) (fun cdv A outer s H vs Q E hr h => ?_)
  obtain ⟨S, b, ok, hz, ho, k⟩ := h
  have ho : b.Pre := ho
  have st := St.start ok hz
  obtain ⟨x, _, rfl, hx, rfl⟩ := hz
  obtain ⟨p, rfl⟩ := st.isL (x := x) (ds := b.enc) (by walk_at "mem")
  refine ⟨_, (pss_cons (ps_asg (pv 0) (pg_lst (by rfl) (pgs_cons (pg_name (i := 2) sc__law_told.nd rfl (.inl rfl)) (pgs_cons (pg_name (i := 3) sc__law_told.nd rfl (.inl rfl)) (pgs_cons (pg_name (i := 4) sc__law_told.nd rfl (.inl rfl)) (pgs_cons (pg_name (i := 5) sc__law_told.nd rfl (.inl rfl)) (pgs_cons (pg_name (i := 6) sc__law_told.nd rfl (.inl rfl)) pgs_nil)))))))
      (pss_cons (ps_tryAs (i := 1) rfl rfl sc__law_told.nd rfl rfl ⟨by rfl, by decide, .inl W.c_WaneError⟩
        (fun Wt pn xe tk po => (pss_one (ps_expr (pe_makeK W.K_Wane (ok_Wane___init____x W) (hr.mono (by decide)) (by rfl) W.c_Wane (kb_Wane___init___2_anew_lift_cap W).choose_spec (passN 7 rfl tk) (pa_cons (pv 2) (pa_cons (pv 3) pa_nil)) (pk_cons (pv 6) (pk_cons (pv 5) (pk_cons (pv 4) pk_nil)))))))
        (fun a oe cls d pn hz hf => (pss_one (ps_ret (pe_callP (ok__law_refused W) (roomS hr (by decide)) (by rfl) W.m__law_refused W.F__law_refused.kp (b__law_refused W) hz hf List.mem_cons_self (pa_cons (pv 1) pa_nil))))))
      (pss_one (ps_ret pe_non)))), ?_⟩
  rw [show start N__law_told [.ref p] = [some (.ref p), none, none, none, none, none, none] from rfl]
  try dsimp only [cxOf]
  walk_at "g"
  refine d_gL (st.dz (x := .ref p) (d := .lst b.enc) (List.Mem.head _)) rfl fun xs hxs => ?_
  obtain ⟨x1, _, rfl, h1, x2, _, rfl, h2, x3, _, rfl, h3, x4, _, rfl, h4, x5, _, rfl, h5, rfl⟩ := id hxs
  walk_at "g"
  refine g_tryAs ?_
  walk_at "g"
  refine make_or ?_
  by_cases bad : false ∈ b.bs
  · refine .inr ?_
    refine c_makeW (E := fun c d H' => _) b st rfl rfl [x1, x2, x3, x4, x5] (fun _ => rfl) hxs ho bad fun dx H1 nd hx st => ?_
    refine w_as (exm_own W.x_WaneError W.su_Wrong_WaneError) fun σ e hs ne => ?_
    walk_at "g"
    refine g_callP ?_
    walk_at "g"
    refine g_var (get_set hs (by decide)) ?_
    walk_at "g"
    refine ⟨dx, _, rfl, rfl, rfl, hx, fun H2 e2 => ?_⟩
    walk_at "g"
    exact k _ _ (st.same e2).end_ (by unfold Wx.due; rw [if_pos bad]; rfl)
  · refine .inl ?_
    obtain ⟨wn, ow, ee⟩ := b.good bad
    rw [ee] at hxs
    refine c_make wn st rfl rfl [x1, x2, x3, x4, x5] (fun _ => rfl) hxs ow fun q H1 st => ?_
    walk_at "g"
    exact k .non H1 st.end_ (by unfold Wx.due; rw [if_neg bad]; rfl)

-- needs: _law_told
-- needs: _law_is_step
-- needs: _law_within
theorem ix5 (b0 b1 b2 b3 b4 : Bool) {i : Nat} (hi : i < 5) : ([b0, b1, b2, b3, b4][i]? = some false → [b0, b1, b2, b3, b4].idxOf false ≤ i) ∧ ([b0, b1, b2, b3, b4][i]? = some true → [b0, b1, b2, b3, b4].idxOf false ≠ i) := by
  rcases (show i = 0 ∨ i = 1 ∨ i = 2 ∨ i = 3 ∨ i = 4 by omega) with rfl | rfl | rfl | rfl | rfl <;> revert b0 b1 b2 b3 b4 <;> decide
theorem in5 (b0 b1 b2 b3 b4 : Bool) : (false ∈ [b0, b1, b2, b3, b4]) ↔ [b0, b1, b2, b3, b4].idxOf false < 5 := by
  revert b0 b1 b2 b3 b4; decide
def sp__law_due (K : PySem.W.Frag) : Sp := spV K (fun b : Wx => [.lst b.enc]) Wx.Pre Wx.due
theorem ok__law_due (W : Wd K mg) : FnOk P w K mg base CX0 3 W.a__law_due W.d__law_due ["_law_things"] (sp__law_due K) := by
  refine W.F__law_due.ok sc__law_due (fun vs H Q E h => spV_len (n := 1) (fun _ => rfl) h) (fun cdv A outer s H vs Q E hr h => ?_)
  obtain ⟨S, ⟨d1, d2, d3, d4, d5⟩, ok, hz, ho, k⟩ := h
  have ho : Wx.Pre ⟨d1, d2, d3, d4, d5⟩ := ho
  have st := St.start ok hz
  obtain ⟨x, _, rfl, hx, rfl⟩ := hz
  obtain ⟨p, rfl⟩ := st.isL (x := x) (ds := [d1, d2, d3, d4, d5]) (by walk_at "mem")
  refine ⟨_, (pss_cons (ps_asg (pv 0) (pg_lst (by rfl) (pgs_cons (pg_name (i := 2) sc__law_due.nd rfl (.inl rfl)) (pgs_cons (pg_name (i := 3) sc__law_due.nd rfl (.inl rfl)) (pgs_cons (pg_name (i := 4) sc__law_due.nd rfl (.inl rfl)) (pgs_cons (pg_name (i := 5) sc__law_due.nd rfl (.inl rfl)) (pgs_cons (pg_name (i := 6) sc__law_due.nd rfl (.inl rfl)) pgs_nil)))))))
      (pss_cons (ps_set (i := 1) sc__law_due.nd rfl (Or.inr rfl) (pe_lst (pa_cons (pe_callB (r := rIsiG K) call_isiG (by rfl) W.n_isinstance (by decide +kernel) (pa_cons (pv 2) (pa_cons (pe_bltn (v := .ty "list") (by rfl) W.n_list (by decide +kernel) rfl) pa_nil))) (pa_cons (pe_callB (r := rIsiG K) call_isiG (by rfl) W.n_isinstance (by decide +kernel) (pa_cons (pv 3) (pa_cons (pe_bltn (v := .ty "list") (by rfl) W.n_list (by decide +kernel) rfl) pa_nil))) (pa_cons (pe_call (ok__law_within W) (hr.mono (by decide)) (by rfl) W.m__law_within W.F__law_within.kp (b__law_within W) .nil pass0 (pa_cons (pv 4) (pa_cons pe_int (pa_cons (pe_op opPow pe_int pe_int) pa_nil)))) pa_nil)))))
      (pss_mid (ps_if (pt_truth (pe_ix (r := rIxG K) ixG (pv 1) pe_int (fun _ _ => rfl)) (by intro _; rfl)) (pss_one (ps_asg (pe_and (pe_cmpR opLe (pe_callB (r := rLenG K) call_lenG (by rfl) W.n_len PySem.boot_len (pa_cons (pv 2) pa_nil)) pe_int (nomark _)) (pe_one (pe_callB (cr_all rfl) (by rfl) W.n_all (by decide +kernel) (pa_cons (pe_lc (own := [("_law_one", 8)]) rfl sc__law_due.nd (piG (pv 2)) (blkOk_by (N := N__law_due) (sc := defScope s__law_due) (by decide +kernel)) (fun _ _ _ _ _ => (pg_name (i := 8) sc__law_due.nd rfl (.inl rfl))) (fun _ _ _ _ _ => pts_nil) (fun _ _ _ _ _ => (pe_call (ok__law_is_step W) (hr.mono (by decide)) (by rfl) W.m__law_is_step W.F__law_is_step.kp (b__law_is_step W) .nil pass0 (pa_cons (pv 8) pa_nil)))) pa_nil)))) (pg_sub (pv 1) pe_int set_list))) pss_nil)
      (pss_mid (ps_if (pt_truth (pe_ix (r := rIxG K) ixG (pv 1) pe_int (fun _ _ => rfl)) (by intro _; rfl)) (pss_one (ps_asg (pe_and (pe_cmpR (r := rInG K) opIn (pe_callB (r := rLenG K) call_lenG (by rfl) W.n_len PySem.boot_len (pa_cons (pv 3) pa_nil)) (pe_tup (pa_cons pe_int (pa_cons pe_int (pa_cons pe_int (pa_cons pe_int (pa_cons pe_int (pa_cons pe_int (pa_cons pe_int (pa_cons pe_int pa_nil))))))))) (by rfl)) (pe_one (pe_callB (cr_all rfl) (by rfl) W.n_all (by decide +kernel) (pa_cons (pe_lc (own := [("_law_one", 8)]) rfl sc__law_due.nd (piG (pv 3)) (blkOk_by (N := N__law_due) (sc := defScope s__law_due) (by decide +kernel)) (fun _ _ _ _ _ => (pg_name (i := 8) sc__law_due.nd rfl (.inl rfl))) (fun _ _ _ _ _ => pts_nil) (fun _ _ _ _ _ => (pe_call (ok__law_is_step W) (hr.mono (by decide)) (by rfl) W.m__law_is_step W.F__law_is_step.kp (b__law_is_step W) .nil pass0 (pa_cons (pv 8) pa_nil)))) pa_nil)))) (pg_sub (pv 1) pe_int set_list))) pss_nil)
      (pss_cons (ps_set (i := 1) sc__law_due.nd rfl (Or.inr rfl) (pe_op (r := rAddG K) opAdd (pv 1) (pe_lst (pa_cons (pe_call (ok__law_within W) (hr.mono (by decide)) (by rfl) W.m__law_within W.F__law_within.kp (b__law_within W) .nil pass0 (pa_cons (pv 5) (pa_cons pe_int (pa_cons (pe_op opPow pe_int pe_int) pa_nil)))) (pa_cons (pe_callB (r := rIsiG K) call_isiG (by rfl) W.n_isinstance (by decide +kernel) (pa_cons (pv 6) (pa_cons (pe_bltn (v := .ty "bool") (by rfl) W.n_bool (by decide +kernel) rfl) pa_nil))) pa_nil)))))
      (pss_one (ps_ret (pe_ix (r := rIxG K) ixG (pe_op (r := rAddG K) opAdd (pe_lc (own := [("_law_at", 7)]) rfl sc__law_due.nd (pi_range1 (by rfl) W.n_range (pa_cons pe_int pa_nil)) (blkOk_by (N := N__law_due) (sc := defScope s__law_due) (by decide +kernel)) (fun _ _ _ _ _ => (pg_name (i := 7) sc__law_due.nd rfl (.inl rfl))) (fun _ _ _ _ _ => (pts_one (pt_not (pt_truthR (r := rTruG K) (pe_ix (r := rIxG K) ixG (pv 1) (pv 7) (fun _ _ => rfl)) truG (by intro _; rfl))))) (fun _ _ _ _ _ => (pv 7))) (pe_lst (pa_cons pe_non pa_nil))) pe_int (fun _ _ => rfl))))))))), ?_⟩
  rw [show start N__law_due [.ref p] = [some (.ref p), none, none, none, none, none, none, none, none] from rfl]
  try dsimp only [cxOf]
  walk_at "g"
  refine d_gL (st.dz (x := .ref p) (d := .lst [d1, d2, d3, d4, d5]) (List.Mem.head _)) rfl fun xs hxs => ?_
  obtain ⟨x1, _, rfl, h1, x2, _, rfl, h2, x3, _, rfl, h3, x4, _, rfl, h4, x5, _, rfl, h5, rfl⟩ := id hxs
  have st := ((((st.add h1).add h2).add h3).add h4).add h5
  walk_at "g"
  refine d_isi h1 ho.h.no (q := ?_)
  walk_at "g"
  refine d_isi h2 ho.t.no (q := ?_)
  walk_at "g"
  refine v_pow ⟨by decide, by decide, by decide⟩ ?_
  rw [show (10 : Int) ^ (9 : Int).toNat = 10 ^ 9 from rfl]
  walk_at "g"
  refine c_Bl (d3, (1 : Int), (10 ^ 9 : Int)) st (zl_cons h3 (zl_cons z_int (zl_cons z_int zl_nil))) ho.c fun H1 st => ?_
  rw [show isWithin (d3, (1 : Int), (10 ^ 9 : Int)).1 (d3, (1 : Int), (10 ^ 9 : Int)).2.1 (d3, (1 : Int), (10 ^ 9 : Int)).2.2 = isWithin d3 1 (10 ^ 9) from rfl]
  walk_at "g"
  refine d_own st (ds := [.bl (isT "list" d1), .bl (isT "list" d2), .bl (isWithin d3 1 (10 ^ 9))]) (zl_cons z_bl (zl_cons z_bl (zl_cons z_bl zl_nil))) (by simp) fun g H1 ng st => ?_
  have st := st.sub (G' := [(x1, d1), (x2, d2), (x3, d3), (x4, d4), (x5, d5)]) (by walk_at "sub")
  walk_at "g"
  refine g_mid (fun σ' H' => ∃ y8 : Option V, σ' = [some (.ref p), some (.ref g), some x1, some x2, some x3, some x4, some x5, none, y8] ∧ Vf.St K (fun b => S b ∨ b = g) (fun _ => False) H H' [(x1, d1), (x2, d2), (x3, d3), (x4, d4), (x5, d5)] [(g, [.bl (isHead d1), .bl (isT "list" d2), .bl (isWithin d3 1 (10 ^ 9))])] []) ?_ ?_
  · walk_at "g"
    refine d_own_ix st (i := 0) (List.Mem.head _) rfl fun v hv => ?_
    obtain rfl : v = .bl (isT "list" d1) := hv
    refine ⟨_, rfl, ?_⟩
    cases hb : isT "list" d1 with
    | true =>
      obtain ⟨es, rfl⟩ : ∃ es, d1 = .lst es := by
        cases d1 <;> first | exact ⟨_, rfl⟩ | (exact absurd hb (by decide)) | (cases hb; done)
      obtain ⟨few, pre⟩ := ho.h.few es rfl
      obtain ⟨a, rfl⟩ := st.isL (x := x1) (ds := es) (by walk_at "mem")
      refine g_iteT ?_
      walk_at "g"
      refine d_lenL (st.dz (x := .ref a) (by walk_at "mem")) ?_
      walk_at "g"
      by_cases c1 : (es.length : Int) ≤ 24
      · rw [decide_eq_true c1]
        refine g_iteT ?_
        walk_at "g"
        refine i_lst ?_
        walk_at "g"
        refine lc_L st (ds := es) (by walk_at "mem") (fun i es' => es' = (es.take i).map fun d => D.bl (isStep d)) (by simp) ?_ ?_
        · rintro q i d x H1 es' nq hd hi hl pe st
          walk_at "g"
          refine ⟨rfl, ?_⟩
          walk_at "g"
          refine c_Bl d st (zl_cons (st.dz (x := x) (List.Mem.head _)) zl_nil) (pre d (List.mem_of_getElem? hd)) fun H2 st => ?_
          refine lc_end st (fun q h => List.mem_cons_of_mem _ h) (by omega) hl z_bl ?_
          rw [pe, take_snoc hd, List.map_append]
          rfl
        · rintro q H1 es' pe hl st
          have e2 : es' = (es.map isStep).map D.bl := by rw [pe, List.take_length, List.map_map]; rfl
          subst e2
          walk_at "g"
          refine d_all (st.dz (x := .ref q) (List.Mem.head _)) ?_
          rw [all_map]
          walk_at "g"
          refine d_setO st (i := 0) (j := 0) (d := .bl (es.all isStep)) rfl (by simp) z_bl fun H1 st => ?_
          dsimp only [List.set_cons_zero, List.set_cons_succ] at st
          refine ⟨_, rfl, ?_⟩
          rw [show isHead (.lst es) = es.all isStep from by show (es.all isStep && decide (es.length ≤ 24)) = _; rw [decide_eq_true (by omega), Bool.and_true]]
          exact st.sub (by walk_at "sub")
      · rw [decide_eq_false c1]
        refine g_iteF ?_
        walk_at "g"
        refine d_setO st (i := 0) (j := 0) (d := .bl false) rfl (by simp) z_bl fun H1 st => ?_
        dsimp only [List.set_cons_zero, List.set_cons_succ] at st
        refine ⟨_, rfl, ?_⟩
        rw [show isHead (.lst es) = false from by show (es.all isStep && decide (es.length ≤ 24)) = _; rw [decide_eq_false (by omega), Bool.and_false]]
        exact st.sub (by walk_at "sub")
    | false =>
      refine g_iteF ?_
      walk_at "g"
      refine ⟨_, rfl, ?_⟩
      rw [hb] at st
      rw [show isHead d1 = false from by unfold isHead; cases d1 <;> first | rfl | (cases hb; done)]
      exact st.sub (by walk_at "sub")
  · rintro σ' H3 ⟨y8, rfl, st⟩
    walk_at "g"
    refine g_mid (fun σ' H' => ∃ y8 : Option V, σ' = [some (.ref p), some (.ref g), some x1, some x2, some x3, some x4, some x5, none, y8] ∧ Vf.St K (fun b => S b ∨ b = g) (fun _ => False) H H' [(x1, d1), (x2, d2), (x3, d3), (x4, d4), (x5, d5)] [(g, [.bl (isHead d1), .bl (isTail d2), .bl (isWithin d3 1 (10 ^ 9))])] []) ?_ ?_
    · walk_at "g"
      refine d_own_ix st (i := 1) (List.Mem.head _) rfl fun v hv => ?_
      obtain rfl : v = .bl (isT "list" d2) := hv
      refine ⟨_, rfl, ?_⟩
      cases hb : isT "list" d2 with
      | true =>
        obtain ⟨es, rfl⟩ : ∃ es, d2 = .lst es := by
          cases d2 <;> first | exact ⟨_, rfl⟩ | (exact absurd hb (by decide)) | (cases hb; done)
        obtain ⟨few, pre⟩ := ho.t.few es rfl
        obtain ⟨a, rfl⟩ := st.isL (x := x2) (ds := es) (by walk_at "mem")
        refine g_iteT ?_
        walk_at "g"
        refine d_lenL (st.dz (x := .ref a) (by walk_at "mem")) ?_
        walk_at "g"
        refine d_tup st (ds := tails.map D.int) (DzL.of_ints tails) (by simp [tails]) fun t H1 st => ?_
        walk_at "g"
        refine d_inTI (ns := tails) (st.dz (x := .ref t) (List.Mem.head _)) ?_
        walk_at "g"
        by_cases c1 : (es.length : Int) ∈ tails
        · rw [decide_eq_true c1]
          walk_at "g"
          refine i_lst ?_
          walk_at "g"
          refine lc_L st (ds := es) (by walk_at "mem") (fun i es' => es' = (es.take i).map fun d => D.bl (isStep d)) (by simp) ?_ ?_
          · rintro q i d x H1 es' nq hd hi hl pe st
            walk_at "g"
            refine ⟨rfl, ?_⟩
            walk_at "g"
            refine c_Bl d st (zl_cons (st.dz (x := x) (List.Mem.head _)) zl_nil) (pre d (List.mem_of_getElem? hd)) fun H2 st => ?_
            refine lc_end st (fun q h => List.mem_cons_of_mem _ h) (by omega) hl z_bl ?_
            rw [pe, take_snoc hd, List.map_append]
            rfl
          · rintro q H1 es' pe hl st
            have e2 : es' = (es.map isStep).map D.bl := by rw [pe, List.take_length, List.map_map]; rfl
            subst e2
            walk_at "g"
            refine d_all (st.dz (x := .ref q) (List.Mem.head _)) ?_
            rw [all_map]
            walk_at "g"
            refine d_setO st (i := 0) (j := 1) (d := .bl (es.all isStep)) rfl (by simp) z_bl fun H1 st => ?_
            dsimp only [List.set_cons_zero, List.set_cons_succ] at st
            refine ⟨_, rfl, ?_⟩
            rw [show isTail (.lst es) = es.all isStep from by show (es.all isStep && decide (((es.length : Nat) : Int) ∈ tails)) = _; rw [decide_eq_true c1, Bool.and_true]]
            exact st.sub (by walk_at "sub")
        · rw [decide_eq_false c1]
          walk_at "g"
          refine d_setO st (i := 0) (j := 1) (d := .bl false) rfl (by simp) z_bl fun H1 st => ?_
          dsimp only [List.set_cons_zero, List.set_cons_succ] at st
          refine ⟨_, rfl, ?_⟩
          rw [show isTail (.lst es) = false from by show (es.all isStep && decide (((es.length : Nat) : Int) ∈ tails)) = _; rw [decide_eq_false c1, Bool.and_false]]
          exact st.sub (by walk_at "sub")
      | false =>
        refine g_iteF ?_
        walk_at "g"
        refine ⟨_, rfl, ?_⟩
        rw [hb] at st
        rw [show isTail d2 = false from by unfold isTail; cases d2 <;> first | rfl | (cases hb; done)]
        exact st.sub (by walk_at "sub")
    · rintro σ' H3 ⟨y8, rfl, st⟩
      walk_at "g"
      refine v_pow ⟨by decide, by decide, by decide⟩ ?_
      rw [show (10 : Int) ^ (9 : Int).toNat = 10 ^ 9 from rfl]
      walk_at "g"
      refine c_Bl (d4, (0 : Int), (10 ^ 9 : Int)) st (zl_cons (st.dz (x := x4) (by walk_at "mem")) (zl_cons z_int (zl_cons z_int zl_nil))) ho.l fun H1 st => ?_
      rw [show isWithin (d4, (0 : Int), (10 ^ 9 : Int)).1 (d4, (0 : Int), (10 ^ 9 : Int)).2.1 (d4, (0 : Int), (10 ^ 9 : Int)).2.2 = isWithin d4 0 (10 ^ 9) from rfl]
      walk_at "g"
      refine d_isi (st.dz (x := x5) (by walk_at "mem")) ho.a (q := ?_)
      walk_at "g"
      have st := st.give ng
      refine d_lst st (ds := [.bl (isWithin d4 0 (10 ^ 9)), .bl (isT "bool" d5)]) (zl_cons z_bl (zl_cons z_bl zl_nil)) (by simp) fun q1 H1 st => ?_
      walk_at "g"
      refine v_cat st (st.dz (x := .ref g) (d := .lst [.bl (isHead d1), .bl (isTail d2), .bl (isWithin d3 1 (10 ^ 9))]) (by walk_at "mem")) (st.dz (x := .ref q1) (List.Mem.head _)) (by rw [sizeLine_eq]; show 5 ≤ _; decide) fun q2 H1 st => ?_
      have st : Vf.St K S (fun _ => False) H H1 ((.ref q2, .lst ((Wx.bs ⟨d1, d2, d3, d4, d5⟩).map D.bl)) :: _) [] [] := st
      have st := st.sub (G' := [(.ref q2, .lst ((Wx.bs ⟨d1, d2, d3, d4, d5⟩).map D.bl))]) (by walk_at "sub")
      have i5 := fun i (hi : i < 5) => ix5 (isHead d1) (isTail d2) (isWithin d3 1 (10 ^ 9)) (isWithin d4 0 (10 ^ 9)) (isT "bool" d5) hi
      have n5 := in5 (isHead d1) (isTail d2) (isWithin d3 1 (10 ^ 9)) (isWithin d4 0 (10 ^ 9)) (isT "bool" d5)
      obtain ⟨bs, hbs⟩ : ∃ bs, Wx.bs ⟨d1, d2, d3, d4, d5⟩ = bs := ⟨_, rfl⟩
      have du : Wx.due ⟨d1, d2, d3, d4, d5⟩ = if bs.idxOf false < 5 then .int (bs.idxOf false : Nat) else .non := by
        unfold Wx.due
        rw [hbs]
        have n5 : false ∈ bs ↔ bs.idxOf false < 5 := by rw [← hbs]; exact n5
        by_cases q : false ∈ bs
        · rw [if_pos q, if_pos (n5.mp q)]
        · rw [if_neg q, if_neg (fun w => q (n5.mpr w))]
      have i5 : ∀ i, i < 5 → (bs[i]? = some false → bs.idxOf false ≤ i) ∧ (bs[i]? = some true → bs.idxOf false ≠ i) := by rw [← hbs]; exact i5
      have l5 : bs.length = 5 := by rw [← hbs]; rfl
      rw [hbs] at st
      generalize bs.idxOf false = f at du i5
      walk_at "g"
      refine lc_R (n := 5) (by decide) st (fun i es => es.head? = if f < i then some (.int (f : Nat)) else none) rfl ?_ ?_
      · rintro q i x H1 es nq hi hl pe st rfl
        walk_at "g"
        refine ⟨rfl, ?_⟩
        walk_at "g"
        obtain ⟨b0, hb0⟩ : ∃ b0, bs[i]? = some b0 := ⟨bs[i]'(by omega), List.getElem?_eq_getElem (by omega)⟩
        obtain ⟨k1, k2⟩ := i5 i hi
        refine d_ixL (i := i) (d := .bl b0) (st.dz (x := .ref q2) (by walk_at "mem")) (by rw [List.getElem?_map, hb0]; rfl) fun v hv => ?_
        obtain rfl : v = .bl b0 := hv
        refine ⟨b0, rfl, ?_⟩
        cases b0 with
        | true =>
          have k2 := k2 hb0
          refine g_iteF ?_
          refine lc_skip st (fun q h => h) hl ?_
          rw [pe]
          by_cases q : f < i
          · rw [if_pos q, if_pos (by omega)]
          · rw [if_neg q, if_neg (by omega)]
        | false =>
          have k1 := k1 hb0
          refine g_iteT ?_
          refine g_var rfl ?_
          refine lc_end st (fun q h => h) (by omega) hl (z_int (i := ((i : Nat) : Int))) ?_
          rw [List.head?_append, pe]
          by_cases q : f < i
          · rw [if_pos q, if_pos (by omega)]; rfl
          · rw [if_neg q, if_pos (by omega)]
            rw [show f = i by omega]
            rfl
      · rintro q H1 es pe hl st
        walk_at "g"
        refine d_lst st (ds := [.non]) (zl_cons z_non zl_nil) (by simp) fun q3 H1 st => ?_
        walk_at "g"
        refine v_cat st (st.dz (x := .ref q) (d := .lst es) (by walk_at "mem")) (st.dz (x := .ref q3) (List.Mem.head _)) (by rw [sizeLine_eq]; simp only [List.length_cons, List.length_nil]; omega) fun q4 H1 st => ?_
        walk_at "g"
        refine d_ixL (i := 0) (d := Wx.due ⟨d1, d2, d3, d4, d5⟩) (st.dz (x := .ref q4) (List.Mem.head _)) ?_ fun v hv => ?_
        · rw [du]
          cases es with
          | nil =>
            by_cases q : f < 5
            · rw [if_pos q] at pe; cases pe
            · rw [if_neg q]; rfl
          | cons e es =>
            by_cases q : f < 5
            · rw [if_pos q] at pe ⊢
              rw [show e = D.int (f : Nat) from by simpa using pe]
              rfl
            · rw [if_neg q] at pe; cases pe
        · exact k v _ st.end_ hv

-- needs: refuse_wrong__x
-- needs: Wane_phase
def sp_Wane_phase__x (K : PySem.W.Frag) (C Wr : Addr) : Sp := spOr (sp_Wane_phase K C) (spBad K Wr (fun a : Wn × D => [a.1.d C, a.2]) (fun a => a.2.noIns = true ∧ isWithin a.2 0 (10 ^ 30) = false) (fun _ => 0))
theorem ok_Wane_phase__x (W : Wd K mg) : FnOk P w K mg base (L2.CX P w) 4 W.a_Wane_phase W.d_Wane_phase ["self", "since"] (sp_Wane_phase__x K W.C_Wane W.C_Wrong) := by
  refine FnOk.or (FnOk.lift (ok_Wane_phase W)) ?_
  refine W.F_Wane_phase.okX sc_Wane_phase (fun vs H Q E h => spBad_len (n := 2) (fun _ => rfl) h) (fun cdv A outer s H vs Q E hr h => ?_)
  obtain ⟨S, ⟨wn, d⟩, ok, hz, ⟨hn, hw⟩, k⟩ := h
  have hn : d.noIns = true := hn
  have hw : isWithin d 0 (10 ^ 30) = false := hw
  have st := St.start ok hz
  obtain ⟨x, _, rfl, hx, y, _, rfl, hy, rfl⟩ := hz
  obtain ⟨a, rfl⟩ := st.isI (x := x) (by walk_at "mem")
  refine ⟨_, (pss_cons (ps_expr (pe_call (ok_refuse_wrong__x W) (hr.mono (by decide)) (by rfl) W.m_refuse_wrong W.F_refuse_wrong.kp (b_refuse_wrong W) .nil (passN 2 rfl (takes_of rfl rfl rfl rfl)) (pa_cons (pe_lst (pa_cons (pe_call (ok_is_moment W) (hr.mono (by decide)) (by rfl) W.m_is_moment W.F_is_moment.kp (b_is_moment W) .nil pass0 (pa_cons (pv 1) pa_nil)) pa_nil)) pa_nil)))
      (pss_one (ps_ret (pe_meth (pv 0) W.cl_Wane W.M_Wane_phase_behind (ok_Wane_phase_behind W) (hr.mono (by decide)) (b_Wane_phase_behind W) .nil pass0 (pa_cons (pv 1) pa_nil))))), ?_⟩
  rw [show start N_Wane_phase [.ref a, y] = [some (.ref a), some (y)] from rfl]
  try dsimp only [cxOf]
  walk_at "g"
  refine c_Bl d st (zl_cons (st.dz (x := y) (by walk_at "mem")) zl_nil) hn fun H1 st => ?_
  rw [hw]
  walk_at "g"
  refine d_lst st (ds := [false].map D.bl) (zl_cons z_bl zl_nil) (show 1 ≤ 100000 by decide) fun p H1 st => ?_
  walk_at "g"
  have stB := st
  refine .inr ?_
  refine c_Bad [false] st (zl_cons (st.dz (x := .ref p) (List.Mem.head _)) zl_nil) ⟨List.Mem.head _, show 1 ≤ 1000 by decide⟩ fun dx H2 nd hx st => ?_
  exact fun σ _ => k dx H2 st.end_ (stB.h0 nd) hx

-- needs: refuse_wrong__x
-- needs: Wane_step
def sp_Wane_step__x (K : PySem.W.Frag) (C Wr : Addr) : Sp := spOr (sp_Wane_step K C) (spBad K Wr (fun a : Wn × D => [a.1.d C, a.2]) (fun a => a.2.noIns = true ∧ isWithin a.2 1 (10 ^ 30) = false) (fun _ => 0))
theorem ok_Wane_step__x (W : Wd K mg) : FnOk P w K mg base (L2.CX P w) 4 W.a_Wane_step W.d_Wane_step ["self", "number"] (sp_Wane_step__x K W.C_Wane W.C_Wrong) := by
  refine FnOk.or (FnOk.lift (ok_Wane_step W)) ?_
  refine W.F_Wane_step.okX sc_Wane_step (fun vs H Q E h => spBad_len (n := 2) (fun _ => rfl) h) (fun cdv A outer s H vs Q E hr h => ?_)
  obtain ⟨S, ⟨wn, d⟩, ok, hz, ⟨hn, hw⟩, k⟩ := h
  have hn : d.noIns = true := hn
  have hw : isWithin d 1 1000000000000000000000000000000 = false := hw
  have st := St.start ok hz
  obtain ⟨x, _, rfl, hx, y, _, rfl, hy, rfl⟩ := hz
  obtain ⟨a, rfl⟩ := st.isI (x := x) (by walk_at "mem")
  refine ⟨_, (pss_cons (ps_expr (pe_call (ok_refuse_wrong__x W) (hr.mono (by decide)) (by rfl) W.m_refuse_wrong W.F_refuse_wrong.kp (b_refuse_wrong W) .nil (passN 2 rfl (takes_of rfl rfl rfl rfl)) (pa_cons (pe_lst (pa_cons (pe_call (ok_is_within W) (hr.mono (by decide)) (by rfl) W.m_is_within W.F_is_within.kp (b_is_within W) .nil pass0 (pa_cons (pv 1) (pa_cons pe_int (pa_cons (pe_glob (v := V.int 1000000000000000000000000000000) rfl W.c_MOST_MOMENT ⟨_, rfl⟩) pa_nil)))) pa_nil)) pa_nil)))
      (pss_one (ps_ret (pe_meth (pv 0) W.cl_Wane W.M_Wane_step_behind (ok_Wane_step_behind W) (hr.mono (by decide)) (b_Wane_step_behind W) .nil pass0 (pa_cons (pe_op opSub (pv 1) pe_int) pa_nil))))), ?_⟩
  rw [show start N_Wane_step [.ref a, y] = [some (.ref a), some (y)] from rfl]
  try dsimp only [cxOf]
  walk_at "g"
  refine c_Bl (d, (1 : Int), (1000000000000000000000000000000 : Int)) st (zl_cons (st.dz (x := y) (by walk_at "mem")) (zl_cons z_int (zl_cons z_int zl_nil))) hn fun H1 st => ?_
  rw [hw]
  walk_at "g"
  refine d_lst st (ds := [false].map D.bl) (zl_cons z_bl zl_nil) (show 1 ≤ 100000 by decide) fun p H1 st => ?_
  walk_at "g"
  have stB := st
  refine .inr ?_
  refine c_Bad [false] st (zl_cons (st.dz (x := .ref p) (List.Mem.head _)) zl_nil) ⟨List.Mem.head _, show 1 ≤ 1000 by decide⟩ fun dx H2 nd hx st => ?_
  exact fun σ _ => k dx H2 st.end_ (stB.h0 nd) hx

-- needs: _law_told
-- needs: Wane_step__x
-- needs: Wane_phase__x
structure Akd where
  w : Wn
  way : Nat
  n : D
def Akd.good (a : Akd) : Bool := isWithin a.n (1 - (a.way : Int)) (10 ^ 30)
def Akd.due (a : Akd) : D := if a.good = true then .non else .int 0
structure Akd.Ok (a : Akd) : Prop where
  w : a.w.Ok
  way : a.way < 2
  n : a.n.noIns = true
def sp__law_asked (K : PySem.W.Frag) (C : Addr) : Sp := spV K (fun a : Akd => [a.w.d C, .int (a.way : Nat), a.n]) Akd.Ok Akd.due
theorem ok__law_asked (W : Wd K mg) : FnOk P w K mg base CX0 5 W.a__law_asked W.d__law_asked ["_law_wane", "_law_way", "_law_number"] (sp__law_asked K W.C_Wane) := by
  refine W.F__law_asked.ok sc__law_asked (fun vs H Q E h => spV_len (n := 3) (fun _ => rfl) h) (fun cdv A outer s H vs Q E hr h => ?_)
  obtain ⟨S, ⟨wn, way, d⟩, ok, hz, ho, k⟩ := h
  have ow : wn.Ok := ho.w
  have hw : way < 2 := ho.way
  have hn : d.noIns = true := ho.n
  have st := St.start ok hz
  obtain ⟨x, _, rfl, hx, _, _, rfl, rfl, y, _, rfl, hy, rfl⟩ := hz
  obtain ⟨a, rfl⟩ := st.isI (x := x) (by walk_at "mem")
  refine ⟨_, (pss_cons (ps_tryAs (i := 3) rfl rfl sc__law_asked.nd rfl rfl ⟨by rfl, by decide, .inl W.c_WaneError⟩
        (fun Wt pn xe tk po => (pss_one (ps_if (pt_cmpR (r := rEqG K) (opEq hr.units) (pv 1) pe_int (nomark _)) (pss_one (ps_expr (pe_meth (pv 0) W.cl_Wane W.M_Wane_step (ok_Wane_step__x W) (hr.mono (by decide)) (b_Wane_step W) .nil (passN 4 rfl tk) (pa_cons (pv 2) pa_nil)))) (pss_one (ps_expr (pe_meth (pv 0) W.cl_Wane W.M_Wane_phase (ok_Wane_phase__x W) (hr.mono (by decide)) (b_Wane_phase W) .nil (passN 4 rfl tk) (pa_cons (pv 2) pa_nil)))))))
        (fun a oe cls d pn hz hf => (pss_one (ps_ret (pe_callP (ok__law_refused W) (roomS hr (by decide)) (by rfl) W.m__law_refused W.F__law_refused.kp (b__law_refused W) hz hf List.mem_cons_self (pa_cons (pv 3) pa_nil))))))
      (pss_one (ps_ret pe_non))), ?_⟩
  rw [show start N__law_asked [.ref a, .int (way : Nat), y] = [some (.ref a), some (.int (way : Nat)), some (y), none] from rfl]
  try dsimp only [cxOf]
  walk_at "g"
  refine g_tryAs ?_
  rcases (show way = 0 ∨ way = 1 by omega) with e0 | e0
  · subst e0
    walk_at "g"
    rw [show decide (((0 : Nat) : Int) = 0) = true from rfl]
    refine g_iteT ?_
    walk_at "g"
    refine d_meth (st.dz (x := .ref a) (by walk_at "mem")) (W_no (by decide +kernel) wn) ?_
    walk_at "g"
    cases hg : isWithin d 1 (10 ^ 30) with
    | true =>
      obtain ⟨i, i1, i2, rfl⟩ := within_of hg
      cases hy
      refine .inl ?_
      refine c_V (wn, i) st (zl_cons (st.dz (x := .ref a) (by walk_at "mem")) (zl_cons z_int zl_nil)) ⟨ow, i1, i2⟩ fun v H2 st => ?_
      walk_at "g"
      exact k .non H2 st.end_ (by unfold Akd.due; rw [show Akd.good ⟨wn, 0, .int i⟩ = true from hg]; rfl)
    | false =>
      refine .inr ?_
      refine c_Bad (wn, d) st (zl_cons (st.dz (x := .ref a) (by walk_at "mem")) (zl_cons (st.dz (x := y) (by walk_at "mem")) zl_nil)) ⟨hn, hg⟩ fun dx H2 nd hx st => ?_
      refine w_as (exm_own W.x_WaneError W.su_Wrong_WaneError) fun σ e hs ne => ?_
      walk_at "g"
      refine g_callP ?_
      walk_at "g"
      refine g_var (get_set hs (by decide)) ?_
      walk_at "g"
      refine ⟨dx, _, rfl, rfl, rfl, hx, fun H2 e2 => ?_⟩
      walk_at "g"
      exact k _ _ (st.same e2).end_ (by unfold Akd.due; rw [show Akd.good ⟨wn, 0, d⟩ = false from hg]; rfl)
  · subst e0
    walk_at "g"
    rw [show decide (((1 : Nat) : Int) = 0) = false from rfl]
    refine g_iteF ?_
    walk_at "g"
    refine d_meth (st.dz (x := .ref a) (by walk_at "mem")) (W_no (by decide +kernel) wn) ?_
    walk_at "g"
    cases hg : isWithin d 0 (10 ^ 30) with
    | true =>
      obtain ⟨i, i1, i2, rfl⟩ := within_of hg
      cases hy
      refine .inl ?_
      refine c_Int (wn, i) st (zl_cons (st.dz (x := .ref a) (by walk_at "mem")) (zl_cons z_int zl_nil)) ⟨ow, i1, i2⟩ fun H2 st => ?_
      walk_at "g"
      exact k .non H2 st.end_ (by unfold Akd.due; rw [show Akd.good ⟨wn, 1, .int i⟩ = true from hg]; rfl)
    | false =>
      refine .inr ?_
      refine c_Bad (wn, d) st (zl_cons (st.dz (x := .ref a) (by walk_at "mem")) (zl_cons (st.dz (x := y) (by walk_at "mem")) zl_nil)) ⟨hn, hg⟩ fun dx H2 nd hx st => ?_
      refine w_as (exm_own W.x_WaneError W.su_Wrong_WaneError) fun σ e hs ne => ?_
      walk_at "g"
      refine g_callP ?_
      walk_at "g"
      refine g_var (get_set hs (by decide)) ?_
      walk_at "g"
      refine ⟨dx, _, rfl, rfl, rfl, hx, fun H2 e2 => ?_⟩
      walk_at "g"
      exact k _ _ (st.same e2).end_ (by unfold Akd.due; rw [show Akd.good ⟨wn, 1, d⟩ = false from hg]; rfl)

-- needs: _law_plan
-- needs: _law_bent
-- needs: _law_due
-- needs: _law_told
-- needs: _law_asked
def spLaw (K : PySem.W.Frag) : Sp := fun vs H Q _ => ∃ (a : Addr) (ns : List Int), vs = [.ref a] ∧ SqL K H a (ns.map V.int) ∧ ns.length ≤ 63 ∧ ∀ H', Q (.bl true) H'
theorem spLaw_len {vs : List V} {H : Hp} {Q : VK} {E : XK} {n : Nat} (h1 : ∀ _ : Unit, 1 = n) (h : spLaw K vs H Q E) : vs.length = n := by
  obtain ⟨a, ns, rfl, _⟩ := h
  exact h1 ()
abbrev sp_law (K : PySem.W.Frag) : Sp := spLaw K
theorem pre_of {b : Wx} {n : Nat} (h : ∀ d ∈ b.enc, ElS n d) (hn : n ≤ 100) : b.Pre :=
  ⟨(h b.h (by simp [Wx.enc])).pre hn, (h b.t (by simp [Wx.enc])).pre hn, (h b.c (by simp [Wx.enc])).noIns, (h b.l (by simp [Wx.enc])).noIns, (h b.a (by simp [Wx.enc])).noIns⟩
theorem due_ok (b : Wx) : b.due.Ok := by
  unfold Wx.due
  split
  · have : b.bs.idxOf false ≤ 5 := List.idxOf_le_length
    exact int_ok (by omega)
  · exact ⟨rfl, Nat.zero_le _, Nat.zero_le _⟩
def plB (w : Wn) : Wx := ⟨.lst (w.head.map stepD), .lst (w.tail.map stepD), .int w.cap, .int w.lift, .bl w.anew⟩
theorem plB_ok {w : Wn} (h : w.Ok) : ∀ d ∈ (plB w).enc, ElS 48 d := fun d m => by
  have hs : ∀ l : List (Int × Int), (∀ s ∈ l, stepOk s) → ∀ d ∈ l.map stepD, itS d = true := fun l q d m => by
    obtain ⟨s, hs, rfl⟩ := List.mem_map.mp m
    exact itS_step (q s hs)
  have h1 := h.hl; have h2 := h.t24; have h3 := h.c1; have h4 := h.c2; have h5 := h.l1; have h6 := h.l2
  have io : ∀ i : Int, i.natAbs < 2 ^ 200 → itS (.int i) = true := fun i q => by
    have := (int_ok q).fine
    unfold itS
    rw [this]; rfl
  simp only [plB, Wx.enc, List.mem_cons, List.not_mem_nil, or_false] at m
  rcases m with rfl | rfl | rfl | rfl | rfl
  · exact elS_lst (hs _ h.hs) (by rw [List.length_map]; omega) (by omega)
  · exact elS_lst (hs _ h.ts) (by rw [List.length_map]; omega) (by omega)
  · exact elS_it (io _ (by omega)) (fun _ e => by cases e)
  · exact elS_it (io _ (by omega)) (fun _ e => by cases e)
  · exact elS_it rfl (fun _ e => by cases e)
def numsD : List D := [.int 0, .int 1, .int (-1), .int (10 ^ 30), .int (10 ^ 30 + 1), .bl true, .non, .str (Str.ofString "1"), .lst [.int 1], .int 5]
theorem nums_ok : ∀ d ∈ numsD, d.noIns = true := fun d m => List.all_eq_true.mp (show numsD.all D.noIns = true from rfl) d m
theorem phase_0 {w : Wn} (h : w.Ok) : phase w 0 = 0 := by
  have := h.t0
  unfold phase
  split
  · rfl
  · have e : w.head.length = 0 := by omega
    rw [e]; simp
theorem ok_law (W : Wd K mg) : FnG P w K mg base CX0 10 W.a_law W.d_law ["_law_script"] (sp_law K) := by
  refine okG W.F_law sc_law (fun vs H Q E h => spLaw_len (n := 1) (fun _ => rfl) h) (fun cdv A outer s H vs Q E hr hgd h => ?_)
  obtain ⟨a, ns0, rfl, hs, hl63, k⟩ := h
  refine ⟨_, (pss_cons (ps_set (i := 1) sc_law.nd rfl (Or.inl rfl) (pe_call (ok__law_bag W) (hr.mono (by decide)) (by rfl) W.m__law_bag W.F__law_bag.kp (b__law_bag W) .nil pass0 (pa_cons (pv 0) pa_nil)))
      (pss_cons (ps_for PassesOwn.never rfl (pi_range1 (by rfl) W.n_range (pa_cons pe_int pa_nil)) (pg_name (i := 2) sc_law.nd rfl (.inl rfl))
        (pss_cons (ps_set (i := 3) sc_law.nd rfl (Or.inl rfl) (pe_call (ok__law_plan W) (hr.mono (by decide)) (by rfl) W.m__law_plan W.F__law_plan.kp (b__law_plan W) .nil pass0 (pa_cons (pv 1) pa_nil)))
      (pss_cons (ps_set (i := 4) sc_law.nd rfl (Or.inl rfl) (pe_callTy call_listG (by rfl) W.n_list (by decide +kernel) (pa_cons (pv 3) pa_nil)))
      (pss_cons (ps_for PassesOwn.never rfl (pi_range1 (by rfl) W.n_range (pa_cons (pe_op (r := rAddG K) opAdd pe_int (pe_call (ok__law_take W) (hr.mono (by decide)) (by rfl) W.m__law_take W.F__law_take.kp (b__law_take W) .nil pass0 (pa_cons (pv 1) (pa_cons pe_int pa_nil)))) pa_nil)) (pg_name (i := 5) sc_law.nd rfl (.inl rfl))
        (pss_one (ps_expr (pe_call (ok__law_bent W) (hr.mono (by decide)) (by rfl) W.m__law_bent W.F__law_bent.kp (b__law_bent W) .nil pass0 (pa_cons (pv 1) (pa_cons (pv 4) pa_nil))))))
      (pss_cons (ps_set (i := 6) sc_law.nd rfl (Or.inl rfl) (pe_callB (call_reprG hgd hr.units) (by rfl) W.n_repr (by decide +kernel) (pa_cons (pv 4) pa_nil)))
      (pss_cons (ps_set (i := 7) sc_law.nd rfl (Or.inl rfl) (pe_call (ok__law_due W) (hr.mono (by decide)) (by rfl) W.m__law_due W.F__law_due.kp (b__law_due W) .nil pass0 (pa_cons (pv 4) pa_nil)))
      (pss_cons (ps_if (PW.pt (pw_or (pt_cmpR (r := rNeG K) (opNe hr.units) (pe_callB (call_reprG hgd hr.units) (by rfl) W.n_repr (by decide +kernel) (pa_cons (pe_call (ok__law_told W) (hr.mono (by decide)) (by rfl) W.m__law_told W.F__law_told.kp (b__law_told W) .nil pass0 (pa_cons (pv 4) pa_nil)) pa_nil)) (pe_callB (call_reprG hgd hr.units) (by rfl) W.n_repr (by decide +kernel) (pa_cons (pv 7) pa_nil)) (nomark _)) (pw_or1 (pt_cmpR (r := rNeG K) (opNe hr.units) (pe_callB (call_reprG hgd hr.units) (by rfl) W.n_repr (by decide +kernel) (pa_cons (pv 4) pa_nil)) (pv 6) (nomark _))))) (pss_one (ps_ret pe_bl)) pss_nil)
      (pss_cons (ps_set (i := 8) sc_law.nd rfl (Or.inl rfl) (pe_makeK W.K_Wane (ok_Wane___init__ W) (hr.mono (by decide)) (by rfl) W.c_Wane (kb_Wane___init___2_cap_lift_anew W).choose_spec pass0 (pa_cons (pe_callTy call_listG (by rfl) W.n_list (by decide +kernel) (pa_cons (pe_ix (r := rIxG K) ixG (pv 3) pe_int (fun _ _ => rfl)) pa_nil)) (pa_cons (pe_callTy call_listG (by rfl) W.n_list (by decide +kernel) (pa_cons (pe_ix (r := rIxG K) ixG (pv 3) pe_int (fun _ _ => rfl)) pa_nil)) pa_nil)) (pk_cons (pe_ix (r := rIxG K) ixG (pv 3) pe_int (fun _ _ => rfl)) (pk_cons (pe_ix (r := rIxG K) ixG (pv 3) pe_int (fun _ _ => rfl)) (pk_cons (pe_ix (r := rIxG K) ixG (pv 3) pe_int (fun _ _ => rfl)) pk_nil)))))
      (pss_cons (ps_set (i := 9) sc_law.nd rfl (Or.inl rfl) (pe_ix (r := rIxG K) ixG (pe_lst (pa_cons pe_int (pa_cons pe_int (pa_cons (pe_un un_neg pe_int) (pa_cons (pe_op opPow pe_int pe_int) (pa_cons (pe_op (r := rAddG K) opAdd (pe_op opPow pe_int pe_int) pe_int) (pa_cons pe_bl (pa_cons pe_non (pa_cons pe_str (pa_cons (pe_lst (pa_cons pe_int pa_nil)) (pa_cons pe_int pa_nil))))))))))) (pe_call (ok__law_take W) (hr.mono (by decide)) (by rfl) W.m__law_take W.F__law_take.kp (b__law_take W) .nil pass0 (pa_cons (pv 1) (pa_cons pe_int pa_nil))) (fun _ _ => rfl)))
      (pss_cons (ps_for PassesOwn.never rfl (pi_range1 (by rfl) W.n_range (pa_cons pe_int pa_nil)) (pg_name (i := 10) sc_law.nd rfl (.inl rfl))
        (pss_cons (ps_set (i := 7) sc_law.nd rfl (Or.inl rfl) (pe_ix (r := rIxG K) ixG (pe_lst (pa_cons pe_non (pa_cons pe_int pa_nil))) (pe_callTy call_int1 (by rfl) W.n_int (by decide +kernel) (pa_cons (pe_notT (pe_call (ok__law_within W) (hr.mono (by decide)) (by rfl) W.m__law_within W.F__law_within.kp (b__law_within W) .nil pass0 (pa_cons (pv 9) (pa_cons (pe_op opSub pe_int (pv 10)) (pa_cons (pe_op opPow pe_int pe_int) pa_nil))))) pa_nil)) (fun _ _ => rfl)))
      (pss_one (ps_if (pt_cmpR (r := rNeG K) (opNe hr.units) (pe_callB (call_reprG hgd hr.units) (by rfl) W.n_repr (by decide +kernel) (pa_cons (pe_call (ok__law_asked W) (hr.mono (by decide)) (by rfl) W.m__law_asked W.F__law_asked.kp (b__law_asked W) .nil pass0 (pa_cons (pv 8) (pa_cons (pv 10) (pa_cons (pv 9) pa_nil)))) pa_nil)) (pe_callB (call_reprG hgd hr.units) (by rfl) W.n_repr (by decide +kernel) (pa_cons (pv 7) pa_nil)) (nomark _)) (pss_one (ps_ret pe_bl)) pss_nil))))
      (pss_one (ps_if (PW.pt (pw_or (pt_cmpR (r := rNeG K) (opNe hr.units) (pe_meth (pv 8) W.cl_Wane W.M_Wane_step (ok_Wane_step W) (hr.mono (by decide)) (b_Wane_step W) .nil pass0 (pa_cons pe_int pa_nil)) (pe_ix (r := rIxG K) ixG (pe_op (r := rAddG K) opAdd (pe_ix (r := rIxG K) ixG (pv 3) pe_int (fun _ _ => rfl)) (pe_ix (r := rIxG K) ixG (pv 3) pe_int (fun _ _ => rfl))) pe_int (fun _ _ => rfl)) (nomark _)) (pw_or1 (pt_cmpR (r := rNeG K) (opNe hr.units) (pe_meth (pv 8) W.cl_Wane W.M_Wane_phase (ok_Wane_phase W) (hr.mono (by decide)) (b_Wane_phase W) .nil pass0 (pa_cons pe_int pa_nil)) pe_int (nomark _))))) (pss_one (ps_ret pe_bl)) pss_nil))))))))))))
      (pss_one (ps_ret pe_bl)))), ?_⟩
  rw [show start N_law [.ref a] = [some (.ref a), none, none, none, none, none, none, none, none, none, none] from rfl]
  try dsimp only [cxOf]
  walk_at "g"
  refine ⟨a, ns0, rfl, hs, hl63, fun b H1 sm nb bg => ?_⟩
  have st := St.law sm nb bg
  walk_at "g"
  refine for_R (n := 6) (by decide) (by decide) (fun i σ H' => (∃ y2 y3 y4 y5 y6 y7 y8 y9 y10 : Option V, σ = [some (.ref a), some (.ref b), y2, y3, y4, y5, y6, y7, y8, y9, y10]) ∧ Vf.St K (fun c => c = b) (fun _ => False) H H' [] [] [b])
    ⟨⟨_, _, _, _, _, _, _, _, _, rfl⟩, st.sub (by walk_at "sub")⟩ ?_ ?_
  · rintro i σ H2 hi ⟨⟨y2, y3, y4, y5, y6, y7, y8, y9, y10, rfl⟩, st⟩
    walk_at "g"
    refine c_Dr () st zl_nil trivial fun v d H3 ⟨w, ow, e⟩ st => ?_
    subst e
    obtain ⟨pt, rfl⟩ := st.isT (x := v) (ds := (plB w).enc) (List.Mem.head _)
    have st : Vf.St K (fun c => c = b) (fun _ => False) H H3 [(.ref pt, .tup (plB w).enc)] [] [b] := st
    walk_at "g"
    refine d_listTo st (st.dz (x := .ref pt) (by walk_at "mem")) fun p H4 np _ st => ?_
    walk_at "g"
    refine c_Dr 2 st (by walk_at "dzl") ⟨by decide, by decide⟩ fun v d H1 ⟨m1, e, m10, m11⟩ st => ?_
    subst e
    obtain rfl := st.eqI (List.Mem.head _)
    walk_at "g"
    have st := st.sub (G' := [(.ref pt, .tup (plB w).enc)]) (by walk_at "sub")
    refine for_R (n := 1 + m1) (by omega) (by omega) (fun i' σ H' => (∃ y5 : Option V, σ = [some (.ref a), some (.ref b), some (.int (i : Nat)), some (.ref pt), some (.ref p), y5, y6, y7, y8, y9, y10]) ∧ ∃ bx : Wx, (∀ d ∈ bx.enc, ElS (48 + i') d) ∧ Vf.St K (fun c => c = b ∨ c = p) (fun _ => False) H H' [(.ref pt, .tup (plB w).enc)] [(p, bx.enc)] [b])
      ⟨⟨_, rfl⟩, plB w, plB_ok ow, st⟩ ?_ ?_
    · rintro i' σ H5 hi' ⟨⟨y5, rfl⟩, bx, hel, st⟩
      walk_at "g"
      refine c_DrM (⟨48 + i', bx⟩ : Bnd) st zl_nil ⟨by show 48 ≤ 48 + i' ∧ 48 + i' ≤ 60; omega, hel⟩ fun ds' H6 ⟨b', e, hel'⟩ st => ?_
      subst e
      walk_at "g"
      exact ⟨⟨_, rfl⟩, b', hel', st⟩
    rintro σ H5 ⟨⟨y5, rfl⟩, bx, hel, st⟩
    have st := st.give (S := fun c => c = b) np
    have pb : bx.Pre := pre_of hel (by omega)
    have okI : ∀ d ∈ bx.enc, d.OkI := fun d m => (hel d m).o
    have ne0 : bx.enc ≠ [] := fun e => by cases e
    walk_at "g"
    refine listE (st.dz (x := .ref p) (d := .lst bx.enc) (by walk_at "mem")) ne0 (show 5 ≤ 9 by decide) okI ?_
    walk_at "g"
    refine c_V bx st (zl_cons (st.dz (x := .ref p) (d := .lst bx.enc) (by walk_at "mem")) zl_nil) pb fun vd H6 st => ?_
    walk_at "g"
    refine c_V bx st (zl_cons (st.dz (x := .ref p) (d := .lst bx.enc) (by walk_at "mem")) zl_nil) pb fun vt H7 st => ?_
    walk_at "g"
    refine o_reprG (st.dz (x := vt) (List.Mem.head _)) (due_ok bx) ?_
    walk_at "g"
    refine o_reprG (st.dz (x := vd) (d := bx.due) (by walk_at "mem")) (due_ok bx) ?_
    walk_at "g"
    rw [decide_eq_true rfl]
    refine g_iteF ?_
    walk_at "g"
    refine listE (st.dz (x := .ref p) (d := .lst bx.enc) (by walk_at "mem")) ne0 (show 5 ≤ 9 by decide) okI ?_
    walk_at "g"
    rw [decide_eq_true rfl]
    refine g_iteF ?_
    walk_at "g"
    have st := st.sub (G' := [(.ref pt, .tup (plB w).enc)]) (by walk_at "sub")
    refine d_ixT (i := 0) (d := .lst (w.head.map stepD)) (st.dz (x := .ref pt) (by walk_at "mem")) rfl fun v hv => ?_
    obtain ⟨ha, _, rfl, _, _⟩ := id hv
    walk_at "g"
    refine d_listL st hv fun q1 H8 st => ?_
    walk_at "g"
    refine d_ixT (i := 1) (d := .lst (w.tail.map stepD)) (st.dz (x := .ref pt) (d := .tup (plB w).enc) (by walk_at "mem")) rfl fun v hv => ?_
    obtain ⟨ta, _, rfl, _, _⟩ := id hv
    walk_at "g"
    refine d_listL st hv fun q2 H9 st => ?_
    walk_at "g"
    refine d_ixT (i := 2) (d := .int w.cap) (st.dz (x := .ref pt) (d := .tup (plB w).enc) (by walk_at "mem")) rfl fun v hv => ?_
    cases hv
    walk_at "g"
    refine d_ixT (i := 3) (d := .int w.lift) (st.dz (x := .ref pt) (d := .tup (plB w).enc) (by walk_at "mem")) rfl fun v hv => ?_
    cases hv
    walk_at "g"
    refine d_ixT (i := 4) (d := .bl w.anew) (st.dz (x := .ref pt) (d := .tup (plB w).enc) (by walk_at "mem")) rfl fun v hv => ?_
    cases hv
    walk_at "g"
    refine c_make w st rfl rfl [.ref q1, .ref q2, .int w.cap, .int w.lift, .bl w.anew] (fun _ => rfl) (zl_cons (st.dz (x := .ref q1) (d := .lst (w.head.map stepD)) (by walk_at "mem")) (zl_cons (st.dz (x := .ref q2) (d := .lst (w.tail.map stepD)) (by walk_at "mem")) (zl_cons z_int (zl_cons z_int (zl_cons z_bl zl_nil))))) ow fun wa H10 st => ?_
    have st := st.sub (G' := [(.ref wa, w.d W.C_Wane), (.ref pt, .tup (plB w).enc)]) (by walk_at "sub")
    walk_at "g"
    refine ⟨1, rfl, ?_⟩
    walk_at "g"
    refine v_pow ⟨by decide, by decide, by decide⟩ ?_
    rw [show (10 : Int) ^ (30 : Int).toNat = 10 ^ 30 from rfl]
    walk_at "g"
    refine v_pow ⟨by decide, by decide, by decide⟩ ?_
    rw [show (10 : Int) ^ (30 : Int).toNat = 10 ^ 30 from rfl]
    walk_at "g"
    refine d_lst st (ds := [.int 1]) (zl_cons z_int zl_nil) (by simp) fun q3 H11 st => ?_
    walk_at "g"
    refine d_lst st (ds := numsD) (zl_cons z_int (zl_cons z_int (zl_cons z_int (zl_cons z_int (zl_cons z_int (zl_cons z_bl (zl_cons z_non (zl_cons z_str (zl_cons (st.dz (x := .ref q3) (by walk_at "mem")) (zl_cons z_int zl_nil)))))))))) (show 10 ≤ 100000 by decide) fun q4 H12 st => ?_
    walk_at "g"
    refine c_Dr 10 st (by walk_at "dzl") ⟨by decide, by decide⟩ fun v d H13 ⟨m2, e, m20, m21⟩ st => ?_
    subst e
    obtain rfl := st.eqI (List.Mem.head _)
    walk_at "g"
    refine d_ixLP (P := fun d => d.noIns = true) (st.dz (x := .ref q4) (d := .lst numsD) (by walk_at "mem")) m20 (by show m2 < 10; omega) nums_ok fun vn dn o1 hv => ?_
    have st := (st.add hv).sub (G' := [(vn, dn), (.ref wa, w.d W.C_Wane), (.ref pt, .tup (plB w).enc)]) (by walk_at "sub")
    walk_at "g"
    refine for_R (n := 2) (by decide) (by decide) (fun i' σ H' => (∃ y7 y10 : Option V, σ = [some (.ref a), some (.ref b), some (.int (i : Nat)), some (.ref pt), some (.ref p), y5, some (.str (D.lst bx.enc).py.shown), y7, some (.ref wa), some vn, y10]) ∧ Vf.St K (fun c => c = b) (fun _ => False) H H' [(vn, dn), (.ref wa, w.d W.C_Wane), (.ref pt, .tup (plB w).enc)] [] [b])
      ⟨⟨_, _, rfl⟩, st⟩ ?_ ?_
    · rintro i' σ H14 hi' ⟨⟨y7, y10, rfl⟩, st⟩
      have hi2 : i' < 2 := by omega
      walk_at "g"
      refine d_lst st (ds := [.non, .int 0]) (zl_cons z_non (zl_cons z_int zl_nil)) (by simp) fun q5 H15 st => ?_
      walk_at "g"
      refine v_pow ⟨by decide, by decide, by decide⟩ ?_
      rw [show (10 : Int) ^ (30 : Int).toNat = 10 ^ 30 from rfl]
      walk_at "g"
      refine c_Bl (dn, (1 - (i' : Int)), (10 ^ 30 : Int)) st (zl_cons (st.dz (x := vn) (by walk_at "mem")) (zl_cons z_int (zl_cons z_int zl_nil))) o1 fun H16 st => ?_
      rw [show isWithin (dn, (1 - (i' : Int)), (10 ^ 30 : Int)).1 (dn, (1 - (i' : Int)), (10 ^ 30 : Int)).2.1 (dn, (1 - (i' : Int)), (10 ^ 30 : Int)).2.2 = Akd.good ⟨w, i', dn⟩ from rfl]
      have hdu : Akd.due ⟨w, i', dn⟩ = if Akd.good ⟨w, i', dn⟩ = true then .non else .int 0 := rfl
      refine g_notT1 rfl ?_
      walk_at "g"
      have okA : (⟨w, i', dn⟩ : Akd).Ok := ⟨ow, hi2, o1⟩
      cases hg : Akd.good ⟨w, i', dn⟩ with
      | true =>
        rw [hg] at hdu
        have hdu : Akd.due ⟨w, i', dn⟩ = .non := hdu
        refine .inr ⟨_, rfl, ?_⟩
        refine d_ixL (i := 0) (d := .non) (st.dz (x := .ref q5) (by walk_at "mem")) rfl fun v hv => ?_
        cases hv
        walk_at "g"
        refine c_V (⟨w, i', dn⟩ : Akd) st (zl_cons (st.dz (x := .ref wa) (by walk_at "mem")) (zl_cons z_int (zl_cons (st.dz (x := vn) (by walk_at "mem")) zl_nil))) okA fun vt H17 st => ?_
        rw [hdu] at st
        walk_at "g"
        refine o_reprG (d := .non) (st.dz (x := vt) (List.Mem.head _)) ⟨rfl, Nat.zero_le _, Nat.zero_le _⟩ ?_
        walk_at "g"
        refine o_reprG (S := fun c => c = b) (d := .non) rfl ⟨rfl, Nat.zero_le _, Nat.zero_le _⟩ ?_
        walk_at "g"
        rw [decide_eq_true rfl]
        refine g_iteF ?_
        walk_at "g"
        exact ⟨⟨_, _, rfl⟩, st.sub (by walk_at "sub")⟩
      | false =>
        rw [hg] at hdu
        have hdu : Akd.due ⟨w, i', dn⟩ = .int 0 := hdu
        refine .inr ⟨_, rfl, ?_⟩
        refine d_ixL (i := 1) (d := .int 0) (st.dz (x := .ref q5) (by walk_at "mem")) rfl fun v hv => ?_
        cases hv
        walk_at "g"
        refine c_V (⟨w, i', dn⟩ : Akd) st (zl_cons (st.dz (x := .ref wa) (by walk_at "mem")) (zl_cons z_int (zl_cons (st.dz (x := vn) (by walk_at "mem")) zl_nil))) okA fun vt H17 st => ?_
        rw [hdu] at st
        walk_at "g"
        refine o_reprG (d := .int 0) (st.dz (x := vt) (List.Mem.head _)) (int_ok (by decide)) ?_
        walk_at "g"
        refine o_reprG (S := fun c => c = b) (d := .int 0) rfl (int_ok (by decide)) ?_
        walk_at "g"
        rw [decide_eq_true rfl]
        refine g_iteF ?_
        walk_at "g"
        exact ⟨⟨_, _, rfl⟩, st.sub (by walk_at "sub")⟩
    rintro σ H14 ⟨⟨y7, y10, rfl⟩, st⟩
    walk_at "g"
    refine d_meth (st.dz (x := .ref wa) (by walk_at "mem")) (W_no (by decide +kernel) w) ?_
    walk_at "g"
    refine c_V (w, (1 : Int)) st (zl_cons (st.dz (x := .ref wa) (by walk_at "mem")) (zl_cons z_int zl_nil)) ⟨ow, by show (1 : Int) ≤ 1; decide, by show (1 : Int) ≤ 10 ^ 30; decide⟩ fun vs H15 st => ?_
    walk_at "g"
    refine d_ixT (i := 0) (d := .lst (w.head.map stepD)) (st.dz (x := .ref pt) (d := .tup (plB w).enc) (by walk_at "mem")) rfl fun v hv => ?_
    obtain ⟨ha, _, rfl, _, _⟩ := id hv
    have st := st.add hv
    walk_at "g"
    refine d_ixT (i := 1) (d := .lst (w.tail.map stepD)) (st.dz (x := .ref pt) (d := .tup (plB w).enc) (by walk_at "mem")) rfl fun v hv => ?_
    obtain ⟨ta, _, rfl, _, _⟩ := id hv
    walk_at "g"
    have hl1 := ow.hl
    have hl2 := ow.t24
    have hl3 := ow.t0
    refine v_cat st (st.dz (x := .ref ha) (d := .lst (w.head.map stepD)) (by walk_at "mem")) hv (by rw [sizeLine_eq, List.length_map, List.length_map]; omega) fun q6 H16 st => ?_
    walk_at "g"
    refine d_ixL (i := 0) (d := stepD (stepAt w ((1 : Int) - 1))) (st.dz (x := .ref q6) (List.Mem.head _)) ?_ fun v hv => ?_
    · have e := stepAt_get ow (n := 0) (by decide)
      rw [phase_0 ow] at e
      rw [← List.map_append, List.getElem?_map, show ((1 : Int) - 1) = 0 from rfl]
      rw [show (w.head ++ w.tail)[0]? = some (stepAt w 0) from e]
      rfl
    walk_at "g"
    refine o_neF (st.dz (x := vs) (d := stepD (stepAt w ((1 : Int) - 1))) (by walk_at "mem")) hv (stepD_ok (stepAt_ok ow (by decide))) ?_
    walk_at "g"
    refine d_meth (st.dz (x := .ref wa) (by walk_at "mem")) (W_no (by decide +kernel) w) ?_
    walk_at "g"
    refine c_Int (w, (0 : Int)) st (zl_cons (st.dz (x := .ref wa) (by walk_at "mem")) (zl_cons z_int zl_nil)) ⟨ow, by show (0 : Int) ≤ 0; decide, by show (0 : Int) ≤ 10 ^ 30; decide⟩ fun H17 st => ?_
    walk_at "g"
    rw [show phase (w, (0 : Int)).1 (w, (0 : Int)).2 = 0 from phase_0 ow]
    walk_at "g"
    exact ⟨⟨_, _, _, _, _, _, _, _, _, rfl⟩, st.sub (by walk_at "sub")⟩
  · rintro σ H2 ⟨_, st⟩
    walk_at "g"
    exact k _

end
theorem all_mk {l : PySem.W.OpenLaw} {w : World} {K : PySem.W.Frag} {h : Heap} {mg : Str → Option Value} {fa : Addr} (X : K.In h) (G : h.Ns mainGlobals mg) (hfa : mg "law" = some (.ref fa))
    {t_BILLION : Tok}
    {t_MOST_BY : Tok}
    {t_MOST_HEAD : Tok}
    {t_MOST_MOMENT : Tok}
    {a_TAILS : Addr}
    {z_TAILS : Nat}
    {y_TAILS_0 : Tok}
    {y_TAILS_1 : Tok}
    {y_TAILS_2 : Tok}
    {y_TAILS_3 : Tok}
    {y_TAILS_4 : Tok}
    {y_TAILS_5 : Tok}
    {y_TAILS_6 : Tok}
    {y_TAILS_7 : Tok}
    {e_TAILS : Option Addr}
    {sl_TAILS : Array (Option Value)}
    {C_WaneError : Addr}
    {nm_WaneError qq_WaneError : Str} {NN_WaneError : Addr} {bs_WaneError : List Value} {sn_WaneError : List Str} {sb_WaneError : List Value} {ab_WaneError : Bool} {co_WaneError : Option Bool} {dd_WaneError : Option Addr} {k0_WaneError k1_WaneError k2_WaneError k3_WaneError k5_WaneError : Option Value}
    {C_Wrong : Addr}
    {nm_Wrong qq_Wrong : Str} {NN_Wrong : Addr} {bs_Wrong : List Value} {sn_Wrong : List Str} {sb_Wrong : List Value} {ab_Wrong : Bool} {co_Wrong : Option Bool} {dd_Wrong : Option Addr} {k0_Wrong k1_Wrong k2_Wrong k3_Wrong k5_Wrong : Option Value}
    {C_NoText : Addr}
    {nm_NoText qq_NoText : Str} {NN_NoText : Addr} {bs_NoText : List Value} {sn_NoText : List Str} {sb_NoText : List Value} {ab_NoText : Bool} {co_NoText : Option Bool} {dd_NoText : Option Addr} {k0_NoText k1_NoText k2_NoText k3_NoText k5_NoText : Option Value}
    {C_TooMany : Addr}
    {nm_TooMany qq_TooMany : Str} {NN_TooMany : Addr} {bs_TooMany : List Value} {sn_TooMany : List Str} {sb_TooMany : List Value} {ab_TooMany : Bool} {co_TooMany : Option Bool} {dd_TooMany : Option Addr} {k0_TooMany k1_TooMany k2_TooMany k3_TooMany k5_TooMany : Option Value}
    {C_Wane : Addr}
    {a_Wrong___init__ : Addr}
    {od_Wrong___init__ an_Wrong___init__ : Option Addr}
    {sl_Wrong___init__ : Array (Option Value)}
    {oc_Wrong___init__ dc_Wrong___init__ pm_Wrong___init__ cd_Wrong___init__ ct_Wrong___init__ : Value}
    {kV_Wrong___init__ : Value}
    {a_refuse_wrong : Addr}
    {od_refuse_wrong an_refuse_wrong : Option Addr}
    {sl_refuse_wrong : Array (Option Value)}
    {oc_refuse_wrong dc_refuse_wrong pm_refuse_wrong cd_refuse_wrong ct_refuse_wrong : Value}
    {kV_refuse_wrong : Value}
    {a_is_whole : Addr}
    {od_is_whole an_is_whole : Option Addr}
    {sl_is_whole : Array (Option Value)}
    {oc_is_whole dc_is_whole pm_is_whole cd_is_whole ct_is_whole : Value}
    {kV_is_whole : Value}
    {a_is_within : Addr}
    {od_is_within an_is_within : Option Addr}
    {sl_is_within : Array (Option Value)}
    {oc_is_within dc_is_within pm_is_within cd_is_within ct_is_within : Value}
    {kV_is_within : Value}
    {a_is_strength : Addr}
    {od_is_strength an_is_strength : Option Addr}
    {sl_is_strength : Array (Option Value)}
    {oc_is_strength dc_is_strength pm_is_strength cd_is_strength ct_is_strength : Value}
    {kV_is_strength : Value}
    {a_is_size : Addr}
    {od_is_size an_is_size : Option Addr}
    {sl_is_size : Array (Option Value)}
    {oc_is_size dc_is_size pm_is_size cd_is_size ct_is_size : Value}
    {kV_is_size : Value}
    {a_is_moment : Addr}
    {od_is_moment an_is_moment : Option Addr}
    {sl_is_moment : Array (Option Value)}
    {oc_is_moment dc_is_moment pm_is_moment cd_is_moment ct_is_moment : Value}
    {kV_is_moment : Value}
    {a_is_step : Addr}
    {od_is_step an_is_step : Option Addr}
    {sl_is_step : Array (Option Value)}
    {oc_is_step dc_is_step pm_is_step cd_is_step ct_is_step : Value}
    {kV_is_step : Value}
    {a_Wane___init__ : Addr}
    {od_Wane___init__ an_Wane___init__ : Option Addr}
    {sl_Wane___init__ : Array (Option Value)}
    {oc_Wane___init__ dc_Wane___init__ pm_Wane___init__ cd_Wane___init__ ct_Wane___init__ : Value}
    {D_Wane___init__ : Addr}
    {a_Wane_step : Addr}
    {od_Wane_step an_Wane_step : Option Addr}
    {sl_Wane_step : Array (Option Value)}
    {oc_Wane_step dc_Wane_step pm_Wane_step cd_Wane_step ct_Wane_step : Value}
    {kV_Wane_step : Value}
    {a_Wane_phase : Addr}
    {od_Wane_phase an_Wane_phase : Option Addr}
    {sl_Wane_phase : Array (Option Value)}
    {oc_Wane_phase dc_Wane_phase pm_Wane_phase cd_Wane_phase ct_Wane_phase : Value}
    {kV_Wane_phase : Value}
    {a_Wane_step_behind : Addr}
    {od_Wane_step_behind an_Wane_step_behind : Option Addr}
    {sl_Wane_step_behind : Array (Option Value)}
    {oc_Wane_step_behind dc_Wane_step_behind pm_Wane_step_behind cd_Wane_step_behind ct_Wane_step_behind : Value}
    {kV_Wane_step_behind : Value}
    {a_Wane_phase_behind : Addr}
    {od_Wane_phase_behind an_Wane_phase_behind : Option Addr}
    {sl_Wane_phase_behind : Array (Option Value)}
    {oc_Wane_phase_behind dc_Wane_phase_behind pm_Wane_phase_behind cd_Wane_phase_behind ct_Wane_phase_behind : Value}
    {kV_Wane_phase_behind : Value}
    {a__is_head : Addr}
    {od__is_head an__is_head : Option Addr}
    {sl__is_head : Array (Option Value)}
    {oc__is_head dc__is_head pm__is_head cd__is_head ct__is_head : Value}
    {kV__is_head : Value}
    {a__is_tail : Addr}
    {od__is_tail an__is_tail : Option Addr}
    {sl__is_tail : Array (Option Value)}
    {oc__is_tail dc__is_tail pm__is_tail cd__is_tail ct__is_tail : Value}
    {kV__is_tail : Value}
    {a__are_steps : Addr}
    {od__are_steps an__are_steps : Option Addr}
    {sl__are_steps : Array (Option Value)}
    {oc__are_steps dc__are_steps pm__are_steps cd__are_steps ct__are_steps : Value}
    {kV__are_steps : Value}
    {a__law_bag : Addr}
    {od__law_bag an__law_bag : Option Addr}
    {sl__law_bag : Array (Option Value)}
    {oc__law_bag dc__law_bag pm__law_bag cd__law_bag ct__law_bag : Value}
    {kV__law_bag : Value}
    {a__law_take : Addr}
    {od__law_take an__law_take : Option Addr}
    {sl__law_take : Array (Option Value)}
    {oc__law_take dc__law_take pm__law_take cd__law_take ct__law_take : Value}
    {kV__law_take : Value}
    {a__law_steps : Addr}
    {od__law_steps an__law_steps : Option Addr}
    {sl__law_steps : Array (Option Value)}
    {oc__law_steps dc__law_steps pm__law_steps cd__law_steps ct__law_steps : Value}
    {kV__law_steps : Value}
    {a__law_plan : Addr}
    {od__law_plan an__law_plan : Option Addr}
    {sl__law_plan : Array (Option Value)}
    {oc__law_plan dc__law_plan pm__law_plan cd__law_plan ct__law_plan : Value}
    {kV__law_plan : Value}
    {a__law_within : Addr}
    {od__law_within an__law_within : Option Addr}
    {sl__law_within : Array (Option Value)}
    {oc__law_within dc__law_within pm__law_within cd__law_within ct__law_within : Value}
    {kV__law_within : Value}
    {a__law_is_step : Addr}
    {od__law_is_step an__law_is_step : Option Addr}
    {sl__law_is_step : Array (Option Value)}
    {oc__law_is_step dc__law_is_step pm__law_is_step cd__law_is_step ct__law_is_step : Value}
    {kV__law_is_step : Value}
    {a__law_bent_steps : Addr}
    {od__law_bent_steps an__law_bent_steps : Option Addr}
    {sl__law_bent_steps : Array (Option Value)}
    {oc__law_bent_steps dc__law_bent_steps pm__law_bent_steps cd__law_bent_steps ct__law_bent_steps : Value}
    {kV__law_bent_steps : Value}
    {a__law_bent : Addr}
    {od__law_bent an__law_bent : Option Addr}
    {sl__law_bent : Array (Option Value)}
    {oc__law_bent dc__law_bent pm__law_bent cd__law_bent ct__law_bent : Value}
    {kV__law_bent : Value}
    {a__law_due : Addr}
    {od__law_due an__law_due : Option Addr}
    {sl__law_due : Array (Option Value)}
    {oc__law_due dc__law_due pm__law_due cd__law_due ct__law_due : Value}
    {kV__law_due : Value}
    {a__law_refused : Addr}
    {od__law_refused an__law_refused : Option Addr}
    {sl__law_refused : Array (Option Value)}
    {oc__law_refused dc__law_refused pm__law_refused cd__law_refused ct__law_refused : Value}
    {kV__law_refused : Value}
    {a__law_told : Addr}
    {od__law_told an__law_told : Option Addr}
    {sl__law_told : Array (Option Value)}
    {oc__law_told dc__law_told pm__law_told cd__law_told ct__law_told : Value}
    {kV__law_told : Value}
    {a__law_asked : Addr}
    {od__law_asked an__law_asked : Option Addr}
    {sl__law_asked : Array (Option Value)}
    {oc__law_asked dc__law_asked pm__law_asked cd__law_asked ct__law_asked : Value}
    {kV__law_asked : Value}
    {a_law : Addr}
    {od_law an_law : Option Addr}
    {sl_law : Array (Option Value)}
    {oc_law dc_law pm_law cd_law ct_law : Value}
    {kV_law : Value}
    (n_abs : PySem.W.nsIn K mainGlobals "abs" = some none)
    (n_all : PySem.W.nsIn K mainGlobals "all" = some none)
    (n_bool : PySem.W.nsIn K mainGlobals "bool" = some none)
    (n_enumerate : PySem.W.nsIn K mainGlobals "enumerate" = some none)
    (n_int : PySem.W.nsIn K mainGlobals "int" = some none)
    (n_isinstance : PySem.W.nsIn K mainGlobals "isinstance" = some none)
    (n_len : PySem.W.nsIn K mainGlobals "len" = some none)
    (n_list : PySem.W.nsIn K mainGlobals "list" = some none)
    (n_range : PySem.W.nsIn K mainGlobals "range" = some none)
    (n_repr : PySem.W.nsIn K mainGlobals "repr" = some none)
    (n_tuple : PySem.W.nsIn K mainGlobals "tuple" = some none)
    (c_BILLION : PySem.W.nsIn K mainGlobals "BILLION" = some (some (.int 1000000000 t_BILLION)))
    (c_MOST_BY : PySem.W.nsIn K mainGlobals "MOST_BY" = some (some (.int 9 t_MOST_BY)))
    (c_MOST_HEAD : PySem.W.nsIn K mainGlobals "MOST_HEAD" = some (some (.int 24 t_MOST_HEAD)))
    (c_MOST_MOMENT : PySem.W.nsIn K mainGlobals "MOST_MOMENT" = some (some (.int 1000000000000000000000000000000 t_MOST_MOMENT)))
    (c_TAILS : PySem.W.nsIn K mainGlobals "TAILS" = some (some (.ref a_TAILS)))
    (l_TAILS : K.lookup a_TAILS = some { cls := .type "tuple", dict := e_TAILS, data := .seq #[.int 1 y_TAILS_0, .int 2 y_TAILS_1, .int 3 y_TAILS_2, .int 4 y_TAILS_3, .int 6 y_TAILS_4, .int 8 y_TAILS_5, .int 12 y_TAILS_6, .int 24 y_TAILS_7] z_TAILS, slots := sl_TAILS })
    (c_WaneError : PySem.W.nsIn K mainGlobals "WaneError" = some (some (.ref C_WaneError)))
    (xl_WaneError : K.lookup C_WaneError = some (excClassObj nm_WaneError qq_WaneError C_WaneError NN_WaneError bs_WaneError [.type "ValueError", .type "Exception", .type "BaseException", .type "object"] true sn_WaneError sb_WaneError ab_WaneError co_WaneError dd_WaneError k0_WaneError k1_WaneError k2_WaneError k3_WaneError k5_WaneError "ValueError.__new__"))
    (xs_WaneError : PySem.W.findIn K (.ref C_WaneError) "__setattr__" = some (some (.builtin "object.__setattr__")))
    (xe_WaneError : PySem.W.subIn K (.ref C_WaneError) (.type "BaseException") = some true)
    (xt_WaneError : PySem.W.typeIn K (.ref C_WaneError) = some (.type "type"))
    (xk_WaneError : PySem.W.keepIn K (.ref C_WaneError) = true)
    (xa_WaneError : PySem.W.findIn K (.ref C_WaneError) "__getattribute__" = some (some (.builtin "BaseException.__getattribute__")))
    (xg_WaneError : PySem.W.findIn K (.ref C_WaneError) "__getattr__" = some none)
    (xh_WaneError : PySem.W.hasDictIn K C_WaneError = true)
    (xc_WaneError : PySem.W.findIn K (.ref C_WaneError) "__class__" = some (some (.builtin "object.__class__")))
    (xn_WaneError : PySem.W.specialIn K (.builtin "object.__class__") "__get__" = some (some (.builtin "getset_descriptor.__get__")))
    (xo_WaneError : PySem.W.takesIn K (.builtin "object.__class__") = some true)
    (xm_WaneError : PySem.W.mroIn K C_WaneError (.type "object") = some true)
    (xx_WaneError : PySem.W.subIn K (.ref C_WaneError) (.ref C_WaneError) = some true)
    (xv_WaneError : PySem.W.subIn K (.ref C_WaneError) (.type "ValueError") = some true)
    (c_Wrong : PySem.W.nsIn K mainGlobals "Wrong" = some (some (.ref C_Wrong)))
    (xl_Wrong : K.lookup C_Wrong = some (excClassObj nm_Wrong qq_Wrong C_Wrong NN_Wrong bs_Wrong [.ref C_WaneError, .type "ValueError", .type "Exception", .type "BaseException", .type "object"] true sn_Wrong sb_Wrong ab_Wrong co_Wrong dd_Wrong k0_Wrong k1_Wrong k2_Wrong k3_Wrong k5_Wrong "ValueError.__new__"))
    (xs_Wrong : PySem.W.findIn K (.ref C_Wrong) "__setattr__" = some (some (.builtin "object.__setattr__")))
    (xe_Wrong : PySem.W.subIn K (.ref C_Wrong) (.type "BaseException") = some true)
    (xt_Wrong : PySem.W.typeIn K (.ref C_Wrong) = some (.type "type"))
    (xk_Wrong : PySem.W.keepIn K (.ref C_Wrong) = true)
    (xa_Wrong : PySem.W.findIn K (.ref C_Wrong) "__getattribute__" = some (some (.builtin "BaseException.__getattribute__")))
    (xg_Wrong : PySem.W.findIn K (.ref C_Wrong) "__getattr__" = some none)
    (xh_Wrong : PySem.W.hasDictIn K C_Wrong = true)
    (xc_Wrong : PySem.W.findIn K (.ref C_Wrong) "__class__" = some (some (.builtin "object.__class__")))
    (xn_Wrong : PySem.W.specialIn K (.builtin "object.__class__") "__get__" = some (some (.builtin "getset_descriptor.__get__")))
    (xo_Wrong : PySem.W.takesIn K (.builtin "object.__class__") = some true)
    (xm_Wrong : PySem.W.mroIn K C_Wrong (.type "object") = some true)
    (xx_Wrong : PySem.W.subIn K (.ref C_Wrong) (.ref C_Wrong) = some true)
    (xv_Wrong : PySem.W.subIn K (.ref C_Wrong) (.type "ValueError") = some true)
    (c_NoText : PySem.W.nsIn K mainGlobals "NoText" = some (some (.ref C_NoText)))
    (xl_NoText : K.lookup C_NoText = some (excClassObj nm_NoText qq_NoText C_NoText NN_NoText bs_NoText [.ref C_WaneError, .type "ValueError", .type "Exception", .type "BaseException", .type "object"] true sn_NoText sb_NoText ab_NoText co_NoText dd_NoText k0_NoText k1_NoText k2_NoText k3_NoText k5_NoText "ValueError.__new__"))
    (xs_NoText : PySem.W.findIn K (.ref C_NoText) "__setattr__" = some (some (.builtin "object.__setattr__")))
    (xe_NoText : PySem.W.subIn K (.ref C_NoText) (.type "BaseException") = some true)
    (xt_NoText : PySem.W.typeIn K (.ref C_NoText) = some (.type "type"))
    (xk_NoText : PySem.W.keepIn K (.ref C_NoText) = true)
    (xa_NoText : PySem.W.findIn K (.ref C_NoText) "__getattribute__" = some (some (.builtin "BaseException.__getattribute__")))
    (xg_NoText : PySem.W.findIn K (.ref C_NoText) "__getattr__" = some none)
    (xh_NoText : PySem.W.hasDictIn K C_NoText = true)
    (xc_NoText : PySem.W.findIn K (.ref C_NoText) "__class__" = some (some (.builtin "object.__class__")))
    (xn_NoText : PySem.W.specialIn K (.builtin "object.__class__") "__get__" = some (some (.builtin "getset_descriptor.__get__")))
    (xo_NoText : PySem.W.takesIn K (.builtin "object.__class__") = some true)
    (xm_NoText : PySem.W.mroIn K C_NoText (.type "object") = some true)
    (xx_NoText : PySem.W.subIn K (.ref C_NoText) (.ref C_NoText) = some true)
    (xv_NoText : PySem.W.subIn K (.ref C_NoText) (.type "ValueError") = some true)
    (c_TooMany : PySem.W.nsIn K mainGlobals "TooMany" = some (some (.ref C_TooMany)))
    (xl_TooMany : K.lookup C_TooMany = some (excClassObj nm_TooMany qq_TooMany C_TooMany NN_TooMany bs_TooMany [.ref C_WaneError, .type "ValueError", .type "Exception", .type "BaseException", .type "object"] true sn_TooMany sb_TooMany ab_TooMany co_TooMany dd_TooMany k0_TooMany k1_TooMany k2_TooMany k3_TooMany k5_TooMany "ValueError.__new__"))
    (xs_TooMany : PySem.W.findIn K (.ref C_TooMany) "__setattr__" = some (some (.builtin "object.__setattr__")))
    (xe_TooMany : PySem.W.subIn K (.ref C_TooMany) (.type "BaseException") = some true)
    (xt_TooMany : PySem.W.typeIn K (.ref C_TooMany) = some (.type "type"))
    (xk_TooMany : PySem.W.keepIn K (.ref C_TooMany) = true)
    (xa_TooMany : PySem.W.findIn K (.ref C_TooMany) "__getattribute__" = some (some (.builtin "BaseException.__getattribute__")))
    (xg_TooMany : PySem.W.findIn K (.ref C_TooMany) "__getattr__" = some none)
    (xh_TooMany : PySem.W.hasDictIn K C_TooMany = true)
    (xc_TooMany : PySem.W.findIn K (.ref C_TooMany) "__class__" = some (some (.builtin "object.__class__")))
    (xn_TooMany : PySem.W.specialIn K (.builtin "object.__class__") "__get__" = some (some (.builtin "getset_descriptor.__get__")))
    (xo_TooMany : PySem.W.takesIn K (.builtin "object.__class__") = some true)
    (xm_TooMany : PySem.W.mroIn K C_TooMany (.type "object") = some true)
    (xx_TooMany : PySem.W.subIn K (.ref C_TooMany) (.ref C_TooMany) = some true)
    (xv_TooMany : PySem.W.subIn K (.ref C_TooMany) (.type "ValueError") = some true)
    (c_Wane : PySem.W.nsIn K mainGlobals "Wane" = some (some (.ref C_Wane)))
    (pg_Wane : PySem.W.plainGet K C_Wane Str.empty = true)
    (hd_Wane : PySem.W.hasDictIn K C_Wane = true)
    (po_Wane : PySem.W.plainOver K C_Wane = true)
    (sa_Wane : PySem.W.findIn K (.ref C_Wane) "__setattr__" = some (some (.builtin "object.__setattr__")))
    (ic1_Wane : PySem.W.findIn K (.ref C_Wane) "__class__" = some (some (.builtin "object.__class__")))
    (ic2_Wane : PySem.W.specialIn K (.builtin "object.__class__") "__get__" = some (some (.builtin "getset_descriptor.__get__")))
    (ic3_Wane : PySem.W.takesIn K (.builtin "object.__class__") = some true)
    (ic4_Wane : PySem.W.mroIn K C_Wane (.type "object") = some true)
    (ty_Wane : PySem.W.typeIn K (.ref C_Wane) = some (.type "type"))
    (na_Wane__anew : PySem.W.findIn K (.ref C_Wane) "_anew" = some none)
    (na_Wane__cap : PySem.W.findIn K (.ref C_Wane) "_cap" = some none)
    (na_Wane__head : PySem.W.findIn K (.ref C_Wane) "_head" = some none)
    (na_Wane__lift : PySem.W.findIn K (.ref C_Wane) "_lift" = some none)
    (na_Wane__steps : PySem.W.findIn K (.ref C_Wane) "_steps" = some none)
    (na_Wane__tail : PySem.W.findIn K (.ref C_Wane) "_tail" = some none)
    (m_Wrong___init__ : PySem.W.findIn K (.ref C_Wrong) "__init__" = some (some (.ref a_Wrong___init__)))
    (l_Wrong___init__ : K.lookup a_Wrong___init__ = some ⟨oc_Wrong___init__, od_Wrong___init__, .func (PySem.W.fnOf "__init__" "Wrong.__init__" (defArgs s_Wrong___init__) (defBody s_Wrong___init__) (defScope s_Wrong___init__) .none kV_Wrong___init__ dc_Wrong___init__ pm_Wrong___init__ an_Wrong___init__ cd_Wrong___init__ ct_Wrong___init__), sl_Wrong___init__⟩)
    (h_Wrong___init__ : PySem.W.codeIn K cd_Wrong___init__ "Wrong.__init__" = true)
    (k_Wrong___init__ : PySem.W.keepIn K (.ref a_Wrong___init__) = true)
    (m_refuse_wrong : PySem.W.nsIn K mainGlobals "refuse_wrong" = some (some (.ref a_refuse_wrong)))
    (l_refuse_wrong : K.lookup a_refuse_wrong = some ⟨oc_refuse_wrong, od_refuse_wrong, .func (PySem.W.fnOf "refuse_wrong" "refuse_wrong" (defArgs s_refuse_wrong) (defBody s_refuse_wrong) (defScope s_refuse_wrong) .none kV_refuse_wrong dc_refuse_wrong pm_refuse_wrong an_refuse_wrong cd_refuse_wrong ct_refuse_wrong), sl_refuse_wrong⟩)
    (h_refuse_wrong : PySem.W.codeIn K cd_refuse_wrong "refuse_wrong" = true)
    (k_refuse_wrong : PySem.W.keepIn K (.ref a_refuse_wrong) = true)
    (m_is_whole : PySem.W.nsIn K mainGlobals "is_whole" = some (some (.ref a_is_whole)))
    (l_is_whole : K.lookup a_is_whole = some ⟨oc_is_whole, od_is_whole, .func (PySem.W.fnOf "is_whole" "is_whole" (defArgs s_is_whole) (defBody s_is_whole) (defScope s_is_whole) .none kV_is_whole dc_is_whole pm_is_whole an_is_whole cd_is_whole ct_is_whole), sl_is_whole⟩)
    (h_is_whole : PySem.W.codeIn K cd_is_whole "is_whole" = true)
    (k_is_whole : PySem.W.keepIn K (.ref a_is_whole) = true)
    (m_is_within : PySem.W.nsIn K mainGlobals "is_within" = some (some (.ref a_is_within)))
    (l_is_within : K.lookup a_is_within = some ⟨oc_is_within, od_is_within, .func (PySem.W.fnOf "is_within" "is_within" (defArgs s_is_within) (defBody s_is_within) (defScope s_is_within) .none kV_is_within dc_is_within pm_is_within an_is_within cd_is_within ct_is_within), sl_is_within⟩)
    (h_is_within : PySem.W.codeIn K cd_is_within "is_within" = true)
    (k_is_within : PySem.W.keepIn K (.ref a_is_within) = true)
    (m_is_strength : PySem.W.nsIn K mainGlobals "is_strength" = some (some (.ref a_is_strength)))
    (l_is_strength : K.lookup a_is_strength = some ⟨oc_is_strength, od_is_strength, .func (PySem.W.fnOf "is_strength" "is_strength" (defArgs s_is_strength) (defBody s_is_strength) (defScope s_is_strength) .none kV_is_strength dc_is_strength pm_is_strength an_is_strength cd_is_strength ct_is_strength), sl_is_strength⟩)
    (h_is_strength : PySem.W.codeIn K cd_is_strength "is_strength" = true)
    (k_is_strength : PySem.W.keepIn K (.ref a_is_strength) = true)
    (m_is_size : PySem.W.nsIn K mainGlobals "is_size" = some (some (.ref a_is_size)))
    (l_is_size : K.lookup a_is_size = some ⟨oc_is_size, od_is_size, .func (PySem.W.fnOf "is_size" "is_size" (defArgs s_is_size) (defBody s_is_size) (defScope s_is_size) .none kV_is_size dc_is_size pm_is_size an_is_size cd_is_size ct_is_size), sl_is_size⟩)
    (h_is_size : PySem.W.codeIn K cd_is_size "is_size" = true)
    (k_is_size : PySem.W.keepIn K (.ref a_is_size) = true)
    (m_is_moment : PySem.W.nsIn K mainGlobals "is_moment" = some (some (.ref a_is_moment)))
    (l_is_moment : K.lookup a_is_moment = some ⟨oc_is_moment, od_is_moment, .func (PySem.W.fnOf "is_moment" "is_moment" (defArgs s_is_moment) (defBody s_is_moment) (defScope s_is_moment) .none kV_is_moment dc_is_moment pm_is_moment an_is_moment cd_is_moment ct_is_moment), sl_is_moment⟩)
    (h_is_moment : PySem.W.codeIn K cd_is_moment "is_moment" = true)
    (k_is_moment : PySem.W.keepIn K (.ref a_is_moment) = true)
    (m_is_step : PySem.W.nsIn K mainGlobals "is_step" = some (some (.ref a_is_step)))
    (l_is_step : K.lookup a_is_step = some ⟨oc_is_step, od_is_step, .func (PySem.W.fnOf "is_step" "is_step" (defArgs s_is_step) (defBody s_is_step) (defScope s_is_step) .none kV_is_step dc_is_step pm_is_step an_is_step cd_is_step ct_is_step), sl_is_step⟩)
    (h_is_step : PySem.W.codeIn K cd_is_step "is_step" = true)
    (k_is_step : PySem.W.keepIn K (.ref a_is_step) = true)
    (m_Wane___init__ : PySem.W.findIn K (.ref C_Wane) "__init__" = some (some (.ref a_Wane___init__)))
    (l_Wane___init__ : K.lookup a_Wane___init__ = some ⟨oc_Wane___init__, od_Wane___init__, .func (PySem.W.fnOf "__init__" "Wane.__init__" (defArgs s_Wane___init__) (defBody s_Wane___init__) (defScope s_Wane___init__) .none (.ref D_Wane___init__) dc_Wane___init__ pm_Wane___init__ an_Wane___init__ cd_Wane___init__ ct_Wane___init__), sl_Wane___init__⟩)
    (h_Wane___init__ : PySem.W.codeIn K cd_Wane___init__ "Wane.__init__" = true)
    (k_Wane___init__ : PySem.W.keepIn K (.ref a_Wane___init__) = true)
    (kw_Wane___init___anew : PySem.W.nsIn K D_Wane___init__ "anew" = some (some (.bool true)))
    (i_Wane___init__ : PySem.W.isFn K (.ref a_Wane___init__) = true)
    (mk_Wane : PySem.W.makesIn K C_Wane = true)
    (kc_Wane : PySem.W.keepIn K (.ref C_Wane) = true)
    (m_Wane_step : PySem.W.findIn K (.ref C_Wane) "step" = some (some (.ref a_Wane_step)))
    (l_Wane_step : K.lookup a_Wane_step = some ⟨oc_Wane_step, od_Wane_step, .func (PySem.W.fnOf "step" "Wane.step" (defArgs s_Wane_step) (defBody s_Wane_step) (defScope s_Wane_step) .none kV_Wane_step dc_Wane_step pm_Wane_step an_Wane_step cd_Wane_step ct_Wane_step), sl_Wane_step⟩)
    (h_Wane_step : PySem.W.codeIn K cd_Wane_step "Wane.step" = true)
    (k_Wane_step : PySem.W.keepIn K (.ref a_Wane_step) = true)
    (i_Wane_step : PySem.W.isFn K (.ref a_Wane_step) = true)
    (m_Wane_phase : PySem.W.findIn K (.ref C_Wane) "phase" = some (some (.ref a_Wane_phase)))
    (l_Wane_phase : K.lookup a_Wane_phase = some ⟨oc_Wane_phase, od_Wane_phase, .func (PySem.W.fnOf "phase" "Wane.phase" (defArgs s_Wane_phase) (defBody s_Wane_phase) (defScope s_Wane_phase) .none kV_Wane_phase dc_Wane_phase pm_Wane_phase an_Wane_phase cd_Wane_phase ct_Wane_phase), sl_Wane_phase⟩)
    (h_Wane_phase : PySem.W.codeIn K cd_Wane_phase "Wane.phase" = true)
    (k_Wane_phase : PySem.W.keepIn K (.ref a_Wane_phase) = true)
    (i_Wane_phase : PySem.W.isFn K (.ref a_Wane_phase) = true)
    (m_Wane_step_behind : PySem.W.findIn K (.ref C_Wane) "step_behind" = some (some (.ref a_Wane_step_behind)))
    (l_Wane_step_behind : K.lookup a_Wane_step_behind = some ⟨oc_Wane_step_behind, od_Wane_step_behind, .func (PySem.W.fnOf "step_behind" "Wane.step_behind" (defArgs s_Wane_step_behind) (defBody s_Wane_step_behind) (defScope s_Wane_step_behind) .none kV_Wane_step_behind dc_Wane_step_behind pm_Wane_step_behind an_Wane_step_behind cd_Wane_step_behind ct_Wane_step_behind), sl_Wane_step_behind⟩)
    (h_Wane_step_behind : PySem.W.codeIn K cd_Wane_step_behind "Wane.step_behind" = true)
    (k_Wane_step_behind : PySem.W.keepIn K (.ref a_Wane_step_behind) = true)
    (i_Wane_step_behind : PySem.W.isFn K (.ref a_Wane_step_behind) = true)
    (m_Wane_phase_behind : PySem.W.findIn K (.ref C_Wane) "phase_behind" = some (some (.ref a_Wane_phase_behind)))
    (l_Wane_phase_behind : K.lookup a_Wane_phase_behind = some ⟨oc_Wane_phase_behind, od_Wane_phase_behind, .func (PySem.W.fnOf "phase_behind" "Wane.phase_behind" (defArgs s_Wane_phase_behind) (defBody s_Wane_phase_behind) (defScope s_Wane_phase_behind) .none kV_Wane_phase_behind dc_Wane_phase_behind pm_Wane_phase_behind an_Wane_phase_behind cd_Wane_phase_behind ct_Wane_phase_behind), sl_Wane_phase_behind⟩)
    (h_Wane_phase_behind : PySem.W.codeIn K cd_Wane_phase_behind "Wane.phase_behind" = true)
    (k_Wane_phase_behind : PySem.W.keepIn K (.ref a_Wane_phase_behind) = true)
    (i_Wane_phase_behind : PySem.W.isFn K (.ref a_Wane_phase_behind) = true)
    (m__is_head : PySem.W.nsIn K mainGlobals "_is_head" = some (some (.ref a__is_head)))
    (l__is_head : K.lookup a__is_head = some ⟨oc__is_head, od__is_head, .func (PySem.W.fnOf "_is_head" "_is_head" (defArgs s__is_head) (defBody s__is_head) (defScope s__is_head) .none kV__is_head dc__is_head pm__is_head an__is_head cd__is_head ct__is_head), sl__is_head⟩)
    (h__is_head : PySem.W.codeIn K cd__is_head "_is_head" = true)
    (k__is_head : PySem.W.keepIn K (.ref a__is_head) = true)
    (m__is_tail : PySem.W.nsIn K mainGlobals "_is_tail" = some (some (.ref a__is_tail)))
    (l__is_tail : K.lookup a__is_tail = some ⟨oc__is_tail, od__is_tail, .func (PySem.W.fnOf "_is_tail" "_is_tail" (defArgs s__is_tail) (defBody s__is_tail) (defScope s__is_tail) .none kV__is_tail dc__is_tail pm__is_tail an__is_tail cd__is_tail ct__is_tail), sl__is_tail⟩)
    (h__is_tail : PySem.W.codeIn K cd__is_tail "_is_tail" = true)
    (k__is_tail : PySem.W.keepIn K (.ref a__is_tail) = true)
    (m__are_steps : PySem.W.nsIn K mainGlobals "_are_steps" = some (some (.ref a__are_steps)))
    (l__are_steps : K.lookup a__are_steps = some ⟨oc__are_steps, od__are_steps, .func (PySem.W.fnOf "_are_steps" "_are_steps" (defArgs s__are_steps) (defBody s__are_steps) (defScope s__are_steps) .none kV__are_steps dc__are_steps pm__are_steps an__are_steps cd__are_steps ct__are_steps), sl__are_steps⟩)
    (h__are_steps : PySem.W.codeIn K cd__are_steps "_are_steps" = true)
    (k__are_steps : PySem.W.keepIn K (.ref a__are_steps) = true)
    (m__law_bag : PySem.W.nsIn K mainGlobals "_law_bag" = some (some (.ref a__law_bag)))
    (l__law_bag : K.lookup a__law_bag = some ⟨oc__law_bag, od__law_bag, .func (PySem.W.fnOf "_law_bag" "_law_bag" (defArgs s__law_bag) (defBody s__law_bag) (defScope s__law_bag) .none kV__law_bag dc__law_bag pm__law_bag an__law_bag cd__law_bag ct__law_bag), sl__law_bag⟩)
    (h__law_bag : PySem.W.codeIn K cd__law_bag "_law_bag" = true)
    (k__law_bag : PySem.W.keepIn K (.ref a__law_bag) = true)
    (m__law_take : PySem.W.nsIn K mainGlobals "_law_take" = some (some (.ref a__law_take)))
    (l__law_take : K.lookup a__law_take = some ⟨oc__law_take, od__law_take, .func (PySem.W.fnOf "_law_take" "_law_take" (defArgs s__law_take) (defBody s__law_take) (defScope s__law_take) .none kV__law_take dc__law_take pm__law_take an__law_take cd__law_take ct__law_take), sl__law_take⟩)
    (h__law_take : PySem.W.codeIn K cd__law_take "_law_take" = true)
    (k__law_take : PySem.W.keepIn K (.ref a__law_take) = true)
    (m__law_steps : PySem.W.nsIn K mainGlobals "_law_steps" = some (some (.ref a__law_steps)))
    (l__law_steps : K.lookup a__law_steps = some ⟨oc__law_steps, od__law_steps, .func (PySem.W.fnOf "_law_steps" "_law_steps" (defArgs s__law_steps) (defBody s__law_steps) (defScope s__law_steps) .none kV__law_steps dc__law_steps pm__law_steps an__law_steps cd__law_steps ct__law_steps), sl__law_steps⟩)
    (h__law_steps : PySem.W.codeIn K cd__law_steps "_law_steps" = true)
    (k__law_steps : PySem.W.keepIn K (.ref a__law_steps) = true)
    (m__law_plan : PySem.W.nsIn K mainGlobals "_law_plan" = some (some (.ref a__law_plan)))
    (l__law_plan : K.lookup a__law_plan = some ⟨oc__law_plan, od__law_plan, .func (PySem.W.fnOf "_law_plan" "_law_plan" (defArgs s__law_plan) (defBody s__law_plan) (defScope s__law_plan) .none kV__law_plan dc__law_plan pm__law_plan an__law_plan cd__law_plan ct__law_plan), sl__law_plan⟩)
    (h__law_plan : PySem.W.codeIn K cd__law_plan "_law_plan" = true)
    (k__law_plan : PySem.W.keepIn K (.ref a__law_plan) = true)
    (m__law_within : PySem.W.nsIn K mainGlobals "_law_within" = some (some (.ref a__law_within)))
    (l__law_within : K.lookup a__law_within = some ⟨oc__law_within, od__law_within, .func (PySem.W.fnOf "_law_within" "_law_within" (defArgs s__law_within) (defBody s__law_within) (defScope s__law_within) .none kV__law_within dc__law_within pm__law_within an__law_within cd__law_within ct__law_within), sl__law_within⟩)
    (h__law_within : PySem.W.codeIn K cd__law_within "_law_within" = true)
    (k__law_within : PySem.W.keepIn K (.ref a__law_within) = true)
    (m__law_is_step : PySem.W.nsIn K mainGlobals "_law_is_step" = some (some (.ref a__law_is_step)))
    (l__law_is_step : K.lookup a__law_is_step = some ⟨oc__law_is_step, od__law_is_step, .func (PySem.W.fnOf "_law_is_step" "_law_is_step" (defArgs s__law_is_step) (defBody s__law_is_step) (defScope s__law_is_step) .none kV__law_is_step dc__law_is_step pm__law_is_step an__law_is_step cd__law_is_step ct__law_is_step), sl__law_is_step⟩)
    (h__law_is_step : PySem.W.codeIn K cd__law_is_step "_law_is_step" = true)
    (k__law_is_step : PySem.W.keepIn K (.ref a__law_is_step) = true)
    (m__law_bent_steps : PySem.W.nsIn K mainGlobals "_law_bent_steps" = some (some (.ref a__law_bent_steps)))
    (l__law_bent_steps : K.lookup a__law_bent_steps = some ⟨oc__law_bent_steps, od__law_bent_steps, .func (PySem.W.fnOf "_law_bent_steps" "_law_bent_steps" (defArgs s__law_bent_steps) (defBody s__law_bent_steps) (defScope s__law_bent_steps) .none kV__law_bent_steps dc__law_bent_steps pm__law_bent_steps an__law_bent_steps cd__law_bent_steps ct__law_bent_steps), sl__law_bent_steps⟩)
    (h__law_bent_steps : PySem.W.codeIn K cd__law_bent_steps "_law_bent_steps" = true)
    (k__law_bent_steps : PySem.W.keepIn K (.ref a__law_bent_steps) = true)
    (m__law_bent : PySem.W.nsIn K mainGlobals "_law_bent" = some (some (.ref a__law_bent)))
    (l__law_bent : K.lookup a__law_bent = some ⟨oc__law_bent, od__law_bent, .func (PySem.W.fnOf "_law_bent" "_law_bent" (defArgs s__law_bent) (defBody s__law_bent) (defScope s__law_bent) .none kV__law_bent dc__law_bent pm__law_bent an__law_bent cd__law_bent ct__law_bent), sl__law_bent⟩)
    (h__law_bent : PySem.W.codeIn K cd__law_bent "_law_bent" = true)
    (k__law_bent : PySem.W.keepIn K (.ref a__law_bent) = true)
    (m__law_due : PySem.W.nsIn K mainGlobals "_law_due" = some (some (.ref a__law_due)))
    (l__law_due : K.lookup a__law_due = some ⟨oc__law_due, od__law_due, .func (PySem.W.fnOf "_law_due" "_law_due" (defArgs s__law_due) (defBody s__law_due) (defScope s__law_due) .none kV__law_due dc__law_due pm__law_due an__law_due cd__law_due ct__law_due), sl__law_due⟩)
    (h__law_due : PySem.W.codeIn K cd__law_due "_law_due" = true)
    (k__law_due : PySem.W.keepIn K (.ref a__law_due) = true)
    (m__law_refused : PySem.W.nsIn K mainGlobals "_law_refused" = some (some (.ref a__law_refused)))
    (l__law_refused : K.lookup a__law_refused = some ⟨oc__law_refused, od__law_refused, .func (PySem.W.fnOf "_law_refused" "_law_refused" (defArgs s__law_refused) (defBody s__law_refused) (defScope s__law_refused) .none kV__law_refused dc__law_refused pm__law_refused an__law_refused cd__law_refused ct__law_refused), sl__law_refused⟩)
    (h__law_refused : PySem.W.codeIn K cd__law_refused "_law_refused" = true)
    (k__law_refused : PySem.W.keepIn K (.ref a__law_refused) = true)
    (m__law_told : PySem.W.nsIn K mainGlobals "_law_told" = some (some (.ref a__law_told)))
    (l__law_told : K.lookup a__law_told = some ⟨oc__law_told, od__law_told, .func (PySem.W.fnOf "_law_told" "_law_told" (defArgs s__law_told) (defBody s__law_told) (defScope s__law_told) .none kV__law_told dc__law_told pm__law_told an__law_told cd__law_told ct__law_told), sl__law_told⟩)
    (h__law_told : PySem.W.codeIn K cd__law_told "_law_told" = true)
    (k__law_told : PySem.W.keepIn K (.ref a__law_told) = true)
    (m__law_asked : PySem.W.nsIn K mainGlobals "_law_asked" = some (some (.ref a__law_asked)))
    (l__law_asked : K.lookup a__law_asked = some ⟨oc__law_asked, od__law_asked, .func (PySem.W.fnOf "_law_asked" "_law_asked" (defArgs s__law_asked) (defBody s__law_asked) (defScope s__law_asked) .none kV__law_asked dc__law_asked pm__law_asked an__law_asked cd__law_asked ct__law_asked), sl__law_asked⟩)
    (h__law_asked : PySem.W.codeIn K cd__law_asked "_law_asked" = true)
    (k__law_asked : PySem.W.keepIn K (.ref a__law_asked) = true)
    (m_law : PySem.W.nsIn K mainGlobals "law" = some (some (.ref a_law)))
    (l_law : K.lookup a_law = some ⟨oc_law, od_law, .func (PySem.W.fnOf "law" "law" (defArgs s_law) (defBody s_law) (defScope s_law) .none kV_law dc_law pm_law an_law cd_law ct_law), sl_law⟩)
    (h_law : PySem.W.codeIn K cd_law "law" = true)
    (k_law : PySem.W.keepIn K (.ref a_law) = true)
    (su_WaneError_Wrong : PySem.W.subIn K (.ref C_WaneError) (.ref C_Wrong) = some false)
    (su_WaneError_NoText : PySem.W.subIn K (.ref C_WaneError) (.ref C_NoText) = some false)
    (su_WaneError_TooMany : PySem.W.subIn K (.ref C_WaneError) (.ref C_TooMany) = some false)
    (ei_WaneError : PySem.W.excIn K C_WaneError [.type "ValueError", .type "Exception", .type "BaseException", .type "object"] "ValueError.__new__" = true)
    (su_Wrong_WaneError : PySem.W.subIn K (.ref C_Wrong) (.ref C_WaneError) = some true)
    (su_Wrong_NoText : PySem.W.subIn K (.ref C_Wrong) (.ref C_NoText) = some false)
    (su_Wrong_TooMany : PySem.W.subIn K (.ref C_Wrong) (.ref C_TooMany) = some false)
    (ot_Wrong : PySem.W.typeIn K (.ref a_Wrong___init__) = some (.type "function"))
    (nf_Wrong : PySem.W.findIn K (.ref C_Wrong) "place" = some none)
    (su_NoText_WaneError : PySem.W.subIn K (.ref C_NoText) (.ref C_WaneError) = some true)
    (su_NoText_Wrong : PySem.W.subIn K (.ref C_NoText) (.ref C_Wrong) = some false)
    (su_NoText_TooMany : PySem.W.subIn K (.ref C_NoText) (.ref C_TooMany) = some false)
    (ei_NoText : PySem.W.excIn K C_NoText [.type "ValueError", .type "Exception", .type "BaseException", .type "object"] "ValueError.__new__" = true)
    (su_TooMany_WaneError : PySem.W.subIn K (.ref C_TooMany) (.ref C_WaneError) = some true)
    (su_TooMany_Wrong : PySem.W.subIn K (.ref C_TooMany) (.ref C_Wrong) = some false)
    (su_TooMany_NoText : PySem.W.subIn K (.ref C_TooMany) (.ref C_NoText) = some false) :
    ∃ fd : FuncData, (∀ (s : Shared) (v : Value), BindsTo s fd ⟨[v], []⟩ [("_law_script", v)]) ∧ ∀ base : Heap, K.In base → base.Ns mainGlobals mg → FnG l.prog w K mg base CX0 10 fa fd ["_law_script"] (sp_law K) := by
  have e : a_law = fa := by
    have e := hfa.symm.trans (PySem.W.mg_of X G m_law)
    cases e
    rfl
  subst e
  let W : Wd K mg := {
    n_abs := PySem.W.mg_none_of X G n_abs,
    n_all := PySem.W.mg_none_of X G n_all,
    n_bool := PySem.W.mg_none_of X G n_bool,
    n_enumerate := PySem.W.mg_none_of X G n_enumerate,
    n_int := PySem.W.mg_none_of X G n_int,
    n_isinstance := PySem.W.mg_none_of X G n_isinstance,
    n_len := PySem.W.mg_none_of X G n_len,
    n_list := PySem.W.mg_none_of X G n_list,
    n_range := PySem.W.mg_none_of X G n_range,
    n_repr := PySem.W.mg_none_of X G n_repr,
    n_tuple := PySem.W.mg_none_of X G n_tuple,
    t_BILLION := t_BILLION,
    c_BILLION := PySem.W.mg_of X G c_BILLION,
    t_MOST_BY := t_MOST_BY,
    c_MOST_BY := PySem.W.mg_of X G c_MOST_BY,
    t_MOST_HEAD := t_MOST_HEAD,
    c_MOST_HEAD := PySem.W.mg_of X G c_MOST_HEAD,
    t_MOST_MOMENT := t_MOST_MOMENT,
    c_MOST_MOMENT := PySem.W.mg_of X G c_MOST_MOMENT,
    a_TAILS := a_TAILS,
    c_TAILS := PySem.W.mg_of X G c_TAILS,
    i_TAILS := ⟨⟨_, _, _, l_TAILS, rfl, rfl, (by show 8 ≤ sizeLine; decide), .cons ⟨_, rfl⟩ (.cons ⟨_, rfl⟩ (.cons ⟨_, rfl⟩ (.cons ⟨_, rfl⟩ (.cons ⟨_, rfl⟩ (.cons ⟨_, rfl⟩ (.cons ⟨_, rfl⟩ (.cons ⟨_, rfl⟩ (.nil))))))))⟩⟩,
    C_WaneError := C_WaneError,
    c_WaneError := PySem.W.mg_of X G c_WaneError,
    x_WaneError := xcls_mk xl_WaneError ve0 xs_WaneError xe_WaneError xt_WaneError xk_WaneError xa_WaneError xg_WaneError xh_WaneError xc_WaneError xn_WaneError xo_WaneError xm_WaneError xx_WaneError,
    sv_WaneError := xv_WaneError,
    C_Wrong := C_Wrong,
    c_Wrong := PySem.W.mg_of X G c_Wrong,
    x_Wrong := xcls_mk xl_Wrong ve1 xs_Wrong xe_Wrong xt_Wrong xk_Wrong xa_Wrong xg_Wrong xh_Wrong xc_Wrong xn_Wrong xo_Wrong xm_Wrong xx_Wrong,
    sv_Wrong := xv_Wrong,
    C_NoText := C_NoText,
    c_NoText := PySem.W.mg_of X G c_NoText,
    x_NoText := xcls_mk xl_NoText ve1 xs_NoText xe_NoText xt_NoText xk_NoText xa_NoText xg_NoText xh_NoText xc_NoText xn_NoText xo_NoText xm_NoText xx_NoText,
    sv_NoText := xv_NoText,
    C_TooMany := C_TooMany,
    c_TooMany := PySem.W.mg_of X G c_TooMany,
    x_TooMany := xcls_mk xl_TooMany ve1 xs_TooMany xe_TooMany xt_TooMany xk_TooMany xa_TooMany xg_TooMany xh_TooMany xc_TooMany xn_TooMany xo_TooMany xm_TooMany xx_TooMany,
    sv_TooMany := xv_TooMany,
    C_Wane := C_Wane,
    c_Wane := PySem.W.mg_of X G c_Wane,
    cl_Wane := ⟨pg_Wane, hd_Wane, po_Wane, sa_Wane⟩,
    ic_Wane := ⟨⟨pg_Wane, hd_Wane, po_Wane, sa_Wane⟩, ic1_Wane, ic2_Wane, ic3_Wane, ic4_Wane, kitOne_self⟩,
    ty_Wane := ty_Wane,
    na_Wane__anew := na_Wane__anew,
    na_Wane__cap := na_Wane__cap,
    na_Wane__head := na_Wane__head,
    na_Wane__lift := na_Wane__lift,
    na_Wane__steps := na_Wane__steps,
    na_Wane__tail := na_Wane__tail,
    a_Wrong___init__ := a_Wrong___init__,
    d_Wrong___init__ := _,
    F_Wrong___init__ := fun_mk (st := s_Wrong___init__) l_Wrong___init__ h_Wrong___init__ k_Wrong___init__,
    a_refuse_wrong := a_refuse_wrong,
    d_refuse_wrong := _,
    m_refuse_wrong := PySem.W.mg_of X G m_refuse_wrong,
    F_refuse_wrong := fun_mk (st := s_refuse_wrong) l_refuse_wrong h_refuse_wrong k_refuse_wrong,
    a_is_whole := a_is_whole,
    d_is_whole := _,
    m_is_whole := PySem.W.mg_of X G m_is_whole,
    F_is_whole := fun_mk (st := s_is_whole) l_is_whole h_is_whole k_is_whole,
    a_is_within := a_is_within,
    d_is_within := _,
    m_is_within := PySem.W.mg_of X G m_is_within,
    F_is_within := fun_mk (st := s_is_within) l_is_within h_is_within k_is_within,
    a_is_strength := a_is_strength,
    d_is_strength := _,
    m_is_strength := PySem.W.mg_of X G m_is_strength,
    F_is_strength := fun_mk (st := s_is_strength) l_is_strength h_is_strength k_is_strength,
    a_is_size := a_is_size,
    d_is_size := _,
    m_is_size := PySem.W.mg_of X G m_is_size,
    F_is_size := fun_mk (st := s_is_size) l_is_size h_is_size k_is_size,
    a_is_moment := a_is_moment,
    d_is_moment := _,
    m_is_moment := PySem.W.mg_of X G m_is_moment,
    F_is_moment := fun_mk (st := s_is_moment) l_is_moment h_is_moment k_is_moment,
    a_is_step := a_is_step,
    d_is_step := _,
    m_is_step := PySem.W.mg_of X G m_is_step,
    F_is_step := fun_mk (st := s_is_step) l_is_step h_is_step k_is_step,
    a_Wane___init__ := a_Wane___init__,
    d_Wane___init__ := _,
    D_Wane___init__ := ⟨⟨_, _, _, _, _, _, _, _, _, _, rfl, l_Wane___init__, h_Wane___init__, .inl ⟨rfl, rfl⟩, .inr ⟨_, rfl, fun q hq => by
      rcases List.mem_cons.mp hq with e | hq
      · subst e; exact ⟨_, kw_Wane___init___anew, rfl⟩
      cases hq⟩⟩, k_Wane___init__⟩,
    K_Wane := ⟨mk_Wane, m_Wane___init__, i_Wane___init__, kc_Wane⟩,
    a_Wane_step := a_Wane_step,
    d_Wane_step := _,
    F_Wane_step := fun_mk (st := s_Wane_step) l_Wane_step h_Wane_step k_Wane_step,
    M_Wane_step := ⟨m_Wane_step, i_Wane_step, k_Wane_step⟩,
    a_Wane_phase := a_Wane_phase,
    d_Wane_phase := _,
    F_Wane_phase := fun_mk (st := s_Wane_phase) l_Wane_phase h_Wane_phase k_Wane_phase,
    M_Wane_phase := ⟨m_Wane_phase, i_Wane_phase, k_Wane_phase⟩,
    a_Wane_step_behind := a_Wane_step_behind,
    d_Wane_step_behind := _,
    F_Wane_step_behind := fun_mk (st := s_Wane_step_behind) l_Wane_step_behind h_Wane_step_behind k_Wane_step_behind,
    M_Wane_step_behind := ⟨m_Wane_step_behind, i_Wane_step_behind, k_Wane_step_behind⟩,
    a_Wane_phase_behind := a_Wane_phase_behind,
    d_Wane_phase_behind := _,
    F_Wane_phase_behind := fun_mk (st := s_Wane_phase_behind) l_Wane_phase_behind h_Wane_phase_behind k_Wane_phase_behind,
    M_Wane_phase_behind := ⟨m_Wane_phase_behind, i_Wane_phase_behind, k_Wane_phase_behind⟩,
    a__is_head := a__is_head,
    d__is_head := _,
    m__is_head := PySem.W.mg_of X G m__is_head,
    F__is_head := fun_mk (st := s__is_head) l__is_head h__is_head k__is_head,
    a__is_tail := a__is_tail,
    d__is_tail := _,
    m__is_tail := PySem.W.mg_of X G m__is_tail,
    F__is_tail := fun_mk (st := s__is_tail) l__is_tail h__is_tail k__is_tail,
    a__are_steps := a__are_steps,
    d__are_steps := _,
    m__are_steps := PySem.W.mg_of X G m__are_steps,
    F__are_steps := fun_mk (st := s__are_steps) l__are_steps h__are_steps k__are_steps,
    a__law_bag := a__law_bag,
    d__law_bag := _,
    m__law_bag := PySem.W.mg_of X G m__law_bag,
    F__law_bag := fun_mk (st := s__law_bag) l__law_bag h__law_bag k__law_bag,
    a__law_take := a__law_take,
    d__law_take := _,
    m__law_take := PySem.W.mg_of X G m__law_take,
    F__law_take := fun_mk (st := s__law_take) l__law_take h__law_take k__law_take,
    a__law_steps := a__law_steps,
    d__law_steps := _,
    m__law_steps := PySem.W.mg_of X G m__law_steps,
    F__law_steps := fun_mk (st := s__law_steps) l__law_steps h__law_steps k__law_steps,
    a__law_plan := a__law_plan,
    d__law_plan := _,
    m__law_plan := PySem.W.mg_of X G m__law_plan,
    F__law_plan := fun_mk (st := s__law_plan) l__law_plan h__law_plan k__law_plan,
    a__law_within := a__law_within,
    d__law_within := _,
    m__law_within := PySem.W.mg_of X G m__law_within,
    F__law_within := fun_mk (st := s__law_within) l__law_within h__law_within k__law_within,
    a__law_is_step := a__law_is_step,
    d__law_is_step := _,
    m__law_is_step := PySem.W.mg_of X G m__law_is_step,
    F__law_is_step := fun_mk (st := s__law_is_step) l__law_is_step h__law_is_step k__law_is_step,
    a__law_bent_steps := a__law_bent_steps,
    d__law_bent_steps := _,
    m__law_bent_steps := PySem.W.mg_of X G m__law_bent_steps,
    F__law_bent_steps := fun_mk (st := s__law_bent_steps) l__law_bent_steps h__law_bent_steps k__law_bent_steps,
    a__law_bent := a__law_bent,
    d__law_bent := _,
    m__law_bent := PySem.W.mg_of X G m__law_bent,
    F__law_bent := fun_mk (st := s__law_bent) l__law_bent h__law_bent k__law_bent,
    a__law_due := a__law_due,
    d__law_due := _,
    m__law_due := PySem.W.mg_of X G m__law_due,
    F__law_due := fun_mk (st := s__law_due) l__law_due h__law_due k__law_due,
    a__law_refused := a__law_refused,
    d__law_refused := _,
    m__law_refused := PySem.W.mg_of X G m__law_refused,
    F__law_refused := fun_mk (st := s__law_refused) l__law_refused h__law_refused k__law_refused,
    a__law_told := a__law_told,
    d__law_told := _,
    m__law_told := PySem.W.mg_of X G m__law_told,
    F__law_told := fun_mk (st := s__law_told) l__law_told h__law_told k__law_told,
    a__law_asked := a__law_asked,
    d__law_asked := _,
    m__law_asked := PySem.W.mg_of X G m__law_asked,
    F__law_asked := fun_mk (st := s__law_asked) l__law_asked h__law_asked k__law_asked,
    a_law := a_law,
    d_law := _,
    m_law := PySem.W.mg_of X G m_law,
    F_law := fun_mk (st := s_law) l_law h_law k_law,
    su_WaneError_Wrong := su_WaneError_Wrong,
    su_WaneError_NoText := su_WaneError_NoText,
    su_WaneError_TooMany := su_WaneError_TooMany,
    ei_WaneError := ei_WaneError,
    su_Wrong_WaneError := su_Wrong_WaneError,
    su_Wrong_NoText := su_Wrong_NoText,
    su_Wrong_TooMany := su_Wrong_TooMany,
    oi_Wrong := m_Wrong___init__,
    ot_Wrong := ot_Wrong,
    nf_Wrong := nf_Wrong,
    su_NoText_WaneError := su_NoText_WaneError,
    su_NoText_Wrong := su_NoText_Wrong,
    su_NoText_TooMany := su_NoText_TooMany,
    ei_NoText := ei_NoText,
    su_TooMany_WaneError := su_TooMany_WaneError,
    su_TooMany_Wrong := su_TooMany_Wrong,
    su_TooMany_NoText := su_TooMany_NoText }
  exact ⟨_, fun s v => .of_eq rfl, fun base _ _ => ok_law W⟩
end Pf
theorem PySem.W.Fast.tw13390707887513142271 : True := trivial
theorem PySem.W.Fast.tw2403208386408108756 : True := trivial
theorem PySem.W.Fast.tw18089664802612608128 : True := trivial
theorem PySem.W.Fast.tw4531911239716079364 : True := trivial
theorem PySem.W.Fast.tw8169686127159074505 : True := trivial
theorem PySem.W.Fast.tw14099392936416658357 : True := trivial
theorem PySem.W.Fast.tw1921159966545975304 : True := trivial
theorem PySem.W.Fast.tw13650951682357709755 : True := trivial
theorem PySem.W.Fast.tw14843129341530129172 : True := trivial
theorem PySem.W.Fast.tw9640084803396138504 : True := trivial
theorem PySem.W.Fast.tw512600336902656312 : True := trivial
theorem PySem.W.Fast.tw9369035439635127766 : True := trivial
theorem PySem.W.Fast.tw867295157489997696 : True := trivial
theorem PySem.W.Fast.tw17161018291603138348 : True := trivial
theorem PySem.W.Fast.tw16232193465215298925 : True := trivial
theorem PySem.W.Fast.tw1399183465807181461 : True := trivial
theorem PySem.W.Fast.tw11042178601437644021 : True := trivial
theorem PySem.W.Fast.tw8737090232003743150 : True := trivial
theorem PySem.W.Fast.tw522802729130862449 : True := trivial
theorem PySem.W.Fast.tw18061384626446299277 : True := trivial
theorem PySem.W.Fast.tw11528073824638954539 : True := trivial
theorem PySem.W.Fast.tw15141689940206113135 : True := trivial
theorem PySem.W.Fast.tw12360682504141524863 : True := trivial
theorem PySem.W.Fast.tw4001243052331394401 : True := trivial
theorem PySem.W.Fast.tw227924433583208198 : True := trivial
theorem PySem.W.Fast.tw9502263553056935341 : True := trivial
theorem PySem.W.Fast.tw4100149137327010781 : True := trivial
theorem PySem.W.Fast.tw18412906922312636754 : True := trivial
theorem PySem.W.Fast.tw8910387459487813232 : True := trivial
theorem PySem.W.Fast.tw12100562690754617548 : True := trivial
theorem PySem.W.Fast.tw11648336437936855852 : True := trivial
theorem PySem.W.Fast.tw12906352818603275977 : True := trivial
theorem PySem.W.Fast.tw12052095643952089844 : True := trivial
theorem PySem.W.Fast.tw6904108343125817496 : True := trivial
theorem PySem.W.Fast.tw9221093834965383914 : True := trivial
theorem PySem.W.Fast.tw12312090549463506609 : True := trivial
theorem PySem.W.Fast.tw11781818158390185510 : True := trivial
theorem PySem.W.Fast.tw7354307797773014418 : True := trivial
theorem PySem.W.Fast.tw2119251854250270857 : True := trivial
theorem PySem.W.Fast.tw7979782865659751781 : True := trivial
theorem PySem.W.Fast.tw14185278317680034973 : True := trivial
theorem PySem.W.Fast.tw14068795035393959169 : True := trivial
theorem PySem.W.Fast.tw11486096022533305376 : True := trivial
theorem PySem.W.Fast.tw3531478823811378055 : True := trivial
theorem PySem.W.Fast.tw13328296041219537528 : True := trivial
theorem PySem.W.Fast.tw17618160011943046747 : True := trivial
theorem PySem.W.Fast.tw17232854707169075236 : True := trivial
theorem PySem.W.Fast.tw15694285862384976101 : True := trivial
theorem PySem.W.Fast.tw9336753745390674278 : True := trivial
theorem PySem.W.Fast.tw5251162726647343360 : True := trivial
theorem PySem.W.Fast.tw15551402034463243882 : True := trivial
theorem PySem.W.Fast.tw10193768289504473964 : True := trivial
theorem PySem.W.Fast.tw12843312703735152617 : True := trivial
theorem PySem.W.Fast.tw10016440560076600400 : True := trivial
theorem PySem.W.Fast.tw17583527411855820031 : True := trivial
theorem PySem.W.Fast.tw3078504159011301644 : True := trivial
theorem PySem.W.Fast.tw13230521604612878939 : True := trivial
theorem PySem.W.Fast.tw1133321329506789841 : True := trivial
theorem PySem.W.Fast.tw7937934862822934692 : True := trivial
theorem PySem.W.Fast.tw1532742969115674145 : True := trivial
theorem PySem.W.Fast.tw3567104673354737871 : True := trivial
theorem PySem.W.Fast.tw800352175762492900 : True := trivial
theorem PySem.W.Fast.tw4239645987087274454 : True := trivial
theorem PySem.W.Fast.tw19313065803816126 : True := trivial
theorem PySem.W.Fast.tw13817894285191094015 : True := trivial
theorem PySem.W.Fast.tw12133413620449908605 : True := trivial
theorem PySem.W.Fast.tw11213911430236756585 : True := trivial
theorem PySem.W.Fast.tw10861654507665958448 : True := trivial
theorem PySem.W.Fast.tw4909613922261677346 : True := trivial
theorem PySem.W.Fast.tw746301664115841170 : True := trivial
theorem PySem.W.Fast.tw562382088792740264 : True := trivial
theorem PySem.W.Fast.tw6886595479714524345 : True := trivial
theorem PySem.W.Fast.tw7455969329059987179 : True := trivial
theorem PySem.W.Fast.tw6247859701475867702 : True := trivial
theorem PySem.W.Fast.tw10959851867629448177 : True := trivial
theorem PySem.W.Fast.tw10138739169734841727 : True := trivial
theorem PySem.W.Fast.tw14929881511161128725 : True := trivial
theorem PySem.W.Fast.tw12847739186817996042 : True := trivial
theorem PySem.W.Fast.tw12803680958354745764 : True := trivial
theorem PySem.W.Fast.tw17296829755774291583 : True := trivial
theorem PySem.W.Fast.tw8726948930807110200 : True := trivial
theorem PySem.W.Fast.tw5826886228353529085 : True := trivial
theorem PySem.W.Fast.tw13048792540192152111 : True := trivial
theorem PySem.W.Fast.tw15709034061110995466 : True := trivial
theorem PySem.W.Fast.tw17840328524784623244 : True := trivial
theorem PySem.W.Fast.tw10649933711118739989 : True := trivial
theorem PySem.W.Fast.tw17195802087216952464 : True := trivial
theorem PySem.W.Fast.tw15242966530482546225 : True := trivial
theorem PySem.W.Fast.tw15600768420434401273 : True := trivial
theorem PySem.W.Fast.tw13160971116294049983 : True := trivial
theorem PySem.W.Fast.tw17117084652355310584 : True := trivial
theorem PySem.W.Fast.tw11486450037112401208 : True := trivial
theorem PySem.W.Fast.tw2658955041555051354 : True := trivial
theorem PySem.W.Fast.tw9776756506977721776 : True := trivial
theorem PySem.W.Fast.tw16451850903217690337 : True := trivial
theorem PySem.W.Fast.tw256334023633880895 : True := trivial
theorem PySem.W.Fast.tw473869026154085261 : True := trivial
theorem PySem.W.Fast.tw11810213750784759377 : True := trivial
theorem PySem.W.Fast.tw15715310862374751920 : True := trivial
theorem PySem.W.Fast.tw9452312798676546996 : True := trivial
theorem PySem.W.Fast.tw9971206791017262533 : True := trivial
theorem PySem.W.Fast.tw7051126366168568546 : True := trivial
theorem PySem.W.Fast.tw1117297074593081496 : True := trivial
theorem PySem.W.Fast.tw6322391917937475047 : True := trivial
theorem PySem.W.Fast.tw6913774444675786310 : True := trivial
theorem PySem.W.Fast.tw12677301465889486783 : True := trivial
theorem PySem.W.Fast.tw11411545496342724436 : True := trivial
theorem PySem.W.Fast.tw10398462259059026248 : True := trivial
theorem PySem.W.Fast.tw6722130337790473689 : True := trivial
theorem PySem.W.Fast.tw7916390554800536891 : True := trivial
theorem PySem.W.Fast.tw3640978740500557672 : True := trivial
theorem PySem.W.Fast.tw16630223641957601562 : True := trivial
theorem PySem.W.Fast.tw18348840140974153463 : True := trivial
theorem PySem.W.Fast.tw3405958194591783376 : True := trivial
theorem PySem.W.Fast.tw8468383566322852640 : True := trivial
theorem PySem.W.Fast.tw7151112858489740532 : True := trivial
theorem PySem.W.Fast.tw379865240922419867 : True := trivial
theorem PySem.W.Fast.tw4480692638252113410 : True := trivial
theorem PySem.W.Fast.tw12203549207895317260 : True := trivial
theorem PySem.W.Fast.tw3530363961902003201 : True := trivial
theorem PySem.W.Fast.tw12281740215896280888 : True := trivial
theorem PySem.W.Fast.tw13332313981251805273 : True := trivial
theorem PySem.W.Fast.tw3092870709232182641 : True := trivial
theorem PySem.W.Fast.tw11079260106548310895 : True := trivial
theorem PySem.W.Fast.tw1239993351890330129 : True := trivial
theorem PySem.W.Fast.tw10180400759981279900 : True := trivial
theorem PySem.W.Fast.tw16437880531233286271 : True := trivial
theorem PySem.W.Fast.tw9913306348298622625 : True := trivial
theorem PySem.W.Fast.tw2811296462275009238 : True := trivial
theorem PySem.W.Fast.tw12106491308102400442 : True := trivial
theorem PySem.W.Fast.tw2715827177955388697 : True := trivial
theorem PySem.W.Fast.tw14111885399507481195 : True := trivial
theorem PySem.W.Fast.tw6413753755152111572 : True := trivial
theorem PySem.W.Fast.tw4583623166098931362 : True := trivial
theorem PySem.W.Fast.tw11115843476431391457 : True := trivial
theorem PySem.W.Fast.tw6867009601926223988 : True := trivial
theorem PySem.W.Fast.tw1304186395335881369 : True := trivial
theorem PySem.W.Fast.tw15446731929735428154 : True := trivial
theorem PySem.W.Fast.tw1002207517450895302 : True := trivial
theorem PySem.W.Fast.tw18093331561187283414 : True := trivial
theorem PySem.W.Fast.tw12296184545833562049 : True := trivial
theorem PySem.W.Fast.tw15653105982071537811 : True := trivial
theorem PySem.W.Fast.tw14003025266980545996 : True := trivial
theorem PySem.W.Fast.tw17468964110807700211 : True := trivial
theorem PySem.W.Fast.tw225231402909393947 : True := trivial
theorem PySem.W.Fast.tw12344938061463162100 : True := trivial
theorem PySem.W.Fast.tw388816022101554540 : True := trivial
theorem PySem.W.Fast.tw12505967946935152540 : True := trivial
theorem PySem.W.Fast.tw16024102718415466792 : True := trivial
theorem PySem.W.Fast.tw7784844087471189308 : True := trivial
theorem PySem.W.Fast.tw12578069979906058649 : True := trivial
theorem PySem.W.Fast.tw18324056403422735369 : True := trivial
theorem PySem.W.Fast.tw187530863600368444 : True := trivial
theorem PySem.W.Fast.tw7706830486832895521 : True := trivial
theorem PySem.W.Fast.tw16162698680541282870 : True := trivial
theorem PySem.W.Fast.tw9374573281088751994 : True := trivial
theorem PySem.W.Fast.tw3307795463293186481 : True := trivial
theorem PySem.W.Fast.tw14882121809791555341 : True := trivial
theorem PySem.W.Fast.tw17365467940195181098 : True := trivial
theorem PySem.W.Fast.tw15913150907998266737 : True := trivial
theorem PySem.W.Fast.tw4623107979173264620 : True := trivial
theorem PySem.W.Fast.tw4907626348066769976 : True := trivial
theorem PySem.W.Fast.tw10963097307463966255 : True := trivial
theorem PySem.W.Fast.tw14009216568673628010 : True := trivial
theorem PySem.W.Fast.tw9458980689642048205 : True := trivial
theorem PySem.W.Fast.tw1582217186296159390 : True := trivial
theorem PySem.W.Fast.tw10604713476088262601 : True := trivial
theorem PySem.W.Fast.tw5414158024674255223 : True := trivial
theorem PySem.W.Fast.tw7292798309817048253 : True := trivial
theorem PySem.W.Fast.tw10574216079383158203 : True := trivial
theorem PySem.W.Fast.tw12404811846498507078 : True := trivial
theorem PySem.W.Fast.tw11705122089844826639 : True := trivial
theorem PySem.W.Fast.tw9676289590962504866 : True := trivial
theorem PySem.W.Fast.tw7680050978020302823 : True := trivial
theorem PySem.W.Fast.tw6899570446380804435 : True := trivial
theorem PySem.W.Fast.tw2649814961870039967 : True := trivial
theorem PySem.W.Fast.tw3554434667349586005 : True := trivial
theorem PySem.W.Fast.tw13162011882865359604 : True := trivial
theorem PySem.W.Fast.tw6881795508353339911 : True := trivial
theorem PySem.W.Fast.tw10991263314933936389 : True := trivial
theorem PySem.W.Fast.tw32433921845511174 : True := trivial
theorem PySem.W.Fast.tw2515753759693022690 : True := trivial
theorem PySem.W.Fast.tw2214127734885188582 : True := trivial
theorem PySem.W.Fast.tw10421880850448301237 : True := trivial
theorem PySem.W.Fast.tw3884025679046677733 : True := trivial
theorem PySem.W.Fast.tw5818790316784176072 : True := trivial
theorem PySem.W.Fast.tw8408265723949710606 : True := trivial
theorem PySem.W.Fast.tw17661941327411128741 : True := trivial
theorem PySem.W.Fast.tw12106950581691627800 : True := trivial
theorem PySem.W.Fast.tw14852768806308242607 : True := trivial
theorem PySem.W.Fast.tw8613810529861504739 : True := trivial
theorem PySem.W.Fast.tw13614577114541985082 : True := trivial
theorem PySem.W.Fast.tw16392562194062325690 : True := trivial
theorem PySem.W.Fast.tw7518961658684129399 : True := trivial
theorem PySem.W.Fast.tw14140383592202040260 : True := trivial
theorem PySem.W.Fast.tw6713005796123056819 : True := trivial
theorem PySem.W.Fast.tw10346419991518304559 : True := trivial
theorem PySem.W.Fast.tw7048602479707990012 : True := trivial
theorem PySem.W.Fast.tw3929415325248548839 : True := trivial
theorem PySem.W.Fast.tw5606775770644601260 : True := trivial
theorem PySem.W.Fast.tw11204385074725287877 : True := trivial
theorem PySem.W.Fast.tw17335642375331619601 : True := trivial
theorem PySem.W.Fast.tw12325981397288990917 : True := trivial
theorem PySem.W.Fast.tw5624249807707451331 : True := trivial
theorem PySem.W.Fast.tw9496295792734116747 : True := trivial
theorem PySem.W.Fast.tw14974292996552425946 : True := trivial
theorem PySem.W.Fast.tw137770079690269026 : True := trivial
theorem PySem.W.Fast.tw2884176995260548122 : True := trivial
theorem PySem.W.Fast.tw3918734857638381975 : True := trivial
theorem PySem.W.Fast.tw11803911680038251008 : True := trivial
theorem PySem.W.Fast.tw7999769420868650049 : True := trivial
theorem PySem.W.Fast.tw14126271510823194820 : True := trivial
theorem PySem.W.Fast.tw844962143658803773 : True := trivial
theorem PySem.W.Fast.tw10406254525325213995 : True := trivial
theorem PySem.W.Fast.tw1308487849934927471 : True := trivial
theorem PySem.W.Fast.tw6792159755037228326 : True := trivial
theorem PySem.W.Fast.tw2695782299056516622 : True := trivial
theorem PySem.W.Fast.tw15533666387332226871 : True := trivial
theorem PySem.W.Fast.tw2780377788819298505 : True := trivial
theorem PySem.W.Fast.tw6775893830394014991 : True := trivial
theorem PySem.W.Fast.tw1406729689578870907 : True := trivial
theorem PySem.W.Fast.tw8718965660573142814 : True := trivial
theorem PySem.W.Fast.tw16678518027180580033 : True := trivial
theorem PySem.W.Fast.tw11993393248181985790 : True := trivial
theorem PySem.W.Fast.tw11789812937917580080 : True := trivial
theorem PySem.W.Fast.tw3453912808758645102 : True := trivial
theorem PySem.W.Fast.tw4206464246001819045 : True := trivial
theorem PySem.W.Fast.tw3077620219179831123 : True := trivial
theorem PySem.W.Fast.tw3093238420239083643 : True := trivial
theorem PySem.W.Fast.tw7822350078621658132 : True := trivial
theorem PySem.W.Fast.tw6103809559762755828 : True := trivial
theorem PySem.W.Fast.tw7210712213361120218 : True := trivial
theorem PySem.W.Fast.tw16672841664335075072 : True := trivial
theorem PySem.W.Fast.tw11228175690976237907 : True := trivial
theorem PySem.W.Fast.tw6664708950426295938 : True := trivial
theorem PySem.W.Fast.tw17626159489752394227 : True := trivial
theorem PySem.W.Fast.tw1394356586613455098 : True := trivial
theorem PySem.W.Fast.tw10111964613442261525 : True := trivial
theorem PySem.W.Fast.tw7045977860509222201 : True := trivial
theorem PySem.W.Fast.tw6613324105751040921 : True := trivial
theorem PySem.W.Fast.tw1385891779484483654 : True := trivial
theorem PySem.W.Fast.tw3432807318516340552 : True := trivial
theorem PySem.W.Fast.tw11532803723830454523 : True := trivial
theorem PySem.W.Fast.tw11967948510522068491 : True := trivial
theorem PySem.W.Fast.tw28018694331163632 : True := trivial
theorem PySem.W.Fast.tw3997085105788658536 : True := trivial
theorem PySem.W.Fast.tw9590966376462880472 : True := trivial
theorem PySem.W.Fast.tw17929320925757933062 : True := trivial
theorem PySem.W.Fast.tw15963104680721097913 : True := trivial
theorem PySem.W.Fast.tw17773740666509971806 : True := trivial
theorem PySem.W.Fast.tw8407159543521724914 : True := trivial
theorem PySem.W.Fast.tw9567797192998091592 : True := trivial
theorem PySem.W.Fast.tw11930012859733324370 : True := trivial
theorem PySem.W.Fast.tw8932987651956846522 : True := trivial
theorem PySem.W.Fast.tw1717862905496081260 : True := trivial
theorem PySem.W.Fast.tw4168125419278418009 : True := trivial
theorem PySem.W.Fast.tw16310309461110835871 : True := trivial
theorem PySem.W.Fast.tw1952698972348342021 : True := trivial
theorem PySem.W.Fast.tw17991558894398559673 : True := trivial
theorem PySem.W.Fast.tw10564013852413198422 : True := trivial
theorem PySem.W.Fast.tw352972081355056698 : True := trivial
theorem PySem.W.Fast.tw6951395200499594201 : True := trivial
theorem PySem.W.Fast.tw6903603757448756530 : True := trivial
theorem PySem.W.Fast.tw16941593459525898862 : True := trivial
theorem PySem.W.Fast.tw12773553187321485118 : True := trivial
theorem PySem.W.Fast.tw6695109457552552249 : True := trivial
theorem PySem.W.Fast.tw1231972880740546018 : True := trivial
theorem PySem.W.Fast.tw13877563967789711899 : True := trivial
theorem PySem.W.Fast.tw9365509797415056254 : True := trivial
theorem PySem.W.Fast.tw16306736839280072424 : True := trivial
theorem PySem.W.Fast.tw9053497251579629040 : True := trivial
theorem PySem.W.Fast.tw17431674922634021444 : True := trivial
theorem PySem.W.Fast.tw9257934448609173390 : True := trivial
theorem PySem.W.Fast.tw8691139409659112920 : True := trivial
theorem PySem.W.Fast.tw15536316957194399739 : True := trivial
theorem PySem.W.Fast.tw17394620553387585944 : True := trivial
theorem PySem.W.Fast.tw2165840399781438571 : True := trivial
theorem PySem.W.Fast.tw13574319120699350361 : True := trivial
theorem PySem.W.Fast.tw16951867352502854595 : True := trivial
theorem PySem.W.Fast.tw2519646187541539359 : True := trivial
theorem PySem.W.Fast.tw2346488883778308344 : True := trivial
theorem PySem.W.Fast.tw11192764828899207764 : True := trivial
theorem PySem.W.Fast.tw7135807952892474149 : True := trivial
theorem PySem.W.Fast.tw3253567345271645759 : True := trivial
theorem PySem.W.Fast.tw15241548713602875584 : True := trivial
theorem PySem.W.Fast.tw15131226165309819167 : True := trivial
theorem PySem.W.Fast.tw10898058632296449163 : True := trivial
theorem PySem.W.Fast.tw4491652436494444133 : True := trivial
theorem PySem.W.Fast.tw305110570776885200 : True := trivial
theorem PySem.W.Fast.tw6694242266042848132 : True := trivial
theorem PySem.W.Fast.tw3562831725247099082 : True := trivial
theorem PySem.W.Fast.tw10984004970755026813 : True := trivial
theorem PySem.W.Fast.tw10799332559869258087 : True := trivial
theorem PySem.W.Fast.tw8897892671541003896 : True := trivial
theorem PySem.W.Fast.tw5369079465518154137 : True := trivial
theorem PySem.W.Fast.tw16707991075227965795 : True := trivial
theorem PySem.W.Fast.tw11849485390185054471 : True := trivial
theorem PySem.W.Fast.tw2595639170366365702 : True := trivial
theorem PySem.W.Fast.tw10729440345446172814 : True := trivial
theorem PySem.W.Fast.tw8186920156437122208 : True := trivial
theorem PySem.W.Fast.tw9360328961752091230 : True := trivial
theorem PySem.W.Fast.tw4480523190252761459 : True := trivial
theorem PySem.W.Fast.tw1919687679516206900 : True := trivial
theorem PySem.W.Fast.tw685910506192315045 : True := trivial
theorem PySem.W.Fast.tw15381550503719770050 : True := trivial
theorem PySem.W.Fast.tw4029119025560552810 : True := trivial
theorem PySem.W.Fast.tw8162291335734743804 : True := trivial
theorem PySem.W.Fast.tw2258888583382069576 : True := trivial
theorem PySem.W.Fast.tw17864156746638519457 : True := trivial
theorem PySem.W.Fast.tw1053329667360265913 : True := trivial
theorem PySem.W.Fast.tw12291238442205809081 : True := trivial
theorem PySem.W.Fast.tw13832124993781419475 : True := trivial
theorem PySem.W.Fast.tw8549663339748549415 : True := trivial
theorem PySem.W.Fast.tw18070769567848598375 : True := trivial
theorem PySem.W.Fast.tw17303688301829172633 : True := trivial
theorem PySem.W.Fast.tw10760673795762760893 : True := trivial
theorem PySem.W.Fast.tw4633018928261432855 : True := trivial
theorem PySem.W.Fast.tw3557962085252265188 : True := trivial
theorem PySem.W.Fast.tw2128948018109991066 : True := trivial
theorem PySem.W.Fast.tw17114681331477387976 : True := trivial
theorem PySem.W.Fast.tw6990852029260091120 : True := trivial
theorem PySem.W.Fast.tw12468272063985320272 : True := trivial
theorem PySem.W.Fast.tw7719715482470932095 : True := trivial
theorem PySem.W.Fast.tw15944640550357668512 : True := trivial
theorem PySem.W.Fast.tw949331400091866815 : True := trivial
theorem PySem.W.Fast.tw9229575090844326403 : True := trivial
theorem PySem.W.Fast.tw18344127376609664352 : True := trivial
theorem PySem.W.Fast.tw5876497754816047686 : True := trivial
theorem PySem.W.Fast.tw8300048139694282673 : True := trivial
theorem PySem.W.Fast.tw5887156166251891922 : True := trivial
theorem PySem.W.Fast.tw11454979608738241300 : True := trivial
theorem PySem.W.Fast.tw17752281097367963045 : True := trivial
theorem PySem.W.Fast.tw5293978528610836619 : True := trivial
theorem PySem.W.Fast.tw14711810301435647024 : True := trivial
theorem PySem.W.Fast.tw512816601982540538 : True := trivial
theorem PySem.W.Fast.tw3498000041385797541 : True := trivial
theorem PySem.W.Fast.tw18009355069944386283 : True := trivial
theorem PySem.W.Fast.tw786468934224693341 : True := trivial
theorem PySem.W.Fast.tw3659066905034024548 : True := trivial
theorem PySem.W.Fast.tw16575608528056034212 : True := trivial
theorem PySem.W.Fast.tw10049431798941134185 : True := trivial
theorem PySem.W.Fast.tw15820893514794101960 : True := trivial
theorem PySem.W.Fast.tw11476494406180847771 : True := trivial
theorem PySem.W.Fast.tw11016088269605353962 : True := trivial
theorem PySem.W.Fast.tw17222424148583535679 : True := trivial
theorem PySem.W.Fast.tw3200722973289521016 : True := trivial
theorem PySem.W.Fast.tw7526019416032140224 : True := trivial
theorem PySem.W.Fast.tw9322679098695419685 : True := trivial
theorem PySem.W.Fast.tw15833327119551521147 : True := trivial
theorem PySem.W.Fast.tw15626206713279819072 : True := trivial
theorem PySem.W.Fast.tw18379107806192180736 : True := trivial
theorem PySem.W.Fast.tw9299824908843274239 : True := trivial
theorem PySem.W.Fast.tw11511805459656305602 : True := trivial
theorem PySem.W.Fast.tw13813376941095742899 : True := trivial
theorem PySem.W.Fast.tw9521516841925792907 : True := trivial
theorem PySem.W.Fast.tw9681621737858411873 : True := trivial
theorem PySem.W.Fast.tw7816458038383336969 : True := trivial
theorem PySem.W.Fast.tw5928487994426934968 : True := trivial
theorem PySem.W.Fast.tw735647260925886937 : True := trivial
theorem PySem.W.Fast.tw3822919431340117650 : True := trivial
theorem PySem.W.Fast.tw10868659701632900480 : True := trivial
theorem PySem.W.Fast.tw15751054967929456021 : True := trivial
theorem PySem.W.Fast.tw6279382864163258663 : True := trivial
theorem PySem.W.Fast.tw2730946464880825904 : True := trivial
theorem PySem.W.Fast.tw8677785133219377452 : True := trivial
theorem PySem.W.Fast.tw3228599690093206194 : True := trivial
theorem PySem.W.Fast.tw8540792638111347855 : True := trivial
theorem PySem.W.Fast.tw7045677644915384105 : True := trivial
theorem PySem.W.Fast.tw17547867399580791130 : True := trivial
theorem PySem.W.Fast.tw18326799956200959857 : True := trivial
theorem PySem.W.Fast.tw16187505166597349383 : True := trivial
theorem PySem.W.Fast.tw5358562447251450760 : True := trivial
theorem PySem.W.Fast.tw13779903791182150216 : True := trivial
theorem PySem.W.Fast.tw1570248531899529537 : True := trivial
theorem PySem.W.Fast.tw10915816623759445328 : True := trivial
theorem PySem.W.Fast.tw18067758452978302974 : True := trivial
theorem PySem.W.Fast.tw16462650570738350853 : True := trivial
theorem PySem.W.Fast.tw17817982417348625563 : True := trivial
theorem PySem.W.Fast.tw5655272662232309534 : True := trivial
theorem PySem.W.Fast.tw3314739977308789416 : True := trivial
theorem PySem.W.Fast.tw4876218325606993373 : True := trivial
theorem PySem.W.Fast.tw2292091746498787363 : True := trivial
theorem PySem.W.Fast.tw12955188204783295783 : True := trivial
theorem PySem.W.Fast.tw2883262444895636108 : True := trivial
theorem PySem.W.Fast.tw7703354829939011932 : True := trivial
theorem PySem.W.Fast.tw9377132829565014793 : True := trivial
theorem PySem.W.Fast.tw12266138903160690037 : True := trivial
theorem PySem.W.Fast.tw9626220852218480605 : True := trivial
theorem PySem.W.Fast.tw12540718130845867407 : True := trivial
theorem PySem.W.Fast.tw5070212341816929658 : True := trivial
theorem PySem.W.Fast.tw18064550752915858943 : True := trivial
theorem PySem.W.Fast.tw6440164352269963932 : True := trivial
theorem PySem.W.Fast.tw12717836850986883117 : True := trivial
theorem PySem.W.Fast.tw16798929973155494238 : True := trivial
theorem PySem.W.Fast.tw10533190768102490416 : True := trivial
theorem PySem.W.Fast.tw8085491353512687397 : True := trivial
theorem PySem.W.Fast.tw10601312317014946903 : True := trivial
theorem PySem.W.Fast.tw9273780232353810495 : True := trivial
theorem PySem.W.Fast.tw15955896413989216525 : True := trivial
theorem PySem.W.Fast.tw550772347261467104 : True := trivial
theorem PySem.W.Fast.tw5237124945472559460 : True := trivial
theorem PySem.W.Fast.tw14774590547794587750 : True := trivial
theorem PySem.W.Fast.tw5983323102377881622 : True := trivial
theorem PySem.W.Fast.tw2521866326959409371 : True := trivial
theorem PySem.W.Fast.tw6194879522439167121 : True := trivial
theorem PySem.W.Fast.tw740442914236036815 : True := trivial
theorem PySem.W.Fast.tw15858472440223160645 : True := trivial
theorem PySem.W.Fast.tw13512116903916123652 : True := trivial
theorem PySem.W.Fast.tw9386423747498982993 : True := trivial
theorem PySem.W.Fast.tw18344865342445442937 : True := trivial
theorem PySem.W.Fast.tw318063412449929854 : True := trivial
theorem PySem.W.Fast.tw13359686253058480250 : True := trivial
theorem PySem.W.Fast.tw17765624079056589363 : True := trivial
theorem PySem.W.Fast.tw8707643502265868246 : True := trivial
theorem PySem.W.Fast.tw5250846000362641937 : True := trivial
theorem PySem.W.Fast.tw6831871516674462151 : True := trivial
theorem PySem.W.Fast.tw895720130671223673 : True := trivial
theorem PySem.W.Fast.tw15645782284853625745 : True := trivial
theorem PySem.W.Fast.tw10679906051335559684 : True := trivial
theorem PySem.W.Fast.tw9914915708729851800 : True := trivial
theorem PySem.W.Fast.tw8685348220495055756 : True := trivial
theorem PySem.W.Fast.tw6441315625378413369 : True := trivial
theorem PySem.W.Fast.tw7555878949179402513 : True := trivial
theorem PySem.W.Fast.tw4162243844805226241 : True := trivial
theorem PySem.W.Fast.tw16797116933221542185 : True := trivial
theorem PySem.W.Fast.tw3106700054918633926 : True := trivial
theorem PySem.W.Fast.tw11809521297441462706 : True := trivial
theorem PySem.W.Fast.tw16014757300788347769 : True := trivial
theorem PySem.W.Fast.tw14917323426178050540 : True := trivial
theorem PySem.W.Fast.tw8913772526421490379 : True := trivial
theorem PySem.W.Fast.tw3560172824023047844 : True := trivial
theorem PySem.W.Fast.tw14062516252043689020 : True := trivial
theorem PySem.W.Fast.tw5092177164491443286 : True := trivial
theorem PySem.W.Fast.tw1346663540672247862 : True := trivial
theorem PySem.W.Fast.tw17297592813786179894 : True := trivial
theorem PySem.W.Fast.tw13676048029831056191 : True := trivial
theorem PySem.W.Fast.tw11444316473850986937 : True := trivial
theorem PySem.W.Fast.tw15480940416990131221 : True := trivial
theorem PySem.W.Fast.tw10077005732335783501 : True := trivial
theorem PySem.W.Fast.tw8152511732066005305 : True := trivial
theorem PySem.W.Fast.tw10479436295404676333 : True := trivial
theorem PySem.W.Fast.tw3110797170574782427 : True := trivial
theorem PySem.W.Fast.tw14192996982404848260 : True := trivial
theorem PySem.W.Fast.tw10490472685008171762 : True := trivial
theorem PySem.W.Fast.tw4454214935888730994 : True := trivial
theorem PySem.W.Fast.tw688193123765664486 : True := trivial
theorem PySem.W.Fast.tw6133702202681242080 : True := trivial
theorem PySem.W.Fast.tw12752416553623448704 : True := trivial
theorem PySem.W.Fast.tw14261556573719836374 : True := trivial
theorem PySem.W.Fast.tw12247041098645750095 : True := trivial
theorem PySem.W.Fast.tw17708716107277345833 : True := trivial
theorem PySem.W.Fast.tw6732972040514420182 : True := trivial
theorem PySem.W.Fast.tw5538919081491068426 : True := trivial
theorem PySem.W.Fast.tw15565296181971402270 : True := trivial
theorem PySem.W.Fast.tw10318002555003070554 : True := trivial
theorem PySem.W.Fast.tw13535888368350889893 : True := trivial
theorem PySem.W.Fast.tw9456073912193810116 : True := trivial
theorem PySem.W.Fast.tw662408093153951318 : True := trivial
theorem PySem.W.Fast.tw9517780638766400041 : True := trivial
theorem PySem.W.Fast.tw15680897626281725464 : True := trivial
theorem PySem.W.Fast.tw9586632473409487405 : True := trivial
theorem PySem.W.Fast.tw8966898339949434279 : True := trivial
theorem PySem.W.Fast.tw3992447797140525308 : True := trivial
theorem PySem.W.Fast.tw15185046483864017193 : True := trivial
theorem PySem.W.Fast.tw13205725474949099610 : True := trivial
theorem PySem.W.Fast.tw7089569413402506735 : True := trivial
theorem PySem.W.Fast.tw9209944789855547714 : True := trivial
theorem PySem.W.Fast.tw772281187126990679 : True := trivial
theorem PySem.W.Fast.tw17350161755093668771 : True := trivial
theorem PySem.W.Fast.tw10353096413931682644 : True := trivial
theorem PySem.W.Fast.tw17474984761093392084 : True := trivial
theorem PySem.W.Fast.tw15961153370000754164 : True := trivial
theorem PySem.W.Fast.tw17859642243351345724 : True := trivial
theorem PySem.W.Fast.tw6433265440038274652 : True := trivial
theorem PySem.W.Fast.tw7471449369099502345 : True := trivial
theorem PySem.W.Fast.tw15880209591486837960 : True := trivial
theorem PySem.W.Fast.tw5023661113439201251 : True := trivial
theorem PySem.W.Fast.tw16777080662168109113 : True := trivial
theorem PySem.W.Fast.tw58872537985739649 : True := trivial
theorem PySem.W.Fast.tw5689894819691679434 : True := trivial
theorem PySem.W.Fast.tw15562234801879621229 : True := trivial
theorem PySem.W.Fast.tw1579318030050658903 : True := trivial
theorem PySem.W.Fast.tw15438852878811688446 : True := trivial
theorem PySem.W.Fast.tw4798225065955030388 : True := trivial
theorem PySem.W.Fast.tw6035955142203753182 : True := trivial
theorem PySem.W.Fast.tw7797886169605457241 : True := trivial
theorem PySem.W.Fast.tw15565864383370475671 : True := trivial
theorem PySem.W.Fast.tw17465462163912304874 : True := trivial
theorem PySem.W.Fast.tw9772314388831535080 : True := trivial
theorem PySem.W.Fast.tw7041413966429912545 : True := trivial
theorem PySem.W.Fast.tw14368650500054843659 : True := trivial
theorem PySem.W.Fast.tw18025003221680844932 : True := trivial
theorem PySem.W.Fast.tw12070754308312719328 : True := trivial
theorem PySem.W.Fast.tw15482316323309023236 : True := trivial
theorem PySem.W.Fast.tw4848956054557536084 : True := trivial
theorem PySem.W.Fast.tw14291403940309092550 : True := trivial
theorem PySem.W.Fast.tw4668702769894020850 : True := trivial
theorem PySem.W.Fast.tw10405183715539787192 : True := trivial
theorem PySem.W.Fast.tw16240288063194048838 : True := trivial
theorem PySem.W.Fast.tw6449156067890423828 : True := trivial
theorem PySem.W.Fast.tw1451468378931958209 : True := trivial
theorem PySem.W.Fast.tw9563523018668089348 : True := trivial
theorem PySem.W.Fast.tw8383779183163398488 : True := trivial
theorem PySem.W.Fast.tw768388492051857091 : True := trivial
theorem PySem.W.Fast.tw2767724067766792394 : True := trivial
theorem PySem.W.Fast.tw1604114541542403081 : True := trivial
theorem PySem.W.Fast.tw8703399585890503716 : True := trivial
theorem PySem.W.Fast.tw5719412377344097425 : True := trivial
theorem PySem.W.Fast.tw853615779185044064 : True := trivial
theorem PySem.W.Fast.tw17002945976683602224 : True := trivial
theorem PySem.W.Fast.tw8842480288709374098 : True := trivial
theorem PySem.W.Fast.tw2701577874516086762 : True := trivial
theorem PySem.W.Fast.tw1742235129419342397 : True := trivial
theorem PySem.W.Fast.tw13894646692957775780 : True := trivial
theorem PySem.W.Fast.tw11677007815831120688 : True := trivial
theorem PySem.W.Fast.tw1307563077532789879 : True := trivial
theorem PySem.W.Fast.tw3886774431653196047 : True := trivial
theorem PySem.W.Fast.tw9460322603560391493 : True := trivial
theorem PySem.W.Fast.tw5841442376881556817 : True := trivial
theorem PySem.W.Fast.tw12899093432483224940 : True := trivial
theorem PySem.W.Fast.tw9522961461472627745 : True := trivial
theorem PySem.W.Fast.tw7229551401356012010 : True := trivial
theorem PySem.W.Fast.tw9249628483662839662 : True := trivial
theorem PySem.W.Fast.tw16078946983153031942 : True := trivial
theorem PySem.W.Fast.tw9161680423823611719 : True := trivial
theorem PySem.W.Fast.tw11194326953240335680 : True := trivial
theorem PySem.W.Fast.tw3715213305450261310 : True := trivial
theorem PySem.W.Fast.tw2992321741432936605 : True := trivial
theorem PySem.W.Fast.tw15130649207212942007 : True := trivial
theorem PySem.W.Fast.tw4851070830862472262 : True := trivial
theorem PySem.W.Fast.tw6201862407985833743 : True := trivial
theorem PySem.W.Fast.tw1804179873255934989 : True := trivial
theorem PySem.W.Fast.tw7786744175105445535 : True := trivial
theorem PySem.W.Fast.tw7244179690169306433 : True := trivial
theorem PySem.W.Fast.tw9269682442682392860 : True := trivial
theorem PySem.W.Fast.tw16295509492593605349 : True := trivial
theorem PySem.W.Fast.tw15058606732856720753 : True := trivial
theorem PySem.W.Fast.tw16062030852001164027 : True := trivial
theorem PySem.W.Fast.tw10724862148663235152 : True := trivial
theorem PySem.W.Fast.tw3350884396058159087 : True := trivial
theorem PySem.W.Fast.tw4214004309529090966 : True := trivial
theorem PySem.W.Fast.tw4235496090416243215 : True := trivial
theorem PySem.W.Fast.tw11267303716369037571 : True := trivial
theorem PySem.W.Fast.tw7464851476674945893 : True := trivial
theorem PySem.W.Fast.tw10403591923322710162 : True := trivial
theorem PySem.W.Fast.tw10670092411177087038 : True := trivial
theorem PySem.W.Fast.tw13589455855783657819 : True := trivial
theorem PySem.W.Fast.tw5278855309037699093 : True := trivial
theorem PySem.W.Fast.tw12042161312616938305 : True := trivial
theorem PySem.W.Fast.tw4070912547928627585 : True := trivial
theorem PySem.W.Fast.tw1912168699583366154 : True := trivial
theorem PySem.W.Fast.tw18184482327145306096 : True := trivial
theorem PySem.W.Fast.tw17924924391271884716 : True := trivial
theorem PySem.W.Fast.tw13856240125084044882 : True := trivial
theorem PySem.W.Fast.tw11042799386535787044 : True := trivial
theorem PySem.W.Fast.tw18405936812211700434 : True := trivial
theorem PySem.W.Fast.tw3955718091800704366 : True := trivial
theorem PySem.W.Fast.tw10702165259498868209 : True := trivial
theorem PySem.W.Fast.tw16663988635752718760 : True := trivial
theorem PySem.W.Fast.tw13563760054196209365 : True := trivial
theorem PySem.W.Fast.tw16203211939667768448 : True := trivial
theorem PySem.W.Fast.tw363494825136705150 : True := trivial
theorem PySem.W.Fast.tw5397105166765705115 : True := trivial
theorem PySem.W.Fast.tw4022676775754538295 : True := trivial
theorem PySem.W.Fast.tw2133543010529473834 : True := trivial
theorem PySem.W.Fast.tw8628950107112177480 : True := trivial
theorem PySem.W.Fast.tw9699216729003318317 : True := trivial
theorem PySem.W.Fast.tw12508850937647010947 : True := trivial
theorem PySem.W.Fast.tw12600942475771601553 : True := trivial
theorem PySem.W.Fast.tw17488893019307027453 : True := trivial
theorem PySem.W.Fast.tw17803585992687664182 : True := trivial
theorem PySem.W.Fast.tw3778926667822751724 : True := trivial
theorem PySem.W.Fast.tw12095828808268585074 : True := trivial
theorem PySem.W.Fast.tw13220688008161544630 : True := trivial
theorem PySem.W.Fast.tw4395652481392170725 : True := trivial
theorem PySem.W.Fast.tw10558919404755501719 : True := trivial
theorem PySem.W.Fast.tw9885262867541136146 : True := trivial
theorem PySem.W.Fast.tw14641310740926399267 : True := trivial
theorem PySem.W.Fast.tw5167460512134918196 : True := trivial
theorem PySem.W.Fast.tw10403788798421242139 : True := trivial
theorem PySem.W.Fast.tw10561272852034389327 : True := trivial
theorem PySem.W.Fast.tw16315108443384033186 : True := trivial
theorem PySem.W.Fast.tw10628948397066451462 : True := trivial
theorem PySem.W.Fast.tw2352062198393211758 : True := trivial
theorem PySem.W.Fast.tw7121479566616616044 : True := trivial
theorem PySem.W.Fast.tw595964217997732525 : True := trivial
theorem PySem.W.Fast.tw10041260256890171883 : True := trivial
theorem PySem.W.Fast.tw7460484469387436649 : True := trivial
theorem PySem.W.Fast.tw13812232871114275387 : True := trivial
theorem PySem.W.Fast.tw11246381582305778186 : True := trivial
theorem PySem.W.Fast.tw3399988663213058796 : True := trivial
theorem PySem.W.Fast.tw4354791958444907076 : True := trivial
theorem PySem.W.Fast.tw14766989503632017424 : True := trivial
theorem PySem.W.Fast.tw11397267378981694398 : True := trivial
theorem PySem.W.Fast.tw4069786712527538678 : True := trivial
theorem PySem.W.Fast.tw5668190966363950766 : True := trivial
theorem PySem.W.Fast.tw616104821889371127 : True := trivial
theorem PySem.W.Fast.tw5989102728652251011 : True := trivial
theorem PySem.W.Fast.tw9978978504324507982 : True := trivial
theorem PySem.W.Fast.tw11620585012104570823 : True := trivial
theorem PySem.W.Fast.tw11541940037547807481 : True := trivial
theorem PySem.W.Fast.tw7644961707619693415 : True := trivial
theorem PySem.W.Fast.tw10505590518641483701 : True := trivial
theorem PySem.W.Fast.tw15433656730232862797 : True := trivial
theorem PySem.W.Fast.tw7650203705735248641 : True := trivial
theorem PySem.W.Fast.tw11534162931057032234 : True := trivial
theorem PySem.W.Fast.tw5425274487983318602 : True := trivial
theorem PySem.W.Fast.tw11894890723726533629 : True := trivial
theorem PySem.W.Fast.tw15223549956305379469 : True := trivial
theorem PySem.W.Fast.tw3869466032856680203 : True := trivial
theorem PySem.W.Fast.tw7934862113356366899 : True := trivial
theorem PySem.W.Fast.tw9720739553832305438 : True := trivial
theorem PySem.W.Fast.tw3039003659663007376 : True := trivial
theorem PySem.W.Fast.tw3264239952409991423 : True := trivial
theorem PySem.W.Fast.tw8979769953518297792 : True := trivial
theorem PySem.W.Fast.tw15783406130860091267 : True := trivial
theorem PySem.W.Fast.tw11158345768588279215 : True := trivial
theorem PySem.W.Fast.tw16276872082678888666 : True := trivial
theorem PySem.W.Fast.tw10298486410246956118 : True := trivial
theorem PySem.W.Fast.tw6351086639099864754 : True := trivial
theorem PySem.W.Fast.tw7788575980773328804 : True := trivial
theorem PySem.W.Fast.tw6934823472078379691 : True := trivial
theorem PySem.W.Fast.tw4648665505442756020 : True := trivial
theorem PySem.W.Fast.tw15233134203671599809 : True := trivial
theorem PySem.W.Fast.tw3015668777059678005 : True := trivial
theorem PySem.W.Fast.tw165071423267344102 : True := trivial
theorem PySem.W.Fast.tw2617646958404859518 : True := trivial
theorem PySem.W.Fast.tw11982378394191358532 : True := trivial
theorem PySem.W.Fast.tw16340825348080981500 : True := trivial
theorem PySem.W.Fast.tw13702565981324981297 : True := trivial
theorem PySem.W.Fast.tw12401068218209978204 : True := trivial
theorem PySem.W.Fast.tw2382309098739233620 : True := trivial
theorem PySem.W.Fast.tw6154730928989539341 : True := trivial
theorem PySem.W.Fast.tw11522620640808975082 : True := trivial
theorem PySem.W.Fast.tw10691059527327684182 : True := trivial
theorem PySem.W.Fast.tw15428796230924910896 : True := trivial
theorem PySem.W.Fast.tw10744376010639136900 : True := trivial
theorem PySem.W.Fast.tw2129257883755225871 : True := trivial
theorem PySem.W.Fast.tw13012641490924257829 : True := trivial
theorem PySem.W.Fast.tw5432051566539671210 : True := trivial
theorem PySem.W.Fast.tw3546133629544704409 : True := trivial
theorem PySem.W.Fast.tw17328878832716794860 : True := trivial
theorem PySem.W.Fast.tw1545050449364933435 : True := trivial
theorem PySem.W.Fast.tw16670065104850059519 : True := trivial
theorem PySem.W.Fast.tw11031235119951240658 : True := trivial
theorem PySem.W.Fast.tw9218414286623220071 : True := trivial
theorem PySem.W.Fast.tw10571388553812421743 : True := trivial
theorem PySem.W.Fast.tw16267082135886105501 : True := trivial
theorem PySem.W.Fast.tw322661705317405380 : True := trivial
theorem PySem.W.Fast.tw16887350027694837094 : True := trivial
theorem PySem.W.Fast.tw16788543895336164663 : True := trivial
theorem PySem.W.Fast.tw5571598144371349011 : True := trivial
theorem PySem.W.Fast.tw5001698087387678653 : True := trivial
theorem PySem.W.Fast.tw10604660305123668984 : True := trivial
theorem PySem.W.Fast.tw16211742361624789145 : True := trivial
theorem PySem.W.Fast.tw5109416239750689268 : True := trivial
theorem PySem.W.Fast.tw8879548514081401076 : True := trivial
theorem PySem.W.Fast.tw2988398892088238997 : True := trivial
theorem PySem.W.Fast.tw2806105838510947614 : True := trivial
theorem PySem.W.Fast.tw4679752177390055842 : True := trivial
theorem PySem.W.Fast.tw7199537798753544958 : True := trivial
theorem PySem.W.Fast.tw7600004380492252066 : True := trivial
theorem PySem.W.Fast.tw6467358632920702518 : True := trivial
theorem PySem.W.Fast.tw6032274262404213462 : True := trivial
theorem PySem.W.Fast.tw6650840145132480219 : True := trivial
theorem PySem.W.Fast.tw1429291157258267283 : True := trivial
theorem PySem.W.Fast.tw16035053063766563089 : True := trivial
theorem PySem.W.Fast.tw16834014096800268114 : True := trivial
theorem PySem.W.Fast.tw11220398896876491086 : True := trivial
theorem PySem.W.Fast.tw13056931076003902928 : True := trivial
theorem PySem.W.Fast.tw11763710683396826739 : True := trivial
theorem PySem.W.Fast.tw1775873234311637270 : True := trivial
theorem PySem.W.Fast.tw18131188429131394794 : True := trivial
theorem PySem.W.Fast.tw6459600821259752589 : True := trivial
theorem PySem.W.Fast.tw8729187853642890675 : True := trivial
theorem PySem.W.Fast.tw2942679122174346269 : True := trivial
theorem PySem.W.Fast.tw14825152992839157416 : True := trivial
theorem PySem.W.Fast.tw11129573837604061589 : True := trivial
theorem PySem.W.Fast.tw14543396148872460245 : True := trivial
theorem PySem.W.Fast.tw6954172427654823709 : True := trivial
theorem PySem.W.Fast.tw2816321137997489871 : True := trivial
theorem PySem.W.Fast.tw13937795624557585802 : True := trivial
theorem PySem.W.Fast.tw14716694592465113590 : True := trivial
theorem PySem.W.Fast.tw7804210332798840005 : True := trivial
theorem PySem.W.Fast.tw8393256200096265311 : True := trivial
theorem PySem.W.Fast.tw12047661017042244020 : True := trivial
theorem PySem.W.Fast.tw15978548370501278461 : True := trivial
theorem PySem.W.Fast.tw16765681777376605225 : True := trivial
theorem PySem.W.Fast.tw12329998472747223508 : True := trivial
theorem PySem.W.Fast.tw702962952867596711 : True := trivial
theorem PySem.W.Fast.tw452503837801943964 : True := trivial
theorem PySem.W.Fast.tw4037962982863910457 : True := trivial
theorem PySem.W.Fast.tw11023303288548050182 : True := trivial
theorem PySem.W.Fast.tw6968784010584246049 : True := trivial
theorem PySem.W.Fast.tw3482777021730554938 : True := trivial
theorem PySem.W.Fast.tw4877649095588890407 : True := trivial
theorem PySem.W.Fast.tw13748718687453104957 : True := trivial
theorem PySem.W.Fast.tw5356780379034401010 : True := trivial
theorem PySem.W.Fast.tw12266521176928823869 : True := trivial
theorem PySem.W.Fast.tw13838368971198838669 : True := trivial
theorem PySem.W.Fast.tw6880973415133726825 : True := trivial
theorem PySem.W.Fast.tw10203914667869566744 : True := trivial
theorem PySem.W.Fast.tw10015662036966797428 : True := trivial
theorem PySem.W.Fast.tw15157256909797392800 : True := trivial
theorem PySem.W.Fast.tw13729819573475243786 : True := trivial
theorem PySem.W.Fast.tw16679155054070154544 : True := trivial
theorem PySem.W.Fast.tw7143130489028136329 : True := trivial
theorem PySem.W.Fast.tw9658367086664477176 : True := trivial
theorem PySem.W.Fast.tw14391078528621268355 : True := trivial
theorem PySem.W.Fast.tw669160439161929276 : True := trivial
theorem PySem.W.Fast.tw17287039136369977414 : True := trivial
theorem PySem.W.Fast.tw13038792293840559750 : True := trivial
theorem PySem.W.Fast.tw6300076071041576084 : True := trivial
theorem PySem.W.Fast.tw2840767683964599180 : True := trivial
theorem PySem.W.Fast.tw4099241313812902290 : True := trivial
theorem PySem.W.Fast.tw17440334211310247654 : True := trivial
theorem PySem.W.Fast.tw14300233460718063723 : True := trivial
theorem PySem.W.Fast.tw2763513603127534704 : True := trivial
theorem PySem.W.Fast.tw5355353565181660497 : True := trivial
theorem PySem.W.Fast.tw14401076010493756305 : True := trivial
theorem PySem.W.Fast.tw4645461651975581848 : True := trivial
theorem PySem.W.Fast.tw15045539985781091727 : True := trivial
theorem PySem.W.Fast.tw17756439962862835976 : True := trivial
theorem PySem.W.Fast.tw12648876688127692558 : True := trivial
theorem PySem.W.Fast.tw15546701483763100395 : True := trivial
theorem PySem.W.Fast.tw959718085112879171 : True := trivial
theorem PySem.W.Fast.tw17932737190682970430 : True := trivial
theorem PySem.W.Fast.tw5424603653750428279 : True := trivial
theorem PySem.W.Fast.tw3015581484464039459 : True := trivial
theorem PySem.W.Fast.tw8644635491511120842 : True := trivial
theorem PySem.W.Fast.tw2735462355993489273 : True := trivial
theorem PySem.W.Fast.tw33150839987437961 : True := trivial
theorem PySem.W.Fast.tw3547734266473558585 : True := trivial
theorem PySem.W.Fast.tw8397889442903543318 : True := trivial
theorem PySem.W.Fast.tw5763174277485980229 : True := trivial
theorem PySem.W.Fast.tw11087908369713201260 : True := trivial
theorem PySem.W.Fast.tw10657038344786926144 : True := trivial
theorem PySem.W.Fast.tw8613874800712606075 : True := trivial
theorem PySem.W.Fast.tw9024452820073978865 : True := trivial
theorem PySem.W.Fast.tw8851887782366991843 : True := trivial
theorem PySem.W.Fast.tw8660387468188750906 : True := trivial
theorem PySem.W.Fast.tw5543313672160599544 : True := trivial
theorem PySem.W.Fast.tw6838871925972270934 : True := trivial
theorem PySem.W.Fast.tw11720067666192432925 : True := trivial
theorem PySem.W.Fast.tw1480807812370705667 : True := trivial
theorem PySem.W.Fast.tw17232036236538574708 : True := trivial
theorem PySem.W.Fast.tw11214732891848308921 : True := trivial
theorem PySem.W.Fast.tw14050747948252753083 : True := trivial
theorem PySem.W.Fast.tw4292297124222140617 : True := trivial
theorem PySem.W.Fast.tw593137088911698891 : True := trivial
theorem PySem.W.Fast.tw14483245551348688894 : True := trivial
theorem PySem.W.Fast.tw15054536279941525060 : True := trivial
theorem PySem.W.Fast.tw13485105336003573902 : True := trivial
theorem PySem.W.Fast.tw13671021948307019107 : True := trivial
theorem PySem.W.Fast.tw11610454833668436355 : True := trivial
theorem PySem.W.Fast.tw16054344587345242371 : True := trivial
theorem PySem.W.Fast.tw1984502925253828006 : True := trivial
theorem PySem.W.Fast.tw17534311764024471841 : True := trivial
theorem PySem.W.Fast.tw2891828821995158122 : True := trivial
theorem PySem.W.Fast.tw6000626872362766898 : True := trivial
theorem PySem.W.Fast.tw2585813970892568144 : True := trivial
theorem PySem.W.Fast.tw11543634688103429530 : True := trivial
theorem PySem.W.Fast.tw10598430323203645940 : True := trivial
theorem PySem.W.Fast.tw3928175214939653983 : True := trivial
theorem PySem.W.Fast.tw10206090967747596259 : True := trivial
theorem PySem.W.Fast.tw3961020650014027943 : True := trivial
theorem PySem.W.Fast.tw7722328573249320834 : True := trivial
theorem PySem.W.Fast.tw5872379396604244961 : True := trivial
theorem PySem.W.Fast.tw7523633417527333967 : True := trivial
theorem PySem.W.Fast.tw12250376508046901478 : True := trivial
theorem PySem.W.Fast.tw1496267333055929199 : True := trivial
theorem PySem.W.Fast.tw13097948536538005136 : True := trivial
theorem PySem.W.Fast.tw14351943404394408798 : True := trivial
theorem PySem.W.Fast.tw3100286508537150251 : True := trivial
theorem PySem.W.Fast.tw15601946554797491168 : True := trivial
theorem PySem.W.Fast.tw18061734031428135848 : True := trivial
theorem PySem.W.Fast.tw13792757945715136114 : True := trivial
theorem PySem.W.Fast.tw16585810202224675575 : True := trivial
theorem PySem.W.Fast.tw17381774346616626971 : True := trivial
theorem PySem.W.Fast.tw9101452940771667767 : True := trivial
theorem PySem.W.Fast.tw5398978218068113767 : True := trivial
theorem PySem.W.Fast.tw15262408909483817810 : True := trivial
theorem PySem.W.Fast.tw2771426785995023673 : True := trivial
theorem PySem.W.Fast.tw5515481952997013019 : True := trivial
theorem PySem.W.Fast.tw9503814641536429983 : True := trivial
theorem PySem.W.Fast.tw13437656521272517832 : True := trivial
theorem PySem.W.Fast.tw365450507313092320 : True := trivial
theorem PySem.W.Fast.tw2480638635865799439 : True := trivial
theorem PySem.W.Fast.tw2978408236097479901 : True := trivial
theorem PySem.W.Fast.tw2795745846776602120 : True := trivial
theorem PySem.W.Fast.tw6307864934978476534 : True := trivial
theorem PySem.W.Fast.tw18056888570662284805 : True := trivial
theorem PySem.W.Fast.tw5041890288293181348 : True := trivial
theorem PySem.W.Fast.tw14270596520499371260 : True := trivial
theorem PySem.W.Fast.tw10504419988684872105 : True := trivial
theorem PySem.W.Fast.tw2551104141178185060 : True := trivial
theorem PySem.W.Fast.tw3877587902486629495 : True := trivial
theorem PySem.W.Fast.tw6629662364512030134 : True := trivial
theorem PySem.W.Fast.tw986806868708026386 : True := trivial
theorem PySem.W.Fast.tw16113058265644575949 : True := trivial
theorem PySem.W.Fast.tw10809490811062534027 : True := trivial
theorem PySem.W.Fast.tw5107617874208054445 : True := trivial
theorem PySem.W.Fast.tw11583681489020494943 : True := trivial
theorem PySem.W.Fast.tw17239049949260803134 : True := trivial
theorem PySem.W.Fast.tw8318401005598195549 : True := trivial
theorem PySem.W.Fast.tw10511709949451185214 : True := trivial
theorem PySem.W.Fast.tw3481674360947030713 : True := trivial
theorem PySem.W.Fast.tw14927028382690906599 : True := trivial
theorem PySem.W.Fast.tw13263020956322685962 : True := trivial
theorem PySem.W.Fast.tw4334662288351866099 : True := trivial
theorem PySem.W.Fast.tw12678515035846378880 : True := trivial
theorem PySem.W.Fast.tw5568759455653768077 : True := trivial
theorem PySem.W.Fast.tw12522439058434907387 : True := trivial
theorem PySem.W.Fast.tw7898199683821917982 : True := trivial
theorem PySem.W.Fast.tw4636219084483074424 : True := trivial
theorem PySem.W.Fast.tw13966066161633435315 : True := trivial
theorem PySem.W.Fast.tw4665602144968746425 : True := trivial
theorem PySem.W.Fast.tw7588599144494997988 : True := trivial
theorem PySem.W.Fast.tw1990384430730953039 : True := trivial
theorem PySem.W.Fast.tw13733338196464357362 : True := trivial
theorem PySem.W.Fast.tw7526965838202587539 : True := trivial
theorem PySem.W.Fast.tw16596351916663858223 : True := trivial
theorem PySem.W.Fast.tw15660835383071601415 : True := trivial
theorem PySem.W.Fast.tw17495323309205169142 : True := trivial
theorem PySem.W.Fast.tw9046396553716701478 : True := trivial
theorem PySem.W.Fast.tw1435229472061270683 : True := trivial
theorem PySem.W.Fast.tw6067365247035959331 : True := trivial
theorem PySem.W.Fast.tw3750101294547689501 : True := trivial
theorem PySem.W.Fast.tw13515539868294167715 : True := trivial
theorem PySem.W.Fast.tw17061823846695357932 : True := trivial
theorem PySem.W.Fast.tw1923995476141554153 : True := trivial
theorem PySem.W.Fast.tw4444607951744898883 : True := trivial
theorem PySem.W.Fast.tw12093600140089104717 : True := trivial
theorem PySem.W.Fast.tw17265600646905062438 : True := trivial
theorem PySem.W.Fast.tw10291162150687760089 : True := trivial
theorem PySem.W.Fast.tw4562583762110214804 : True := trivial
theorem PySem.W.Fast.tw11893958789950446069 : True := trivial
theorem PySem.W.Fast.tw16201068386166278936 : True := trivial
theorem PySem.W.Fast.tw6693947336588080409 : True := trivial
theorem PySem.W.Fast.tw2890713028466951479 : True := trivial
theorem PySem.W.Fast.tw9511279366692063063 : True := trivial
theorem PySem.W.Fast.tw3234317859686292457 : True := trivial
theorem PySem.W.Fast.tw14546701817113937146 : True := trivial
theorem PySem.W.Fast.tw2081099465354490501 : True := trivial
theorem PySem.W.Fast.tw608505719026053059 : True := trivial
theorem PySem.W.Fast.tw7381372917373988439 : True := trivial
theorem PySem.W.Fast.tw4107680866409449341 : True := trivial
theorem PySem.W.Fast.tw4638653309847942101 : True := trivial
theorem PySem.W.Fast.tw743500812709360322 : True := trivial
theorem PySem.W.Fast.tw7192001567821095774 : True := trivial
theorem PySem.W.Fast.tw12784321961051704388 : True := trivial
theorem PySem.W.Fast.tw10877875651173720100 : True := trivial
theorem PySem.W.Fast.tw13443391451721041988 : True := trivial
theorem PySem.W.Fast.tw15462216429682206887 : True := trivial
theorem PySem.W.Fast.tw4513785626843173734 : True := trivial
theorem PySem.W.Fast.tw2745404914992159023 : True := trivial
theorem PySem.W.Fast.tw8564738946727856970 : True := trivial
theorem PySem.W.Fast.tw5298725104479359759 : True := trivial
theorem PySem.W.Fast.tw5317895273432343735 : True := trivial
theorem PySem.W.Fast.tw7282252506046148505 : True := trivial
theorem PySem.W.Fast.tw13719293805883591591 : True := trivial
theorem PySem.W.Fast.tw1929587677507067301 : True := trivial
theorem PySem.W.Fast.tw16876055347590753280 : True := trivial
theorem PySem.W.Fast.tw9178634778208871441 : True := trivial
theorem PySem.W.Fast.tw3200988503152250529 : True := trivial
theorem PySem.W.Fast.tw559786021641947627 : True := trivial
theorem PySem.W.Fast.tw13311355156970376784 : True := trivial
theorem PySem.W.Fast.tw14215729752958502767 : True := trivial
theorem PySem.W.Fast.tw13695707105341185049 : True := trivial
theorem PySem.W.Fast.tw740059448595625804 : True := trivial
theorem PySem.W.Fast.tw11661264439466050222 : True := trivial
theorem PySem.W.Fast.tw9296804154303296459 : True := trivial
theorem PySem.W.Fast.tw16058896876109396285 : True := trivial
theorem PySem.W.Fast.tw1013168710199790464 : True := trivial
theorem PySem.W.Fast.tw4660275571723736592 : True := trivial
theorem PySem.W.Fast.tw5402920363209086195 : True := trivial
theorem PySem.W.Fast.tw11679292966478027477 : True := trivial
theorem PySem.W.Fast.tw7244959885004931193 : True := trivial
theorem PySem.W.Fast.tw5951907398186717572 : True := trivial
theorem PySem.W.Fast.tw10393446562881259295 : True := trivial
theorem PySem.W.Fast.tw14959165012501020726 : True := trivial
theorem PySem.W.Fast.tw14553271436023507993 : True := trivial
theorem PySem.W.Fast.tw2226598475238104738 : True := trivial
theorem PySem.W.Fast.tw17670389515354789575 : True := trivial
theorem PySem.W.Fast.tw15751914441422536901 : True := trivial
theorem PySem.W.Fast.tw4605659636322016817 : True := trivial
theorem PySem.W.Fast.tw14681624632287051056 : True := trivial
theorem PySem.W.Fast.tw6224202817082712394 : True := trivial
theorem PySem.W.Fast.tw10477854686854693884 : True := trivial
theorem PySem.W.Fast.tw587788787794890121 : True := trivial
theorem PySem.W.Fast.tw13690858660281625804 : True := trivial
theorem PySem.W.Fast.tw10208669436647904618 : True := trivial
theorem PySem.W.Fast.tw5132516007179515558 : True := trivial
theorem PySem.W.Fast.tw13734960478427911764 : True := trivial
theorem PySem.W.Fast.tw17458600233610794606 : True := trivial
theorem PySem.W.Fast.tw4310177240448000158 : True := trivial
theorem PySem.W.Fast.tw14812853875479559740 : True := trivial
theorem PySem.W.Fast.tw6946276512995780539 : True := trivial
theorem PySem.W.Fast.tw9637017834030025657 : True := trivial
theorem PySem.W.Fast.tw4267045341616047698 : True := trivial
theorem PySem.W.Fast.tw14105101564165673143 : True := trivial
theorem PySem.W.Fast.tw13213755706303709014 : True := trivial
theorem PySem.W.Fast.tw12387243689329751274 : True := trivial
theorem PySem.W.Fast.tw15775838543956560286 : True := trivial
theorem PySem.W.Fast.tw3238913714597601595 : True := trivial
theorem PySem.W.Fast.tw15515936589255488063 : True := trivial
theorem PySem.W.Fast.tw10217794701547095499 : True := trivial
theorem PySem.W.Fast.tw13410370388614121033 : True := trivial
theorem PySem.W.Fast.tw16433920845974304899 : True := trivial
theorem PySem.W.Fast.tw13800535856648991144 : True := trivial
theorem PySem.W.Fast.tw9389462922718477729 : True := trivial
theorem PySem.W.Fast.tw17634798597735351886 : True := trivial
theorem PySem.W.Fast.tw927285032340115796 : True := trivial
theorem PySem.W.Fast.tw3744019020376961479 : True := trivial
theorem PySem.W.Fast.tw17835970459338470251 : True := trivial
theorem PySem.W.Fast.tw14531745370321732419 : True := trivial
theorem PySem.W.Fast.tw312203983181471011 : True := trivial
theorem PySem.W.Fast.tw17637360209017540763 : True := trivial
theorem PySem.W.Fast.tw6639010718282088281 : True := trivial
theorem PySem.W.Fast.tw7861707257670920100 : True := trivial
theorem PySem.W.Fast.tw11370338204556897318 : True := trivial
theorem PySem.W.Fast.tw15313281096599339159 : True := trivial
theorem PySem.W.Fast.tw16071595279958877568 : True := trivial
theorem PySem.W.Fast.tw6098450253601981177 : True := trivial
theorem PySem.W.Fast.tw15997297342650340902 : True := trivial
theorem PySem.W.Fast.tw3181661991095334490 : True := trivial
theorem PySem.W.Fast.tw10131737231562217935 : True := trivial
theorem PySem.W.Fast.tw15384194624289519464 : True := trivial
theorem PySem.W.Fast.tw4354613928180766574 : True := trivial
theorem PySem.W.Fast.tw11564148670811938117 : True := trivial
theorem PySem.W.Fast.tw13648758118321765017 : True := trivial
theorem PySem.W.Fast.tw13296991380202814264 : True := trivial
theorem PySem.W.Fast.tw14611458509003435096 : True := trivial
theorem PySem.W.Fast.tw11901416920055491300 : True := trivial
theorem PySem.W.Fast.tw10352920229321387744 : True := trivial
theorem PySem.W.Fast.tw6294582553022120417 : True := trivial
theorem PySem.W.Fast.tw17706236533087761669 : True := trivial
theorem PySem.W.Fast.tw6938005039271645818 : True := trivial
theorem PySem.W.Fast.tw2754587146469565839 : True := trivial
theorem PySem.W.Fast.tw14568706130805403231 : True := trivial
theorem PySem.W.Fast.tw14809402931838103944 : True := trivial
theorem PySem.W.Fast.tw16748373569701607342 : True := trivial
theorem PySem.W.Fast.tw16944993631213134090 : True := trivial
theorem PySem.W.Fast.tw30595731716703904 : True := trivial
theorem PySem.W.Fast.tw16301869663830401597 : True := trivial
theorem PySem.W.Fast.tw1206648821441022310 : True := trivial
theorem PySem.W.Fast.tw8618280269370041484 : True := trivial
theorem PySem.W.Fast.tw16038562878663507382 : True := trivial
theorem PySem.W.Fast.tw11933004495327892724 : True := trivial
theorem PySem.W.Fast.tw13719534614323018304 : True := trivial
theorem PySem.W.Fast.tw15106698471983069386 : True := trivial
theorem PySem.W.Fast.tw17101855699630546071 : True := trivial
theorem PySem.W.Fast.tw7509351213929957026 : True := trivial
theorem PySem.W.Fast.tw2650145305834337121 : True := trivial
theorem PySem.W.Fast.tw5416314459391494271 : True := trivial
theorem PySem.W.Fast.tw11676703753190742254 : True := trivial
theorem PySem.W.Fast.tw12419334658778997039 : True := trivial
theorem PySem.W.Fast.tw2096670447572369414 : True := trivial
theorem PySem.W.Fast.tw4063248582856742116 : True := trivial
theorem PySem.W.Fast.tw15306150807896190220 : True := trivial
theorem PySem.W.Fast.tw2083237124117713404 : True := trivial
theorem PySem.W.Fast.tw2214550271479060995 : True := trivial
theorem PySem.W.Fast.tw13121119879018088069 : True := trivial
theorem PySem.W.Fast.tw11047290622419240110 : True := trivial
theorem PySem.W.Fast.tw13954768042086043520 : True := trivial
theorem PySem.W.Fast.tw2652402736577002779 : True := trivial
theorem PySem.W.Fast.tw13304628827717504993 : True := trivial
theorem PySem.W.Fast.tw9914380731842788925 : True := trivial
theorem PySem.W.Fast.tw16900950464111605609 : True := trivial
theorem PySem.W.Fast.tw9793369760451391542 : True := trivial
theorem PySem.W.Fast.tw8369716257183463002 : True := trivial
theorem PySem.W.Fast.tw10619868615340169259 : True := trivial
theorem PySem.W.Fast.tw3710405035646524551 : True := trivial
theorem PySem.W.Fast.tw2073265945810594627 : True := trivial
theorem PySem.W.Fast.tw12239774430732130704 : True := trivial
theorem PySem.W.Fast.tw16668904924929191237 : True := trivial
theorem PySem.W.Fast.tw15149450028599226938 : True := trivial
theorem PySem.W.Fast.tw14882425995114589139 : True := trivial
theorem PySem.W.Fast.tw13927301031866388580 : True := trivial
theorem PySem.W.Fast.tw2488871079007578833 : True := trivial
theorem PySem.W.Fast.tw12013659695085065938 : True := trivial
theorem PySem.W.Fast.tw296262723003316164 : True := trivial
theorem PySem.W.Fast.tw2661175231352070134 : True := trivial
theorem PySem.W.Fast.tw4460590701123141829 : True := trivial
theorem PySem.W.Fast.tw6299230379427153843 : True := trivial
theorem PySem.W.Fast.tw7347651840902542415 : True := trivial
theorem PySem.W.Fast.tw3002810268520451338 : True := trivial
theorem PySem.W.Fast.tw1745737242844986570 : True := trivial
theorem PySem.W.Fast.tw1561256917745947366 : True := trivial
theorem PySem.W.Fast.tw16144320061171401735 : True := trivial
theorem PySem.W.Fast.tw10697097101961151314 : True := trivial
theorem PySem.W.Fast.tw2877747508167646587 : True := trivial
theorem PySem.W.Fast.tw8973656203241015897 : True := trivial
theorem PySem.W.Fast.tw4955265647266284039 : True := trivial
theorem PySem.W.Fast.tw9693045099888456334 : True := trivial
theorem PySem.W.Fast.tw17683201013028515395 : True := trivial
theorem PySem.W.Fast.tw1257380042370843881 : True := trivial
theorem PySem.W.Fast.tw3077409189547462523 : True := trivial
theorem PySem.W.Fast.tw9993120301406622813 : True := trivial
theorem PySem.W.Fast.tw6412419150499045975 : True := trivial
theorem PySem.W.Fast.tw15564678209985223395 : True := trivial
theorem PySem.W.Fast.tw16249762883547765374 : True := trivial
theorem PySem.W.Fast.tw3694404110996986088 : True := trivial
theorem PySem.W.Fast.tw17923475544219468601 : True := trivial
theorem PySem.W.Fast.tw6802272089730869029 : True := trivial
theorem PySem.W.Fast.tw441752535245012911 : True := trivial
theorem PySem.W.Fast.tw8682931017399831333 : True := trivial
theorem PySem.W.Fast.tw11291321029937122207 : True := trivial
theorem PySem.W.Fast.tw16256145382628264156 : True := trivial
theorem PySem.W.Fast.tw17139882939458149135 : True := trivial
theorem PySem.W.Fast.tw356761218747217228 : True := trivial
theorem PySem.W.Fast.tw8154566955272927414 : True := trivial
theorem PySem.W.Fast.tw14814982792950726123 : True := trivial
theorem PySem.W.Fast.tw16978379250498924609 : True := trivial
theorem PySem.W.Fast.tw17444887361029217615 : True := trivial
theorem PySem.W.Fast.tw2222347964040505758 : True := trivial
theorem PySem.W.Fast.tw8277526866394183621 : True := trivial
theorem PySem.W.Fast.tw14925994718641018187 : True := trivial
theorem PySem.W.Fast.tw6467340546338071680 : True := trivial
theorem PySem.W.Fast.tw8154747287873473643 : True := trivial
theorem PySem.W.Fast.tw5732735559128185310 : True := trivial
theorem PySem.W.Fast.tw7247190872712706806 : True := trivial
theorem PySem.W.Fast.tw1070919603831943041 : True := trivial
theorem PySem.W.Fast.tw14364937215642185182 : True := trivial
theorem PySem.W.Fast.tw7792990131650057340 : True := trivial
theorem PySem.W.Fast.tw9530628789036193335 : True := trivial
theorem PySem.W.Fast.tw9667589234994843229 : True := trivial
theorem PySem.W.Fast.tw9327169064670828068 : True := trivial
theorem PySem.W.Fast.tw6926301635239011816 : True := trivial
theorem PySem.W.Fast.tw10888422212343572978 : True := trivial
theorem PySem.W.Fast.tw2978433317707630352 : True := trivial
theorem PySem.W.Fast.tw2383478331621272494 : True := trivial
theorem PySem.W.Fast.tw10105045464232081928 : True := trivial
theorem PySem.W.Fast.tw18066808004084058512 : True := trivial
theorem PySem.W.Fast.tw17548367983546892558 : True := trivial
theorem PySem.W.Fast.tw9958926492229572582 : True := trivial
theorem PySem.W.Fast.tw11553576998058635780 : True := trivial
theorem PySem.W.Fast.tw5457634696485632086 : True := trivial
theorem PySem.W.Fast.tw13999060815435332611 : True := trivial
theorem PySem.W.Fast.tw4340563629146148596 : True := trivial
theorem PySem.W.Fast.tw17634764840573897552 : True := trivial
theorem PySem.W.Fast.tw12849908301803198554 : True := trivial
theorem PySem.W.Fast.tw16113814406453746185 : True := trivial
theorem PySem.W.Fast.tw6790359166433979758 : True := trivial
theorem PySem.W.Fast.tw3583224871174572210 : True := trivial
theorem PySem.W.Fast.tw3931185998693751087 : True := trivial
theorem PySem.W.Fast.tw12542772329720507817 : True := trivial
theorem PySem.W.Fast.tw11312764364951193028 : True := trivial
theorem PySem.W.Fast.tw16953605619611345501 : True := trivial
theorem PySem.W.Fast.tw16367637935874019135 : True := trivial
theorem PySem.W.Fast.tw11069992625715064623 : True := trivial
theorem PySem.W.Fast.tw13913622059420098711 : True := trivial
theorem PySem.W.Fast.tw8213615731036610020 : True := trivial
theorem PySem.W.Fast.tw1439519921391587250 : True := trivial
theorem PySem.W.Fast.tw10486757594645966919 : True := trivial
theorem PySem.W.Fast.tw12724892518731678782 : True := trivial
theorem PySem.W.Fast.tw1777058222913331425 : True := trivial
theorem PySem.W.Fast.tw7925454332215821778 : True := trivial
theorem PySem.W.Fast.tw13294674175453517145 : True := trivial
theorem PySem.W.Fast.tw12656017715567959739 : True := trivial
theorem PySem.W.Fast.tw2877108298994215216 : True := trivial
theorem PySem.W.Fast.tw13176752896852310864 : True := trivial
theorem PySem.W.Fast.tw12306508208977425101 : True := trivial
theorem PySem.W.Fast.tw2556227186093279453 : True := trivial
theorem PySem.W.Fast.tw9284802710059348774 : True := trivial
theorem PySem.W.Fast.tw11924054898179923906 : True := trivial
theorem PySem.W.Fast.tw206965991429306902 : True := trivial
theorem PySem.W.Fast.tw7019395112158501440 : True := trivial
theorem PySem.W.Fast.tw14956436952501808522 : True := trivial
theorem PySem.W.Fast.tw6155732723886970060 : True := trivial
theorem PySem.W.Fast.tw13016498522369986555 : True := trivial
theorem PySem.W.Fast.tw2165863754688477778 : True := trivial
theorem PySem.W.Fast.tw15272081846343567277 : True := trivial
theorem PySem.W.Fast.tw7030115248447599831 : True := trivial
theorem PySem.W.Fast.tw6864453828772228285 : True := trivial
theorem PySem.W.Fast.tw3387905938746893588 : True := trivial
theorem PySem.W.Fast.tw11896193516380113462 : True := trivial
theorem PySem.W.Fast.tw6169528947949794360 : True := trivial
theorem PySem.W.Fast.tw18005289833173829115 : True := trivial
theorem PySem.W.Fast.tw9650115502940804188 : True := trivial
theorem PySem.W.Fast.tw6775444436462301535 : True := trivial
theorem PySem.W.Fast.tw4945086615055178279 : True := trivial
theorem PySem.W.Fast.tw9000267041630663121 : True := trivial
theorem PySem.W.Fast.tw13192188383676269217 : True := trivial
theorem PySem.W.Fast.tw10309874412612182818 : True := trivial
theorem PySem.W.Fast.tw14956033628324091056 : True := trivial
theorem PySem.W.Fast.tw16699899541003260420 : True := trivial
theorem PySem.W.Fast.tw16629110993198070895 : True := trivial
theorem PySem.W.Fast.tw2739957780857982299 : True := trivial
theorem PySem.W.Fast.tw17163509777229749510 : True := trivial
theorem PySem.W.Fast.tw14312687974297345960 : True := trivial
theorem PySem.W.Fast.tw4583017553413716870 : True := trivial
theorem PySem.W.Fast.tw17440688926684392435 : True := trivial
theorem PySem.W.Fast.tw9610623160496254938 : True := trivial
theorem PySem.W.Fast.tw13468687789601978432 : True := trivial
theorem PySem.W.Fast.tw17649089277205882293 : True := trivial
theorem PySem.W.Fast.tw16230189633909809394 : True := trivial
theorem PySem.W.Fast.tw1034887411950404692 : True := trivial
theorem PySem.W.Fast.tw15910876850038927759 : True := trivial
theorem PySem.W.Fast.tw15617883117146613945 : True := trivial
theorem PySem.W.Fast.tw7604363051354280826 : True := trivial
theorem PySem.W.Fast.tw7903049167997265058 : True := trivial
theorem PySem.W.Fast.tw6142078879288872493 : True := trivial
theorem PySem.W.Fast.tw4357407226729570614 : True := trivial
theorem PySem.W.Fast.tw3465973364360508779 : True := trivial
theorem PySem.W.Fast.tw9266444658960866906 : True := trivial
theorem PySem.W.Fast.tw11643927747621389866 : True := trivial
theorem PySem.W.Fast.tw8308377890474690573 : True := trivial
theorem PySem.W.Fast.tw359262744002277832 : True := trivial
theorem PySem.W.Fast.tw14997022007428930826 : True := trivial
theorem PySem.W.Fast.tw10873648386517782026 : True := trivial
theorem PySem.W.Fast.tw11322045193056597107 : True := trivial
theorem PySem.W.Fast.tw7632327577760148520 : True := trivial
theorem PySem.W.Fast.tw10398904078387303519 : True := trivial
theorem PySem.W.Fast.tw18199539352420430512 : True := trivial
theorem PySem.W.Fast.tw15759639784657690568 : True := trivial
theorem PySem.W.Fast.tw13525136892659498255 : True := trivial
theorem PySem.W.Fast.tw7465885492935736929 : True := trivial
theorem PySem.W.Fast.tw16196680005201895408 : True := trivial
theorem PySem.W.Fast.tw16537498631352806738 : True := trivial
theorem PySem.W.Fast.tw13704972995777602047 : True := trivial
theorem PySem.W.Fast.tw18262523040213549508 : True := trivial
theorem PySem.W.Fast.tw12216094997331912705 : True := trivial
theorem PySem.W.Fast.tw9964205746889470360 : True := trivial
theorem PySem.W.Fast.tw8135655027395658501 : True := trivial
theorem PySem.W.Fast.tw6765763828652437038 : True := trivial
theorem PySem.W.Fast.tw1713240164537252516 : True := trivial
theorem PySem.W.Fast.tw17449212062067076948 : True := trivial
theorem PySem.W.Fast.tw10234867590123579160 : True := trivial
theorem PySem.W.Fast.tw16326402098339891271 : True := trivial
theorem PySem.W.Fast.tw17233446477273798200 : True := trivial
theorem PySem.W.Fast.tw6873407076363992463 : True := trivial
theorem PySem.W.Fast.tw15055130698527359819 : True := trivial
theorem PySem.W.Fast.tw289967957398498391 : True := trivial
theorem PySem.W.Fast.tw4661906604982531359 : True := trivial
theorem PySem.W.Fast.tw15465889463331189143 : True := trivial
theorem PySem.W.Fast.tw12863739778282332104 : True := trivial
theorem PySem.W.Fast.tw15903976769548966589 : True := trivial
theorem PySem.W.Fast.tw18414206345085055641 : True := trivial
theorem PySem.W.Fast.tw3248254241700997485 : True := trivial
theorem PySem.W.Fast.tw1768736370738260455 : True := trivial
theorem PySem.W.Fast.tw11217121484875513398 : True := trivial
theorem PySem.W.Fast.tw9832492925352701349 : True := trivial
theorem PySem.W.Fast.tw7626069779089243 : True := trivial
theorem PySem.W.Fast.tw5365088192199658118 : True := trivial
theorem PySem.W.Fast.tw1343530334812208366 : True := trivial
theorem PySem.W.Fast.tw6293649604992501193 : True := trivial
theorem PySem.W.Fast.tw10937761526548992631 : True := trivial
theorem PySem.W.Fast.tw485479435210265224 : True := trivial
theorem PySem.W.Fast.tw12792630462730104242 : True := trivial
theorem PySem.W.Fast.tw1468816375601717104 : True := trivial
theorem PySem.W.Fast.tw460863298133872361 : True := trivial
theorem PySem.W.Fast.tw10667042403351482851 : True := trivial
theorem PySem.W.Fast.tw8411915944438277372 : True := trivial
theorem PySem.W.Fast.tw13197990792937145760 : True := trivial
theorem PySem.W.Fast.tw12941234714880644526 : True := trivial
theorem PySem.W.Fast.tw9153648597930325938 : True := trivial
theorem PySem.W.Fast.tw12865721293613660551 : True := trivial
theorem PySem.W.Fast.tw11193286395550161837 : True := trivial
theorem PySem.W.Fast.tw5475149265022667798 : True := trivial
theorem PySem.W.Fast.tw8733473281695123761 : True := trivial
theorem PySem.W.Fast.tw13814900031543577624 : True := trivial
theorem PySem.W.Fast.tw8270489751066613279 : True := trivial
theorem PySem.W.Fast.tw11648870370836789292 : True := trivial
theorem PySem.W.Fast.tw6055951835984655686 : True := trivial
theorem PySem.W.Fast.tw15708400373239670434 : True := trivial
theorem PySem.W.Fast.tw4620138266079711591 : True := trivial
theorem PySem.W.Fast.tw9375261519187917309 : True := trivial
theorem PySem.W.Fast.tw17927052194410327820 : True := trivial
theorem PySem.W.Fast.tw5295596547186720989 : True := trivial
theorem PySem.W.Fast.tw5870514532686048164 : True := trivial
theorem PySem.W.Fast.tw15863397892026893132 : True := trivial
theorem PySem.W.Fast.tw12000587629759816526 : True := trivial
theorem PySem.W.Fast.tw4341034442213554780 : True := trivial
theorem PySem.W.Fast.tw8541514379477117911 : True := trivial
theorem PySem.W.Fast.tw18088689627431295524 : True := trivial
theorem PySem.W.Fast.tw17421893134343531950 : True := trivial
theorem PySem.W.Fast.tw7449742412561067357 : True := trivial
theorem PySem.W.Fast.tw9257038290105088263 : True := trivial
theorem PySem.W.Fast.tw1736917873483115393 : True := trivial
theorem PySem.W.Fast.tw12561162668490320483 : True := trivial
theorem PySem.W.Fast.tw11710458135669121820 : True := trivial
theorem PySem.W.Fast.tw6171742120461555900 : True := trivial
theorem PySem.W.Fast.tw4175987943215893447 : True := trivial
theorem PySem.W.Fast.tw3124932507572759612 : True := trivial
theorem PySem.W.Fast.tw15602113847108753674 : True := trivial
theorem PySem.W.Fast.tw12471267236721196569 : True := trivial
theorem PySem.W.Fast.tw9152264007213936483 : True := trivial
theorem PySem.W.Fast.tw17115731854288518289 : True := trivial
theorem PySem.W.Fast.tw7202855344356512367 : True := trivial
theorem PySem.W.Fast.tw14197611717194573507 : True := trivial
theorem PySem.W.Fast.tw17111901494947575571 : True := trivial
theorem PySem.W.Fast.tw5672510337611712742 : True := trivial
theorem PySem.W.Fast.tw13616170730490969986 : True := trivial
theorem PySem.W.Fast.tw2035973436901444581 : True := trivial
theorem PySem.W.Fast.tw5456595547085132719 : True := trivial
theorem PySem.W.Fast.tw3139369886668528035 : True := trivial
theorem PySem.W.Fast.tw1149972487691275715 : True := trivial
theorem PySem.W.Fast.tw12555722778262123940 : True := trivial
theorem PySem.W.Fast.tw9650436113616788895 : True := trivial
theorem PySem.W.Fast.tw17717827735303417713 : True := trivial
theorem PySem.W.Fast.tw4211220347394630367 : True := trivial
theorem PySem.W.Fast.tw31515333012533629 : True := trivial
theorem PySem.W.Fast.tw10929388935579190366 : True := trivial
theorem PySem.W.Fast.tw13482815263757999908 : True := trivial
theorem PySem.W.Fast.tw9179377559631501493 : True := trivial
theorem PySem.W.Fast.tw11787799840893768381 : True := trivial
theorem PySem.W.Fast.tw16028038079891175695 : True := trivial
theorem PySem.W.Fast.tw12221373858956330319 : True := trivial
theorem PySem.W.Fast.tw12869046323815224917 : True := trivial
theorem PySem.W.Fast.tw9788663507979549600 : True := trivial
theorem PySem.W.Fast.tw8426480710740432332 : True := trivial
theorem PySem.W.Fast.tw12596072677966815744 : True := trivial
theorem PySem.W.Fast.tw14146645979640086397 : True := trivial
theorem PySem.W.Fast.tw2630923224243734231 : True := trivial
theorem PySem.W.Fast.tw8721859391014413859 : True := trivial
theorem PySem.W.Fast.tw6660313766654487461 : True := trivial
theorem PySem.W.Fast.tw5438988585029849851 : True := trivial
theorem PySem.W.Fast.tw16737491614056747716 : True := trivial
theorem PySem.W.Fast.tw9629046037919146170 : True := trivial
theorem PySem.W.Fast.tw661961546341545785 : True := trivial
theorem PySem.W.Fast.tw614500268941814562 : True := trivial
theorem PySem.W.Fast.tw13478217547015334892 : True := trivial
theorem PySem.W.Fast.tw5487623875501431599 : True := trivial
theorem PySem.W.Fast.tw3565606839412763845 : True := trivial
theorem PySem.W.Fast.tw16077357206507264229 : True := trivial
theorem PySem.W.Fast.tw2325431942343937184 : True := trivial
theorem PySem.W.Fast.tw11887781517783457037 : True := trivial
theorem PySem.W.Fast.tw7896516034777060138 : True := trivial
theorem PySem.W.Fast.tw10193251119040834689 : True := trivial
theorem PySem.W.Fast.tw8432288211421039588 : True := trivial
theorem PySem.W.Fast.tw18275430263391957542 : True := trivial
theorem PySem.W.Fast.tw5215512583983026838 : True := trivial
theorem PySem.W.Fast.tw267463507700358837 : True := trivial
theorem PySem.W.Fast.tw8228586659947908543 : True := trivial
theorem PySem.W.Fast.tw17154267520151297577 : True := trivial
theorem PySem.W.Fast.tw16188229889509002719 : True := trivial
theorem PySem.W.Fast.tw2618062013290947339 : True := trivial
theorem PySem.W.Fast.tw3694199310778498445 : True := trivial
theorem PySem.W.Fast.tw13365540020444389911 : True := trivial
theorem PySem.W.Fast.tw2457331116814732627 : True := trivial
theorem PySem.W.Fast.tw5290969574198541023 : True := trivial
theorem PySem.W.Fast.tw11599094434215516214 : True := trivial
theorem PySem.W.Fast.tw708117902211882530 : True := trivial
theorem PySem.W.Fast.tw4002283269325242766 : True := trivial
theorem PySem.W.Fast.tw11266427956045615774 : True := trivial
theorem PySem.W.Fast.tw3171314707372686703 : True := trivial
theorem PySem.W.Fast.tw1172888719423185370 : True := trivial
theorem PySem.W.Fast.tw5571471680873504046 : True := trivial
theorem PySem.W.Fast.tw3886180939062388526 : True := trivial
theorem PySem.W.Fast.tw5341315873158371825 : True := trivial
theorem PySem.W.Fast.tw12667270287284591527 : True := trivial
theorem PySem.W.Fast.tw15488063747272662822 : True := trivial
theorem PySem.W.Fast.tw10125426724364651286 : True := trivial
theorem PySem.W.Fast.tw2193882545284063828 : True := trivial
theorem PySem.W.Fast.tw17368420490531398690 : True := trivial
theorem PySem.W.Fast.tw6500018758838382813 : True := trivial
theorem PySem.W.Fast.tw12722540612558781333 : True := trivial
theorem PySem.W.Fast.tw10253197412950334782 : True := trivial
theorem PySem.W.Fast.tw7273833275051460249 : True := trivial
theorem PySem.W.Fast.tw9930927486690567247 : True := trivial
theorem PySem.W.Fast.tw689726266290533635 : True := trivial
theorem PySem.W.Fast.tw2222308957872535323 : True := trivial
theorem PySem.W.Fast.tw8498199637960544013 : True := trivial
theorem PySem.W.Fast.tw519055177636482829 : True := trivial
theorem PySem.W.Fast.tw9282287154267071682 : True := trivial
theorem PySem.W.Fast.tw8506399560454777048 : True := trivial
theorem PySem.W.Fast.tw7006045395242642812 : True := trivial
theorem PySem.W.Fast.tw8639372880780814569 : True := trivial
theorem PySem.W.Fast.tw3115275198456523592 : True := trivial
theorem PySem.W.Fast.tw15900772688341761525 : True := trivial
theorem PySem.W.Fast.tw9133961107382564130 : True := trivial
theorem PySem.W.Fast.tw12938833454170068869 : True := trivial
theorem PySem.W.Fast.tw17223226991885766705 : True := trivial
theorem PySem.W.Fast.tw9738867711304516190 : True := trivial
theorem PySem.W.Fast.tw2240591751628319384 : True := trivial
theorem PySem.W.Fast.tw6619196657037002455 : True := trivial
theorem PySem.W.Fast.tw14908623211635367995 : True := trivial
theorem PySem.W.Fast.tw4002392572012785735 : True := trivial
theorem PySem.W.Fast.tw9345372031961596037 : True := trivial
theorem PySem.W.Fast.tw17398017215251202741 : True := trivial
theorem PySem.W.Fast.tw3070574783057879949 : True := trivial
theorem PySem.W.Fast.tw8407184091749152765 : True := trivial
theorem PySem.W.Fast.tw3386637286265081704 : True := trivial
theorem PySem.W.Fast.tw11491438381909906629 : True := trivial
theorem PySem.W.Fast.tw4877618084005806258 : True := trivial
theorem PySem.W.Fast.tw5521572337046062887 : True := trivial
theorem PySem.W.Fast.tw5070797233310557894 : True := trivial
theorem PySem.W.Fast.tw16524103220246681320 : True := trivial
theorem PySem.W.Fast.tw4014748159651967755 : True := trivial
theorem PySem.W.Fast.tw17683435350073529888 : True := trivial
theorem PySem.W.Fast.tw621478734496711505 : True := trivial
theorem PySem.W.Fast.tw13478534733897880087 : True := trivial
theorem PySem.W.Fast.tw5846039089495034348 : True := trivial
theorem PySem.W.Fast.tw9283893430939493342 : True := trivial
theorem PySem.W.Fast.tw15237739221578347394 : True := trivial
theorem PySem.W.Fast.tw12952310318490876985 : True := trivial
theorem PySem.W.Fast.tw10213061546578047582 : True := trivial
theorem PySem.W.Fast.tw6696905405180517371 : True := trivial
theorem PySem.W.Fast.tw17364294640106132646 : True := trivial
theorem PySem.W.Fast.tw4749885443984597801 : True := trivial
theorem PySem.W.Fast.tw5517438273838193496 : True := trivial
theorem PySem.W.Fast.tw16474024535988990604 : True := trivial
theorem PySem.W.Fast.tw16389829773665503876 : True := trivial
theorem PySem.W.Fast.tw8062671684674018803 : True := trivial
theorem PySem.W.Fast.tw17323791158287357266 : True := trivial
theorem PySem.W.Fast.tw14134400313733487560 : True := trivial
theorem PySem.W.Fast.tw11414329789167867955 : True := trivial
theorem PySem.W.Fast.tw10042783144435372483 : True := trivial
theorem PySem.W.Fast.tw3030396445725542847 : True := trivial
theorem PySem.W.Fast.tw12295304211034186907 : True := trivial
theorem PySem.W.Fast.tw12796352056038510625 : True := trivial
theorem PySem.W.Fast.tw17331939227824304182 : True := trivial
theorem PySem.W.Fast.tw15433938017970188746 : True := trivial
theorem PySem.W.Fast.tw311050351352208755 : True := trivial
theorem PySem.W.Fast.tw5749706251185204998 : True := trivial
theorem PySem.W.Fast.tw6748977948289040079 : True := trivial
theorem PySem.W.Fast.tw16970458798498475032 : True := trivial
theorem PySem.W.Fast.tw3407922482930356847 : True := trivial
theorem PySem.W.Fast.tw13999623351566006863 : True := trivial
theorem PySem.W.Fast.tw16810889546199166721 : True := trivial
theorem PySem.W.Fast.tw11446384088546339706 : True := trivial
theorem PySem.W.Fast.tw3410777859631004082 : True := trivial
theorem PySem.W.Fast.tw4775043421877087839 : True := trivial
theorem PySem.W.Fast.tw10013306075828404153 : True := trivial
theorem PySem.W.Fast.tw1692923508674681652 : True := trivial
theorem PySem.W.Fast.tw11800276096247928538 : True := trivial
theorem PySem.W.Fast.tw14853349708464272040 : True := trivial
theorem PySem.W.Fast.tw13807874899833051687 : True := trivial
theorem PySem.W.Fast.tw4386126416948487094 : True := trivial
theorem PySem.W.Fast.tw6763073435766018978 : True := trivial
theorem PySem.W.Fast.tw1049312164040810505 : True := trivial
theorem PySem.W.Fast.tw6524914187924376664 : True := trivial
theorem PySem.W.Fast.tw14523636310907571169 : True := trivial
theorem PySem.W.Fast.tw14332597620681520313 : True := trivial
theorem PySem.W.Fast.tw11405161394241128633 : True := trivial
theorem PySem.W.Fast.tw2003504348752970676 : True := trivial
theorem PySem.W.Fast.tw12236362268149786492 : True := trivial
theorem PySem.W.Fast.tw16897124248960546416 : True := trivial
theorem PySem.W.Fast.tw4254513393168190127 : True := trivial
theorem PySem.W.Fast.tw3854585537751147360 : True := trivial
theorem PySem.W.Fast.tw11410812256118716036 : True := trivial
theorem PySem.W.Fast.tw13080741261521944026 : True := trivial
theorem PySem.W.Fast.tw5238368917804361795 : True := trivial
theorem PySem.W.Fast.tw6091470180170986093 : True := trivial
theorem PySem.W.Fast.tw2108727128762802108 : True := trivial
theorem PySem.W.Fast.tw4953559912032622763 : True := trivial
theorem PySem.W.Fast.tw9518097145957002873 : True := trivial
theorem PySem.W.Fast.tw4820520931445529477 : True := trivial
theorem PySem.W.Fast.tw17854005986708509807 : True := trivial
theorem PySem.W.Fast.tw2103221775154374326 : True := trivial
theorem PySem.W.Fast.tw679834175589509102 : True := trivial
theorem PySem.W.Fast.tw8798438123314145574 : True := trivial
theorem PySem.W.Fast.tw16031971979455694808 : True := trivial
theorem PySem.W.Fast.tw12692365223489227948 : True := trivial
theorem PySem.W.Fast.tw8222063310856698684 : True := trivial
theorem PySem.W.Fast.tw4416623461508805 : True := trivial
theorem PySem.W.Fast.tw14023604655556320353 : True := trivial
theorem PySem.W.Fast.tw8014723216733460423 : True := trivial
theorem PySem.W.Fast.tw5072425380988168571 : True := trivial
theorem PySem.W.Fast.tw1621080601124464130 : True := trivial
theorem PySem.W.Fast.tw3925136845823825743 : True := trivial
theorem PySem.W.Fast.tw11028409714874557217 : True := trivial
theorem PySem.W.Fast.tw7586498504733135465 : True := trivial
theorem PySem.W.Fast.tw1123753853194985259 : True := trivial
theorem PySem.W.Fast.tw13879434124674947015 : True := trivial
theorem PySem.W.Fast.tw16191004079640220151 : True := trivial
theorem PySem.W.Fast.tw11931997584349489962 : True := trivial
theorem PySem.W.Fast.tw2513757488531744379 : True := trivial
theorem PySem.W.Fast.tw12013135733403957508 : True := trivial
theorem PySem.W.Fast.tw5557825993943142102 : True := trivial
theorem PySem.W.Fast.tw7102391589664073595 : True := trivial
theorem PySem.W.Fast.tw12595339026709779017 : True := trivial
theorem PySem.W.Fast.tw6002362123522640440 : True := trivial
theorem PySem.W.Fast.tw11269737158338840666 : True := trivial
theorem PySem.W.Fast.tw17013574625726142569 : True := trivial
theorem PySem.W.Fast.tw16885322573845838099 : True := trivial
theorem PySem.W.Fast.tw17910589212713277496 : True := trivial
theorem PySem.W.Fast.tw6104315140042767592 : True := trivial
theorem PySem.W.Fast.tw13444178272760382902 : True := trivial
theorem PySem.W.Fast.tw8213145031192427282 : True := trivial
theorem PySem.W.Fast.tw7358294854085679252 : True := trivial
theorem PySem.W.Fast.tw8232212798192104906 : True := trivial
theorem PySem.W.Fast.tw11870122145156539258 : True := trivial
theorem PySem.W.Fast.tw15982144746543833066 : True := trivial
theorem PySem.W.Fast.tw2783629380423138334 : True := trivial
theorem PySem.W.Fast.tw15176548941383531282 : True := trivial
theorem PySem.W.Fast.tw9486075218145171260 : True := trivial
theorem PySem.W.Fast.tw9360012271915924933 : True := trivial
theorem PySem.W.Fast.tw4983088754214391762 : True := trivial
theorem PySem.W.Fast.tw11953577648763233740 : True := trivial
theorem PySem.W.Fast.tw8570286189292945387 : True := trivial
theorem PySem.W.Fast.tw9423651340452091064 : True := trivial
theorem PySem.W.Fast.tw2647174424582219728 : True := trivial
theorem PySem.W.Fast.tw14884921792789447648 : True := trivial
theorem PySem.W.Fast.tw2097487591932008540 : True := trivial
theorem PySem.W.Fast.tw1138883627610899707 : True := trivial
theorem PySem.W.Fast.tw434102853579572233 : True := trivial
theorem PySem.W.Fast.tw458231437281611515 : True := trivial
theorem PySem.W.Fast.tw9162586735614721927 : True := trivial
theorem PySem.W.Fast.tw16175141902663963633 : True := trivial
theorem PySem.W.Fast.tw3611644421879870896 : True := trivial
theorem PySem.W.Fast.tw12360705098208936182 : True := trivial
theorem PySem.W.Fast.tw5743302367575978618 : True := trivial
theorem PySem.W.Fast.tw8057513688614859905 : True := trivial
theorem PySem.W.Fast.tw6555658392533818062 : True := trivial
theorem PySem.W.Fast.tw12595935978151763256 : True := trivial
theorem PySem.W.Fast.tw2450658002249086423 : True := trivial
theorem PySem.W.Fast.tw13233720592765845663 : True := trivial
theorem PySem.W.Fast.tw1557153855550397335 : True := trivial
theorem PySem.W.Fast.tw14889365906179316072 : True := trivial
theorem PySem.W.Fast.tw9176588679195977302 : True := trivial
theorem PySem.W.Fast.tw6823758803807161353 : True := trivial
theorem PySem.W.Fast.tw8091079124225984030 : True := trivial
theorem PySem.W.Fast.tw6474148286301498848 : True := trivial
theorem PySem.W.Fast.tw14458365460840630073 : True := trivial
theorem PySem.W.Fast.tw17800084130321710822 : True := trivial
theorem PySem.W.Fast.tw1269401261609443720 : True := trivial
theorem PySem.W.Fast.tw1750090222855785059 : True := trivial
theorem PySem.W.Fast.tw15154142265377629427 : True := trivial
theorem PySem.W.Fast.tw6189006729319549173 : True := trivial
theorem PySem.W.Fast.tw1607398640969973122 : True := trivial
theorem PySem.W.Fast.tw14154003750727594528 : True := trivial
theorem PySem.W.Fast.tw16454520144837353571 : True := trivial
theorem PySem.W.Fast.tw7451977741184917216 : True := trivial
theorem PySem.W.Fast.tw1566803799982316493 : True := trivial
theorem PySem.W.Fast.tw12607650115578957215 : True := trivial
theorem PySem.W.Fast.tw10720624841179896587 : True := trivial
theorem PySem.W.Fast.tw6566517102815705363 : True := trivial
theorem PySem.W.Fast.tw6618189862021877033 : True := trivial
theorem PySem.W.Fast.tw10912160807198180340 : True := trivial
theorem PySem.W.Fast.tw10312252360923088506 : True := trivial
theorem PySem.W.Fast.tw5294814653068921346 : True := trivial
theorem PySem.W.Fast.tw937027762725368362 : True := trivial
theorem PySem.W.Fast.tw17352248757988805069 : True := trivial
theorem PySem.W.Fast.tw15972789319379085416 : True := trivial
theorem PySem.W.Fast.tw2749639937998337337 : True := trivial
theorem PySem.W.Fast.tw5752288414442210488 : True := trivial
theorem PySem.W.Fast.tw15379860635721762051 : True := trivial
theorem PySem.W.Fast.tw2040456555119839666 : True := trivial
theorem PySem.W.Fast.tw4158323655152023715 : True := trivial
theorem PySem.W.Fast.tw3827569915538026073 : True := trivial
theorem PySem.W.Fast.tw11748489227561078585 : True := trivial
theorem PySem.W.Fast.tw16562670408690366788 : True := trivial
theorem PySem.W.Fast.tw1907101773325762634 : True := trivial
theorem PySem.W.Fast.tw4025632151277283862 : True := trivial
theorem PySem.W.Fast.tw16842446268464629320 : True := trivial
theorem PySem.W.Fast.tw10024396870713893325 : True := trivial
theorem PySem.W.Fast.tw7270471891157508592 : True := trivial
theorem PySem.W.Fast.tw11626090651090994530 : True := trivial
theorem PySem.W.Fast.tw12365518814518090225 : True := trivial
theorem PySem.W.Fast.tw9210268286769801375 : True := trivial
theorem PySem.W.Fast.tw11577928766269033350 : True := trivial
theorem PySem.W.Fast.tw9750891832452899316 : True := trivial
theorem PySem.W.Fast.tw12359864972978096500 : True := trivial
theorem PySem.W.Fast.tw6355291214657601873 : True := trivial
theorem PySem.W.Fast.tw10887657121780132690 : True := trivial
theorem PySem.W.Fast.tw809117130205059356 : True := trivial
theorem PySem.W.Fast.tw16535414046049348388 : True := trivial
theorem PySem.W.Fast.tw10091005853566971906 : True := trivial
theorem PySem.W.Fast.tw1748684065596587057 : True := trivial
theorem PySem.W.Fast.tw5996995821966201146 : True := trivial
theorem PySem.W.Fast.tw9067276388228949496 : True := trivial
theorem PySem.W.Fast.tw7528755657050362730 : True := trivial
theorem PySem.W.Fast.tw6063245633186071991 : True := trivial
theorem PySem.W.Fast.tw7180271089986765824 : True := trivial
theorem PySem.W.Fast.tw7529511607384454414 : True := trivial
theorem PySem.W.Fast.tw9349930442433152610 : True := trivial
theorem PySem.W.Fast.tw17469972432436060490 : True := trivial
theorem PySem.W.Fast.tw14943760809611856558 : True := trivial
theorem PySem.W.Fast.tw15234912033017324083 : True := trivial
theorem PySem.W.Fast.tw545191109413770151 : True := trivial
theorem PySem.W.Fast.tw10344890313063745909 : True := trivial
theorem PySem.W.Fast.tw13242869117336391699 : True := trivial
theorem PySem.W.Fast.tw16873198512708095061 : True := trivial
theorem PySem.W.Fast.tw9653958055435192397 : True := trivial
theorem PySem.W.Fast.tw14660274695703579735 : True := trivial
theorem PySem.W.Fast.tw5837883500514399259 : True := trivial
theorem PySem.W.Fast.tw11666351126000977580 : True := trivial
theorem PySem.W.Fast.tw8609483579291832909 : True := trivial
theorem PySem.W.Fast.tw6208129773936681207 : True := trivial
theorem PySem.W.Fast.tw16451883143849251730 : True := trivial
theorem PySem.W.Fast.tw8378183492161425678 : True := trivial
theorem PySem.W.Fast.tw4383215880013389032 : True := trivial
theorem PySem.W.Fast.tw18105051046647168074 : True := trivial
theorem PySem.W.Fast.tw10713060649935725451 : True := trivial
theorem PySem.W.Fast.tw1618946499873589430 : True := trivial
theorem PySem.W.Fast.tw4063473100802872051 : True := trivial
theorem PySem.W.Fast.tw12748432943313562219 : True := trivial
theorem PySem.W.Fast.tw10080814632411304998 : True := trivial
theorem PySem.W.Fast.tw5106158193662607532 : True := trivial
theorem PySem.W.Fast.tw13368104351990409461 : True := trivial
theorem PySem.W.Fast.tw1387622929693351554 : True := trivial
theorem PySem.W.Fast.tw5982476607663174303 : True := trivial
theorem PySem.W.Fast.tw15547798036258364707 : True := trivial
theorem PySem.W.Fast.tw5966318530513215173 : True := trivial
theorem PySem.W.Fast.tw18177799406559606500 : True := trivial
theorem PySem.W.Fast.tw16884351263865865501 : True := trivial
theorem PySem.W.Fast.tw14145139285762381559 : True := trivial
theorem PySem.W.Fast.tw6214398929937586821 : True := trivial
theorem PySem.W.Fast.tw9470911772477129600 : True := trivial
theorem PySem.W.Fast.tw3967319201296890489 : True := trivial
theorem PySem.W.Fast.tw8528452390538971174 : True := trivial
theorem PySem.W.Fast.tw5436712728328139394 : True := trivial
theorem PySem.W.Fast.tw11749703753955819966 : True := trivial
theorem PySem.W.Fast.tw10451771678580364346 : True := trivial
theorem PySem.W.Fast.tw6140421387257315701 : True := trivial
theorem PySem.W.Fast.tw9678401725974502468 : True := trivial
theorem PySem.W.Fast.tw18439941659321769632 : True := trivial
theorem PySem.W.Fast.tw4516560397527252962 : True := trivial
theorem PySem.W.Fast.tw15930425108775983624 : True := trivial
theorem PySem.W.Fast.tw8487293017075280915 : True := trivial
theorem PySem.W.Fast.tw11715654385701177384 : True := trivial
theorem PySem.W.Fast.tw5304726568637474150 : True := trivial
theorem PySem.W.Fast.tw16087284301335407175 : True := trivial
theorem PySem.W.Fast.tw16877700006590464621 : True := trivial
theorem PySem.W.Fast.tw17952501794633440477 : True := trivial
theorem PySem.W.Fast.tw8514380075458888725 : True := trivial
theorem PySem.W.Fast.tw17273584700109959346 : True := trivial
theorem PySem.W.Fast.tw6330532723488626045 : True := trivial
theorem PySem.W.Fast.tw14143129288950438348 : True := trivial
theorem PySem.W.Fast.tw17360372289365303434 : True := trivial
theorem PySem.W.Fast.tw4765768555039469776 : True := trivial
theorem PySem.W.Fast.tw17654850396294665260 : True := trivial
theorem PySem.W.Fast.tw17553021708531008084 : True := trivial
theorem PySem.W.Fast.tw9111136858612929724 : True := trivial
theorem PySem.W.Fast.tw11923372184002359421 : True := trivial
theorem PySem.W.Fast.tw5996099386273048338 : True := trivial
theorem PySem.W.Fast.tw10782690965428122507 : True := trivial
theorem PySem.W.Fast.tw8744688198470886696 : True := trivial
theorem PySem.W.Fast.tw12877866480799799299 : True := trivial
theorem PySem.W.Fast.tw14034345222797052252 : True := trivial
theorem PySem.W.Fast.tw591816098859064567 : True := trivial
theorem PySem.W.Fast.tw6079607081026997111 : True := trivial
theorem PySem.W.Fast.tw6648821172111222057 : True := trivial
theorem PySem.W.Fast.tw2452603254870216595 : True := trivial
theorem PySem.W.Fast.tw8058032692859079146 : True := trivial
theorem PySem.W.Fast.tw3820084981418216394 : True := trivial
theorem PySem.W.Fast.tw7925864462064940960 : True := trivial
theorem PySem.W.Fast.tw7050556100723281346 : True := trivial
theorem PySem.W.Fast.tw13632214758744045468 : True := trivial
theorem PySem.W.Fast.tw10884034800237757360 : True := trivial
theorem PySem.W.Fast.tw5188557797389861200 : True := trivial
theorem PySem.W.Fast.tw6617959242628039232 : True := trivial
theorem PySem.W.Fast.tw3686443668792590674 : True := trivial
theorem PySem.W.Fast.tw3226721788254027955 : True := trivial
theorem PySem.W.Fast.tw7603373415770002594 : True := trivial
theorem PySem.W.Fast.tw1921298931956148076 : True := trivial
theorem PySem.W.Fast.tw10823608673697265701 : True := trivial
theorem PySem.W.Fast.tw6222804576636220765 : True := trivial
theorem PySem.W.Fast.tw5772453111306707516 : True := trivial
theorem PySem.W.Fast.tw6288657012755841156 : True := trivial
theorem PySem.W.Fast.tw98166314430940727 : True := trivial
theorem PySem.W.Fast.tw5329406824563281824 : True := trivial
theorem PySem.W.Fast.tw16026006817633968087 : True := trivial
theorem PySem.W.Fast.tw7598832855278091682 : True := trivial
theorem PySem.W.Fast.tw5770586880877631080 : True := trivial
theorem PySem.W.Fast.tw6654823192659621372 : True := trivial
theorem PySem.W.Fast.tw1171893613012351932 : True := trivial
theorem PySem.W.Fast.tw16232724447414381747 : True := trivial
theorem PySem.W.Fast.tw2044776126900651674 : True := trivial
theorem PySem.W.Fast.tw5119578575805584151 : True := trivial
theorem PySem.W.Fast.tw14717814199795759972 : True := trivial
theorem PySem.W.Fast.tw15953796552749318805 : True := trivial
theorem PySem.W.Fast.tw17528594001405231210 : True := trivial
theorem PySem.W.Fast.tw11694342167390535943 : True := trivial
theorem PySem.W.Fast.tw17432567824860969355 : True := trivial
theorem PySem.W.Fast.tw9699010610501914682 : True := trivial
theorem PySem.W.Fast.tw7992535812540374735 : True := trivial
theorem PySem.W.Fast.tw16915463378342553574 : True := trivial
theorem PySem.W.Fast.tw11948448686244322243 : True := trivial
theorem PySem.W.Fast.tw6259982582967172244 : True := trivial
theorem PySem.W.Fast.tw3396902322497897295 : True := trivial
theorem PySem.W.Fast.tw14696856418597750224 : True := trivial
theorem PySem.W.Fast.tw12306182247779114653 : True := trivial
theorem PySem.W.Fast.tw2810100742581164339 : True := trivial
theorem PySem.W.Fast.tw6380086122682551290 : True := trivial
theorem PySem.W.Fast.tw15663321200178109250 : True := trivial
theorem PySem.W.Fast.tw841176351218936908 : True := trivial
theorem PySem.W.Fast.tw10418572929168590713 : True := trivial
theorem PySem.W.Fast.tw2423265088964417552 : True := trivial
theorem PySem.W.Fast.tw10480485029399746606 : True := trivial
theorem PySem.W.Fast.tw272569947208273151 : True := trivial
theorem PySem.W.Fast.tw17321465967873775891 : True := trivial
theorem PySem.W.Fast.tw10569346732104161721 : True := trivial
theorem PySem.W.Fast.tw276042741199015068 : True := trivial
theorem PySem.W.Fast.tw7376434857203612132 : True := trivial
theorem PySem.W.Fast.tw1614475693578351775 : True := trivial
theorem PySem.W.Fast.tw14943888946301142216 : True := trivial
theorem PySem.W.Fast.tw3354338192749812827 : True := trivial
theorem PySem.W.Fast.tw17639588260548749476 : True := trivial
theorem PySem.W.Fast.tw3797333260972944331 : True := trivial
theorem PySem.W.Fast.tw2434880927754251373 : True := trivial
theorem PySem.W.Fast.tw5279462810576202546 : True := trivial
theorem PySem.W.Fast.tw12705919266726399526 : True := trivial
theorem PySem.W.Fast.tw11688581075408375331 : True := trivial
theorem PySem.W.Fast.tw2630265963464331218 : True := trivial
theorem PySem.W.Fast.tw15991516001894031801 : True := trivial
theorem PySem.W.Fast.tw12745488495454881627 : True := trivial
theorem PySem.W.Fast.tw12556745564775504345 : True := trivial
theorem PySem.W.Fast.tw9032355922413992341 : True := trivial
theorem PySem.W.Fast.tw10522250081941874435 : True := trivial
theorem PySem.W.Fast.tw16087246049695109081 : True := trivial
theorem PySem.W.Fast.tw12024178008906237027 : True := trivial
theorem PySem.W.Fast.tw7765057728119395793 : True := trivial
theorem PySem.W.Fast.tw12169751927034754656 : True := trivial
theorem PySem.W.Fast.tw1462023120202957843 : True := trivial
theorem PySem.W.Fast.tw10267037829019162880 : True := trivial
theorem PySem.W.Fast.tw8077978350559763964 : True := trivial
theorem PySem.W.Fast.tw8528109874735419925 : True := trivial
theorem PySem.W.Fast.tw12598892145562635595 : True := trivial
theorem PySem.W.Fast.tw18085538529510718909 : True := trivial
theorem PySem.W.Fast.tw1877812639151221398 : True := trivial
theorem PySem.W.Fast.tw2153508480653900078 : True := trivial
theorem PySem.W.Fast.tw9053279153753928600 : True := trivial
theorem PySem.W.Fast.tw9517694269919893751 : True := trivial
theorem PySem.W.Fast.tw12547347683454971345 : True := trivial
theorem PySem.W.Fast.tw11232678843720254472 : True := trivial
theorem PySem.W.Fast.tw16556874683031968561 : True := trivial
theorem PySem.W.Fast.tw14927412958618958655 : True := trivial
theorem PySem.W.Fast.tw2872482763300567557 : True := trivial
theorem PySem.W.Fast.tw14156597876062955099 : True := trivial
theorem PySem.W.Fast.tw5403850240848348531 : True := trivial
theorem PySem.W.Fast.tw3108072458460884614 : True := trivial
theorem PySem.W.Fast.tw5224854880825587386 : True := trivial
theorem PySem.W.Fast.tw14712902049728734661 : True := trivial
theorem PySem.W.Fast.tw3588034317941741234 : True := trivial
theorem PySem.W.Fast.tw4404150299733335420 : True := trivial
theorem PySem.W.Fast.tw15133395188525411606 : True := trivial
theorem PySem.W.Fast.tw12424869256445878264 : True := trivial
theorem PySem.W.Fast.tw8591677201303416082 : True := trivial
theorem PySem.W.Fast.tw869485149311519992 : True := trivial
theorem PySem.W.Fast.tw11842035527953665175 : True := trivial
theorem PySem.W.Fast.tw4000357790098779547 : True := trivial
theorem PySem.W.Fast.tw7868722976364595645 : True := trivial
theorem PySem.W.Fast.tw12994311679790403672 : True := trivial
theorem PySem.W.Fast.tw172624922331336695 : True := trivial
theorem PySem.W.Fast.tw6250807094724990341 : True := trivial
theorem PySem.W.Fast.tw11125693056529681731 : True := trivial
theorem PySem.W.Fast.tw14623270565559839967 : True := trivial
theorem PySem.W.Fast.tw2454470703992446308 : True := trivial
theorem PySem.W.Fast.tw9914880656689566698 : True := trivial
theorem PySem.W.Fast.tw13980953372301363306 : True := trivial
theorem PySem.W.Fast.tw16289156937482081894 : True := trivial
theorem PySem.W.Fast.tw10890447613523684820 : True := trivial
theorem PySem.W.Fast.tw4468205533874494570 : True := trivial
theorem PySem.W.Fast.tw13538569490916073277 : True := trivial
theorem PySem.W.Fast.tw10573533161915471059 : True := trivial
theorem PySem.W.Fast.tw6923336313070449520 : True := trivial
theorem PySem.W.Fast.tw6229563112862400787 : True := trivial
theorem PySem.W.Fast.tw7191581028122070045 : True := trivial
theorem PySem.W.Fast.tw14785764887493134204 : True := trivial
theorem PySem.W.Fast.tw12369681858704727552 : True := trivial
theorem PySem.W.Fast.tw4235543780439655582 : True := trivial
theorem PySem.W.Fast.tw3911446903421887631 : True := trivial
theorem PySem.W.Fast.tw4353709441006152774 : True := trivial
theorem PySem.W.Fast.tw12582474523820244359 : True := trivial
theorem PySem.W.Fast.tw5175009494951019304 : True := trivial
theorem PySem.W.Fast.tw4669816612945909068 : True := trivial
theorem PySem.W.Fast.tw18062741067389507158 : True := trivial
theorem PySem.W.Fast.tw12144234111093210099 : True := trivial
theorem PySem.W.Fast.tw2301899116787022761 : True := trivial
theorem PySem.W.Fast.tw7006729358385904756 : True := trivial
theorem PySem.W.Fast.tw11964818644634343766 : True := trivial
theorem PySem.W.Fast.tw8715773035552156813 : True := trivial
theorem PySem.W.Fast.tw16758074566823724389 : True := trivial
theorem PySem.W.Fast.tw12371233261925145997 : True := trivial
theorem PySem.W.Fast.tw9084775514457747920 : True := trivial
theorem PySem.W.Fast.tw7168522586188130833 : True := trivial
theorem PySem.W.Fast.tw5230908960908638721 : True := trivial
theorem PySem.W.Fast.tw2716270558990863369 : True := trivial
theorem PySem.W.Fast.tw10799196682629730655 : True := trivial
theorem PySem.W.Fast.tw7489330107406557911 : True := trivial
theorem PySem.W.Fast.tw4019269734504862950 : True := trivial
theorem PySem.W.Fast.tw4010816328145531355 : True := trivial
theorem PySem.W.Fast.tw16933398739843801206 : True := trivial
theorem PySem.W.Fast.tw9455828012292619913 : True := trivial
theorem PySem.W.Fast.tw2769755779766509904 : True := trivial
theorem PySem.W.Fast.tw11555037532493835470 : True := trivial
theorem PySem.W.Fast.tw9753409034169672784 : True := trivial
theorem PySem.W.Fast.tw14787146479264714463 : True := trivial
theorem PySem.W.Fast.tw2539984070936373455 : True := trivial
theorem PySem.W.Fast.tw12498093384157861476 : True := trivial
theorem PySem.W.Fast.tw16860301035136776417 : True := trivial
theorem PySem.W.Fast.tw1992480665497875260 : True := trivial
theorem PySem.W.Fast.tw13776578829316596334 : True := trivial
theorem PySem.W.Fast.tw7828768241649803235 : True := trivial
theorem PySem.W.Fast.tw290523941733758323 : True := trivial
theorem PySem.W.Fast.tw14343664115578148787 : True := trivial
theorem PySem.W.Fast.tw14110357410102969583 : True := trivial
theorem PySem.W.Fast.tw4795296788075986589 : True := trivial
theorem PySem.W.Fast.tw17989620256205633727 : True := trivial
theorem PySem.W.Fast.tw15847726065917120352 : True := trivial
theorem PySem.W.Fast.tw5612537534497819654 : True := trivial
theorem PySem.W.Fast.tw11837847335316386494 : True := trivial
theorem PySem.W.Fast.tw10019318546076991654 : True := trivial
theorem PySem.W.Fast.tw10221963263667893951 : True := trivial
theorem PySem.W.Fast.tw11628599189316463380 : True := trivial
theorem PySem.W.Fast.tw10726834109520424117 : True := trivial
theorem PySem.W.Fast.tw7450873657522736123 : True := trivial
theorem PySem.W.Fast.tw8513913473308001432 : True := trivial
theorem PySem.W.Fast.tw14962295716265994865 : True := trivial
theorem PySem.W.Fast.tw9708000358776998179 : True := trivial
theorem PySem.W.Fast.tw7356477436907441574 : True := trivial
theorem PySem.W.Fast.tw7308622644045007065 : True := trivial
theorem PySem.W.Fast.tw14224055937849193198 : True := trivial
theorem PySem.W.Fast.tw6985457317342958469 : True := trivial
theorem PySem.W.Fast.tw9519442548747142311 : True := trivial
theorem PySem.W.Fast.tw2079762805436699256 : True := trivial
theorem PySem.W.Fast.tw763349005914259018 : True := trivial
theorem PySem.W.Fast.tw7012160701596806118 : True := trivial
theorem PySem.W.Fast.tw6473599445137237111 : True := trivial
theorem PySem.W.Fast.tw1899256907871433193 : True := trivial
theorem PySem.W.Fast.tw4642689502753877488 : True := trivial
theorem PySem.W.Fast.tw2901347034564066340 : True := trivial
theorem PySem.W.Fast.tw17056723701954415472 : True := trivial
theorem PySem.W.Fast.tw4213427372233582019 : True := trivial
theorem PySem.W.Fast.tw3108070029443392177 : True := trivial
theorem PySem.W.Fast.tw17195902877605131398 : True := trivial
theorem PySem.W.Fast.tw10103341596538987792 : True := trivial
theorem PySem.W.Fast.tw13629688480255957712 : True := trivial
theorem PySem.W.Fast.tw11459118709864148062 : True := trivial
theorem PySem.W.Fast.tw2396459292130038403 : True := trivial
theorem PySem.W.Fast.tw7986674544727544778 : True := trivial
theorem PySem.W.Fast.tw18386417601143660285 : True := trivial
theorem PySem.W.Fast.tw8447339399857786260 : True := trivial
theorem PySem.W.Fast.tw16012254839425988493 : True := trivial
theorem PySem.W.Fast.tw8821075905707678881 : True := trivial
theorem PySem.W.Fast.tw11027257728337402346 : True := trivial
theorem PySem.W.Fast.tw2918567533649908899 : True := trivial
theorem PySem.W.Fast.tw16976354733960305219 : True := trivial
theorem PySem.W.Fast.tw16895144913314001126 : True := trivial
theorem PySem.W.Fast.tw10935968244347397455 : True := trivial
theorem PySem.W.Fast.tw6148635259239712235 : True := trivial
theorem PySem.W.Fast.tw839145915197166895 : True := trivial
theorem PySem.W.Fast.tw15182670776482359223 : True := trivial
theorem PySem.W.Fast.tw10921389920532696554 : True := trivial
theorem PySem.W.Fast.tw6548577791500435207 : True := trivial
theorem PySem.W.Fast.tw3460120259082779551 : True := trivial
theorem PySem.W.Fast.tw3133591274316995401 : True := trivial
theorem PySem.W.Fast.tw136720657729948853 : True := trivial
theorem PySem.W.Fast.tw18410655724651504841 : True := trivial
theorem PySem.W.Fast.tw1618028817999326104 : True := trivial
theorem PySem.W.Fast.tw12147464289789963492 : True := trivial
theorem PySem.W.Fast.tw17072122261351922285 : True := trivial
theorem PySem.W.Fast.tw3636478810219354842 : True := trivial
theorem PySem.W.Fast.tw7884835662883667138 : True := trivial
theorem PySem.W.Fast.tw102372770901354579 : True := trivial
theorem PySem.W.Fast.tw10341824713514965613 : True := trivial
theorem PySem.W.Fast.tw9984461563872639883 : True := trivial
theorem PySem.W.Fast.tw12641781210006570205 : True := trivial
theorem PySem.W.Fast.tw14757944016604722140 : True := trivial
theorem PySem.W.Fast.tw11491008445656913545 : True := trivial
theorem PySem.W.Fast.tw9416607794469524257 : True := trivial
theorem PySem.W.Fast.tw9983213520874483386 : True := trivial
theorem PySem.W.Fast.tw7713636799752624103 : True := trivial
theorem PySem.W.Fast.tw9850739563777604398 : True := trivial
theorem PySem.W.Fast.tw2454926414710736678 : True := trivial
theorem PySem.W.Fast.tw15233326175974859317 : True := trivial
theorem PySem.W.Fast.tw9156300266006103932 : True := trivial
theorem PySem.W.Fast.tw665699218823464120 : True := trivial
theorem PySem.W.Fast.tw5081851905598140425 : True := trivial
theorem PySem.W.Fast.tw15545353323368115661 : True := trivial
theorem PySem.W.Fast.tw17483908621786909802 : True := trivial
theorem PySem.W.Fast.tw15227190901647384287 : True := trivial
theorem PySem.W.Fast.tw7579692265305720113 : True := trivial
theorem PySem.W.Fast.tw15039180739625093969 : True := trivial
theorem PySem.W.Fast.tw12720903564544858783 : True := trivial
theorem PySem.W.Fast.tw13072839762437939870 : True := trivial
theorem PySem.W.Fast.tw17233650967805933794 : True := trivial
theorem PySem.W.Fast.tw6058143749221825848 : True := trivial
theorem PySem.W.Fast.tw9597835818248370672 : True := trivial
theorem PySem.W.Fast.tw8045197922660114085 : True := trivial
theorem PySem.W.Fast.tw9720006361346347584 : True := trivial
theorem PySem.W.Fast.tw16291462100609658721 : True := trivial
theorem PySem.W.Fast.tw13752183150906825083 : True := trivial
theorem PySem.W.Fast.tw2453206242221713464 : True := trivial
theorem PySem.W.Fast.tw5194002338009839896 : True := trivial
theorem PySem.W.Fast.tw7540224127993119282 : True := trivial
theorem PySem.W.Fast.tw10448080205321056730 : True := trivial
theorem PySem.W.Fast.tw17345251017793696137 : True := trivial
theorem PySem.W.Fast.tw15425835203137000925 : True := trivial
theorem PySem.W.Fast.tw15169446183338932828 : True := trivial
theorem PySem.W.Fast.tw1301296371690835628 : True := trivial
theorem PySem.W.Fast.tw3679624835307497951 : True := trivial
theorem PySem.W.Fast.tw10151961175694611232 : True := trivial
theorem PySem.W.Fast.tw13923953650702883134 : True := trivial
theorem PySem.W.Fast.tw291150030683203344 : True := trivial
theorem PySem.W.Fast.tw12222634230202339114 : True := trivial
theorem PySem.W.Fast.tw1809997299195984773 : True := trivial
theorem PySem.W.Fast.tw13721733257609422607 : True := trivial
theorem PySem.W.Fast.tw5941154019594603079 : True := trivial
theorem PySem.W.Fast.tw13507395310351935099 : True := trivial
theorem PySem.W.Fast.tw13386769660252378382 : True := trivial
theorem PySem.W.Fast.tw4641237741660273915 : True := trivial
theorem PySem.W.Fast.tw2679766674755437136 : True := trivial
theorem PySem.W.Fast.tw10958795221424301294 : True := trivial
theorem PySem.W.Fast.tw392525475904560040 : True := trivial
theorem PySem.W.Fast.tw10255650718431392675 : True := trivial
theorem PySem.W.Fast.tw16757623366871389745 : True := trivial
theorem PySem.W.Fast.tw14902272429865906758 : True := trivial
theorem PySem.W.Fast.tw11057608744965328809 : True := trivial
theorem PySem.W.Fast.tw6751259515266175796 : True := trivial
theorem PySem.W.Fast.tw10480642278399356541 : True := trivial
theorem PySem.W.Fast.tw16026885320992906464 : True := trivial
theorem PySem.W.Fast.tw6098620034301199917 : True := trivial
theorem PySem.W.Fast.tw12905176363777177112 : True := trivial
theorem PySem.W.Fast.tw40686071561839728 : True := trivial
theorem PySem.W.Fast.tw11522004195698517141 : True := trivial
theorem PySem.W.Fast.tw4962110512171177216 : True := trivial
theorem PySem.W.Fast.tw11752686554763493103 : True := trivial
theorem PySem.W.Fast.tw3072982365482299957 : True := trivial
theorem PySem.W.Fast.tw3516259382386668177 : True := trivial
theorem PySem.W.Fast.tw16619432272567193349 : True := trivial
theorem PySem.W.Fast.tw2215016414062735034 : True := trivial
theorem PySem.W.Fast.tw13386282765983247110 : True := trivial
theorem PySem.W.Fast.tw14362475800420056127 : True := trivial
theorem PySem.W.Fast.tw17055072390363912622 : True := trivial
theorem PySem.W.Fast.tw9894754209791086715 : True := trivial
theorem PySem.W.Fast.tw4590774460185097 : True := trivial
theorem PySem.W.Fast.tw548130155290686488 : True := trivial
theorem PySem.W.Fast.tw15579596688083055937 : True := trivial
theorem PySem.W.Fast.tw14305370501536959519 : True := trivial
theorem PySem.W.Fast.tw17395601605707675672 : True := trivial
theorem PySem.W.Fast.tw4932000108947028030 : True := trivial
theorem PySem.W.Fast.tw17788898969824790737 : True := trivial
theorem PySem.W.Fast.tw2345838232397124616 : True := trivial
theorem PySem.W.Fast.tw12863693692674047392 : True := trivial
theorem PySem.W.Fast.tw11352197572025724727 : True := trivial
theorem PySem.W.Fast.tw15652293163411117574 : True := trivial
theorem PySem.W.Fast.tw1119834111757454056 : True := trivial
theorem PySem.W.Fast.tw5246442225520856858 : True := trivial
theorem PySem.W.Fast.tw1988604542459708885 : True := trivial
theorem PySem.W.Fast.tw7322271128476306217 : True := trivial
theorem PySem.W.Fast.tw14596598508593668702 : True := trivial
theorem PySem.W.Fast.tw2681099736647742748 : True := trivial
theorem PySem.W.Fast.tw11959364612624063033 : True := trivial
theorem PySem.W.Fast.tw5421514885674610735 : True := trivial
theorem PySem.W.Fast.tw4168432210028473186 : True := trivial
theorem PySem.W.Fast.tw11468796925846938707 : True := trivial
theorem PySem.W.Fast.tw16874400352629931409 : True := trivial
theorem PySem.W.Fast.tw16418456719013508481 : True := trivial
theorem PySem.W.Fast.tw17628863467214966351 : True := trivial
theorem PySem.W.Fast.tw6067826748544441817 : True := trivial
theorem PySem.W.Fast.tw1693777531645214185 : True := trivial
theorem PySem.W.Fast.tw967460401324455297 : True := trivial
theorem PySem.W.Fast.tw14282309481017410329 : True := trivial
theorem PySem.W.Fast.tw16845865588437895917 : True := trivial
theorem PySem.W.Fast.tw16463873751892226017 : True := trivial
theorem PySem.W.Fast.tw11510797871866524012 : True := trivial
theorem PySem.W.Fast.tw13284756058466354251 : True := trivial
theorem PySem.W.Fast.tw12047321996251756710 : True := trivial
theorem PySem.W.Fast.tw12898386155613253159 : True := trivial
theorem PySem.W.Fast.tw9367518318594791896 : True := trivial
theorem PySem.W.Fast.tw17156366333513733794 : True := trivial
theorem PySem.W.Fast.tw11467632759870309887 : True := trivial
theorem PySem.W.Fast.tw10879726155594425083 : True := trivial
theorem PySem.W.Fast.tw10039632963741630858 : True := trivial
theorem PySem.W.Fast.tw13577954329107061988 : True := trivial
theorem PySem.W.Fast.tw2728238850208406620 : True := trivial
theorem PySem.W.Fast.tw11237857463822336539 : True := trivial
theorem PySem.W.Fast.tw17539368542864116483 : True := trivial
theorem PySem.W.Fast.tw14641659997437904675 : True := trivial
theorem PySem.W.Fast.tw9730085474521466431 : True := trivial
theorem PySem.W.Fast.tw3652909000718577487 : True := trivial
theorem PySem.W.Fast.tw9181434232159730552 : True := trivial
theorem PySem.W.Fast.tw7617865209815510499 : True := trivial
theorem PySem.W.Fast.tw7436410225054423441 : True := trivial
theorem PySem.W.Fast.tw15094480050888938701 : True := trivial
theorem PySem.W.Fast.tw3193166411935266021 : True := trivial
theorem PySem.W.Fast.tw5919228248112168157 : True := trivial
theorem PySem.W.Fast.tw15975310821163880595 : True := trivial
theorem PySem.W.Fast.tw4502420031509414450 : True := trivial
theorem PySem.W.Fast.tw12931203170212254989 : True := trivial
theorem PySem.W.Fast.tw1021915890098301954 : True := trivial
theorem PySem.W.Fast.tw11225603339122281907 : True := trivial
theorem PySem.W.Fast.tw17243407606142375449 : True := trivial
theorem PySem.W.Fast.tw15384553356992091594 : True := trivial
theorem PySem.W.Fast.tw16562269027319207177 : True := trivial
theorem PySem.W.Fast.tw13490556983109944184 : True := trivial
theorem PySem.W.Fast.tw13800787832600030034 : True := trivial
theorem PySem.W.Fast.tw3482091025936457118 : True := trivial
theorem PySem.W.Fast.tw17613222505234839354 : True := trivial
theorem PySem.W.Fast.tw238723369668789821 : True := trivial
theorem PySem.W.Fast.tw13155205626995958812 : True := trivial
theorem PySem.W.Fast.tw6286160647346679033 : True := trivial
theorem PySem.W.Fast.tw18137758494139485739 : True := trivial
theorem PySem.W.Fast.tw11208961257459666224 : True := trivial
theorem PySem.W.Fast.tw5544839922758367972 : True := trivial
theorem PySem.W.Fast.tw2071715578383361926 : True := trivial
theorem PySem.W.Fast.tw6793322208276617250 : True := trivial
theorem PySem.W.Fast.tw3815823517565935634 : True := trivial
theorem PySem.W.Fast.tw17141344907221145250 : True := trivial
theorem PySem.W.Fast.tw1038741186718280011 : True := trivial
theorem PySem.W.Fast.tw10193500135228615076 : True := trivial
theorem PySem.W.Fast.tw18398791700043040123 : True := trivial
theorem PySem.W.Fast.tw10196937245358888385 : True := trivial
theorem PySem.W.Fast.tw7281603941523354390 : True := trivial
theorem PySem.W.Fast.tw2121378356685711749 : True := trivial
theorem PySem.W.Fast.tw4772024865517095866 : True := trivial
theorem PySem.W.Fast.tw770514271965783466 : True := trivial
theorem PySem.W.Fast.tw8654464072333270309 : True := trivial
theorem PySem.W.Fast.tw2840105330782410036 : True := trivial
theorem PySem.W.Fast.tw16791795851596701200 : True := trivial
theorem PySem.W.Fast.tw10333871586279160209 : True := trivial
theorem PySem.W.Fast.tw14405418038375818055 : True := trivial
theorem PySem.W.Fast.tw1789535632760205854 : True := trivial
theorem PySem.W.Fast.tw15893551867054145181 : True := trivial
theorem PySem.W.Fast.tw1762038831426739099 : True := trivial
theorem PySem.W.Fast.tw12359898343521396301 : True := trivial
theorem PySem.W.Fast.tw18275106162628999128 : True := trivial
theorem PySem.W.Fast.tw5691644108020390455 : True := trivial
theorem PySem.W.Fast.tw13875876132702585920 : True := trivial
theorem PySem.W.Fast.tw591892504883969769 : True := trivial
theorem PySem.W.Fast.tw17379042083227653349 : True := trivial
theorem PySem.W.Fast.tw410254593307821330 : True := trivial
theorem PySem.W.Fast.tw10058651495158694853 : True := trivial
theorem PySem.W.Fast.tw11273880603625333804 : True := trivial
theorem PySem.W.Fast.tw12576018084817074059 : True := trivial
theorem PySem.W.Fast.tw9873429995323499157 : True := trivial
theorem PySem.W.Fast.tw4362119136645584091 : True := trivial
theorem PySem.W.Fast.tw2482563431649945316 : True := trivial
theorem PySem.W.Fast.tw1436933363179396839 : True := trivial
theorem PySem.W.Fast.tw8376311124859955255 : True := trivial
theorem PySem.W.Fast.tw4603971485601323565 : True := trivial
theorem PySem.W.Fast.tw11391383006516516052 : True := trivial
theorem PySem.W.Fast.tw15194233222513149640 : True := trivial
theorem PySem.W.Fast.tw15031195987104700861 : True := trivial
theorem PySem.W.Fast.tw16622332980797292514 : True := trivial
theorem PySem.W.Fast.tw11058842901485236217 : True := trivial
theorem PySem.W.Fast.tw7896980074042434462 : True := trivial
theorem PySem.W.Fast.tw16145897060669796946 : True := trivial
theorem PySem.W.Fast.tw16907806399556782995 : True := trivial
theorem PySem.W.Fast.tw3917076774289782159 : True := trivial
theorem PySem.W.Fast.tw5473172602498207755 : True := trivial
theorem PySem.W.Fast.tw12933218445049651890 : True := trivial
theorem PySem.W.Fast.tw5651015148853514625 : True := trivial
theorem PySem.W.Fast.tw9321183853459225163 : True := trivial
theorem PySem.W.Fast.tw15702505913243812238 : True := trivial
theorem PySem.W.Fast.tw6117863086682431462 : True := trivial
theorem PySem.W.Fast.tw17536155432825983849 : True := trivial
theorem PySem.W.Fast.tw9760740414528912063 : True := trivial
theorem PySem.W.Fast.tw984867457747092107 : True := trivial
theorem PySem.W.Fast.tw305572774061926342 : True := trivial
theorem PySem.W.Fast.tw7227162544821636824 : True := trivial
theorem PySem.W.Fast.tw2165550980052242920 : True := trivial
theorem PySem.W.Fast.tw10493561171937490110 : True := trivial
theorem PySem.W.Fast.tw3694411361264018287 : True := trivial
theorem PySem.W.Fast.tw4884761341121779535 : True := trivial
theorem PySem.W.Fast.tw6406083734066616980 : True := trivial
theorem PySem.W.Fast.tw5036099147165640690 : True := trivial
theorem PySem.W.Fast.tw16155853444648112171 : True := trivial
theorem PySem.W.Fast.tw5312347550711453851 : True := trivial
theorem PySem.W.Fast.tw13775146258359559393 : True := trivial
theorem PySem.W.Fast.tw18348747321525651233 : True := trivial
theorem PySem.W.Fast.tw4169218994280600680 : True := trivial
theorem PySem.W.Fast.tw785023078185902217 : True := trivial
theorem PySem.W.Fast.tw1996246813425607800 : True := trivial
theorem PySem.W.Fast.tw14989670793069356709 : True := trivial
theorem PySem.W.Fast.tw6462846036015601060 : True := trivial
theorem PySem.W.Fast.tw17801542643894889981 : True := trivial
theorem PySem.W.Fast.tw7197194880236758435 : True := trivial
theorem PySem.W.Fast.tw12319253943092692548 : True := trivial
theorem PySem.W.Fast.tw1591600483318350333 : True := trivial
theorem PySem.W.Fast.tw6335635046381539893 : True := trivial
theorem PySem.W.Fast.tw4667811690901693386 : True := trivial
theorem PySem.W.Fast.tw6721487363209166782 : True := trivial
theorem PySem.W.Fast.tw15443735290894675278 : True := trivial
theorem PySem.W.Fast.tw1214305389539967302 : True := trivial
theorem PySem.W.Fast.tw13013006359309891227 : True := trivial
theorem PySem.W.Fast.tw14011559840962521984 : True := trivial
theorem PySem.W.Fast.tw3054465322068512910 : True := trivial
theorem PySem.W.Fast.tw17030114139736330922 : True := trivial
theorem PySem.W.Fast.tw14677508220505795026 : True := trivial
theorem PySem.W.Fast.tw11494586341306526371 : True := trivial
theorem PySem.W.Fast.tw9851580325659929280 : True := trivial
theorem PySem.W.Fast.tw13874829104731918401 : True := trivial
theorem PySem.W.Fast.tw16600390995271355460 : True := trivial
theorem PySem.W.Fast.tw7441783473681393083 : True := trivial
theorem PySem.W.Fast.tw15645435539667320743 : True := trivial
theorem PySem.W.Fast.tw7532273451942049124 : True := trivial
theorem PySem.W.Fast.tw12382405097096471030 : True := trivial
theorem PySem.W.Fast.tw5228216942195119211 : True := trivial
theorem PySem.W.Fast.tw14544903806783775181 : True := trivial
theorem PySem.W.Fast.tw12706687734135438624 : True := trivial
theorem PySem.W.Fast.tw1210745779218285400 : True := trivial
theorem PySem.W.Fast.tw13471920663184195238 : True := trivial
theorem PySem.W.Fast.tw8500304658673444796 : True := trivial
theorem PySem.W.Fast.tw11498758116782824561 : True := trivial
theorem PySem.W.Fast.tw1354130828685549310 : True := trivial
theorem PySem.W.Fast.tw288331786572327202 : True := trivial
theorem PySem.W.Fast.tw17620965351287868309 : True := trivial
theorem PySem.W.Fast.tw18268074470765404671 : True := trivial
theorem PySem.W.Fast.tw61240625941008938 : True := trivial
theorem PySem.W.Fast.tw9678286255111776683 : True := trivial
theorem PySem.W.Fast.tw8713287442753741288 : True := trivial
theorem PySem.W.Fast.tw2392092930483287526 : True := trivial
theorem PySem.W.Fast.tw4428509292373950539 : True := trivial
theorem PySem.W.Fast.tw14334408451503026407 : True := trivial
theorem PySem.W.Fast.tw10502704141988151455 : True := trivial
theorem PySem.W.Fast.tw6746479629141533061 : True := trivial
theorem PySem.W.Fast.tw14975902280152825862 : True := trivial
theorem PySem.W.Fast.tw8439014879863367569 : True := trivial
theorem PySem.W.Fast.tw8359420050381328384 : True := trivial
theorem PySem.W.Fast.tw2819550412394847779 : True := trivial
theorem PySem.W.Fast.tw16776882131660371292 : True := trivial
theorem PySem.W.Fast.tw13853351907191943576 : True := trivial
theorem PySem.W.Fast.tw16597527794513031363 : True := trivial
theorem PySem.W.Fast.tw13286592453569178778 : True := trivial
theorem PySem.W.Fast.tw2038898164305948871 : True := trivial
theorem PySem.W.Fast.tw3438346342954516058 : True := trivial
theorem PySem.W.Fast.tw15034799850213392159 : True := trivial
theorem PySem.W.Fast.tw3795032665810571199 : True := trivial
theorem PySem.W.Fast.tw5794206403687381923 : True := trivial
theorem PySem.W.Fast.tw2284928230084052956 : True := trivial
theorem PySem.W.Fast.tw11654882830912377841 : True := trivial
theorem PySem.W.Fast.tw1457360194518184946 : True := trivial
theorem PySem.W.Fast.tw6048103810702304030 : True := trivial
theorem PySem.W.Fast.tw552806174005624194 : True := trivial
theorem PySem.W.Fast.tw10119850731767285650 : True := trivial
theorem PySem.W.Fast.tw10216038870943808839 : True := trivial
theorem PySem.W.Fast.tw11857509858883355145 : True := trivial
theorem PySem.W.Fast.tw250068522396938385 : True := trivial
theorem PySem.W.Fast.tw3504410177089936382 : True := trivial
theorem PySem.W.Fast.tw9650817250776111497 : True := trivial
theorem PySem.W.Fast.tw4662261995364729317 : True := trivial
theorem PySem.W.Fast.tw7057838065668068043 : True := trivial
theorem PySem.W.Fast.tw8630645371890876683 : True := trivial
theorem PySem.W.Fast.tw9641845212248699595 : True := trivial
theorem PySem.W.Fast.tw9803725981356252624 : True := trivial
theorem PySem.W.Fast.tw2922891468181705103 : True := trivial
theorem PySem.W.Fast.tw14541093424405688533 : True := trivial
theorem PySem.W.Fast.tw15134938396509343562 : True := trivial
theorem PySem.W.Fast.tw14196708532983839427 : True := trivial
theorem PySem.W.Fast.tw13388475937709214725 : True := trivial
theorem PySem.W.Fast.tw286642032355575272 : True := trivial
theorem PySem.W.Fast.tw2274547193969182005 : True := trivial
theorem PySem.W.Fast.tw5536737100940816125 : True := trivial
theorem PySem.W.Fast.tw14696134852390951169 : True := trivial
theorem PySem.W.Fast.tw13569850396807475070 : True := trivial
theorem PySem.W.Fast.tw10343747565990278973 : True := trivial
theorem PySem.W.Fast.tw13266542868367416931 : True := trivial
theorem PySem.W.Fast.tw7651703932851410133 : True := trivial
theorem PySem.W.Fast.tw16529451987501558369 : True := trivial
theorem PySem.W.Fast.tw6764397335870828926 : True := trivial
theorem PySem.W.Fast.tw10625683298958274414 : True := trivial
theorem PySem.W.Fast.tw14325720334329361467 : True := trivial
theorem PySem.W.Fast.tw13980017787079674399 : True := trivial
theorem PySem.W.Fast.tw11332546001552008444 : True := trivial
theorem PySem.W.Fast.tw725213129985836481 : True := trivial
theorem PySem.W.Fast.tw14866445283814204165 : True := trivial
theorem PySem.W.Fast.tw9054872607335226937 : True := trivial
theorem PySem.W.Fast.tw2734865079283231806 : True := trivial
theorem PySem.W.Fast.tw370116426167950172 : True := trivial
theorem PySem.W.Fast.tw17885995187702202206 : True := trivial
theorem PySem.W.Fast.tw15020298826681271446 : True := trivial
theorem PySem.W.Fast.tw11952718690933884633 : True := trivial
theorem PySem.W.Fast.tw16257857257111941670 : True := trivial
theorem PySem.W.Fast.tw8333037369273490497 : True := trivial
theorem PySem.W.Fast.tw14627005960871261826 : True := trivial
theorem PySem.W.Fast.tw16206272355975558608 : True := trivial
theorem PySem.W.Fast.tw714353707507979954 : True := trivial
theorem PySem.W.Fast.tw948496600772995971 : True := trivial
theorem PySem.W.Fast.tw13777363409309252180 : True := trivial
theorem PySem.W.Fast.tw6738904495077451989 : True := trivial
theorem PySem.W.Fast.tw248328715430635447 : True := trivial
theorem PySem.W.Fast.tw125006230479937867 : True := trivial
theorem PySem.W.Fast.tw153966081758098055 : True := trivial
theorem PySem.W.Fast.tw14031935191924769013 : True := trivial
theorem PySem.W.Fast.tw13290098606609114323 : True := trivial
theorem PySem.W.Fast.tw8814634551699330805 : True := trivial
theorem PySem.W.Fast.tw11137078224929139649 : True := trivial
theorem PySem.W.Fast.tw15219388616937205780 : True := trivial
theorem PySem.W.Fast.tw3506558255277810257 : True := trivial
theorem PySem.W.Fast.tw10095345654325366384 : True := trivial
theorem PySem.W.Fast.tw7564431109839056074 : True := trivial
theorem PySem.W.Fast.tw16261424043683474499 : True := trivial
theorem PySem.W.Fast.tw7782989020265428521 : True := trivial
theorem PySem.W.Fast.tw18227868921522595844 : True := trivial
theorem PySem.W.Fast.tw1638977784061442089 : True := trivial
theorem PySem.W.Fast.tw17493483414149953752 : True := trivial
theorem PySem.W.Fast.tw11626588520757476108 : True := trivial
theorem PySem.W.Fast.tw2057541333757986150 : True := trivial
theorem PySem.W.Fast.tw10855755343695442484 : True := trivial
theorem PySem.W.Fast.tw11675544654092891851 : True := trivial
theorem PySem.W.Fast.tw3417113366266973329 : True := trivial
theorem PySem.W.Fast.tw13596839596256822849 : True := trivial
theorem PySem.W.Fast.tw1917988653967824035 : True := trivial
theorem PySem.W.Fast.tw10580454681327919411 : True := trivial
theorem PySem.W.Fast.tw5072607386816265795 : True := trivial
theorem PySem.W.Fast.tw14695610616710053267 : True := trivial
theorem PySem.W.Fast.tw12386075872984565990 : True := trivial
theorem PySem.W.Fast.tw5107314644931922872 : True := trivial
theorem PySem.W.Fast.tw15152464729413559908 : True := trivial
theorem PySem.W.Fast.tw895630934063721639 : True := trivial
theorem PySem.W.Fast.tw7212224300447227738 : True := trivial
theorem PySem.W.Fast.tw3401349113843720628 : True := trivial
theorem PySem.W.Fast.tw16053508409711720971 : True := trivial
theorem PySem.W.Fast.tw743665732494151677 : True := trivial
theorem PySem.W.Fast.tw9631870092669282535 : True := trivial
theorem PySem.W.Fast.tw17920507912452750867 : True := trivial
theorem PySem.W.Fast.tw863557565457917049 : True := trivial
theorem PySem.W.Fast.tw4542151514220256678 : True := trivial
theorem PySem.W.Fast.tw7267117915210092031 : True := trivial
theorem PySem.W.Fast.tw7807320315347163528 : True := trivial
theorem PySem.W.Fast.tw14985327286156789932 : True := trivial
theorem PySem.W.Fast.tw14467651092061203471 : True := trivial
theorem PySem.W.Fast.tw13019987913457793311 : True := trivial
theorem PySem.W.Fast.tw3247938278540902840 : True := trivial
theorem PySem.W.Fast.tw16599774412417859782 : True := trivial
theorem PySem.W.Fast.tw3333503511081816438 : True := trivial
theorem PySem.W.Fast.tw5912686457651562234 : True := trivial
theorem PySem.W.Fast.tw10260146585039212970 : True := trivial
theorem PySem.W.Fast.tw8914070305892368327 : True := trivial
theorem PySem.W.Fast.tw10021050689901485530 : True := trivial
theorem PySem.W.Fast.tw4307345787939716615 : True := trivial
theorem PySem.W.Fast.tw10484296515216086283 : True := trivial
theorem PySem.W.Fast.tw3637305964376908888 : True := trivial
theorem PySem.W.Fast.tw10644372517598622521 : True := trivial
theorem PySem.W.Fast.tw5365386356748299153 : True := trivial
theorem PySem.W.Fast.tw2751416896687312640 : True := trivial
theorem PySem.W.Fast.tw17280342009677340809 : True := trivial
theorem PySem.W.Fast.tw18259265925143907670 : True := trivial
theorem PySem.W.Fast.tw13870188692118559415 : True := trivial
theorem PySem.W.Fast.tw11624175606177837203 : True := trivial
theorem PySem.W.Fast.tw11640554897499575717 : True := trivial
theorem PySem.W.Fast.tw7392826923336236173 : True := trivial
theorem PySem.W.Fast.tw17019524280033976134 : True := trivial
theorem PySem.W.Fast.tw8014523582956708634 : True := trivial
theorem PySem.W.Fast.tw8288866003884541680 : True := trivial
theorem PySem.W.Fast.tw8259040345490109697 : True := trivial
theorem PySem.W.Fast.tw9853740442057271397 : True := trivial
theorem PySem.W.Fast.tw4508293817072294491 : True := trivial
theorem PySem.W.Fast.tw14995143331157460953 : True := trivial
theorem PySem.W.Fast.tw3776996863816165982 : True := trivial
theorem PySem.W.Fast.tw13273099220217388450 : True := trivial
theorem PySem.W.Fast.tw11751935914953598089 : True := trivial
theorem PySem.W.Fast.tw18092397863010738855 : True := trivial
theorem PySem.W.Fast.tw6374216721262850676 : True := trivial
theorem PySem.W.Fast.tw2956610576837590142 : True := trivial
theorem PySem.W.Fast.tw1771303888257692565 : True := trivial
theorem PySem.W.Fast.tw219913634723916424 : True := trivial
theorem PySem.W.Fast.tw15882865657623773500 : True := trivial
theorem PySem.W.Fast.tw10469400140206604781 : True := trivial
theorem PySem.W.Fast.tw1005752664711260057 : True := trivial
theorem PySem.W.Fast.tw10749838130043060261 : True := trivial
theorem PySem.W.Fast.tw12070743171911759368 : True := trivial
theorem PySem.W.Fast.tw13890578432281137519 : True := trivial
theorem PySem.W.Fast.tw6281719282912651633 : True := trivial
theorem PySem.W.Fast.tw5673110308953447974 : True := trivial
theorem PySem.W.Fast.tw6183759208722031196 : True := trivial
theorem PySem.W.Fast.tw14178732371982155121 : True := trivial
theorem PySem.W.Fast.tw16242483590313590394 : True := trivial
theorem PySem.W.Fast.tw17902353009807003363 : True := trivial
theorem PySem.W.Fast.tw17698653650742436795 : True := trivial
theorem PySem.W.Fast.tw16791470133837818575 : True := trivial
theorem PySem.W.Fast.tw11838573066823377572 : True := trivial
theorem PySem.W.Fast.tw12707431106508732134 : True := trivial
theorem PySem.W.Fast.tw12125351980336632491 : True := trivial
theorem PySem.W.Fast.tw339991282066302791 : True := trivial
theorem PySem.W.Fast.tw11662538711317872277 : True := trivial
theorem PySem.W.Fast.tw14691548537681973753 : True := trivial
theorem PySem.W.Fast.tw8160341978292437537 : True := trivial
theorem PySem.W.Fast.tw13810342547951079531 : True := trivial
theorem PySem.W.Fast.tw7961215654828329523 : True := trivial
theorem PySem.W.Fast.tw6736549807915374983 : True := trivial
theorem PySem.W.Fast.tw8581150128634180845 : True := trivial
theorem PySem.W.Fast.tw3374437920650101421 : True := trivial
theorem PySem.W.Fast.tw11437008011429253646 : True := trivial
theorem PySem.W.Fast.tw7779569979639746792 : True := trivial
theorem PySem.W.Fast.tw13241247639196071010 : True := trivial
theorem PySem.W.Fast.tw15488679699777374675 : True := trivial
theorem PySem.W.Fast.tw6852908346403284974 : True := trivial
theorem PySem.W.Fast.tw13639889817969756649 : True := trivial
theorem PySem.W.Fast.tw15066297470112314675 : True := trivial
theorem PySem.W.Fast.tw1500369467434384041 : True := trivial
theorem PySem.W.Fast.tw15442667726781624911 : True := trivial
theorem PySem.W.Fast.tw17319129896930252239 : True := trivial
theorem PySem.W.Fast.tw15246935363780733519 : True := trivial
theorem PySem.W.Fast.tw17484696991141031730 : True := trivial
theorem PySem.W.Fast.tw6183130876940371859 : True := trivial
theorem PySem.W.Fast.tw18000447934314717630 : True := trivial
theorem PySem.W.Fast.tw14825135616282510924 : True := trivial
theorem PySem.W.Fast.tw5852798021616676350 : True := trivial
theorem PySem.W.Fast.tw909621843119453860 : True := trivial
theorem PySem.W.Fast.tw16085815676091863188 : True := trivial
theorem PySem.W.Fast.tw8071774593047355064 : True := trivial
theorem PySem.W.Fast.tw11774790556632072733 : True := trivial
theorem PySem.W.Fast.tw14033752460756943752 : True := trivial
theorem PySem.W.Fast.tw3277889097860009269 : True := trivial
theorem PySem.W.Fast.tw1864436757320557108 : True := trivial
theorem PySem.W.Fast.tw13290513363207367440 : True := trivial
theorem PySem.W.Fast.tw7724812671668158073 : True := trivial
theorem PySem.W.Fast.tw16762584974296943895 : True := trivial
theorem PySem.W.Fast.tw7709748483186603244 : True := trivial
theorem PySem.W.Fast.tw9368537767738385704 : True := trivial
theorem PySem.W.Fast.tw5776795085835237046 : True := trivial
theorem PySem.W.Fast.tw9736930645284765615 : True := trivial
theorem PySem.W.Fast.tw15798130317690505734 : True := trivial
theorem PySem.W.Fast.tw16962029260878868487 : True := trivial
theorem PySem.W.Fast.tw11170750097671316066 : True := trivial
theorem PySem.W.Fast.tw10379660790560421362 : True := trivial
theorem PySem.W.Fast.tw4238302018004755968 : True := trivial
theorem PySem.W.Fast.tw17133009743122638280 : True := trivial
theorem PySem.W.Fast.tw603641035076405893 : True := trivial
theorem PySem.W.Fast.tw3817909586940316330 : True := trivial
theorem PySem.W.Fast.tw4041621065925723071 : True := trivial
theorem PySem.W.Fast.tw15882493247378647291 : True := trivial
theorem PySem.W.Fast.tw12209126289751886643 : True := trivial
theorem PySem.W.Fast.tw16931857766191262056 : True := trivial
theorem PySem.W.Fast.tw3973148884343984537 : True := trivial
theorem PySem.W.Fast.tw695947866766199034 : True := trivial
theorem PySem.W.Fast.tw877161478947355789 : True := trivial
theorem PySem.W.Fast.tw11703329131663805736 : True := trivial
theorem PySem.W.Fast.tw9873856056108133691 : True := trivial
theorem PySem.W.Fast.tw7051445616795677694 : True := trivial
theorem PySem.W.Fast.tw1100859695373112581 : True := trivial
theorem PySem.W.Fast.tw10475872270075132634 : True := trivial
theorem PySem.W.Fast.tw1240574325814442933 : True := trivial
theorem PySem.W.Fast.tw9114365712632044324 : True := trivial
theorem PySem.W.Fast.tw1629193507539183361 : True := trivial
theorem PySem.W.Fast.tw4917943261859428857 : True := trivial
theorem PySem.W.Fast.tw1472448341048915211 : True := trivial
theorem PySem.W.Fast.tw10724135182881758387 : True := trivial
theorem PySem.W.Fast.tw2257783603876101871 : True := trivial
theorem PySem.W.Fast.tw1736855227471852647 : True := trivial
theorem PySem.W.Fast.tw8658938454254411036 : True := trivial
theorem PySem.W.Fast.tw8231901499318251711 : True := trivial
theorem PySem.W.Fast.tw13767177207712563126 : True := trivial
theorem PySem.W.Fast.tw16184461250612097543 : True := trivial
theorem PySem.W.Fast.tw13272893106667863276 : True := trivial
theorem PySem.W.Fast.tw338097576012704554 : True := trivial
theorem PySem.W.Fast.tw15296632818214381559 : True := trivial
theorem PySem.W.Fast.tw13835868532074338410 : True := trivial
theorem PySem.W.Fast.tw11264668655195317017 : True := trivial
theorem PySem.W.Fast.tw514858998647942684 : True := trivial
theorem PySem.W.Fast.tw10769378884082066341 : True := trivial
theorem PySem.W.Fast.tw2208076232254673549 : True := trivial
theorem PySem.W.Fast.tw8465577803500892680 : True := trivial
theorem PySem.W.Fast.tw432840316960918848 : True := trivial
theorem PySem.W.Fast.tw9288517689179643763 : True := trivial
theorem PySem.W.Fast.tw14882655201748368979 : True := trivial
theorem PySem.W.Fast.tw17743281426239060376 : True := trivial
theorem PySem.W.Fast.tw9640067688894652609 : True := trivial
theorem PySem.W.Fast.tw2376317209794795871 : True := trivial
theorem PySem.W.Fast.tw11514713537443571619 : True := trivial
theorem PySem.W.Fast.tw17954987597233561481 : True := trivial
theorem PySem.W.Fast.tw9632978792464440553 : True := trivial
theorem PySem.W.Fast.tw5526363422251602801 : True := trivial
theorem PySem.W.Fast.tw13870597898507884493 : True := trivial
theorem PySem.W.Fast.tw10078180112636250924 : True := trivial
theorem PySem.W.Fast.tw3835560648208426259 : True := trivial
theorem PySem.W.Fast.tw18185029518534913483 : True := trivial
theorem PySem.W.Fast.tw3245635729805801018 : True := trivial
theorem PySem.W.Fast.tw3811288226156360089 : True := trivial
theorem PySem.W.Fast.tw4315196022353045562 : True := trivial
theorem PySem.W.Fast.tw9700149116212569592 : True := trivial
theorem PySem.W.Fast.tw5893379162971430265 : True := trivial
theorem PySem.W.Fast.tw8870737172539166456 : True := trivial
theorem PySem.W.Fast.tw5800060470702833934 : True := trivial
theorem PySem.W.Fast.tw12668903845767833810 : True := trivial
theorem PySem.W.Fast.tw8533017799247441149 : True := trivial
theorem PySem.W.Fast.tw7601422273228267805 : True := trivial
theorem PySem.W.Fast.tw6147647685744145363 : True := trivial
theorem PySem.W.Fast.tw16444978214427076087 : True := trivial
theorem PySem.W.Fast.tw3189472911114382322 : True := trivial
theorem PySem.W.Fast.tw1040754939151309266 : True := trivial
theorem PySem.W.Fast.tw13446374231976154756 : True := trivial
theorem PySem.W.Fast.tw15116921275234307778 : True := trivial
theorem PySem.W.Fast.tw3230654329897001714 : True := trivial
theorem PySem.W.Fast.tw5933311079889340413 : True := trivial
theorem PySem.W.Fast.tw10217134346099970243 : True := trivial
open PySem PySem.W PyProof.Rows
set_option maxRecDepth 100000 in
set_option maxHeartbeats 0 in
theorem PySem.Challenge.cw_wanehold_k14_wanes_refused_holds : PySem.Challenge.rw_wanehold_k14_wanes_refused.Holds := by
  w_on; o_law; k_head; (case hw => w_witness2)
  k_fill
  first
  | refine Vf.walk_ofG (l := PySem.Challenge.rw_wanehold_k14_wanes_refused) (n := 63) (k := 10) (x := "_law_script") (sp := Pf.sp_law) rfl (by decide) rfl ⟨rfl, by decide, by decide⟩ (fun w h Y => PySem.W.kIn_of Y) (fun _ _ a ns hl hS => ⟨a, ns, rfl, hS, hl, fun _ => rfl⟩) ?F
  | refine Vf.walk_ofG (l := PySem.Challenge.rw_wanehold_k14_wanes_refused) (n := 63) (k := 10) (x := "_law_script") (sp := Pf.sp_law) rfl (by decide) rfl ⟨rfl, by decide, by decide⟩ (fun w h Y => PySem.W.km_in_of Y) (fun _ _ a ns hl hS => ⟨a, ns, rfl, hS, hl, fun _ => rfl⟩) ?F
  case F =>
    intro w mg fa h KX G hmg
    refine' Pf.all_mk KX G hmg ?n_abs ?n_all ?n_bool ?n_enumerate ?n_int ?n_isinstance ?n_len ?n_list ?n_range ?n_repr ?n_tuple ?c_BILLION ?c_MOST_BY ?c_MOST_HEAD ?c_MOST_MOMENT ?c_TAILS ?l_TAILS ?c_WaneError ?xl_WaneError ?xs_WaneError ?xe_WaneError ?xt_WaneError ?xk_WaneError ?xa_WaneError ?xg_WaneError ?xh_WaneError ?xc_WaneError ?xn_WaneError ?xo_WaneError ?xm_WaneError ?xx_WaneError ?xv_WaneError ?c_Wrong ?xl_Wrong ?xs_Wrong ?xe_Wrong ?xt_Wrong ?xk_Wrong ?xa_Wrong ?xg_Wrong ?xh_Wrong ?xc_Wrong ?xn_Wrong ?xo_Wrong ?xm_Wrong ?xx_Wrong ?xv_Wrong ?c_NoText ?xl_NoText ?xs_NoText ?xe_NoText ?xt_NoText ?xk_NoText ?xa_NoText ?xg_NoText ?xh_NoText ?xc_NoText ?xn_NoText ?xo_NoText ?xm_NoText ?xx_NoText ?xv_NoText ?c_TooMany ?xl_TooMany ?xs_TooMany ?xe_TooMany ?xt_TooMany ?xk_TooMany ?xa_TooMany ?xg_TooMany ?xh_TooMany ?xc_TooMany ?xn_TooMany ?xo_TooMany ?xm_TooMany ?xx_TooMany ?xv_TooMany ?c_Wane ?pg_Wane ?hd_Wane ?po_Wane ?sa_Wane ?ic1_Wane ?ic2_Wane ?ic3_Wane ?ic4_Wane ?ty_Wane ?na_Wane__anew ?na_Wane__cap ?na_Wane__head ?na_Wane__lift ?na_Wane__steps ?na_Wane__tail ?m_Wrong___init__ ?l_Wrong___init__ ?h_Wrong___init__ ?k_Wrong___init__ ?m_refuse_wrong ?l_refuse_wrong ?h_refuse_wrong ?k_refuse_wrong ?m_is_whole ?l_is_whole ?h_is_whole ?k_is_whole ?m_is_within ?l_is_within ?h_is_within ?k_is_within ?m_is_strength ?l_is_strength ?h_is_strength ?k_is_strength ?m_is_size ?l_is_size ?h_is_size ?k_is_size ?m_is_moment ?l_is_moment ?h_is_moment ?k_is_moment ?m_is_step ?l_is_step ?h_is_step ?k_is_step ?m_Wane___init__ ?l_Wane___init__ ?h_Wane___init__ ?k_Wane___init__ ?kw_Wane___init___anew ?i_Wane___init__ ?mk_Wane ?kc_Wane ?m_Wane_step ?l_Wane_step ?h_Wane_step ?k_Wane_step ?i_Wane_step ?m_Wane_phase ?l_Wane_phase ?h_Wane_phase ?k_Wane_phase ?i_Wane_phase ?m_Wane_step_behind ?l_Wane_step_behind ?h_Wane_step_behind ?k_Wane_step_behind ?i_Wane_step_behind ?m_Wane_phase_behind ?l_Wane_phase_behind ?h_Wane_phase_behind ?k_Wane_phase_behind ?i_Wane_phase_behind ?m__is_head ?l__is_head ?h__is_head ?k__is_head ?m__is_tail ?l__is_tail ?h__is_tail ?k__is_tail ?m__are_steps ?l__are_steps ?h__are_steps ?k__are_steps ?m__law_bag ?l__law_bag ?h__law_bag ?k__law_bag ?m__law_take ?l__law_take ?h__law_take ?k__law_take ?m__law_steps ?l__law_steps ?h__law_steps ?k__law_steps ?m__law_plan ?l__law_plan ?h__law_plan ?k__law_plan ?m__law_within ?l__law_within ?h__law_within ?k__law_within ?m__law_is_step ?l__law_is_step ?h__law_is_step ?k__law_is_step ?m__law_bent_steps ?l__law_bent_steps ?h__law_bent_steps ?k__law_bent_steps ?m__law_bent ?l__law_bent ?h__law_bent ?k__law_bent ?m__law_due ?l__law_due ?h__law_due ?k__law_due ?m__law_refused ?l__law_refused ?h__law_refused ?k__law_refused ?m__law_told ?l__law_told ?h__law_told ?k__law_told ?m__law_asked ?l__law_asked ?h__law_asked ?k__law_asked ?m_law ?l_law ?h_law ?k_law ?su_WaneError_Wrong ?su_WaneError_NoText ?su_WaneError_TooMany ?ei_WaneError ?su_Wrong_WaneError ?su_Wrong_NoText ?su_Wrong_TooMany ?ot_Wrong ?nf_Wrong ?su_NoText_WaneError ?su_NoText_Wrong ?su_NoText_TooMany ?ei_NoText ?su_TooMany_WaneError ?su_TooMany_Wrong ?su_TooMany_NoText
    (case n_abs => k_is)
    (case n_all => k_is)
    (case n_bool => k_is)
    (case n_enumerate => k_is)
    (case n_int => k_is)
    (case n_isinstance => k_is)
    (case n_len => k_is)
    (case n_list => k_is)
    (case n_range => k_is)
    (case n_repr => k_is)
    (case n_tuple => k_is)
    (case c_BILLION => k_is)
    (case c_MOST_BY => k_is)
    (case c_MOST_HEAD => k_is)
    (case c_MOST_MOMENT => k_is)
    (case c_TAILS => k_is)
    (case l_TAILS => k_is)
    (case c_WaneError => k_is)
    (case xl_WaneError => k_is)
    (case xs_WaneError => k_is)
    (case xe_WaneError => k_is)
    (case xt_WaneError => k_is)
    (case xk_WaneError => k_is)
    (case xa_WaneError => k_is)
    (case xg_WaneError => k_is)
    (case xh_WaneError => k_is)
    (case xc_WaneError => k_is)
    (case xn_WaneError => k_is)
    (case xo_WaneError => k_is)
    (case xm_WaneError => k_is)
    (case xx_WaneError => k_is)
    (case xv_WaneError => k_is)
    (case c_Wrong => k_is)
    (case xl_Wrong => k_is)
    (case xs_Wrong => k_is)
    (case xe_Wrong => k_is)
    (case xt_Wrong => k_is)
    (case xk_Wrong => k_is)
    (case xa_Wrong => k_is)
    (case xg_Wrong => k_is)
    (case xh_Wrong => k_is)
    (case xc_Wrong => k_is)
    (case xn_Wrong => k_is)
    (case xo_Wrong => k_is)
    (case xm_Wrong => k_is)
    (case xx_Wrong => k_is)
    (case xv_Wrong => k_is)
    (case c_NoText => k_is)
    (case xl_NoText => k_is)
    (case xs_NoText => k_is)
    (case xe_NoText => k_is)
    (case xt_NoText => k_is)
    (case xk_NoText => k_is)
    (case xa_NoText => k_is)
    (case xg_NoText => k_is)
    (case xh_NoText => k_is)
    (case xc_NoText => k_is)
    (case xn_NoText => k_is)
    (case xo_NoText => k_is)
    (case xm_NoText => k_is)
    (case xx_NoText => k_is)
    (case xv_NoText => k_is)
    (case c_TooMany => k_is)
    (case xl_TooMany => k_is)
    (case xs_TooMany => k_is)
    (case xe_TooMany => k_is)
    (case xt_TooMany => k_is)
    (case xk_TooMany => k_is)
    (case xa_TooMany => k_is)
    (case xg_TooMany => k_is)
    (case xh_TooMany => k_is)
    (case xc_TooMany => k_is)
    (case xn_TooMany => k_is)
    (case xo_TooMany => k_is)
    (case xm_TooMany => k_is)
    (case xx_TooMany => k_is)
    (case xv_TooMany => k_is)
    (case c_Wane => k_is)
    (case pg_Wane => k_is)
    (case hd_Wane => k_is)
    (case po_Wane => k_is)
    (case sa_Wane => k_is)
    (case ic1_Wane => k_is)
    (case ic2_Wane => k_is)
    (case ic3_Wane => k_is)
    (case ic4_Wane => k_is)
    (case ty_Wane => k_is)
    (case na_Wane__anew => k_is)
    (case na_Wane__cap => k_is)
    (case na_Wane__head => k_is)
    (case na_Wane__lift => k_is)
    (case na_Wane__steps => k_is)
    (case na_Wane__tail => k_is)
    (case m_Wrong___init__ => k_is)
    (case l_Wrong___init__ => k_is)
    (case h_Wrong___init__ => k_is)
    (case k_Wrong___init__ => k_is)
    (case m_refuse_wrong => k_is)
    (case l_refuse_wrong => k_is)
    (case h_refuse_wrong => k_is)
    (case k_refuse_wrong => k_is)
    (case m_is_whole => k_is)
    (case l_is_whole => k_is)
    (case h_is_whole => k_is)
    (case k_is_whole => k_is)
    (case m_is_within => k_is)
    (case l_is_within => k_is)
    (case h_is_within => k_is)
    (case k_is_within => k_is)
    (case m_is_strength => k_is)
    (case l_is_strength => k_is)
    (case h_is_strength => k_is)
    (case k_is_strength => k_is)
    (case m_is_size => k_is)
    (case l_is_size => k_is)
    (case h_is_size => k_is)
    (case k_is_size => k_is)
    (case m_is_moment => k_is)
    (case l_is_moment => k_is)
    (case h_is_moment => k_is)
    (case k_is_moment => k_is)
    (case m_is_step => k_is)
    (case l_is_step => k_is)
    (case h_is_step => k_is)
    (case k_is_step => k_is)
    (case m_Wane___init__ => k_is)
    (case l_Wane___init__ => k_is)
    (case h_Wane___init__ => k_is)
    (case k_Wane___init__ => k_is)
    (case kw_Wane___init___anew => k_is)
    (case i_Wane___init__ => k_is)
    (case mk_Wane => k_is)
    (case kc_Wane => k_is)
    (case m_Wane_step => k_is)
    (case l_Wane_step => k_is)
    (case h_Wane_step => k_is)
    (case k_Wane_step => k_is)
    (case i_Wane_step => k_is)
    (case m_Wane_phase => k_is)
    (case l_Wane_phase => k_is)
    (case h_Wane_phase => k_is)
    (case k_Wane_phase => k_is)
    (case i_Wane_phase => k_is)
    (case m_Wane_step_behind => k_is)
    (case l_Wane_step_behind => k_is)
    (case h_Wane_step_behind => k_is)
    (case k_Wane_step_behind => k_is)
    (case i_Wane_step_behind => k_is)
    (case m_Wane_phase_behind => k_is)
    (case l_Wane_phase_behind => k_is)
    (case h_Wane_phase_behind => k_is)
    (case k_Wane_phase_behind => k_is)
    (case i_Wane_phase_behind => k_is)
    (case m__is_head => k_is)
    (case l__is_head => k_is)
    (case h__is_head => k_is)
    (case k__is_head => k_is)
    (case m__is_tail => k_is)
    (case l__is_tail => k_is)
    (case h__is_tail => k_is)
    (case k__is_tail => k_is)
    (case m__are_steps => k_is)
    (case l__are_steps => k_is)
    (case h__are_steps => k_is)
    (case k__are_steps => k_is)
    (case m__law_bag => k_is)
    (case l__law_bag => k_is)
    (case h__law_bag => k_is)
    (case k__law_bag => k_is)
    (case m__law_take => k_is)
    (case l__law_take => k_is)
    (case h__law_take => k_is)
    (case k__law_take => k_is)
    (case m__law_steps => k_is)
    (case l__law_steps => k_is)
    (case h__law_steps => k_is)
    (case k__law_steps => k_is)
    (case m__law_plan => k_is)
    (case l__law_plan => k_is)
    (case h__law_plan => k_is)
    (case k__law_plan => k_is)
    (case m__law_within => k_is)
    (case l__law_within => k_is)
    (case h__law_within => k_is)
    (case k__law_within => k_is)
    (case m__law_is_step => k_is)
    (case l__law_is_step => k_is)
    (case h__law_is_step => k_is)
    (case k__law_is_step => k_is)
    (case m__law_bent_steps => k_is)
    (case l__law_bent_steps => k_is)
    (case h__law_bent_steps => k_is)
    (case k__law_bent_steps => k_is)
    (case m__law_bent => k_is)
    (case l__law_bent => k_is)
    (case h__law_bent => k_is)
    (case k__law_bent => k_is)
    (case m__law_due => k_is)
    (case l__law_due => k_is)
    (case h__law_due => k_is)
    (case k__law_due => k_is)
    (case m__law_refused => k_is)
    (case l__law_refused => k_is)
    (case h__law_refused => k_is)
    (case k__law_refused => k_is)
    (case m__law_told => k_is)
    (case l__law_told => k_is)
    (case h__law_told => k_is)
    (case k__law_told => k_is)
    (case m__law_asked => k_is)
    (case l__law_asked => k_is)
    (case h__law_asked => k_is)
    (case k__law_asked => k_is)
    (case m_law => k_is)
    (case l_law => k_is)
    (case h_law => k_is)
    (case k_law => k_is)
    (case su_WaneError_Wrong => k_is)
    (case su_WaneError_NoText => k_is)
    (case su_WaneError_TooMany => k_is)
    (case ei_WaneError => k_exc)
    (case su_Wrong_WaneError => k_is)
    (case su_Wrong_NoText => k_is)
    (case su_Wrong_TooMany => k_is)
    (case ot_Wrong => k_is)
    (case nf_Wrong => k_is)
    (case su_NoText_WaneError => k_is)
    (case su_NoText_Wrong => k_is)
    (case su_NoText_TooMany => k_is)
    (case ei_NoText => k_exc)
    (case su_TooMany_WaneError => k_is)
    (case su_TooMany_Wrong => k_is)
    (case su_TooMany_NoText => k_is)
