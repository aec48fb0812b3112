import PyProof.Rows.All
import Wide.All
import OpenK.AllK
import Wide.FinOn
import HandS.ForMost
import HandS.ForExc
import HandS.Flow
import HandS.Wide
import HandS.Zip
import HandS.IsInst
import HandS.FStr
import HandS.Defaults
import HandS.MakeKwOnly
import HandS.TryMany
import HandS.ExcInit
import HandS.ExcField
import HandS.Deep
import HandS.Small
import HandS.RaiseMore
import HandS.EndBits
import HandS.SortInts
import HandS.Strs
import HandS.Conv
import HandS.Style
import HandS.TupAny
import HandS.Walk
import HandS.Ends
import HandS.Dict
import HandS.StrMore
import HandS.Text
import PyProof.Rows.StrRev
import KE.KExcIs
import HandS.ExcIs
import HandS.TryOnly
import HandS.WordsExc
import HandS.CallSlots
import KE.GoesMore
import HandS.DictTup
import PyProof.DictMoreH
import HandS.Star
import HandS.Gcd
import HandS.More
import HandS.Iter
import PySem.Challenge.RW_wanehold_k40_stores_made
set_option Elab.async false
set_option linter.all false
set_option maxRecDepth 100000
set_option maxHeartbeats 4000000
namespace Vf
open PySem PySem.Spec PyProof.Rows L2

/-! ## 1. defs whose Around is known to hold no repr guard -/
structure FnG (P : Program) (w : World) (K : PySem.W.Frag) (mg : Str → Option Value) (base : Heap) (CX : CXT) (k : Nat) (f : Addr) (fd : FuncData) (ps : List Str) (sp : Sp) : Prop where
  len : ∀ vs H Q E, sp vs H Q E → vs.length = ps.length
  run : ∀ (A : Around) (outer : List Env) (s : Shared) (H : Hp) (args : Args) (us : List Value) (vs : List V) (Q : VK) (E : XK), Room k A → A.guards = some [] → Env0 P w K mg base A outer s H → BindsTo s fd args (ps.zip us) → Vals vs us → sp vs H Q E →
    codeAny (model P w) A (.call (.ref f) args) (CR CX outer P w H s Q E) s

section
variable {P : Program} {w : World} {K : PySem.W.Frag} {mg : Str → Option Value} {base : Heap} {CX : CXT}
theorem FnG.of {k : Nat} {f : Addr} {fd : FuncData} {ps : List Str} {sp : Sp} (F : FnOk P w K mg base CX k f fd ps sp) : FnG P w K mg base CX k f fd ps sp :=
  ⟨F.len, fun A outer s H args us vs Q E hr _ => F.run A outer s H args us vs Q E hr⟩
theorem FnG.mono {j k : Nat} {f : Addr} {fd : FuncData} {ps : List Str} {sp : Sp} (F : FnG P w K mg base CX j f fd ps sp) (h : j ≤ k) : FnG P w K mg base CX k f fd ps sp :=
  ⟨F.len, fun A outer s H args us vs Q E hr => F.run A outer s H args us vs Q E (hr.mono h)⟩
theorem deeper_guards {A : Around} {env : Env} (h : A.guards = some []) : (A.deeper env).guards = some [] := by
  show A.guards = some []
  exact h

theorem fn_ofG {k : Nat} {f : Addr} {name qual : Str} {params : Arguments} {body : List Stmt} {scope : Scope} {dV kV doc pm cdv ct oc : Value} {an od : Option Addr}
    {osl : Array (Option Value)} {N ps : List Str} {sp : Sp} (lk : K.lookup f = some ⟨oc, od, .func (PySem.W.fnOf name qual params body scope dV kV doc pm an cdv ct), osl⟩) (hcd : PySem.W.codeIn K cdv qual = true) (S : FnScope N ps scope)
    (len : ∀ vs H Q E, sp vs H Q E → vs.length = ps.length)
    (hbody : ∀ (A : Around) (outer : List Env) (s : Shared) (H : Hp) (vs : List V) (Q : VK) (E : XK), Room k (A.deeper (envOfC qual scope s.heap.objs.size f cdv)) → (A.deeper (envOfC qual scope s.heap.objs.size f cdv)).guards = some [] → sp vs H Q E →
      ∃ t, PSs (cxOf CX P w K mg base N qual scope f cdv A outer s H E) body t ∧ t { nx := fun _ H' => Q .non H', rt := Q } (start N vs) H) :
    FnG P w K mg base CX (k + 1) f (PySem.W.fnOf name qual params body scope dV kV doc pm an cdv ct) ps sp := by
  refine ⟨len, fun A outer s H args us vs Q E hr hgd e0 hb r hsp => ?_⟩
  have hl := len _ _ _ _ hsp
  have KX : K.In s.heap := e0.mod.kin.keeps fun b o e => (e0.bs b o e).1
  have lim : s.heap.NoLimit := e0.mod.nolimit.keeps fun b o e => (e0.bs b o e).1
  have hkind : ∀ y ∈ ps.zip us, scope.names.lookup y.1 = some .local ∨ (scope.names.lookup y.1 = some .cell ∧ ((cellsFrom (s.heap.objs.size + 1) scope.names []).lookup y.1).isSome = true) := fun ⟨n, v⟩ hy => by
    rcases S.par n (List.of_mem_zip hy).1 with q | q
    · exact .inl q
    · exact .inr ⟨q, PySem.W.cellsFrom_some _ _ _ (.inl q)⟩
  refine codeAny_call_function hr.depth (KX _ _ lk) rfl S.co S.gen rfl (PySem.W.codeRec_of KX hcd) (hb _ _ _ _ ?_)
  refine wpAny_newFunctionEnv_cells S.kind hkind fun env he s1 x => ?_
  subst he
  refine ⟨lim.keeps x.toInCall.keep, codeAny_func ?_⟩
  obtain ⟨t, ht, hq⟩ := hbody A outer s H vs Q E (hr.deeper _) (deeper_guards hgd) hsp
  have I : Inv (cxOf CX P w K mg base N qual scope f cdv A outer s H E) [] (start N vs) H s1 := inv_start S hr.hd e0 hl r x
  refine wpAny_mono (ht.run [] s1 (start N vs) H _ I hq) (fun fl s' hs => ?_) fun e s' hs => hs
  have fin : ∀ {σ' : L2.St} {H' : Hp} {v : V} {u : Value}, Inv (cxOf CX P w K mg base N qual scope f cdv A outer s H E) [] σ' H' s' → RelV v u → Q v H' → CE outer P w H s Q u s' :=
    fun {σ' H' v u} J rv q => ⟨v, H', J.os, J.bare, J.base, J.hok, rv, q⟩
  cases fl with
  | ret u =>
    obtain ⟨v, σ', H', J, rv, q⟩ := hs
    exact fin J rv q
  | next =>
    obtain ⟨σ', H', J, q⟩ := hs
    exact fin (v := V.non) (u := Value.none) J rfl q
  | brk =>
    obtain ⟨_, _, _, q⟩ := hs
    exact False.elim q
  | cont =>
    obtain ⟨_, _, _, q⟩ := hs
    exact False.elim q
end

section
variable {X : Cx} {CX : CXT} {k : Nat} {f C : Addr} {fd : FuncData} {ps : List Str} {sp : Sp} {dvs : List V} {ds : List Value} {E : XK} {x m : Str} {p pos apos : Pos} {e o : Expr} {es : List Expr} {ta : TE} {t : TA}
theorem run_fnG {pins : List (Addr × Obj)} {σ : L2.St} {H : Hp} {s : Shared} {Q : VK} {us : List Value} {vs : List V} (F : FnG X.prog X.w X.K X.mg X.base CX k f fd ps sp) (hr : Room k X.A) (hgd : X.A.guards = some []) (hb : Binds X.K fd ps ds) (hd : Vals dvs ds) (hx : Passes CX X E)
    (I : Inv X pins σ H s) (r : Vals vs us) (h : sp (vs ++ dvs) H Q E) : wpAny (model X.prog X.w) X.A (call (.ref f) us) (EP X pins σ Q) X.xe s := by
  have r2 : Vals (vs ++ dvs) (us ++ ds) := r.append hd
  have hl : (us ++ ds).length = ps.length := by rw [← r2.length]; exact F.len _ _ _ _ h
  refine wpAny_call (codeAny_mono (F.run X.A X.stack s H ⟨us, []⟩ (us ++ ds) (vs ++ dvs) Q E hr hgd I.env0 (hb s us I.kIn hl) r2 h) fun r s' hq => ?_)
  cases r with
  | error e => exact hx pins σ H s e s' I hq
  | ok fl =>
    cases fl with
    | ret u => exact I.after hq
    | next => exact False.elim hq
    | brk => exact False.elim hq
    | cont => exact False.elim hq
theorem pe_callGd (F : FnG X.prog X.w X.K X.mg X.base CX k f fd ps sp) (hr : Room k X.A) (hgd : X.A.guards = some []) (hg : Gl X x) (hm : X.mg x = some (.ref f)) (hk : PySem.W.keepIn X.K (.ref f) = true) (hb : Binds X.K fd ps ds) (hd : Vals dvs ds) (hx : Passes CX X E)
    (ha : PA X (e :: es) t) (hdb : (x == ("__debug__" : Str)) = false := by decide) (he : starEach (e :: es) X.env = (false, eval e X.env) :: starEach es X.env := by rfl) (hpl : (backTo pos (starEach es X.env)).any (·.1) = false := by rfl) :
    PE X (.Call (.Name x p) (e :: es) [] pos) (tCall sp dvs E t) := by
  refine ⟨fun pins s σ H Q I h => ?_⟩
  refine wpAny_Call_Name_kw (ld_glob I hg hm ?_ hdb)
  refine PySem.W.callWith_K (h₀ := X.base) I.ok.mod.kin hk (thn (ha.run pos pins s σ H _ I h) fun us s1 ⟨vs, H1, I1, r, q⟩ => ⟨I1.kIn, ?_⟩) he hpl
  exact run_fnG F hr hgd hb hd hx I1 r q
theorem pe_callGd0 (F : FnG X.prog X.w X.K X.mg X.base CX k f fd ps sp) (hr : Room k X.A) (hgd : X.A.guards = some []) (hg : Gl X x) (hm : X.mg x = some (.ref f)) (hk : PySem.W.keepIn X.K (.ref f) = true) (hb : Binds X.K fd ps ds) (hd : Vals dvs ds) (hx : Passes CX X E)
    (hdb : (x == ("__debug__" : Str)) = false := by decide) : PE X (.Call (.Name x p) [] [] pos) (tCall sp dvs E tNil) := by
  refine ⟨fun pins s σ H Q I h => ?_⟩
  refine wpAny_Call_Name_kw (ld_glob I hg hm ?_ hdb)
  exact PySem.W.callWith_K0 I.kIn hk (run_fnG (us := []) F hr hgd hb hd hx I .nil h)
end

section
variable {P : Program} {w : World} {K : PySem.W.Frag} {mg : Str → Option Value} {base : Heap}
theorem okG {x qual : Str} {st : Stmt} {f : Addr} {fd : FuncData} {N ps : List Str} {k : Nat} {sp : Sp} (F : Fun K x qual st f fd) (S : FnScope N ps (defScope st)) (len : ∀ vs H Q E, sp vs H Q E → vs.length = ps.length)
    (hbody : ∀ (cdv : Value) (A : Around) (outer : List Env) (s : Shared) (H : Hp) (vs : List V) (Q : VK) (E : XK), Room k (A.deeper (envOfC qual (defScope st) s.heap.objs.size f cdv)) → (A.deeper (envOfC qual (defScope st) s.heap.objs.size f cdv)).guards = some [] → sp vs H Q E →
      ∃ t, PSs (cxOf CX0 P w K mg base N qual (defScope st) f cdv A outer s H E).nox (defBody st) t ∧ t { nx := fun _ H' => Q .non H', rt := Q } (start N vs) H) : FnG P w K mg base CX0 (k + 1) f fd ps sp := by
  obtain ⟨oc, od, kV, doc, pm, an, cdv, ct, osl, rfl, lk, hcd⟩ := F.ex
  refine fn_ofG lk hcd S len fun A outer s H vs Q E hr hgd hsp => ?_
  obtain ⟨t, h, q⟩ := hbody cdv A outer s H vs Q E hr hgd hsp
  exact ⟨t, h.nox, q⟩
end

/-! ## 2. repr of data -/
section
variable {X : Cx}
theorem lift_kept {pins : List (Addr × Obj)} {σ : L2.St} {H : Hp} {s : Shared} {Q : VK} {x : Str} (I : Inv X pins σ H s) (q : Q (.str x) H) {h' : Heap} {u tk : Tok} (k : ∀ b o, s.heap.get? b = some o → h'.get? b = some o) :
    EP X pins σ Q (.str x u) { s with heap := h', toks := tk } := ⟨.str x, H, I.kept (t' := tk) k, ⟨u, rfl⟩, q⟩
def rRepr (K : PySem.W.Frag) : List V → Hp → VK → Prop := fun xs H Q => ∃ x d, xs = [x] ∧ Dp K H x d ∧ d.showable = true ∧ d.depth ≤ 60 ∧ d.shown.length ≤ sizeLine ∧ Q (.str d.shown) H
theorem Dp.noDict {K : PySem.W.Frag} {H : Hp} : ∀ (d : PyData) (v : V), Dp K H v d → d.hasDict = false := by
  intro d v h
  refine Dp.rec (motive_1 := fun v d _ => d.hasDict = false) (motive_2 := fun vs ds _ => PyData.hasDictAll ds = false) ?_ ?_ ?_ ?_ ?_ ?_ ?_ ?_ h
  · simp only [PyData.hasDict]
  · intro b; simp only [PyData.hasDict]
  · intro i; simp only [PyData.hasDict]
  · intro x; simp only [PyData.hasDict]
  · intro a xs ds _ _ ih; simp only [PyData.hasDict]; exact ih
  · intro a xs ds _ _ ih; simp only [PyData.hasDict]; exact ih
  · simp only [PyData.hasDictAll]
  · intro v vs d ds _ _ h1 h2; simp only [PyData.hasDictAll, h1, h2]; rfl
theorem call_reprD (hgd : X.A.guards = some []) (hu : X.A.units + 64 < cLine) : CallR X (.builtin "repr") (rRepr X.K) := by
  intro pins s σ H xs us Q I r h
  obtain ⟨x, d, rfl, hd, hs, hdp, hsz, q⟩ := h
  obtain ⟨u, rfl, ru⟩ := vals1 r
  have hnd := Dp.noDict d x hd
  obtain ⟨as, rd⟩ := Dp.reads I d x u hd ru
  cases hd with
  | non =>
    cases ru
    exact PySem.P.repr_of_none (lift_kept I (by simpa only [PyData.shown] using q) fun _ _ e => e)
  | bl b =>
    cases ru
    exact PySem.P.repr_of_bool (lift_kept I (by simpa only [PyData.shown] using q) fun _ _ e => e)
  | int i =>
    obtain ⟨t, rfl⟩ := ru
    exact PySem.P.repr_of_int (by simpa only [PyData.showable, decide_eq_true_eq] using hs) (lift_kept I (by simpa only [PyData.shown] using q) fun _ _ e => e)
  | str y =>
    obtain ⟨t, rfl⟩ := ru
    exact PySem.P.repr_of_str (lift_kept I (by simpa only [PyData.shown] using q) fun _ _ e => e) (by simpa only [PyData.shown] using hsz)
  | lst h1 h2 =>
    cases ru
    exact repr_of_reads' rd hs (fun z => by rw [hnd] at z; cases z) hgd (by omega) (fun _ _ e => e) (fun h' u tk k => lift_kept I q k) hsz
  | tup h1 h2 =>
    cases ru
    exact repr_of_reads' rd hs (fun z => by rw [hnd] at z; cases z) hgd (by omega) (fun _ _ e => e) (fun h' u tk k => lift_kept I q k) hsz
end
end Vf
namespace Vf
open PySem PySem.Spec PyProof.Rows L2

/-! ## 3. data that does not change, and what a def knows -/
inductive D where
  | non | bl (b : Bool) | int (i : Int) | str (x : Str) | lst (ds : List D) | tup (ds : List D) | ins (C : Addr) (fs : List (Str × D)) | dic (kvs : List (Key × V))

abbrev AS := Addr → Prop
def LzL (K : PySem.W.Frag) (S : AS) (H : Hp) (a : Addr) (xs : List V) : Prop := ¬ S a ∧ H a = some (.lst xs)
def LzT (K : PySem.W.Frag) (S : AS) (H : Hp) (a : Addr) (xs : List V) : Prop :=
  (¬ S a ∧ Rd H a (.tup xs)) ∨
    ∃ (o : Obj) (its : Array Value) (n : Nat), K.lookup a = some o ∧ o.cls = .type "tuple" ∧ o.data = .seq its n ∧ its.size ≤ sizeLine ∧ Vals xs its.toList
section
variable {K : PySem.W.Frag} {S S' : AS} {H H' : Hp} {a : Addr} {xs : List V}
theorem LzL.sq (h : LzL K S H a xs) : SqL K H a xs := SqL.of h.2
theorem LzT.sq (h : LzT K S H a xs) : SqT K H a xs := h.elim (fun h => .inl h.2) .inr
def Kp (M : AS) (H H' : Hp) : Prop := ∀ b o, ¬ M b → H b = some o → H' b = some o
theorem Rd.kp {M : AS} {u : HO} (k : Kp M H H') (n : ¬ M a) (h : Rd H a u) : Rd H' a u := by
  rcases h with h | ⟨o, h⟩
  · exact .inl (k _ _ n h)
  · exact .inr ⟨o, k _ _ n h⟩
theorem LzL.keep {M : AS} (k : Kp M H H') (ms : ∀ b, M b → S b) (h : LzL K S H a xs) : LzL K S H' a xs := ⟨h.1, k _ _ (fun z => h.1 (ms _ z)) h.2⟩
theorem LzT.keep {M : AS} (k : Kp M H H') (ms : ∀ b, M b → S b) (h : LzT K S H a xs) : LzT K S H' a xs :=
  h.elim (fun h => .inl ⟨h.1, Rd.kp k (fun z => h.1 (ms _ z)) h.2⟩) .inr
theorem LzL.weak (ms : ∀ b, S' b → S b) (h : LzL K S H a xs) : LzL K S' H a xs := ⟨fun z => h.1 (ms _ z), h.2⟩
theorem LzT.weak (ms : ∀ b, S' b → S b) (h : LzT K S H a xs) : LzT K S' H a xs := h.elim (fun h => .inl ⟨fun z => h.1 (ms _ z), h.2⟩) .inr
/-- a fresh place is added to what may change -/
theorem LzL.fresh {l : Addr} (n : H l = none) (h : LzL K S H a xs) : LzL K (fun b => S b ∨ b = l) H a xs := by
  refine ⟨fun z => z.elim h.1 fun e => ?_, h.2⟩
  have q := h.2
  rw [e, n] at q
  cases q
theorem LzT.fresh {l : Addr} (n : H l = none) (h : LzT K S H a xs) : LzT K (fun b => S b ∨ b = l) H a xs := h.elim (fun h => .inl ⟨fun z => z.elim h.1 fun e => by
  subst e
  rcases h.2 with q | ⟨o, q⟩ <;> (rw [n] at q; cases q), h.2⟩) .inr
end

mutual
def Dz (K : PySem.W.Frag) (S : AS) (H : Hp) : D → V → Prop
  | .non, v => v = .non
  | .bl b, v => v = .bl b
  | .int i, v => v = .int i
  | .str x, v => v = .str x
  | .lst ds, v => ∃ a xs, v = .ref a ∧ LzL K S H a xs ∧ DzL K S H ds xs
  | .tup ds, v => ∃ a xs, v = .ref a ∧ LzT K S H a xs ∧ DzL K S H ds xs
  | .ins C fs, v => ∃ a dx gs, v = .ref a ∧ ¬ S a ∧ H a = some (.ins C dx gs) ∧ DzF K S H fs gs
  | .dic kvs, v => ∃ a, v = .ref a ∧ ¬ S a ∧ H a = some (.dK kvs)
def DzL (K : PySem.W.Frag) (S : AS) (H : Hp) : List D → List V → Prop
  | [], xs => xs = []
  | d :: ds, xs => ∃ x r, xs = x :: r ∧ Dz K S H d x ∧ DzL K S H ds r
def DzF (K : PySem.W.Frag) (S : AS) (H : Hp) : List (Str × D) → List (Str × V) → Prop
  | [], xs => xs = []
  | (n, d) :: ds, xs => ∃ x r, xs = (n, x) :: r ∧ Dz K S H d x ∧ DzF K S H ds r
end
section
variable {K : PySem.W.Frag} {S S' : AS} {H H' : Hp}
mutual
theorem Dz.map (fl : ∀ a xs, LzL K S H a xs → LzL K S' H' a xs) (ft : ∀ a xs, LzT K S H a xs → LzT K S' H' a xs) (fi : ∀ a o, ¬ S a → H a = some o → ¬ S' a ∧ H' a = some o) : ∀ (d : D) (v : V), Dz K S H d v → Dz K S' H' d v
  | .non, _, h => h
  | .bl _, _, h => h
  | .int _, _, h => h
  | .str _, _, h => h
  | .lst ds, _, h => by
    obtain ⟨a, xs, e, h1, h2⟩ := h
    exact ⟨a, xs, e, fl _ _ h1, DzL.map fl ft fi ds xs h2⟩
  | .tup ds, _, h => by
    obtain ⟨a, xs, e, h1, h2⟩ := h
    exact ⟨a, xs, e, ft _ _ h1, DzL.map fl ft fi ds xs h2⟩
  | .ins C fs, _, h => by
    obtain ⟨a, dx, gs, e, h1, h2, h3⟩ := h
    obtain ⟨q1, q2⟩ := fi a _ h1 h2
    exact ⟨a, dx, gs, e, q1, q2, DzF.map fl ft fi fs gs h3⟩
  | .dic kvs, _, h => by
    obtain ⟨a, e, h1, h2⟩ := h
    obtain ⟨q1, q2⟩ := fi a _ h1 h2
    exact ⟨a, e, q1, q2⟩
theorem DzL.map (fl : ∀ a xs, LzL K S H a xs → LzL K S' H' a xs) (ft : ∀ a xs, LzT K S H a xs → LzT K S' H' a xs) (fi : ∀ a o, ¬ S a → H a = some o → ¬ S' a ∧ H' a = some o) : ∀ (ds : List D) (xs : List V), DzL K S H ds xs → DzL K S' H' ds xs
  | [], _, h => h
  | d :: ds, _, h => by
    obtain ⟨x, r, e, h1, h2⟩ := h
    exact ⟨x, r, e, Dz.map fl ft fi d x h1, DzL.map fl ft fi ds r h2⟩
theorem DzF.map (fl : ∀ a xs, LzL K S H a xs → LzL K S' H' a xs) (ft : ∀ a xs, LzT K S H a xs → LzT K S' H' a xs) (fi : ∀ a o, ¬ S a → H a = some o → ¬ S' a ∧ H' a = some o) : ∀ (ds : List (Str × D)) (xs : List (Str × V)), DzF K S H ds xs → DzF K S' H' ds xs
  | [], _, h => h
  | (n, d) :: ds, _, h => by
    obtain ⟨x, r, e, h1, h2⟩ := h
    exact ⟨x, r, e, Dz.map fl ft fi d x h1, DzF.map fl ft fi ds r h2⟩
end
theorem Dz.keep {M : AS} (k : Kp M H H') (ms : ∀ b, M b → S b) {d : D} {v : V} (h : Dz K S H d v) : Dz K S H' d v :=
  Dz.map (fun _ _ => LzL.keep k ms) (fun _ _ => LzT.keep k ms) (fun a o n e => ⟨n, k _ _ (fun z => n (ms _ z)) e⟩) d v h
theorem DzL.keep {M : AS} (k : Kp M H H') (ms : ∀ b, M b → S b) {d : List D} {v : List V} (h : DzL K S H d v) : DzL K S H' d v :=
  DzL.map (fun _ _ => LzL.keep k ms) (fun _ _ => LzT.keep k ms) (fun a o n e => ⟨n, k _ _ (fun z => n (ms _ z)) e⟩) d v h
theorem Dz.weak (ms : ∀ b, S' b → S b) {d : D} {v : V} (h : Dz K S H d v) : Dz K S' H d v :=
  Dz.map (fun _ _ => LzL.weak ms) (fun _ _ => LzT.weak ms) (fun a o n e => ⟨fun z => n (ms _ z), e⟩) d v h
theorem DzL.weak (ms : ∀ b, S' b → S b) {d : List D} {v : List V} (h : DzL K S H d v) : DzL K S' H d v :=
  DzL.map (fun _ _ => LzL.weak ms) (fun _ _ => LzT.weak ms) (fun a o n e => ⟨fun z => n (ms _ z), e⟩) d v h
theorem Dz.fresh {l : Addr} (nl : H l = none) {d : D} {v : V} (h : Dz K S H d v) : Dz K (fun b => S b ∨ b = l) H d v :=
  Dz.map (fun _ _ => LzL.fresh nl) (fun _ _ => LzT.fresh nl) (fun a o n e => ⟨fun z => z.elim n fun q => (by rw [q, nl] at e; cases e), e⟩) d v h
theorem DzL.fresh {l : Addr} (nl : H l = none) {d : List D} {v : List V} (h : DzL K S H d v) : DzL K (fun b => S b ∨ b = l) H d v :=
  DzL.map (fun _ _ => LzL.fresh nl) (fun _ _ => LzT.fresh nl) (fun a o n e => ⟨fun z => z.elim n fun q => (by rw [q, nl] at e; cases e), e⟩) d v h
theorem DzL.len : ∀ {ds : List D} {xs : List V}, DzL K S H ds xs → xs.length = ds.length
  | [], _, h => by cases h; rfl
  | d :: ds, _, h => by
    obtain ⟨x, r, e, h1, h2⟩ := h
    subst e
    simp [DzL.len h2]
theorem DzL.get : ∀ {ds : List D} {xs : List V} {i : Nat} {d : D}, DzL K S H ds xs → ds[i]? = some d → ∃ x, xs[i]? = some x ∧ Dz K S H d x
  | [], _, i, d, h, e => by simp at e
  | d0 :: ds, _, 0, d, h, e => by
    obtain ⟨x, r, e1, h1, h2⟩ := h
    subst e1
    simp at e
    subst e
    exact ⟨x, rfl, h1⟩
  | d0 :: ds, _, i + 1, d, h, e => by
    obtain ⟨x, r, e1, h1, h2⟩ := h
    subst e1
    obtain ⟨y, q1, q2⟩ := DzL.get (i := i) h2 (by simpa using e)
    exact ⟨y, by simpa using q1, q2⟩
theorem DzL.app : ∀ {ds es : List D} {xs ys : List V}, DzL K S H ds xs → DzL K S H es ys → DzL K S H (ds ++ es) (xs ++ ys)
  | [], es, _, ys, h, h' => by cases h; exact h'
  | d :: ds, es, _, ys, h, h' => by
    obtain ⟨x, r, e, h1, h2⟩ := h
    subst e
    exact ⟨x, r ++ ys, rfl, h1, DzL.app h2 h'⟩
theorem DzL.drop : ∀ (n : Nat) {ds : List D} {xs : List V}, DzL K S H ds xs → DzL K S H (ds.drop n) (xs.drop n)
  | 0, _, _, h => h
  | n + 1, [], _, h => by cases h; exact rfl
  | n + 1, d :: ds, _, h => by
    obtain ⟨x, r, e, h1, h2⟩ := h
    subst e
    exact DzL.drop n h2
theorem DzL.take : ∀ (n : Nat) {ds : List D} {xs : List V}, DzL K S H ds xs → DzL K S H (ds.take n) (xs.take n)
  | 0, ds, xs, h => by simp; exact rfl
  | n + 1, [], _, h => by cases h; exact rfl
  | n + 1, d :: ds, _, h => by
    obtain ⟨x, r, e, h1, h2⟩ := h
    subst e
    exact ⟨x, r.take n, rfl, h1, DzL.take n h2⟩
theorem DzL.set : ∀ {ds : List D} {xs : List V} {i : Nat} {d : D} {x : V}, DzL K S H ds xs → Dz K S H d x → DzL K S H (ds.set i d) (xs.set i x)
  | [], _, i, d, x, h, z => by cases h; exact rfl
  | d0 :: ds, _, 0, d, x, h, z => by
    obtain ⟨x', r, e, h1, h2⟩ := h
    subst e
    exact ⟨x, r, rfl, z, h2⟩
  | d0 :: ds, _, i + 1, d, x, h, z => by
    obtain ⟨x', r, e, h1, h2⟩ := h
    subst e
    exact ⟨x', r.set i x, rfl, h1, DzL.set h2 z⟩
theorem DzL.rev : ∀ {ds : List D} {xs : List V}, DzL K S H ds xs → DzL K S H ds.reverse xs.reverse
  | [], _, h => by cases h; exact rfl
  | d :: ds, _, h => by
    obtain ⟨x, r, e, h1, h2⟩ := h
    subst e
    rw [List.reverse_cons, List.reverse_cons]
    exact DzL.app (DzL.rev h2) ⟨x, [], rfl, h1, rfl⟩
theorem DzL.ints (ns : List Int) : ∀ {xs : List V}, DzL K S H (ns.map D.int) xs → xs = ns.map V.int := by
  induction ns with
  | nil => intro xs h; cases h; rfl
  | cons n ns ih =>
    intro xs h
    obtain ⟨x, r, e, h1, h2⟩ := h
    subst e
    cases h1
    rw [ih h2]; rfl
theorem DzL.of_ints : ∀ (ns : List Int), DzL K S H (ns.map D.int) (ns.map V.int)
  | [] => rfl
  | n :: ns => ⟨.int n, ns.map V.int, rfl, rfl, DzL.of_ints ns⟩
theorem DzL.strs (ns : List Str) : ∀ {xs : List V}, DzL K S H (ns.map D.str) xs → xs = ns.map V.str := by
  induction ns with
  | nil => intro xs h; cases h; rfl
  | cons n ns ih =>
    intro xs h
    obtain ⟨x, r, e, h1, h2⟩ := h
    subst e
    cases h1
    rw [ih h2]; rfl
theorem DzL.bls (ns : List Bool) : ∀ {xs : List V}, DzL K S H (ns.map D.bl) xs → xs = ns.map V.bl := by
  induction ns with
  | nil => intro xs h; cases h; rfl
  | cons n ns ih =>
    intro xs h
    obtain ⟨x, r, e, h1, h2⟩ := h
    subst e
    cases h1
    rw [ih h2]; rfl
theorem DzF.get : ∀ {fs : List (Str × D)} {gs : List (Str × V)} {n : Str} {d : D}, DzF K S H fs gs → fs.lookup n = some d → ∃ x, gs.lookup n = some x ∧ Dz K S H d x
  | [], _, n, d, h, e => by simp [List.lookup] at e
  | (m, d0) :: fs, _, n, d, h, e => by
    obtain ⟨x, r, e1, h1, h2⟩ := h
    subst e1
    by_cases q : (n == m) = true
    · simp only [List.lookup, q] at e ⊢
      cases e
      exact ⟨x, rfl, h1⟩
    · have q' : (n == m) = false := by simpa using q
      simp only [List.lookup, q'] at e ⊢
      exact DzF.get h2 e
end

/-! what data is as Python data -/
def keyPy : Key → PyData
  | .inl i => .int i
  | .inr x => .str x
def vPy : V → PyData
  | .int i => .int i
  | .str x => .str x
  | .bl b => .bool b
  | _ => .none
mutual
def D.py : D → PyData
  | .non => .none
  | .bl b => .bool b
  | .int i => .int i
  | .str x => .str x
  | .lst ds => .list (D.pys ds)
  | .tup ds => .tuple (D.pys ds)
  | .ins _ _ => .none
  | .dic kvs => .dict (kvs.map fun p => (keyPy p.1, vPy p.2))
def D.pys : List D → List PyData
  | [] => []
  | d :: ds => D.py d :: D.pys ds
end
mutual
/-- no instance in it -/
def D.flat : D → Bool
  | .non | .bl _ | .int _ | .str _ => true
  | .lst ds | .tup ds => D.flats ds
  | .ins _ _ => false
  | .dic _ => false
def D.flats : List D → Bool
  | [] => true
  | d :: ds => D.flat d && D.flats ds
end
section
variable {K : PySem.W.Frag} {S : AS} {H : Hp}
mutual
theorem Dz.dp : ∀ (d : D) (v : V), d.flat = true → Dz K S H d v → Dp K H v d.py
  | .non, _, _, h => by cases h; exact Dp.non
  | .bl b, _, _, h => by cases h; exact Dp.bl b
  | .int i, _, _, h => by cases h; exact Dp.int i
  | .str x, _, _, h => by cases h; exact Dp.str x
  | .lst ds, _, f, h => by
    obtain ⟨a, xs, e, h1, h2⟩ := h
    subst e
    simp only [D.py]
    exact Dp.lst h1.sq (DzL.dp ds xs (by simpa only [D.flat] using f) h2)
  | .tup ds, _, f, h => by
    obtain ⟨a, xs, e, h1, h2⟩ := h
    subst e
    simp only [D.py]
    exact Dp.tup h1.sq (DzL.dp ds xs (by simpa only [D.flat] using f) h2)
  | .ins _ _, _, f, _ => by simp [D.flat] at f
  | .dic _, _, f, _ => by simp [D.flat] at f
theorem DzL.dp : ∀ (ds : List D) (xs : List V), D.flats ds = true → DzL K S H ds xs → DpAll K H xs (D.pys ds)
  | [], _, _, h => by cases h; simp only [D.pys]; exact DpAll.nil
  | d :: ds, _, f, h => by
    obtain ⟨x, r, e, h1, h2⟩ := h
    subst e
    simp only [D.flats, Bool.and_eq_true] at f
    simp only [D.pys]
    exact DpAll.cons (Dz.dp d x f.1 h1) (DzL.dp ds r f.2 h2)
end
end
end Vf
namespace Vf
open PySem PySem.Spec PyProof.Rows L2

/-! ## 4. the law's bag of draws, and the whole state of what a def knows -/
structure Bag (K : PySem.W.Frag) (S : AS) (H : Hp) (a : Addr) : Prop where
  ex : ∃ (r h i : Int) (c : Addr) (ns : List Int), H a = some (.lst [.int r, .int h, .int i, .ref c]) ∧ Dz K S H (.lst (ns.map D.int)) (.ref c) ∧ (∀ n ∈ ns, 0 ≤ n) ∧ 0 ≤ r ∧ 0 ≤ h ∧ h < 2147483647 ∧ 0 ≤ i

def Okk (S : AS) (H : Hp) : Prop := ∀ b, S b → H b ≠ none
theorem Okk.same {S : AS} {H H' : Hp} (e : Same H H') (h : Okk S H) : Okk S H' := fun b s => by
  have q := h b s
  cases z : H b with
  | none => exact absurd z q
  | some o => rw [e b o z]; exact fun w => by cases w
theorem Same.kp {H H' : Hp} (e : Same H H') {M : AS} : Kp M H H' := fun b o _ h => e b o h
theorem Same.upd {H : Hp} {p : Addr} {o : HO} (n : H p = none) : Same H (upd H p o) := fun b u h => by
  rw [upd_ne (ne_of_none h n)]
  exact h
theorem Dz.same {K : PySem.W.Frag} {S : AS} {H H' : Hp} (e : Same H H') {d : D} {v : V} (h : Dz K S H d v) : Dz K S H' d v :=
  Dz.keep (M := fun _ => False) (Same.kp e) (fun _ z => z.elim) h
theorem DzL.same {K : PySem.W.Frag} {S : AS} {H H' : Hp} (e : Same H H') {d : List D} {v : List V} (h : DzL K S H d v) : DzL K S H' d v :=
  DzL.keep (M := fun _ => False) (Same.kp e) (fun _ z => z.elim) h
theorem Bag.same {K : PySem.W.Frag} {S : AS} {H H' : Hp} {a : Addr} (e : Same H H') (h : Bag K S H a) : Bag K S H' a := by
  obtain ⟨r, x, i, c, ns, h1, h2, h3⟩ := h.ex
  exact ⟨r, x, i, c, ns, e _ _ h1, Dz.same e h2, h3⟩

/-- S: what may change; M: what of the heap ahead (H0) may have been changed; G: what is known of values; L: lists of this def's own; B: the bag -/
structure St (K : PySem.W.Frag) (S M : AS) (H0 H : Hp) (G : List (V × D)) (L : List (Addr × List D)) (B : List Addr) : Prop where
  ok : Okk S H
  kp : Kp M H0 H
  dm : ∀ b, H0 b ≠ none → H b ≠ none
  ga : ∀ p ∈ G, Dz K S H p.2 p.1
  la : ∀ p ∈ L, S p.1 ∧ (H0 p.1 = none ∨ M p.1) ∧ ∃ xs, H p.1 = some (.lst xs) ∧ DzL K S H p.2 xs
  ba : ∀ a ∈ B, S a ∧ (H0 a = none ∨ M a) ∧ Bag K S H a
  nd : (L.map (·.1) ++ B).Nodup

section
variable {K : PySem.W.Frag} {S M : AS} {H0 H H' : Hp} {G : List (V × D)} {L : List (Addr × List D)} {B : List Addr}
theorem St.dz (st : St K S M H0 H G L B) {x : V} {d : D} (m : (x, d) ∈ G) : Dz K S H d x := st.ga (x, d) m
theorem St.same (st : St K S M H0 H G L B) (e : Same H H') : St K S M H0 H' G L B where
  ok := st.ok.same e
  kp := fun b o n h => e _ _ (st.kp b o n h)
  dm := fun b n => by
    have q := st.dm b n
    cases z : H b with
    | none => exact absurd z q
    | some o => rw [e b o z]; exact fun w => by cases w
  ga := fun p hp => Dz.same e (st.ga p hp)
  la := fun p hp => by
    obtain ⟨h1, h2, xs, h3, h4⟩ := st.la p hp
    exact ⟨h1, h2, xs, e _ _ h3, DzL.same e h4⟩
  ba := fun a ha => ⟨(st.ba a ha).1, (st.ba a ha).2.1, (st.ba a ha).2.2.same e⟩
  nd := st.nd
theorem St.add (st : St K S M H0 H G L B) {x : V} {d : D} (h : Dz K S H d x) : St K S M H0 H ((x, d) :: G) L B :=
  ⟨st.ok, st.kp, st.dm, fun p hp => by
    rcases List.mem_cons.mp hp with e | e
    · subst e; exact h
    · exact st.ga p e, st.la, st.ba, st.nd⟩
theorem St.sub (st : St K S M H0 H G L B) {G' : List (V × D)} (h : ∀ p ∈ G', p ∈ G) : St K S M H0 H G' L B :=
  ⟨st.ok, st.kp, st.dm, fun p hp => st.ga p (h p hp), st.la, st.ba, st.nd⟩
theorem St.nS (st : St K S M H0 H G L B) {p : Addr} (n : H p = none) : ¬ S p := fun s => st.ok p s n
theorem St.tup (st : St K S M H0 H G L B) {p : Addr} (n : H p = none) {xs : List V} {ds : List D} (h : DzL K S H ds xs) : St K S M H0 (upd H p (.tup xs)) ((.ref p, .tup ds) :: G) L B := by
  have e : Same H (upd H p (.tup xs)) := Same.upd n
  exact (st.same e).add ⟨p, xs, rfl, .inl ⟨st.nS n, .inl upd_same⟩, DzL.same e h⟩
theorem St.lst (st : St K S M H0 H G L B) {p : Addr} (n : H p = none) {xs : List V} {ds : List D} (h : DzL K S H ds xs) : St K S M H0 (upd H p (.lst xs)) ((.ref p, .lst ds) :: G) L B := by
  have e : Same H (upd H p (.lst xs)) := Same.upd n
  exact (st.same e).add ⟨p, xs, rfl, ⟨st.nS n, upd_same⟩, DzL.same e h⟩
theorem St.h0 (st : St K S M H0 H G L B) {p : Addr} (n : H p = none) : H0 p = none := by
  cases z : H0 p with
  | none => rfl
  | some o => exact absurd n (st.dm p (by rw [z]; exact fun w => by cases w))
theorem Bag.fresh {a l : Addr} (n : H l = none) (h : Bag K S H a) : Bag K (fun b => S b ∨ b = l) H a := by
  obtain ⟨r, x, i, c, ns, h1, h2, h3⟩ := h.ex
  exact ⟨r, x, i, c, ns, h1, Dz.fresh n h2, h3⟩
/-- a new list of the def's own -/
theorem St.own (st : St K S M H0 H G L B) {p : Addr} (n : H p = none) {xs : List V} {ds : List D} (h : DzL K S H ds xs) : St K (fun b => S b ∨ b = p) M H0 (upd H p (.lst xs)) G ((p, ds) :: L) B := by
  have e : Same H (upd H p (.lst xs)) := Same.upd n
  have s1 := st.same e
  refine ⟨fun b s => ?_, s1.kp, s1.dm, fun q hq => Dz.same e (Dz.fresh n (st.ga q hq)), fun q hq => ?_, fun a ha => ?_, ?_⟩
  · rcases s with s | s
    · exact s1.ok b s
    · subst s; rw [upd_same]; exact fun w => by cases w
  · rcases List.mem_cons.mp hq with z | z
    · subst z
      exact ⟨.inr rfl, .inl (st.h0 n), xs, upd_same, DzL.same e (DzL.fresh n h)⟩
    · obtain ⟨h1, h2, ys, h3, h4⟩ := st.la q z
      exact ⟨.inl h1, h2, ys, e _ _ h3, DzL.same e (DzL.fresh n h4)⟩
  · obtain ⟨h1, h2, h3⟩ := st.ba a ha
    exact ⟨.inl h1, h2, (h3.fresh n).same e⟩
  · rw [List.map_cons, List.cons_append, List.nodup_cons]
    refine ⟨fun m => ?_, st.nd⟩
    rcases List.mem_append.mp m with m | m
    · obtain ⟨q, hq, eq⟩ := List.mem_map.mp m
      have := (st.la q hq).1
      rw [eq] at this
      exact st.nS n this
    · exact st.nS n (st.ba p m).1
/-- a list of the def's own is given away: it changes no more -/
theorem St.give {p : Addr} {ds : List D} (st : St K (fun b => S b ∨ b = p) M H0 H G ((p, ds) :: L) B) (n : ¬ S p) : St K S M H0 H ((.ref p, .lst ds) :: G) L B := by
  have w : ∀ b, S b → S b ∨ b = p := fun _ => .inl
  have nd := st.nd
  rw [List.map_cons, List.cons_append, List.nodup_cons] at nd
  obtain ⟨h1, h2, xs, h3, h4⟩ := st.la (p, ds) (List.mem_cons_self ..)
  refine ⟨fun b s => st.ok b (.inl s), st.kp, st.dm, fun q hq => ?_, fun q hq => ?_, fun a ha => ?_, nd.2⟩
  · rcases List.mem_cons.mp hq with e | e
    · subst e
      exact ⟨p, xs, rfl, ⟨n, h3⟩, DzL.weak w h4⟩
    · exact Dz.weak w (st.ga q e)
  · obtain ⟨q1, q2, ys, q3, q4⟩ := st.la q (List.mem_cons_of_mem _ hq)
    have ne : q.1 ≠ p := fun e => nd.1 (List.mem_append_left _ (List.mem_map.mpr ⟨q, hq, e⟩))
    exact ⟨q1.elim id fun e => absurd e ne, q2, ys, q3, DzL.weak w q4⟩
  · obtain ⟨q1, q2, r, x, i, c, ns, q3, q4, q5⟩ := st.ba a ha
    have ne : a ≠ p := fun e => nd.1 (List.mem_append_right _ (e ▸ ha))
    exact ⟨q1.elim id fun e => absurd e ne, q2, r, x, i, c, ns, q3, Dz.weak w q4, q5⟩
theorem nodup_set_keep : ∀ {L : List (Addr × List D)} {i : Nat} {l : Addr} {ds ds' : List D}, L[i]? = some (l, ds) → (L.set i (l, ds')).map (·.1) = L.map (·.1)
  | [], i, l, ds, ds', h => by simp at h
  | p :: L, 0, l, ds, ds', h => by
    simp at h
    subst h
    rfl
  | p :: L, i + 1, l, ds, ds', h => by
    rw [List.set_cons_succ, List.map_cons, List.map_cons, nodup_set_keep (by simpa using h)]
theorem mem_set_of {α : Type} : ∀ {L : List α} {i : Nat} {x y : α}, y ∈ L.set i x → y = x ∨ ∃ j, j ≠ i ∧ L[j]? = some y
  | [], i, x, y, h => by simp at h
  | p :: L, 0, x, y, h => by
    rw [List.set_cons_zero] at h
    rcases List.mem_cons.mp h with e | e
    · exact .inl e
    · obtain ⟨j, hj, ej⟩ := List.getElem_of_mem e
      exact .inr ⟨j + 1, by omega, by simp [hj, ej]⟩
  | p :: L, i + 1, x, y, h => by
    rw [List.set_cons_succ] at h
    rcases List.mem_cons.mp h with e | e
    · exact .inr ⟨0, by omega, by simp [e]⟩
    · rcases mem_set_of e with e | ⟨j, hj, ej⟩
      · exact .inl e
      · exact .inr ⟨j + 1, by omega, by simpa using ej⟩
theorem nodup_at {L : List (Addr × List D)} {B : List Addr} (nd : (L.map (·.1) ++ B).Nodup) {i j : Nat} {p q : Addr × List D} (hi : L[i]? = some p) (hj : L[j]? = some q) (ne : j ≠ i) : q.1 ≠ p.1 := by
  have n1 := (List.nodup_append.mp nd).1
  intro e
  have a : (L.map (·.1))[i]? = some p.1 := by rw [List.getElem?_map, hi]; rfl
  have b : (L.map (·.1))[j]? = some p.1 := by rw [List.getElem?_map, hj]; exact congrArg some e
  exact ne (nd_ix n1 b a)
/-- a list of the def's own is changed -/
theorem St.put (st : St K S M H0 H G L B) {i : Nat} {l : Addr} {ds ds' : List D} {xs' : List V} (hl : L[i]? = some (l, ds)) (h : DzL K S H ds' xs') : St K S M H0 (upd H l (.lst xs')) G (L.set i (l, ds')) B := by
  have ml : (l, ds) ∈ L := List.mem_of_getElem? hl
  obtain ⟨h1, h2, xs, h3, h4⟩ := st.la (l, ds) ml
  have kp : Kp S H (upd H l (.lst xs')) := fun b o n e => by
    have h1' : S l := h1
    rw [upd_ne (fun z => n (by rw [z]; exact h1'))]; exact e
  refine ⟨fun b s => ?_, fun b o n e => ?_, fun b n => ?_, fun q hq => Dz.keep kp (fun _ z => z) (st.ga q hq), fun q hq => ?_, fun a ha => ?_, ?_⟩
  · by_cases z : b = l
    · subst z; rw [upd_same]; exact fun w => by cases w
    · rw [upd_ne z]; exact st.ok b s
  · have z : b ≠ l := fun z => by
      subst z
      rcases h2 with h2 | h2
      · rw [e] at h2; cases h2
      · exact n h2
    rw [upd_ne z]; exact st.kp b o n e
  · by_cases z : b = l
    · subst z; rw [upd_same]; exact fun w => by cases w
    · rw [upd_ne z]; exact st.dm b n
  · rcases mem_set_of hq with e | ⟨j, hj, ej⟩
    · subst e
      exact ⟨h1, h2, xs', upd_same, DzL.keep kp (fun _ z => z) h⟩
    · obtain ⟨q1, q2, ys, q3, q4⟩ := st.la q (List.mem_of_getElem? ej)
      have ne := nodup_at st.nd hl ej hj
      exact ⟨q1, q2, ys, by rw [upd_ne ne]; exact q3, DzL.keep kp (fun _ z => z) q4⟩
  · obtain ⟨q1, q2, r, x, k, c, ns, q3, q4, q5⟩ := st.ba a ha
    have ne : a ≠ l := fun e => (List.nodup_append.mp st.nd).2.2 l (List.mem_map.mpr ⟨(l, ds), ml, rfl⟩) a ha e.symm
    exact ⟨q1, q2, r, x, k, c, ns, by rw [upd_ne ne]; exact q3, Dz.keep kp (fun _ z => z) q4, q5⟩
  · rw [nodup_set_keep hl]; exact st.nd
/-- behind a call that may change the bag alone -/
theorem St.bag (st : St K S M H0 H G L B) {a : Addr} (ma : a ∈ B) (k : Kp (fun b => b = a) H H') (b : Bag K S H' a) (ub : B = [a]) : St K S M H0 H' G L B := by
  obtain ⟨h1, h2, h3⟩ := st.ba a ma
  have ms : ∀ b, b = a → S b := fun b e => e ▸ h1
  have ke : ∀ b o, b ≠ a → H b = some o → H' b = some o := fun b o n e => k b o n e
  have dm : ∀ b, H b ≠ none → H' b ≠ none := fun c n => by
    by_cases z : c = a
    · subst z
      obtain ⟨r, x, i, cc, ns, q, _⟩ := b.ex
      rw [q]; exact fun w => by cases w
    · cases q : H c with
      | none => exact absurd q n
      | some o => rw [ke c o z q]; exact fun w => by cases w
  refine ⟨fun b s => dm b (st.ok b s), fun b o n e => ?_, fun b n => dm b (st.dm b n), fun q hq => Dz.keep k ms (st.ga q hq), fun q hq => ?_, fun c hc => ?_, st.nd⟩
  · refine ke b o (fun z => ?_) (st.kp b o n e)
    subst z
    rcases h2 with h2 | h2
    · rw [e] at h2; cases h2
    · exact n h2
  · obtain ⟨q1, q2, ys, q3, q4⟩ := st.la q hq
    have ne : q.1 ≠ a := fun e => (List.nodup_append.mp st.nd).2.2 q.1 (List.mem_map.mpr ⟨q, hq, rfl⟩) a ma e
    exact ⟨q1, q2, ys, ke _ _ ne q3, DzL.keep k ms q4⟩
  · have : c = a := by rw [ub] at hc; exact List.mem_singleton.mp hc
    subst this
    exact ⟨h1, h2, b⟩
/-- at a def's start -/
theorem St.start {xs : List V} {ds : List D} (ok : Okk S H) (h : DzL K S H ds xs) : St K S (fun _ => False) H H (xs.zip ds) [] [] :=
  ⟨ok, fun _ _ _ h => h, fun _ h => h, by
    clear ok
    induction ds generalizing xs with
    | nil => cases h; intro p hp; simp at hp
    | cons d ds ih =>
      obtain ⟨x, r, e, h1, h2⟩ := h
      subst e
      intro p hp
      rw [List.zip_cons_cons] at hp
      rcases List.mem_cons.mp hp with e | e
      · subst e; exact h1
      · exact ih h2 p e, fun p hp => by simp at hp, fun p hp => by simp at hp, by simp⟩
theorem St.startB {xs : List V} {ds : List D} {a : Addr} (ok : Okk S H) (sa : S a) (b : Bag K S H a) (h : DzL K S H ds xs) : St K S (fun b => b = a) H H (xs.zip ds) [] [a] := by
  have s := St.start ok h
  exact ⟨s.ok, fun _ _ _ h => h, s.dm, s.ga, fun p hp => by simp at hp, fun c hc => by rw [List.mem_singleton.mp hc]; exact ⟨sa, .inr rfl, b⟩, by simp⟩
theorem St.end_ (st : St K S (fun _ => False) H0 H G L B) : Same H0 H := fun b o e => st.kp b o (fun z => z) e
theorem St.mem0 (st : St K S M H0 H G L B) : True := trivial
end

/-! ## 5. what a def promises: of data -/
/-- args, the wanted end by the answer's data -/
def spD (K : PySem.W.Frag) (n : Nat) (pre : List D → Prop) (post : List D → D → Prop) : Sp := fun vs H Q _ => ∃ S ds, ds.length = n ∧ Okk S H ∧ DzL K S H ds vs ∧ pre ds ∧ ∀ v d H', Same H H' → Dz K S H' d v → post ds d → Q v H'
def spB (K : PySem.W.Frag) (n : Nat) (pre : List D → Prop) (post : List D → D → Prop) : Sp := fun vs H Q _ => ∃ S a r ds, vs = .ref a :: r ∧ ds.length = n ∧ Okk S H ∧ S a ∧ Bag K S H a ∧ DzL K S H ds r ∧ pre ds ∧
  ∀ v d H', Kp (fun b => b = a) H H' → Bag K S H' a → Dz K S H' d v → post ds d → Q v H'
theorem spD_len {K : PySem.W.Frag} {n : Nat} {pre : List D → Prop} {post : List D → D → Prop} {vs : List V} {H : Hp} {Q : VK} {E : XK} (h : spD K n pre post vs H Q E) : vs.length = n := by
  obtain ⟨S, ds, hl, _, hz, _⟩ := h
  rw [← hl]; exact hz.len
theorem spB_len {K : PySem.W.Frag} {n : Nat} {pre : List D → Prop} {post : List D → D → Prop} {vs : List V} {H : Hp} {Q : VK} {E : XK} (h : spB K n pre post vs H Q E) : vs.length = n + 1 := by
  obtain ⟨S, a, r, ds, e, hl, _, _, _, hz, _⟩ := h
  rw [e, List.length_cons, ← hl, hz.len]
end Vf
namespace Vf
open PySem PySem.Spec PyProof.Rows L2

/-! ## 6. operators, one rule a sign -/
def rAddI : R2 := rI0 fun i j => .int (i + j)
def rAddSt : R2 := fun x y H Q => ∃ i j, x = .str i ∧ y = .str j ∧ i.length + j.length ≤ sizeLine ∧ Q (.str (i ++ j)) H
def rAddG (K : PySem.W.Frag) : R2 := fun x y H Q => rAddI x y H Q ∨ rAddSt x y H Q ∨ rCat x y H Q ∨ rCatA K x y H Q
def rSubG : R2 := rI0 fun i j => .int (i - j)
def rMulI : R2 := rI CMul fun i j => .int (i * j)
def rMulW : R2 := rI CMulW fun i j => .int (i * j)
def rMulS : R2 := fun x y H Q => ∃ (z : Str) (n : Nat), x = .str z ∧ y = .int n ∧ z.length * n ≤ 1000000 ∧ n ≤ 1000000 ∧ Q (.str ⟨(List.replicate n z.cps).foldl (· ++ ·) #[]⟩) H
def rMulG : R2 := fun x y H Q => rMulI x y H Q ∨ rMulW x y H Q ∨ rMulS x y H Q
def rDivG : R2 := rI CDivW fun i j => .int (i / j)
def rModG : R2 := rI (fun _ j => 0 < j) fun i j => .int (i % j)
def rPowG : R2 := rI CPow fun i j => .int (i ^ j.toNat)
def rEqG (K : PySem.W.Frag) : R2 := fun x y H Q => rEq x y H Q ∨ rEqD K x y H Q
def rNeG (K : PySem.W.Frag) : R2 := fun x y H Q => rNe x y H Q ∨ rNeD K x y H Q
def rLtG : R2 := rI0 fun i j => .bl (decide (i < j))
def rLeG : R2 := rI0 fun i j => .bl (decide (i ≤ j))
def rGtG : R2 := rI0 fun i j => .bl (decide (j < i))
def rGeG : R2 := rI0 fun i j => .bl (decide (j ≤ i))
def rInSg (neg : Bool) : R2 := fun x y H Q => ∃ (c : Nat) (z : Str), x = .str ⟨#[c]⟩ ∧ y = .str z ∧ Q (.bl (if neg then !decide (c ∈ z.cps.toList) else decide (c ∈ z.cps.toList))) H
def rInG (K : PySem.W.Frag) : R2 := fun x y H Q => rIn K false x y H Q ∨ rInSg false x y H Q
def rNiG (K : PySem.W.Frag) : R2 := fun x y H Q => rIn K true x y H Q ∨ rInSg true x y H Q
def rIxG (K : PySem.W.Frag) : R2 := rIx K
def rSlG (K : PySem.W.Frag) : V → Option Int → Option Int → Hp → VK → Prop := fun x lo hi H Q => rSlL K x lo hi H Q ∨ rSlA K x lo hi H Q ∨ rSlS x lo hi H Q

section
variable {X : Cx}
theorem opMulS : OpR X (binaryOp .Mult) rMulS := by
  intro pins s σ H x y v u Q I rx ry h
  obtain ⟨z, n, rfl, rfl, h1, h2, q⟩ := h
  obtain ⟨t, rfl⟩ := rx
  obtain ⟨t', rfl⟩ := ry
  have e0 : ¬ ((n : Int) < -(2 ^ 63 : Int)) := by omega
  have e1 : ¬ ((n : Int) ≥ 2 ^ 63) := by omega
  refine PySem.P.mul_str (by rw [decide_eq_false e0, decide_eq_false e1]; rfl) (fun h3 _ => ?_) (fun _ _ => ?_) ?_
  · have hn : 0 < n := by omega
    intro h4
    have h5 : ((2 : Int) ^ 63 - 1) / n < z.length := h4
    have h6 := Int.lt_mul_of_ediv_lt (by omega : (0 : Int) < n) h5
    have h7 : ((z.length * n : Nat) : Int) ≤ 1000000 := Int.ofNat_le.mpr h1
    rw [Int.natCast_mul] at h7
    generalize (z.length : Int) * n = g at h6 h7
    have h9 : (2 : Int) ^ 63 - 1 = 9223372036854775807 := by decide
    rw [h9] at h6
    omega
  · rw [Int.toNat_natCast]
    have hs : z.length * n ≤ 16777216 := by omega
    exact decide_eq_false (by rw [sizeLine_eq]; omega)
  · by_cases hn : n = 0
    · subst hn
      rw [if_pos (by decide)]
      refine ⟨by decide, ?_⟩
      exact ⟨.str _, H, I.tok _, ⟨_, rfl⟩, q⟩
    · rw [if_neg (by omega)]
      by_cases hz : ((n : Int) == 1 || z.length == 0) = true
      · rw [if_pos hz]
        refine ⟨.str z, H, I, ⟨t, rfl⟩, ?_⟩
        have e : (⟨(List.replicate n z.cps).foldl (· ++ ·) #[]⟩ : Str) = z := by
          rcases (Bool.or_eq_true _ _).mp hz with w | w
          · have : n = 1 := by
              have := of_decide_eq_true w
              omega
            subst this
            simp [List.replicate]
          · have w2 : z.cps = #[] := by
              have w3 : z.cps.size = 0 := by
                have w4 : (z.length == 0) = true := w
                exact of_decide_eq_true w4
              exact Array.eq_empty_of_size_eq_zero w3
            have : ∀ k : Nat, (List.replicate k (#[] : Array Nat)).foldl (· ++ ·) #[] = #[] := fun k => by
              induction k with
              | zero => rfl
              | succ k ih => simp [List.replicate_succ, ih]
            obtain ⟨cs⟩ := z
            simp only at w2
            subst w2
            simp only [this]
        rw [e] at q
        exact q
      · rw [if_neg hz]
        have hl : (⟨(List.replicate n z.cps).foldl (· ++ ·) #[]⟩ : Str).length = z.length * n := by
          have : ∀ (k : Nat) (a : Array Nat), ((List.replicate k z.cps).foldl (· ++ ·) a).size = a.size + z.cps.size * k := fun k => by
            induction k with
            | zero => intro a; simp
            | succ k ih => intro a; rw [List.replicate_succ, List.foldl_cons, ih, Array.size_append, Nat.mul_succ]; omega
          show ((List.replicate n z.cps).foldl (· ++ ·) #[]).size = z.cps.size * n
          rw [this]
          simp
        rw [Int.toNat_natCast]
        refine ⟨by rw [hl, sizeLine_eq]; omega, ?_⟩
        exact ⟨.str _, H, I.tok _, ⟨_, rfl⟩, q⟩
theorem opAdd : OpR X (binaryOp .Add) (rAddG X.K) := OpR.or op_add (OpR.or op_add_str (OpR.or op_cat op_catA))
theorem opSub : OpR X (binaryOp .Sub) rSubG := op_sub
theorem opMul : OpR X (binaryOp .Mult) rMulG := OpR.or op_mul (OpR.or op_mulW opMulS)
theorem opDiv : OpR X (binaryOp .FloorDiv) rDivG := op_fdivW
theorem opMod : OpR X (binaryOp .Mod) rModG := op_mod
theorem opPow : OpR X (binaryOp .Pow) rPowG := op_pow
theorem opEq (hu : X.A.units + 64 < cLine) : OpR X (compareOp .Eq) (rEqG X.K) := OpR.or op_eq (op_eqD hu)
theorem opNe (hu : X.A.units + 64 < cLine) : OpR X (compareOp .NotEq) (rNeG X.K) := OpR.or op_ne (op_neD hu)
theorem opLt : OpR X (compareOp .Lt) rLtG := op_lt
theorem opLe : OpR X (compareOp .LtE) rLeG := op_le
theorem opGt : OpR X (compareOp .Gt) rGtG := op_gt
theorem opGe : OpR X (compareOp .GtE) rGeG := op_ge
theorem opIn : OpR X (compareOp .In) (rInG X.K) := OpR.or op_in_seq op_in_sign
theorem opNi : OpR X (compareOp .NotIn) (rNiG X.K) := OpR.or op_notIn_seq op_notIn_sign
theorem ixG : IxR X (rIxG X.K) := ix_seq
theorem slG : SlR X (rSlG X.K) := SlR.or sl_list (SlR.or sl_tupA sl_str)
end
end Vf
namespace Vf
open PySem PySem.Spec PyProof.Rows L2 RZ

/-! ## 7. readings, step by step -/
/-! continuations by name: what follows stays an argument -/
def FB (Q : Bool → Hp → Prop) : VK := fun x H => ∃ k, x = .bl k ∧ Q k H
def FTup (Q : VK) : List V → Hp → Prop := fun xs H => xs.length ≤ sizeLine ∧ ∀ p, H p = none → Q (.ref p) (upd H p (.tup xs))
def FLst (Q : VK) : List V → Hp → Prop := fun xs H => xs.length ≤ sizeLine ∧ ∀ p, H p = none → Q (.ref p) (upd H p (.lst xs))
def FAndV (tb : TE) (σ : L2.St) (Q : VK) : VK := fun x H => ∃ c, x = .bl c ∧ if c = true then tb σ H Q else Q (.bl false) H
def FOrV (tb : TE) (σ : L2.St) (Q : VK) : VK := fun x H => ∃ c, x = .bl c ∧ if c = true then Q (.bl true) H else tb σ H Q
def FNotV (Q : VK) : VK := fun x H => ∃ c, x = .bl c ∧ Q (.bl (!c)) H
def FChain (r' : R2) (tc : TE) (σ : L2.St) (Q : VK) : VK := fun z H => ∃ k, z = .bl k ∧ (if k = true then tc σ H fun w H4 => r' V.non w H4 Q else Q (.bl false) H)
def FInt (Q : Option Int → Hp → Prop) : VK := fun x H => ∃ i, x = .int i ∧ Q (some i) H
def FStr1 (r : V → List V → Hp → VK → Prop) (Q : VK) : VK := fun x H => (∃ a, x = .str a) ∧ r x [] H Q
def FStr2 (te : TE) (σ : L2.St) (r : V → List V → Hp → VK → Prop) (Q : VK) : VK := fun x H => (∃ a, x = .str a) ∧ te σ H fun y H2 => r x [y] H2 Q
def FBm (K : PySem.W.Frag) (T : String) (t : TA) (σ : L2.St) (r : V → List V → Hp → VK → Prop) (Q : VK) : VK := fun x H => tyV K T x H ∧ t σ H fun xs H2 => r x xs H2 Q
def FBm0 (K : PySem.W.Frag) (T : String) (r : V → List V → Hp → VK → Prop) (Q : VK) : VK := fun x H => tyV K T x H ∧ r x [] H Q
def FItl (K : PySem.W.Frag) (R : It → Hp → Prop) : VK := fun x H => ∃ a, x = .ref a ∧ (∃ xs, SqL K H a xs) ∧ R (Itl K a) H
def FItt (K : PySem.W.Frag) (R : It → Hp → Prop) : VK := fun x H => ∃ a, x = .ref a ∧ (∃ xs, SqT K H a xs) ∧ R (Itt K a) H
def FIts (R : It → Hp → Prop) : VK := fun v H => ∃ x, v = .str x ∧ R (Its x) H
def FRng (R : It → Hp → Prop) : List V → Hp → Prop := fun vs H => ∃ j : Int, vs = [.int j] ∧ -(2 ^ 62) ≤ j ∧ j < 2 ^ 62 ∧ R (Itr 0 j.toNat) H
def FRng2 (R : It → Hp → Prop) : List V → Hp → Prop := fun vs H => ∃ i j : Int, vs = [.int i, .int j] ∧ (-(2 ^ 62) ≤ i ∧ i < 2 ^ 62 ∧ -(2 ^ 62) ≤ j ∧ j < 2 ^ 62) ∧ R (Itr i (j - i).toNat) H
def FZip (K : PySem.W.Frag) (R : It → Hp → Prop) : List V → Hp → Prop := fun vs H => ∃ a b xs ys, vs = [.ref a, .ref b] ∧ ((SqL K H a xs ∧ SqL K H b ys ∧ R (Itz K a b) H) ∨ (SqT K H a xs ∧ SqT K H b ys ∧ R (ItzT K a b) H))
def FEnum (K : PySem.W.Frag) (R : It → Hp → Prop) : List V → Hp → Prop := fun vs H => ∃ a xs, vs = [.ref a] ∧ SqL K H a xs ∧ R (Ite K a) H
def FFor (g : TG) (tb : TS) (D : Ends) (σ : L2.St) : It → Hp → Prop := fun J H1 => ∃ W : Nat → Nat → L2.St → Hp → Prop, (∃ m, W 0 m σ H1) ∧ ∀ i m σ H, W i m σ H → (J.stop i H ∧ D.nx σ H) ∨ (J.go i H ∧ ∃ N : L2.St → Hp → Prop, (∀ σ' H', N σ' H' → ∃ m', m' < m ∧ W (i + 1) m' σ' H') ∧ ∀ x H', J.yld i H x H' → g x σ H' fun σ2 H2 => tb { D with nx := N, ct := N, bk := D.nx } σ2 H2)
def FLc (g : TG) (tt : TT) (te : TE) (ws : List Nat) (σ : L2.St) (Q : VK) : It → Hp → Prop := fun J H1 => ∀ D, H1 D = none → ∃ W : Nat → Nat → Hp → Prop, (∃ m, W 0 m (upd H1 D (.lst []))) ∧ ∀ i m H, W i m H →
    (J.stop i H ∧ Q (.ref D) H) ∨ (J.go i H ∧ ∃ Nx : Hp → Prop, (∀ H', Nx H' → ∃ m', m' < m ∧ W (i + 1) m' H') ∧ ∀ x H', J.yld i H x H' → g x (wipe σ ws) H' fun σ2 H2 => wipe σ2 ws = wipe σ ws ∧ tt σ2 H2 fun b H3 =>
      if b = true then te σ2 H3 fun y H4 => ∃ acc, H4 D = some (.lst acc) ∧ acc.length < sizeLine ∧ Nx (upd H4 D (.lst (acc ++ [y]))) else Nx H3)
def FTru (K : PySem.W.Frag) (Q : Bool → Hp → Prop) : VK := fun x H => ∃ k, TruV K x H k ∧ Q k H
def FOrT (K : PySem.W.Frag) (tb : TE) (σ : L2.St) (Q : VK) : VK := fun x H => ∃ k, TruV K x H k ∧ if k = true then Q x H else tb σ H Q
def FAndT (K : PySem.W.Frag) (tb : TE) (σ : L2.St) (Q : VK) : VK := fun x H => ∃ k, TruV K x H k ∧ if k = true then tb σ H Q else Q x H
def FNotT (K : PySem.W.Frag) (Q : VK) : VK := fun x H => ∃ k, TruV K x H k ∧ Q (.bl (!k)) H
def FGTup (K : PySem.W.Frag) (n : Nat) (t : TGs) (σ : L2.St) (N : L2.St → Hp → Prop) : VK := fun v H => ∃ a xs, v = .ref a ∧ SqT K H a xs ∧ xs.length = n ∧ t xs σ H N

section
variable {σ : L2.St} {H : Hp} {Q : VK} {v x y : V} {ta tb tc te : TE} {t : TA} {K : PySem.W.Frag} {D : Ends} {b k : Bool} {QB : Bool → Hp → Prop} {QA : List V → Hp → Prop} {A B : Prop}
theorem g_var {i : Nat} (h : σ[i]? = some (some v)) (q : Q v H) : tVar i σ H Q := ⟨v, h, q⟩
theorem g_c (q : Q v H) : tC v σ H Q := q
theorem g_op {r : R2} (h : ta σ H fun x H1 => tb σ H1 fun y H2 => r x y H2 Q) : tOp r ta tb σ H Q := h
theorem g_un {r : V → Hp → VK → Prop} (h : ta σ H fun x H1 => r x H1 Q) : tUn r ta σ H Q := h
theorem g_cb {r : List V → Hp → VK → Prop} (h : t σ H fun vs H1 => r vs H1 Q) : tCB r t σ H Q := h
theorem g_nil (q : QA [] H) : tNil σ H QA := q
theorem g_cons (h : ta σ H fun x H1 => t σ H1 fun xs H2 => QA (x :: xs) H2) : tCons ta t σ H QA := h
theorem g_seq {t u : TS} (h : t { D with nx := u D } σ H) : tSeq t u D σ H := h
theorem g_next (q : D.nx σ H) : tNext D σ H := q
theorem g_brk (q : D.bk σ H) : tBreak D σ H := q
theorem g_cont (q : D.ct σ H) : tCont D σ H := q
theorem g_drop (h : te σ H fun _ H1 => D.nx σ H1) : tDrop te D σ H := h
theorem g_ret (h : te σ H D.rt) : tRet te D σ H := h
theorem g_retN (h : D.rt .non H) : tRetN D σ H := h
theorem g_asg {g : TG} (h : te σ H fun x H1 => g x σ H1 D.nx) : tAsg te g D σ H := h
theorem g_name {i : Nat} {N : L2.St → Hp → Prop} (q : N (σ.set i (some v)) H) : gName i v σ H N := q
theorem g_ifS {c : TT} {t u : TS} (h : c σ H fun b H1 => if b = true then t D σ H1 else u D σ H1) : tIfS c t u D σ H := h
theorem g_test (h : te σ H (FB QB)) : tTest te σ H QB := h
theorem g_tB (h : te σ H (FB QB)) : tB te σ H QB := h
theorem g_bl (q : QB b H) : FB QB (.bl b) H := ⟨b, rfl, q⟩
theorem g_bl2 {P : Bool → Prop} (q : P b) : ∃ k, V.bl b = .bl k ∧ P k := ⟨b, rfl, q⟩
theorem g_and {t u : TT} (h : t σ H fun c H1 => if c = true then u σ H1 QB else QB false H1) : tAnd t u σ H QB := h
theorem g_or {t u : TT} (h : t σ H fun c H1 => if c = true then QB true H1 else u σ H1 QB) : tOr t u σ H QB := h
theorem g_not {t : TT} (h : t σ H fun c H1 => QB (!c) H1) : tNot t σ H QB := h
theorem g_andV (h : ta σ H (FAndV tb σ Q)) : tAndV ta tb σ H Q := h
theorem g_andV1 (h : if b = true then tb σ H Q else Q (.bl false) H) : FAndV tb σ Q (.bl b) H := ⟨b, rfl, h⟩
theorem g_orV (h : ta σ H (FOrV tb σ Q)) : tOrV ta tb σ H Q := h
theorem g_orV1 (h : if b = true then Q (.bl true) H else tb σ H Q) : FOrV tb σ Q (.bl b) H := ⟨b, rfl, h⟩
theorem g_notV (h : ta σ H (FNotV Q)) : tNotV ta σ H Q := h
theorem g_notV1 (h : Q (.bl (!b)) H) : FNotV Q (.bl b) H := ⟨b, rfl, h⟩
theorem g_if {t : TT} (h : t σ H fun c H1 => if c = true then ta σ H1 Q else tb σ H1 Q) : tIf t ta tb σ H Q := h
theorem g_chain {r r' : R2} (h : ta σ H fun x H1 => tb σ H1 fun y H2 => r x y H2 fun z H3 => FB (fun k H3 => if k = true then tc σ H3 fun w' H4 => r' y w' H4 Q else Q (.bl false) H3) z H3) : tChain r r' ta tb tc σ H Q := h
theorem g_tup (h : t σ H (FTup Q)) : tTup t σ H Q := h
theorem g_lst (h : t σ H (FLst Q)) : tLst t σ H Q := h
theorem g_call {sp : Sp} {E : XK} (h : t σ H fun vs H1 => sp vs H1 Q E) : tCall sp [] E t σ H Q := by
  show t σ H fun vs H1 => sp (vs ++ []) H1 Q E
  simpa only [List.append_nil] using h
theorem g_callD {sp : Sp} {dvs : List V} {E : XK} (h : t σ H fun vs H1 => sp (vs ++ dvs) H1 Q E) : tCall sp dvs E t σ H Q := h
theorem g_sl {r : V → Option Int → Option Int → Hp → VK → Prop} {tl th : TO} (h : te σ H fun x H1 => tl σ H1 fun l H2 => th σ H2 fun u H3 => r x l u H3 Q) : tSl r te tl th σ H Q := h
theorem g_nopart {QO : Option Int → Hp → Prop} (h : QO none H) : tNoPart σ H QO := h
theorem g_part {QO : Option Int → Hp → Prop} (h : te σ H (FInt QO)) : tPart te σ H QO := h
theorem g_int {i : Int} {QO : Option Int → Hp → Prop} (q : QO (some i) H) : FInt QO (.int i) H := ⟨i, rfl, q⟩
theorem g_for {wi : TI} {g : TG} {tb : TS} (h : wi σ H (FFor g tb D σ)) : tFor wi g tb D σ H := h
theorem g_bm {T : String} {r : V → List V → Hp → VK → Prop} {to : TE} (h : to σ H (FBm K T t σ r Q)) : tBM K T r to t σ H Q := h
theorem g_bm0 {T : String} {r : V → List V → Hp → VK → Prop} {to : TE} (h : to σ H (FBm0 K T r Q)) : tBM0 K T r to σ H Q := h
theorem g_m0 {r : V → List V → Hp → VK → Prop} {to : TE} (h : to σ H (FStr1 r Q)) : tM0 r to σ H Q := h
theorem g_m1 {r : V → List V → Hp → VK → Prop} {to : TE} (h : to σ H (FStr2 te σ r Q)) : tM1 r to te σ H Q := h
theorem g_str1 {z : Str} {r : V → List V → Hp → VK → Prop} (h : r (.str z) [] H Q) : FStr1 r Q (.str z) H := ⟨⟨z, rfl⟩, h⟩
theorem g_str2 {z : Str} {r : V → List V → Hp → VK → Prop} (h : te σ H fun y H2 => r (.str z) [y] H2 Q) : FStr2 te σ r Q (.str z) H := ⟨⟨z, rfl⟩, h⟩
theorem g_tru (h : te σ H (FTru K QB)) : (fun (σ : L2.St) (H : Hp) (Q : Bool → Hp → Prop) => te σ H fun x H' => ∃ k, TruV K x H' k ∧ Q k H') σ H QB := h
theorem g_tru1 (h : TruV K v H b) (q : QB b H) : FTru K QB v H := ⟨b, h, q⟩
theorem g_orT (h : ta σ H (FOrT K tb σ Q)) : tOrT K ta tb σ H Q := h
theorem g_andT (h : ta σ H (FAndT K tb σ Q)) : tAndT K ta tb σ H Q := h
theorem g_notT (h : ta σ H (FNotT K Q)) : tNotT K ta σ H Q := h
theorem g_orT1 (h : TruV K v H b) (q : if b = true then Q v H else tb σ H Q) : FOrT K tb σ Q v H := ⟨b, h, q⟩
theorem g_andT1 (h : TruV K v H b) (q : if b = true then tb σ H Q else Q v H) : FAndT K tb σ Q v H := ⟨b, h, q⟩
theorem g_notT1 (h : TruV K v H b) (q : Q (.bl (!b)) H) : FNotT K Q v H := ⟨b, h, q⟩
theorem g_gtup {n : Nat} {tg : TGs} {N : L2.St → Hp → Prop} (h : FGTup K n tg σ N v H) : gTup K n tg v σ H N := h
theorem g_gcons {g : TG} {u : TGs} {xs : List V} {N : L2.St → Hp → Prop} (h : g v σ H fun σ' H' => u xs σ' H' N) : gCons g u (v :: xs) σ H N := ⟨v, xs, rfl, h⟩
theorem g_gnil {N : L2.St → Hp → Prop} (h : N σ H) : gNil [] σ H N := ⟨rfl, h⟩
theorem g_par {i j : Nat} (h : t σ H fun vs H1 => ∃ v w, vs = [v, w] ∧ D.nx ((σ.set i (some v)).set j (some w)) H1) : tPar i j t D σ H := h
theorem g_par1 {x y : V} {P : V → V → Prop} (h : P x y) : ∃ v w, [x, y] = [v, w] ∧ P v w := ⟨x, y, rfl, h⟩
theorem g_iteT (h : A) : if true = true then A else B := iteT h
theorem g_iteF (h : B) : if false = true then A else B := iteF h
theorem g_ite {c : Bool} (h1 : c = true → A) (h2 : c = false → B) : if c = true then A else B := by
  cases c with
  | true => exact iteT (h1 rfl)
  | false => exact iteF (h2 rfl)
theorem g_dec {P : Prop} [Decidable P] (h1 : P → A) (h2 : ¬ P → B) : if decide P = true then A else B := by
  by_cases h : P
  · rw [decide_eq_true h]; exact iteT (h1 h)
  · rw [decide_eq_false h]; exact iteF (h2 h)
theorem g_decN {P : Prop} [Decidable P] (h1 : ¬ P → A) (h2 : P → B) : if (!decide P) = true then A else B := by
  by_cases h : P
  · rw [decide_eq_true h]; exact iteF (h2 h)
  · rw [decide_eq_false h]; exact iteT (h1 h)

/-! ### by values: ints -/
variable {i j : Int} {z w : Str}
theorem v_add (q : Q (.int (i + j)) H) : rAddG K (.int i) (.int j) H Q := .inl ⟨i, j, rfl, rfl, q⟩
theorem v_addS (hl : z.length + w.length ≤ sizeLine) (q : Q (.str (z ++ w)) H) : rAddG K (.str z) (.str w) H Q := .inr (.inl ⟨z, w, rfl, rfl, hl, q⟩)
theorem v_sub (q : Q (.int (i - j)) H) : rSubG (.int i) (.int j) H Q := ⟨i, j, rfl, rfl, q⟩
theorem v_mulL (h : -(2 ^ 64) < i ∧ i < 2 ^ 64) (q : Q (.int (i * j)) H) : rMulG (.int i) (.int j) H Q := .inl ⟨i, j, rfl, rfl, .inl h, q⟩
theorem v_mulR (h : -(2 ^ 64) < j ∧ j < 2 ^ 64) (q : Q (.int (i * j)) H) : rMulG (.int i) (.int j) H Q := .inl ⟨i, j, rfl, rfl, .inr h, q⟩
theorem v_mulW (h : CMulW i j) (q : Q (.int (i * j)) H) : rMulG (.int i) (.int j) H Q := .inr (.inl ⟨i, j, rfl, rfl, h, q⟩)
theorem v_mulS {n : Nat} (h : z.length * n ≤ 1000000) (h2 : n ≤ 1000000) (q : Q (.str ⟨(List.replicate n z.cps).foldl (· ++ ·) #[]⟩) H) : rMulG (.str z) (.int n) H Q := .inr (.inr ⟨z, n, rfl, rfl, h, h2, q⟩)
theorem v_div (h : CDivW i j) (q : Q (.int (i / j)) H) : rDivG (.int i) (.int j) H Q := ⟨i, j, rfl, rfl, h, q⟩
theorem v_mod (h : 0 < j) (q : Q (.int (i % j)) H) : rModG (.int i) (.int j) H Q := ⟨i, j, rfl, rfl, h, q⟩
theorem v_pow (h : CPow i j) (q : Q (.int (i ^ j.toNat)) H) : rPowG (.int i) (.int j) H Q := ⟨i, j, rfl, rfl, h, q⟩
theorem v_lt (q : Q (.bl (decide (i < j))) H) : rLtG (.int i) (.int j) H Q := ⟨i, j, rfl, rfl, q⟩
theorem v_le (q : Q (.bl (decide (i ≤ j))) H) : rLeG (.int i) (.int j) H Q := ⟨i, j, rfl, rfl, q⟩
theorem v_gt (q : Q (.bl (decide (j < i))) H) : rGtG (.int i) (.int j) H Q := ⟨i, j, rfl, rfl, q⟩
theorem v_ge (q : Q (.bl (decide (j ≤ i))) H) : rGeG (.int i) (.int j) H Q := ⟨i, j, rfl, rfl, q⟩
theorem dec_ii : decide (V.int i = V.int j) = decide (i = j) := by
  by_cases h : i = j
  · subst h; simp
  · rw [decide_eq_false h]; exact decide_eq_false fun e => h (V.int.inj e)
theorem dec_ss : decide (V.str z = V.str w) = decide (z = w) := by
  by_cases h : z = w
  · subst h; simp
  · rw [decide_eq_false h]; exact decide_eq_false fun e => h (V.str.inj e)
theorem dec_bb {b c : Bool} : decide (V.bl b = V.bl c) = decide (b = c) := by cases b <;> cases c <;> rfl
theorem v_eqI (q : Q (.bl (decide (i = j))) H) : rEqG K (.int i) (.int j) H Q := .inl ⟨rfl, by rw [dec_ii]; exact q⟩
theorem v_neI (q : Q (.bl (!decide (i = j))) H) : rNeG K (.int i) (.int j) H Q := .inl ⟨rfl, by rw [dec_ii]; exact q⟩
theorem v_eqS (q : Q (.bl (decide (z = w))) H) : rEqG K (.str z) (.str w) H Q := .inl ⟨rfl, by rw [dec_ss]; exact q⟩
theorem v_neS (q : Q (.bl (!decide (z = w))) H) : rNeG K (.str z) (.str w) H Q := .inl ⟨rfl, by rw [dec_ss]; exact q⟩
theorem v_eqB {c : Bool} (q : Q (.bl (decide (b = c))) H) : rEqG K (.bl b) (.bl c) H Q := .inl ⟨rfl, by rw [dec_bb]; exact q⟩
theorem v_neB {c : Bool} (q : Q (.bl (!decide (b = c))) H) : rNeG K (.bl b) (.bl c) H Q := .inl ⟨rfl, by rw [dec_bb]; exact q⟩
theorem v_inSg {c : Nat} (q : Q (.bl (decide (c ∈ z.cps.toList))) H) : rInG K (.str ⟨#[c]⟩) (.str z) H Q := .inr ⟨c, z, rfl, rfl, q⟩
theorem v_niSg {c : Nat} (q : Q (.bl (!decide (c ∈ z.cps.toList))) H) : rNiG K (.str ⟨#[c]⟩) (.str z) H Q := .inr ⟨c, z, rfl, rfl, q⟩
end

/-! ### by data -/
section
variable {K : PySem.W.Frag} {S M : AS} {H0 H : Hp} {G : List (V × D)} {L : List (Addr × List D)} {B : List Addr} {Q : VK} {x y : V} {d e : D} {ds es : List D} {xs vs : List V}
theorem z_int {i : Int} : Dz K S H (.int i) (.int i) := rfl
theorem z_str {i : Str} : Dz K S H (.str i) (.str i) := rfl
theorem z_bl {i : Bool} : Dz K S H (.bl i) (.bl i) := rfl
theorem z_non : Dz K S H .non .non := rfl
theorem zl_nil : DzL K S H [] [] := rfl
theorem zl_cons (h : Dz K S H d x) (r : DzL K S H ds xs) : DzL K S H (d :: ds) (x :: xs) := ⟨x, xs, rfl, h, r⟩
theorem z_tup {a : Addr} (h : Dz K S H (.tup ds) (.ref a)) : ∃ xs, LzT K S H a xs ∧ DzL K S H ds xs := by
  obtain ⟨b, xs, e, h1, h2⟩ := h
  cases e
  exact ⟨xs, h1, h2⟩
theorem z_lst {a : Addr} (h : Dz K S H (.lst ds) (.ref a)) : ∃ xs, LzL K S H a xs ∧ DzL K S H ds xs := by
  obtain ⟨b, xs, e, h1, h2⟩ := h
  cases e
  exact ⟨xs, h1, h2⟩
/-- a new tuple, a new list -/
theorem d_tup (st : St K S M H0 H G L B) (hz : DzL K S H ds xs) (hl : xs.length ≤ 100000) (q : ∀ p H', St K S M H0 H' ((.ref p, .tup ds) :: G) L B → Q (.ref p) H') :
    FTup Q xs H := ⟨Nat.le_trans hl (by decide), fun p n => q p _ (st.tup n hz)⟩
theorem d_lst (st : St K S M H0 H G L B) (hz : DzL K S H ds xs) (hl : xs.length ≤ 100000) (q : ∀ p H', St K S M H0 H' ((.ref p, .lst ds) :: G) L B → Q (.ref p) H') :
    FLst Q xs H := ⟨Nat.le_trans hl (by decide), fun p n => q p _ (st.lst n hz)⟩
/-- a new list of one's own -/
theorem d_own (st : St K S M H0 H G L B) (hz : DzL K S H ds xs) (hl : xs.length ≤ 100000) (q : ∀ p H', ¬ S p → St K (fun b => S b ∨ b = p) M H0 H' G ((p, ds) :: L) B → Q (.ref p) H') :
    FLst Q xs H := ⟨Nat.le_trans hl (by decide), fun p n => q p _ (st.nS n) (st.own n hz)⟩
/-- an item of a list, a tuple -/
theorem d_ixL {a : Addr} {i : Nat} (h : Dz K S H (.lst ds) (.ref a)) (hi : ds[i]? = some d) (q : ∀ v, Dz K S H d v → Q v H) : rIxG K (.ref a) (.int (i : Nat)) H Q := by
  obtain ⟨xs, h1, h2⟩ := z_lst h
  obtain ⟨v, e, hv⟩ := h2.get hi
  exact .inl ⟨a, xs, _, v, rfl, rfl, h1.sq, atI_nat e, q v hv⟩
theorem d_ixT {a : Addr} {i : Nat} (h : Dz K S H (.tup ds) (.ref a)) (hi : ds[i]? = some d) (q : ∀ v, Dz K S H d v → Q v H) : rIxG K (.ref a) (.int (i : Nat)) H Q := by
  obtain ⟨xs, h1, h2⟩ := z_tup h
  obtain ⟨v, e, hv⟩ := h2.get hi
  exact .inr (.inl ⟨a, xs, _, v, rfl, rfl, h1.sq, atI_nat e, q v hv⟩)
theorem d_ixLI {a : Addr} {i : Int} (h : Dz K S H (.lst ds) (.ref a)) (h0 : 0 ≤ i) (hi : ds[i.toNat]? = some d) (q : ∀ v, Dz K S H d v → Q v H) : rIxG K (.ref a) (.int i) H Q := by
  have e : i = ((i.toNat : Nat) : Int) := by omega
  rw [e]
  exact d_ixL h hi q
theorem d_ixTI {a : Addr} {i : Int} (h : Dz K S H (.tup ds) (.ref a)) (h0 : 0 ≤ i) (hi : ds[i.toNat]? = some d) (q : ∀ v, Dz K S H d v → Q v H) : rIxG K (.ref a) (.int i) H Q := by
  have e : i = ((i.toNat : Nat) : Int) := by omega
  rw [e]
  exact d_ixT h hi q
/-- an item at a place that is drawn: P holds of all items -/
theorem d_ixLP {a : Addr} {i : Int} {P : D → Prop} (h : Dz K S H (.lst ds) (.ref a)) (h0 : 0 ≤ i) (h1 : i < (ds.length : Int)) (hp : ∀ d ∈ ds, P d) (q : ∀ v d, P d → Dz K S H d v → Q v H) : rIxG K (.ref a) (.int i) H Q := by
  have hl : i.toNat < ds.length := by omega
  refine d_ixLI (d := ds[i.toNat]) h h0 (by simp [hl]) fun v hv => q v _ (hp _ (List.getElem_mem hl)) hv
theorem d_ixTP {a : Addr} {i : Int} {P : D → Prop} (h : Dz K S H (.tup ds) (.ref a)) (h0 : 0 ≤ i) (h1 : i < (ds.length : Int)) (hp : ∀ d ∈ ds, P d) (q : ∀ v d, P d → Dz K S H d v → Q v H) : rIxG K (.ref a) (.int i) H Q := by
  have hl : i.toNat < ds.length := by omega
  refine d_ixTI (d := ds[i.toNat]) h h0 (by simp [hl]) fun v hv => q v _ (hp _ (List.getElem_mem hl)) hv
/-- a call whose promise is of data -/
theorem d_call {n : Nat} {pre : List D → Prop} {post : List D → D → Prop} {E : XK} (st : St K S M H0 H G L B) (hz : DzL K S H ds vs) (hn : ds.length = n) (hp : pre ds)
    (q : ∀ v d H', post ds d → St K S M H0 H' ((v, d) :: G) L B → Q v H') : spD K n pre post vs H Q E :=
  ⟨S, ds, hn, st.ok, hz, hp, fun v d H' e hv po => q v d H' po ((st.same e).add hv)⟩
theorem d_callB {n : Nat} {pre : List D → Prop} {post : List D → D → Prop} {E : XK} {a : Addr} (st : St K S M H0 H G L [a]) (hz : DzL K S H ds vs) (hn : ds.length = n) (hp : pre ds)
    (q : ∀ v d H', post ds d → St K S M H0 H' ((v, d) :: G) L [a] → Q v H') : spB K n pre post (.ref a :: vs) H Q E :=
  ⟨S, a, vs, ds, rfl, hn, st.ok, (st.ba a (by simp)).1, (st.ba a (by simp)).2.2, hz, hp, fun v d H' e hb hv po => q v d H' po ((st.bag (by simp) e hb rfl).add hv)⟩
/-- len of data -/
def rLenG (K : PySem.W.Frag) : List V → Hp → VK → Prop := fun xs H Q => ∃ x n, xs = [x] ∧ LenV K x H n ∧ Q (.int n) H
theorem d_lenL {a : Addr} (h : Dz K S H (.lst ds) (.ref a)) (q : Q (.int (ds.length : Nat)) H) : rLenG K [.ref a] H Q := by
  obtain ⟨xs, h1, h2⟩ := z_lst h
  exact ⟨_, ds.length, rfl, .inl ⟨xs, h1.sq, h2.len.symm⟩, q⟩
theorem d_lenT {a : Addr} (h : Dz K S H (.tup ds) (.ref a)) (q : Q (.int (ds.length : Nat)) H) : rLenG K [.ref a] H Q := by
  obtain ⟨xs, h1, h2⟩ := z_tup h
  exact ⟨_, ds.length, rfl, .inr ⟨xs, h1.sq, h2.len.symm⟩, q⟩
theorem d_lenS {z : Str} (hz : z.length ≤ sizeLine) (q : Q (.int (z.length : Nat)) H) : rLenG K [.str z] H Q := ⟨_, _, rfl, ⟨hz, rfl⟩, q⟩
/-- == and != of data -/
theorem d_eq (h1 : Dz K S H d x) (h2 : Dz K S H e y) (f1 : d.flat = true) (f2 : e.flat = true) (s1 : SeqAt.shaped d.py = true) (s2 : SeqAt.shaped e.py = true) (q : Q (.bl (PyData.eqv d.py e.py)) H) : rEqG K x y H Q :=
  .inr ⟨d.py, e.py, Dz.dp d x f1 h1, Dz.dp e y f2 h2, s1, s2, q⟩
theorem d_ne (h1 : Dz K S H d x) (h2 : Dz K S H e y) (f1 : d.flat = true) (f2 : e.flat = true) (s1 : SeqAt.shaped d.py = true) (s2 : SeqAt.shaped e.py = true) (q : Q (.bl (!PyData.eqv d.py e.py)) H) : rNeG K x y H Q :=
  .inr ⟨d.py, e.py, Dz.dp d x f1 h1, Dz.dp e y f2 h2, s1, s2, q⟩
theorem d_repr (h1 : Dz K S H d x) (f1 : d.flat = true) (s1 : d.py.showable = true) (s2 : d.py.depth ≤ 60) (s3 : d.py.shown.length ≤ sizeLine) (q : Q (.str d.py.shown) H) : rRepr K [x] H Q :=
  ⟨x, d.py, rfl, Dz.dp d x f1 h1, s1, s2, s3, q⟩
/-- all([..]) -/
theorem d_all {a : Addr} {bs : List Bool} (h : Dz K S H (.lst (bs.map D.bl)) (.ref a)) (q : Q (.bl (bs.all id)) H) : rAll K [.ref a] H Q := by
  obtain ⟨xs, h1, h2⟩ := z_lst h
  have e := DzL.bls bs h2
  subst e
  exact ⟨a, bs, rfl, h1.sq, q⟩
/-- list(..), tuple(..) -/
def rListG (K : PySem.W.Frag) : List V → Hp → VK → Prop := fun xs H Q => ∃ p ys, xs = [.ref p] ∧ (SqL K H p ys ∨ SqT K H p ys) ∧ ∀ l, H l = none → Q (.ref l) (upd H l (.lst ys))
def rTupleG (K : PySem.W.Frag) : List V → Hp → VK → Prop := fun xs H Q => ∃ p ys, xs = [.ref p] ∧ ((SqL K H p ys ∧ ∀ l, H l = none → Q (.ref l) (upd H l (.tup ys))) ∨ (SqT K H p ys ∧ Q (.ref p) H))
theorem d_listL {a : Addr} (st : St K S M H0 H G L B) (h : Dz K S H (.lst ds) (.ref a)) (q : ∀ p H', St K S M H0 H' ((.ref p, .lst ds) :: G) L B → Q (.ref p) H') : rListG K [.ref a] H Q := by
  obtain ⟨xs, h1, h2⟩ := z_lst h
  exact ⟨a, xs, rfl, .inl h1.sq, fun l n => q l _ (st.lst n h2)⟩
theorem d_listT {a : Addr} (st : St K S M H0 H G L B) (h : Dz K S H (.tup ds) (.ref a)) (q : ∀ p H', St K S M H0 H' ((.ref p, .lst ds) :: G) L B → Q (.ref p) H') : rListG K [.ref a] H Q := by
  obtain ⟨xs, h1, h2⟩ := z_tup h
  exact ⟨a, xs, rfl, .inr h1.sq, fun l n => q l _ (st.lst n h2)⟩
theorem d_tupleL {a : Addr} (st : St K S M H0 H G L B) (h : Dz K S H (.lst ds) (.ref a)) (q : ∀ p H', St K S M H0 H' ((.ref p, .tup ds) :: G) L B → Q (.ref p) H') : rTupleG K [.ref a] H Q := by
  obtain ⟨xs, h1, h2⟩ := z_lst h
  exact ⟨a, xs, rfl, .inl ⟨h1.sq, fun l n => q l _ (st.tup n h2)⟩⟩
theorem d_tupleT {a : Addr} (h : Dz K S H (.tup ds) (.ref a)) (q : Q (.ref a) H) : rTupleG K [.ref a] H Q := by
  obtain ⟨xs, h1, h2⟩ := z_tup h
  exact ⟨a, xs, rfl, .inr ⟨h1.sq, q⟩⟩
/-- list + list, tuple + tuple -/
theorem d_addL {a b : Addr} (st : St K S M H0 H G L B) (h : Dz K S H (.lst ds) (.ref a)) (h' : Dz K S H (.lst es) (.ref b)) (hl : ds.length + es.length ≤ 100000) (q : ∀ p H', St K S M H0 H' ((.ref p, .lst (ds ++ es)) :: G) L B → Q (.ref p) H') : rAddG K (.ref a) (.ref b) H Q := by
  obtain ⟨xs, h1, h2⟩ := z_lst h
  obtain ⟨ys, h3, h4⟩ := z_lst h'
  exact .inr (.inr (.inl ⟨a, b, xs, ys, rfl, rfl, h1.2, h3.2, by rw [h2.len, h4.len]; exact Nat.le_trans hl (by decide), fun p n => q p _ (st.lst n (h2.app h4))⟩))
theorem d_addT {a b : Addr} (st : St K S M H0 H G L B) (h : Dz K S H (.tup ds) (.ref a)) (h' : Dz K S H (.tup es) (.ref b)) (hl : ds.length + es.length ≤ 100000) (q : ∀ p H', St K S M H0 H' ((.ref p, .tup (ds ++ es)) :: G) L B → Q (.ref p) H') : rAddG K (.ref a) (.ref b) H Q := by
  obtain ⟨xs, h1, h2⟩ := z_tup h
  obtain ⟨ys, h3, h4⟩ := z_tup h'
  refine .inr (.inr (.inr ⟨a, b, xs, ys, rfl, rfl, h1.sq, h3.sq, by rw [h2.len, h4.len]; exact Nat.le_trans hl (by decide), fun e => ?_, fun _ e => ?_, fun _ _ p n => q p _ (st.tup n (h2.app h4))⟩))
  · have e2 : ds = [] := by
      have := h2.len
      rw [e] at this
      exact List.eq_nil_of_length_eq_zero this.symm
    subst e2
    exact q b H (st.add h')
  · have e2 : es = [] := by
      have := h4.len
      rw [e] at this
      exact List.eq_nil_of_length_eq_zero this.symm
    subst e2
    refine q a H (st.add ?_)
    rw [List.append_nil]
    exact h
/-- cuts -/
theorem DzL.cut {lo hi : Option Int} (h : DzL K S H ds xs) : DzL K S H ((ds.drop (HT.sIx ds.length 0 lo)).take (HT.sIx ds.length ds.length hi - HT.sIx ds.length 0 lo)) (cutV xs lo hi) := by
  unfold cutV
  rw [h.len]
  exact (h.drop _).take _
def cutD (ds : List D) (lo hi : Option Int) : List D := (ds.drop (HT.sIx ds.length 0 lo)).take (HT.sIx ds.length ds.length hi - HT.sIx ds.length 0 lo)
theorem d_slL {a : Addr} {lo hi : Option Int} (st : St K S M H0 H G L B) (h : Dz K S H (.lst ds) (.ref a)) (q : ∀ p H', St K S M H0 H' ((.ref p, .lst (cutD ds lo hi)) :: G) L B → Q (.ref p) H') : rSlG K (.ref a) lo hi H Q := by
  obtain ⟨xs, h1, h2⟩ := z_lst h
  exact .inl ⟨a, xs, rfl, h1.sq, fun p n => q p _ (st.lst n h2.cut)⟩
theorem d_slT {a : Addr} {lo hi : Option Int} (st : St K S M H0 H G L B) (h : Dz K S H (.tup ds) (.ref a)) (q : ∀ p H', St K S M H0 H' ((.ref p, .tup (cutD ds lo hi)) :: G) L B → Q (.ref p) H') : rSlG K (.ref a) lo hi H Q := by
  obtain ⟨xs, h1, h2⟩ := z_tup h
  refine .inr (.inl ⟨a, xs, rfl, h1.sq, fun e => ?_, fun _ p n => q p _ (st.tup n h2.cut)⟩)
  have el := h2.len
  rw [el] at e
  have e3 : cutD ds lo hi = ds := by
    unfold cutD
    rw [e.1, e.2]
    simp
  refine q a H ?_
  rw [e3]
  exact st.add h
theorem d_slS {z : Str} {lo hi : Option Int} (hz : z.length ≤ sizeLine) (q : Q (.str (cutS z lo hi)) H) : rSlG K (.str z) lo hi H Q := .inr (.inr ⟨z, rfl, hz, q⟩)
/-- x in a flat list or tuple -/
theorem d_inL {a : Addr} (h : Dz K S H (.lst ds) (.ref a)) (hx : flatV x = true) (ha : ∀ xs, DzL K S H ds xs → xs.all flatV = true) (q : ∀ xs, DzL K S H ds xs → Q (.bl (inV x xs)) H) : rInG K x (.ref a) H Q := by
  obtain ⟨xs, h1, h2⟩ := z_lst h
  exact .inl ⟨a, xs, rfl, .inl h1.sq, hx, ha xs h2, q xs h2⟩
theorem d_inT {a : Addr} (h : Dz K S H (.tup ds) (.ref a)) (hx : flatV x = true) (ha : ∀ xs, DzL K S H ds xs → xs.all flatV = true) (q : ∀ xs, DzL K S H ds xs → Q (.bl (inV x xs)) H) : rInG K x (.ref a) H Q := by
  obtain ⟨xs, h1, h2⟩ := z_tup h
  exact .inl ⟨a, xs, rfl, .inr h1.sq, hx, ha xs h2, q xs h2⟩
theorem inV_ints {i : Int} : ∀ (ns : List Int), inV (.int i) (ns.map V.int) = decide (i ∈ ns)
  | [] => by simp [inV]
  | n :: ns => by
    have ih := inV_ints (i := i) ns
    unfold inV at ih ⊢
    rw [List.map_cons, List.any_cons, ih]
    by_cases h : i = n
    · subst h; simp [eqV]
    · have h' : ¬ n = i := fun e => h e.symm
      simp [eqV, h, h']
theorem flat_ints : ∀ (ns : List Int), (ns.map V.int).all flatV = true
  | [] => rfl
  | n :: ns => by rw [List.map_cons, List.all_cons, flat_ints ns]; rfl
theorem d_inLI {a : Addr} {i : Int} {ns : List Int} (h : Dz K S H (.lst (ns.map D.int)) (.ref a)) (q : Q (.bl (decide (i ∈ ns))) H) : rInG K (.int i) (.ref a) H Q :=
  d_inL h rfl (fun xs hx => by rw [DzL.ints ns hx]; exact flat_ints ns) fun xs hx => by rw [DzL.ints ns hx, inV_ints]; exact q
theorem d_inTI {a : Addr} {i : Int} {ns : List Int} (h : Dz K S H (.tup (ns.map D.int)) (.ref a)) (q : Q (.bl (decide (i ∈ ns))) H) : rInG K (.int i) (.ref a) H Q :=
  d_inT h rfl (fun xs hx => by rw [DzL.ints ns hx]; exact flat_ints ns) fun xs hx => by rw [DzL.ints ns hx, inV_ints]; exact q

theorem z_fresh {p : Addr} (h : Dz K (fun b => S b ∨ b = p) H d x) : Dz K S H d x := Dz.weak (fun _ => .inl) h
/-- what holds between two turns of a comprehension -/
def LcP (K : PySem.W.Frag) (S M : AS) (H0 : Hp) (G : List (V × D)) (L : List (Addr × List D)) (B : List Addr) (p : Addr) (P : Nat → List D → Prop) (i : Nat) : Hp → Prop := fun H =>
  ∃ es, es.length ≤ i ∧ P i es ∧ St K (fun b => S b ∨ b = p) M H0 H G ((p, es) :: L) B
/-- what a turn of it is to reach -/
def LcE (K : PySem.W.Frag) (S M : AS) (H0 : Hp) (G : List (V × D)) (L : List (Addr × List D)) (B : List Addr) (p : Addr) (P : Nat → List D → Prop) (i : Nat) : VK := fun y H =>
  ∃ acc, H p = some (.lst acc) ∧ acc.length < sizeLine ∧ LcP K S M H0 G L B p P i (upd H p (.lst (acc ++ [y])))
theorem lc_end {G' : List (V × D)} {p : Addr} {P : Nat → List D → Prop} {i : Nat} (st : St K (fun b => S b ∨ b = p) M H0 H G' ((p, es) :: L) B) (hg : ∀ q ∈ G, q ∈ G') (hi : i ≤ 100000) (he : es.length ≤ i) (hy : Dz K (fun b => S b ∨ b = p) H e y) (hp : P (i + 1) (es ++ [e])) :
    LcE K S M H0 G L B p P (i + 1) y H := by
  obtain ⟨h1, h2, xs, h3, h4⟩ := st.la (p, es) (List.mem_cons_self ..)
  refine ⟨xs, h3, ?_, es ++ [e], by rw [List.length_append]; simp; exact he, hp, (st.put (i := 0) (ds' := es ++ [e]) rfl (h4.app (zl_cons hy zl_nil))).sub hg⟩
  rw [h4.len]
  exact Nat.lt_of_le_of_lt (Nat.le_trans he hi) (by decide)
theorem lc_skip {G' : List (V × D)} {p : Addr} {P : Nat → List D → Prop} {i : Nat} (st : St K (fun b => S b ∨ b = p) M H0 H G' ((p, es) :: L) B) (hg : ∀ q ∈ G, q ∈ G') (he : es.length ≤ i) (hp : P (i + 1) es) :
    LcP K S M H0 G L B p P (i + 1) H := ⟨es, Nat.le_trans he (Nat.le_succ _), hp, st.sub hg⟩
theorem g_lc {σ : L2.St} {wi : TI} {g : TG} {tt : TT} {te : TE} {ws : List Nat} (h : wi σ H (FLc g tt te ws σ Q)) : tLc wi g tt te ws σ H Q := h
/-- [elt for x in ..]: es what has been made, P by the turn -/
theorem d_lc {J : It} {n : Nat} {Gq : Addr → Hp → Prop} {Y : Addr → Nat → Hp → V → Hp → Prop} {σ : L2.St} {g : TG} {tt : TT} {te : TE} {ws : List Nat} (w : ∀ p, Walk J n (Gq p) (Y p)) (st : St K S M H0 H G L B)
    (hG : ∀ p es H', St K (fun b => S b ∨ b = p) M H0 H' G ((p, es) :: L) B → Gq p H') (P : Nat → List D → Prop) (p0 : P 0 [])
    (hs : ∀ p i x H1 H2 es, ¬ S p → i < n → es.length ≤ i → P i es → St K (fun b => S b ∨ b = p) M H0 H1 G ((p, es) :: L) B → Y p i H1 x H2 → g x (wipe σ ws) H2 fun σ2 H3 => wipe σ2 ws = wipe σ ws ∧ tt σ2 H3 fun b H4 =>
      if b = true then te σ2 H4 (LcE K S M H0 G L B p P (i + 1)) else LcP K S M H0 G L B p P (i + 1) H4)
    (hd : ∀ p H' es, P n es → es.length ≤ n → St K S M H0 H' ((.ref p, .lst es) :: G) L B → Q (.ref p) H') :
    FLc g tt te ws σ Q J H := by
  intro p np
  have ns := st.nS np
  refine lc_it (w p) (LcP K S M H0 G L B p P) ⟨[], Nat.le_refl _, p0, st.own np zl_nil⟩ (fun i H' _ ⟨es, _, _, s⟩ => hG p es H' s) (fun i x H1 H2 hi ⟨es, hl, pp, s⟩ y => hs p i x H1 H2 es ns hi hl pp s y) fun H' ⟨es, hl, pp, s⟩ => hd p H' es pp hl (s.give ns)

/-- what is walked: a list, a tuple, a text -/
def iSeqG (K : PySem.W.Frag) (tl : TE) : TI := fun σ H R => iList K tl σ H R ∨ iTup K tl σ H R ∨ iStr tl σ H R
theorem PI_or {X : Cx} {tg l : Expr} {w w' : TI} (h : PI X tg l w) (h' : PI X tg l w') : PI X tg l (fun σ H R => w σ H R ∨ w' σ H R) :=
  ⟨fun pins s σ H R I q => q.elim (h.run pins s σ H R I) (h'.run pins s σ H R I)⟩
theorem i_lst {σ : L2.St} {tl : TE} {R : It → Hp → Prop} (h : tl σ H (FItl K R)) : iSeqG K tl σ H R := .inl h
theorem i_tup {σ : L2.St} {tl : TE} {R : It → Hp → Prop} (h : tl σ H (FItt K R)) : iSeqG K tl σ H R := .inr (.inl h)
theorem i_str {σ : L2.St} {tl : TE} {R : It → Hp → Prop} (h : tl σ H (FIts R)) : iSeqG K tl σ H R := .inr (.inr h)
theorem i_rng {σ : L2.St} {ta : TA} {R : It → Hp → Prop} (h : ta σ H (FRng R)) : iRng1 ta σ H R := h
theorem i_rng2 {σ : L2.St} {ta : TA} {R : It → Hp → Prop} (h : ta σ H (FRng2 R)) : iRng2 ta σ H R := h
theorem d_iL {a : Addr} {R : It → Hp → Prop} (h : Dz K S H (.lst ds) (.ref a)) (q : ∀ xs, LzL K S H a xs → DzL K S H ds xs → R (Itl K a) H) : FItl K R (.ref a) H := by
  obtain ⟨xs, h1, h2⟩ := z_lst h
  exact ⟨a, rfl, ⟨xs, h1.sq⟩, q xs h1 h2⟩
theorem d_iT {a : Addr} {R : It → Hp → Prop} (h : Dz K S H (.tup ds) (.ref a)) (q : ∀ xs, LzT K S H a xs → DzL K S H ds xs → R (Itt K a) H) : FItt K R (.ref a) H := by
  obtain ⟨xs, h1, h2⟩ := z_tup h
  exact ⟨a, rfl, ⟨xs, h1.sq⟩, q xs h1 h2⟩
theorem d_iS {z : Str} {R : It → Hp → Prop} (q : R (Its z) H) : FIts R (.str z) H := ⟨z, rfl, q⟩
theorem d_iR {j : Int} {R : It → Hp → Prop} (h0 : -(2 ^ 62) ≤ j) (h1 : j < 2 ^ 62) (q : R (Itr 0 j.toNat) H) : FRng R [.int j] H := ⟨j, rfl, h0, h1, q⟩
theorem i_zip {σ : L2.St} {ta : TA} {R : It → Hp → Prop} (h : ta σ H (FZip K R)) : iZipA K ta σ H R := h
theorem i_enum {σ : L2.St} {ta : TA} {R : It → Hp → Prop} (h : ta σ H (FEnum K R)) : iEnum K ta σ H R := h
theorem d_gT {a : Addr} {n : Nat} {tg : TGs} {σ : L2.St} {N : L2.St → Hp → Prop} (h : Dz K S H (.tup ds) (.ref a)) (hn : ds.length = n) (q : ∀ xs, DzL K S H ds xs → tg xs σ H N) : FGTup K n tg σ N (.ref a) H := by
  obtain ⟨xs, h1, h2⟩ := z_tup h
  exact ⟨a, xs, rfl, h1.sq, by rw [h2.len, hn], q xs h2⟩
/-- list methods on a list of the def's own, the newest or the one ahead of it -/
theorem d_bm {a : Addr} {es : List D} {t : TA} {σ : L2.St} {r : V → List V → Hp → VK → Prop} (st : St K S M H0 H G L B) (hl : (a, es) ∈ L) (h : t σ H fun xs H2 => r (.ref a) xs H2 Q) : FBm K "list" t σ r Q (.ref a) H := by
  obtain ⟨_, _, xs, h3, _⟩ := st.la (a, es) hl
  exact ⟨.inl ⟨rfl, _, SqL.of h3⟩, h⟩
theorem d_bm0 {a : Addr} {es : List D} {r : V → List V → Hp → VK → Prop} (st : St K S M H0 H G L B) (hl : (a, es) ∈ L) (h : r (.ref a) [] H Q) : FBm0 K "list" r Q (.ref a) H := by
  obtain ⟨_, _, xs, h3, _⟩ := st.la (a, es) hl
  exact ⟨.inl ⟨rfl, _, SqL.of h3⟩, h⟩
theorem d_append {a : Addr} {es : List D} {L' : List (Addr × List D)} {i : Nat} (st : St K S M H0 H G L B) (hl : L[i]? = some (a, es)) (hL : L.set i (a, es ++ [d]) = L') (hz : Dz K S H d y) (hn : es.length < 100000) (q : ∀ H', St K S M H0 H' G L' B → Q .non H') : rAppend (.ref a) [y] H Q := by
  obtain ⟨_, _, xs, h3, h4⟩ := st.la (a, es) (List.mem_of_getElem? hl)
  refine ⟨a, xs, y, rfl, rfl, h3, ?_, ?_⟩
  · rw [h4.len]; exact Nat.lt_of_lt_of_le hn (by decide)
  · subst hL
    exact q _ (st.put hl (h4.app (zl_cons hz zl_nil)))
theorem d_clear {a : Addr} {es : List D} {L' : List (Addr × List D)} {i : Nat} (st : St K S M H0 H G L B) (hl : L[i]? = some (a, es)) (hL : L.set i (a, []) = L') (q : ∀ H', St K S M H0 H' G L' B → Q .non H') : rClear (.ref a) [] H Q := by
  obtain ⟨_, _, xs, h3, h4⟩ := st.la (a, es) (List.mem_of_getElem? hl)
  subst hL
  exact ⟨a, xs, rfl, rfl, h3, q _ (st.put hl zl_nil)⟩
theorem d_reverse {a : Addr} {es : List D} {L' : List (Addr × List D)} {i : Nat} (st : St K S M H0 H G L B) (hl : L[i]? = some (a, es)) (hL : L.set i (a, es.reverse) = L') (q : ∀ H', St K S M H0 H' G L' B → Q .non H') : rReverse (.ref a) [] H Q := by
  obtain ⟨_, _, xs, h3, h4⟩ := st.la (a, es) (List.mem_of_getElem? hl)
  subst hL
  exact ⟨a, xs, rfl, rfl, h3, q _ (st.put hl h4.rev)⟩
/-- a list of the def's own is read -/
theorem d_own_ix {a : Addr} {es : List D} {i : Nat} (st : St K S M H0 H G L B) (hl : (a, es) ∈ L) (hi : es[i]? = some d) (q : ∀ v, Dz K S H d v → Q v H) : rIxG K (.ref a) (.int (i : Nat)) H Q := by
  obtain ⟨_, _, xs, h3, h4⟩ := st.la (a, es) hl
  obtain ⟨v, e, hv⟩ := h4.get hi
  exact .inl ⟨a, xs, _, v, rfl, rfl, SqL.of h3, atI_nat e, q v hv⟩
theorem d_own_len {a : Addr} {es : List D} (st : St K S M H0 H G L B) (hl : (a, es) ∈ L) (q : Q (.int (es.length : Nat)) H) : rLenG K [.ref a] H Q := by
  obtain ⟨_, _, xs, h3, h4⟩ := st.la (a, es) hl
  exact ⟨_, es.length, rfl, .inl ⟨xs, SqL.of h3, h4.len.symm⟩, q⟩
theorem d_set {a : Addr} {es : List D} {L' : List (Addr × List D)} {i j : Nat} {N : Hp → Prop} (st : St K S M H0 H G L B) (hl : L[i]? = some (a, es)) (hL : L.set i (a, es.set j d) = L') (hj : j < es.length) (hz : Dz K S H d y) (q : ∀ H', St K S M H0 H' G L' B → N H') : rSetL (.ref a) (.int (j : Nat)) y H N := by
  obtain ⟨_, _, xs, h3, h4⟩ := st.la (a, es) (List.mem_of_getElem? hl)
  subst hL
  refine ⟨a, xs, _, j, rfl, rfl, h3, ?_, q _ (st.put hl (h4.set hz))⟩
  unfold ixN
  have hl2 : es.length = xs.length := h4.len.symm
  rw [if_pos (by omega), if_pos (by omega), Int.toNat_natCast]
/-- zip of two tuples of data -/
theorem d_zipT {a b : Addr} {R : It → Hp → Prop} (h : Dz K S H (.tup ds) (.ref a)) (h' : Dz K S H (.tup es) (.ref b)) (q : ∀ xs ys, LzT K S H a xs → LzT K S H b ys → DzL K S H ds xs → DzL K S H es ys → R (ItzT K a b) H) : FZip K R [.ref a, .ref b] H := by
  obtain ⟨xs, h1, h2⟩ := z_tup h
  obtain ⟨ys, h3, h4⟩ := z_tup h'
  exact ⟨a, b, xs, ys, rfl, .inr ⟨h1.sq, h3.sq, q xs ys h1 h3 h2 h4⟩⟩
theorem d_zipL {a b : Addr} {R : It → Hp → Prop} (h : Dz K S H (.lst ds) (.ref a)) (h' : Dz K S H (.lst es) (.ref b)) (q : ∀ xs ys, LzL K S H a xs → LzL K S H b ys → DzL K S H ds xs → DzL K S H es ys → R (Itz K a b) H) : FZip K R [.ref a, .ref b] H := by
  obtain ⟨xs, h1, h2⟩ := z_lst h
  obtain ⟨ys, h3, h4⟩ := z_lst h'
  exact ⟨a, b, xs, ys, rfl, .inl ⟨h1.sq, h3.sq, q xs ys h1 h3 h2 h4⟩⟩
theorem d_enum {a : Addr} {R : It → Hp → Prop} (h : Dz K S H (.lst ds) (.ref a)) (q : ∀ xs, LzL K S H a xs → DzL K S H ds xs → R (Ite K a) H) : FEnum K R [.ref a] H := by
  obtain ⟨xs, h1, h2⟩ := z_lst h
  exact ⟨a, xs, rfl, h1.sq, q xs h1 h2⟩
/-- truth of data -/
theorem d_truL {a : Addr} (h : Dz K S H (.lst ds) (.ref a)) : TruV K (.ref a) H (!ds.isEmpty) := by
  obtain ⟨xs, h1, h2⟩ := z_lst h
  refine .inl ⟨xs, h1.sq, ?_⟩
  have := h2.len
  cases xs <;> cases ds <;> simp_all
theorem d_truT {a : Addr} (h : Dz K S H (.tup ds) (.ref a)) : TruV K (.ref a) H (!ds.isEmpty) := by
  obtain ⟨xs, h1, h2⟩ := z_tup h
  refine .inr (.inl ⟨xs, h1.sq, ?_⟩)
  have := h2.len
  cases xs <;> cases ds <;> simp_all
/-- isinstance of data -/
def D.tn : D → String
  | .non => "NoneType" | .bl _ => "bool" | .int _ => "int" | .str _ => "str" | .lst _ => "list" | .tup _ => "tuple" | .dic _ => "dict" | .ins _ _ => ""
def D.noIns : D → Bool
  | .ins _ _ => false
  | _ => true
theorem d_ty (h : Dz K S H d x) (n : d.noIns = true) : TyX K H x (.type d.tn) := by
  cases d with
  | non => cases h; exact .base .non
  | bl b => cases h; exact .base (.bl b)
  | int i => cases h; exact .base (.int i)
  | str z => cases h; exact .base (.str z)
  | lst ds =>
    obtain ⟨a, xs, e, h1, _⟩ := h
    subst e
    exact .base (.lst h1.2)
  | tup ds =>
    obtain ⟨a, xs, e, h1, _⟩ := h
    subst e
    rcases h1 with ⟨_, h1 | ⟨o, h1⟩⟩ | ⟨o, its, n, h1, h2, _⟩
    · exact .base (.tup h1)
    · exact .fTuple h1
    · exact .kTuple h1 h2
  | dic kvs =>
    obtain ⟨a, e, _, h1⟩ := h
    subst e
    exact .base (.dK h1)
  | ins C fs => cases n
def rIsiG (K : PySem.W.Frag) : List V → Hp → VK → Prop := fun xs H Q => rIsi K xs H Q ∨ rIsiT K xs H Q
/-- isinstance(x, T) for T among int, bool, str, tuple, list -/
def isT (T : String) (d : D) : Bool := if d.tn = "bool" then (T == "bool" || T == "int") else T == d.tn
theorem kitT : ∀ t ∈ ["NoneType", "bool", "int", "str", "list", "tuple", "dict"], ∀ T ∈ ["int", "bool", "str", "tuple", "list", "dict"], kitB t T = some (if t = "bool" then (T == "bool" || T == "int") else T == t) := by decide +kernel
theorem kit_isT (T : String) (hT : T ∈ ["int", "bool", "str", "tuple", "list", "dict"]) (n : d.noIns = true) : kitB d.tn T = some (isT T d) := by
  refine kitT d.tn ?_ T hT
  cases d <;> first | (cases n; done) | simp [D.tn]
theorem d_isi {T : String} (h : Dz K S H d x) (n : d.noIns = true) (hT : T ∈ ["int", "bool", "str", "tuple", "list", "dict"] := by decide) (q : Q (.bl (isT T d)) H) : rIsiG K [x, .ty T] H Q :=
  .inl ⟨x, .ty T, _, _, isT T d, rfl, .ty T, d_ty h n, kit_ty (kit_isT T hT n), q⟩
end
section
variable {X : Cx}
theorem piG {tg l : Expr} {tl : TE} (h : PE X l tl) : PI X tg l (iSeqG X.K tl) := PI_or (pi_list h) (PI_or (pi_tup h) (pi_str h))
theorem call_isiG : CallR X (.builtin "isinstance") (rIsiG X.K) := CallR.or call_isi call_isiT
theorem call_lenG : CallR X (.builtin "len") (rLenG X.K) := call_len
theorem call_listG : CallR X (.type "list") (rListG X.K) := call_list_of
theorem call_tupleG : CallR X (.type "tuple") (rTupleG X.K) := call_tuple_of
end
end Vf
namespace Vf
open PySem PySem.Spec PyProof.Rows L2 RZ
/-! ## 8. what else -/
def rGetL : V → V → Hp → VK → Prop := fun o i H Q => ∃ (p : Addr) (xs : List V) (k : Nat) (v : V), o = .ref p ∧ i = .int (k : Nat) ∧ H p = some (.lst xs) ∧ xs[k]? = some v ∧ Q v H
theorem pget_ix {X : Cx} : PGet X rGetL := by
  intro pins s σ H o i ov iv Q I ro ri h
  obtain ⟨p, xs, k, v, rfl, rfl, hp, hk, q⟩ := h
  cases ro
  obtain ⟨t, rfl⟩ := ri
  obtain ⟨its, r, pl, hz⟩ := I.list (SqL.of hp)
  obtain ⟨w, ew, rw'⟩ := r.get hk
  have hl := r.length
  have hn := line63
  have hk2 : k < xs.length := (List.getElem?_eq_some_iff.mp hk).1
  exact wpAny_getItem_list pl.isList (by omega) (by omega) (by rw [Int.toNat_natCast]; simpa using ew) ⟨v, H, I, rw', q⟩
/-- a statement, then the rest, with a word between them -/
def tMid (t u : TS) : TS := fun D σ H => ∃ Mid : L2.St → Hp → Prop, t { D with nx := Mid } σ H ∧ ∀ σ' H', Mid σ' H' → u D σ' H'
theorem pss_mid {X : Cx} {st : Stmt} {rest : List Stmt} {t u : TS} (h1 : PS X st t) (h2 : PSs X rest u) : PSs X (st :: rest) (tMid t u) := by
  refine ⟨fun pins s σ H D I h => ?_⟩
  obtain ⟨Mid, hm, hu⟩ := h
  refine wpAny_execs_cons (thn (h1.run pins s σ H { D with nx := Mid } I hm) fun f s1 q => ?_)
  cases f with
  | next =>
    obtain ⟨σ', H', I', q⟩ := q
    exact h2.run pins s1 σ' H' D I' (hu σ' H' q)
  | ret v => exact q
  | brk => exact q
  | cont => exact q
theorem g_mid {t u : TS} {D : Ends} {σ : L2.St} {H : Hp} (Mid : L2.St → Hp → Prop) (h1 : t { D with nx := Mid } σ H) (h2 : ∀ σ' H', Mid σ' H' → u D σ' H') : tMid t u D σ H := ⟨Mid, h1, h2⟩
structure KTup (K : PySem.W.Frag) (a : Addr) (xs : List V) : Prop where
  ex : ∃ (o : Obj) (its : Array Value) (n : Nat), K.lookup a = some o ∧ o.cls = .type "tuple" ∧ o.data = .seq its n ∧ its.size ≤ sizeLine ∧ Vals xs its.toList
theorem KTup.dz {K : PySem.W.Frag} {a : Addr} {xs : List V} {ds : List D} {S : AS} {H : Hp} (k : KTup K a xs) (h : DzL K S H ds xs) : Dz K S H (.tup ds) (.ref a) := ⟨a, xs, rfl, .inr k.ex, h⟩
section
variable {K : PySem.W.Frag} {H : Hp} {Q : VK} {a : Addr} {xs : List V} {v y : V} {i : Nat} {N : Hp → Prop}
theorem b_ix (i : Nat) (h : H a = some (.lst xs)) (hi : xs[i]? = some v) (q : Q v H) : rIxG K (.ref a) (.int (i : Nat)) H Q := .inl ⟨a, xs, _, v, rfl, rfl, SqL.of h, atI_nat hi, q⟩
theorem b_set (i : Nat) (h : H a = some (.lst xs)) (hi : i < xs.length) (q : N (upd H a (.lst (xs.set i y)))) : rSetL (.ref a) (.int (i : Nat)) y H N := by
  refine ⟨a, xs, _, i, rfl, rfl, h, ?_, q⟩
  unfold ixN
  rw [if_pos (by omega), if_pos (by omega), Int.toNat_natCast]
theorem b_get (i : Nat) (h : H a = some (.lst xs)) (hi : xs[i]? = some v) (q : Q v H) : rGetL (.ref a) (.int (i : Nat)) H Q := ⟨a, xs, i, v, rfl, rfl, h, hi, q⟩
theorem b_len (h : H a = some (.lst xs)) (q : Q (.int (xs.length : Nat)) H) : rLenG K [.ref a] H Q := ⟨_, xs.length, rfl, .inl ⟨xs, SqL.of h, rfl⟩, q⟩
theorem g_augS {o i e : TE} {tget : V → V → Hp → VK → Prop} {tip : TIp} {tset : TSet} {D : Ends} {σ : L2.St} (h : o σ H fun o H1 => i σ H1 fun i H2 => tget o i H2 fun x H3 => e σ H3 fun y H4 => tip x y H4 fun z H5 => tset o i z H5 fun H6 => D.nx σ H6) : tAugS o i e tget tip tset D σ H := h
theorem g_ipI {f : Int → Int → Int} {i j : Int} (q : Q (.int (f i j)) H) : ipI f (.int i) (.int j) H Q := ⟨i, j, rfl, rfl, q⟩
theorem g_sub {to ti : TE} {t : TSet} {σ : L2.St} {N : L2.St → Hp → Prop} (h : to σ H fun o H1 => ti σ H1 fun i H2 => t o i v H2 fun H3 => N σ H3) : gSub to ti t v σ H N := h
end
/-- what a call of draws starts from -/
theorem Bag.get {K : PySem.W.Frag} {S : AS} {H : Hp} {a : Addr} (b : Bag K S H a) : ∃ (r h i : Int) (c : Addr) (ns : List Int), H a = some (.lst [.int r, .int h, .int i, .ref c]) ∧ ¬ S c ∧ H c = some (.lst (ns.map V.int)) ∧ (∀ n ∈ ns, 0 ≤ n) ∧ 0 ≤ r ∧ 0 ≤ h ∧ h < 2147483647 ∧ 0 ≤ i := by
  obtain ⟨r, h, i, c, ns, h1, h2, h3⟩ := b.ex
  obtain ⟨c', xs, e, q1, q2⟩ := h2
  cases e
  rw [DzL.ints ns q2] at q1
  exact ⟨r, h, i, c, ns, h1, q1.1, q1.2, h3⟩
theorem Bag.mk' {K : PySem.W.Frag} {S : AS} {H : Hp} {a : Addr} {r h i : Int} {c : Addr} {ns : List Int} (h1 : H a = some (.lst [.int r, .int h, .int i, .ref c])) (hc : ¬ S c) (h2 : H c = some (.lst (ns.map V.int))) (h3 : ∀ n ∈ ns, 0 ≤ n) (h4 : 0 ≤ r) (h5 : 0 ≤ h) (h6 : h < 2147483647) (h7 : 0 ≤ i) : Bag K S H a :=
  ⟨⟨r, h, i, c, ns, h1, ⟨c, _, rfl, ⟨hc, h2⟩, DzL.of_ints ns⟩, h3, h4, h5, h6, h7⟩⟩
section
variable {K : PySem.W.Frag} {S M : AS} {H0 H : Hp} {G : List (V × D)} {L : List (Addr × List D)} {B : List Addr} {x : V}
theorem St.eqB {b : Bool} (st : St K S M H0 H G L B) (m : (x, .bl b) ∈ G) : x = .bl b := st.dz m
theorem St.eqI {b : Int} (st : St K S M H0 H G L B) (m : (x, .int b) ∈ G) : x = .int b := st.dz m
theorem St.eqS {b : Str} (st : St K S M H0 H G L B) (m : (x, .str b) ∈ G) : x = .str b := st.dz m
theorem St.eqN (st : St K S M H0 H G L B) (m : (x, .non) ∈ G) : x = .non := st.dz m
theorem St.isT {ds : List D} (st : St K S M H0 H G L B) (m : (x, .tup ds) ∈ G) : ∃ a, x = .ref a := by
  obtain ⟨a, _, e, _⟩ := st.dz m
  exact ⟨a, e⟩
theorem St.isL {ds : List D} (st : St K S M H0 H G L B) (m : (x, .lst ds) ∈ G) : ∃ a, x = .ref a := by
  obtain ⟨a, _, e, _⟩ := st.dz m
  exact ⟨a, e⟩
theorem z_int' {i j : Int} (h : i = j) : Dz K S H (.int i) (.int j) := by subst h; exact z_int
end
/-! ## 9. promises by the arguments' data: enc what the arguments are, pre what a caller shows, then the answer -/
section
variable {α : Type} (K : PySem.W.Frag) (enc : α → List D) (pre : α → Prop)
def spR (post : α → D → Prop) : Sp := fun vs H Q _ => ∃ S a, Okk S H ∧ DzL K S H (enc a) vs ∧ pre a ∧ ∀ v d H', Same H H' → Dz K S H' d v → post a d → Q v H'
def spV (f : α → D) : Sp := fun vs H Q _ => ∃ S a, Okk S H ∧ DzL K S H (enc a) vs ∧ pre a ∧ ∀ v H', Same H H' → Dz K S H' (f a) v → Q v H'
def spBl (f : α → Bool) : Sp := fun vs H Q _ => ∃ S a, Okk S H ∧ DzL K S H (enc a) vs ∧ pre a ∧ ∀ H', Same H H' → Q (.bl (f a)) H'
def spInt (f : α → Int) : Sp := fun vs H Q _ => ∃ S a, Okk S H ∧ DzL K S H (enc a) vs ∧ pre a ∧ ∀ H', Same H H' → Q (.int (f a)) H'
def spStr (f : α → Str) : Sp := fun vs H Q _ => ∃ S a, Okk S H ∧ DzL K S H (enc a) vs ∧ pre a ∧ ∀ H', Same H H' → Q (.str (f a)) H'
def spUnit : Sp := fun vs H Q _ => ∃ S a, Okk S H ∧ DzL K S H (enc a) vs ∧ pre a ∧ ∀ H', Same H H' → Q .non H'
/-- with draws: the bag is the first argument -/
def spDr (post : α → D → Prop) : Sp := fun vs H Q _ => ∃ S b r a, vs = .ref b :: r ∧ Okk S H ∧ S b ∧ Bag K S H b ∧ DzL K S H (enc a) r ∧ pre a ∧ ∀ v d H', Kp (fun c => c = b) H H' → Bag K S H' b → Dz K S H' d v → post a d → Q v H'
end
section
variable {α : Type} {K : PySem.W.Frag} {enc : α → List D} {pre : α → Prop} {S M : AS} {H0 H : Hp} {G : List (V × D)} {L : List (Addr × List D)} {B : List Addr} {Q : VK} {E : XK} {vs : List V} {n : Nat}
theorem spR_len {post : α → D → Prop} (hn : ∀ a, (enc a).length = n) (h : spR K enc pre post vs H Q E) : vs.length = n := by
  obtain ⟨S, a, _, hz, _⟩ := h
  rw [hz.len, hn]
theorem spV_len {f : α → D} (hn : ∀ a, (enc a).length = n) (h : spV K enc pre f vs H Q E) : vs.length = n := by
  obtain ⟨S, a, _, hz, _⟩ := h
  rw [hz.len, hn]
theorem spBl_len {f : α → Bool} (hn : ∀ a, (enc a).length = n) (h : spBl K enc pre f vs H Q E) : vs.length = n := by
  obtain ⟨S, a, _, hz, _⟩ := h
  rw [hz.len, hn]
theorem spInt_len {f : α → Int} (hn : ∀ a, (enc a).length = n) (h : spInt K enc pre f vs H Q E) : vs.length = n := by
  obtain ⟨S, a, _, hz, _⟩ := h
  rw [hz.len, hn]
theorem spStr_len {f : α → Str} (hn : ∀ a, (enc a).length = n) (h : spStr K enc pre f vs H Q E) : vs.length = n := by
  obtain ⟨S, a, _, hz, _⟩ := h
  rw [hz.len, hn]
theorem spUnit_len (hn : ∀ a, (enc a).length = n) (h : spUnit K enc pre vs H Q E) : vs.length = n := by
  obtain ⟨S, a, _, hz, _⟩ := h
  rw [hz.len, hn]
theorem spDr_len {post : α → D → Prop} (hn : ∀ a, (enc a).length = n) (h : spDr K enc pre post vs H Q E) : vs.length = n + 1 := by
  obtain ⟨S, b, r, a, e, _, _, _, hz, _⟩ := h
  rw [e, List.length_cons, hz.len, hn]
theorem c_R {post : α → D → Prop} (a : α) (st : St K S M H0 H G L B) (hz : DzL K S H (enc a) vs) (hp : pre a) (q : ∀ v d H', post a d → St K S M H0 H' ((v, d) :: G) L B → Q v H') : spR K enc pre post vs H Q E :=
  ⟨S, a, st.ok, hz, hp, fun v d H' e hv po => q v d H' po ((st.same e).add hv)⟩
theorem c_V {f : α → D} (a : α) (st : St K S M H0 H G L B) (hz : DzL K S H (enc a) vs) (hp : pre a) (q : ∀ v H', St K S M H0 H' ((v, f a) :: G) L B → Q v H') : spV K enc pre f vs H Q E :=
  ⟨S, a, st.ok, hz, hp, fun v H' e hv => q v H' ((st.same e).add hv)⟩
theorem c_Bl {f : α → Bool} (a : α) (st : St K S M H0 H G L B) (hz : DzL K S H (enc a) vs) (hp : pre a) (q : ∀ H', St K S M H0 H' G L B → Q (.bl (f a)) H') : spBl K enc pre f vs H Q E :=
  ⟨S, a, st.ok, hz, hp, fun H' e => q H' (st.same e)⟩
theorem c_Int {f : α → Int} (a : α) (st : St K S M H0 H G L B) (hz : DzL K S H (enc a) vs) (hp : pre a) (q : ∀ H', St K S M H0 H' G L B → Q (.int (f a)) H') : spInt K enc pre f vs H Q E :=
  ⟨S, a, st.ok, hz, hp, fun H' e => q H' (st.same e)⟩
theorem c_Str {f : α → Str} (a : α) (st : St K S M H0 H G L B) (hz : DzL K S H (enc a) vs) (hp : pre a) (q : ∀ H', St K S M H0 H' G L B → Q (.str (f a)) H') : spStr K enc pre f vs H Q E :=
  ⟨S, a, st.ok, hz, hp, fun H' e => q H' (st.same e)⟩
theorem c_Unit (a : α) (st : St K S M H0 H G L B) (hz : DzL K S H (enc a) vs) (hp : pre a) (q : ∀ H', St K S M H0 H' G L B → Q .non H') : spUnit K enc pre vs H Q E :=
  ⟨S, a, st.ok, hz, hp, fun H' e => q H' (st.same e)⟩
theorem c_Dr {post : α → D → Prop} {b : Addr} (a : α) (st : St K S M H0 H G L [b]) (hz : DzL K S H (enc a) vs) (hp : pre a) (q : ∀ v d H', post a d → St K S M H0 H' ((v, d) :: G) L [b] → Q v H') : spDr K enc pre post (.ref b :: vs) H Q E :=
  ⟨S, b, vs, a, rfl, st.ok, (st.ba b (by simp)).1, (st.ba b (by simp)).2.2, hz, hp, fun v d H' e hb hv po => q v d H' po ((st.bag (by simp) e hb rfl).add hv)⟩
/-- the end of a def with draws -/
theorem St.endB {b : Addr} (st : St K S (fun c => c = b) H0 H G L [b]) : Kp (fun c => c = b) H0 H := st.kp
theorem St.bagB {b : Addr} (st : St K S M H0 H G L [b]) : Bag K S H b := (st.ba b (by simp)).2.2
end
end Vf
namespace Vf
open PySem PySem.Spec PyProof.Rows L2 RZ
/-! ## 10. walks over data -/
theorem g_yes {σ : L2.St} {H : Hp} {Q : Bool → Hp → Prop} (h : Q true H) : tYes σ H Q := h
section
variable {K : PySem.W.Frag} {S M : AS} {H0 H : Hp} {G : List (V × D)} {L : List (Addr × List D)} {B : List Addr} {Q : VK} {ds es : List D} {a b : Addr}
/-- the i-th item's data -/
def YD (K : PySem.W.Frag) (S : AS) (ds : List D) : Nat → Hp → V → Hp → Prop := fun i H x H' => H' = H ∧ ∃ d, ds[i]? = some d ∧ Dz K S H d x
theorem walk_Ld : Walk (Itl K a) ds.length (fun H => Dz K S H (.lst ds) (.ref a)) (YD K S ds) := by
  refine ⟨fun i H hi h => ?_, fun H h => ?_, fun i H x H' hi h y => ?_⟩
  · obtain ⟨xs, h1, h2⟩ := z_lst h
    obtain ⟨v, e, _⟩ := h2.get (d := ds[i]) (List.getElem?_eq_getElem hi)
    exact ⟨xs, v, h1.sq, e⟩
  · obtain ⟨xs, h1, h2⟩ := z_lst h
    exact ⟨xs, h1.sq, by rw [h2.len]; exact Nat.le_refl _⟩
  · obtain ⟨xs, h1, h2⟩ := z_lst h
    obtain ⟨v, e, hv⟩ := h2.get (d := ds[i]) (List.getElem?_eq_getElem hi)
    have q := y.2 xs h1.sq
    rw [e] at q
    cases q
    exact ⟨y.1, _, List.getElem?_eq_getElem hi, hv⟩
theorem walk_Td : Walk (Itt K a) ds.length (fun H => Dz K S H (.tup ds) (.ref a)) (YD K S ds) := by
  refine ⟨fun i H hi h => ?_, fun H h => ?_, fun i H x H' hi h y => ?_⟩
  · obtain ⟨xs, h1, h2⟩ := z_tup h
    obtain ⟨v, e, _⟩ := h2.get (d := ds[i]) (List.getElem?_eq_getElem hi)
    exact ⟨xs, v, h1.sq, e⟩
  · obtain ⟨xs, h1, h2⟩ := z_tup h
    exact ⟨xs, h1.sq, by rw [h2.len]; exact Nat.le_refl _⟩
  · obtain ⟨xs, h1, h2⟩ := z_tup h
    obtain ⟨v, e, hv⟩ := h2.get (d := ds[i]) (List.getElem?_eq_getElem hi)
    have q := y.2 xs h1.sq
    rw [e] at q
    cases q
    exact ⟨y.1, _, List.getElem?_eq_getElem hi, hv⟩
/-- a text's signs, a range's ints -/
def YS (z : Str) : Nat → Hp → V → Hp → Prop := fun i H v H' => H' = H ∧ ∃ c, z.cps[i]? = some c ∧ v = .str ⟨#[c]⟩
/-- comprehensions: over a list, a tuple, a text, a range -/
theorem lc_L {g : TG} {tt : TT} {te : TE} {ws : List Nat} {σ : L2.St} (st : St K S M H0 H G L B) (m : (V.ref a, D.lst ds) ∈ G) (P : Nat → List D → Prop) (p0 : P 0 [])
    (hs : ∀ p i d x H1 es, ¬ S p → ds[i]? = some d → i < ds.length → es.length ≤ i → P i es → St K (fun b => S b ∨ b = p) M H0 H1 ((x, d) :: G) ((p, es) :: L) B → g x (wipe σ ws) H1 fun σ2 H3 => wipe σ2 ws = wipe σ ws ∧ tt σ2 H3 fun b H4 =>
      if b = true then te σ2 H4 (LcE K S M H0 G L B p P (i + 1)) else LcP K S M H0 G L B p P (i + 1) H4)
    (hd : ∀ p H' es, P ds.length es → es.length ≤ ds.length → St K S M H0 H' ((.ref p, .lst es) :: G) L B → Q (.ref p) H') : FItl K (FLc g tt te ws σ Q) (.ref a) H := by
  obtain ⟨xs, h1, _⟩ := z_lst (st.dz m)
  refine ⟨a, rfl, ⟨xs, h1.sq⟩, d_lc (fun p => walk_Ld (S := fun b => S b ∨ b = p)) st (fun p es H' s => s.dz m) P p0 (fun p i x H1 H2 es n hi hl pe s y => ?_) hd⟩
  obtain ⟨e, d, hd', hx⟩ := y
  subst e
  exact hs p i d x _ es n hd' hi hl pe (s.add hx)
theorem lc_T {g : TG} {tt : TT} {te : TE} {ws : List Nat} {σ : L2.St} (st : St K S M H0 H G L B) (m : (V.ref a, D.tup ds) ∈ G) (P : Nat → List D → Prop) (p0 : P 0 [])
    (hs : ∀ p i d x H1 es, ¬ S p → ds[i]? = some d → i < ds.length → es.length ≤ i → P i es → St K (fun b => S b ∨ b = p) M H0 H1 ((x, d) :: G) ((p, es) :: L) B → g x (wipe σ ws) H1 fun σ2 H3 => wipe σ2 ws = wipe σ ws ∧ tt σ2 H3 fun b H4 =>
      if b = true then te σ2 H4 (LcE K S M H0 G L B p P (i + 1)) else LcP K S M H0 G L B p P (i + 1) H4)
    (hd : ∀ p H' es, P ds.length es → es.length ≤ ds.length → St K S M H0 H' ((.ref p, .lst es) :: G) L B → Q (.ref p) H') : FItt K (FLc g tt te ws σ Q) (.ref a) H := by
  obtain ⟨xs, h1, _⟩ := z_tup (st.dz m)
  refine ⟨a, rfl, ⟨xs, h1.sq⟩, d_lc (fun p => walk_Td (S := fun b => S b ∨ b = p)) st (fun p es H' s => s.dz m) P p0 (fun p i x H1 H2 es n hi hl pe s y => ?_) hd⟩
  obtain ⟨e, d, hd', hx⟩ := y
  subst e
  exact hs p i d x _ es n hd' hi hl pe (s.add hx)
theorem lc_S {g : TG} {tt : TT} {te : TE} {ws : List Nat} {σ : L2.St} {z : Str} (st : St K S M H0 H G L B) (P : Nat → List D → Prop) (p0 : P 0 [])
    (hs : ∀ p i c x H1 es, ¬ S p → z.cps[i]? = some c → i < z.cps.size → es.length ≤ i → P i es → St K (fun b => S b ∨ b = p) M H0 H1 G ((p, es) :: L) B → x = .str ⟨#[c]⟩ → g x (wipe σ ws) H1 fun σ2 H3 => wipe σ2 ws = wipe σ ws ∧ tt σ2 H3 fun b H4 =>
      if b = true then te σ2 H4 (LcE K S M H0 G L B p P (i + 1)) else LcP K S M H0 G L B p P (i + 1) H4)
    (hd : ∀ p H' es, P z.cps.size es → es.length ≤ z.cps.size → St K S M H0 H' ((.ref p, .lst es) :: G) L B → Q (.ref p) H') : FIts (FLc g tt te ws σ Q) (.str z) H := by
  refine ⟨z, rfl, d_lc (fun p => walk_str) st (fun p es H' s => trivial) P p0 (fun p i x H1 H2 es n hi hl pe s y => ?_) hd⟩
  obtain ⟨e, c, hc, hx⟩ := y
  subst e
  exact hs p i c x _ es n hc hi hl pe s hx
theorem lc_R {g : TG} {tt : TT} {te : TE} {ws : List Nat} {σ : L2.St} {n : Nat} (hn : n ≤ 1000000) (st : St K S M H0 H G L B) (P : Nat → List D → Prop) (p0 : P 0 [])
    (hs : ∀ p i x H1 es, ¬ S p → i < n → es.length ≤ i → P i es → St K (fun b => S b ∨ b = p) M H0 H1 G ((p, es) :: L) B → x = .int (i : Nat) → g x (wipe σ ws) H1 fun σ2 H3 => wipe σ2 ws = wipe σ ws ∧ tt σ2 H3 fun b H4 =>
      if b = true then te σ2 H4 (LcE K S M H0 G L B p P (i + 1)) else LcP K S M H0 G L B p P (i + 1) H4)
    (hd : ∀ p H' es, P n es → es.length ≤ n → St K S M H0 H' ((.ref p, .lst es) :: G) L B → Q (.ref p) H') : FRng (FLc g tt te ws σ Q) [.int (n : Nat)] H := by
  refine ⟨n, rfl, by omega, by omega, ?_⟩
  rw [Int.toNat_natCast]
  refine d_lc (fun p => walk_range) st (fun p es H' s => trivial) P p0 (fun p i x H1 H2 es n hi hl pe s y => ?_) hd
  obtain ⟨e, hx⟩ := y
  subst e
  exact hs p i x _ es n hi hl pe s (by rw [hx]; simp)
theorem lc_RI {g : TG} {tt : TT} {te : TE} {ws : List Nat} {σ : L2.St} {n : Int} (h0 : 0 ≤ n) (hn : n ≤ 1000000) (st : St K S M H0 H G L B) (P : Nat → List D → Prop) (p0 : P 0 [])
    (hs : ∀ p i x H1 es, ¬ S p → i < n.toNat → es.length ≤ i → P i es → St K (fun b => S b ∨ b = p) M H0 H1 G ((p, es) :: L) B → x = .int (i : Nat) → g x (wipe σ ws) H1 fun σ2 H3 => wipe σ2 ws = wipe σ ws ∧ tt σ2 H3 fun b H4 =>
      if b = true then te σ2 H4 (LcE K S M H0 G L B p P (i + 1)) else LcP K S M H0 G L B p P (i + 1) H4)
    (hd : ∀ p H' es, P n.toNat es → es.length ≤ n.toNat → St K S M H0 H' ((.ref p, .lst es) :: G) L B → Q (.ref p) H') : FRng (FLc g tt te ws σ Q) [.int n] H := by
  have e : n = ((n.toNat : Nat) : Int) := by omega
  rw [e]
  exact lc_R (by omega) st P p0 hs hd
/-- zip of two tuples, of two lists: a new pair each turn -/
def YZ (K : PySem.W.Frag) (S : AS) (ds es : List D) : Nat → Hp → V → Hp → Prop := fun i H v H' => ∃ T x y d e, v = .ref T ∧ H T = none ∧ H' = upd H T (.tup [x, y]) ∧ ds[i]? = some d ∧ es[i]? = some e ∧ Dz K S H d x ∧ Dz K S H e y
theorem walk_ZT {n : Nat} (hn : n = min ds.length es.length) : Walk (ItzT K a b) n (fun H => Dz K S H (.tup ds) (.ref a) ∧ Dz K S H (.tup es) (.ref b)) (YZ K S ds es) := by
  subst hn
  refine ⟨fun i H hi h => ?_, fun H h => ?_, fun i H v H' hi h y => ?_⟩
  · obtain ⟨xs, h1, h2⟩ := z_tup h.1
    obtain ⟨ys, h3, h4⟩ := z_tup h.2
    obtain ⟨v, e, _⟩ := h2.get (d := ds[i]'(by omega)) (List.getElem?_eq_getElem (by omega))
    obtain ⟨w, e', _⟩ := h4.get (d := es[i]'(by omega)) (List.getElem?_eq_getElem (by omega))
    exact ⟨xs, ys, v, w, h1.sq, h3.sq, e, e'⟩
  · obtain ⟨xs, h1, h2⟩ := z_tup h.1
    obtain ⟨ys, h3, h4⟩ := z_tup h.2
    exact ⟨xs, ys, h1.sq, h3.sq, by rw [h2.len, h4.len]; omega⟩
  · obtain ⟨xs, h1, h2⟩ := z_tup h.1
    obtain ⟨ys, h3, h4⟩ := z_tup h.2
    obtain ⟨v', e, hv⟩ := h2.get (d := ds[i]'(by omega)) (List.getElem?_eq_getElem (by omega))
    obtain ⟨w, e', hw⟩ := h4.get (d := es[i]'(by omega)) (List.getElem?_eq_getElem (by omega))
    obtain ⟨T, x, y', q1, q2, q3, q4, q5⟩ := y
    have r1 := q4 xs h1.sq
    have r2 := q5 ys h3.sq
    rw [e] at r1
    rw [e'] at r2
    cases r1
    cases r2
    exact ⟨T, _, _, _, _, q1, q2, q3, List.getElem?_eq_getElem (by omega), List.getElem?_eq_getElem (by omega), hv, hw⟩
theorem lc_ZT {g : TG} {tt : TT} {te : TE} {ws : List Nat} {σ : L2.St} (st : St K S M H0 H G L B) (m : (V.ref a, D.tup ds) ∈ G) (m' : (V.ref b, D.tup es) ∈ G) (P : Nat → List D → Prop) (p0 : P 0 [])
    (hs : ∀ p i d e x y T H1 rs, ¬ S p → ds[i]? = some d → es[i]? = some e → rs.length ≤ i → P i rs → St K (fun b => S b ∨ b = p) M H0 H1 ((.ref T, .tup [d, e]) :: (x, d) :: (y, e) :: G) ((p, rs) :: L) B → SqT K H1 T [x, y] → g (.ref T) (wipe σ ws) H1 fun σ2 H3 => wipe σ2 ws = wipe σ ws ∧ tt σ2 H3 fun b H4 =>
      if b = true then te σ2 H4 (LcE K S M H0 G L B p P (i + 1)) else LcP K S M H0 G L B p P (i + 1) H4)
    (hd : ∀ p H' rs, P (min ds.length es.length) rs → rs.length ≤ min ds.length es.length → St K S M H0 H' ((.ref p, .lst rs) :: G) L B → Q (.ref p) H') : FZip K (FLc g tt te ws σ Q) [.ref a, .ref b] H := by
  obtain ⟨xs, h1, h2⟩ := z_tup (st.dz m)
  obtain ⟨ys, h3, h4⟩ := z_tup (st.dz m')
  refine ⟨a, b, xs, ys, rfl, .inr ⟨h1.sq, h3.sq, d_lc (fun p => walk_ZT (S := fun b => S b ∨ b = p) rfl) st (fun p es H' s => ⟨s.dz m, s.dz m'⟩) P p0 (fun p i v H1 H2 rs n hi hl pe s y => ?_) hd⟩⟩
  obtain ⟨T, x, y, d, e, rfl, nT, rfl, q1, q2, q3, q4⟩ := y
  have s2 := (s.add q4).add q3
  exact hs p i d e x y T _ rs n q1 q2 hl pe (s2.tup nT (zl_cons q3 (zl_cons q4 zl_nil))) (SqT.of upd_same)
/-- for loops: over a list, a tuple, a text, a range. Pv by the turn, the slots, the heap -/
theorem for_L {g : TG} {tb : TS} {E : Ends} {σ : L2.St} (Pv : Nat → L2.St → Hp → Prop) (hG : ∀ i σ H, Pv i σ H → Dz K S H (.lst ds) (.ref a)) (h0 : Pv 0 σ H)
    (hs : ∀ i d x σ H, ds[i]? = some d → i < ds.length → Dz K S H d x → Pv i σ H → g x σ H fun σ2 H2 => tb { E with nx := Pv (i + 1), ct := Pv (i + 1), bk := E.nx } σ2 H2) (hd : ∀ σ H, Pv ds.length σ H → E.nx σ H) : FItl K (FFor g tb E σ) (.ref a) H := by
  obtain ⟨xs, h1, _⟩ := z_lst (hG _ _ _ h0)
  refine ⟨a, rfl, ⟨xs, h1.sq⟩, for_it (walk_Ld (S := S)) Pv h0 (fun i σ H _ p => hG i σ H p) (fun i x σ H H' hi p y => ?_) hd⟩
  obtain ⟨e, d, q1, q2⟩ := y
  subst e
  exact hs i d x σ _ q1 hi q2 p
theorem for_T {g : TG} {tb : TS} {E : Ends} {σ : L2.St} (Pv : Nat → L2.St → Hp → Prop) (hG : ∀ i σ H, Pv i σ H → Dz K S H (.tup ds) (.ref a)) (h0 : Pv 0 σ H)
    (hs : ∀ i d x σ H, ds[i]? = some d → i < ds.length → Dz K S H d x → Pv i σ H → g x σ H fun σ2 H2 => tb { E with nx := Pv (i + 1), ct := Pv (i + 1), bk := E.nx } σ2 H2) (hd : ∀ σ H, Pv ds.length σ H → E.nx σ H) : FItt K (FFor g tb E σ) (.ref a) H := by
  obtain ⟨xs, h1, _⟩ := z_tup (hG _ _ _ h0)
  refine ⟨a, rfl, ⟨xs, h1.sq⟩, for_it (walk_Td (S := S)) Pv h0 (fun i σ H _ p => hG i σ H p) (fun i x σ H H' hi p y => ?_) hd⟩
  obtain ⟨e, d, q1, q2⟩ := y
  subst e
  exact hs i d x σ _ q1 hi q2 p
theorem for_S {g : TG} {tb : TS} {E : Ends} {σ : L2.St} {z : Str} (Pv : Nat → L2.St → Hp → Prop) (h0 : Pv 0 σ H)
    (hs : ∀ i c σ H, z.cps[i]? = some c → i < z.cps.size → Pv i σ H → g (.str ⟨#[c]⟩) σ H fun σ2 H2 => tb { E with nx := Pv (i + 1), ct := Pv (i + 1), bk := E.nx } σ2 H2) (hd : ∀ σ H, Pv z.cps.size σ H → E.nx σ H) : FIts (FFor g tb E σ) (.str z) H := by
  refine ⟨z, rfl, for_it walk_str Pv h0 (fun i σ H _ p => trivial) (fun i x σ H H' hi p y => ?_) hd⟩
  obtain ⟨e, c, q1, q2⟩ := y
  subst e
  subst q2
  exact hs i c σ _ q1 hi p
theorem for_R {g : TG} {tb : TS} {E : Ends} {σ : L2.St} {n : Int} (h0' : 0 ≤ n) (hn : n ≤ 1000000) (Pv : Nat → L2.St → Hp → Prop) (h0 : Pv 0 σ H)
    (hs : ∀ (i : Nat) σ H, (i : Int) < n → Pv i σ H → g (.int (i : Nat)) σ H fun σ2 H2 => tb { E with nx := Pv (i + 1), ct := Pv (i + 1), bk := E.nx } σ2 H2) (hd : ∀ σ H, Pv n.toNat σ H → E.nx σ H) : FRng (FFor g tb E σ) [.int n] H := by
  refine ⟨n, rfl, by omega, by omega, for_it walk_range Pv h0 (fun i σ H _ p => trivial) (fun i x σ H H' hi p y => ?_) hd⟩
  obtain ⟨e, q⟩ := y
  subst e
  have q' : x = .int (i : Nat) := by rw [q]; simp
  subst q'
  exact hs i σ _ (by omega) p
end
end Vf
namespace Vf
open PySem PySem.Spec PyProof.Rows L2 RZ
/-! ## 11. data that may be compared and shown -/
theorem take_snoc {α : Type} {l : List α} {i : Nat} {x : α} (h : l[i]? = some x) : l.take (i + 1) = l.take i ++ [x] := by
  rw [List.take_add_one, h]; rfl
mutual
/-- ints below 2^1900, texts of plain signs, no instance, no dict -/
def D.fine : D → Bool
  | .non | .bl _ => true
  | .int i => decide (i.natAbs.log2 < 1900)
  | .str x => PyData.strOk x && x.cps.toList.all fun c => decide (c < 16 ^ 8)
  | .lst ds | .tup ds => D.fines ds
  | .ins _ _ | .dic _ => false
def D.fines : List D → Bool
  | [] => true
  | d :: ds => D.fine d && D.fines ds
end
mutual
def D.wt : D → Nat
  | .non | .bl _ | .int _ => 0
  | .str x => x.cps.size
  | .lst ds | .tup ds => D.wts ds
  | .ins _ _ | .dic _ => 0
def D.wts : List D → Nat
  | [] => 0
  | d :: ds => D.wt d + 1 + D.wts ds
end
mutual
def D.dep : D → Nat
  | .lst ds | .tup ds => D.deps ds + 1
  | .non | .bl _ | .int _ | .str _ | .ins _ _ | .dic _ => 0
def D.deps : List D → Nat
  | [] => 0
  | d :: ds => max (D.dep d) (D.deps ds)
end
mutual
theorem D.fine_flat : ∀ d : D, d.fine = true → d.flat = true
  | .non, _ => rfl
  | .bl _, _ => rfl
  | .int _, _ => rfl
  | .str _, _ => rfl
  | .lst ds, h => by simp only [D.flat]; exact D.fines_flat ds (by simpa only [D.fine] using h)
  | .tup ds, h => by simp only [D.flat]; exact D.fines_flat ds (by simpa only [D.fine] using h)
  | .ins _ _, h => by simp [D.fine] at h
  | .dic _, h => by simp [D.fine] at h
theorem D.fines_flat : ∀ ds : List D, D.fines ds = true → D.flats ds = true
  | [], _ => rfl
  | d :: ds, h => by
    simp only [D.fines, Bool.and_eq_true] at h
    simp only [D.flats, D.fine_flat d h.1, D.fines_flat ds h.2, Bool.and_self]
end
mutual
theorem D.fine_lay : ∀ d : D, d.fine = true → d.py.canLay0 = true
  | .non, _ => by simp only [D.py, PyData.canLay0]
  | .bl _, _ => by simp only [D.py, PyData.canLay0]
  | .int _, _ => by simp only [D.py, PyData.canLay0]
  | .str x, h => by
    simp only [D.fine, Bool.and_eq_true] at h
    simp only [D.py, PyData.canLay0]; exact h.1
  | .lst ds, h => by simp only [D.py, PyData.canLay0]; exact D.fines_lay ds (by simpa only [D.fine] using h)
  | .tup ds, h => by simp only [D.py, PyData.canLay0]; exact D.fines_lay ds (by simpa only [D.fine] using h)
  | .ins _ _, h => by simp [D.fine] at h
  | .dic _, h => by simp [D.fine] at h
theorem D.fines_lay : ∀ ds : List D, D.fines ds = true → PyData.canLayAll0 (D.pys ds) = true
  | [], _ => by simp only [D.pys, PyData.canLayAll0]
  | d :: ds, h => by
    simp only [D.fines, Bool.and_eq_true] at h
    simp only [D.pys, PyData.canLayAll0, D.fine_lay d h.1, D.fines_lay ds h.2, Bool.and_self]
end
mutual
theorem D.fine_show : ∀ d : D, d.fine = true → d.py.showable = true
  | .non, _ => by simp only [D.py, PyData.showable]
  | .bl _, _ => by simp only [D.py, PyData.showable]
  | .int i, h => by
    simp only [D.fine, decide_eq_true_eq] at h
    simp only [D.py, PyData.showable, decide_eq_true_eq]
    omega
  | .str x, h => by simp only [D.py, PyData.showable]
  | .lst ds, h => by simp only [D.py, PyData.showable]; exact D.fines_show ds (by simpa only [D.fine] using h)
  | .tup ds, h => by simp only [D.py, PyData.showable]; exact D.fines_show ds (by simpa only [D.fine] using h)
  | .ins _ _, h => by simp [D.fine] at h
  | .dic _, h => by simp [D.fine] at h
theorem D.fines_show : ∀ ds : List D, D.fines ds = true → PyData.showableAll (D.pys ds) = true
  | [], _ => by simp only [D.pys, PyData.showableAll]
  | d :: ds, h => by
    simp only [D.fines, Bool.and_eq_true] at h
    simp only [D.pys, PyData.showableAll, D.fine_show d h.1, D.fines_show ds h.2, Bool.and_self]
end
mutual
theorem D.fine_short : ∀ d : D, d.fine = true → d.py.leavesShort 1910 = true
  | .non, _ => by simp only [D.py, PyData.leavesShort]
  | .bl _, _ => by simp only [D.py, PyData.leavesShort]
  | .int i, h => by
    simp only [D.fine, decide_eq_true_eq] at h
    simp only [D.py, PyData.leavesShort, decide_eq_true_eq]
    rw [PyData.shown_int]
    show (Str.ofString (toString i)).length ≤ 1910
    rw [PySem.ofString_length]
    exact Nat.le_trans (int_text_length_le (k := 1900) (by decide) h) (by decide)
  | .str x, h => by
    simp only [D.fine, Bool.and_eq_true] at h
    simp only [D.py, PyData.leavesShort]; exact h.2
  | .lst ds, h => by simp only [D.py, PyData.leavesShort]; exact D.fines_short ds (by simpa only [D.fine] using h)
  | .tup ds, h => by simp only [D.py, PyData.leavesShort]; exact D.fines_short ds (by simpa only [D.fine] using h)
  | .ins _ _, h => by simp [D.fine] at h
  | .dic _, h => by simp [D.fine] at h
theorem D.fines_short : ∀ ds : List D, D.fines ds = true → PyData.leavesShortAll 1910 (D.pys ds) = true
  | [], _ => by simp only [D.pys, PyData.leavesShortAll]
  | d :: ds, h => by
    simp only [D.fines, Bool.and_eq_true] at h
    simp only [D.pys, PyData.leavesShortAll, D.fine_short d h.1, D.fines_short ds h.2, Bool.and_self]
end
mutual
theorem D.py_bulk : ∀ d : D, d.fine = true → d.py.bulk = d.wt
  | .non, _ => by simp only [D.py, PyData.bulk, D.wt]
  | .bl _, _ => by simp only [D.py, PyData.bulk, D.wt]
  | .int i, h => by simp only [D.py, PyData.bulk, D.wt]
  | .str x, h => by simp only [D.py, PyData.bulk, D.wt]
  | .lst ds, h => by simp only [D.py, PyData.bulk, D.wt]; exact D.pys_bulk ds (by simpa only [D.fine] using h)
  | .tup ds, h => by simp only [D.py, PyData.bulk, D.wt]; exact D.pys_bulk ds (by simpa only [D.fine] using h)
  | .ins _ _, h => by simp [D.fine] at h
  | .dic _, h => by simp [D.fine] at h
theorem D.pys_bulk : ∀ ds : List D, D.fines ds = true → PyData.bulkAll (D.pys ds) = D.wts ds
  | [], _ => by simp only [D.pys, PyData.bulkAll, D.wts]
  | d :: ds, h => by
    simp only [D.fines, Bool.and_eq_true] at h
    simp only [D.pys, PyData.bulkAll, D.wts, D.py_bulk d h.1, D.pys_bulk ds h.2]
end
mutual
theorem D.py_dep : ∀ d : D, d.fine = true → d.py.depth = d.dep
  | .non, _ => by simp only [D.py, PyData.depth, D.dep]
  | .bl _, _ => by simp only [D.py, PyData.depth, D.dep]
  | .int i, h => by simp only [D.py, PyData.depth, D.dep]
  | .str x, h => by simp only [D.py, PyData.depth, D.dep]
  | .lst ds, h => by simp only [D.py, PyData.depth, D.dep, D.pys_dep ds (by simpa only [D.fine] using h)]
  | .tup ds, h => by simp only [D.py, PyData.depth, D.dep, D.pys_dep ds (by simpa only [D.fine] using h)]
  | .ins _ _, h => by simp [D.fine] at h
  | .dic _, h => by simp [D.fine] at h
theorem D.pys_dep : ∀ ds : List D, D.fines ds = true → PyData.depthAll (D.pys ds) = D.deps ds
  | [], _ => by simp only [D.pys, PyData.depthAll, D.deps]
  | d :: ds, h => by
    simp only [D.fines, Bool.and_eq_true] at h
    simp only [D.pys, PyData.depthAll, D.deps, D.py_dep d h.1, D.pys_dep ds h.2]
end
/-- may be compared and shown -/
structure D.Ok (d : D) : Prop where
  fine : d.fine = true
  wt : d.wt ≤ 8000
  dep : d.dep ≤ 60
theorem D.Ok.flat {d : D} (h : d.Ok) : d.flat = true := D.fine_flat d h.fine
theorem D.Ok.shaped {d : D} (h : d.Ok) : SeqAt.shaped d.py = true := by
  unfold SeqAt.shaped
  rw [D.fine_lay d h.fine, D.py_dep d h.fine]
  have := h.dep
  simp only [Bool.true_and, decide_eq_true_eq]
  omega
theorem D.Ok.show {d : D} (h : d.Ok) : d.py.showable = true := D.fine_show d h.fine
theorem D.Ok.dep' {d : D} (h : d.Ok) : d.py.depth ≤ 60 := by rw [D.py_dep d h.fine]; exact h.dep
theorem D.Ok.size {d : D} (h : d.Ok) : d.py.shown.length ≤ sizeLine := by
  have e := PyData.shown_le_bulk 1910 (by decide) d.py (D.fine_short d h.fine)
  rw [D.py_bulk d h.fine] at e
  have := h.wt
  rw [sizeLine_eq]
  omega
theorem D.Ok.refl {d : D} (h : d.Ok) : PyData.eqv d.py d.py = true := SeqAt.eqv_refl d.py (D.fine_lay d h.fine)
section
variable {K : PySem.W.Frag} {S : AS} {H : Hp} {Q : VK} {x y : V} {d e : D}
theorem o_eq (h1 : Dz K S H d x) (h2 : Dz K S H e y) (o1 : d.Ok) (o2 : e.Ok) (q : Q (.bl (PyData.eqv d.py e.py)) H) : rEqG K x y H Q := d_eq h1 h2 o1.flat o2.flat o1.shaped o2.shaped q
theorem o_ne (h1 : Dz K S H d x) (h2 : Dz K S H e y) (o1 : d.Ok) (o2 : e.Ok) (q : Q (.bl (!PyData.eqv d.py e.py)) H) : rNeG K x y H Q := d_ne h1 h2 o1.flat o2.flat o1.shaped o2.shaped q
theorem o_eqT (h1 : Dz K S H d x) (h2 : Dz K S H d y) (o1 : d.Ok) (q : Q (.bl true) H) : rEqG K x y H Q := o_eq h1 h2 o1 o1 (by rw [o1.refl]; exact q)
theorem o_neF (h1 : Dz K S H d x) (h2 : Dz K S H d y) (o1 : d.Ok) (q : Q (.bl false) H) : rNeG K x y H Q := o_ne h1 h2 o1 o1 (by rw [o1.refl]; exact q)
theorem o_repr (h1 : Dz K S H d x) (o : d.Ok) (q : Q (.str d.py.shown) H) : rRepr K [x] H Q := d_repr h1 o.flat o.show o.dep' o.size q
end
end Vf
namespace Vf
open PySem PySem.Spec PyProof.Rows L2 RZ
/-! ## 12. defs with defaults; objects that do not change; enumerate -/
section
variable {P : Program} {w : World} {K : PySem.W.Frag} {mg : Str → Option Value} {base : Heap}
theorem okD {x qual : Str} {st : Stmt} {dvs : List V} {kws : List (Str × V)} {f : Addr} {fd : FuncData} {N ps : List Str} {k : Nat} {sp : Sp} (F : FunD K x qual (defArgs st) (defBody st) (defScope st) dvs kws f fd) (S : FnScope N ps (defScope st)) (len : ∀ vs H Q E, sp vs H Q E → vs.length = ps.length)
    (hbody : ∀ (cdv : Value) (A : Around) (outer : List Env) (s : Shared) (H : Hp) (vs : List V) (Q : VK) (E : XK), Room k (A.deeper (envOfC qual (defScope st) s.heap.objs.size f cdv)) → sp vs H Q E →
      ∃ t, PSs (cxOf CX0 P w K mg base N qual (defScope st) f cdv A outer s H E).nox (defBody st) t ∧ t { nx := fun _ H' => Q .non H', rt := Q } (start N vs) H) : FnOk P w K mg base CX0 (k + 1) f fd ps sp := by
  refine F.ok S len fun cdv A outer s H vs Q E hr h => ?_
  obtain ⟨t, h1, h2⟩ := hbody cdv A outer s H vs Q E hr h
  exact ⟨t, h1.nox, h2⟩
end
section
variable {K : PySem.W.Frag} {S M : AS} {H0 H : Hp} {G : List (V × D)} {L : List (Addr × List D)} {B : List Addr} {Q : VK} {ds : List D} {d : D} {a C : Addr} {fs : List (Str × D)} {x : V}
/-- o.f -/
def FFld (K : PySem.W.Frag) (f : Str) (Q : VK) : VK := fun x H => ∃ a C dx fs v, x = .ref a ∧ H a = some (.ins C dx fs) ∧ Cls K C ∧ NoAttr K C f ∧ fs.lookup f = some v ∧ Q v H
theorem g_fld {ta : TE} {f : Str} {σ : L2.St} (h : ta σ H (FFld K f Q)) : tFld K ta f σ H Q := h
theorem d_fld {f : Str} (h : Dz K S H (.ins C fs) (.ref a)) (cl : Cls K C) (na : NoAttr K C f) (hl : fs.lookup f = some d) (q : ∀ v, Dz K S H d v → Q v H) : FFld K f Q (.ref a) H := by
  obtain ⟨b, dx, gs, e, _, h2, h3⟩ := h
  cases e
  obtain ⟨v, hv, hz⟩ := h3.get hl
  exact ⟨a, C, dx, gs, v, rfl, h2, cl, na, hv, q v hz⟩
theorem DzF.none : ∀ {fs : List (Str × D)} {gs : List (Str × V)} {n : Str}, DzF K S H fs gs → fs.lookup n = none → gs.lookup n = none
  | [], _, n, h, _ => by cases h; rfl
  | (m, d) :: fs, _, n, h, e => by
    obtain ⟨x, r, e1, h1, h2⟩ := h
    subst e1
    by_cases q : (n == m) = true
    · simp only [List.lookup, q] at e
      cases e
    · have q' : (n == m) = false := by simpa using q
      simp only [List.lookup, q'] at e ⊢
      exact DzF.none h2 e
/-- o.m(..) -/
def FMeth (C : Addr) (m : Str) (sp : Sp) (dvs : List V) (E : XK) (t : TA) (σ : L2.St) (Q : VK) : VK := fun x H => ∃ a dx fs, x = .ref a ∧ H a = some (.ins C dx fs) ∧ fs.lookup m = none ∧ t σ H fun vs H2 => sp (x :: (vs ++ dvs)) H2 Q E
theorem g_meth {m : Str} {sp : Sp} {dvs : List V} {E : XK} {ta : TE} {t : TA} {σ : L2.St} (h : ta σ H (FMeth C m sp dvs E t σ Q)) : tMeth C m sp dvs E ta t σ H Q := h
theorem d_meth {m : Str} {sp : Sp} {E : XK} {t : TA} {σ : L2.St} (h : Dz K S H (.ins C fs) (.ref a)) (hl : fs.lookup m = none) (q : t σ H fun vs H2 => sp (.ref a :: vs) H2 Q E) : FMeth C m sp [] E t σ Q (.ref a) H := by
  obtain ⟨b, dx, gs, e, _, h2, h3⟩ := h
  cases e
  refine ⟨a, dx, gs, rfl, h2, h3.none hl, ?_⟩
  simpa only [List.append_nil] using q
/-- C(.., k = v): the instance is made -/
def FMake (C : Addr) (n m : Nat) (sp : Sp) (gV : List V → List V → List V) (E : XK) (vs : List V) (Q : VK) : List V → Hp → Prop := fun zs H2 => vs.length = n ∧ zs.length = m ∧ ∀ x dx, H2 x = none → H2 dx = none → dx ≠ x →
  sp (gV (.ref x :: vs) zs) (upd (upd H2 dx (.own x)) x (.ins C dx [])) (fun v H3 => v = .non ∧ Q (.ref x) H3) E
theorem g_make {n m : Nat} {sp : Sp} {gV : List V → List V → List V} {E : XK} {t tk : TA} {σ : L2.St} (h : t σ H fun vs H1 => tk σ H1 (FMake C n m sp gV E vs Q)) : tMakeK C n m sp gV E t tk σ H Q := h
theorem St.isI (st : St K S M H0 H G L B) (m : (x, .ins C fs) ∈ G) : ∃ a, x = .ref a := by
  obtain ⟨a, _, _, e, _⟩ := st.dz m
  exact ⟨a, e⟩
/-- what an __init__ promises of data: the new instance at a, its arguments, then the fields -/
def spInit {α : Type} (K : PySem.W.Frag) (C : Addr) (enc : α → List D) (pre : α → Prop) (fs : α → List (Str × D)) : Sp := fun vs H Q _ => ∃ S x a dx r, vs = .ref a :: r ∧ Okk S H ∧ S a ∧ H a = some (.ins C dx []) ∧ DzL K S H (enc x) r ∧ pre x ∧
  ∀ H' gs, (∀ b o, b ≠ a → H b = some o → H' b = some o) → H' a = some (.ins C dx gs) → DzF K S H' (fs x) gs → Q .non H'
theorem spInit_len {α : Type} {enc : α → List D} {pre : α → Prop} {fs : α → List (Str × D)} {vs : List V} {E : XK} {n : Nat} (hn : ∀ a, (enc a).length + 1 = n) (h : spInit K C enc pre fs vs H Q E) : vs.length = n := by
  obtain ⟨S, x, a, dx, r, e, _, _, _, hz, _⟩ := h
  rw [e, List.length_cons, hz.len, hn]
theorem DzF.weak {S S' : AS} (ms : ∀ b, S' b → S b) {d : List (Str × D)} {v : List (Str × V)} (h : DzF K S H d v) : DzF K S' H d v :=
  DzF.map (fun _ _ => LzL.weak ms) (fun _ _ => LzT.weak ms) (fun a o n e => ⟨fun z => n (ms _ z), e⟩) d v h
theorem c_make {α : Type} {enc : α → List D} {pre : α → Prop} {fs : α → List (Str × D)} {n m : Nat} {gV : List V → List V → List V} {E : XK} {vs zs : List V} (x : α) (st : St K S M H0 H G L B) (hn : vs.length = n) (hm : zs.length = m) (r : List V) (hg : ∀ a, gV (.ref a :: vs) zs = .ref a :: r) (hz : DzL K S H (enc x) r) (hp : pre x)
    (q : ∀ a H', St K S M H0 H' ((.ref a, .ins C (fs x)) :: G) L B → Q (.ref a) H') : FMake C n m (spInit K C enc pre fs) gV E vs Q zs H := by
  refine ⟨hn, hm, fun a dx na nd ne => ?_⟩
  have e1 : Same H (upd (upd H dx (.own a)) a (.ins C dx [])) := fun b o h => by
    rw [upd_ne (ne_of_none h na), upd_ne (ne_of_none h nd)]
    exact h
  have ok2 : Okk (fun b => S b ∨ b = a) (upd (upd H dx (.own a)) a (.ins C dx [])) := fun b s => by
    rcases s with s | s
    · exact st.ok.same e1 b s
    · subst s; rw [upd_same]; exact fun w => by cases w
  refine ⟨fun b => S b ∨ b = a, x, a, dx, r, hg a, ok2, .inr rfl, upd_same, DzL.same e1 (DzL.fresh na hz), hp, fun H' gs k ha hd => ⟨rfl, q a H' ?_⟩⟩
  have e2 : Same H H' := fun b o h => k b o (ne_of_none h na) (e1 b o h)
  exact (st.same e2).add ⟨a, dx, gs, rfl, st.nS na, ha, DzF.weak (fun _ => .inl) hd⟩
/-- self.f = y -/
def FSet (K : PySem.W.Frag) (f : Str) (y : V) (E : Ends) (σ : L2.St) : VK := fun x H => ∃ a C dx fs, x = .ref a ∧ H a = some (.ins C dx fs) ∧ Cls K C ∧ NoAttr K C f ∧ fs.length < 1000 ∧ E.nx σ (upd H a (.ins C dx (putF f y fs)))
theorem g_setf {ta tv : TE} {f : Str} {E : Ends} {σ : L2.St} (h : tv σ H fun y H1 => ta σ H1 (FSet K f y E σ)) : sFld K ta tv f E σ H := h
theorem putF_app {f : Str} {y : V} : ∀ {gs : List (Str × V)} (ns : List Str), gs.map (·.1) = ns → ns.contains f = false → putF f y gs = gs ++ [(f, y)]
  | [], _, _, _ => rfl
  | (n, v) :: gs, ns, e, h => by
    subst e
    rw [List.map_cons, List.contains_cons, Bool.or_eq_false_iff] at h
    have ne : ¬ n = f := fun e => by
      have := h.1
      rw [e] at this
      simp at this
    show (if n = f then _ else _) = _
    rw [if_neg ne, putF_app (gs := gs) _ rfl h.2]
    rfl
theorem d_setf {f : Str} {y : V} {dx : Addr} {gs : List (Str × V)} {E : Ends} {σ : L2.St} (st : St K S (fun _ => False) H0 H G [] []) (sa : S a) (ha : H0 a = some (.ins C dx gs)) (cl : Cls K C) (na : NoAttr K C f) (ns : List Str) (hn : gs.map (·.1) = ns) (hc : ns.contains f = false) (hl : gs.length < 1000)
    (q : ∀ H', H' a = some (.ins C dx (gs ++ [(f, y)])) → (∀ b o, b ≠ a → H0 b = some o → H' b = some o) → St K S (fun _ => False) H' H' G [] [] → E.nx σ H') : FSet K f y E σ (.ref a) H := by
  refine ⟨a, C, dx, gs, rfl, st.end_ _ _ ha, cl, na, hl, ?_⟩
  rw [putF_app ns hn hc]
  have kp : Kp S H (upd H a (.ins C dx (gs ++ [(f, y)]))) := fun b o n e => by rw [upd_ne (fun z => n (by rw [z]; exact sa))]; exact e
  refine q _ upd_same (fun b o n e => by rw [upd_ne n]; exact st.end_ _ _ e) ⟨fun b s => ?_, fun b o n e => e, fun b n => n, fun q hq => Dz.keep kp (fun _ z => z) (st.ga q hq), fun p hp => by simp at hp, fun p hp => by simp at hp, by simp⟩
  by_cases z : b = a
  · subst z; rw [upd_same]; exact fun w => by cases w
  · rw [upd_ne z]; exact st.ok b s
theorem zf_nil : DzF K S H [] [] := rfl
theorem zf_cons {n : Str} {fs : List (Str × D)} {gs : List (Str × V)} (h : Dz K S H d x) (r : DzF K S H fs gs) : DzF K S H ((n, d) :: fs) ((n, x) :: gs) := ⟨x, gs, rfl, h, r⟩
/-- what isinstance asks of an own class -/
structure InsQ (K : PySem.W.Frag) (C : Addr) : Prop where
  cl : Cls K C
  ha : PySem.W.findIn K (.ref C) "__class__" = some (some (.builtin "object.__class__"))
  hn : PySem.W.specialIn K (.builtin "object.__class__") "__get__" = some (some (.builtin "getset_descriptor.__get__"))
  ht : PySem.W.takesIn K (.builtin "object.__class__") = some true
  hm : PySem.W.mroIn K C (.type "object") = some true
  me : PySem.W.kitOne K (.ref C) (.ref C) = some true
theorem d_isC (c : InsQ K C) (h : Dz K S H (.ins C fs) x) (q : Q (.bl true) H) : rIsiG K [x, .ref C] H Q := by
  obtain ⟨b, dx, gs, e, _, h2, h3⟩ := h
  subst e
  exact .inl ⟨.ref b, .ref C, _, _, true, rfl, .own C, .base (.ins h2 c.cl c.ha c.hn c.ht c.hm), c.me, q⟩
theorem int_ok {i : Int} (h : i.natAbs < 2 ^ 200) : (D.int i).Ok := by
  refine ⟨?_, by simp only [D.wt]; omega, by simp only [D.dep]; omega⟩
  simp only [D.fine, decide_eq_true_eq]
  exact PySem.Flt.log2_lt_of (by decide) (Nat.lt_of_lt_of_le h (Nat.pow_le_pow_right (by decide) (by decide)))
theorem int_okB {i : Int} (h : i.natAbs < 2 ^ 1900) : (D.int i).Ok := by
  refine ⟨?_, by simp only [D.wt]; omega, by simp only [D.dep]; omega⟩
  simp only [D.fine, decide_eq_true_eq]
  exact PySem.Flt.log2_lt_of (by decide) h
/-- where the law has made its bag -/
theorem St.law {K : PySem.W.Frag} {H H' : Hp} {b : Addr} (e : Same H H') (n : H b = none) (bg : Bag K (fun c => c = b) H' b) : St K (fun c => c = b) (fun _ => False) H H' [] [] [b] := by
  refine ⟨fun c hc => ?_, fun c o _ h => e c o h, fun c hc => ?_, fun p hp => by simp at hp, fun p hp => by simp at hp, fun a ha => ?_, by simp⟩
  · obtain ⟨r, h, i, cc, ns, q, _⟩ := bg.ex
    rw [hc, q]
    exact fun w => by cases w
  · cases q : H c with
    | none => exact absurd q hc
    | some o => rw [e c o q]; exact fun w => by cases w
  · rw [List.mem_singleton.mp ha]
    exact ⟨rfl, .inl n, bg⟩
/-- enumerate of a list of data -/
theorem for_E {g : TG} {tb : TS} {E : Ends} {σ : L2.St} (Pv : Nat → L2.St → Hp → Prop) (hG : ∀ i σ H, Pv i σ H → Dz K S H (.lst ds) (.ref a)) (h0 : Pv 0 σ H)
    (hs : ∀ i d x T σ H, ds[i]? = some d → i < ds.length → Dz K S H d x → Pv i σ H → H T = none → g (.ref T) σ (upd H T (.tup [.int (i : Nat), x])) fun σ2 H2 => tb { E with nx := Pv (i + 1), ct := Pv (i + 1), bk := E.nx } σ2 H2) (hd : ∀ σ H, Pv ds.length σ H → E.nx σ H) : FEnum K (FFor g tb E σ) [.ref a] H := by
  obtain ⟨xs, h1, _⟩ := z_lst (hG _ _ _ h0)
  have wk : Walk (Ite K a) ds.length (fun H => Dz K S H (.lst ds) (.ref a)) (fun i H v H' => ∃ T x d, v = .ref T ∧ H T = none ∧ H' = upd H T (.tup [.int (i : Nat), x]) ∧ ds[i]? = some d ∧ Dz K S H d x) := by
    refine ⟨fun i H hi h => ?_, fun H h => ?_, fun i H v H' hi h y => ?_⟩
    · obtain ⟨xs, h1, h2⟩ := z_lst h
      obtain ⟨v, e, _⟩ := h2.get (d := ds[i]) (List.getElem?_eq_getElem hi)
      exact ⟨xs, v, h1.sq, e⟩
    · obtain ⟨xs, h1, h2⟩ := z_lst h
      exact ⟨xs, h1.sq, by rw [h2.len]; exact Nat.le_refl _⟩
    · obtain ⟨xs, h1, h2⟩ := z_lst h
      obtain ⟨v', e, hv⟩ := h2.get (d := ds[i]) (List.getElem?_eq_getElem hi)
      obtain ⟨T, x, q1, q2, q3, q4⟩ := y
      have r := q4 xs h1.sq
      rw [e] at r
      cases r
      exact ⟨T, _, _, q1, q2, q3, List.getElem?_eq_getElem hi, hv⟩
  refine ⟨a, xs, rfl, h1.sq, for_it wk Pv h0 (fun i σ H _ p => hG i σ H p) (fun i x σ H H' hi p y => ?_) hd⟩
  obtain ⟨T, x', d, rfl, nT, rfl, q1, q2⟩ := y
  exact hs i d x' T σ H q1 hi q2 p nT
end
end Vf
namespace Vf
open PySem PySem.Spec PyProof.Rows L2
/-! ## 13. the end: a law whose promise is a FnG -/
section
variable {P : Program} {w : World} {K : PySem.W.Frag} {mg mb : Str → Option Value} {k : Nat} {fa a : Addr} {fd : FuncData} {x : Str} {sp : Sp} {s : Shared} {vs : List Value} {ns : List Int}
/-- the heap of which the law's call knows: the script alone, if it is none of K's -/
def scriptH (K : PySem.W.Frag) (a : Addr) (vs : List Value) (ns : List Int) : Hp := fun b => if b = a ∧ K.lookup a = none then some (.frz { cls := .type "list", data := .seq vs.toArray } (.lst (ns.map V.int))) else none
theorem scriptH_some {b : Addr} {u : HO} (e : scriptH K a vs ns b = some u) : b = a ∧ K.lookup a = none ∧ u = .frz { cls := .type "list", data := .seq vs.toArray } (.lst (ns.map V.int)) := by
  unfold scriptH at e
  split at e
  · rename_i q
    exact ⟨q.1, q.2, (Option.some.inj e).symm⟩
  · cases e
theorem scriptH_none {b : Addr} {o : Obj} {es : Array DictEntry} {n : Nat} (ha : s.heap.get? a = some { cls := .type "list", data := .seq vs.toArray }) (e : s.heap.get? b = some o) (d : o.data = .dict es n) : scriptH K a vs ns b = none := by
  cases q : scriptH K a vs ns b with
  | none => rfl
  | some u =>
    obtain ⟨rfl, _, _⟩ := scriptH_some q
    rw [ha] at e
    obtain rfl := Option.some.inj e
    cases d
theorem law_callG (KX : K.In s.heap) (hns : s.heap.Ns mainGlobals mg) (hb : s.heap.Ns builtinsNs mb) (hbb : ∀ y : Str, y ≠ "__name__" → mb y = bootBuiltins y) (hlim : s.heap.NoLimit) (hg : s.gens = #[])
    (ha : s.heap.get? a = some { cls := .type "list", data := .seq vs.toArray }) (hi : IntsAre vs ns) (hl : ns.length ≤ sizeLine) (hr : Room k callerA)
    (F : ∀ base : Heap, K.In base → base.Ns mainGlobals mg → FnG P w K mg base CX0 k fa fd [x] sp) (hbind : ∀ (s : Shared) (u : Value), BindsTo s fd ⟨[u], []⟩ [(x, u)])
    (hsp : ∀ H : Hp, SqL K H a (ns.map V.int) → sp [.ref a] H (fun v _ => v = .bl true) fun _ _ _ => False) :
    codeAny (model P w) callerA (.call (.ref fa) ⟨[.ref a], []⟩) (fun r s' => r = .ok (.ret (.bool true)) ∧ OldK s.heap s'.heap ∧ s'.os = s.os ∧ AllBare s'.gens) s := by
  have rv := vals_ints hi
  have ln := hi.length
  have hA := fun b u => scriptH_some (K := K) (a := a) (vs := vs) (ns := ns) (b := b) (u := u)
  have hD := fun b o es n => scriptH_none (K := K) (ns := ns) (b := b) (o := o) (es := es) (n := n) ha
  generalize eH : scriptH K a vs ns = H at hA hD
  have hok : HOk P w H s.heap := fun b u z => by
    obtain ⟨rfl, _, rfl⟩ := hA b u z
    exact ⟨ha, by rw [List.length_map]; exact hl, vs, _, rv, ha⟩
  have hS : SqL K H a (ns.map V.int) := by
    cases q : K.lookup a with
    | none =>
      have z : H a = some (.frz { cls := .type "list", data := .seq vs.toArray } (.lst (ns.map V.int))) := by rw [← eH]; exact if_pos ⟨rfl, q⟩
      exact .inl (.inr ⟨_, z⟩)
    | some o =>
      have e := KX a o q
      rw [ha] at e
      obtain rfl := Option.some.inj e
      exact .inr ⟨_, vs.toArray, _, q, rfl, rfl, rfl, by rw [List.size_toArray, ln]; exact hl, by simpa using rv⟩
  have nsK : ∀ {b : Addr} {m : Str → Option Value}, s.heap.Ns b m → (hidT s.heap H).Ns b m := fun {b m} h => by
    obtain ⟨o, es, ep, e, d, r⟩ := h
    exact ⟨o, es, ep, hidT_get e (hD b o es ep e d), d, r⟩
  have hK : K.In (hidT s.heap H) := fun b o e => hidT_get (KX b o e) (by
    cases q : H b with
    | none => rfl
    | some u =>
      obtain ⟨rfl, z, _⟩ := hA b u q
      rw [z] at e
      cases e)
  have hM : Mod K mg (hidT s.heap H) := ⟨hK, nsK hns, ⟨mb, nsK hb, hbb⟩, hlim.imp fun _ h => ⟨nsK h.1, h.2⟩⟩
  have e0 : Env0 P w K mg (hidT s.heap H) callerA [] s H := ⟨rfl, hM, fun b o e => of_hidT e, Nat.le_of_eq (hidT_size _ _), trivial, fun b hb => absurd (show b ∈ ([] : List Addr) from hb) (by simp), hok, .of_eq hg⟩
  refine codeAny_mono ((F _ hK (nsK hns)).run callerA [] s H ⟨[.ref a], []⟩ [.ref a] [.ref a] _ _ hr rfl e0 (hbind s (.ref a)) (.cons rfl .nil) (hsp H hS)) fun r s' h => ?_
  match r, h with
  | .error e, h => exact False.elim h
  | .ok .next, h => exact False.elim h
  | .ok .brk, h => exact False.elim h
  | .ok .cont, h => exact False.elim h
  | .ok (.ret u), h =>
    obtain ⟨v, H', os, bare, un, hok', r', q⟩ := h
    obtain rfl : v = V.bl true := q
    obtain rfl : u = Value.bool true := r'
    refine ⟨rfl, OldK.of_keep fun b o e => ?_, os, bare⟩
    cases q : H b with
    | none => exact un.keep b o e q (fun z => absurd (show b ∈ ([] : List Addr) from z) (by simp)) (by simp)
    | some u =>
      obtain ⟨rfl, _, rfl⟩ := hA b u q
      have e1 := (hok' b _ (un.frzs b _ _ q)).1
      rw [ha] at e
      obtain rfl := Option.some.inj e
      exact e1
end
theorem kitOne_self {K : PySem.W.Frag} {C : Addr} : PySem.W.kitOne K (.ref C) (.ref C) = some true := if_pos (beq_iff_eq.mpr rfl)
/-- the law's walk, from its promise -/
theorem walk_ofG {l : PySem.W.OpenLaw} {n k : Nat} {q : Program} {loose : List Str} {XP : (Str → Option Value) → Heap → Prop} {YP : World → Heap → Prop} {d : DefRec} {K : Params → PySem.W.Frag} {sp : PySem.W.Frag → Sp} {x : Str}
    (hn : l.most = some n) (hn2 : n ≤ sizeLine) (hdf : d.params.defaults = []) (hr : Room k callerA) (hY : ∀ (w : World) (h : Heap), YP w h → (K w.params).In h)
    (hsp : ∀ (K : PySem.W.Frag) (H : Hp) (a : Addr) (ns : List Int), ns.length ≤ n → SqL K H a (ns.map V.int) → sp K [.ref a] H (fun v _ => v = .bl true) fun _ _ _ => False)
    (F : ∀ (w : World) (mg : Str → Option Value) (fa : Addr) (h : Heap), (K w.params).In h → h.Ns mainGlobals mg → mg d.name = some (.ref fa) →
      ∃ fd : FuncData, (∀ (s : Shared) (u : Value), BindsTo s fd ⟨[u], []⟩ [(x, u)]) ∧
        ∀ base : Heap, (K w.params).In base → base.Ns mainGlobals mg → FnG l.prog w (K w.params) mg base CX0 k fa fd [x] (sp (K w.params))) :
    PySem.W.WalkO q loose XP YP l.row.toRowW d [] (fun f vs => PySem.call f vs) := by
  refine Att.attach_call hn hdf fun w s₀ s₁ mg mb fa o pm cd doc a vs ns G Y ho hd hcd hmg hobj hints hlen hg => ?_
  obtain ⟨fd, hb, hF⟩ := F w mg fa _ (hY w _ Y) G.T.g hmg
  exact law_callG (hY w _ Y) G.T.g G.T.b G.T.builtins G.T.nolimit hg hobj hints (Nat.le_trans hlen hn2) hr hF hb fun H hS => hsp _ H a ns hlen hS
end Vf
namespace Vf
open PySem PySem.Spec PyProof.Rows L2
/-! ## 14. more steps -/
section
variable {K : PySem.W.Frag} {S M : AS} {H0 H : Hp} {G : List (V × D)} {L : List (Addr × List D)} {B : List Addr} {Q : VK} {ds : List D} {d : D} {a C : Addr} {x y : V} {σ : L2.St} {D0 : Ends}
def FPar (i j : Nat) (E : Ends) (σ : L2.St) : List V → Hp → Prop := fun vs H1 => ∃ v w, vs = [v, w] ∧ E.nx ((σ.set i (some v)).set j (some w)) H1
theorem g_parS {i j : Nat} {t : TA} (h : t σ H (FPar i j D0 σ)) : tPar i j t D0 σ H := h
theorem g_parE {i j : Nat} (h : D0.nx ((σ.set i (some x)).set j (some y)) H) : FPar i j D0 σ [x, y] H := ⟨x, y, rfl, h⟩
/-- f(.., k = v) -/
def FCallN (n m : Nat) (sp : Sp) (gV : List V → List V → List V) (E : XK) (Q : VK) (vs : List V) : List V → Hp → Prop := fun zs H2 => vs.length = n ∧ zs.length = m ∧ sp (gV vs zs) H2 Q E
theorem g_callN {n m : Nat} {sp : Sp} {gV : List V → List V → List V} {E : XK} {t tk : TA} (h : t σ H fun vs H1 => tk σ H1 (FCallN n m sp gV E Q vs)) : tCallN n m sp gV E t tk σ H Q := h
theorem c_callN {n m : Nat} {sp : Sp} {gV : List V → List V → List V} {E : XK} {vs zs : List V} (hn : vs.length = n) (hm : zs.length = m) (h : sp (gV vs zs) H Q E) : FCallN n m sp gV E Q vs zs H := ⟨hn, hm, h⟩
/-- the last item of a list -/
theorem d_ixLast {ds : List D} (h : Dz K S H (.lst (ds ++ [d])) (.ref a)) (q : ∀ v, Dz K S H d v → Q v H) : rIxG K (.ref a) (.int (-1)) H Q := by
  obtain ⟨xs, h1, h2⟩ := z_lst h
  have hl := h2.len
  rw [List.length_append, List.length_singleton] at hl
  obtain ⟨v, e, hv⟩ := h2.get (i := ds.length) (d := d) (by simp)
  refine .inl ⟨a, xs, _, v, rfl, rfl, h1.sq, ?_, q v hv⟩
  unfold atI ixN
  rw [if_neg (by decide), if_pos (by omega)]
  show xs[(-1 + (xs.length : Int)).toNat]? = some v
  rw [show (-1 + (xs.length : Int)).toNat = ds.length by omega]
  exact e
/-- a test on a call's promise: a bool -/
theorem g_truB {b : Bool} {P : Bool → Hp → Prop} (h : P b H) : ∃ k, TruV K (.bl b) H k ∧ P k H := ⟨b, rfl, h⟩
/-- min and max of two ints -/
def FMin (Q : VK) : List V → Hp → Prop := fun xs H => ∃ i j, xs = [V.int i, V.int j] ∧ Q (V.int (if j < i then j else i)) H
def FMax (Q : VK) : List V → Hp → Prop := fun xs H => ∃ i j, xs = [V.int i, V.int j] ∧ Q (V.int (if j > i then j else i)) H
theorem v_min {i j : Int} (h : Q (.int (if j < i then j else i)) H) : ∃ i' j', ([.int i, .int j] : List V) = [V.int i', V.int j'] ∧ Q (V.int (if j' < i' then j' else i')) H := ⟨i, j, rfl, h⟩
theorem v_max {i j : Int} (h : Q (.int (if j > i then j else i)) H) : ∃ i' j', ([.int i, .int j] : List V) = [V.int i', V.int j'] ∧ Q (V.int (if j' > i' then j' else i')) H := ⟨i, j, rfl, h⟩
/-- two ways that go on alike -/
theorem g_join {R A B' : Prop} {p : Prop} [Decidable p] (r : R) (h1 : p → R → A) (h2 : ¬p → R → B') : if decide p = true then A else B' := by
  by_cases h : p
  · rw [if_pos (decide_eq_true h)]; exact h1 h r
  · rw [if_neg (by simpa using h)]; exact h2 h r
theorem g_joinH {P : Hp → Prop} {A : Prop} {p : Prop} [Decidable p] (st : St K S M H0 H G L B) (r : ∀ H', St K S M H0 H' G L B → P H') (h1 : p → (∀ H', St K S M H0 H' G L B → P H') → A) : if decide p = true then A else P H := g_join r h1 fun _ r => r H st
/-- where items of G are kept -/
theorem St.keep2 (st : St K S M H0 H G L B) {p q : V × D} (hp : p ∈ G) (hq : q ∈ G) : St K S M H0 H [p, q] L B := st.sub fun r hr => by
  rcases List.mem_cons.mp hr with h | hr
  · rw [h]; exact hp
  · rw [List.mem_singleton.mp hr]; exact hq
theorem St.keep1 (st : St K S M H0 H G L B) {p : V × D} (hp : p ∈ G) : St K S M H0 H [p] L B := st.sub fun r hr => by rw [List.mem_singleton.mp hr]; exact hp
theorem St.keep0 (st : St K S M H0 H G L B) : St K S M H0 H [] L B := st.sub fun r hr => by simp at hr
theorem St.keep3 (st : St K S M H0 H G L B) {p q r : V × D} (hp : p ∈ G) (hq : q ∈ G) (hr : r ∈ G) : St K S M H0 H [p, q, r] L B := st.sub fun z hz => by
  rcases List.mem_cons.mp hz with h | hz
  · rw [h]; exact hp
  rcases List.mem_cons.mp hz with h | hz
  · rw [h]; exact hq
  · rw [List.mem_singleton.mp hz]; exact hr
end
/-! ### data without lists -/
mutual
def D.imm : D → Bool
  | .lst _ | .dic _ => false
  | .tup ds => D.imms ds
  | .ins _ fs => D.immF fs
  | .non | .bl _ | .int _ | .str _ => true
def D.imms : List D → Bool
  | [] => true
  | d :: ds => D.imm d && D.imms ds
def D.immF : List (Str × D) → Bool
  | [] => true
  | (_, d) :: ds => D.imm d && D.immF ds
end
section
variable {K : PySem.W.Frag} {S S' : AS} {H : Hp}
mutual
theorem Dz.imm (sep : ∀ b, S' b → S b ∨ ∃ ys, H b = some (.lst ys)) : ∀ (d : D) (v : V), d.imm = true → Dz K S H d v → Dz K S' H d v
  | .non, _, _, h => h
  | .bl _, _, _, h => h
  | .int _, _, _, h => h
  | .str _, _, _, h => h
  | .tup ds, _, i, h => by
    obtain ⟨a, xs, e, h1, h2⟩ := h
    refine ⟨a, xs, e, ?_, DzL.imm sep ds xs i h2⟩
    rcases h1 with ⟨n, r⟩ | h1
    · refine .inl ⟨fun z => ?_, r⟩
      rcases sep a z with z | ⟨ys, z⟩
      · exact n z
      · rcases r with r | ⟨o, r⟩ <;> rw [z] at r <;> cases r
    · exact .inr h1
  | .ins C fs, _, i, h => by
    obtain ⟨a, dx, gs, e, h1, h2, h3⟩ := h
    refine ⟨a, dx, gs, e, fun z => ?_, h2, DzF.imm sep fs gs i h3⟩
    rcases sep a z with z | ⟨ys, z⟩
    · exact h1 z
    · rw [z] at h2; cases h2
theorem DzL.imm (sep : ∀ b, S' b → S b ∨ ∃ ys, H b = some (.lst ys)) : ∀ (ds : List D) (xs : List V), D.imms ds = true → DzL K S H ds xs → DzL K S' H ds xs
  | [], _, _, h => h
  | d :: ds, _, i, h => by
    obtain ⟨x, r, e, h1, h2⟩ := h
    rw [D.imms, Bool.and_eq_true] at i
    exact ⟨x, r, e, Dz.imm sep d x i.1 h1, DzL.imm sep ds r i.2 h2⟩
theorem DzF.imm (sep : ∀ b, S' b → S b ∨ ∃ ys, H b = some (.lst ys)) : ∀ (ds : List (Str × D)) (xs : List (Str × V)), D.immF ds = true → DzF K S H ds xs → DzF K S' H ds xs
  | [], _, _, h => h
  | (n, d) :: ds, _, i, h => by
    obtain ⟨x, r, e, h1, h2⟩ := h
    rw [D.immF, Bool.and_eq_true] at i
    exact ⟨x, r, e, Dz.imm sep d x i.1 h1, DzF.imm sep ds r i.2 h2⟩
end
end
section
variable {K : PySem.W.Frag} {S M : AS} {H0 H H' : Hp} {G : List (V × D)} {L : List (Addr × List D)} {B : List Addr} {Q : VK} {ds : List D} {d : D} {a p C : Addr} {xs : List V} {vs : List V} {E : XK} {α : Type} {enc : α → List D} {pre : α → Prop}
/-- a list that a call has made becomes the def's own -/
theorem St.adopt (st : St K S M H0 H G L B) (e : Same H H') (n : H p = none) (hp : H' p = some (.lst xs)) (h : DzL K (fun b => S b ∨ b = p) H' ds xs) : St K (fun b => S b ∨ b = p) M H0 H' G ((p, ds) :: L) B := by
  have s1 := st.same e
  refine ⟨fun b s => ?_, s1.kp, s1.dm, fun q hq => Dz.same e (Dz.fresh n (st.ga q hq)), fun q hq => ?_, fun a ha => ?_, ?_⟩
  · rcases s with s | s
    · exact s1.ok b s
    · subst s; rw [hp]; exact fun w => by cases w
  · rcases List.mem_cons.mp hq with z | z
    · subst z
      exact ⟨.inr rfl, .inl (st.h0 n), xs, hp, h⟩
    · obtain ⟨h1, h2, ys, h3, h4⟩ := st.la q z
      exact ⟨.inl h1, h2, ys, e _ _ h3, DzL.same e (DzL.fresh n h4)⟩
  · obtain ⟨h1, h2, h3⟩ := st.ba a ha
    exact ⟨.inl h1, h2, (h3.fresh n).same e⟩
  · rw [List.map_cons, List.cons_append, List.nodup_cons]
    refine ⟨fun m => ?_, st.nd⟩
    rcases List.mem_append.mp m with m | m
    · obtain ⟨q, hq, eq⟩ := List.mem_map.mp m
      have := (st.la q hq).1
      rw [eq] at this
      exact st.nS n this
    · exact st.nS n (st.ba p m).1
/-- an own list is forgotten -/
theorem St.drop {es : List D} (st : St K (fun b => S b ∨ b = p) M H0 H G ((p, es) :: L) B) (n : ¬ S p) : St K S M H0 H G L B := (st.give n).sub fun _ h => List.mem_cons_of_mem _ h
/-- the result is a list, a new one -/
def spNewL {α : Type} (K : PySem.W.Frag) (enc : α → List D) (pre : α → Prop) (f : α → List D) : Sp := fun vs H Q _ => ∃ S x, Okk S H ∧ DzL K S H (enc x) vs ∧ pre x ∧
  ∀ b H' xs, Same H H' → H b = none → H' b = some (.lst xs) → DzL K (fun c => S c ∨ c = b) H' (f x) xs → Q (.ref b) H'
theorem spNewL_len {f : α → List D} {n : Nat} (hn : ∀ a, (enc a).length = n) (h : spNewL K enc pre f vs H Q E) : vs.length = n := by
  obtain ⟨S, x, _, hz, _⟩ := h
  rw [hz.len, hn]
theorem c_New {f : α → List D} (x : α) (st : St K S M H0 H G L B) (hz : DzL K S H (enc x) vs) (hp : pre x) (q : ∀ b H', ¬ S b → St K (fun c => S c ∨ c = b) M H0 H' G ((b, f x) :: L) B → Q (.ref b) H') : spNewL K enc pre f vs H Q E :=
  ⟨S, x, st.ok, hz, hp, fun b H' _ e n hb h => q b H' (st.nS n) (st.adopt e n hb h)⟩
theorem c_NewG {f : α → List D} (x : α) (st : St K S M H0 H G L B) (hz : DzL K S H (enc x) vs) (hp : pre x) (q : ∀ b H', St K S M H0 H' ((.ref b, .lst (f x)) :: G) L B → Q (.ref b) H') : spNewL K enc pre f vs H Q E :=
  c_New x st hz hp fun b H' n st => q b H' (st.give n)
/-- list(t), the def's own -/
theorem d_listTo (st : St K S M H0 H G L B) (h : Dz K S H (.tup ds) (.ref a)) (q : ∀ p H', ¬ S p → H p = none → St K (fun c => S c ∨ c = p) M H0 H' G ((p, ds) :: L) B → Q (.ref p) H') : rListG K [.ref a] H Q := by
  obtain ⟨xs, h1, h2⟩ := z_tup h
  exact ⟨a, xs, rfl, .inr h1.sq, fun l n => q l _ (st.nS n) n (st.own n h2)⟩
theorem d_listLo (st : St K S M H0 H G L B) (h : Dz K S H (.lst ds) (.ref a)) (q : ∀ p H', ¬ S p → H p = none → St K (fun c => S c ∨ c = p) M H0 H' G ((p, ds) :: L) B → Q (.ref p) H') : rListG K [.ref a] H Q := by
  obtain ⟨xs, h1, h2⟩ := z_lst h
  exact ⟨a, xs, rfl, .inl h1.sq, fun l n => q l _ (st.nS n) n (st.own n h2)⟩
/-- the end of a def that tells a new list -/
theorem St.new {es : List D} (st : St K (fun b => S b ∨ b = p) (fun _ => False) H0 H G ((p, es) :: L) B) (k : ∀ b H' xs, Same H0 H' → H0 b = none → H' b = some (.lst xs) → DzL K (fun c => S c ∨ c = b) H' es xs → Q (.ref b) H') : Q (.ref p) H := by
  obtain ⟨_, h2, xs, h3, h4⟩ := st.la (p, es) (List.mem_cons_self ..)
  exact k p H xs st.end_ (h2.elim id False.elim) h3 h4
/-- C(..) of things of which some are the def's own lists: all that is kept of it is no list -/
theorem c_make2 {fs : α → List (Str × D)} {n m : Nat} {gV : List V → List V → List V} {zs : List V} {S1 : AS} (x : α) (st : St K S M H0 H G L B) (ok1 : Okk S1 H) (s1 : ∀ b, S1 b → S b) (sep : ∀ b, S b → S1 b ∨ ∃ ys, H b = some (.lst ys)) (im : D.immF (fs x) = true) (hn : vs.length = n) (hm : zs.length = m) (r : List V) (hg : ∀ a, gV (.ref a :: vs) zs = .ref a :: r) (hz : DzL K S1 H (enc x) r) (hp : pre x)
    (q : ∀ a H', St K S M H0 H' ((.ref a, .ins C (fs x)) :: G) L B → Q (.ref a) H') : FMake C n m (spInit K C enc pre fs) gV E vs Q zs H := by
  refine ⟨hn, hm, fun a dx na nd ne => ?_⟩
  have e1 : Same H (upd (upd H dx (.own a)) a (.ins C dx [])) := fun b o h => by
    rw [upd_ne (ne_of_none h na), upd_ne (ne_of_none h nd)]
    exact h
  have ok2 : Okk (fun b => S1 b ∨ b = a) (upd (upd H dx (.own a)) a (.ins C dx [])) := fun b s => by
    rcases s with s | s
    · exact ok1.same e1 b s
    · subst s; rw [upd_same]; exact fun w => by cases w
  refine ⟨fun b => S1 b ∨ b = a, x, a, dx, r, hg a, ok2, .inr rfl, upd_same, DzL.same e1 (DzL.fresh na hz), hp, fun H' gs k ha hd => ⟨rfl, q a H' ?_⟩⟩
  have e2 : Same H H' := fun b o h => k b o (ne_of_none h na) (e1 b o h)
  refine (st.same e2).add ⟨a, dx, gs, rfl, st.nS na, ha, DzF.imm (S := S1) (fun b s => ?_) _ _ im (DzF.weak (fun _ => .inl) hd)⟩
  rcases sep b s with s | ⟨ys, s⟩
  · exact .inl s
  · exact .inr ⟨ys, e2 _ _ s⟩
end
end Vf
namespace Vf
open PySem PySem.Spec PyProof.Rows L2
/-! ## 15. chains of three, as a test -/
section
variable {X : Cx} {a b c d : Expr} {ta tb tc td : TE} {pos : Pos}
def FCh (QB : Bool → Hp → Prop) (P : Hp → Prop) : VK := fun z H => ∃ k, z = .bl k ∧ (if k = true then P H else QB false H)
def tChain3 (r1 r2 r3 : R2) (ta tb tc td : TE) : TT := fun σ H QB => ta σ H fun x H1 => tb σ H1 fun y H2 => r1 x y H2 (FCh QB fun H3 => tc σ H3 fun w H4 => r2 y w H4 (FCh QB fun H5 => td σ H5 fun u H6 => r3 w u H6 (FB QB)))
theorem pt_chain3 {op1 op2 op3 : CmpOp} {r1 r2 r3 : R2} (h1 : OpR X (compareOp op1) r1) (h2 : OpR X (compareOp op2) r2) (h3 : OpR X (compareOp op3) r3) (ha : PE X a ta) (hb : PE X b tb) (hc : PE X c tc) (hd : PE X d td)
    (hm : lastMarks [op1, op2, op3] [b, c, d] = false := by with_unfolding_all rfl) : PT X (.Compare a [op1, op2, op3] [b, c, d] pos) (tChain3 r1 r2 r3 ta tb tc td) := by
  refine ⟨fun pins s σ H Q I h => ?_⟩
  refine isTrue_chain (thn (ha.run pins s σ H _ I h) fun v1 s1 ⟨x, H1, I1, e1, q1⟩ => test_link (thn (hb.run pins s1 σ H1 _ I1 q1) fun v2 s2 ⟨y, H2, I2, e2, q2⟩ =>
    thn (h1 pins s2 σ H2 x y v1 v2 _ I2 e1 e2 q2) fun d3 s3 ⟨z, H3, I3, e3, k, ez, q3⟩ => ?_)) hm
  subst ez
  cases e3
  refine wpAny_truthy_bool ?_
  cases k with
  | false => exact ite_ff ⟨H3, I3, q3⟩
  | true =>
    refine ite_tt (test_link (thn (hc.run pins s3 σ H3 _ I3 q3) fun v4 s4 ⟨w', H4, I4, e4, q4⟩ =>
      thn (h2 pins s4 σ H4 y w' v2 v4 _ I4 e2 e4 q4) fun d5 s5 ⟨z5, H5, I5, e5, k5, ez5, q5⟩ => ?_))
    subst ez5
    cases e5
    refine wpAny_truthy_bool ?_
    cases k5 with
    | false => exact ite_ff ⟨H5, I5, q5⟩
    | true =>
      refine ite_tt (test_last (thn (hd.run pins s5 σ H5 _ I5 q5) fun v6 s6 ⟨u, H6, I6, e6, q6⟩ => thn (h3 pins s6 σ H6 w' u v4 v6 _ I6 e4 e6 q6) fun d7 s7 ⟨z7, H7, I7, e7, k7, ez7, q7⟩ => ?_))
      subst ez7
      cases e7
      exact wpAny_truthy_bool ⟨H7, I7, q7⟩
variable {QB : Bool → Hp → Prop} {P : Hp → Prop} {H : Hp} {σ : L2.St}
theorem g_ch3 {r1 r2 r3 : R2} (h : ta σ H fun x H1 => tb σ H1 fun y H2 => r1 x y H2 (FCh QB fun H3 => tc σ H3 fun w H4 => r2 y w H4 (FCh QB fun H5 => td σ H5 fun u H6 => r3 w u H6 (FB QB)))) : tChain3 r1 r2 r3 ta tb tc td σ H QB := h
theorem g_chT (h : P H) : FCh QB P (.bl true) H := ⟨true, rfl, h⟩
theorem g_chF (h : QB false H) : FCh QB P (.bl false) H := ⟨false, rfl, h⟩
end
end Vf
namespace Vf
open PySem PySem.Spec PyProof.Rows L2 RZ
/-! ## lists of ranges, lists turned about, chains of four, None -/
section
variable {K : PySem.W.Frag} {S M : AS} {H0 H : Hp} {G : List (V × D)} {L : List (Addr × List D)} {B : List Addr} {Q : VK} {a : Addr} {ds : List D} {x : V} {d : D}
def FLrg (Q : VK) : Int → Int → Hp → Prop := fun a b H1 => RgOk a b ∧ ∀ q, H1 q = none → Q (.ref q) (upd H1 q (.lst (rgV a b)))
def FLr1 (Q : Int → Int → Hp → Prop) : VK := fun x H1 => ∃ n, x = .int n ∧ Q 0 n H1
theorem g_lrg {te : L2.St → Hp → (Int → Int → Hp → Prop) → Prop} {σ : L2.St} (h : te σ H (FLrg Q)) : tLstRg te σ H Q := h
theorem g_rg1 {ta : TE} {σ : L2.St} {P : Int → Int → Hp → Prop} (h : ta σ H (FLr1 P)) : tRg1 ta σ H P := h
theorem rgV_data (a : Int) (n : Nat) : DzL K S H ((List.range n).map fun i => D.int (a + (i : Nat))) ((List.range n).map fun i => V.int (a + (i : Nat))) := by
  have e : ((List.range n).map fun i => D.int (a + (i : Nat))) = ((List.range n).map fun (i : Nat) => a + (i : Int)).map D.int := by rw [List.map_map]; rfl
  have e2 : ((List.range n).map fun i => V.int (a + (i : Nat))) = ((List.range n).map fun (i : Nat) => a + (i : Int)).map V.int := by rw [List.map_map]; rfl
  rw [e, e2]
  exact DzL.of_ints _
/-- list(range(n)) -/
theorem d_lrg {n : Int} (st : St K S M H0 H G L B) (h0 : 0 ≤ n) (h1 : n ≤ 1000000) (q : ∀ p H', St K S M H0 H' ((.ref p, .lst ((List.range n.toNat).map fun i => D.int (0 + (i : Nat)))) :: G) L B → Q (.ref p) H') : FLr1 (FLrg Q) (.int n) H := by
  refine ⟨n, rfl, ⟨by decide, by decide, by omega, by omega, by omega⟩, fun p np => ?_⟩
  refine q p _ ?_
  have e : rgV 0 n = (List.range n.toNat).map fun i => V.int (0 + (i : Nat)) := by
    unfold rgV
    rw [Int.sub_zero]
  rw [e]
  exact st.lst np (rgV_data 0 _)
def FRevL (K : PySem.W.Frag) (Q : VK) : VK := fun x H1 => ∃ a xs, x = .ref a ∧ SqL K H1 a xs ∧ ∀ p, H1 p = none → Q (.ref p) (upd H1 p (.lst xs.reverse))
theorem g_rev {te : TE} {σ : L2.St} (h : te σ H (FRevL K Q)) : tRevL K te σ H Q := h
theorem d_rev (st : St K S M H0 H G L B) (h : Dz K S H (.lst ds) (.ref a)) (q : ∀ p H', St K S M H0 H' ((.ref p, .lst ds.reverse) :: G) L B → Q (.ref p) H') : FRevL K Q (.ref a) H := by
  obtain ⟨xs, h1, h2⟩ := z_lst h
  exact ⟨a, xs, rfl, h1.sq, fun p np => q p _ (st.lst np h2.rev)⟩
/-- is None -/
def rIsNo : R2 := fun x y H Q => y = .non ∧ Q (.bl (decide (x = .non))) H
def rNotNo : R2 := fun x y H Q => y = .non ∧ Q (.bl (!decide (x = .non))) H
theorem opIs {X : Cx} : OpR X (compareOp .Is) rIsNo := op_isN
theorem opNot {X : Cx} : OpR X (compareOp .IsNot) rNotNo := op_notN
theorem v_isNN (q : Q (.bl true) H) : rIsNo .non .non H Q := ⟨rfl, q⟩
theorem v_isNR (q : Q (.bl false) H) : rIsNo (.ref a) .non H Q := ⟨rfl, q⟩
theorem v_isNI {i : Int} (q : Q (.bl false) H) : rIsNo (.int i) .non H Q := ⟨rfl, q⟩
theorem v_notNN (q : Q (.bl false) H) : rNotNo .non .non H Q := ⟨rfl, q⟩
theorem v_notNR (q : Q (.bl true) H) : rNotNo (.ref a) .non H Q := ⟨rfl, q⟩
theorem v_notNI {i : Int} (q : Q (.bl true) H) : rNotNo (.int i) .non H Q := ⟨rfl, q⟩
theorem d_allT {n : Nat} (h : Dz K S H (.lst (List.replicate n (D.bl true))) (.ref a)) (q : Q (.bl true) H) : rAll K [.ref a] H Q := by
  have e : (List.replicate n (D.bl true)) = (List.replicate n true).map D.bl := by rw [List.map_replicate]
  rw [e] at h
  refine d_all h ?_
  have e2 : (List.replicate n true).all id = true := by simp
  rw [e2]
  exact q
theorem rep_succ {α : Type} {n : Nat} {x : α} : List.replicate n x ++ [x] = List.replicate (n + 1) x := List.replicate_succ'.symm
end
end Vf
namespace Vf
open PySem PySem.Spec PyProof.Rows L2 RZ
/-! ## kinds, wanes, walking: the arithmetic alone -/
/-- whole numbers -/
def isWhole : D → Bool
  | .int _ => true
  | _ => false
def isWithin (d : D) (lo hi : Int) : Bool := match d with
  | .int i => decide (lo ≤ i ∧ i ≤ hi)
  | _ => false
def isStep : D → Bool
  | .tup [a, b] => isWithin a 1 9 && isWithin b 0 (10 ^ 9)
  | _ => false
def areSteps : D → Bool
  | .lst ds => ds.all isStep
  | _ => false
def tails : List Int := [1, 2, 3, 4, 6, 8, 12, 24]
def signOk (c : Nat) : Bool := c == 46 || c == 97
def isRow (d : D) : Bool := match d with
  | .str z => decide (z.cps.size ≤ 200) && z.cps.toList.all signOk
  | _ => false
theorem sgn_eq (k c : Nat) : ((⟨#[k]⟩ : Str) == ⟨#[c]⟩) = (c == k) := by
  rw [Bool.eq_iff_iff, beq_iff_eq, beq_iff_eq, Str.mk.injEq]
  constructor
  · intro e
    have := congrArg (fun a : Array Nat => a.toList) e
    simp at this
    exact this.symm
  · intro e
    rw [e]
theorem sign_in (c : Nat) : inV (.str ⟨#[c]⟩) [.str (Str.ofString "."), .str (Str.ofString "a")] = signOk c := by
  show ((⟨#[46]⟩ : Str) == ⟨#[c]⟩ || ((⟨#[97]⟩ : Str) == ⟨#[c]⟩ || false)) = _
  rw [sgn_eq, sgn_eq, Bool.or_false]
  rfl
/-! ### a wane as data -/
structure Wn where
  head : List (Int × Int)
  tail : List (Int × Int)
  cap : Int
  lift : Int
  anew : Bool
def stepOk (s : Int × Int) : Prop := 1 ≤ s.1 ∧ s.1 ≤ 9 ∧ 0 ≤ s.2 ∧ s.2 ≤ 10 ^ 9
def stepD (s : Int × Int) : D := .tup [.int s.1, .int s.2]
structure Wn.Ok (w : Wn) : Prop where
  hl : w.head.length ≤ 24
  tl : (w.tail.length : Int) ∈ tails
  hs : ∀ s ∈ w.head, stepOk s
  ts : ∀ s ∈ w.tail, stepOk s
  c1 : 1 ≤ w.cap
  c2 : w.cap ≤ 10 ^ 9
  l1 : 0 ≤ w.lift
  l2 : w.lift ≤ 10 ^ 9
theorem Wn.Ok.t0 {w : Wn} (h : w.Ok) : 0 < w.tail.length := by
  have := h.tl
  simp only [tails, List.mem_cons, List.not_mem_nil, or_false] at this
  omega
theorem Wn.Ok.t24 {w : Wn} (h : w.Ok) : w.tail.length ≤ 24 := by
  have := h.tl
  simp only [tails, List.mem_cons, List.not_mem_nil, or_false] at this
  omega
def Wn.fs (w : Wn) : List (Str × D) := [("_head", .tup (w.head.map stepD)), ("_tail", .tup (w.tail.map stepD)), ("_steps", .tup ((w.head ++ w.tail).map stepD)), ("_cap", .int w.cap), ("_lift", .int w.lift), ("_anew", .bl w.anew)]
def Wn.d (C : Addr) (w : Wn) : D := .ins C w.fs
theorem isStep_ok {s : Int × Int} (h : stepOk s) : isStep (stepD s) = true := by
  obtain ⟨h1, h2, h3, h4⟩ := h
  simp [stepD, isStep, isWithin, h1, h2, h3]
  exact h4
theorem areSteps_ok {l : List (Int × Int)} (h : ∀ s ∈ l, stepOk s) : areSteps (.lst (l.map stepD)) = true := by
  show (l.map stepD).all isStep = true
  rw [List.all_map, List.all_eq_true]
  exact fun s hs => isStep_ok (h s hs)
theorem steps_fine : ∀ {l : List (Int × Int)}, (∀ s ∈ l, stepOk s) → D.fines (l.map stepD) = true ∧ D.wts (l.map stepD) = 3 * l.length ∧ D.deps (l.map stepD) ≤ 1
  | [], _ => ⟨rfl, rfl, Nat.zero_le _⟩
  | s :: l, h => by
    obtain ⟨h1, h2, h3⟩ := steps_fine (l := l) fun s m => h s (List.mem_cons_of_mem _ m)
    obtain ⟨q1, q2, q3, q4⟩ := h s (List.mem_cons_self ..)
    have o1 := int_ok (i := s.1) (by omega)
    have o2 := int_ok (i := s.2) (by omega)
    have f : (stepD s).fine = true := by
      simp only [stepD, D.fine, D.fines, Bool.and_eq_true] at *
      exact ⟨o1.fine, o2.fine, trivial⟩
    refine ⟨?_, ?_, ?_⟩
    · rw [List.map_cons, D.fines, f, h1]; rfl
    · rw [List.map_cons, D.wts, h2, List.length_cons]
      simp only [stepD, D.wt, D.wts]
      omega
    · rw [List.map_cons, D.deps]
      simp only [stepD, D.dep, D.deps]
      omega
theorem lst_ok {l : List (Int × Int)} (h : ∀ s ∈ l, stepOk s) (hl : l.length ≤ 100) : (D.lst (l.map stepD)).Ok := by
  obtain ⟨h1, h2, h3⟩ := steps_fine h
  exact ⟨h1, by simp only [D.wt]; omega, by simp only [D.dep]; omega⟩
theorem stepD_ok {s : Int × Int} (h : stepOk s) : (stepD s).Ok := by
  obtain ⟨h1, h2, h3, h4⟩ := h
  have o1 := int_ok (i := s.1) (by omega)
  have o2 := int_ok (i := s.2) (by omega)
  refine ⟨?_, ?_, ?_⟩
  · simp only [stepD, D.fine, D.fines, Bool.and_eq_true] at *
    exact ⟨o1.fine, o2.fine, trivial⟩
  · simp only [stepD, D.wt, D.wts]; omega
  · simp only [stepD, D.dep, D.deps]; omega
def encW (w : Wn) : List D := [.lst (w.head.map stepD), .lst (w.tail.map stepD), .int w.cap, .int w.lift, .bl w.anew]
theorem W_head (w : Wn) : w.fs.lookup ("_head" : Str) = some (D.tup (w.head.map stepD)) := rfl
theorem W_tail (w : Wn) : w.fs.lookup ("_tail" : Str) = some (D.tup (w.tail.map stepD)) := by
  first | rfl | with_unfolding_all rfl
theorem W_steps (w : Wn) : w.fs.lookup ("_steps" : Str) = some (D.tup ((w.head ++ w.tail).map stepD)) := by
  first | rfl | with_unfolding_all rfl
theorem W_cap (w : Wn) : w.fs.lookup ("_cap" : Str) = some (D.int w.cap) := by
  first | rfl | with_unfolding_all rfl
theorem W_lift (w : Wn) : w.fs.lookup ("_lift" : Str) = some (D.int w.lift) := by
  first | rfl | with_unfolding_all rfl
theorem W_anew (w : Wn) : w.fs.lookup ("_anew" : Str) = some (D.bl w.anew) := by
  first | rfl | with_unfolding_all rfl
/-- the phase of a since, the step that comes -/
def phase (w : Wn) (n : Int) : Int := if n < (w.head.length : Int) then n else w.head.length + (n - w.head.length) % (w.tail.length : Int)
def stepAt (w : Wn) (n : Int) : Int × Int := ((w.head ++ w.tail)[(phase w n).toNat]?).getD (1, 0)
theorem phase_lt {w : Wn} (h : w.Ok) {n : Int} (hn : 0 ≤ n) : 0 ≤ phase w n ∧ phase w n < ((w.head ++ w.tail).length : Int) := by
  have t0 := h.t0
  have e := Int.emod_nonneg (n - w.head.length) (by omega : (w.tail.length : Int) ≠ 0)
  have e2 := Int.emod_lt_of_pos (n - w.head.length) (by omega : (0 : Int) < (w.tail.length : Int))
  rw [List.length_append]
  unfold phase
  split <;> constructor <;> omega
theorem stepAt_get {w : Wn} (h : w.Ok) {n : Int} (hn : 0 ≤ n) : (w.head ++ w.tail)[(phase w n).toNat]? = some (stepAt w n) := by
  obtain ⟨h1, h2⟩ := phase_lt h hn
  have h3 : (phase w n).toNat < (w.head ++ w.tail).length := by omega
  unfold stepAt
  rw [List.getElem?_eq_getElem h3]
  rfl
theorem stepAt_ok {w : Wn} (h : w.Ok) {n : Int} (hn : 0 ≤ n) : stepOk (stepAt w n) := by
  have m := List.mem_of_getElem? (stepAt_get h hn)
  rcases List.mem_append.mp m with m | m
  · exact h.hs _ m
  · exact h.ts _ m
/-- methods: the fields' names are no methods' names -/
theorem W_no {m : Str} (h : (["_head", "_tail", "_steps", "_cap", "_lift", "_anew"] : List Str).contains m = false) (w : Wn) : w.fs.lookup m = none := by
  simp only [List.contains_cons, List.contains_nil, Bool.or_false, Bool.or_eq_false_iff] at h
  obtain ⟨h1, h2, h3, h4, h5, h6⟩ := h
  simp only [Wn.fs, List.lookup, h1, h2, h3, h4, h5, h6]
def planD (w : Wn) : D := .tup [.lst (w.head.map stepD), .lst (w.tail.map stepD), .int w.cap, .int w.lift, .bl w.anew]
theorem dot_eq (c : Nat) : decide ((⟨#[c]⟩ : Str) = Str.ofString ".") = decide (c = 46) := by
  rw [decide_eq_decide]
  constructor
  · intro e
    have e2 : (#[c] : Array Nat) = #[46] := (congrArg Str.cps e).trans rfl
    have e3 := congrArg (fun a : Array Nat => a.toList) e2
    simpa using e3
  · intro e
    subst e
    rfl
def waned1 (w : Wn) (x n : Int) : Int := if x / (stepAt w n).1 - (stepAt w n).2 > 0 then x / (stepAt w n).1 - (stepAt w n).2 else 0
theorem waned1_bd {w : Wn} (h : w.Ok) {n x : Int} (hn : 0 ≤ n) (h0 : 0 ≤ x) (h1 : x ≤ w.cap) : 0 ≤ waned1 w x n ∧ waned1 w x n ≤ w.cap := by
  obtain ⟨s1, s2, s3, s4⟩ := stepAt_ok h hn
  have c1 := h.c1
  have e1 : x / (stepAt w n).1 ≤ x := Int.ediv_le_self _ h0
  unfold waned1
  split <;> constructor <;> omega
def lifted1 (w : Wn) (x : Int) : Int := if x = 0 then 0 else if w.cap < x + w.lift then w.cap else x + w.lift
theorem lifted1_bd {w : Wn} (h : w.Ok) {x : Int} (h0 : 0 ≤ x) : 0 ≤ lifted1 w x ∧ lifted1 w x ≤ w.cap := by
  have c1 := h.c1
  have l1 := h.l1
  unfold lifted1
  split
  · constructor <;> omega
  · split <;> constructor <;> omega
theorem lifted1_eq {w : Wn} {x : Int} (h0 : 0 ≤ x) : (if x + w.lift < w.cap then x + w.lift else w.cap) * (if decide (0 < x) = true then 1 else 0) = lifted1 w x := by
  unfold lifted1
  by_cases h : x = 0
  · subst h; simp
  · have h2 : 0 < x := by omega
    rw [if_neg h]
    simp only [h2, decide_true, if_true, Int.mul_one]
    by_cases h3 : x + w.lift < w.cap
    · rw [if_pos h3, if_neg (by omega)]
    · rw [if_neg h3]
      by_cases h4 : w.cap < x + w.lift
      · rw [if_pos h4]
      · rw [if_neg h4]; omega
/-! ### a row walked -/
def stp (w : Wn) (s : Int × Int) (c : Nat) : Int × Int := (if c = 46 then waned1 w s.1 s.2 else lifted1 w s.1, if c = 46 then s.2 + 1 else if w.anew = true then 0 else s.2)
def stt (w : Wn) (s : Int × Int) (cs : List Nat) : Int × Int := cs.foldl (stp w) s
def walkL (w : Wn) (s : Int × Int) (n : Nat) (cs : List Nat) : List D := (List.range n).map fun j => stepD (stt w s (cs.take j))
theorem stt_succ {w : Wn} {s : Int × Int} {cs : List Nat} {i c : Nat} (h : cs[i]? = some c) : stt w s (cs.take (i + 1)) = stp w (stt w s (cs.take i)) c := by
  unfold stt
  rw [take_snoc h, List.foldl_append]
  rfl
theorem walkL_succ {w : Wn} {s : Int × Int} {cs : List Nat} {n : Nat} : walkL w s (n + 1) cs = walkL w s n cs ++ [stepD (stt w s (cs.take n))] := by
  unfold walkL
  rw [List.range_succ, List.map_append]
  rfl
theorem stt_ok {w : Wn} (h : w.Ok) : ∀ (cs : List Nat) {s : Int × Int}, 0 ≤ s.1 ∧ s.1 ≤ w.cap → 0 ≤ s.2 → (0 ≤ (stt w s cs).1 ∧ (stt w s cs).1 ≤ w.cap) ∧ 0 ≤ (stt w s cs).2 ∧ (stt w s cs).2 ≤ s.2 + cs.length
  | [], s, h0, hn => ⟨h0, hn, by show s.2 ≤ s.2 + ((0 : Nat) : Int); omega⟩
  | c :: cs, s, h0, hn => by
    have a1 := waned1_bd h hn h0.1 h0.2
    have a2 := lifted1_bd h h0.1
    have q1 : 0 ≤ (stp w s c).1 ∧ (stp w s c).1 ≤ w.cap := by
      show 0 ≤ (if c = 46 then _ else _) ∧ (if c = 46 then _ else _) ≤ w.cap
      split <;> assumption
    have q2 : 0 ≤ (stp w s c).2 ∧ (stp w s c).2 ≤ s.2 + 1 := by
      show 0 ≤ (if c = 46 then _ else _) ∧ (if c = 46 then _ else _) ≤ s.2 + 1
      split
      · constructor <;> omega
      · split <;> constructor <;> omega
    obtain ⟨r1, r2, r3⟩ := stt_ok h cs q1 q2.1
    refine ⟨r1, r2, ?_⟩
    show (stt w (stp w s c) cs).2 ≤ s.2 + ((cs.length + 1 : Nat) : Int)
    omega
theorem isRow_len {z : Str} (h : isRow (.str z) = true) : z.cps.size ≤ 200 := by
  have h : (decide (z.cps.size ≤ 200) && z.cps.toList.all signOk) = true := h
  rw [Bool.and_eq_true] at h
  exact of_decide_eq_true h.1
theorem stt_snd {w : Wn} : ∀ (cs : List Nat) {x y n : Int}, (stt w (x, n) cs).2 = (stt w (y, n) cs).2
  | [], _, _, _ => rfl
  | c :: cs, x, y, n => by
    show (stt w (stp w (x, n) c) cs).2 = (stt w (stp w (y, n) c) cs).2
    exact stt_snd cs
theorem tail_of {w : Wn} (h : w.Ok) : (w.tail.length : Int) = 1 ∨ (w.tail.length : Int) = 2 ∨ (w.tail.length : Int) = 3 ∨ (w.tail.length : Int) = 4 ∨ (w.tail.length : Int) = 6 ∨ (w.tail.length : Int) = 8 ∨ (w.tail.length : Int) = 12 ∨ (w.tail.length : Int) = 24 := by
  have := h.tl
  simp only [tails, List.mem_cons, List.not_mem_nil, or_false] at this
  exact this
section
variable {w : Wn} {n d j : Int}
theorem ph_le (h : w.Ok) (hn : 0 ≤ n) : phase w n ≤ n := by
  rcases tail_of h with e | e | e | e | e | e | e | e <;> unfold phase <;> rw [e] <;> (repeat split) <;> omega
theorem ph_ph (h : w.Ok) (hn : 0 ≤ n) : phase w (phase w n) = phase w n := by
  rcases tail_of h with e | e | e | e | e | e | e | e <;> unfold phase <;> rw [e] <;> (repeat split) <;> omega
theorem ph_id (h : w.Ok) (hn : 0 ≤ n) (hl : n < w.head.length + w.tail.length) : phase w n = n := by
  rcases tail_of h with e | e | e | e | e | e | e | e <;> unfold phase <;> rw [e] <;> (repeat split) <;> omega
theorem ph_24 (h : w.Ok) (hn : w.head.length ≤ n) (hd : 0 ≤ d) : phase w (n + 24 * d) = phase w n := by
  rcases tail_of h with e | e | e | e | e | e | e | e <;> unfold phase <;> rw [e] <;> (repeat split) <;> omega
theorem ph_mod (h : w.Ok) (hn : w.head.length ≤ n) : (n - phase w n) % w.tail.length = 0 := by
  rcases tail_of h with e | e | e | e | e | e | e | e <;> unfold phase <;> rw [e] <;> (repeat split) <;> omega
theorem ph_add (h : w.Ok) (hn : 0 ≤ n) (hj : 0 ≤ j) : phase w (phase w n + j) = phase w (n + j) := by
  rcases tail_of h with e | e | e | e | e | e | e | e <;> unfold phase <;> rw [e] <;> (repeat split) <;> omega
theorem ph_next (h : w.Ok) (hn : 0 ≤ n) : phase w (n + 1) = if phase w n + 1 = w.head.length + w.tail.length then (w.head.length : Int) else phase w n + 1 := by
  rcases tail_of h with e | e | e | e | e | e | e | e <;> unfold phase <;> rw [e] <;> (repeat split) <;> omega
end
theorem pairs_fine : ∀ {l : List (Int × Int)}, (∀ s ∈ l, s.1.natAbs < 2 ^ 190 ∧ s.2.natAbs < 2 ^ 190) → D.fines (l.map stepD) = true ∧ D.wts (l.map stepD) = 3 * l.length ∧ D.deps (l.map stepD) ≤ 1
  | [], _ => ⟨rfl, rfl, Nat.zero_le _⟩
  | s :: l, h => by
    obtain ⟨h1, h2, h3⟩ := pairs_fine (l := l) fun s m => h s (List.mem_cons_of_mem _ m)
    obtain ⟨q1, q2⟩ := h s (List.mem_cons_self ..)
    have o1 := int_ok (i := s.1) (by omega)
    have o2 := int_ok (i := s.2) (by omega)
    have f : (stepD s).fine = true := by
      simp only [stepD, D.fine, D.fines, Bool.and_eq_true] at *
      exact ⟨o1.fine, o2.fine, trivial⟩
    refine ⟨?_, ?_, ?_⟩
    · rw [List.map_cons, D.fines, f, h1]; rfl
    · rw [List.map_cons, D.wts, h2, List.length_cons]
      simp only [stepD, D.wt, D.wts]
      omega
    · rw [List.map_cons, D.deps]
      simp only [stepD, D.dep, D.deps]
      omega
theorem walkL_ok {w : Wn} (h : w.Ok) {s : Int × Int} (h0 : 0 ≤ s.1 ∧ s.1 ≤ w.cap) (hn : 0 ≤ s.2 ∧ s.2 ≤ 10 ^ 30) {cs : List Nat} (hl : cs.length ≤ 200) : (D.lst (walkL w s (cs.length + 1) cs)).Ok := by
  have hc := h.c2
  have e : walkL w s (cs.length + 1) cs = ((List.range (cs.length + 1)).map fun j => stt w s (cs.take j)).map stepD := by unfold walkL; rw [List.map_map]; rfl
  obtain ⟨h1, h2, h3⟩ := pairs_fine (l := (List.range (cs.length + 1)).map fun j => stt w s (cs.take j)) fun p hp => by
    obtain ⟨j, _, rfl⟩ := List.mem_map.mp hp
    obtain ⟨b1, b2, b3⟩ := stt_ok h (cs.take j) h0 hn.1
    have : (cs.take j).length ≤ 200 := by rw [List.length_take]; omega
    constructor <;> omega
  rw [e]
  rw [List.length_map, List.length_range] at h2
  exact ⟨h1, by simp only [D.wt]; omega, by simp only [D.dep]; omega⟩
theorem stp_mono {w : Wn} (h : w.Ok) {x y n : Int} {c : Nat} (h0 : 0 ≤ x) (h1 : x ≤ y) (h2 : y ≤ w.cap) (hn : 0 ≤ n) : (stp w (x, n) c).1 ≤ (stp w (y, n) c).1 := by
  show (if c = 46 then _ else _) ≤ (if c = 46 then _ else _)
  split
  · obtain ⟨s1, s2, s3, s4⟩ := stepAt_ok h hn
    have e := Int.ediv_le_ediv (by omega : 0 < (stepAt w n).1) h1
    show waned1 w x n ≤ waned1 w y n
    unfold waned1
    split <;> split <;> omega
  · have c1 := h.c1
    have l1 := h.l1
    show lifted1 w x ≤ lifted1 w y
    unfold lifted1
    (repeat split) <;> omega
theorem stt_mono {w : Wn} (h : w.Ok) : ∀ (cs : List Nat) {x y n : Int}, 0 ≤ x → x ≤ y → y ≤ w.cap → 0 ≤ n → (stt w (x, n) cs).1 ≤ (stt w (y, n) cs).1
  | [], _, _, _, _, h1, _, _ => h1
  | c :: cs, x, y, n, h0, h1, h2, hn => by
    show (stt w (stp w (x, n) c) cs).1 ≤ (stt w (stp w (y, n) c) cs).1
    have b1 := stt_ok h [c] (s := (x, n)) ⟨h0, by show x ≤ w.cap; omega⟩ hn
    have b2 := stt_ok h [c] (s := (y, n)) ⟨by show 0 ≤ y; omega, h2⟩ hn
    exact stt_mono h cs (x := (stp w (x, n) c).1) (y := (stp w (y, n) c).1) (n := (stp w (x, n) c).2) b1.1.1 (stp_mono h h0 h1 h2 hn) b2.1.2 b1.2.1
theorem stp_zero {w : Wn} (h : w.Ok) {s : Int × Int} {c : Nat} (h0 : s.1 = 0) (hn : 0 ≤ s.2) : (stp w s c).1 = 0 := by
  show (if c = 46 then _ else _) = 0
  rw [h0]
  split
  · obtain ⟨s1, s2, s3, s4⟩ := stepAt_ok h hn
    unfold waned1
    rw [Int.zero_ediv]
    split <;> omega
  · unfold lifted1
    rw [if_pos rfl]
theorem walkL_get {w : Wn} {s : Int × Int} {n : Nat} {cs : List Nat} {j : Nat} (h : j < n) : (walkL w s n cs)[j]? = some (stepD (stt w s (cs.take j))) := by
  unfold walkL
  rw [List.getElem?_map, List.getElem?_range h]
  rfl
end Vf
namespace Vf
open PySem PySem.Spec PyProof.Rows L2 RZ
/-! ## effects: the arithmetic alone -/
/-! ### effects as data -/
structure Ef where
  least : Int
  add : Int
  by_ : Int
  top : Int
def Ef.d (e : Ef) : D := .tup [.int e.least, .int e.add, .int e.by_, .int e.top]
def efD : Option Ef → D
  | none => .non
  | some e => e.d
def noE (w : Wn) : Ef := ⟨1, 0, 1, w.cap⟩
def turnE (w : Wn) (n : Int) : Option Ef := if w.cap / (stepAt w n).1 - (stepAt w n).2 < 1 then none else some ⟨(stepAt w n).1 * ((stepAt w n).2 + 1), -((stepAt w n).1 * (stepAt w n).2), (stepAt w n).1, w.cap / (stepAt w n).1 - (stepAt w n).2⟩
def mn (i j : Int) : Int := if j < i then j else i
def mx (i j : Int) : Int := if j > i then j else i
def shiftE (w : Wn) (s : Int) : Option Ef := if mn w.cap (w.cap + s) < 1 then none else some ⟨mx 1 (1 - s), s, 1, mn w.cap (w.cap + s)⟩
def chn : Option Ef → Option Ef → Option Ef
  | some a, some b => if a.top < b.least then none else some ⟨mx a.least (b.least * a.by_ - a.add), a.add + b.add * a.by_, a.by_ * b.by_, mn b.top ((a.top + b.add) / b.by_)⟩
  | _, _ => none
/-- numbers below 2^b -/
structure Ef.In (e : Ef) (b : Nat) : Prop where
  l : e.least.natAbs < 2 ^ b
  a : e.add.natAbs < 2 ^ b
  p : 1 ≤ e.by_
  y : e.by_.natAbs < 2 ^ b
  t : e.top.natAbs < 2 ^ b
def oIn (o : Option Ef) (b : Nat) : Prop := ∀ e, o = some e → e.In b
def thr : Option Ef → Int → Int
  | none, _ => 0
  | some e, x => if x < e.least then 0 else mn e.top ((x + e.add) / e.by_)
/-- the effect of one sign -/
def signE (w : Wn) (n : Int) (c : Nat) : Option Ef := if c = 46 then turnE w n else shiftE w w.lift
def esp (w : Wn) (p : Option Ef × Int) (c : Nat) : Option Ef × Int := (chn p.1 (signE w p.2 c), (stp w (0, p.2) c).2)
/-- the effect of signs behind an effect -/
def eff (w : Wn) (p : Option Ef × Int) (cs : List Nat) : Option Ef × Int := cs.foldl (esp w) p
theorem eff_succ {w : Wn} {p : Option Ef × Int} {cs : List Nat} {i c : Nat} (h : cs[i]? = some c) : eff w p (cs.take (i + 1)) = esp w (eff w p (cs.take i)) c := by
  unfold eff
  rw [take_snoc h, List.foldl_append]
  rfl
theorem eff_snd {w : Wn} : ∀ (cs : List Nat) {o : Option Ef} {n : Int}, (eff w (o, n) cs).2 = (stt w (0, n) cs).2
  | [], _, _ => rfl
  | c :: cs, o, n => by
    show (eff w (esp w (o, n) c) cs).2 = (stt w (stp w (0, n) c) cs).2
    rw [show esp w (o, n) c = (chn o (signE w n c), (stp w (0, n) c).2) from rfl, eff_snd cs]
    have e := stt_snd (w := w) cs (x := 0) (y := (stp w (0, n) c).1) (n := (stp w (0, n) c).2)
    rw [e]
structure Ef.Sg (e : Ef) : Prop where
  p : 1 ≤ e.by_
  y : e.by_ ≤ 9
  a1 : -17179869184 ≤ e.add
  a2 : e.add ≤ 17179869184
  l1 : 1 ≤ e.least
  l2 : e.least ≤ 17179869184
  t1 : 1 ≤ e.top
  t2 : e.top ≤ 10 ^ 9
  s : e.by_ ≤ e.least + e.add
structure Ef.At (e : Ef) (m : Nat) : Prop where
  p : 1 ≤ e.by_
  y : e.by_ ≤ 2 ^ (4 * m)
  a1 : -(2 ^ (4 * m) * 68719476736) ≤ e.add
  a2 : e.add ≤ 2 ^ (4 * m) * 68719476736
  l1 : 1 ≤ e.least
  l2 : e.least ≤ 2 ^ (4 * m) * 1099511627776
  t1 : 1 ≤ e.top
  t2 : e.top ≤ 10 ^ 9
theorem mulB {x y X Y : Int} (h1 : -X ≤ x) (h2 : x ≤ X) (h3 : 0 ≤ y) (h4 : y ≤ Y) : -(X * Y) ≤ x * y ∧ x * y ≤ X * Y := by
  have hX : 0 ≤ X := by omega
  have e1 := Int.mul_le_mul_of_nonneg_right h2 h3
  have e2 := Int.mul_le_mul_of_nonneg_left h4 hX
  have e3 := Int.mul_le_mul_of_nonneg_right h1 h3
  rw [Int.neg_mul] at e3
  constructor <;> omega
theorem natAbs_two {x : Int} {k b : Nat} (h1 : -(2 ^ k) ≤ x) (h2 : x ≤ 2 ^ k) (hk : k < b) : x.natAbs < 2 ^ b := by
  have e : ((2 : Int) ^ k) = ((2 ^ k : Nat) : Int) := by simp
  rw [e] at h1 h2
  have : 2 ^ k < 2 ^ b := Nat.pow_lt_pow_right (by decide) hk
  omega
theorem two4 (m : Nat) : (2 : Int) ^ (4 * (m + 1)) = 2 ^ (4 * m) * 16 := by
  rw [show 4 * (m + 1) = 4 * m + 4 by omega, Int.pow_add]
  rfl
theorem two_pos (m : Nat) : (1 : Int) ≤ 2 ^ m := by
  have e : ((2 : Int) ^ m) = ((2 ^ m : Nat) : Int) := by simp
  have := Nat.pow_pos (n := m) (by decide : 0 < 2)
  rw [e]
  omega
theorem Ef.At.In {e : Ef} {m : Nat} (h : e.At m) (hm : m ≤ 400) : e.In 1800 := by
  have h0 := two_pos (4 * m)
  have e1 : (2 : Int) ^ (4 * m + 40) = 2 ^ (4 * m) * 1099511627776 := by rw [Int.pow_add]; rfl
  obtain ⟨p, y, a1, a2, l1, l2, t1, t2⟩ := h
  refine ⟨?_, ?_, p, ?_, ?_⟩
  all_goals
    refine natAbs_two (k := 4 * m + 40) ?_ ?_ (by omega) <;> rw [e1] <;> generalize (2 : Int) ^ (4 * m) = z at * <;> omega
theorem Ef.Sg.In {e : Ef} (h : e.Sg) : e.In 40 := by
  obtain ⟨p, y, a1, a2, l1, l2, t1, t2, _⟩ := h
  refine ⟨?_, ?_, p, ?_, ?_⟩ <;> omega
theorem Ef.In.mono {e : Ef} {b c : Nat} (h : e.In b) (hb : b ≤ c) : e.In c := by
  have := Nat.pow_le_pow_right (n := 2) (by decide) hb
  obtain ⟨l, a, p, y, t⟩ := h
  exact ⟨by omega, by omega, p, by omega, by omega⟩
theorem chn_some {a b e : Ef} (h : chn (some a) (some b) = some e) : b.least ≤ a.top ∧ e = ⟨mx a.least (b.least * a.by_ - a.add), a.add + b.add * a.by_, a.by_ * b.by_, mn b.top ((a.top + b.add) / b.by_)⟩ := by
  have h : (if a.top < b.least then none else some (Ef.mk (mx a.least (b.least * a.by_ - a.add)) (a.add + b.add * a.by_) (a.by_ * b.by_) (mn b.top ((a.top + b.add) / b.by_)))) = some e := h
  by_cases h3 : a.top < b.least
  · rw [if_pos h3] at h; cases h
  · rw [if_neg h3] at h; cases h; exact ⟨by omega, rfl⟩
theorem chn_at {a b e : Ef} {m : Nat} (ha : a.At m) (hb : b.Sg) (h : chn (some a) (some b) = some e) : e.At (m + 1) := by
  obtain ⟨h3, rfl⟩ := chn_some h
  obtain ⟨p, y, a1, a2, l1, l2, t1, t2⟩ := ha
  obtain ⟨q, z, b1, b2, k1, k2, u1, u2, sm⟩ := hb
  obtain ⟨m1, m2⟩ := mulB b1 b2 (by omega : 0 ≤ a.by_) y
  obtain ⟨n1, n2⟩ := mulB (x := b.least) (X := 17179869184) (by omega) k2 (by omega : 0 ≤ a.by_) y
  have o2 := (mulB (x := a.by_) (y := b.by_) (X := 2 ^ (4 * m)) (Y := 9) (by omega) y (by omega) z).2
  have r1 : 1 * 1 ≤ a.by_ * b.by_ := Int.mul_le_mul p q (by decide) (by omega)
  have d1 : 1 ≤ (a.top + b.add) / b.by_ := by
    rw [Int.le_ediv_iff_mul_le (by omega)]
    omega
  have e4 := two4 m
  have z0 := two_pos (4 * m)
  refine ⟨?_, ?_, ?_, ?_, ?_, ?_, ?_, ?_⟩
  all_goals
    show _ ≤ _
    (try rw [e4])
    generalize (2 : Int) ^ (4 * m) = z at *
    simp only [mx, mn]
    (try split) <;> omega
theorem turnE_sg {w : Wn} (h : w.Ok) {n : Int} (hn : 0 ≤ n) {e : Ef} (he : turnE w n = some e) : e.Sg := by
  obtain ⟨s1, s2, s3, s4⟩ := stepAt_ok h hn
  have c1 := h.c1
  have c2 := h.c2
  unfold turnE at he
  split at he
  · cases he
  · rename_i h3
    cases he
    generalize stepAt w n = s at *
    obtain ⟨b, t⟩ := s
    have s1 : 1 ≤ b := s1
    have s2 : b ≤ 9 := s2
    have s3 : 0 ≤ t := s3
    have s4 : t ≤ 10 ^ 9 := s4
    have h3 : ¬ w.cap / b - t < 1 := h3
    have d2 : w.cap / b ≤ w.cap := Int.ediv_le_self _ (by omega)
    obtain ⟨m1, m2⟩ := mulB (x := b) (y := t) (X := 9) (Y := 10 ^ 9) (by omega) s2 s3 s4
    have m3 : 0 ≤ b * t := Int.mul_nonneg (by omega) s3
    have m4 : b * (t + 1) = b * t + b := by rw [Int.mul_add, Int.mul_one]
    refine ⟨s1, s2, ?_, ?_, ?_, ?_, ?_, ?_, ?_⟩ <;> simp only [m4] <;> omega
theorem askE_sg {w : Wn} (h : w.Ok) {e : Ef} (he : shiftE w w.lift = some e) : e.Sg := by
  have c1 := h.c1
  have c2 := h.c2
  have l1 := h.l1
  have l2 := h.l2
  have e1 : mn w.cap (w.cap + w.lift) = w.cap := by unfold mn; split <;> omega
  have e2 : mx 1 (1 - w.lift) = 1 := by unfold mx; split <;> omega
  unfold shiftE at he
  rw [e1, e2, if_neg (by omega)] at he
  cases he
  refine ⟨?_, ?_, ?_, ?_, ?_, ?_, ?_, ?_, ?_⟩ <;> (try simp only []) <;> omega
theorem signE_sg {w : Wn} (h : w.Ok) {n : Int} (hn : 0 ≤ n) {c : Nat} {e : Ef} (he : signE w n c = some e) : e.Sg := by
  unfold signE at he
  split at he
  · exact turnE_sg h hn he
  · exact askE_sg h he
theorem noE_at {w : Wn} (h : w.Ok) : (noE w).At 0 := by
  have c1 := h.c1
  have c2 := h.c2
  refine ⟨?_, ?_, ?_, ?_, ?_, ?_, ?_, ?_⟩ <;> simp only [noE] <;> omega
theorem eff_at {w : Wn} (h : w.Ok) : ∀ (cs : List Nat) {o : Option Ef} {n : Int} {m : Nat}, 0 ≤ n → (∀ e, o = some e → e.At m) → ∀ e, (eff w (o, n) cs).1 = some e → e.At (m + cs.length)
  | [], _, _, _, _, h1 => h1
  | c :: cs, o, n, m, hn, h1 => by
    intro e he
    have b1 := stt_ok h [c] (s := (0, n)) ⟨Int.le_refl _, by have := h.c1; show (0 : Int) ≤ w.cap; omega⟩ hn
    have := eff_at h cs (o := chn o (signE w n c)) (n := (stp w (0, n) c).2) (m := m + 1) b1.2.1 (fun e' he' => ?_) e he
    · rw [List.length_cons, show m + (cs.length + 1) = m + 1 + cs.length by omega]
      exact this
    · cases ho : o with
      | none => rw [ho] at he'; cases he'
      | some a =>
        cases hs : signE w n c with
        | none => rw [ho, hs] at he'; cases he'
        | some b =>
          rw [ho, hs] at he'
          exact chn_at (h1 a ho) (signE_sg h hn hs) he'
def rowE (w : Wn) (n : Int) (cs : List Nat) : Option Ef := (eff w (some (noE w), n) cs).1
theorem rowE_at {w : Wn} (h : w.Ok) {n : Int} (hn : 0 ≤ n) (cs : List Nat) : ∀ e, rowE w n cs = some e → e.At cs.length := fun e he => by
  have := eff_at h cs hn (o := some (noE w)) (m := 0) (fun e he => by cases he; exact noE_at h) e he
  rw [Nat.zero_add] at this
  exact this
theorem eE_ok {o : Option Ef} (h : oIn o 1800) : (efD o).Ok := by
  cases o with
  | none => exact ⟨rfl, by simp only [efD, D.wt]; omega, by simp only [efD, D.dep]; omega⟩
  | some e =>
    obtain ⟨l, a, p, y, t⟩ := h e rfl
    have m : 2 ^ 1800 ≤ 2 ^ 1900 := Nat.pow_le_pow_right (by decide) (by decide)
    have o1 := int_okB (Nat.lt_of_lt_of_le l m)
    have o2 := int_okB (Nat.lt_of_lt_of_le a m)
    have o3 := int_okB (Nat.lt_of_lt_of_le y m)
    have o4 := int_okB (Nat.lt_of_lt_of_le t m)
    refine ⟨?_, ?_, ?_⟩
    · simp only [efD, Ef.d, D.fine, D.fines, Bool.and_eq_true]
      exact ⟨o1.fine, o2.fine, o3.fine, o4.fine, trivial⟩
    · simp only [efD, Ef.d, D.wt, D.wts]; omega
    · simp only [efD, Ef.d, D.dep, D.deps]; omega
theorem chn_no {w : Wn} {e : Ef} (h : e.Sg) (hl : 0 ≤ e.least + e.add - e.by_) (hw : e.least ≤ w.cap) (ht : e.top = (w.cap + e.add) / e.by_) : chn (some (noE w)) (some e) = some e := by
  have h1 := h.l1
  show (if w.cap < e.least then none else _) = _
  rw [if_neg (by omega)]
  show some (Ef.mk (mx 1 (e.least * 1 - 0)) (0 + e.add * 1) (1 * e.by_) (mn e.top ((w.cap + e.add) / e.by_))) = some e
  rw [← ht, show mn e.top e.top = e.top by unfold mn; split <;> rfl, show mx 1 (e.least * 1 - 0) = e.least by unfold mx; split <;> omega]
  simp
theorem row0 (w : Wn) (n : Int) : rowE w n [] = some (noE w) := rfl
theorem row_ask {w : Wn} (h : w.Ok) (n : Int) : rowE w n [97] = some ⟨1, w.lift, 1, w.cap⟩ := by
  have c1 := h.c1
  have l1 := h.l1
  have e1 : mn w.cap (w.cap + w.lift) = w.cap := by unfold mn; split <;> omega
  have e2 : mx 1 (1 - w.lift) = 1 := by unfold mx; split <;> omega
  have e : signE w n 97 = some ⟨1, w.lift, 1, w.cap⟩ := by
    show shiftE w w.lift = _
    unfold shiftE
    rw [e1, e2, if_neg (by omega)]
  show chn (some (noE w)) (signE w n 97) = _
  rw [e]
  show (if w.cap < 1 then none else some (Ef.mk (mx 1 (1 * 1 - 0)) (0 + w.lift * 1) (1 * 1) (mn w.cap ((w.cap + w.lift) / 1)))) = _
  rw [if_neg (by omega), Int.ediv_one, e1, show mx 1 (1 * 1 - 0) = 1 by decide]
  simp
theorem row_turn {w : Wn} (h : w.Ok) {n : Int} (hn : 0 ≤ n) : rowE w n [46] = turnE w n := by
  have c1 := h.c1
  obtain ⟨s1, s2, s3, s4⟩ := stepAt_ok h hn
  show chn (some (noE w)) (turnE w n) = _
  unfold turnE
  split
  · rfl
  · rename_i h3
    generalize stepAt w n = s at *
    obtain ⟨b, t⟩ := s
    have s1 : 1 ≤ b := s1
    have s3 : 0 ≤ t := s3
    have h3 : ¬ w.cap / b - t < 1 := h3
    have q : (t + 1) * b ≤ w.cap := by rw [← Int.le_ediv_iff_mul_le (by omega)]; omega
    have q2 : (w.cap + -(b * t)) / b = w.cap / b - t := by
      rw [show w.cap + -(b * t) = w.cap + b * (-t) by rw [Int.mul_neg], Int.add_mul_ediv_left _ _ (by omega)]
      omega
    have q3 : b * (t + 1) = (t + 1) * b := Int.mul_comm _ _
    have q4 : 1 ≤ b * (t + 1) := by
      have := Int.mul_le_mul s1 (show 1 ≤ t + 1 by omega) (by decide) (by omega)
      omega
    show (if w.cap < b * (t + 1) then none else some (Ef.mk (mx 1 (b * (t + 1) * 1 - 0)) (0 + -(b * t) * 1) (1 * b) (mn (w.cap / b - t) ((w.cap + -(b * t)) / b)))) = _
    rw [if_neg (by omega), q2, show mn (w.cap / b - t) (w.cap / b - t) = w.cap / b - t by unfold mn; split <;> rfl, show mx 1 (b * (t + 1) * 1 - 0) = b * (t + 1) by unfold mx; split <;> omega]
    simp
theorem row_in {w : Wn} (h : w.Ok) {n : Int} (hn : 0 ≤ n) {cs : List Nat} (hl : cs.length ≤ 400) : oIn (rowE w n cs) 1800 := fun e he => (rowE_at h hn cs e he).In hl
theorem efD_wt (o : Option Ef) : (efD o).wt ≤ 4 := by
  cases o <;> simp only [efD, Ef.d, D.wt, D.wts] <;> omega
theorem efD_dep (o : Option Ef) : (efD o).dep ≤ 1 := by
  cases o <;> simp only [efD, Ef.d, D.dep, D.deps] <;> omega
end Vf
namespace Vf
open PySem PySem.Spec PyProof.Rows L2 RZ
/-! ## what passes through effects: the arithmetic alone -/
structure Ef.Wf (e : Ef) : Prop where
  l : 1 ≤ e.least
  p : 1 ≤ e.by_
  t : 1 ≤ e.top
  s : e.by_ ≤ e.least + e.add
def oWf (o : Option Ef) : Prop := ∀ e, o = some e → e.Wf
theorem Ef.At.In1 {e : Ef} {m : Nat} (h : e.At m) (hm : m ≤ 300) : e.In 1300 := by
  have h0 := two_pos (4 * m)
  have e1 : (2 : Int) ^ (4 * m + 40) = 2 ^ (4 * m) * 1099511627776 := by rw [Int.pow_add]; rfl
  obtain ⟨p, y, a1, a2, l1, l2, t1, t2⟩ := h
  refine ⟨?_, ?_, p, ?_, ?_⟩
  all_goals
    refine natAbs_two (k := 4 * m + 40) ?_ ?_ (by omega) <;> rw [e1] <;> generalize (2 : Int) ^ (4 * m) = z at * <;> omega
theorem thr_lt {e : Ef} {x : Int} (h : x < e.least) : thr (some e) x = 0 := by
  show (if x < e.least then (0 : Int) else _) = 0
  rw [if_pos h]
theorem thr_ge {e : Ef} {x : Int} (h : ¬ x < e.least) : thr (some e) x = mn e.top ((x + e.add) / e.by_) := by
  show (if x < e.least then (0 : Int) else _) = _
  rw [if_neg h]
theorem thr_zero {o : Option Ef} (h : oWf o) : thr o 0 = 0 := by
  cases o with
  | none => rfl
  | some e =>
    have := (h e rfl).l
    exact thr_lt (by omega)
theorem mn_le_l (i j : Int) : mn i j ≤ i := by unfold mn; split <;> omega
theorem mn_le_r (i j : Int) : mn i j ≤ j := by unfold mn; split <;> omega
theorem mn_ge {i j k : Int} (h1 : k ≤ i) (h2 : k ≤ j) : k ≤ mn i j := by unfold mn; split <;> omega
theorem mn_add_div {i j a b : Int} (hb : 0 < b) : (mn i j + a) / b = mn ((i + a) / b) ((j + a) / b) := by
  unfold mn
  by_cases h : j < i
  · have := Int.ediv_le_ediv hb (by omega : j + a ≤ i + a)
    rw [if_pos h]
    split <;> omega
  · have := Int.ediv_le_ediv hb (by omega : i + a ≤ j + a)
    rw [if_neg h]
    split <;> omega
theorem mn_assoc (i j k : Int) : mn (mn i j) k = mn i (mn j k) := by
  unfold mn
  (repeat split) <;> omega
theorem wf_ge {e : Ef} (h : e.Wf) {x : Int} (hx : e.least ≤ x) : 1 ≤ mn e.top ((x + e.add) / e.by_) := by
  have p := h.p
  have s := h.s
  refine mn_ge h.t ?_
  rw [Int.le_ediv_iff_mul_le (by omega)]
  omega
theorem thr_pos {e : Ef} (h : e.Wf) {x : Int} : 1 ≤ thr (some e) x ↔ e.least ≤ x := by
  constructor
  · intro q
    by_cases z : x < e.least
    · rw [thr_lt z] at q; omega
    · omega
  · intro q
    rw [thr_ge (by omega)]
    exact wf_ge h q
theorem thr_chn1 {a b : Ef} (ha : a.Wf) (hb : b.Wf) {x : Int} (hx : 0 ≤ x) : thr (chn (some a) (some b)) x = thr (some b) (thr (some a) x) := by
  obtain ⟨al, ap, at_, as_⟩ := ha
  obtain ⟨bl, bp, bt, bs⟩ := hb
  by_cases h1 : x < a.least
  · have e1 : thr (some a) x = 0 := thr_lt h1
    rw [e1, thr_zero (fun e h => by cases h; exact ⟨bl, bp, bt, bs⟩)]
    unfold chn
    show thr (if a.top < b.least then none else _) x = 0
    split
    · rfl
    · show (if x < mx a.least _ then 0 else _) = 0
      rw [if_pos (by unfold mx; split <;> omega)]
  · have e1 : thr (some a) x = mn a.top ((x + a.add) / a.by_) := thr_ge h1
    rw [e1]
    unfold chn
    show thr (if a.top < b.least then none else _) x = _
    by_cases h2 : a.top < b.least
    · rw [if_pos h2]
      have := mn_le_l a.top ((x + a.add) / a.by_)
      show 0 = (if mn a.top ((x + a.add) / a.by_) < b.least then 0 else _)
      rw [if_pos (by omega)]
    · rw [if_neg h2]
      have q : b.least ≤ (x + a.add) / a.by_ ↔ b.least * a.by_ ≤ x + a.add := Int.le_ediv_iff_mul_le (by omega)
      by_cases h3 : b.least ≤ (x + a.add) / a.by_
      · have h4 := q.mp h3
        have h5 : ¬ x < mx a.least (b.least * a.by_ - a.add) := by unfold mx; split <;> omega
        have h6 : ¬ mn a.top ((x + a.add) / a.by_) < b.least := by have := mn_ge (k := b.least) (by omega : b.least ≤ a.top) h3; omega
        show (if x < mx a.least (b.least * a.by_ - a.add) then 0 else mn (mn b.top ((a.top + b.add) / b.by_)) ((x + (a.add + b.add * a.by_)) / (a.by_ * b.by_))) = (if mn a.top ((x + a.add) / a.by_) < b.least then 0 else mn b.top ((mn a.top ((x + a.add) / a.by_) + b.add) / b.by_))
        rw [if_neg h5, if_neg h6, mn_add_div (by omega), mn_assoc, show (x + (a.add + b.add * a.by_)) / (a.by_ * b.by_) = ((x + a.add) / a.by_ + b.add) / b.by_ by
          rw [← Int.ediv_ediv_of_nonneg (by omega), ← Int.add_assoc, Int.add_mul_ediv_right _ _ (by omega)]]
      · have h4 : ¬ b.least * a.by_ ≤ x + a.add := fun z => h3 (q.mpr z)
        have h5 : x < mx a.least (b.least * a.by_ - a.add) := by unfold mx; split <;> omega
        have h6 := mn_le_r a.top ((x + a.add) / a.by_)
        show (if x < mx a.least (b.least * a.by_ - a.add) then 0 else _) = (if mn a.top ((x + a.add) / a.by_) < b.least then 0 else _)
        rw [if_pos h5, if_pos (by omega)]
theorem thr_chn {a b : Option Ef} (ha : oWf a) (hb : oWf b) {x : Int} (hx : 0 ≤ x) : thr (chn a b) x = thr b (thr a x) := by
  cases a with
  | none => exact (thr_zero hb).symm
  | some a =>
    cases b with
    | none => rfl
    | some b => exact thr_chn1 (ha a rfl) (hb b rfl) hx
theorem chn_wf {a b : Option Ef} (ha : oWf a) (hb : oWf b) : oWf (chn a b) := by
  intro e h
  cases a with
  | none => cases h
  | some a =>
    cases b with
    | none => cases h
    | some b =>
      obtain ⟨h3, rfl⟩ := chn_some h
      obtain ⟨al, ap, at_, as_⟩ := ha a rfl
      obtain ⟨bl, bp, bt, bs⟩ := hb b rfl
      have r1 : 1 * 1 ≤ a.by_ * b.by_ := Int.mul_le_mul ap bp (by decide) (by omega)
      have d1 : 1 ≤ (a.top + b.add) / b.by_ := by
        rw [Int.le_ediv_iff_mul_le (by omega)]
        omega
      have m1 : b.by_ * a.by_ ≤ (b.least + b.add) * a.by_ := Int.mul_le_mul_of_nonneg_right bs (by omega)
      rw [Int.add_mul] at m1
      have m2 : a.by_ * b.by_ = b.by_ * a.by_ := Int.mul_comm _ _
      refine ⟨?_, r1, mn_ge bt d1, ?_⟩
      · show 1 ≤ mx a.least _
        unfold mx; split <;> omega
      · show a.by_ * b.by_ ≤ mx a.least (b.least * a.by_ - a.add) + (a.add + b.add * a.by_)
        have : b.least * a.by_ - a.add ≤ mx a.least (b.least * a.by_ - a.add) := by unfold mx; split <;> omega
        omega
theorem Ef.Sg.Wf {e : Ef} (h : e.Sg) : e.Wf := ⟨h.l1, h.p, h.t1, h.s⟩
theorem signE_wf {w : Wn} (h : w.Ok) {n : Int} (hn : 0 ≤ n) {c : Nat} : oWf (signE w n c) := fun _ he => (signE_sg h hn he).Wf
theorem thr_sign {w : Wn} (h : w.Ok) {n x : Int} (hn : 0 ≤ n) (h0 : 0 ≤ x) (h1 : x ≤ w.cap) {c : Nat} : thr (signE w n c) x = (stp w (x, n) c).1 := by
  have c1 := h.c1
  have l1 := h.l1
  show _ = (if c = 46 then waned1 w x n else lifted1 w x)
  unfold signE
  split
  · obtain ⟨s1, s2, s3, s4⟩ := stepAt_ok h hn
    unfold turnE waned1
    generalize stepAt w n = s at *
    obtain ⟨b, t⟩ := s
    have s1 : 1 ≤ b := s1
    have s3 : 0 ≤ t := s3
    have d := Int.ediv_le_ediv (by omega : 0 < b) h1
    show thr (if w.cap / b - t < 1 then none else some ⟨b * (t + 1), -(b * t), b, w.cap / b - t⟩) x = if x / b - t > 0 then x / b - t else 0
    have q : t + 1 ≤ x / b ↔ (t + 1) * b ≤ x := Int.le_ediv_iff_mul_le (by omega)
    have q3 : b * (t + 1) = (t + 1) * b := Int.mul_comm _ _
    split
    · rw [if_neg (by omega)]; rfl
    · show (if x < b * (t + 1) then 0 else mn (w.cap / b - t) ((x + -(b * t)) / b)) = _
      have q2 : (x + -(b * t)) / b = x / b - t := by
        rw [show x + -(b * t) = x + b * (-t) by rw [Int.mul_neg], Int.add_mul_ediv_left _ _ (by omega)]
        omega
      by_cases h5 : t + 1 ≤ x / b
      · have := q.mp h5
        rw [if_neg (by omega), if_pos (by omega), q2]
        unfold mn; split <;> omega
      · have : ¬ (t + 1) * b ≤ x := fun z => h5 (q.mpr z)
        rw [if_pos (by omega), if_neg (by omega)]
  · have e1 : mn w.cap (w.cap + w.lift) = w.cap := by unfold mn; split <;> omega
    have e2 : mx 1 (1 - w.lift) = 1 := by unfold mx; split <;> omega
    unfold shiftE lifted1
    rw [e1, e2, if_neg (by omega)]
    show (if x < 1 then 0 else mn w.cap ((x + w.lift) / 1)) = _
    rw [Int.ediv_one]
    unfold mn
    (repeat split) <;> omega
theorem eff_thr {w : Wn} (h : w.Ok) : ∀ (cs : List Nat) {o : Option Ef} {n x : Int}, oWf o → 0 ≤ n → 0 ≤ x → 0 ≤ thr o x → thr o x ≤ w.cap → thr (eff w (o, n) cs).1 x = (stt w (thr o x, n) cs).1
  | [], _, _, _, _, _, _, _, _ => rfl
  | c :: cs, o, n, x, hw, hn, hx, h0, h1 => by
    have b1 := stt_ok h [c] (s := (thr o x, n)) ⟨h0, h1⟩ hn
    have e := thr_chn hw (signE_wf h hn (c := c)) hx
    rw [thr_sign h hn h0 h1] at e
    have s2 : (stp w (0, n) c).2 = (stp w (thr o x, n) c).2 := rfl
    have := eff_thr h cs (o := chn o (signE w n c)) (n := (stp w (0, n) c).2) (x := x) (chn_wf hw (signE_wf h hn)) b1.2.1 hx (by rw [e]; exact b1.1.1) (by rw [e]; exact b1.1.2)
    rw [e, s2] at this
    exact this
theorem noE_wf {w : Wn} (h : w.Ok) : oWf (some (noE w)) := fun e he => by
  cases he
  have c1 := h.c1
  exact ⟨by show (1 : Int) ≤ 1; omega, by show (1 : Int) ≤ 1; omega, c1, by show (1 : Int) ≤ 1 + 0; omega⟩
theorem thr_no {w : Wn} {x : Int} (h0 : 0 ≤ x) (h1 : x ≤ w.cap) : thr (some (noE w)) x = x := by
  show (if x < 1 then 0 else mn w.cap ((x + 0) / 1)) = x
  rw [Int.ediv_one, Int.add_zero]
  unfold mn
  (repeat split) <;> omega
theorem eff_wf {w : Wn} (h : w.Ok) : ∀ (cs : List Nat) {o : Option Ef} {n : Int}, oWf o → 0 ≤ n → oWf (eff w (o, n) cs).1
  | [], _, _, hw, _ => hw
  | c :: cs, o, n, hw, hn => by
    have b1 := stt_ok h [c] (s := (0, n)) ⟨Int.le_refl _, by have := h.c1; show (0 : Int) ≤ w.cap; omega⟩ hn
    exact eff_wf h cs (o := chn o (signE w n c)) (chn_wf hw (signE_wf h hn)) b1.2.1
theorem row_wf {w : Wn} (h : w.Ok) {n : Int} (hn : 0 ≤ n) (cs : List Nat) : oWf (rowE w n cs) := eff_wf h cs (noE_wf h) hn
/-- the effect of a row tells what walking does -/
theorem row_thr {w : Wn} (h : w.Ok) {n x : Int} (hn : 0 ≤ n) (h0 : 0 ≤ x) (h1 : x ≤ w.cap) (cs : List Nat) : thr (rowE w n cs) x = (stt w (x, n) cs).1 := by
  have e := thr_no h0 h1
  have := eff_thr h cs (o := some (noE w)) (n := n) (x := x) (noE_wf h) hn h0 (by rw [e]; exact h0) (by rw [e]; exact h1)
  rw [e] at this
  exact this
theorem thr_top {w : Wn} (h : w.Ok) {a b e : Ef} {n : Int} {c : Nat} (hb : signE w n c = some b) (he : chn (some a) (some b) = some e) : e.top = thr (some b) a.top := by
  obtain ⟨h3, rfl⟩ := chn_some he
  show mn b.top _ = (if a.top < b.least then 0 else _)
  rw [if_neg (by omega)]
theorem eff_top {w : Wn} (h : w.Ok) : ∀ (cs : List Nat) {a e : Ef} {n : Int}, 0 ≤ n → 0 ≤ a.top → a.top ≤ w.cap → (eff w (some a, n) cs).1 = some e → e.top = (stt w (a.top, n) cs).1
  | [], a, e, n, hn, h0, h1, he => by cases he; rfl
  | c :: cs, a, e, n, hn, h0, h1, he => by
    have b1 := stt_ok h [c] (s := (a.top, n)) ⟨h0, h1⟩ hn
    have he : (eff w (chn (some a) (signE w n c), (stp w (0, n) c).2) cs).1 = some e := he
    cases hs : chn (some a) (signE w n c) with
    | none =>
      rw [hs] at he
      have : ∀ (cs : List Nat) (m : Int), (eff w (none, m) cs).1 = none := by
        intro cs
        induction cs with
        | nil => intro m; rfl
        | cons d ds ih => intro m; exact ih _
      rw [this] at he
      cases he
    | some a2 =>
      rw [hs] at he
      cases hb : signE w n c with
      | none => rw [hb] at hs; cases hs
      | some b =>
        rw [hb] at hs
        have e1 := thr_top h hb hs
        rw [← hb, thr_sign h hn h0 h1] at e1
        have := eff_top h cs (a := a2) (n := (stp w (0, n) c).2) b1.2.1 (by rw [e1]; exact b1.1.1) (by rw [e1]; exact b1.1.2) he
        rw [this, e1]
        rfl
theorem row_top {w : Wn} (h : w.Ok) {n : Int} (hn : 0 ≤ n) {cs : List Nat} {e : Ef} (he : rowE w n cs = some e) : e.top = (stt w (w.cap, n) cs).1 :=
  eff_top h cs (a := noE w) hn (by have := h.c1; show 0 ≤ w.cap; omega) (Int.le_refl _) he
theorem row_none {w : Wn} (h : w.Ok) {n : Int} (hn : 0 ≤ n) {cs : List Nat} (he : rowE w n cs = none) : (stt w (w.cap, n) cs).1 = 0 := by
  rw [← row_thr h hn (by have := h.c1; omega) (Int.le_refl _), he]
  rfl
theorem row_least {w : Wn} (h : w.Ok) {n : Int} (hn : 0 ≤ n) {cs : List Nat} {e : Ef} (he : rowE w n cs = some e) : 1 ≤ e.least ∧ e.least ≤ w.cap ∧ 1 ≤ e.top ∧ (stt w (e.least, n) cs).1 ≠ 0 ∧ (stt w (e.least - 1, n) cs).1 = 0 := by
  have c1 := h.c1
  have wf := row_wf h hn cs e he
  have t := row_top h hn he
  have l := wf.l
  have q := row_thr h hn (x := w.cap) (by omega) (Int.le_refl _) cs
  rw [he, ← t] at q
  have g : e.least ≤ w.cap := (thr_pos wf).mp (by rw [q]; exact wf.t)
  have q1 := row_thr h hn (x := e.least) (by omega) g cs
  have q2 := row_thr h hn (x := e.least - 1) (by omega) (by omega) cs
  rw [he] at q1 q2
  have q3 := (thr_pos wf).mpr (Int.le_refl e.least)
  have q4 : ¬ 1 ≤ thr (some e) (e.least - 1) := fun z => by have := (thr_pos wf).mp z; omega
  have q5 := (stt_ok h cs (s := (e.least - 1, n)) ⟨by show 0 ≤ e.least - 1; omega, by show e.least - 1 ≤ w.cap; omega⟩ hn).1.1
  exact ⟨l, g, wf.t, by omega, by omega⟩
section
variable {K : PySem.W.Frag} {S M : AS} {H0 H : Hp} {G : List (V × D)} {L : List (Addr × List D)} {B : List Addr} {Q : VK}
/-- [.. for x in range(lo, hi)] -/
theorem lc_R2 {g : TG} {tt : TT} {te : TE} {ws : List Nat} {σ : L2.St} {lo hi : Int} (hb : -1000000 ≤ lo ∧ lo ≤ 1000000 ∧ -1000000 ≤ hi ∧ hi ≤ 1000000) (st : St K S M H0 H G L B) (P : Nat → List D → Prop) (p0 : P 0 [])
    (hs : ∀ p i x H1 es, ¬ S p → i < (hi - lo).toNat → es.length ≤ i → P i es → St K (fun b => S b ∨ b = p) M H0 H1 G ((p, es) :: L) B → x = .int (lo + (i : Nat)) → g x (wipe σ ws) H1 fun σ2 H3 => wipe σ2 ws = wipe σ ws ∧ tt σ2 H3 fun b H4 =>
      if b = true then te σ2 H4 (LcE K S M H0 G L B p P (i + 1)) else LcP K S M H0 G L B p P (i + 1) H4)
    (hd : ∀ p H' es, P (hi - lo).toNat es → es.length ≤ (hi - lo).toNat → St K S M H0 H' ((.ref p, .lst es) :: G) L B → Q (.ref p) H') : FRng2 (FLc g tt te ws σ Q) [.int lo, .int hi] H := by
  refine ⟨lo, hi, rfl, ⟨by omega, by omega, by omega, by omega⟩, ?_⟩
  refine d_lc (fun p => walk_range) st (fun p es H' s => trivial) P p0 (fun p i x H1 H2 es n hi hl pe s y => ?_) hd
  obtain ⟨e, hx⟩ := y
  subst e
  exact hs p i x _ es n hi hl pe s hx
theorem for_R2 {g : TG} {tb : TS} {E : Ends} {σ : L2.St} {lo hi : Int} (hb : -1000000 ≤ lo ∧ lo ≤ 1000000 ∧ -1000000 ≤ hi ∧ hi ≤ 1000000) (Pv : Nat → L2.St → Hp → Prop) (h0 : Pv 0 σ H)
    (hs : ∀ (i : Nat) σ H, i < (hi - lo).toNat → Pv i σ H → g (.int (lo + (i : Nat))) σ H fun σ2 H2 => tb { E with nx := Pv (i + 1), ct := Pv (i + 1), bk := E.nx } σ2 H2) (hd : ∀ σ H, Pv (hi - lo).toNat σ H → E.nx σ H) : FRng2 (FFor g tb E σ) [.int lo, .int hi] H := by
  refine ⟨lo, hi, rfl, ⟨by omega, by omega, by omega, by omega⟩, for_it walk_range Pv h0 (fun i σ H _ p => trivial) (fun i x σ H H' hi p y => ?_) hd⟩
  obtain ⟨e, q⟩ := y
  subst e
  subst q
  exact hs i σ _ hi p
end
section
variable {K : PySem.W.Frag} {S M : AS} {H0 H H' : Hp} {G G' : List (V × D)} {L L' : List (Addr × List D)} {b : Addr} {B : List Addr}
/-- a call that draws from the bag, by a promise of its own -/
theorem St.at (st : Vf.St K S M H0 H G L B) (hb : b ∈ B) (hg : ∀ p ∈ G', p ∈ G) : Vf.St K S (fun c => c = b) H H G' [] [b] := by
  refine ⟨st.ok, fun _ _ _ h => h, fun _ h => h, fun p hp => st.ga p (hg p hp), fun p hp => by simp at hp, fun a ha => ?_, by simp⟩
  obtain ⟨h1, _, h3⟩ := st.ba b hb
  rw [List.mem_singleton.mp ha]
  exact ⟨h1, .inr rfl, h3⟩
theorem St.back (st : Vf.St K S M H0 H G L [b]) (s2 : Vf.St K S (fun c => c = b) H H' G' L' [b]) : Vf.St K S M H0 H' G L [b] :=
  st.bag (List.mem_singleton.mpr rfl) s2.kp (s2.ba b (List.mem_singleton.mpr rfl)).2.2 rfl
end
end Vf
namespace Vf
open PySem PySem.Spec PyProof.Rows L2
/-! ## chains of four, as a test -/
section
variable {X : Cx} {a b c d e : Expr} {ta tb tc td te : TE} {pos : Pos}
def tChain4 (r1 r2 r3 r4 : R2) (ta tb tc td te : TE) : TT := fun σ H QB => ta σ H fun x H1 => tb σ H1 fun y H2 => r1 x y H2 (FCh QB fun H3 => tc σ H3 fun w H4 => r2 y w H4 (FCh QB fun H5 => td σ H5 fun u H6 => r3 w u H6 (FCh QB fun H7 => te σ H7 fun v H8 => r4 u v H8 (FB QB))))
theorem pt_chain4 {op1 op2 op3 op4 : CmpOp} {r1 r2 r3 r4 : R2} (h1 : OpR X (compareOp op1) r1) (h2 : OpR X (compareOp op2) r2) (h3 : OpR X (compareOp op3) r3) (h4 : OpR X (compareOp op4) r4) (ha : PE X a ta) (hb : PE X b tb) (hc : PE X c tc) (hd : PE X d td) (he : PE X e te)
    (hm : lastMarks [op1, op2, op3, op4] [b, c, d, e] = false := by with_unfolding_all rfl) : PT X (.Compare a [op1, op2, op3, op4] [b, c, d, e] pos) (tChain4 r1 r2 r3 r4 ta tb tc td te) := by
  refine ⟨fun pins s σ H Q I h => ?_⟩
  refine isTrue_chain (thn (ha.run pins s σ H _ I h) fun v1 s1 ⟨x, H1, I1, e1, q1⟩ => test_link (thn (hb.run pins s1 σ H1 _ I1 q1) fun v2 s2 ⟨y, H2, I2, e2, q2⟩ =>
    thn (h1 pins s2 σ H2 x y v1 v2 _ I2 e1 e2 q2) fun d3 s3 ⟨z, H3, I3, e3, k, ez, q3⟩ => ?_)) hm
  subst ez
  cases e3
  refine wpAny_truthy_bool ?_
  cases k with
  | false => exact ite_ff ⟨H3, I3, q3⟩
  | true =>
    refine ite_tt (test_link (thn (hc.run pins s3 σ H3 _ I3 q3) fun v4 s4 ⟨w', H4, I4, e4, q4⟩ =>
      thn (h2 pins s4 σ H4 y w' v2 v4 _ I4 e2 e4 q4) fun d5 s5 ⟨z5, H5, I5, e5, k5, ez5, q5⟩ => ?_))
    subst ez5
    cases e5
    refine wpAny_truthy_bool ?_
    cases k5 with
    | false => exact ite_ff ⟨H5, I5, q5⟩
    | true =>
      refine ite_tt (test_link (thn (hd.run pins s5 σ H5 _ I5 q5) fun v6 s6 ⟨u, H6, I6, e6, q6⟩ =>
        thn (h3 pins s6 σ H6 w' u v4 v6 _ I6 e4 e6 q6) fun d7 s7 ⟨z7, H7, I7, e7, k7, ez7, q7⟩ => ?_))
      subst ez7
      cases e7
      refine wpAny_truthy_bool ?_
      cases k7 with
      | false => exact ite_ff ⟨H7, I7, q7⟩
      | true =>
        refine ite_tt (test_last (thn (he.run pins s7 σ H7 _ I7 q7) fun v8 s8 ⟨t, H8, I8, e8, q8⟩ => thn (h4 pins s8 σ H8 u t v6 v8 _ I8 e6 e8 q8) fun d9 s9 ⟨z9, H9, I9, e9, k9, ez9, q9⟩ => ?_))
        subst ez9
        cases e9
        exact wpAny_truthy_bool ⟨H9, I9, q9⟩
variable {QB : Bool → Hp → Prop} {P : Hp → Prop} {H : Hp} {σ : L2.St}
theorem g_ch4 {r1 r2 r3 r4 : R2} (h : ta σ H fun x H1 => tb σ H1 fun y H2 => r1 x y H2 (FCh QB fun H3 => tc σ H3 fun w H4 => r2 y w H4 (FCh QB fun H5 => td σ H5 fun u H6 => r3 w u H6 (FCh QB fun H7 => te σ H7 fun v H8 => r4 u v H8 (FB QB))))) : tChain4 r1 r2 r3 r4 ta tb tc td te σ H QB := h
end
end Vf
namespace Vf
open PySem PySem.Spec PyProof.Rows L2 RZ
/-! ## joining is associative; rows in parts -/
theorem mx_assoc (i j k : Int) : mx (mx i j) k = mx i (mx j k) := by
  unfold mx
  (repeat split) <;> omega
theorem mx_sub (i j a : Int) : mx i j - a = mx (i - a) (j - a) := by
  unfold mx
  (repeat split) <;> omega
theorem mx_mul {i j y : Int} (h : 0 < y) : mx i j * y = mx (i * y) (j * y) := by
  unfold mx
  by_cases q : j > i
  · have := Int.mul_lt_mul_of_pos_right q h
    rw [if_pos q, if_pos this]
  · have := Int.mul_le_mul_of_nonneg_right (by omega : j ≤ i) (by omega : 0 ≤ y)
    rw [if_neg q, if_neg (by omega)]
theorem mx_le {i j k : Int} : mx i j ≤ k ↔ i ≤ k ∧ j ≤ k := by
  unfold mx
  split <;> omega
theorem le_mn {i j k : Int} : k ≤ mn i j ↔ k ≤ i ∧ k ≤ j := by
  unfold mn
  split <;> omega
def jn (a b : Ef) : Ef := ⟨mx a.least (b.least * a.by_ - a.add), a.add + b.add * a.by_, a.by_ * b.by_, mn b.top ((a.top + b.add) / b.by_)⟩
theorem chn_def (a b : Ef) : chn (some a) (some b) = if a.top < b.least then none else some (jn a b) := rfl
theorem jn_assoc {a b c : Ef} (ha : 0 < a.by_) (hb : 0 < b.by_) (hc : 0 < c.by_) : jn (jn a b) c = jn a (jn b c) := by
  obtain ⟨al, aa, ay, at_⟩ := a
  obtain ⟨bl, ba, by_, bt⟩ := b
  obtain ⟨cl, ca, cy, ct⟩ := c
  have ha : 0 < ay := ha
  have hb : 0 < by_ := hb
  have hc : 0 < cy := hc
  simp only [jn, Ef.mk.injEq]
  refine ⟨?_, ?_, ?_, ?_⟩
  · rw [mx_mul ha, mx_sub, mx_assoc, Int.sub_mul]
    congr 2
    rw [show cl * (ay * by_) = cl * by_ * ay by rw [Int.mul_comm ay, Int.mul_assoc]]
    omega
  · rw [Int.add_mul, show ca * (ay * by_) = ca * by_ * ay by rw [Int.mul_comm ay, Int.mul_assoc]]
    omega
  · exact Int.mul_assoc _ _ _
  · rw [mn_add_div hc, mn_assoc]
    congr 1
    rw [← Int.ediv_ediv_of_nonneg (by omega), ← Int.add_assoc, Int.add_mul_ediv_right _ _ (by omega)]
theorem chn_assoc {a b c : Option Ef} (ha : ∀ e, a = some e → 0 < e.by_) (hb : ∀ e, b = some e → 0 < e.by_) (hc : ∀ e, c = some e → 0 < e.by_) : chn (chn a b) c = chn a (chn b c) := by
  cases a with
  | none => rfl
  | some a =>
    cases b with
    | none => rfl
    | some b =>
      cases c with
      | none =>
        rw [chn_def]
        split <;> rfl
      | some c =>
        have ha := ha a rfl
        have hb := hb b rfl
        have hc := hc c rfl
        have q : c.least ≤ (a.top + b.add) / b.by_ ↔ c.least * b.by_ ≤ a.top + b.add := Int.le_ediv_iff_mul_le hb
        have l : c.least ≤ (jn a b).top ↔ c.least ≤ b.top ∧ c.least ≤ (a.top + b.add) / b.by_ := le_mn
        have r : (jn b c).least ≤ a.top ↔ b.least ≤ a.top ∧ c.least * b.by_ - b.add ≤ a.top := mx_le
        rw [chn_def, chn_def]
        by_cases h1 : a.top < b.least
        · rw [if_pos h1]
          show none = _
          by_cases h2 : b.top < c.least
          · rw [if_pos h2]; rfl
          · rw [if_neg h2, chn_def, if_pos (by omega)]
        · rw [if_neg h1, chn_def]
          by_cases h2 : b.top < c.least
          · rw [if_pos h2, if_pos (by omega)]; rfl
          · rw [if_neg h2, chn_def]
            by_cases h3 : c.least ≤ (jn a b).top
            · rw [if_neg (by omega), if_neg (by omega), jn_assoc ha hb hc]
            · rw [if_pos (by omega), if_pos (by omega)]
theorem oWf.y {o : Option Ef} (h : oWf o) : ∀ e, o = some e → 0 < e.by_ := fun e he => by have := (h e he).p; omega
/-- nothing behind -/
def oTop (w : Wn) (o : Option Ef) : Prop := ∀ e, o = some e → e.top ≤ w.cap
theorem chn_noR {w : Wn} {o : Option Ef} (h : oWf o) (ht : oTop w o) : chn o (some (noE w)) = o := by
  cases o with
  | none => rfl
  | some e =>
    obtain ⟨l, p, t, s⟩ := h e rfl
    have ht := ht e rfl
    rw [chn_def, if_neg (by show ¬ e.top < 1; omega)]
    obtain ⟨el, ea, ey, et⟩ := e
    simp only [jn, noE, Int.ediv_one, Int.add_zero, Int.zero_mul, Int.one_mul, Int.mul_one, Option.some.injEq, Ef.mk.injEq, true_and]
    have l : 1 ≤ el := l
    have s : ey ≤ el + ea := s
    have ht : et ≤ w.cap := ht
    constructor
    · unfold mx; split <;> omega
    · unfold mn; split <;> omega
theorem chn_top {w : Wn} {a b : Option Ef} (hb : oTop w b) : oTop w (chn a b) := by
  intro e he
  cases a with
  | none => cases he
  | some a =>
    cases b with
    | none => cases he
    | some b =>
      obtain ⟨_, rfl⟩ := chn_some he
      have := hb b rfl
      have := mn_le_l b.top ((a.top + b.add) / b.by_)
      show mn b.top _ ≤ w.cap
      omega
theorem signE_top {w : Wn} (h : w.Ok) {n : Int} (hn : 0 ≤ n) {c : Nat} : oTop w (signE w n c) := by
  intro e he
  have c1 := h.c1
  unfold signE at he
  split at he
  · obtain ⟨s1, s2, s3, s4⟩ := stepAt_ok h hn
    unfold turnE at he
    split at he
    · cases he
    · cases he
      have d2 : w.cap / (stepAt w n).1 ≤ w.cap := Int.ediv_le_self _ (by omega)
      show w.cap / (stepAt w n).1 - (stepAt w n).2 ≤ w.cap
      omega
  · unfold shiftE at he
    split at he
    · cases he
    · cases he
      exact mn_le_l _ _
theorem noE_top (w : Wn) : oTop w (some (noE w)) := fun e he => by cases he; exact Int.le_refl _
theorem eff_chn {w : Wn} (h : w.Ok) : ∀ (cs : List Nat) {o : Option Ef} {n : Int}, oWf o → oTop w o → 0 ≤ n → (eff w (o, n) cs).1 = chn o (rowE w n cs)
  | [], o, n, hw, ht, _ => (chn_noR hw ht).symm
  | c :: cs, o, n, hw, ht, hn => by
    have b1 := (stt_ok h [c] (s := (0, n)) ⟨Int.le_refl _, by have := h.c1; show (0 : Int) ≤ w.cap; omega⟩ hn).2.1
    have b1 : 0 ≤ (stp w (0, n) c).2 := b1
    have sw := signE_wf h hn (c := c)
    have st := signE_top h hn (c := c)
    have rw_ := row_wf h b1 cs
    have e1 := eff_chn h cs (o := chn o (signE w n c)) (n := (stp w (0, n) c).2) (chn_wf hw sw) (chn_top st) b1
    have e2 := eff_chn h cs (o := chn (some (noE w)) (signE w n c)) (n := (stp w (0, n) c).2) (chn_wf (noE_wf h) sw) (chn_top st) b1
    show (eff w (chn o (signE w n c), (stp w (0, n) c).2) cs).1 = chn o (eff w (chn (some (noE w)) (signE w n c), (stp w (0, n) c).2) cs).1
    rw [e1, e2, chn_assoc hw.y sw.y rw_.y, chn_assoc (noE_wf h).y sw.y rw_.y, ← chn_assoc hw.y (noE_wf h).y (chn_wf sw rw_).y, chn_noR hw ht]
theorem eff_top2 {w : Wn} (h : w.Ok) : ∀ (cs : List Nat) {o : Option Ef} {n : Int}, oTop w o → 0 ≤ n → oTop w (eff w (o, n) cs).1
  | [], _, _, ht, _ => ht
  | c :: cs, o, n, ht, hn => by
    have b1 := (stt_ok h [c] (s := (0, n)) ⟨Int.le_refl _, by have := h.c1; show (0 : Int) ≤ w.cap; omega⟩ hn).2.1
    exact eff_top2 h cs (chn_top (signE_top h hn)) b1
theorem row_oTop {w : Wn} (h : w.Ok) {n : Int} (hn : 0 ≤ n) (cs : List Nat) : oTop w (rowE w n cs) := eff_top2 h cs (noE_top w) hn
/-- parts joined -/
theorem row_app {w : Wn} (h : w.Ok) {n : Int} (hn : 0 ≤ n) (cs ds : List Nat) : rowE w n (cs ++ ds) = chn (rowE w n cs) (rowE w (stt w (0, n) cs).2 ds) := by
  have b1 := (stt_ok h cs (s := (0, n)) ⟨Int.le_refl _, by have := h.c1; show (0 : Int) ≤ w.cap; omega⟩ hn).2.1
  rw [← eff_chn h ds (row_wf h hn cs) (row_oTop h hn cs) b1]
  have e := eff_snd (w := w) cs (o := some (noE w)) (n := n)
  unfold rowE eff
  rw [List.foldl_append]
  rw [← e]
  rfl
theorem stt_app {w : Wn} {s : Int × Int} {cs ds : List Nat} : stt w s (cs ++ ds) = stt w (stt w s cs) ds := by
  unfold stt
  rw [List.foldl_append]
section
variable {K : PySem.W.Frag} {S M : AS} {H0 H : Hp} {G : List (V × D)} {L : List (Addr × List D)} {B : List Addr} {Q : VK} {a : Addr}
/-- sorted of whole numbers -/
theorem d_sortI {ns : List Int} (st : Vf.St K S M H0 H G L B) (h : Dz K S H (.lst (ns.map D.int)) (.ref a)) (q : ∀ p H' (ns' : List Int), ns'.Perm ns → ns'.Pairwise (fun i j => i ≤ j) → Vf.St K S M H0 H' ((.ref p, .lst (ns'.map D.int)) :: G) L B → Q (.ref p) H') : rSortedI K [.ref a] H Q := by
  obtain ⟨xs, h1, h2⟩ := z_lst h
  have e := DzL.ints ns h2
  subst e
  exact ⟨a, ns, rfl, h1.sq, fun ns' p pm pw np => q p _ ns' pm pw (st.lst np (DzL.of_ints _))⟩
end
theorem sub_nil {α : Type} {G : List α} : ∀ p ∈ ([] : List α), p ∈ G := fun p h => by simp at h
theorem sub_cons {α : Type} {G l : List α} {p : α} (h : p ∈ G) (r : ∀ q ∈ l, q ∈ G) : ∀ q ∈ p :: l, q ∈ G := fun q hq => by
  rcases List.mem_cons.mp hq with e | e
  · rw [e]; exact h
  · exact r q e
end Vf
namespace Vf
open PySem PySem.Spec PyProof.Rows L2 RZ
/-! ## what a row makes hangs on the phase alone; rows cut -/
theorem ph_suc {w : Wn} (h : w.Ok) {n m : Int} (hn : 0 ≤ n) (hm : 0 ≤ m) (e : phase w n = phase w m) : phase w (n + 1) = phase w (m + 1) := by
  rw [← ph_add h hn (by decide : (0 : Int) ≤ 1), ← ph_add h hm (by decide : (0 : Int) ≤ 1), e]
theorem stepAt_ph {w : Wn} {n m : Int} (e : phase w n = phase w m) : stepAt w n = stepAt w m := by
  unfold stepAt
  rw [e]
theorem waned1_ph {w : Wn} {x n m : Int} (e : phase w n = phase w m) : waned1 w x n = waned1 w x m := by
  unfold waned1
  rw [stepAt_ph e]
theorem stt_ph {w : Wn} (h : w.Ok) : ∀ (cs : List Nat) {x n m : Int}, 0 ≤ n → 0 ≤ m → phase w n = phase w m → (stt w (x, n) cs).1 = (stt w (x, m) cs).1 ∧ phase w (stt w (x, n) cs).2 = phase w (stt w (x, m) cs).2
  | [], _, _, _, _, _, e => ⟨rfl, e⟩
  | c :: cs, x, n, m, hn, hm, e => by
    show (stt w (stp w (x, n) c) cs).1 = (stt w (stp w (x, m) c) cs).1 ∧ phase w (stt w (stp w (x, n) c) cs).2 = phase w (stt w (stp w (x, m) c) cs).2
    by_cases h1 : c = 46
    · have e1 : stp w (x, n) c = (waned1 w x n, n + 1) := by unfold stp; rw [if_pos h1, if_pos h1]
      have e2 : stp w (x, m) c = (waned1 w x m, m + 1) := by unfold stp; rw [if_pos h1, if_pos h1]
      rw [e1, e2, waned1_ph e]
      exact stt_ph h cs (by omega) (by omega) (ph_suc h hn hm e)
    · have e1 : stp w (x, n) c = (lifted1 w x, if w.anew = true then 0 else n) := by unfold stp; rw [if_neg h1, if_neg h1]
      have e2 : stp w (x, m) c = (lifted1 w x, if w.anew = true then 0 else m) := by unfold stp; rw [if_neg h1, if_neg h1]
      rw [e1, e2]
      by_cases h2 : w.anew = true
      · rw [if_pos h2, if_pos h2]
        exact ⟨rfl, rfl⟩
      · rw [if_neg h2, if_neg h2]
        exact stt_ph h cs hn hm e
theorem cut_take {l : List Nat} {i j k : Nat} (h : i ≤ j) (hk : k ≤ j - i) : l.take i ++ ((l.drop i).take (j - i)).take k = l.take (i + k) := by
  rw [List.take_take, Nat.min_eq_left hk, ← List.take_add]
/-- the walk along a part is the part of the walk -/
theorem walkL_cut {w : Wn} {s : Int × Int} {cs : List Nat} {i j : Nat} (h : i ≤ j) (hj : j ≤ cs.length) : walkL w (stt w s (cs.take i)) (j - i + 1) ((cs.drop i).take (j - i)) = ((walkL w s (cs.length + 1) cs).drop i).take (j + 1 - i) := by
  refine List.ext_getElem? fun k => ?_
  by_cases hk : k < j - i + 1
  · rw [walkL_get hk, List.getElem?_take_of_lt (by omega), List.getElem?_drop, walkL_get (by omega)]
    have e : stt w (stt w s (cs.take i)) (((cs.drop i).take (j - i)).take k) = stt w s (cs.take (i + k)) := by
      unfold stt
      rw [← List.foldl_append, cut_take h (by omega)]
    rw [e]
  · have l1 : (walkL w (stt w s (cs.take i)) (j - i + 1) ((cs.drop i).take (j - i))).length = j - i + 1 := by unfold walkL; rw [List.length_map, List.length_range]
    have l2 : (((walkL w s (cs.length + 1) cs).drop i).take (j + 1 - i)).length ≤ j + 1 - i := by rw [List.length_take]; omega
    rw [List.getElem?_eq_none (by omega), List.getElem?_eq_none (by omega)]
theorem isRow_cut {z : Str} (h : isRow (.str z) = true) {cs : List Nat} (hs : ∀ c ∈ cs, c ∈ z.cps.toList) (hl : cs.length ≤ z.cps.size) {y : Str} (hy : y.cps.toList = cs) : isRow (.str y) = true := by
  have h : (decide (z.cps.size ≤ 200) && z.cps.toList.all signOk) = true := h
  rw [Bool.and_eq_true] at h
  have h1 := of_decide_eq_true h.1
  have h2 := List.all_eq_true.mp h.2
  show (decide (y.cps.size ≤ 200) && y.cps.toList.all signOk) = true
  rw [Bool.and_eq_true]
  rw [← hy, Array.length_toList] at hl
  refine ⟨decide_eq_true (by omega), List.all_eq_true.mpr fun c hc => h2 c (hs c ?_)⟩
  rw [← hy]
  exact hc
theorem cutS_eq {z : Str} {i j : Int} (h0 : 0 ≤ i) (h1 : i ≤ j) (h2 : j ≤ z.cps.size) : (cutS z (some i) (some j)).cps.toList = (z.cps.toList.drop i.toNat).take (j.toNat - i.toNat) := by
  have e : z.length = z.cps.size := rfl
  have a1 : HT.sIx z.length 0 (some i) = i.toNat := by
    show (if i < 0 then _ else min i.toNat z.length) = _
    rw [if_neg (by omega)]; omega
  have a2 : HT.sIx z.length z.length (some j) = j.toNat := by
    show (if j < 0 then _ else min j.toNat z.length) = _
    rw [if_neg (by omega)]; omega
  unfold cutS
  rw [a1, a2]
theorem cutD_eq {ds : List D} {i j : Int} (h0 : 0 ≤ i) (h1 : i ≤ j) (h2 : j ≤ ds.length) : cutD ds (some i) (some j) = (ds.drop i.toNat).take (j.toNat - i.toNat) := by
  have a1 : HT.sIx ds.length 0 (some i) = i.toNat := by
    show (if i < 0 then _ else min i.toNat ds.length) = _
    rw [if_neg (by omega)]; omega
  have a2 : HT.sIx ds.length ds.length (some j) = j.toNat := by
    show (if j < 0 then _ else min j.toNat ds.length) = _
    rw [if_neg (by omega)]; omega
  unfold cutD
  rw [a1, a2]
theorem cut_step {l : List Nat} {i j : Nat} (h : i ≤ j) : l.take i ++ (l.drop i).take (j - i) = l.take j := by
  rw [← List.take_add, show i + (j - i) = j by omega]
end Vf
namespace Vf
open PySem PySem.Spec PyProof.Rows L2 RZ
/-! ## rounds: the arithmetic alone -/
theorem signE_ph {w : Wn} {n m : Int} (e : phase w n = phase w m) (c : Nat) : signE w n c = signE w m c := by
  unfold signE turnE
  rw [stepAt_ph e]
theorem eff_ph {w : Wn} (h : w.Ok) : ∀ (cs : List Nat) {o : Option Ef} {n m : Int}, 0 ≤ n → 0 ≤ m → phase w n = phase w m → (eff w (o, n) cs).1 = (eff w (o, m) cs).1
  | [], _, _, _, _, _, _ => rfl
  | c :: cs, o, n, m, hn, hm, e => by
    show (eff w (chn o (signE w n c), (stp w (0, n) c).2) cs).1 = (eff w (chn o (signE w m c), (stp w (0, m) c).2) cs).1
    rw [signE_ph e c]
    have p := (stt_ph h [c] (x := 0) hn hm e).2
    have b1 := (stt_ok h [c] (s := (0, n)) ⟨Int.le_refl _, by have := h.c1; show (0 : Int) ≤ w.cap; omega⟩ hn).2.1
    have b2 := (stt_ok h [c] (s := (0, m)) ⟨Int.le_refl _, by have := h.c1; show (0 : Int) ≤ w.cap; omega⟩ hm).2.1
    exact eff_ph h cs b1 b2 p
theorem row_ph {w : Wn} (h : w.Ok) {cs : List Nat} {n m : Int} (hn : 0 ≤ n) (hm : 0 ≤ m) (e : phase w n = phase w m) : rowE w n cs = rowE w m cs := eff_ph h cs hn hm e
/-- the since behind a round; behind so many -/
def nx (w : Wn) (cs : List Nat) (n : Int) : Int := (stt w (0, n) cs).2
def nxs (w : Wn) (cs : List Nat) (n : Int) : Nat → Int
  | 0 => n
  | k + 1 => nx w cs (nxs w cs n k)
/-- walking so many rounds -/
def stR (w : Wn) (cs : List Nat) (s : Int × Int) : Nat → Int × Int
  | 0 => s
  | k + 1 => stt w (stR w cs s k) cs
theorem nx_ok {w : Wn} (h : w.Ok) {cs : List Nat} {n : Int} (hn : 0 ≤ n) : 0 ≤ nx w cs n ∧ nx w cs n ≤ n + cs.length :=
  (stt_ok h cs (s := (0, n)) ⟨Int.le_refl _, by have := h.c1; show (0 : Int) ≤ w.cap; omega⟩ hn).2
theorem nxs_ok {w : Wn} (h : w.Ok) {cs : List Nat} {n : Int} (hn : 0 ≤ n) : ∀ k, 0 ≤ nxs w cs n k
  | 0 => hn
  | k + 1 => (nx_ok h (nxs_ok h hn k)).1
theorem nx_ph {w : Wn} (h : w.Ok) {cs : List Nat} {n m : Int} (hn : 0 ≤ n) (hm : 0 ≤ m) (e : phase w n = phase w m) : phase w (nx w cs n) = phase w (nx w cs m) := (stt_ph h cs (x := 0) hn hm e).2
theorem nxs_add {w : Wn} {cs : List Nat} {n : Int} : ∀ j k, nxs w cs n (j + k) = nxs w cs (nxs w cs n j) k
  | _, 0 => rfl
  | j, k + 1 => congrArg (nx w cs) (nxs_add j k)
theorem nxs_ph {w : Wn} (h : w.Ok) {cs : List Nat} {n m : Int} (hn : 0 ≤ n) (hm : 0 ≤ m) (e : phase w n = phase w m) : ∀ k, phase w (nxs w cs n k) = phase w (nxs w cs m k)
  | 0 => e
  | k + 1 => nx_ph h (nxs_ok h hn k) (nxs_ok h hm k) (nxs_ph h hn hm e k)
/-- from the lead on the phases come again -/
theorem nxs_mod {w : Wn} (h : w.Ok) {cs : List Nat} {n : Int} (hn : 0 ≤ n) {lead K : Nat} (hl : lead < K) (e : phase w (nxs w cs n K) = phase w (nxs w cs n lead)) (k : Nat) : phase w (nxs w cs n (lead + k)) = phase w (nxs w cs n (lead + k % (K - lead))) := by
  induction k using Nat.strongRecOn with
  | ind k ih =>
    by_cases q : k < K - lead
    · rw [Nat.mod_eq_of_lt q]
    · have e1 := ih (k - (K - lead)) (by omega)
      have e2 : k % (K - lead) = (k - (K - lead)) % (K - lead) := by
        conv => lhs; rw [show k = (k - (K - lead)) + (K - lead) by omega, Nat.add_mod_right]
      rw [e2, ← e1, show lead + k = K + (k - (K - lead)) by omega, nxs_add, nxs_add]
      exact nxs_ph h (nxs_ok h hn K) (nxs_ok h hn lead) e _
theorem stR_snd {w : Wn} {cs : List Nat} {x n : Int} : ∀ k, (stR w cs (x, n) k).2 = nxs w cs n k
  | 0 => rfl
  | k + 1 => by
    show (stt w (stR w cs (x, n) k) cs).2 = nx w cs (nxs w cs n k)
    rw [← stR_snd k]
    exact stt_snd cs
theorem stR_ok {w : Wn} (h : w.Ok) {cs : List Nat} {x n : Int} (hx : 0 ≤ x ∧ x ≤ w.cap) (hn : 0 ≤ n) : ∀ k, (0 ≤ (stR w cs (x, n) k).1 ∧ (stR w cs (x, n) k).1 ≤ w.cap) ∧ 0 ≤ (stR w cs (x, n) k).2
  | 0 => ⟨hx, hn⟩
  | k + 1 => by
    obtain ⟨h1, h2⟩ := stR_ok h hx hn k
    have := stt_ok h cs h1 h2
    exact ⟨this.1, this.2.1⟩
/-- the effect of the round number k -/
def rdE (w : Wn) (cs : List Nat) (n : Int) (k : Nat) : Option Ef := rowE w (nxs w cs n k) cs
theorem stR_thr {w : Wn} (h : w.Ok) {cs : List Nat} {x n : Int} (hx : 0 ≤ x ∧ x ≤ w.cap) (hn : 0 ≤ n) (k : Nat) : (stR w cs (x, n) (k + 1)).1 = thr (rdE w cs n k) (stR w cs (x, n) k).1 := by
  obtain ⟨h1, h2⟩ := stR_ok h (cs := cs) hx hn k
  have e := row_thr h h2 h1.1 h1.2 cs
  rw [stR_snd] at e
  rw [rdE, e, ← stR_snd (x := x)]
  rfl
/-- through effects, one behind another -/
def thrL (es : List (Option Ef)) (x : Int) : Int := es.foldl (fun x e => thr e x) x
theorem thrL_stR {w : Wn} (h : w.Ok) {cs : List Nat} {x n : Int} (hx : 0 ≤ x ∧ x ≤ w.cap) (hn : 0 ≤ n) : ∀ (l j : Nat), thrL ((List.range' j l).map (rdE w cs n)) (stR w cs (x, n) j).1 = (stR w cs (x, n) (j + l)).1
  | 0, _ => rfl
  | l + 1, j => by
    rw [List.range'_succ, List.map_cons]
    show thrL ((List.range' (j + 1) l).map (rdE w cs n)) (thr (rdE w cs n j) (stR w cs (x, n) j).1) = _
    rw [← stR_thr h hx hn, thrL_stR h hx hn l (j + 1), show j + 1 + l = j + (l + 1) by omega]
def iter (f : Int → Int) : Nat → Int → Int
  | 0, x => x
  | k + 1, x => f (iter f k x)
theorem iter_add (f : Int → Int) (j k : Nat) (x : Int) : iter f (j + k) x = iter f k (iter f j x) := by
  induction k with
  | zero => rfl
  | succ k ih => exact congrArg f ih
theorem iter_fix {f : Int → Int} {x : Int} (h : f x = x) : ∀ k, iter f k x = x
  | 0 => rfl
  | k + 1 => by show f (iter f k x) = x; rw [iter_fix h k]; exact h
/-- the cycle again and again -/
theorem cyc_eff {w : Wn} (h : w.Ok) {cs : List Nat} {n : Int} (hn : 0 ≤ n) {lead K : Nat} (hl : lead < K) (e : phase w (nxs w cs n K) = phase w (nxs w cs n lead)) (c : Nat) : (List.range' (lead + c * (K - lead)) (K - lead)).map (rdE w cs n) = (List.range' lead (K - lead)).map (rdE w cs n) := by
  refine List.ext_getElem? fun i => ?_
  rw [List.getElem?_map, List.getElem?_map]
  by_cases q : i < K - lead
  · rw [List.getElem?_range' q, List.getElem?_range' q]
    show some (rdE w cs n _) = some (rdE w cs n _)
    have e1 := nxs_mod h hn hl e (c * (K - lead) + i)
    rw [Nat.mul_comm c, Nat.mul_add_mod, Nat.mod_eq_of_lt q] at e1
    have e2 : rdE w cs n (lead + ((K - lead) * c + i)) = rdE w cs n (lead + i) := row_ph h (nxs_ok h hn _) (nxs_ok h hn _) e1
    rw [show lead + c * (K - lead) + 1 * i = lead + ((K - lead) * c + i) by rw [Nat.mul_comm c]; omega, Nat.one_mul, e2]
  · rw [List.getElem?_eq_none (by rw [List.length_range']; omega), List.getElem?_eq_none (by rw [List.length_range']; omega)]
theorem cyc_iter {w : Wn} (h : w.Ok) {cs : List Nat} {x n : Int} (hx : 0 ≤ x ∧ x ≤ w.cap) (hn : 0 ≤ n) {lead K : Nat} (hl : lead < K) (e : phase w (nxs w cs n K) = phase w (nxs w cs n lead)) : ∀ c, iter (thrL ((List.range' lead (K - lead)).map (rdE w cs n))) c (stR w cs (x, n) lead).1 = (stR w cs (x, n) (lead + c * (K - lead))).1
  | 0 => by rw [Nat.zero_mul]; rfl
  | c + 1 => by
    show thrL _ (iter _ c _) = _
    rw [cyc_iter h hx hn hl e c, ← cyc_eff h hn hl e c, thrL_stR h hx hn, Nat.succ_mul]
    congr 2
    omega
theorem take_rng {s n r : Nat} (h : r ≤ n) : (List.range' s n).take r = List.range' s r := by
  refine List.ext_getElem? fun i => ?_
  by_cases q : i < r
  · rw [List.getElem?_take_of_lt q, List.getElem?_range' (by omega), List.getElem?_range' q]
  · rw [List.getElem?_eq_none (by rw [List.length_take]; omega), List.getElem?_eq_none (by rw [List.length_range']; omega)]
/-- what _strength_behind tells -/
theorem behind_eq {w : Wn} (h : w.Ok) {cs : List Nat} {x n : Int} (hx : 0 ≤ x ∧ x ≤ w.cap) (hn : 0 ≤ n) {lead K : Nat} (hl : lead < K) (e : phase w (nxs w cs n K) = phase w (nxs w cs n lead)) (c r : Nat) (hr : r ≤ K - lead) : thrL (((List.range' lead (K - lead)).map (rdE w cs n)).take r) (iter (thrL ((List.range' lead (K - lead)).map (rdE w cs n))) c (thrL ((List.range' 0 lead).map (rdE w cs n)) x)) = (stR w cs (x, n) (lead + (c * (K - lead) + r))).1 := by
  have e1 : thrL ((List.range' 0 lead).map (rdE w cs n)) x = (stR w cs (x, n) lead).1 := by
    have := thrL_stR h hx hn (cs := cs) lead 0
    rw [Nat.zero_add] at this
    exact this
  rw [e1, cyc_iter h hx hn hl e, ← cyc_eff h hn hl e c, ← List.map_take, take_rng hr, thrL_stR h hx hn]
  congr 2
  omega
/-! ## count and rfind of one sign -/
theorem forIn_id {α β : Type} (l : List α) (f : α → β → β) (g : α → β → Id (ForInStep β)) (hg : ∀ a b, g a b = pure (ForInStep.yield (f a b))) (init : β) : (forIn l init g : Id β) = l.foldl (fun b a => f a b) init := by
  have : g = fun a b => pure (ForInStep.yield (f a b)) := by funext a b; exact hg a b
  rw [this, List.forIn_pure_yield_eq_foldl]
  rfl
theorem subAt_one (z : Str) (c i : Nat) : Builtin.Str.subAt z ⟨#[c]⟩ i = decide (z.cps.toList[i]? = some c) := by
  unfold Builtin.Str.subAt
  show (z.cps.extract i (i + 1) == #[c]) = _
  rw [Bool.eq_iff_iff, beq_iff_eq, decide_eq_true_iff]
  have e : (z.cps.extract i (i + 1)).toList = (z.cps.toList.drop i).take 1 := by
    rw [Array.toList_extract, List.extract_eq_take_drop, show i + 1 - i = 1 by omega]
  constructor
  · intro h
    have h2 := congrArg Array.toList h
    rw [e] at h2
    have h3 : ((z.cps.toList.drop i).take 1)[0]? = some c := by rw [h2]; rfl
    rw [List.getElem?_take_of_lt (by decide), List.getElem?_drop] at h3
    exact h3
  · intro h
    refine Array.toList_inj.mp ?_
    rw [e]
    have hi : i < z.cps.toList.length := (List.getElem?_eq_some_iff.mp h).1
    rw [List.drop_eq_getElem_cons hi, List.take_succ_cons, List.take_zero]
    have := (List.getElem?_eq_some_iff.mp h).2
    rw [this]
theorem count_one (z : Str) (c : Nat) : Txt.count z ⟨#[c]⟩ = (z.cps.toList.count c : Nat) := by
  unfold Txt.count Builtin.Str.occurrences
  let F : Nat → Array Nat × Nat → Array Nat × Nat := fun i s => if (decide (s.1.size < z.length + 1) && decide (s.2 ≤ i) && decide (i + 1 ≤ z.length) && Builtin.Str.subAt z ⟨#[c]⟩ i) = true then (s.1.push i, i + 1) else s
  have hF : ∀ i s, (if (decide (s.1.size < z.length + 1) && decide (s.2 ≤ i) && decide (i + ({ cps := #[c] } : Str).length ≤ z.length) && Builtin.Str.subAt z { cps := #[c] } i) = true then (pure (ForInStep.yield (s.1.push i, i + ({ cps := #[c] } : Str).length)) : Id (ForInStep (Array Nat × Nat))) else pure (ForInStep.yield (s.1, s.2))) = pure (ForInStep.yield (F i s)) := by
    intro i s
    show _ = pure (ForInStep.yield (if _ then _ else _))
    by_cases h : (decide (s.1.size < z.length + 1) && decide (s.2 ≤ i) && decide (i + 1 ≤ z.length) && Builtin.Str.subAt z ⟨#[c]⟩ i) = true
    · rw [if_pos h]; exact if_pos h
    · rw [if_neg h]; exact if_neg h
  simp only [Std.Legacy.Range.forIn_eq_forIn_range', Id.run]
  have zl : z.length = z.cps.toList.length := by rw [Array.length_toList]; rfl
  have key : ∀ j, j ≤ z.length + 1 → ((List.range' 0 j).foldl (fun b a => F a b) (#[], 0)).1.size = (z.cps.toList.take j).count c ∧ ((List.range' 0 j).foldl (fun b a => F a b) (#[], 0)).2 ≤ j := by
    intro j
    induction j with
    | zero => intro _; exact ⟨by simp, Nat.le_refl _⟩
    | succ j ih =>
      intro hj
      obtain ⟨h1, h2⟩ := ih (by omega)
      rw [List.range'_1_concat, List.foldl_append]
      generalize (List.range' 0 j).foldl (fun b a => F a b) (#[], 0) = s at h1 h2 ⊢
      rw [Nat.zero_add]
      show (F j s).1.size = _ ∧ (F j s).2 ≤ j + 1
      have hs : s.1.size ≤ j := by
        rw [h1]
        exact Nat.le_trans List.count_le_length (by rw [List.length_take]; omega)
      by_cases q : z.cps.toList[j]? = some c
      · have hjl : j < z.cps.toList.length := (List.getElem?_eq_some_iff.mp q).1
        have e : F j s = (s.1.push j, j + 1) := if_pos (by
          rw [subAt_one, decide_eq_true q, decide_eq_true (by omega : s.1.size < z.length + 1), decide_eq_true h2, decide_eq_true (by omega : j + 1 ≤ z.length)]; rfl)
        rw [e, take_snoc q, List.count_append]
        refine ⟨?_, Nat.le_refl _⟩
        rw [Array.size_push, h1]
        simp
      · have e : F j s = s := if_neg (by rw [subAt_one, decide_eq_false q]; simp)
        rw [e]
        refine ⟨?_, by omega⟩
        rw [h1]
        by_cases hjl : j < z.cps.toList.length
        · rw [take_snoc (List.getElem?_eq_getElem hjl), List.count_append]
          have : z.cps.toList[j] ≠ c := fun z' => q (by rw [List.getElem?_eq_getElem hjl, z'])
          rw [List.count_eq_zero.mpr (fun m => this (List.mem_singleton.mp m).symm), Nat.add_zero]
        · rw [List.take_of_length_le (by omega), List.take_of_length_le (by omega)]
  have e := (key (z.length + 1) (Nat.le_refl _)).1
  rw [List.take_of_length_le (by omega)] at e
  rw [← e]
  have sz : [:z.length + 1].size = z.length + 1 := by simp [Std.Legacy.Range.size]
  rw [forIn_id _ F _ (fun i s => hF i s), sz]
  show (((List.foldl (fun b a => F a b) (#[], 0) (List.range' 0 (z.length + 1))).1.toList.length : Nat) : Int) = _
  rw [Array.length_toList]
theorem rfind_one (z : Str) (c : Nat) {i : Nat} (h : z.cps.toList[i]? = some c) (hl : ∀ j, i < j → z.cps.toList[j]? ≠ some c) : Txt.rfind z ⟨#[c]⟩ = i := by
  unfold Txt.rfind Builtin.Str.lastOccurrence
  let F : Nat → Option Nat → Option Nat := fun i s => if (decide (i + 1 ≤ z.length) && Builtin.Str.subAt z ⟨#[c]⟩ i) = true then some i else s
  have hF : ∀ i s, (if (decide (i + ({ cps := #[c] } : Str).length ≤ z.length) && Builtin.Str.subAt z { cps := #[c] } i) = true then (pure (ForInStep.yield (some i)) : Id (ForInStep (Option Nat))) else pure (ForInStep.yield s)) = pure (ForInStep.yield (F i s)) := by
    intro i s
    show _ = pure (ForInStep.yield (if _ then _ else _))
    by_cases h : (decide (i + 1 ≤ z.length) && Builtin.Str.subAt z ⟨#[c]⟩ i) = true
    · rw [if_pos h]; exact if_pos h
    · rw [if_neg h]; exact if_neg h
  simp only [Std.Legacy.Range.forIn_eq_forIn_range', Id.run]
  have zl : z.length = z.cps.toList.length := by rw [Array.length_toList]; rfl
  have hi : i < z.cps.toList.length := (List.getElem?_eq_some_iff.mp h).1
  have key : ∀ j, (List.range' 0 j).foldl (fun b a => F a b) none = if i < j then some i else ((List.range' 0 j).foldl (fun b a => F a b) none) := by
    intro j
    induction j with
    | zero => rfl
    | succ j ih =>
      by_cases q : i < j + 1
      · rw [if_pos q, List.range'_1_concat, List.foldl_append, Nat.zero_add]
        show F j _ = some i
        by_cases q2 : i = j
        · subst q2
          exact if_pos (by rw [subAt_one, decide_eq_true h, decide_eq_true (by omega : i + 1 ≤ z.length)]; rfl)
        · rw [if_pos (by omega : i < j)] at ih
          rw [ih]
          exact if_neg (by rw [subAt_one, decide_eq_false (hl j (by omega))]; simp)
      · rw [if_neg q]
  have sz : [:z.length + 1].size = z.length + 1 := by simp [Std.Legacy.Range.size]
  rw [forIn_id _ F _ (fun i s => hF i s), sz]
  have e := key (z.length + 1)
  rw [if_pos (by omega)] at e
  simp [e]
end Vf
namespace Vf
open PySem PySem.Spec PyProof.Rows L2 RZ
/-! ## the since behind rounds -/
theorem last_ix {c : Nat} : ∀ {cs : List Nat}, c ∈ cs → ∃ i : Nat, cs[i]? = some c ∧ ∀ j, i < j → cs[j]? ≠ some c
  | d :: cs, h => by
    by_cases q : c ∈ cs
    · obtain ⟨i, h1, h2⟩ := last_ix q
      refine ⟨i + 1, h1, fun j hj => ?_⟩
      obtain ⟨j, rfl⟩ : ∃ k, j = k + 1 := ⟨j - 1, by omega⟩
      exact h2 j (by omega)
    · rcases List.mem_cons.mp h with h | h
      · refine ⟨0, by rw [h]; rfl, fun j hj => ?_⟩
        obtain ⟨j, rfl⟩ : ∃ k, j = k + 1 := ⟨j - 1, by omega⟩
        intro e
        exact q (List.mem_of_getElem? e)
      · exact absurd h q
theorem stt_cnt {w : Wn} : ∀ (cs : List Nat) {x n : Int}, (w.anew = false ∨ ∀ c ∈ cs, c = 46) → (stt w (x, n) cs).2 = n + (cs.count 46 : Nat)
  | [], _, n, _ => by show n = n + ((0 : Nat) : Int); omega
  | c :: cs, x, n, h => by
    have h2 : w.anew = false ∨ ∀ c ∈ cs, c = 46 := h.imp id fun h c m => h c (List.mem_cons_of_mem _ m)
    by_cases q : c = 46
    · subst q
      have e : stp w (x, n) 46 = (waned1 w x n, n + 1) := rfl
      show (stt w (stp w (x, n) 46) cs).2 = _
      rw [e, stt_cnt cs h2, List.count_cons_self]
      omega
    · have a : w.anew = false := h.elim id fun h => absurd (h c (List.mem_cons_self ..)) q
      have e : stp w (x, n) c = (lifted1 w x, n) := by unfold stp; rw [if_neg q, if_neg q, if_neg (by rw [a]; exact Bool.false_ne_true)]
      show (stt w (stp w (x, n) c) cs).2 = _
      rw [e, stt_cnt cs h2, List.count_cons_of_ne q]
theorem nxs_cnt {w : Wn} {cs : List Nat} {n : Int} (h : w.anew = false ∨ ∀ c ∈ cs, c = 46) : ∀ k : Nat, nxs w cs n k = n + (k : Nat) * (cs.count 46 : Nat)
  | 0 => by show n = n + ((0 : Nat) : Int) * _; rw [Int.natCast_zero, Int.zero_mul]; omega
  | k + 1 => by
    show (stt w (0, nxs w cs n k) cs).2 = _
    rw [stt_cnt cs h, nxs_cnt h k, Int.natCast_add, Int.add_mul]
    show n + _ + _ = n + (_ + 1 * _)
    omega
theorem row_sign {z : Str} (h : isRow (.str z) = true) {c : Nat} (m : c ∈ z.cps.toList) : c = 46 ∨ c = 97 := by
  have h : (decide (z.cps.size ≤ 200) && z.cps.toList.all signOk) = true := h
  rw [Bool.and_eq_true] at h
  have := List.all_eq_true.mp h.2 c m
  unfold signOk at this
  rw [Bool.or_eq_true, beq_iff_eq, beq_iff_eq] at this
  exact this
theorem nx_last {w : Wn} {z : Str} (h : isRow (.str z) = true) (ha : w.anew = true) {i : Nat} (hi : z.cps.toList[i]? = some 97) (hl : ∀ j, i < j → z.cps.toList[j]? ≠ some 97) (n : Int) : nx w z.cps.toList n = z.cps.size - 1 - (i : Nat) := by
  have hlt : i < z.cps.toList.length := (List.getElem?_eq_some_iff.mp hi).1
  have e : z.cps.toList = z.cps.toList.take (i + 1) ++ z.cps.toList.drop (i + 1) := (List.take_append_drop _ _).symm
  show (stt w (0, n) z.cps.toList).2 = _
  have e1 : (stt w (0, n) (z.cps.toList.take (i + 1))).2 = 0 := by
    rw [take_snoc hi]
    unfold stt
    rw [List.foldl_append]
    show (if (97 : Nat) = 46 then (List.foldl (stp w) (0, n) (z.cps.toList.take i)).2 + 1 else if w.anew = true then (0 : Int) else (List.foldl (stp w) (0, n) (z.cps.toList.take i)).2) = 0
    rw [if_neg (by decide), if_pos ha]
  have hd : ∀ c ∈ z.cps.toList.drop (i + 1), c = 46 := by
    intro c m
    rcases row_sign h (List.mem_of_mem_drop m) with q | q
    · exact q
    · obtain ⟨j, hj, ej⟩ := List.mem_iff_getElem.mp m
      rw [List.getElem_drop] at ej
      exfalso
      refine hl (i + 1 + j) (by omega) ?_
      rw [List.length_drop] at hj
      rw [List.getElem?_eq_getElem (by omega), ej, q]
  have cnt : (z.cps.toList.drop (i + 1)).count 46 = z.cps.toList.length - (i + 1) := by
    rw [List.count_eq_length.mpr fun b hb => (hd b hb).symm, List.length_drop]
  rw [e, stt_app]
  generalize hs : stt w (0, n) (z.cps.toList.take (i + 1)) = s at e1
  obtain ⟨s1, s2⟩ := s
  have e1 : s2 = 0 := e1
  rw [stt_cnt _ (.inr hd), cnt, e1]
  rw [Array.length_toList] at *
  omega
end Vf
namespace Vf
open PySem PySem.Spec PyProof.Rows L2 RZ
/-! ## a dict of a def's own, whole numbers its keys -/
section
variable {K : PySem.W.Frag} {S S2 M : AS} {H0 H H' : Hp} {G G2 : List (V × D)} {L Lq : List (Addr × List D)} {Q : VK} {pd : Addr}
theorem kp_upd {o : HO} : Kp (fun b => b = pd) H (upd H pd o) := fun b u n e => by rw [upd_ne n]; exact e
/-- a new object that is no known data -/
theorem St.newS (st : Vf.St K S M H0 H G L []) (n : H pd = none) (o : HO) : Vf.St K (fun b => S b ∨ b = pd) M H0 (upd H pd o) G L [] := by
  refine ⟨fun b s => ?_, fun b u nm e => ?_, fun b e => ?_, fun p hp => Dz.keep kp_upd (fun b e => .inr e) (Dz.fresh n (st.ga p hp)), fun p hp => ?_, fun a ha => by simp at ha, st.nd⟩
  · by_cases z : b = pd
    · subst z; rw [upd_same]; exact fun w => by cases w
    · rw [upd_ne z]
      exact s.elim (st.ok b) fun e => absurd e z
  · have z : b ≠ pd := fun z => by rw [z, st.h0 n] at e; cases e
    rw [upd_ne z]; exact st.kp b u nm e
  · by_cases z : b = pd
    · subst z; rw [upd_same]; exact fun w => by cases w
    · rw [upd_ne z]; exact st.dm b e
  · obtain ⟨h1, h2, xs, h3, h4⟩ := st.la p hp
    have z : p.1 ≠ pd := fun z => by rw [z, n] at h3; cases h3
    exact ⟨.inl h1, h2, xs, by rw [upd_ne z]; exact h3, DzL.keep kp_upd (fun b e => .inr e) (DzL.fresh n h4)⟩
theorem St.updS (st : Vf.St K S M H0 H G L []) (hs : S pd) (hL : ∀ p ∈ L, p.1 ≠ pd) (hm : H0 pd = none ∨ M pd) (o : HO) : Vf.St K S M H0 (upd H pd o) G L [] := by
  refine ⟨fun b s => ?_, fun b u nm e => ?_, fun b e => ?_, fun p hp => Dz.keep kp_upd (fun b e => by rw [e]; exact hs) (st.ga p hp), fun p hp => ?_, fun a ha => by simp at ha, st.nd⟩
  · by_cases z : b = pd
    · subst z; rw [upd_same]; exact fun w => by cases w
    · rw [upd_ne z]; exact st.ok b s
  · have z : b ≠ pd := fun z => by
      rw [z] at e nm
      exact hm.elim (fun q => by rw [q] at e; cases e) nm
    rw [upd_ne z]; exact st.kp b u nm e
  · by_cases z : b = pd
    · subst z; rw [upd_same]; exact fun w => by cases w
    · rw [upd_ne z]; exact st.dm b e
  · obtain ⟨h1, h2, xs, h3, h4⟩ := st.la p hp
    exact ⟨h1, h2, xs, by rw [upd_ne (hL p hp)]; exact h3, DzL.keep kp_upd (fun b e => by rw [e]; exact hs) h4⟩
/-- from here on: what isn't an own list is as it is now -/
theorem St.rebase (st : Vf.St K S M H0 H G L []) : Vf.St K S (fun c => ∃ ds, (c, ds) ∈ L) H H G L [] :=
  ⟨st.ok, fun _ _ _ e => e, fun _ e => e, st.ga, fun p hp => ⟨(st.la p hp).1, .inr ⟨p.2, hp⟩, (st.la p hp).2.2⟩, fun a ha => by simp at ha, st.nd⟩
theorem St.trans (st : Vf.St K S M H0 H G L []) (s2 : Vf.St K S2 (fun c => ∃ ds, (c, ds) ∈ L) H H' G2 Lq []) : Vf.St K S2 M H0 H' G2 Lq [] := by
  refine ⟨s2.ok, fun b o nm e => s2.kp b o (fun ⟨ds, m⟩ => ?_) (st.kp b o nm e), fun b e => s2.dm b (st.dm b e), s2.ga, fun p hp => ?_, fun a ha => by simp at ha, s2.nd⟩
  · rcases (st.la _ m).2.1 with q | q
    · have q : H0 b = none := q
      rw [q] at e; cases e
    · exact nm q
  · obtain ⟨h1, h2, h3⟩ := s2.la p hp
    refine ⟨h1, ?_, h3⟩
    rcases h2 with q | ⟨ds, m⟩
    · exact .inl (st.h0 q)
    · exact (st.la _ m).2.1
theorem St.stays (s2 : Vf.St K S (fun c => ∃ ds, (c, ds) ∈ L) H H' G2 Lq []) (hL : ∀ p ∈ L, p.1 ≠ pd) {o : HO} (e : H pd = some o) : H' pd = some o :=
  s2.kp pd o (fun ⟨ds, m⟩ => hL _ m rfl) e
theorem d_dnew (st : Vf.St K S M H0 H G L []) (q : ∀ p H', H' p = some (.dK []) → H0 p = none → ¬ S p → (∀ x ∈ L, x.1 ≠ p) → Vf.St K (fun b => S b ∨ b = p) M H0 H' G L [] → Q (.ref p) H') {σ : L2.St} : tDNewK σ H Q := by
  intro p n
  refine q p _ upd_same (st.h0 n) (st.nS n) (fun x hx e => ?_) (st.newS n _)
  obtain ⟨_, _, xs, h3, _⟩ := st.la x hx
  rw [e, n] at h3
  cases h3
theorem d_lenO {a : Addr} {ds : List D} (st : Vf.St K S M H0 H G L []) (m : (a, ds) ∈ L) (q : Q (.int (ds.length : Nat)) H) : rLenG K [.ref a] H Q := by
  obtain ⟨_, _, xs, h3, h4⟩ := st.la (a, ds) m
  exact ⟨_, ds.length, rfl, .inl ⟨xs, SqL.of h3, h4.len.symm⟩, q⟩
end
/-! the steps of a walk over dicts -/
def FDni (y : V) (Q : VK) : VK := fun x H2 => ∃ a o, x = V.ref a ∧ DGet H2 a y o ∧ Q (V.bl !o.isSome) H2
def FDin (y : V) (Q : VK) : VK := fun x H2 => ∃ a o, x = V.ref a ∧ DGet H2 a y o ∧ Q (V.bl o.isSome) H2
def FDgt (x : V) (Q : VK) : VK := fun y H2 => ∃ a v, x = V.ref a ∧ DGet H2 a y (some v) ∧ Q v H2
def FDpt (v x : V) (D : Ends) (σ : L2.St) : VK := fun y H3 => ∃ a H4, x = V.ref a ∧ DPut H3 a y v H4 ∧ D.nx σ H4
theorem g_dni {ty td : TE} {σ : L2.St} {H : Hp} {Q : VK} (h : ty σ H fun y H1 => td σ H1 (FDni y Q)) : tDNotIn ty td σ H Q := h
theorem g_din {ty td : TE} {σ : L2.St} {H : Hp} {Q : VK} (h : ty σ H fun y H1 => td σ H1 (FDin y Q)) : tDIn ty td σ H Q := h
theorem g_dgt {ty td : TE} {σ : L2.St} {H : Hp} {Q : VK} (h : td σ H fun x H1 => ty σ H1 (FDgt x Q)) : tDGet td ty σ H Q := h
theorem g_dpt {ty td tv : TE} {D : Ends} {σ : L2.St} {H : Hp} (h : tv σ H fun v H1 => td σ H1 fun x H2 => ty σ H2 (FDpt v x D σ)) : sDPut td ty tv D σ H := h
theorem k_dni {H : Hp} {Q : VK} {a : Addr} {kvs : List (Key × V)} {i : Int} (h : H a = some (.dK kvs)) (q : Q (.bl !(valV kvs (.inl i : Key)).isSome) H) : FDni (.int i) Q (.ref a) H := ⟨a, _, rfl, DGet.k (k := .inl i) h, q⟩
theorem k_din {H : Hp} {Q : VK} {a : Addr} {kvs : List (Key × V)} {i : Int} (h : H a = some (.dK kvs)) (q : Q (.bl (valV kvs (.inl i : Key)).isSome) H) : FDin (.int i) Q (.ref a) H := ⟨a, _, rfl, DGet.k (k := .inl i) h, q⟩
theorem k_dgt {H : Hp} {Q : VK} {a : Addr} {kvs : List (Key × V)} {i : Int} {v : V} (h : H a = some (.dK kvs)) (e : valV kvs (.inl i : Key) = some v) (q : Q v H) : FDgt (.ref a) Q (.int i) H := ⟨a, v, rfl, by rw [← e]; exact DGet.k (k := .inl i) h, q⟩
theorem k_dpt {D : Ends} {σ : L2.St} {H : Hp} {a : Addr} {kvs : List (Key × V)} {i : Int} {v : V} (h : H a = some (.dK kvs)) (hl : kvs.length < 100000) (q : D.nx σ (upd H a (.dK (putK kvs (.inl i : Key) v)))) : FDpt v (.ref a) D σ (.int i) H := ⟨a, _, rfl, DPut.k (k := .inl i) h (Nat.lt_of_lt_of_le hl (by decide)), q⟩
/-- keys by a function of the place, the values the places -/
def kvF (f : Nat → Int) (k : Nat) : List (Key × V) := (List.range k).map fun j => (.inl (f j), V.int (j : Nat))
theorem kvF_none {f : Nat → Int} {k : Nat} {p : Int} (h : ∀ j, j < k → f j ≠ p) : valV (kvF f k) (.inl p : Key) = none := by
  unfold valV kvF
  rw [List.find?_eq_none.mpr]
  · rfl
  · intro kv hkv
    obtain ⟨j, hj, rfl⟩ := List.mem_map.mp hkv
    have := h j (List.mem_range.mp hj)
    simpa using this
theorem kvF_some {f : Nat → Int} {k : Nat} {p : Int} {v : V} (h : valV (kvF f k) (.inl p : Key) = some v) : ∃ j, j < k ∧ f j = p ∧ v = V.int (j : Nat) := by
  unfold valV kvF at h
  obtain ⟨kv, h1, h2⟩ := Option.map_eq_some_iff.mp h
  have m := List.mem_of_find?_eq_some h1
  have t := List.find?_some h1
  obtain ⟨j, hj, rfl⟩ := List.mem_map.mp m
  refine ⟨j, List.mem_range.mp hj, ?_, h2.symm⟩
  simpa using t
theorem kvF_fresh {f : Nat → Int} {k : Nat} {p : Int} (h : valV (kvF f k) (.inl p : Key) = none) : ∀ j, j < k → f j ≠ p := by
  intro j hj e
  unfold valV kvF at h
  rw [Option.map_eq_none_iff, List.find?_eq_none] at h
  refine h (.inl (f j), V.int (j : Nat)) (List.mem_map.mpr ⟨j, List.mem_range.mpr hj, rfl⟩) ?_
  rw [e]
  simp
theorem kvF_put {f : Nat → Int} {k : Nat} (h : ∀ j, j < k → f j ≠ f k) : putK (kvF f k) (.inl (f k) : Key) (V.int (k : Nat)) = kvF f (k + 1) := by
  unfold putK
  rw [if_neg ?_]
  · unfold kvF
    rw [List.range_succ, List.map_append]
    rfl
  · intro e
    obtain ⟨kv, h1, h2⟩ := List.any_eq_true.mp e
    obtain ⟨j, hj, rfl⟩ := List.mem_map.mp h1
    exact h j (List.mem_range.mp hj) (by simpa using h2)
theorem kvF_len (f : Nat → Int) (k : Nat) : (kvF f k).length = k := by unfold kvF; rw [List.length_map, List.length_range]
theorem pigeon : ∀ (m : Nat) (l : List Nat), l.Nodup → (∀ x ∈ l, x < m) → l.length ≤ m
  | 0, [], _, _ => Nat.le_refl _
  | 0, x :: _, _, h => absurd (h x (List.mem_cons_self ..)) (Nat.not_lt_zero _)
  | m + 1, l, hn, h => by
    have ih := pigeon m (l.erase m) (hn.erase m) fun x hx => by
      have h1 := h x (List.mem_of_mem_erase hx)
      have h2 : x ≠ m := fun e => by
        rw [e] at hx
        exact (List.Nodup.not_mem_erase hn) hx
      omega
    by_cases q : m ∈ l
    · rw [List.length_erase_of_mem q] at ih
      omega
    · rw [List.erase_of_not_mem q] at ih
      omega
theorem pigeonF {f : Nat → Int} {m k : Nat} (hb : ∀ j, 0 ≤ f j ∧ f j < (m : Int)) (hd : ∀ i j, i < j → j < k → f i ≠ f j) : k ≤ m := by
  have := pigeon m ((List.range k).map fun j => (f j).toNat) (by
    rw [List.nodup_iff_pairwise_ne, List.pairwise_map]
    refine List.Pairwise.imp_of_mem ?_ (List.nodup_iff_pairwise_ne.mp (List.nodup_range (n := k)))
    intro i j hi hj hij e
    have h1 := List.mem_range.mp hi
    have h2 := List.mem_range.mp hj
    have b1 := hb i
    have b2 := hb j
    rcases Nat.lt_or_gt_of_ne hij with q | q
    · exact hd i j q h2 (by omega)
    · exact hd j i q h1 (by omega)) (by
    intro x hx
    obtain ⟨j, _, rfl⟩ := List.mem_map.mp hx
    have := hb j
    omega)
  rw [List.length_map, List.length_range] at this
  exact this
end Vf
namespace Vf
open PySem PySem.Spec PyProof.Rows L2 RZ
/-! ## effects gone through again and again: the arithmetic alone -/
/-- numbers of effects that don't divide: small sums -/
structure Ef.Ev (e : Ef) (i : Nat) : Prop where
  l : e.least.natAbs ≤ (i + 2) * 2 ^ 232
  a : e.add.natAbs ≤ (i + 1) * 2 ^ 232
  p : e.by_ = 1
  t : e.top.natAbs ≤ (i + 1) * 2 ^ 232
theorem Ef.Ev.In {e : Ef} {i : Nat} (h : e.Ev i) (hi : i ≤ 100) : e.In 240 := by
  obtain ⟨l, a, p, t⟩ := h
  have e1 : (2 : Nat) ^ 240 = 256 * 2 ^ 232 := by decide +kernel
  have m1 : (i + 2) * 2 ^ 232 ≤ 102 * 2 ^ 232 := Nat.mul_le_mul_right _ (by omega)
  have m2 : (i + 1) * 2 ^ 232 ≤ 102 * 2 ^ 232 := Nat.mul_le_mul_right _ (by omega)
  have z : 0 < (2 : Nat) ^ 232 := Nat.pow_pos (by decide)
  refine ⟨?_, ?_, Int.le_of_eq p.symm, ?_, ?_⟩ <;> rw [e1] <;> clear e1 <;> generalize (2 : Nat) ^ 232 = z at * <;> omega
theorem Ef.Ev.first {e : Ef} (h : e.In 232) (hp : e.by_ = 1) : e.Ev 0 := by
  obtain ⟨l, a, p, y, t⟩ := h
  exact ⟨by omega, by omega, hp, by omega⟩
theorem Ef.Ev.step {a b e : Ef} {i : Nat} (ha : a.Ev i) (hb : b.In 232) (h : chn (some a) (some b) = some e) (hp : e.by_ = 1) : e.Ev (i + 1) := by
  obtain ⟨h3, rfl⟩ := chn_some h
  obtain ⟨l, ad, p, t⟩ := ha
  obtain ⟨bl, ba, bp, by', bt⟩ := hb
  have hp : a.by_ * b.by_ = 1 := hp
  rw [p, Int.one_mul] at hp
  have k1 : (i + 2) * 2 ^ 232 = (i + 1) * 2 ^ 232 + 2 ^ 232 := Nat.succ_mul (i + 1) _
  have k2 : (i + 1 + 2) * 2 ^ 232 = (i + 2) * 2 ^ 232 + 2 ^ 232 := Nat.succ_mul (i + 2) _
  have k3 : (i + 1 + 1) * 2 ^ 232 = (i + 1) * 2 ^ 232 + 2 ^ 232 := Nat.succ_mul (i + 1) _
  suffices hh : (jn a b).least.natAbs ≤ (i + 1 + 2) * 2 ^ 232 ∧ (jn a b).add.natAbs ≤ (i + 1 + 1) * 2 ^ 232 ∧ (jn a b).by_ = 1 ∧ (jn a b).top.natAbs ≤ (i + 1 + 1) * 2 ^ 232 from ⟨hh.1, hh.2.1, hh.2.2.1, hh.2.2.2⟩
  rw [k2, k3]
  try rw [k1]
  rw [k1] at l
  clear k1 k2 k3 h3 h
  generalize (i + 1) * 2 ^ 232 = A at *
  generalize 2 ^ 232 = z at *
  refine ⟨?_, ?_, ?_, ?_⟩
  · show (mx a.least (b.least * a.by_ - a.add)).natAbs ≤ _
    rw [p, Int.mul_one]
    unfold mx
    split <;> omega
  · show (a.add + b.add * a.by_).natAbs ≤ _
    rw [p, Int.mul_one]
    omega
  · show a.by_ * b.by_ = 1
    rw [p, hp]; rfl
  · show (mn b.top ((a.top + b.add) / b.by_)).natAbs ≤ _
    rw [hp, Int.ediv_one]
    unfold mn
    split <;> omega
theorem thrL_snoc {es : List (Option Ef)} {i : Nat} {o : Option Ef} (h : es[i]? = some o) (x : Int) : thrL (es.take (i + 1)) x = thr o (thrL (es.take i) x) := by
  rw [take_snoc h]
  unfold thrL
  rw [List.foldl_append]
  rfl
def evT : Option Ef → Int → Int
  | none, _ => 0
  | some e, x => if e.by_ ≠ 1 ∨ e.add = 0 ∨ ¬ (e.least ≤ x ∧ x ≤ e.top) then 0 else if e.add > 0 then (e.top - x) / e.add else (x - e.least) / -e.add
theorem evT_zero_or {o : Option Ef} {x : Int} (h : 0 < evT o x) : ∃ e, o = some e ∧ e.by_ = 1 ∧ e.add ≠ 0 ∧ e.least ≤ x ∧ x ≤ e.top ∧ evT o x = if e.add > 0 then (e.top - x) / e.add else (x - e.least) / -e.add := by
  cases o with
  | none => exact absurd h (Int.lt_irrefl 0)
  | some e =>
    have h' : 0 < (if e.by_ ≠ 1 ∨ e.add = 0 ∨ ¬ (e.least ≤ x ∧ x ≤ e.top) then 0 else if e.add > 0 then (e.top - x) / e.add else (x - e.least) / -e.add) := h
    by_cases q : e.by_ ≠ 1 ∨ e.add = 0 ∨ ¬ (e.least ≤ x ∧ x ≤ e.top)
    · rw [if_pos q] at h'
      exact absurd h' (Int.lt_irrefl 0)
    · refine ⟨e, rfl, ?_, ?_, ?_, ?_, if_neg q⟩
      · exact Decidable.not_not.mp fun z => q (.inl z)
      · exact fun z => q (.inr (.inl z))
      · exact Decidable.not_not.mp fun z => q (.inr (.inr fun y => z y.1))
      · exact Decidable.not_not.mp fun z => q (.inr (.inr fun y => z y.2))
theorem leap {f : Int → Int} {o : Option Ef} (hf : ∀ e, o = some e → ∀ y, 0 ≤ y → f y = thr (some e) y) (hw : oWf o) {x : Int} (hx : 0 ≤ x) : ∀ k : Nat, (k : Int) ≤ evT o x → ∀ e, o = some e → 0 < (k : Int) → iter f k x = x + (k : Int) * e.add ∧ 0 ≤ x + (k : Int) * e.add
  | 0, _, _, _, h0 => absurd h0 (Int.lt_irrefl 0)
  | k + 1, hk, e, he, _ => by
    obtain ⟨e', he', p, a0, x0, x1, ev⟩ := evT_zero_or (o := o) (x := x) (by omega)
    rw [he] at he'
    cases he'
    have l1 := (hw e he).l
    have ih : iter f k x = x + (k : Int) * e.add ∧ 0 ≤ x + (k : Int) * e.add := by
      by_cases z : k = 0
      · subst z
        refine ⟨?_, ?_⟩
        · show x = x + ((0 : Nat) : Int) * e.add
          simp
        · simp; exact hx
      · exact leap hf hw hx k (by omega) e he (by omega)
    rw [ev] at hk
    have hk1 : ((k + 1 : Nat) : Int) * e.add = (k : Int) * e.add + e.add := by rw [Int.natCast_add, Int.add_mul]; simp
    have key : e.least ≤ x + (k : Int) * e.add ∧ x + ((k + 1 : Nat) : Int) * e.add ≤ e.top ∧ 0 ≤ x + ((k + 1 : Nat) : Int) * e.add := by
      by_cases s : e.add > 0
      · rw [if_pos s] at hk
        have q := (Int.le_ediv_iff_mul_le s).mp hk
        have m : 0 ≤ (k : Int) * e.add := Int.mul_nonneg (by omega) (by omega)
        refine ⟨by omega, by omega, by omega⟩
      · rw [if_neg s] at hk
        have s2 : 0 < -e.add := by omega
        have q := (Int.le_ediv_iff_mul_le s2).mp hk
        rw [Int.mul_neg] at q
        have m : 0 ≤ (k : Int) * -e.add := Int.mul_nonneg (by omega) (by omega)
        rw [Int.mul_neg] at m
        refine ⟨by omega, by omega, by omega⟩
    refine ⟨?_, key.2.2⟩
    show f (iter f k x) = _
    rw [ih.1, hf e he _ ih.2, thr_ge (by omega), p, Int.ediv_one, hk1]
    unfold mn
    rw [hk1] at key
    split <;> omega
theorem thr_nn {o : Option Ef} (hw : oWf o) {x : Int} : 0 ≤ thr o x := by
  cases o with
  | none => exact Int.le_refl 0
  | some e =>
    by_cases q : x < e.least
    · rw [thr_lt q]; exact Int.le_refl 0
    · have := (thr_pos (hw e rfl) (x := x)).mpr (by omega)
      omega
theorem thrL_nn : ∀ {es : List (Option Ef)}, (∀ o ∈ es, oWf o) → ∀ {x : Int}, 0 ≤ x → 0 ≤ thrL es x
  | [], _, _, hx => hx
  | o :: es, h, x, _ => by
    show 0 ≤ thrL es (thr o x)
    exact thrL_nn (fun o m => h o (List.mem_cons_of_mem _ m)) (thr_nn (h o (List.mem_cons_self ..)))
theorem iter_nn {f : Int → Int} (hf : ∀ x, 0 ≤ x → 0 ≤ f x) {x : Int} (hx : 0 ≤ x) : ∀ k, 0 ≤ iter f k x
  | 0 => hx
  | k + 1 => hf _ (iter_nn hf hx k)
end Vf
namespace Vf
open PySem PySem.Spec PyProof.Rows L2 RZ
/-! ## a comprehension's list that is changed behind; its items set -/
section
variable {K : PySem.W.Frag} {S M : AS} {H0 H : Hp} {G : List (V × D)} {L : List (Addr × List D)} {B : List Addr} {Q : VK}
theorem d_lcO {J : It} {n : Nat} {Gq : Addr → Hp → Prop} {Y : Addr → Nat → Hp → V → Hp → Prop} {σ : L2.St} {g : TG} {tt : TT} {te : TE} {ws : List Nat} (w : ∀ p, Walk J n (Gq p) (Y p)) (st : Vf.St K S M H0 H G L B)
    (hG : ∀ p es H', Vf.St K (fun b => S b ∨ b = p) M H0 H' G ((p, es) :: L) B → Gq p H') (P : Nat → List D → Prop) (p0 : P 0 [])
    (hs : ∀ p i x H1 H2 es, ¬ S p → i < n → es.length ≤ i → P i es → Vf.St K (fun b => S b ∨ b = p) M H0 H1 G ((p, es) :: L) B → Y p i H1 x H2 → g x (wipe σ ws) H2 fun σ2 H3 => wipe σ2 ws = wipe σ ws ∧ tt σ2 H3 fun b H4 =>
      if b = true then te σ2 H4 (LcE K S M H0 G L B p P (i + 1)) else LcP K S M H0 G L B p P (i + 1) H4)
    (hd : ∀ p H' es, ¬ S p → P n es → es.length ≤ n → Vf.St K (fun b => S b ∨ b = p) M H0 H' G ((p, es) :: L) B → Q (.ref p) H') :
    FLc g tt te ws σ Q J H := by
  intro p np
  have ns := st.nS np
  refine lc_it (w p) (LcP K S M H0 G L B p P) ⟨[], Nat.le_refl _, p0, st.own np zl_nil⟩ (fun i H' _ ⟨es, _, _, s⟩ => hG p es H' s) (fun i x H1 H2 hi ⟨es, hl, pp, s⟩ y => hs p i x H1 H2 es ns hi hl pp s y) fun H' ⟨es, hl, pp, s⟩ => hd p H' es ns pp hl s
theorem lc_RIO {g : TG} {tt : TT} {te : TE} {ws : List Nat} {σ : L2.St} {n : Int} (h0 : 0 ≤ n) (hn : n ≤ 1000000) (st : Vf.St K S M H0 H G L B) (P : Nat → List D → Prop) (p0 : P 0 [])
    (hs : ∀ p i x H1 es, ¬ S p → i < n.toNat → es.length ≤ i → P i es → Vf.St K (fun b => S b ∨ b = p) M H0 H1 G ((p, es) :: L) B → x = .int (i : Nat) → g x (wipe σ ws) H1 fun σ2 H3 => wipe σ2 ws = wipe σ ws ∧ tt σ2 H3 fun b H4 =>
      if b = true then te σ2 H4 (LcE K S M H0 G L B p P (i + 1)) else LcP K S M H0 G L B p P (i + 1) H4)
    (hd : ∀ p H' es, ¬ S p → P n.toNat es → es.length ≤ n.toNat → Vf.St K (fun b => S b ∨ b = p) M H0 H' G ((p, es) :: L) B → Q (.ref p) H') : FRng (FLc g tt te ws σ Q) [.int n] H := by
  refine ⟨n, rfl, by omega, by omega, ?_⟩
  refine d_lcO (fun p => walk_range) st (fun p es H' s => trivial) P p0 (fun p i x H1 H2 es n hi hl pe s y => ?_) hd
  obtain ⟨e, hx⟩ := y
  subst e
  exact hs p i x _ es n hi hl pe s (by rw [hx]; simp)
theorem d_setO {a : Addr} {ds : List D} {i : Nat} {j : Nat} {d : D} {y : V} {N : Hp → Prop} (st : Vf.St K S M H0 H G L B) (hl : L[i]? = some (a, ds)) (hj : j < ds.length) (hz : Dz K S H d y) (q : ∀ H', Vf.St K S M H0 H' G (L.set i (a, ds.set j d)) B → N H') : rSetL (.ref a) (.int (j : Nat)) y H N := by
  obtain ⟨_, _, xs, h3, h4⟩ := st.la (a, ds) (List.mem_of_getElem? hl)
  have e := h4.len
  exact b_set j h3 (by rw [e]; exact hj) (q _ (st.put hl (h4.set hz)))
theorem d_lenB {a : Addr} {ds : List D} (st : Vf.St K S M H0 H G L B) (m : (a, ds) ∈ L) (q : Q (.int (ds.length : Nat)) H) : rLenG K [.ref a] H Q := by
  obtain ⟨_, _, xs, h3, h4⟩ := st.la (a, ds) m
  exact ⟨_, ds.length, rfl, .inl ⟨xs, SqL.of h3, h4.len.symm⟩, q⟩
end
theorem join_signs : ∀ cs : List Nat, Str.join (Str.ofString "") (cs.map fun c => (⟨#[c]⟩ : Str)) = ⟨cs.toArray⟩
  | [] => rfl
  | [c] => rfl
  | c :: d :: r => by
    have ih := join_signs (d :: r)
    show ((⟨#[c]⟩ : Str) ++ Str.ofString "" ++ Str.join (Str.ofString "") ((d :: r).map fun c => (⟨#[c]⟩ : Str)) : Str) = _
    rw [ih]
    show Str.mk (#[c] ++ #[] ++ (d :: r).toArray) = _
    simp
theorem sum_one : ∀ cs : List Nat, ((cs.map fun c => (⟨#[c]⟩ : Str)).map (·.length)).sum = cs.length
  | [] => rfl
  | c :: cs => by
    rw [List.map_cons, List.map_cons, List.sum_cons, sum_one cs, List.length_cons]
    show 1 + cs.length = _
    omega
theorem isRow_of {cs : List Nat} (h : cs.length ≤ 200) (hs : ∀ c ∈ cs, signOk c = true) : isRow (.str ⟨cs.toArray⟩) = true := by
  show (decide (cs.toArray.size ≤ 200) && cs.toArray.toList.all signOk) = true
  rw [Bool.and_eq_true]
  exact ⟨decide_eq_true (by simpa using h), by simpa [List.all_eq_true] using hs⟩
theorem app_list (x y : Str) : (x ++ y).cps.toList = x.cps.toList ++ y.cps.toList := by
  show (x.cps ++ y.cps).toList = _
  exact Array.toList_append
theorem cutS_to {z : Str} {i : Nat} : (cutS z none (some ((i : Nat) : Int))).cps.toList = z.cps.toList.take i := by
  have e : z.length = z.cps.size := rfl
  have a2 : HT.sIx z.length z.length (some ((i : Nat) : Int)) = min i z.length := by
    show (if ((i : Nat) : Int) < 0 then (((i : Nat) : Int) + (z.length : Nat)).toNat else min ((i : Nat) : Int).toNat z.length) = _
    rw [if_neg (by omega), Int.toNat_natCast]
  unfold cutS
  show (z.cps.toList.drop (HT.sIx z.length 0 none)).take (HT.sIx z.length z.length (some ((i : Nat) : Int)) - HT.sIx z.length 0 none) = _
  rw [a2, show HT.sIx z.length 0 none = 0 from rfl, List.drop_zero, Nat.sub_zero]
  by_cases q : i ≤ z.length
  · rw [Nat.min_eq_left q]
  · rw [Nat.min_eq_right (by omega), List.take_of_length_le (by rw [Array.length_toList]; omega), List.take_of_length_le (by rw [Array.length_toList]; omega)]
theorem cutS_from {z : Str} {i : Nat} : (cutS z (some ((i : Nat) : Int)) none).cps.toList = z.cps.toList.drop i := by
  have e : z.length = z.cps.size := rfl
  have a2 : HT.sIx z.length 0 (some ((i : Nat) : Int)) = min i z.length := by
    show (if ((i : Nat) : Int) < 0 then (((i : Nat) : Int) + (z.length : Nat)).toNat else min ((i : Nat) : Int).toNat z.length) = _
    rw [if_neg (by omega), Int.toNat_natCast]
  unfold cutS
  show (z.cps.toList.drop (HT.sIx z.length 0 (some ((i : Nat) : Int)))).take (HT.sIx z.length z.length none - HT.sIx z.length 0 (some ((i : Nat) : Int))) = _
  rw [a2, show HT.sIx z.length z.length none = z.length from rfl]
  by_cases q : i ≤ z.length
  · rw [Nat.min_eq_left q, List.take_of_length_le (by rw [List.length_drop, Array.length_toList]; omega)]
  · rw [Nat.min_eq_right (by omega), List.drop_of_length_le (by rw [Array.length_toList]; omega), List.drop_of_length_le (by rw [Array.length_toList]; omega), List.take_nil]
end Vf
namespace Vf
open PySem PySem.Spec PyProof.Rows L2 RZ
/-! ## what becomes of a thing in rounds: the arithmetic alone -/
theorem mn_mono {t a b : Int} (h : a ≤ b) : mn t a ≤ mn t b := by
  unfold mn
  (repeat split) <;> omega
theorem thr_mono {o : Option Ef} (hw : oWf o) {x y : Int} (h : x ≤ y) : thr o x ≤ thr o y := by
  cases o with
  | none => exact Int.le_refl 0
  | some e =>
    by_cases q : x < e.least
    · rw [thr_lt q]; exact thr_nn hw
    · rw [thr_ge q, thr_ge (by omega)]
      have p := (hw e rfl).p
      exact mn_mono (Int.ediv_le_ediv (by omega) (by omega))
theorem thrL_mono : ∀ {es : List (Option Ef)}, (∀ o ∈ es, oWf o) → ∀ {x y : Int}, x ≤ y → thrL es x ≤ thrL es y
  | [], _, _, _, h => h
  | o :: es, hw, x, y, h => thrL_mono (es := es) (fun o m => hw o (List.mem_cons_of_mem _ m)) (thr_mono (hw o (List.mem_cons_self ..)) h)
theorem thrL_0 : ∀ {es : List (Option Ef)}, (∀ o ∈ es, oWf o) → thrL es 0 = 0
  | [], _ => rfl
  | o :: es, hw => by
    show thrL es (thr o 0) = 0
    rw [thr_zero (hw o (List.mem_cons_self ..))]
    exact thrL_0 fun o m => hw o (List.mem_cons_of_mem _ m)
section
variable {f : Int → Int} (hm : ∀ x y, x ≤ y → f x ≤ f y)
include hm
theorem iter_up {x : Int} (h : x ≤ f x) : ∀ j, iter f j x ≤ iter f (j + 1) x
  | 0 => h
  | j + 1 => hm _ _ (iter_up h j)
theorem iter_dn {x : Int} (h : f x ≤ x) : ∀ j, iter f (j + 1) x ≤ iter f j x
  | 0 => h
  | j + 1 => hm _ _ (iter_dn h j)
/-- so many strict changes lead so far -/
theorem iter_far {x : Int} : ∀ d : Nat, (∀ j, j < d → iter f (j + 1) x ≠ iter f j x) → x + d ≤ iter f d x ∨ iter f d x ≤ x - d
  | 0, _ => .inl (by show x + ((0 : Nat) : Int) ≤ x; omega)
  | d + 1, hc => by
    have ih := iter_far d fun j h => hc j (by omega)
    have hd := hc d (by omega)
    by_cases q : x ≤ f x
    · have u := iter_up hm q d
      rcases ih with ih | ih
      · exact .inl (by omega)
      · have u2 : x ≤ iter f d x := by
          clear ih hd u
          induction d with
          | zero => exact Int.le_refl _
          | succ d id => exact Int.le_trans (id (fun j h => hc j (by omega))) (iter_up hm q d)
        exact .inl (by omega)
    · have u := iter_dn hm (by omega : f x ≤ x) d
      rcases ih with ih | ih
      · have u2 : iter f d x ≤ x := by
          clear ih hd u
          induction d with
          | zero => exact Int.le_refl _
          | succ d id => exact Int.le_trans (iter_dn hm (by omega : f x ≤ x) d) (id (fun j h => hc j (by omega)))
        exact .inr (by omega)
      · exact .inr (by omega)
end
/-- there all the time -/
def stays (w : Wn) (cs : List Nat) (x n : Int) : Prop := ∀ t, 0 < (stR w cs (x, n) t).1
theorem stt_zero {w : Wn} (h : w.Ok) : ∀ (cs : List Nat) {n : Int}, 0 ≤ n → (stt w (0, n) cs).1 = 0
  | [], _, _ => rfl
  | c :: cs, n, hn => by
    have b := (stt_ok h [c] (s := (0, n)) ⟨Int.le_refl _, by have := h.c1; show (0 : Int) ≤ w.cap; omega⟩ hn).2.1
    have z := stp_zero h (s := (0, n)) (c := c) rfl hn
    show (stt w (stp w (0, n) c) cs).1 = 0
    rw [show stp w (0, n) c = ((stp w (0, n) c).1, (stp w (0, n) c).2) from rfl, z]
    exact stt_zero h cs b
theorem stR_gone {w : Wn} (h : w.Ok) {cs : List Nat} {x n : Int} (hx : 0 ≤ x ∧ x ≤ w.cap) (hn : 0 ≤ n) {t : Nat} (h0 : (stR w cs (x, n) t).1 = 0) : ∀ k, (stR w cs (x, n) (t + k)).1 = 0
  | 0 => h0
  | k + 1 => by
    have ih := stR_gone h hx hn h0 k
    have b := stR_ok h (cs := cs) hx hn (t + k)
    show (stt w (stR w cs (x, n) (t + k)) cs).1 = 0
    generalize stR w cs (x, n) (t + k) = s at ih b
    obtain ⟨a, m⟩ := s
    have ih : a = 0 := ih
    subst ih
    exact stt_zero h cs b.2
theorem stR_mono {w : Wn} (h : w.Ok) {cs : List Nat} {x y n : Int} (h0 : 0 ≤ x) (h1 : x ≤ y) (h2 : y ≤ w.cap) (hn : 0 ≤ n) : ∀ t, (stR w cs (x, n) t).1 ≤ (stR w cs (y, n) t).1
  | 0 => h1
  | t + 1 => by
    have ih := stR_mono h (cs := cs) h0 h1 h2 hn t
    have b1 := stR_ok h (cs := cs) (x := x) ⟨h0, by omega⟩ hn t
    have b2 := stR_ok h (cs := cs) (x := y) ⟨by omega, h2⟩ hn t
    have e1 := stR_snd (w := w) (cs := cs) (x := x) (n := n) t
    have e2 := stR_snd (w := w) (cs := cs) (x := y) (n := n) t
    show (stt w (stR w cs (x, n) t) cs).1 ≤ (stt w (stR w cs (y, n) t) cs).1
    generalize stR w cs (x, n) t = s at *
    generalize stR w cs (y, n) t = u at *
    obtain ⟨a, p⟩ := s
    obtain ⟨b, q⟩ := u
    have e1 : p = _ := e1
    have e2 : q = _ := e2
    rw [e1] at b1 ⊢
    rw [e2]
    exact stt_mono h cs b1.1.1 ih b2.1.2 b1.2
theorem stays_mono {w : Wn} (h : w.Ok) {cs : List Nat} {x y n : Int} (h0 : 0 ≤ x) (h1 : x ≤ y) (h2 : y ≤ w.cap) (hn : 0 ≤ n) (s : stays w cs x n) : stays w cs y n := fun t => Int.lt_of_lt_of_le (s t) (stR_mono h h0 h1 h2 hn t)
/-- the last strength tells whether a thing stays -/
theorem stays_iff {w : Wn} (h : w.Ok) {cs : List Nat} {x n : Int} (hx : 0 ≤ x ∧ x ≤ w.cap) (hn : 0 ≤ n) {lead K : Nat} (hl : lead < K) (e : phase w (nxs w cs n K) = phase w (nxs w cs n lead)) {d T : Nat} (hd : iter (thrL ((List.range' lead (K - lead)).map (rdE w cs n))) d (stR w cs (x, n) lead).1 = iter (thrL ((List.range' lead (K - lead)).map (rdE w cs n))) T (stR w cs (x, n) lead).1) (hf : thrL ((List.range' lead (K - lead)).map (rdE w cs n)) (iter (thrL ((List.range' lead (K - lead)).map (rdE w cs n))) d (stR w cs (x, n) lead).1) = iter (thrL ((List.range' lead (K - lead)).map (rdE w cs n))) d (stR w cs (x, n) lead).1) : 0 < iter (thrL ((List.range' lead (K - lead)).map (rdE w cs n))) T (stR w cs (x, n) lead).1 ↔ stays w cs x n := by
  constructor
  · intro hp t
    rw [← hd] at hp
    have e1 := cyc_iter h hx hn hl e (d + t)
    rw [iter_add, iter_fix hf] at e1
    have b := stR_ok h (cs := cs) hx hn t
    refine Decidable.byContradiction fun z => ?_
    have z0 : (stR w cs (x, n) t).1 = 0 := by omega
    have le : t ≤ lead + (d + t) * (K - lead) := by
      have : (d + t) * 1 ≤ (d + t) * (K - lead) := Nat.mul_le_mul_left _ (by omega)
      omega
    have g := stR_gone h hx hn z0 (lead + (d + t) * (K - lead) - t)
    rw [show t + (lead + (d + t) * (K - lead) - t) = lead + (d + t) * (K - lead) by omega, ← e1] at g
    omega
  · intro s
    rw [cyc_iter h hx hn hl e T]
    exact s _
end Vf
namespace Vf
open PySem PySem.Spec PyProof.Rows L2 RZ
/-! ## enumerate of a text -/
def Ites (x : Str) : It where
  go := fun i _ => i < x.cps.size
  yld := fun i H v H' => ∃ T c, v = V.ref T ∧ H T = none ∧ x.cps[i]? = some c ∧ H' = upd H T (.tup [.int (i : Nat), .str ⟨#[c]⟩])
  stop := fun i _ => x.cps.size ≤ i
theorem turn_enumS {P : Program} {w : World} {K : W.Frag} {elts : List Expr} {kk : Nat} {tpos : Pos} (x : Str) (t : Tok) (ty : String) (hty : ty = "str_ascii_iterator" ∨ ty = "str_iterator") (e it : Addr) : Turn P w K (Expr.Tuple elts kk tpos) (Ites x) [e, it] e fun i h => (∃ old, IsEnum h e it ((i : Nat) : Int) old) ∧ h.IsStrIter it ty x t i ∧ e ≠ it ∧ i ≤ x.cps.size := by
  refine ⟨List.Mem.head _, fun i h hh b hb => ?_, fun i h h' hh hk => ?_, ?_, ?_, ?_⟩
  · obtain ⟨⟨old, h1⟩, ⟨o, h2, h3, h4⟩, h5, _⟩ := hh
    rcases List.mem_cons.mp hb with hb | hb
    · subst hb
      exact ⟨_, h1, fun v z => by cases z⟩
    · rw [List.mem_singleton.mp hb]
      exact ⟨o, h2, fun v z => by rw [h4] at z; cases z⟩
  · obtain ⟨⟨old, h1⟩, ⟨o, h2, h3, h4⟩, h5, h6⟩ := hh
    exact ⟨⟨old, hk e (List.Mem.head _) _ h1⟩, ⟨o, hk it (List.Mem.tail _ (List.Mem.head _)) _ h2, h3, h4⟩, h5, h6⟩
  · intro X hp hw hK hc i pins s σ H E I hf hh hg
    subst hp; subst hw
    obtain ⟨⟨old, h1⟩, h2, h5, h6⟩ := hh
    have dr : Draws X.prog X.w X.A.in1 it [it] x.cps.size (fun i v => ∃ c u, x.cps[i]? = some c ∧ v = Value.str { cps := #[c] } u) fun i h => h.IsStrIter it ty x t i := by
      rcases hty with z | z
      · subst z
        exact Draws.strAscii (A := X.A.in1) (show X.A.in1.handled = none from I.ok.hd hc) it x t
      · subst z
        exact Draws.strWide (A := X.A.in1) (show X.A.in1.handled = none from I.ok.hd hc) it x t
    refine wpAny_pyNext_enum_itemD dr h1 h2 hg h5 (fun z => h5 (List.mem_singleton.mp z)) fun v h' tk hv ho hst ht hsz hfr => ?_
    obtain ⟨c, u, hcx, rfl⟩ := hv
    have nT : s.heap.objs.size ≠ e := fun z => by
      have ho : h'.get? e = _ := ho
      rw [z, ho] at ht
      exact absurd (Value.type.inj (congrArg Obj.cls (Option.some.inj ht))) (by decide)
    have nU : s.heap.objs.size ≠ it := fun z => by
      obtain ⟨o, g1, g2, g3⟩ := hst
      rw [z, g1] at ht
      have q := congrArg Obj.cls (Option.some.inj ht)
      rw [g2] at q
      have q := Value.type.inj q
      rcases hty with r | r <;> (rw [r] at q; exact absurd q (by decide))
    refine ⟨_, rfl, ?_⟩
    refine wpAny_letOwnedTupleGo_enum ho fun h'' hE hS => ?_
    refine ⟨.ref s.heap.objs.size, upd H s.heap.objs.size (.tup [.int (i : Nat), .str ⟨#[c]⟩]), ?_, rfl, ⟨_, c, rfl, ?_, hcx, rfl⟩, ?_, ?_⟩
    · refine I.turnedNew (ch := [e, it]) (fun b o nb hb => ?_) hf (Nat.le_refl _) ?_
      · have n1 : b ≠ e := fun z => nb (by rw [z]; exact List.Mem.head _)
        have n2 : b ≠ it := fun z => nb (by rw [z]; exact List.Mem.tail _ (List.Mem.head _))
        rw [hS.2 b n1]
        exact hfr b o n1 n2 hb
      · have g : h''.get? s.heap.objs.size = some { cls := Value.type "tuple", data := Data.seq #[Value.int (↑i) tk, Value.str { cps := #[c] } u] } := by
          rw [hS.2 _ nT]
          exact ht
        simp only [ObjOk]
        exact ⟨by show 2 ≤ sizeLine; decide, [Value.int (↑i) tk, Value.str { cps := #[c] } u], .cons ⟨_, rfl⟩ (.cons ⟨_, rfl⟩ .nil), by
          exact ⟨_, g, rfl, _, rfl⟩⟩
    · exact I.fresh
    · obtain ⟨o, g1, g2, g3⟩ := hst
      refine ⟨⟨Value.str { cps := #[c] } u, ?_⟩, ⟨o, ?_, g2, g3⟩, h5, by show i + 1 ≤ x.cps.size; exact hg⟩
      · have := hE
        rw [show (((i + 1 : Nat) : Nat) : Int) = (i : Int) + 1 by omega]
        exact this
      · rw [hS.2 it (fun z => h5 z.symm)]
        exact g1
    · intro b hb
      have ne : b ≠ s.heap.objs.size := fun z => by
        rcases List.mem_cons.mp hb with q | q
        · exact nT (by rw [← z, q])
        · exact nU (by rw [← z, List.mem_singleton.mp q])
      rw [upd_ne ne]
      exact (hf b hb).1
  · intro X hp hw hK hc i pins s σ H E I hf hh hg
    subst hp; subst hw
    obtain ⟨⟨old, h1⟩, h2, h5, h6⟩ := hh
    have hg : x.cps.size ≤ i := hg
    have hi : i = x.cps.size := by omega
    have dr : Draws X.prog X.w X.A.in1 it [it] x.cps.size (fun i v => ∃ c u, x.cps[i]? = some c ∧ v = Value.str { cps := #[c] } u) fun i h => h.IsStrIter it ty x t i := by
      rcases hty with z | z
      · subst z
        exact Draws.strAscii (A := X.A.in1) (show X.A.in1.handled = none from I.ok.hd hc) it x t
      · subst z
        exact Draws.strWide (A := X.A.in1) (show X.A.in1.handled = none from I.ok.hd hc) it x t
    rw [hi] at h2
    refine wpAny_pyNext_enum_endD dr h1 h2 fun h' hx => ⟨rfl, ?_⟩
    refine I.turnedL (ch := [e, it]) (fun b o nb hb => hx b o (fun z => nb (by rw [z]; exact List.Mem.tail _ (List.Mem.head _))) hb) hf
  · intro A i s Q E hh q
    obtain ⟨⟨old, h1⟩, _⟩ := hh
    exact wpAny_pyIter_enum h1 q


def iEnumS (ta : TA) : TI := fun σ H R => ta σ H fun vs H1 => ∃ z : Str, vs = [V.str z] ∧ R (Ites z) H1
theorem pi_enumS {X : Cx} {e : Expr} {ta : TA} {p pos tpos : Pos} {elts : List Expr} {kk : Nat} (hg : Gl X (Str.ofString "enumerate")) (hm : X.mg (Str.ofString "enumerate") = none) (ha : PA X [e] ta) (hs : starEach [e] X.env = [(false, eval e X.env)] := by rfl) : PI X (Expr.Tuple elts kk tpos) ((Expr.Name (Str.ofString "enumerate") p).Call [e] [] pos) (iEnumS ta) := by
  refine ⟨fun pins s σ H R I h => ?_⟩
  have q := (pe_bltn (X := X) (x := Str.ofString "enumerate") (v := .ty "enumerate") (pos := p) hg hm (by decide +kernel) rfl).run pins s σ H (fun v H1 => v = .ty "enumerate" ∧ H1 = H) I ⟨rfl, rfl⟩
  refine wpAny_Call_NameR (thn q fun f s1 ⟨x, H1, I1, e1, ex, eH⟩ => ?_)
  subst ex; subst eH
  have e1 : f = Value.type "enumerate" := e1
  subst e1
  refine PyProof.Rows.callWith_type1 (thn (ha.run pos pins s1 σ H1 _ I1 h) fun us s2 ⟨vs, H2, I2, hv, z, ez, hR⟩ => ?_) hs rfl
  subst ez
  obtain ⟨t, rfl⟩ : ∃ t, us = [Value.str z t] := by
    cases hv with
    | cons h r =>
      cases r
      obtain ⟨t, ht⟩ := h
      exact ⟨t, by rw [ht]⟩
  refine call_enumerate_str fun h' h1 h2 h3 h4 => ?_
  have I3 : L2.Inv X pins σ H2 { heap := h', gens := s2.gens, drawn := s2.drawn, toks := s2.toks, os := s2.os } := I2.turnedL (ch := []) (fun b o _ hb => h4 b o hb) (fun b hb => by simp at hb)
  have f0 : H2 s2.heap.objs.size = none := I2.fresh
  have f1 : H2 (s2.heap.objs.size + 1) = none := by
    have I4 : L2.Inv X pins σ H2 { heap := s2.heap.push { cls := Value.type "list", data := Data.seq #[] }, gens := s2.gens, drawn := s2.drawn, toks := s2.toks, os := s2.os } := I2.turnedL (ch := []) (fun b o _ hb => Heap.get?_push_of_some _ hb) (fun b hb => by simp at hb)
    have := I4.fresh
    have sz : (s2.heap.push { cls := Value.type "list", data := Data.seq #[] }).objs.size = s2.heap.objs.size + 1 := by simp [Heap.push]
    rw [← sz]
    exact this
  refine wpAny_pyIter_enum h1 ⟨_, [s2.heap.objs.size + 1, s2.heap.objs.size], _, Ites z, H2, rfl, I3, turn_enumS z t (strIterType z) ?_ _ _, ⟨⟨_, h1⟩, h2, Nat.succ_ne_self _, Nat.zero_le _⟩, fun b hb => ?_, hR⟩
  · unfold strIterType
    split
    · exact .inl rfl
    · exact .inr rfl
  · rcases List.mem_cons.mp hb with r | r
    · rw [r]; exact I2.fpOk (Nat.le_succ _) f1
    · rw [List.mem_singleton.mp r]; exact I2.fpOk (Nat.le_refl _) f0

def FEnumS (R : It → Hp → Prop) : List V → Hp → Prop := fun vs H1 => ∃ z : Str, vs = [V.str z] ∧ R (Ites z) H1
theorem i_enumS {σ : L2.St} {H : Hp} {ta : TA} {R : It → Hp → Prop} (h : ta σ H (FEnumS R)) : iEnumS ta σ H R := h
theorem walk_enumS {z : Str} : Walk (Ites z) z.cps.size (fun _ => True) (fun i H v H' => ∃ T c, v = V.ref T ∧ H T = none ∧ z.cps[i]? = some c ∧ H' = upd H T (.tup [.int (i : Nat), .str ⟨#[c]⟩])) :=
  ⟨fun i H hi _ => hi, fun H _ => Nat.le_refl _, fun i H v H' hi _ y => y⟩
/-- for i, sign in enumerate(text) -/
theorem for_ES {g : TG} {tb : TS} {E : Ends} {σ : L2.St} {H : Hp} {z : Str} (Pv : Nat → L2.St → Hp → Prop) (h0 : Pv 0 σ H)
    (hs : ∀ i c T σ H, z.cps[i]? = some c → i < z.cps.size → Pv i σ H → H T = none → g (.ref T) σ (upd H T (.tup [.int (i : Nat), .str ⟨#[c]⟩])) fun σ2 H2 => tb { E with nx := Pv (i + 1), ct := Pv (i + 1), bk := E.nx } σ2 H2) (hd : ∀ σ H, Pv z.cps.size σ H → E.nx σ H) : FEnumS (FFor g tb E σ) [.str z] H := by
  refine ⟨z, rfl, for_it walk_enumS Pv h0 (fun i σ H _ p => trivial) (fun i x σ H H' hi p y => ?_) hd⟩
  obtain ⟨T, c, q1, q2, q3, q4⟩ := y
  subst q1
  subst q4
  exact hs i c T σ H q3 hi p q2
end Vf
namespace Vf
open PySem PySem.Spec PyProof.Rows L2 RZ
/-- an expression with a word behind it: what follows is walked once -/
def tMidE (t : TE) : TE := fun σ H Q => ∃ Mid : VK, t σ H Mid ∧ ∀ v H', Mid v H' → Q v H'
theorem pe_midE {X : Cx} {e : Expr} {t : TE} (h : PE X e t) : PE X e (tMidE t) := by
  refine ⟨fun pins s σ H Q I ⟨Mid, h1, h2⟩ => ?_⟩
  exact thn (h.run pins s σ H Mid I h1) fun u s' ⟨v, H', I', r, q⟩ => ⟨v, H', I', r, h2 v H' q⟩
theorem g_midE {t : TE} {σ : L2.St} {H : Hp} {Q : VK} (Mid : VK) (h1 : t σ H Mid) (h2 : ∀ v H', Mid v H' → Q v H') : tMidE t σ H Q := ⟨Mid, h1, h2⟩
/-- list + list -/
theorem v_cat {K : PySem.W.Frag} {S M : AS} {H0 H : Hp} {G : List (V × D)} {L : List (Addr × List D)} {B : List Addr} {Q : VK} {a b : Addr} {ds es : List D} (st : Vf.St K S M H0 H G L B) (h : Dz K S H (.lst ds) (.ref a)) (h' : Dz K S H (.lst es) (.ref b)) (hl : ds.length + es.length ≤ sizeLine) (q : ∀ p H', Vf.St K S M H0 H' ((.ref p, .lst (ds ++ es)) :: G) L B → Q (.ref p) H') : rAddG K (.ref a) (.ref b) H Q := by
  obtain ⟨xs, h1, h2⟩ := z_lst h
  obtain ⟨ys, h3, h4⟩ := z_lst h'
  exact .inr (.inr (.inl ⟨a, b, xs, ys, rfl, rfl, h1.2, h3.2, by rw [h2.len, h4.len]; exact hl, fun p n => q p _ (st.lst n (h2.app h4))⟩))
/-! ## what fate tells: the arithmetic alone -/
section
variable {w : Wn} {cs : List Nat} {x n : Int}
theorem stR_pair (k : Nat) : stR w cs (x, n) k = ((stR w cs (x, n) k).1, nxs w cs n k) := by
  rw [← stR_snd (x := x) k]
theorem stR_same (h : w.Ok) (hx : 0 ≤ x ∧ x ≤ w.cap) (hn : 0 ≤ n) {a b : Nat} (e1 : (stR w cs (x, n) a).1 = (stR w cs (x, n) b).1) (e2 : phase w (nxs w cs n a) = phase w (nxs w cs n b)) : ∀ i, (stR w cs (x, n) (a + i)).1 = (stR w cs (x, n) (b + i)).1 ∧ phase w (nxs w cs n (a + i)) = phase w (nxs w cs n (b + i))
  | 0 => ⟨e1, e2⟩
  | i + 1 => by
    obtain ⟨h1, h2⟩ := stR_same h hx hn e1 e2 i
    have p := stt_ph h cs (x := (stR w cs (x, n) (a + i)).1) (nxs_ok h (cs := cs) hn (a + i)) (nxs_ok h (cs := cs) hn (b + i)) h2
    constructor
    · show (stt w (stR w cs (x, n) (a + i)) cs).1 = (stt w (stR w cs (x, n) (b + i)) cs).1
      rw [stR_pair (a + i), stR_pair (b + i), ← h1]
      exact p.1
    · exact nx_ph h (nxs_ok h hn _) (nxs_ok h hn _) h2
theorem ph_cyc (h : w.Ok) (hn : 0 ≤ n) {lead kk : Nat} (hl : lead < kk) (e : phase w (nxs w cs n kk) = phase w (nxs w cs n lead)) {t : Nat} (ht : lead ≤ t) : phase w (nxs w cs n (t + (kk - lead))) = phase w (nxs w cs n t) := by
  have e1 := nxs_mod h hn hl e (t - lead + (kk - lead))
  have e2 := nxs_mod h hn hl e (t - lead)
  rw [Nat.add_mod_right] at e1
  rw [show lead + (t - lead + (kk - lead)) = t + (kk - lead) by omega] at e1
  rw [show lead + (t - lead) = t by omega] at e2
  rw [e1, e2]
end
/-- what fate tells of a thing that stays -/
structure FateS (w : Wn) (cs : List Nat) (x n : Int) (r : Nat) (ds : List Int) : Prop where
  st : stays w cs x n
  cyc : ∃ lead kk : Nat, lead < kk ∧ kk ≤ 48 ∧ phase w (nxs w cs n kk) = phase w (nxs w cs n lead) ∧ (∀ i j, i < j → j < kk → phase w (nxs w cs n i) ≠ phase w (nxs w cs n j)) ∧
    ds = (List.range (kk - lead)).map (fun i => (stR w cs (x, n) (r + i)).1) ∧ lead ≤ r ∧ (stR w cs (x, n) (r + (kk - lead))).1 = (stR w cs (x, n) r).1 ∧
    (∀ m, r = m + 1 → ¬ ((stR w cs (x, n) (m + (kk - lead))).1 = (stR w cs (x, n) m).1 ∧ phase w (nxs w cs n (m + (kk - lead))) = phase w (nxs w cs n m)))
  far : r ≤ 10 ^ 11
theorem range_map_get {α : Type} {f : Nat → α} {n i : Nat} (h : i < n) : ((List.range n).map f)[i]? = some (f i) := by
  rw [List.getElem?_map, List.getElem?_range h]
  rfl
section
variable {w : Wn} {cs : List Nat} {x n : Int}
/-- settled at once -/
theorem fate_0 (h : w.Ok) (hx : 0 ≤ x ∧ x ≤ w.cap) (hn : 0 ≤ n) {lead kk : Nat} (hl : lead < kk) (hk : kk ≤ 48) (e : phase w (nxs w cs n kk) = phase w (nxs w cs n lead)) (hd : ∀ i j, i < j → j < kk → phase w (nxs w cs n i) ≠ phase w (nxs w cs n j)) (hst : stays w cs x n)
    (hf : (stR w cs (x, n) (lead + (kk - lead))).1 = (stR w cs (x, n) lead).1) : FateS w cs x n lead ((List.range (kk - lead)).map (fun i => (stR w cs (x, n) (lead + i)).1)) := by
  refine ⟨hst, ⟨lead, kk, hl, hk, e, hd, rfl, Nat.le_refl _, hf, fun m hm z => ?_⟩, Nat.le_trans (by omega : lead ≤ 48) (by decide)⟩
  subst hm
  exact hd m (m + (kk - (m + 1))) (by omega) (by omega) z.2.symm
/-- settled behind so many cycles -/
theorem fate_1 (h : w.Ok) (hx : 0 ≤ x ∧ x ≤ w.cap) (hn : 0 ≤ n) {lead kk : Nat} (hl : lead < kk) (hk : kk ≤ 48) (e : phase w (nxs w cs n kk) = phase w (nxs w cs n lead)) (hd : ∀ i j, i < j → j < kk → phase w (nxs w cs n i) ≠ phase w (nxs w cs n j)) (hst : stays w cs x n)
    {t : Nat} (ht : lead ≤ t) (ht2 : t + 48 ≤ 10 ^ 11) (hne : (stR w cs (x, n) (t + (kk - lead))).1 ≠ (stR w cs (x, n) t).1) (hf : (stR w cs (x, n) (t + (kk - lead) + (kk - lead))).1 = (stR w cs (x, n) (t + (kk - lead))).1)
    {p : Nat} (hp : p ≤ kk - lead) (hpe : p < kk - lead → (stR w cs (x, n) (t + p)).1 = (stR w cs (x, n) (t + (kk - lead) + p)).1) (hpm : ∀ j, j < p → (stR w cs (x, n) (t + j)).1 ≠ (stR w cs (x, n) (t + (kk - lead) + j)).1) :
    FateS w cs x n (t + p) (((List.range (kk - lead)).map (fun i => (stR w cs (x, n) (t + (kk - lead) + i)).1)).drop p ++ ((List.range (kk - lead)).map (fun i => (stR w cs (x, n) (t + (kk - lead) + i)).1)).take p) := by
  have p0 : 0 < p := Nat.pos_of_ne_zero fun z => by
    subst z
    exact hne (hpe (by omega)).symm
  have again : (stR w cs (x, n) (t + p + (kk - lead))).1 = (stR w cs (x, n) (t + p)).1 := by
    by_cases q : p < kk - lead
    · rw [hpe q]; congr 2; omega
    · rw [show p = kk - lead by omega]; exact hf
  refine ⟨hst, ⟨lead, kk, hl, hk, e, hd, ?_, by omega, again, fun m hm z => ?_⟩, by omega⟩
  · refine List.ext_getElem? fun i => ?_
    by_cases qi : i < kk - lead
    · rw [range_map_get qi]
      by_cases q : i < kk - lead - p
      · rw [List.getElem?_append_left (by rw [List.length_drop, List.length_map, List.length_range]; exact q), List.getElem?_drop, range_map_get (by omega)]
        congr 1
        have s := (stR_same h hx hn (cs := cs) again (ph_cyc h hn hl e (by omega)) i).1
        rw [← s]
        congr 2
        omega
      · rw [List.getElem?_append_right (by rw [List.length_drop, List.length_map, List.length_range]; omega), List.length_drop, List.length_map, List.length_range, List.getElem?_take_of_lt (by omega), range_map_get (by omega)]
        congr 3
        omega
    · rw [List.getElem?_eq_none (by rw [List.length_append, List.length_drop, List.length_take, List.length_map, List.length_range]; omega), List.getElem?_eq_none (by rw [List.length_map, List.length_range]; omega)]
  · have := hpm (p - 1) (by omega)
    rw [show m = t + (p - 1) by omega] at z
    refine this ?_
    rw [← z.1]
    congr 2
    omega
end
end Vf
namespace Vf
open PySem PySem.Spec PyProof.Rows L2 RZ
/-! ## a text, its signs the other way round -/
def revS (z : Str) : Str := ⟨z.cps.toList.reverse.toArray⟩
def FRevS (Q : VK) : VK := fun x H => ∃ z : Str, x = .str z ∧ z.length ≤ sizeLine ∧ Q (.str (revS z)) H
def tRevS (te : TE) : TE := fun σ H Q => te σ H (FRevS Q)
theorem rev_pick (z : Str) : ((Builtin.Str.strSliceIndices none none (-1) z.length).filterMap (z.cps[·]?)).toArray = z.cps.toList.reverse.toArray := by
  rw [picked_rev, PySem.W.krv_range, List.filterMap_reverse]
  show ((List.range z.cps.size).filterMap (z.cps[·]?)).reverse.toArray = _
  rw [PySem.W.krv_all]
theorem pe_revS {X : Cx} {e : Expr} {te : TE} {k : Nat} {p1 p2 p3 pos : Pos} (h0 : PE X e te) : PE X (.Subscript e (.Slice none none (some (.UnaryOp .USub (.Constant (.int 1) k p1) p2)) p3) pos) (tRevS te) := by
  refine ⟨fun pins s σ H Q I h => ?_⟩
  have minus : PO X (some (.UnaryOp .USub (.Constant (.int 1) k p1) p2)) (tPart (tUn (rU fun i => .int (-i)) (tC (.int 1)))) := po_some (pe_un un_neg pe_int)
  refine Subscript_ (thn (h0.run pins s σ H _ I h) fun v s1 hh => ?_)
  obtain ⟨x, H1, I1, rx, z, ex, hz, q⟩ := hh
  subst ex
  obtain ⟨t, rfl⟩ := rx
  refine wpAny_Slice (thn (po_none.run pins s1 σ H1 (fun o H2 => o = none ∧ H2 = H1) I1 ⟨rfl, rfl⟩) fun vl s2 hl => ?_)
  obtain ⟨ol, H2, I2, pl, rfl, rfl⟩ := hl
  refine thn (po_none.run pins s2 σ H2 (fun o H3 => o = none ∧ H3 = H2) I2 ⟨rfl, rfl⟩) fun vu s3 hu => ?_
  obtain ⟨ou, H3, I3, pu, rfl, rfl⟩ := hu
  refine thn (minus.run pins s3 σ H3 (fun o H4 => o = some (-1) ∧ H4 = H3) I3 ⟨1, rfl, -1, rfl, rfl, rfl⟩) fun vs s4 hs => ?_
  obtain ⟨os, H4, I4, ps, rfl, rfl⟩ := hs
  obtain ⟨l, rfl, hl⟩ := IsPart.raw pl
  obtain ⟨u, rfl, hu⟩ := IsPart.raw pu
  obtain ⟨st, rfl, hst⟩ := IsPart.raw ps
  have J : Inv X pins σ H4 { s4 with heap := s4.heap.push { cls := .type "slice", data := .fields #[partValue l, partValue u, partValue st] } } := I4.kept (t' := s4.toks) fun b ob g => Heap.get?_push_of_some _ g
  show wpAny (model X.prog X.w) X.A (subscriptTail e (.Slice none none (some (.UnaryOp .USub (.Constant (.int 1) k p1) p2)) p3) (.str z t) (.ref s4.heap.objs.size)) (EP X pins σ Q) X.xe _
  refine tail_any (ops := [.str z t, .ref s4.heap.objs.size]) (typeIs_str _ _ _) F.slot_str_getitem.lookup ?_ (by with_unfolding_all rfl)
  refine wpAny_getItem_str_slice (l := l) (u := u) (st := st) ⟨_, Heap.get?_push_size _ rfl, rfl, rfl⟩ (by rw [hst]; rfl) ?_
  have em : sliceMade z t l u st = Made.str (revS z) := by
    unfold sliceMade slicePicked
    rw [hl, hu, hst]
    show (if ((-1 : Int) == 1 && _) = true then _ else Made.str ⟨((Builtin.Str.strSliceIndices none none (-1) z.length).filterMap (z.cps[·]?)).toArray⟩) = _
    rw [rev_pick]
    rfl
  rw [em]
  refine ⟨?_, .str _, H4, J.tok _, ⟨_, rfl⟩, q⟩
  show z.cps.toList.reverse.toArray.size ≤ sizeLine
  rw [List.size_toArray, List.length_reverse, Array.length_toList]
  exact hz
section
variable {σ : L2.St} {H : Hp} {Q : VK} {te : TE}
theorem g_revS (h : te σ H (FRevS Q)) : tRevS te σ H Q := h
theorem v_revS {z : Str} (hz : z.length ≤ sizeLine) (q : Q (.str (revS z)) H) : FRevS Q (.str z) H := ⟨z, rfl, hz, q⟩
end
theorem g_iteNT {A B : Prop} (h : B) : if (!true) = true then A else B := h
theorem g_iteNF {A B : Prop} (h : A) : if (!false) = true then A else B := h
theorem revS_size (z : Str) : (revS z).cps.size = z.cps.size := by
  show z.cps.toList.reverse.toArray.size = _
  rw [List.size_toArray, List.length_reverse, Array.length_toList]
theorem revS_list (z : Str) : (revS z).cps.toList = z.cps.toList.reverse := rfl
end Vf
namespace Vf
open PySem PySem.Spec PyProof.Rows L2 RZ
/-! ## how long the strengths' circle is; what fate tells is one thing alone -/
structure FateG (w : Wn) (cs : List Nat) (x n : Int) (r i : Nat) : Prop where
  hi : i < cs.length
  z : (stt w (stR w cs (x, n) r) (cs.take (i + 1))).1 = 0
  a : ∀ j, j ≤ i → (stt w (stR w cs (x, n) r) (cs.take j)).1 ≠ 0
  far : r ≤ 10 ^ 11
theorem FateG.gone {w : Wn} (h : w.Ok) {cs : List Nat} {x n : Int} (hx : 0 ≤ x ∧ x ≤ w.cap) (hn : 0 ≤ n) {r i : Nat} (g : FateG w cs x n r i) : (stR w cs (x, n) (r + 1)).1 = 0 := by
  have b := stR_ok h (cs := cs) hx hn r
  have b2 := stt_ok h (cs.take (i + 1)) b.1 b.2
  have e : stt w (stR w cs (x, n) r) cs = stt w (stt w (stR w cs (x, n) r) (cs.take (i + 1))) (cs.drop (i + 1)) := by
    rw [← stt_app, List.take_append_drop]
  have z := g.z
  show (stt w (stR w cs (x, n) r) cs).1 = 0
  rw [e]
  generalize stt w (stR w cs (x, n) r) (cs.take (i + 1)) = s at *
  obtain ⟨s1, s2⟩ := s
  have z : s1 = 0 := z
  subst z
  exact stt_zero h _ b2.2.1
theorem FateG.not {w : Wn} (h : w.Ok) {cs : List Nat} {x n : Int} (hx : 0 ≤ x ∧ x ≤ w.cap) (hn : 0 ≤ n) {r i : Nat} (g : FateG w cs x n r i) : ¬ stays w cs x n := fun s => by
  have a := s (r + 1)
  rw [g.gone h hx hn] at a
  exact absurd a (by decide)
theorem FateG.uniq {w : Wn} (h : w.Ok) {cs : List Nat} {x n : Int} (hx : 0 ≤ x ∧ x ≤ w.cap) (hn : 0 ≤ n) {r i r' i' : Nat} (g : FateG w cs x n r i) (g' : FateG w cs x n r' i') : r = r' ∧ i = i' := by
  have key : ∀ {r i r' i' : Nat}, FateG w cs x n r i → FateG w cs x n r' i' → ¬ r < r' := fun {r i r' i'} g g' q => by
    have z := stR_gone h hx hn (g.gone h hx hn) (r' - (r + 1))
    rw [show r + 1 + (r' - (r + 1)) = r' by omega] at z
    exact g'.a 0 (Nat.zero_le _) z
  have e : r = r' := by
    have a := key g g'
    have b := key g' g
    omega
  subst e
  refine ⟨rfl, ?_⟩
  have a : ¬ i < i' := fun q => g'.a (i + 1) q g.z
  have b : ¬ i' < i := fun q => g.a (i' + 1) q g'.z
  omega
theorem FateS.uniq {w : Wn} (h : w.Ok) {cs : List Nat} {x n : Int} (hx : 0 ≤ x ∧ x ≤ w.cap) (hn : 0 ≤ n) {r r' : Nat} {ds ds' : List Int} (g : FateS w cs x n r ds) (g' : FateS w cs x n r' ds') : r = r' ∧ ds = ds' := by
  obtain ⟨lead, kk, h1, h2, h3, h4, h5, h6, h7, h8⟩ := g.cyc
  obtain ⟨lead', kk', p1, p2, p3, p4, p5, p6, p7, p8⟩ := g'.cyc
  have ek : kk = kk' := by
    have a : ¬ kk < kk' := fun q => p4 lead kk h1 q h3.symm
    have b : ¬ kk' < kk := fun q => h4 lead' kk' p1 q p3.symm
    omega
  subst ek
  have el : lead = lead' := by
    have e : phase w (nxs w cs n lead) = phase w (nxs w cs n lead') := h3.symm.trans p3
    have a : ¬ lead < lead' := fun q => h4 lead lead' q p1 e
    have b : ¬ lead' < lead := fun q => h4 lead' lead q h1 e.symm
    omega
  subst el
  have key : ∀ {r r' : Nat}, lead ≤ r → (stR w cs (x, n) (r + (kk - lead))).1 = (stR w cs (x, n) r).1 → (∀ m, r' = m + 1 → ¬ ((stR w cs (x, n) (m + (kk - lead))).1 = (stR w cs (x, n) m).1 ∧ phase w (nxs w cs n (m + (kk - lead))) = phase w (nxs w cs n m))) → ¬ r < r' := fun {r r'} a b c q => by
    have s := stR_same h hx hn (cs := cs) b (ph_cyc h hn h1 h3 a) (r' - 1 - r)
    rw [show r + (kk - lead) + (r' - 1 - r) = r' - 1 + (kk - lead) by omega, show r + (r' - 1 - r) = r' - 1 by omega] at s
    exact c (r' - 1) (by omega) s
  have er : r = r' := by
    have a := key h6 h7 p8
    have b := key p6 p7 h8
    omega
  subst er
  exact ⟨rfl, by rw [h5, p5]⟩
theorem stR_plus {w : Wn} {cs : List Nat} {s : Int × Int} (j : Nat) : ∀ k, stR w cs s (j + k) = stR w cs (stR w cs s j) k
  | 0 => rfl
  | k + 1 => congrArg (fun s => stt w s cs) (stR_plus j k)
/-- what fate tells -/
def FateR (w : Wn) (cs : List Nat) (x n : Int) (d : D) : Prop := (∃ r i : Nat, d = .tup [.str (Str.ofString "goes"), .int (r : Nat), .int (i : Nat)] ∧ FateG w cs x n r i) ∨ (∃ (r : Nat) (ds : List Int), d = .tup [.str (Str.ofString "stays"), .int (r : Nat), .lst (ds.map D.int)] ∧ FateS w cs x n r ds)
theorem FateR.uniq {w : Wn} (h : w.Ok) {cs : List Nat} {x n : Int} (hx : 0 ≤ x ∧ x ≤ w.cap) (hn : 0 ≤ n) {d d' : D} (g : FateR w cs x n d) (g' : FateR w cs x n d') : d = d' := by
  rcases g with ⟨r, i, rfl, g⟩ | ⟨r, ds, rfl, g⟩ <;> rcases g' with ⟨r', i', rfl, g'⟩ | ⟨r', ds', rfl, g'⟩
  · obtain ⟨rfl, rfl⟩ := g.uniq h hx hn g'
    rfl
  · exact absurd g'.st (g.not h hx hn)
  · exact absurd g.st (g'.not h hx hn)
  · obtain ⟨rfl, rfl⟩ := g.uniq h hx hn g'
    rfl
theorem ints_fine : ∀ {ns : List Int}, (∀ n ∈ ns, n.natAbs < 2 ^ 200) → D.fines (ns.map D.int) = true ∧ D.wts (ns.map D.int) = ns.length ∧ D.deps (ns.map D.int) = 0
  | [], _ => ⟨rfl, rfl, rfl⟩
  | n :: ns, h => by
    obtain ⟨h1, h2, h3⟩ := ints_fine (ns := ns) fun m hm => h m (List.mem_cons_of_mem _ hm)
    have o := int_ok (h n (List.mem_cons_self ..))
    refine ⟨?_, ?_, ?_⟩
    · rw [List.map_cons, D.fines, o.fine, h1]; rfl
    · rw [List.map_cons, D.wts, h2, List.length_cons]
      simp only [D.wt]
      omega
    · rw [List.map_cons, D.deps, h3]
      simp only [D.dep]
      rfl
theorem ints_ok {ns : List Int} (h : ∀ n ∈ ns, n.natAbs < 2 ^ 200) (hl : ns.length ≤ 1000) : (D.lst (ns.map D.int)).Ok := by
  obtain ⟨h1, h2, h3⟩ := ints_fine h
  exact ⟨h1, by simp only [D.wt]; omega, by simp only [D.dep]; omega⟩
theorem FateS.len {w : Wn} {cs : List Nat} {x n : Int} {r : Nat} {ds : List Int} (g : FateS w cs x n r ds) : ds.length ≤ 48 := by
  obtain ⟨lead, kk, h1, h2, h3, h4, h5, h6, h7, h8⟩ := g.cyc
  rw [h5, List.length_map, List.length_range]
  omega
theorem FateS.bd {w : Wn} (h : w.Ok) {cs : List Nat} {x n : Int} (hx : 0 ≤ x ∧ x ≤ w.cap) (hn : 0 ≤ n) {r : Nat} {ds : List Int} (g : FateS w cs x n r ds) : ∀ y ∈ ds, 0 ≤ y ∧ y ≤ w.cap := by
  obtain ⟨lead, kk, h1, h2, h3, h4, h5, h6, h7, h8⟩ := g.cyc
  intro y m
  rw [h5] at m
  obtain ⟨i, _, rfl⟩ := List.mem_map.mp m
  exact (stR_ok h hx hn _).1
theorem FateS.listOk {w : Wn} (h : w.Ok) {cs : List Nat} {x n : Int} (hx : 0 ≤ x ∧ x ≤ w.cap) (hn : 0 ≤ n) {r : Nat} {ds : List Int} (g : FateS w cs x n r ds) : (D.lst (ds.map D.int)).Ok := by
  have c2 := h.c2
  refine ints_ok (fun y m => ?_) (by have := g.len; omega)
  have := g.bd h hx hn y m
  omega
theorem fine3 (a b c : D) : (D.tup [a, b, c]).fine = (a.fine && (b.fine && (c.fine && true))) := by simp only [D.fine, D.fines]
theorem FateR.ok {w : Wn} (h : w.Ok) {cs : List Nat} (hc : cs.length ≤ 48) {x n : Int} (hx : 0 ≤ x ∧ x ≤ w.cap) (hn : 0 ≤ n) {d : D} (g : FateR w cs x n d) : d.Ok := by
  have c2 := h.c2
  rcases g with ⟨r, i, rfl, g⟩ | ⟨r, ds, rfl, g⟩
  · have f := g.far
    have o1 := int_ok (i := ((r : Nat) : Int)) (by omega)
    have hi := g.hi
    have o2 := int_ok (i := ((i : Nat) : Int)) (by omega)
    have os : (D.str (Str.ofString "goes")).fine = true := by simp only [D.fine]; decide +kernel
    refine ⟨?_, ?_, ?_⟩
    · rw [fine3, os, o1.fine, o2.fine]; rfl
    · simp only [D.wt, D.wts]; decide
    · simp only [D.dep, D.deps]; decide
  · have f := g.far
    have o1 := int_ok (i := ((r : Nat) : Int)) (by omega)
    have o2 := g.listOk h hx hn
    have l := g.len
    obtain ⟨_, q2, q3⟩ := ints_fine (ns := ds) (fun y m => by have := g.bd h hx hn y m; omega)
    refine ⟨?_, ?_, ?_⟩
    · have os : (D.str (Str.ofString "stays")).fine = true := by simp only [D.fine]; decide +kernel
      rw [fine3, os, o1.fine, o2.fine]; rfl
    · simp only [D.wt, D.wts, q2]
      show 5 + 1 + (0 + 1 + (ds.length + 1 + 0)) ≤ 8000
      omega
    · simp only [D.dep, D.deps, q3]; decide
section
variable {K : PySem.W.Frag} {H : Hp} {Q : VK} {i : Int} {b : Bool} {z : Str}
theorem v_isiIB (q : Q (.bl false) H) : rIsiG K [.int i, .ty "bool"] H Q := d_isi (S := fun _ => False) (T := "bool") (d := .int i) z_int rfl (q := q)
theorem v_isiII (q : Q (.bl true) H) : rIsiG K [.int i, .ty "int"] H Q := d_isi (S := fun _ => False) (T := "int") (d := .int i) z_int rfl (q := q)
theorem v_isiSS (q : Q (.bl true) H) : rIsiG K [.str z, .ty "str"] H Q := d_isi (S := fun _ => False) (T := "str") (d := .str z) z_str rfl (q := q)
end
theorem eqv_step (s u : Int × Int) : PyData.eqv (stepD s).py (stepD u).py = (s.1 == u.1 && (s.2 == u.2 && true)) := by
  simp only [stepD, D.py, D.pys, PyData.eqv, PyData.eqvAll]
theorem eqv_stepF {s u : Int × Int} (h : ¬ (s.1 = u.1 ∧ s.2 = u.2)) : PyData.eqv (stepD s).py (stepD u).py = false := by
  rw [eqv_step]
  by_cases a : s.1 = u.1
  · have b : ¬ s.2 = u.2 := fun q => h ⟨a, q⟩
    simp [b]
  · simp [a]
theorem pair2_ok {s : Int × Int} (h1 : s.1.natAbs < 2 ^ 190) (h2 : s.2.natAbs < 2 ^ 190) : (stepD s).Ok := by
  have o1 := int_ok (i := s.1) (by omega)
  have o2 := int_ok (i := s.2) (by omega)
  refine ⟨?_, ?_, ?_⟩
  · simp only [stepD, D.fine, D.fines, Bool.and_eq_true] at *
    exact ⟨o1.fine, o2.fine, trivial⟩
  · simp only [stepD, D.wt, D.wts]; omega
  · simp only [stepD, D.dep, D.deps]; omega
/-- settled, at the most: the last strength -/
theorem last_of {w : Wn} (ho : w.Ok) {cs : List Nat} (hc : cs.length ≤ 48) {x n : Int} (hx : 0 ≤ x ∧ x ≤ w.cap) (hn : 0 ≤ n) {lead kk : Nat} (hlk : lead < kk) (he : phase w (nxs w cs n kk) = phase w (nxs w cs n lead)) {d : Int} (hd : 0 ≤ d ∧ d ≤ 10 ^ 30) (h1 : iter (thrL ((List.range' lead (kk - lead)).map (rdE w cs n))) d.toNat (stR w cs (x, n) lead).1 = iter (thrL ((List.range' lead (kk - lead)).map (rdE w cs n))) ((10 : Int) ^ 30).toNat (stR w cs (x, n) lead).1) (h2 : ∀ j, j < d.toNat → iter (thrL ((List.range' lead (kk - lead)).map (rdE w cs n))) (j + 1) (stR w cs (x, n) lead).1 ≠ iter (thrL ((List.range' lead (kk - lead)).map (rdE w cs n))) j (stR w cs (x, n) lead).1) (h3 : d < 10 ^ 30 → thrL ((List.range' lead (kk - lead)).map (rdE w cs n)) (iter (thrL ((List.range' lead (kk - lead)).map (rdE w cs n))) d.toNat (stR w cs (x, n) lead).1) = iter (thrL ((List.range' lead (kk - lead)).map (rdE w cs n))) d.toNat (stR w cs (x, n) lead).1) : d ≤ w.cap ∧ (0 < iter (thrL ((List.range' lead (kk - lead)).map (rdE w cs n))) ((10 : Int) ^ 30).toNat (stR w cs (x, n) lead).1 ↔ stays w cs x n) := by
  have wf : ∀ o ∈ (List.range' lead (kk - lead)).map (rdE w cs n), oWf o := fun o m => by
    obtain ⟨j, _, rfl⟩ := List.mem_map.mp m
    exact row_wf ho (nxs_ok ho (cs := cs) hn j) cs
  have b0 := stR_ok ho (cs := cs) hx hn lead
  have far := iter_far (f := thrL ((List.range' lead (kk - lead)).map (rdE w cs n))) (fun x y h => thrL_mono wf h) d.toNat h2
  have bd := cyc_iter ho hx hn hlk he d.toNat
  have b1 := stR_ok ho (cs := cs) hx hn (lead + d.toNat * (kk - lead))
  rw [bd] at far
  have c2 := ho.c2
  have dc : d ≤ w.cap := by omega
  exact ⟨dc, stays_iff ho hx hn hlk he h1 (h3 (by omega))⟩
/-! ### the period -/
def perW (w : Wn) (cs : List Nat) : Nat := if cs.count 46 = 0 ∨ (w.anew = true ∧ 97 ∈ cs) then 1 else w.tail.length / Nat.gcd w.tail.length (cs.count 46)
theorem stt_reset {w : Wn} (ha : w.anew = true) : ∀ {cs : List Nat} {x n y m : Int}, 97 ∈ cs → (stt w (x, n) cs).2 = (stt w (y, m) cs).2
  | c :: cs, x, n, y, m, h => by
    by_cases q : 97 ∈ cs
    · show (stt w (stp w (x, n) c) cs).2 = (stt w (stp w (y, m) c) cs).2
      exact stt_reset ha q
    · have e : c = 97 := by
        rcases List.mem_cons.mp h with h | h
        · exact h.symm
        · exact absurd h q
      subst e
      show (stt w (stp w (x, n) 97) cs).2 = (stt w (stp w (y, m) 97) cs).2
      have s : ∀ x n, stp w (x, n) 97 = (lifted1 w x, 0) := fun x n => by
        unfold stp
        rw [if_neg (by decide), if_neg (by decide), if_pos ha]
      rw [s, s]
      exact stt_snd cs
theorem ph_lt {w : Wn} (h : w.Ok) {a b : Int} (hab : a < b) (e : phase w a = phase w b) : (w.head.length : Int) ≤ a ∧ (b - a) % (w.tail.length : Int) = 0 := by
  have t0 := h.t0
  unfold phase at e
  have m1 := Int.emod_nonneg (b - (w.head.length : Int)) (by omega : (w.tail.length : Int) ≠ 0)
  by_cases q : a < (w.head.length : Int)
  · rw [if_pos q] at e
    split at e <;> omega
  · rw [if_neg q, if_neg (by omega)] at e
    refine ⟨by omega, ?_⟩
    have e2 : (b - (w.head.length : Int)) % (w.tail.length : Int) = (a - (w.head.length : Int)) % (w.tail.length : Int) := by omega
    have := Int.emod_eq_emod_iff_emod_sub_eq_zero.mp e2
    rw [show b - (w.head.length : Int) - (a - (w.head.length : Int)) = b - a by omega] at this
    exact this
theorem ph_same {w : Wn} {a b : Int} (ha : (w.head.length : Int) ≤ a) (hab : a ≤ b) (e : (b - a) % (w.tail.length : Int) = 0) : phase w a = phase w b := by
  unfold phase
  rw [if_neg (by omega), if_neg (by omega)]
  have : (b - (w.head.length : Int)) % (w.tail.length : Int) = (a - (w.head.length : Int)) % (w.tail.length : Int) := by
    refine Int.emod_eq_emod_iff_emod_sub_eq_zero.mpr ?_
    rw [show b - (w.head.length : Int) - (a - (w.head.length : Int)) = b - a by omega]
    exact e
  rw [this]
theorem order_of {l t p : Nat} (hl : 0 < l) (ht : 0 < t) (hp : 0 < p) (hd : l ∣ p * t) (hm : ∀ q, 0 < q → q < p → ¬ l ∣ q * t) : p = l / Nat.gcd l t := by
  have g0 : 0 < Nat.gcd l t := Nat.gcd_pos_of_pos_left _ hl
  have co := Nat.coprime_div_gcd_div_gcd g0
  have e1 : Nat.gcd l t * (l / Nat.gcd l t) = l := Nat.mul_div_cancel' (Nat.gcd_dvd_left l t)
  have e2 : Nat.gcd l t * (t / Nat.gcd l t) = t := Nat.mul_div_cancel' (Nat.gcd_dvd_right l t)
  generalize Nat.gcd l t = g at *
  generalize hu : l / g = u at *
  generalize hv : t / g = v at *
  have u0 : 0 < u := Nat.pos_of_ne_zero fun z => by
    subst z
    rw [Nat.mul_zero] at e1
    omega
  have a : ¬ u < p := fun q => hm u u0 q ⟨v, by rw [← e1, ← e2, Nat.mul_comm g u, Nat.mul_assoc, ]⟩
  have b : u ∣ p := by
    have d1 : g * u ∣ g * (p * v) := by
      rw [e1, show g * (p * v) = p * t by rw [← e2, Nat.mul_left_comm]]
      exact hd
    exact co.dvd_of_dvd_mul_right (Nat.dvd_of_mul_dvd_mul_left g0 d1)
  have c := Nat.le_of_dvd hp b
  omega
theorem per_eq {w : Wn} (h : w.Ok) {cs : List Nat} (hs : ∀ c ∈ cs, c = 46 ∨ c = 97) {n : Int} (hn : 0 ≤ n) {lead kk : Nat} (hl : lead < kk) (e : phase w (nxs w cs n kk) = phase w (nxs w cs n lead)) (hd : ∀ i j, i < j → j < kk → phase w (nxs w cs n i) ≠ phase w (nxs w cs n j)) : kk - lead = perW w cs := by
  by_cases A : w.anew = true ∧ 97 ∈ cs
  · have pw : perW w cs = 1 := by unfold perW; rw [if_pos (.inr A)]
    have c : ∀ a b, nxs w cs n (a + 1) = nxs w cs n (b + 1) := fun a b => stt_reset A.1 A.2
    rw [pw]
    have k3 : kk ≤ 2 := by
      refine Decidable.byContradiction fun q => hd 1 2 (by decide) (by omega) ?_
      rw [c 0 1]
    by_cases q : kk - lead = 1
    · exact q
    · exfalso
      have z1 : kk = 2 := by omega
      have z2 : lead = 0 := by omega
      subst z1 z2
      refine hd 0 1 (by decide) (by decide) ?_
      rw [← e, c 0 1]
  · have cnt : w.anew = false ∨ ∀ c ∈ cs, c = 46 := by
      cases q : w.anew with
      | false => exact .inl rfl
      | true =>
        refine .inr fun c m => ?_
        rcases hs c m with z | z
        · exact z
        · rw [z] at m; exact absurd ⟨q, m⟩ A
    have nk := fun k => nxs_cnt (n := n) cnt k
    by_cases T : cs.count 46 = 0
    · have pw : perW w cs = 1 := by unfold perW; rw [if_pos (.inl T)]
      have k2 : kk ≤ 1 := by
        refine Decidable.byContradiction fun q => hd 0 1 (by decide) (by omega) ?_
        rw [nk, nk, T]
        simp
      omega
    · have pw : perW w cs = w.tail.length / Nat.gcd w.tail.length (cs.count 46) := by
        unfold perW
        rw [if_neg (fun z => z.elim T A)]
      rw [pw]
      have t0 := h.t0
      generalize hT : cs.count 46 = t at *
      have up : ∀ a b : Nat, nxs w cs n (a + b) - nxs w cs n a = ((b * t : Nat) : Int) := fun a b => by
        rw [nk, nk, Int.natCast_add, Int.add_mul, Int.natCast_mul]
        omega
      have lt : nxs w cs n lead < nxs w cs n kk := by
        have := up lead (kk - lead)
        rw [show lead + (kk - lead) = kk by omega] at this
        have p : 0 < (kk - lead) * t := Nat.mul_pos (by omega) (by omega)
        omega
      have ph := ph_lt h lt e.symm
      have up1 := up lead (kk - lead)
      rw [show lead + (kk - lead) = kk by omega] at up1
      rw [up1] at ph
      refine order_of t0 (by omega) (by omega) (Int.natCast_dvd_natCast.mp (Int.dvd_of_emod_eq_zero ph.2)) fun q q0 q1 dv => ?_
      refine hd lead (lead + q) (by omega) (by omega) (ph_same ph.1 ?_ ?_)
      · have := up lead q
        omega
      · rw [up]
        exact Int.emod_eq_zero_of_dvd (Int.natCast_dvd_natCast.mpr dv)
theorem FateS.per {w : Wn} (h : w.Ok) {cs : List Nat} (hs : ∀ c ∈ cs, c = 46 ∨ c = 97) {x n : Int} (hn : 0 ≤ n) {r : Nat} {ds : List Int} (g : FateS w cs x n r ds) :
    ds = (List.range (perW w cs)).map (fun i => (stR w cs (x, n) (r + i)).1) ∧ (stR w cs (x, n) (r + perW w cs)).1 = (stR w cs (x, n) r).1 ∧ phase w (nxs w cs n (r + perW w cs)) = phase w (nxs w cs n r) ∧
    (∀ m, r = m + 1 → ¬ ((stR w cs (x, n) (m + perW w cs)).1 = (stR w cs (x, n) m).1 ∧ phase w (nxs w cs n (m + perW w cs)) = phase w (nxs w cs n m))) := by
  obtain ⟨lead, kk, h1, h2, h3, h4, h5, h6, h7, h8⟩ := g.cyc
  have e := per_eq h hs hn h1 h3 h4
  rw [← e]
  exact ⟨h5, h7, ph_cyc h hn h1 h3 h6, h8⟩
end Vf
namespace Vf
open PySem PySem.Spec PyProof.Rows L2 RZ
/-! ## refusals: own exception classes, made, raised, caught, looked at -/
/-- what the written part says of an exception class of the program -/
structure XCls (K : PySem.W.Frag) (C : Addr) : Prop where
  ob : OexC K C
  xf : XfC K C
  ic : ExcC K C
  cl : (PySem.W.clsIn K C).isSome = true
  ss : PySem.W.subIn K (.ref C) (.ref C) = some true
theorem xcls_mk {K : PySem.W.Frag} {C : Addr} {nm q : Str} {N : Addr} {bs bm : List Value} {sn : List Str} {sub : List Value} {ab : Bool} {col : Option Bool} {dd : Option Addr} {k0 k1 k2 k3 k5 : Option Value}
    (l : K.lookup C = some (excClassObj nm q C N bs bm true sn sub ab col dd k0 k1 k2 k3 k5 "ValueError.__new__")) (r : PySem.HandSPX.refsVE bm = true)
    (sa : PySem.W.findIn K (.ref C) "__setattr__" = some (some (.builtin "object.__setattr__"))) (ex : PySem.W.subIn K (.ref C) (.type "BaseException") = some true) (ty : PySem.W.typeIn K (.ref C) = some (.type "type")) (kp : PySem.W.keepIn K (.ref C) = true)
    (ga : PySem.W.findIn K (.ref C) "__getattribute__" = some (some (.builtin "BaseException.__getattribute__"))) (gg : PySem.W.findIn K (.ref C) "__getattr__" = some none) (hd : PySem.W.hasDictIn K C = true)
    (ca : PySem.W.findIn K (.ref C) "__class__" = some (some (.builtin "object.__class__"))) (hn : PySem.W.specialIn K (.builtin "object.__class__") "__get__" = some (some (.builtin "getset_descriptor.__get__"))) (ht : PySem.W.takesIn K (.builtin "object.__class__") = some true)
    (hm : PySem.W.mroIn K C (.type "object") = some true) (ss : PySem.W.subIn K (.ref C) (.ref C) = some true) : XCls K C :=
  ⟨⟨⟨nm, q, N, bs, bm, sn, sub, ab, col, dd, k0, k1, k2, k3, k5, l, r⟩, sa, ex, ty, kp⟩, ⟨ga, gg, ex, hd⟩, ⟨ga, gg, ex, hd, ca, hn, ht, hm⟩, by
    unfold PySem.W.hasDictIn at hd
    cases h : PySem.W.clsIn K C with
    | none => rw [h] at hd; cases hd
    | some c => rfl, ss⟩
theorem ve0 : PySem.HandSPX.refsVE [.type "ValueError", .type "Exception", .type "BaseException", .type "object"] = true := by decide +kernel
theorem ve1 {C : Addr} : PySem.HandSPX.refsVE [.ref C, .type "ValueError", .type "Exception", .type "BaseException", .type "object"] = true := ve0
theorem exm_own {K : PySem.W.Frag} {D T : Addr} {b : Bool} (x : XCls K T) (s : PySem.W.subIn K (.ref D) (.ref T) = some b) : PySem.W.exmOne K (.ref D) (.ref T) = some b := PySem.W.exm_ref x.xf.exC x.xf.hdC x.ob.tyC s
theorem kit_own {K : PySem.W.Frag} {D T : Addr} {b : Bool} (xD : XCls K D) (x : XCls K T) (s : PySem.W.subIn K (.ref D) (.ref T) = some b) : PySem.W.kitOne K (.ref D) (.ref T) = some b := by
  unfold PySem.W.kitOne
  by_cases e : (Value.ref D == Value.ref T) = true
  · rw [if_pos e]
    have e2 : D = T := Value.ref.inj (beq_iff_eq.mp e)
    subst e2
    rw [xD.ss] at s
    exact s
  · rw [if_neg e]
    show (if ((PySem.W.clsIn K T).isSome && PySem.W.typeIn K (.ref T) == some (.type "type")) = true then PySem.W.subIn K (.ref D) (.ref T) else none) = some b
    rw [if_pos (by rw [x.cl, x.ob.tyC]; rfl)]
    exact s
theorem kit_ve {K : PySem.W.Frag} {D : Addr} {b : Bool} (s : PySem.W.subIn K (.ref D) (.type "ValueError") = some b) : PySem.W.kitOne K (.ref D) (.type "ValueError") = some b := by
  unfold PySem.W.kitOne
  rw [if_neg (by intro e; have := beq_iff_eq.mp e; cases this)]
  show (if PySem.W.kitMeta "ValueError" = true then PySem.W.subIn K (.ref D) (.type "ValueError") else none) = some b
  rw [if_pos (by decide +kernel)]
  exact s
/-- is the exception's dict there? -/
def XD (d : Option Addr) (H : Hp) : Prop := d = none ∨ ∃ dd fs, d = some dd ∧ H dd = some (.xd fs)
/-- isinstance(e, T), isinstance(e, (T, ..)), e the exception that the suite holds -/
def rIsEX (K : PySem.W.Frag) (a : Addr) (cls : Value) (d : Option Addr) : List V → Hp → VK → Prop := fun xs H Q => ∃ (D : Addr), cls = .ref D ∧ ExcC K D ∧ XD d H ∧
  ((∃ (c : V) (u : Value) (b : Bool), xs = [.ref a, c] ∧ ClsV c u ∧ PySem.W.kitOne K (.ref D) u = some b ∧ Q (.bl b) H) ∨
    ∃ (tp : Addr) (cs : List V) (us : List Value) (b : Bool), xs = [.ref a, .ref tp] ∧ H tp = some (.tup cs) ∧ Paired ClsV cs us ∧ PySem.W.kitAny K (.ref D) us = some b ∧ Q (.bl b) H)
theorem call_isEX {X : Cx} {a : Addr} {cls : Value} {d : Option Addr} {oe : Obj} {pn : List (Addr × Obj)} (hz : Zc cls d oe) (hf : ∃ vs, oe.data = .fields vs) : CallR (X.suite a ((a, oe) :: pn)) (.builtin "isinstance") (rIsEX X.K a cls d) := by
  intro pins s σ H xs us Q I r h
  obtain ⟨D, rfl, C, hxd, h⟩ := h
  obtain ⟨hget, _⟩ := I.pin (a, oe) (List.mem_append.mpr (.inl List.mem_cons_self))
  obtain ⟨vs, hv⟩ := hf
  obtain ⟨h1, h2⟩ := hz
  have J : ∃ od, PySem.W.InstAt s.heap a oe D od := by
    rcases hxd with rfl | ⟨dd, fs, rfl, ea⟩
    · exact ⟨none, hget, h1, by unfold PySem.W.notCls; rw [hv] <;> rfl, by rw [h2]; trivial⟩
    · have hx : ObjOk X.prog X.w H s.heap dd (.xd fs) := I.hok dd _ ea
      obtain ⟨mA, hns, hr⟩ := hx
      obtain ⟨od, ho, hl⟩ := lookIn_ns hns
      exact ⟨some od, hget, h1, by unfold PySem.W.notCls; rw [hv] <;> rfl, by rw [h2]; exact ho⟩
  obtain ⟨od, J⟩ := J
  have hcl : (PySem.W.clsIn X.K D).isSome = true := by
    have hd := C.hd
    unfold PySem.W.hasDictIn at hd
    cases h : PySem.W.clsIn X.K D with
    | none => rw [h] at hd; cases hd
    | some c => rfl
  have Z := PySem.W.kitx_exc (K := X.K) (x := a) (C := D) (ox := oe) (od := od) hcl C.hg C.hk C.hs C.ha C.hn C.ht C.hm
  rcases h with ⟨c, u, b, rfl, k, e, q⟩ | ⟨tp, cs, ws, b, rfl, hT, k, e, q⟩
  · obtain ⟨u1, u2, rfl, r1, r2⟩ := vals2 r
    cases (show u1 = Value.ref a from r1)
    have e2 := k.eq r2
    subst e2
    exact PySem.W.kia_one Z I.kIn J e (fun z => nomatch z) fun tk => ⟨.bl b, H, I.kept (t' := tk) fun _ _ z => z, rfl, q⟩
  · obtain ⟨u1, u2, rfl, r1, r2⟩ := vals2 r
    cases (show u1 = Value.ref a from r1)
    cases (show u2 = Value.ref tp from r2)
    obtain ⟨_, its, rv, o, o1, o2, n, o3⟩ := (show ObjOk X.prog X.w H s.heap tp (.tup cs) from I.hok tp _ hT)
    have e3 := ClsV.all k rv
    subst e3
    obtain ⟨oc, odd, dt, sl⟩ := o
    simp only at o2 o3
    subst o2 o3
    exact PySem.W.kia_tup Z I.kIn J o1 e (fun z => nomatch z) fun tk => ⟨.bl b, H, I.kept (t' := tk) fun _ _ z => z, rfl, q⟩
/-! ### C(v), its __init__ keeping the one field -/
/-- what the __init__ of such a class promises -/
def spExI (K : PySem.W.Frag) (f : Str) : Sp := fun vs H Q _ => ∃ (a C : Addr) (v : V), vs = [.ref a, v] ∧ OexC K C ∧ PySem.W.findIn K (.ref C) f = some none ∧ H a = some (exo a C none) ∧ ∀ dx, H dx = none → dx ≠ a → Q .non (upd (upd H dx (exd dx [(f, v)])) a (exo a C (some dx)))
theorem spExI_len {K : PySem.W.Frag} {f : Str} {vs : List V} {H : Hp} {Q : VK} {E : XK} (h : spExI K f vs H Q E) : vs.length = 2 := by
  obtain ⟨a, C, v, rfl, _⟩ := h
  rfl
theorem exi_body {K : PySem.W.Frag} {f : Str} {σ : L2.St} {H : Hp} {D : Ends} {a C : Addr} {v : V} (h0 : σ[0]? = some (some (.ref a))) (h1 : σ[1]? = some (some v)) (o : OexC K C) (n : PySem.W.findIn K (.ref C) f = some none) (e : H a = some (exo a C none)) (q : ∀ dx, H dx = none → dx ≠ a → D.nx σ (upd (upd H dx (exd dx [(f, v)])) a (exo a C (some dx)))) : tOst K f (tVar 0) (tVar 1) D σ H :=
  ⟨v, h1, .ref a, h0, a, C, rfl, o, n, .inl ⟨e, q⟩⟩
theorem upd_ex {H : Hp} {a d : Addr} {o1 o2 o3 o4 : HO} (n : H a = none) (ne : d ≠ a) : upd (del (upd (upd (upd H a o1) d o2) a o3) a) d o4 = upd H d o4 := by
  funext b
  by_cases hb : b = d
  · subst hb; rw [upd_same, upd_same]
  · rw [upd_ne hb, upd_ne hb]
    by_cases ha : b = a
    · subst ha; rw [del_same, n]
    · rw [del_ne ha, upd_ne ha, upd_ne hb, upd_ne ha]
/-- the reading of C(v) -/
def FMk (C : Addr) (sp : Sp) (Q : XK) : List V → Hp → Prop := fun vs H1 => vs.length ≤ 1000 ∧ ∀ a, H1 a = none → sp (.ref a :: (vs ++ [])) (upd H1 a (exo a C none))
  (fun v H2 => v = .non ∧ ∃ (d : Addr) (fs : List (Str × V)), H2 a = some (exo a C (some d)) ∧ H2 d = some (exd d fs) ∧ H1 d = none ∧ Q (.ref C) (some d) (upd (del H2 a) d (.xd fs))) (fun _ _ _ => False)
theorem g_mkO {C : Addr} {sp : Sp} {Q : XK} {σ : L2.St} {H : Hp} {ta : TA} (h : ta σ H (FMk C sp Q)) : tMkO C sp [] ta σ H Q := h
theorem d_mkO {K : PySem.W.Frag} {f : Str} {C : Addr} {H1 : Hp} {Q : XK} {v : V} (o : OexC K C) (n : PySem.W.findIn K (.ref C) f = some none) (q : ∀ d, H1 d = none → Q (.ref C) (some d) (upd H1 d (.xd [(f, v)]))) : FMk C (spExI K f) Q [v] H1 := by
  refine ⟨by show 1 ≤ 1000; decide, fun a na => ⟨a, C, v, rfl, o, n, upd_same, fun dx nd ne => ⟨rfl, dx, [(f, v)], ?_, ?_, ?_, ?_⟩⟩⟩
  · rw [upd_same]
  · rw [upd_ne ne, upd_same]
  · rw [upd_ne ne] at nd; exact nd
  · rw [upd_ne ne] at nd
    rw [upd_ex na ne]
    exact q dx nd
/-- raise e -/
def tRaise (W : WX) (t : L2.St → Hp → XK → Prop) : TS := fun _ σ H => t σ H fun cls d H' => W cls d σ H'
theorem ps_raiseV {X : Cx} {W : WX} {e : Expr} {t : L2.St → Hp → XK → Prop} {pos : Pos} (hc : X.calm = true) (tk : Takes X W) (he : PMk X e t) : PS X (.Raise (some e) none pos) (tRaise W t) := ps_raise hc tk he
theorem g_raise {W : WX} {t : L2.St → Hp → XK → Prop} {D : Ends} {σ : L2.St} {H : Hp} (h : t σ H fun cls d H' => W cls d σ H') : tRaise W t D σ H := h
/-- what a def lets out, whatever its slots -/
abbrev wOut (E : XK) : WX := fun cls d _ H => E cls d H
/-- a wish whatever the slots -/
def wAll (n : Nat) (W : WX) : XK := fun cls d H => ∀ σ : L2.St, σ.length = n → W cls d σ H
theorem passAll {X : Cx} {W : WX} (tk : Takes X W) : Passes (L2.CX X.prog X.w) X (wAll X.N.length W) :=
  fun _ σ _ _ e s' I c => tk e s' (XE.of_call I (fun _ _ _ h => h σ I.len) c)
theorem passN {X : Cx} {W : WX} (m : Nat) (hm : X.N.length = m) (tk : Takes X W) : Passes (L2.CX X.prog X.w) X (wAll m W) := by
  subst hm
  exact passAll tk
/-- try .. except T as e -/
def tTryAs (K : PySem.W.Frag) (c : Value) (i : Nat) (tb : WX → TS) (ts : Addr → Value → Option Addr → TS) : TS := fun D σ H => tb (wAs K c i ts (fun _ _ _ _ => False) D) D σ H
theorem g_tryAs {K : PySem.W.Frag} {c : Value} {i : Nat} {tb : WX → TS} {ts : Addr → Value → Option Addr → TS} {D : Ends} {σ : L2.St} {H : Hp} (h : tb (wAs K c i ts (fun _ _ _ _ => False) D) D σ H) : tTryAs K c i tb ts D σ H := h
theorem w_as {K : PySem.W.Frag} {n i : Nat} {T C : Addr} {ts : Addr → Value → Option Addr → TS} {Wout : WX} {D : Ends} {d : Option Addr} {H : Hp} (e : PySem.W.exmOne K (.ref C) (.ref T) = some true)
    (h : ∀ (σ : L2.St) a, σ.length = n → H a = none → ts a (.ref C) d { nx := fun σ' H' => D.nx (σ'.set i none) H', rt := D.rt, bk := fun σ' H' => D.bk (σ'.set i none) H', ct := fun σ' H' => D.ct (σ'.set i none) H' } (σ.set i (some (.ref a))) H) : wAll n (wAs K (.ref T) i ts Wout D) (.ref C) d H :=
  fun σ hl => ⟨true, e, fun _ a na => h σ a hl na, fun z => nomatch z⟩
theorem get_set {σ : L2.St} {i n : Nat} {v : V} (hl : σ.length = n) (hi : i < n) : (σ.set i (some v))[i]? = some (some v) := List.getElem?_set_self (by omega)
theorem ps_tryAs {X : Cx} {x n : Str} {c : Value} {i : Nat} {body suite : List Stmt} {b₀ : Stmt} {np pos pos' : Pos} {tb : WX → TS} {ts : Addr → Value → Option Addr → TS} (hs : X.stack = X.env :: X.outer) (hf : X.env.frame = some X.env.locals) (hN : X.N.Nodup) (hi : X.N[i]? = some n) (hln : X.env.kindOf n = some .local) (hc : Names X x c)
    (hb : ∀ (W : WX) (pn : List (Addr × Obj)) (xe : Value → Shared → Prop), Takes (X.tr pn xe) W → PassesOwn (model X.prog X.w) X.A X.env xe → PSs (X.tr pn xe) body (tb W))
    (hsu : ∀ (a : Addr) (oe : Obj) (cls : Value) (d : Option Addr) (pn : List (Addr × Obj)), Zc cls d oe → (∃ vs, oe.data = .fields vs) → PSs (X.suite a ((a, oe) :: pn)) (b₀ :: suite) (ts a cls d)) :
    PS X (.Try body [.ExceptHandler (some (.Name x np)) (some n) (b₀ :: suite) pos'] [] [] pos) (tTryAs X.K c i tb ts) := ps_try_as hs hf hN hi hln hc takes0 hb hsu
/-- e.f in the suite -/
def FXf (a : Addr) (cls : Value) (d : Option Addr) (C : Addr) (f : Str) (Q : VK) : VK := fun x H1 => x = .ref a ∧ cls = .ref C ∧ ∃ (dd : Addr) (fs : List (Str × V)) (v : V), d = some dd ∧ H1 dd = some (.xd fs) ∧ fs.lookup f = some v ∧ Q v H1
theorem g_xf {a : Addr} {cls : Value} {d : Option Addr} {C : Addr} {f : Str} {te : TE} {σ : L2.St} {H : Hp} {Q : VK} (h : te σ H (FXf a cls d C f Q)) : tXf a cls d C f te σ H Q := h
theorem d_xf {a dx C : Addr} {f : Str} {v : V} {H : Hp} {Q : VK} (e : H dx = some (.xd [(f, v)])) (q : Q v H) : FXf a (.ref C) (some dx) C f Q (.ref a) H := ⟨rfl, rfl, dx, _, v, rfl, e, by simp [List.lookup], q⟩
theorem d_isX {K : PySem.W.Frag} {a dx D T : Addr} {f : Str} {v : V} {b : Bool} {H : Hp} {Q : VK} (x : XCls K D) (e : H dx = some (.xd [(f, v)])) (k : PySem.W.kitOne K (.ref D) (.ref T) = some b) (q : Q (.bl b) H) : rIsEX K a (.ref D) (some dx) [.ref a, .ref T] H Q :=
  ⟨D, rfl, x.ic, .inr ⟨dx, _, rfl, e⟩, .inl ⟨.ref T, .ref T, b, rfl, .own T, k, q⟩⟩
theorem d_isXT {K : PySem.W.Frag} {a dx D tp : Addr} {f : Str} {v : V} {b : Bool} {H : Hp} {Q : VK} {ts : List Addr} (x : XCls K D) (e : H dx = some (.xd [(f, v)])) (ht : H tp = some (.tup (ts.map V.ref))) (k : PySem.W.kitAny K (.ref D) (ts.map Value.ref) = some b) (q : Q (.bl b) H) : rIsEX K a (.ref D) (some dx) [.ref a, .ref tp] H Q := by
  refine ⟨D, rfl, x.ic, .inr ⟨dx, _, rfl, e⟩, .inr ⟨tp, _, _, b, rfl, ht, ?_, k, q⟩⟩
  clear k ht
  induction ts with
  | nil => exact .nil
  | cons t ts ih => exact .cons (.own t) ih
theorem d_isXV {K : PySem.W.Frag} {a dx D : Addr} {f : Str} {v : V} {b : Bool} {H : Hp} {Q : VK} (x : XCls K D) (e : H dx = some (.xd [(f, v)])) (k : PySem.W.kitOne K (.ref D) (.type "ValueError") = some b) (q : Q (.bl b) H) : rIsEX K a (.ref D) (some dx) [.ref a, .ty "ValueError"] H Q :=
  ⟨D, rfl, x.ic, .inr ⟨dx, _, rfl, e⟩, .inl ⟨.ty "ValueError", .type "ValueError", b, rfl, .ty _, k, q⟩⟩
theorem ka_nil {K : PySem.W.Frag} {D : Addr} : PySem.W.kitAny K (.ref D) [] = some false := rfl
theorem ka_no {K : PySem.W.Frag} {D T : Addr} {ts : List Value} {b : Bool} (h : PySem.W.kitOne K (.ref D) (.ref T) = some false) (r : PySem.W.kitAny K (.ref D) ts = some b) : PySem.W.kitAny K (.ref D) (.ref T :: ts) = some b := by
  unfold PySem.W.kitAny
  rw [h]
  exact r
/-! ### what a def that may refuse promises -/
section
variable {α : Type} (K : PySem.W.Frag) (enc : α → List D) (pre : α → Prop) (post : α → D → Prop) (bad : α → Addr → Option (Str × D) → Prop)
def spX : Sp := fun vs H Q E => ∃ S a, Okk S H ∧ DzL K S H (enc a) vs ∧ pre a ∧ (∀ v d H', Same H H' → Dz K S H' d v → post a d → Q v H') ∧ (∀ C H', Same H H' → bad a C none → E (.ref C) none H') ∧
  ∀ C dx f v d H', Same H H' → H dx = none → H' dx = some (.xd [(f, v)]) → Dz K S H' d v → bad a C (some (f, d)) → E (.ref C) (some dx) H'
end
section
variable {α : Type} {K : PySem.W.Frag} {enc : α → List D} {pre : α → Prop} {post : α → D → Prop} {bad : α → Addr → Option (Str × D) → Prop} {S M : AS} {H0 H : Hp} {G : List (V × D)} {L : List (Addr × List D)} {B : List Addr} {Q : VK} {E : XK} {vs : List V} {n : Nat}
theorem spX_len (hn : ∀ a, (enc a).length = n) (h : spX K enc pre post bad vs H Q E) : vs.length = n := by
  obtain ⟨S, a, _, hz, _⟩ := h
  rw [hz.len, hn]
theorem c_X (a : α) (st : Vf.St K S M H0 H G L B) (hz : DzL K S H (enc a) vs) (hp : pre a) (q : ∀ v d H', post a d → Vf.St K S M H0 H' ((v, d) :: G) L B → Q v H') (r1 : ∀ C H', bad a C none → Vf.St K S M H0 H' G L B → E (.ref C) none H')
    (r2 : ∀ C dx f v d H', bad a C (some (f, d)) → H dx = none → H' dx = some (.xd [(f, v)]) → Vf.St K S M H0 H' ((v, d) :: G) L B → E (.ref C) (some dx) H') : spX K enc pre post bad vs H Q E :=
  ⟨S, a, st.ok, hz, hp, fun v d H' e hv po => q v d H' po ((st.same e).add hv), fun C H' e b => r1 C H' b (st.same e), fun C dx f v d H' e n hx hv b => r2 C dx f v d H' b n hx ((st.same e).add hv)⟩
end
end Vf
namespace Vf
open PySem PySem.Spec PyProof.Rows L2 RZ
/-! ## hours, plans, the row that they make: the arithmetic alone -/
structure HoursOk (hs : List Int) : Prop where
  l1 : 1 ≤ hs.length
  l2 : hs.length ≤ 24
  bd : ∀ h ∈ hs, 0 ≤ h ∧ h ≤ 23
  up : ∀ (i : Nat) (a b : Int), hs[i]? = some a → hs[i + 1]? = some b → a < b
def hoursD (hs : List Int) : D := .tup (hs.map D.int)
structure PlansOk (ps : List (List Int)) : Prop where
  l : ps.length ≤ 8
  h : ∀ hs ∈ ps, HoursOk hs
def plansD (ps : List (List Int)) : D := .lst (ps.map hoursD)
/-- how many ask at the hour of a moment -/
def asksAt (ps : List (List Int)) (m : Int) : Nat := (ps.filter fun hs => decide (m % 24 ∈ hs)).length
def turnL (ps : List (List Int)) (m : Int) : List Nat := 46 :: List.replicate (asksAt ps m) 97
/-- the row behind a moment, of so many turns -/
def rowL (ps : List (List Int)) (b : Int) (n : Nat) : List Nat := ((List.range n).map fun j => turnL ps (b + (j : Nat) + 1)).flatten
theorem rowL_succ (ps : List (List Int)) (b : Int) (n : Nat) : rowL ps b (n + 1) = rowL ps b n ++ turnL ps (b + (n : Nat) + 1) := by
  unfold rowL
  rw [List.range_succ, List.map_append, List.flatten_append]
  simp
theorem asks_le (ps : List (List Int)) (m : Int) : asksAt ps m ≤ ps.length := List.length_filter_le ..
theorem turnL_len (ps : List (List Int)) (m : Int) : (turnL ps m).length = asksAt ps m + 1 := by
  unfold turnL
  rw [List.length_cons, List.length_replicate]
theorem rowL_len {ps : List (List Int)} (h : ps.length ≤ 8) (b : Int) : ∀ n : Nat, (rowL ps b n).length ≤ 9 * n
  | 0 => Nat.le_refl _
  | n + 1 => by
    have := rowL_len h b n
    have a := asks_le ps (b + (n : Nat) + 1)
    rw [rowL_succ, List.length_append, turnL_len]
    omega
theorem turnL_sign {ps : List (List Int)} {m : Int} : ∀ c ∈ turnL ps m, signOk c = true := fun c h => by
  rcases List.mem_cons.mp h with h | h
  · rw [h]; rfl
  · rw [(List.mem_replicate.mp h).2]; rfl
theorem rowL_sign {ps : List (List Int)} {b : Int} : ∀ n : Nat, ∀ c ∈ rowL ps b n, signOk c = true
  | 0, c, h => by simp [rowL] at h
  | n + 1, c, h => by
    rw [rowL_succ] at h
    rcases List.mem_append.mp h with h | h
    · exact rowL_sign n c h
    · exact turnL_sign c h
theorem join_lists : ∀ ls : List (List Nat), Str.join (Str.ofString "") (ls.map fun l => (⟨l.toArray⟩ : Str)) = ⟨ls.flatten.toArray⟩
  | [] => rfl
  | [l] => by
    show (⟨l.toArray⟩ : Str) = ⟨(l ++ []).toArray⟩
    rw [List.append_nil]
  | l :: d :: r => by
    have ih := join_lists (d :: r)
    show ((⟨l.toArray⟩ : Str) ++ Str.ofString "" ++ Str.join (Str.ofString "") ((d :: r).map fun c => (⟨c.toArray⟩ : Str)) : Str) = _
    rw [ih]
    show Str.mk (l.toArray ++ #[] ++ (d :: r).flatten.toArray) = _
    simp
theorem sum_lists : ∀ ls : List (List Nat), ((ls.map fun l => (⟨l.toArray⟩ : Str)).map (·.length)).sum = ls.flatten.length
  | [] => rfl
  | l :: ls => by
    rw [List.map_cons, List.map_cons, List.sum_cons, sum_lists ls, List.flatten_cons, List.length_append]
    show l.toArray.size + _ = _
    rw [List.size_toArray]
theorem fold_rep (c : Nat) : ∀ (n : Nat) (a : Array Nat), (List.replicate n (#[c] : Array Nat)).foldl (· ++ ·) a = a ++ (List.replicate n c).toArray
  | 0, a => by simp
  | n + 1, a => by
    rw [List.replicate_succ, List.foldl_cons, fold_rep c n, List.replicate_succ]
    apply Array.toList_inj.mp
    simp [Array.toList_append]
theorem str_fine {cs : List Nat} (h : ∀ c ∈ cs, signOk c = true) : (D.str ⟨cs.toArray⟩).fine = true := by
  have small : ∀ c ∈ cs, c ≤ 97 := fun c m => by
    have := h c m
    unfold signOk at this
    rw [Bool.or_eq_true, beq_iff_eq, beq_iff_eq] at this
    omega
  simp only [D.fine, Bool.and_eq_true]
  constructor
  · show (cs.toArray.all fun c => decide (c < 0x110000)) = true
    rw [List.all_toArray, List.all_eq_true]
    intro c m
    have := small c m
    exact decide_eq_true (by omega)
  · rw [List.all_eq_true]
    intro c m
    have := small c (by simpa using m)
    exact decide_eq_true (by omega)
theorem pairS_ok {z : Str} {d : D} (hz : (D.str z).fine = true) (hl : z.cps.size ≤ 100) (h : d.Ok) (hw : d.wt ≤ 7000) (hd : d.dep ≤ 50) : (D.tup [.str z, d]).Ok := by
  refine ⟨?_, ?_, ?_⟩
  · have : (D.tup [.str z, d]).fine = ((D.str z).fine && (d.fine && true)) := by simp only [D.fine, D.fines]
    rw [this, hz, h.fine]; rfl
  · simp only [D.wt, D.wts]; omega
  · simp only [D.dep, D.deps]; omega
end Vf
namespace Vf
open PySem PySem.Spec PyProof.Rows L2 RZ
/-! ## numbers written, wanes written: the arithmetic alone -/
def numS (n : Int) : Str := Str.ofString (toString n)
theorem numS_tl (n : Nat) : (numS (n : Int)).cps.toList = TL.numL n := TL.tl_num n
theorem numS_len {n : Nat} (h : n < 10 ^ 10) : (numS (n : Int)).length ≤ 10 := by
  show (numS (n : Int)).cps.size ≤ 10
  rw [← Array.length_toList, numS_tl]
  exact TL.numL_len (by decide) h
theorem numS_pos (n : Nat) : 0 < (numS (n : Int)).length := by
  show 0 < (numS (n : Int)).cps.size
  rw [← Array.length_toList, numS_tl]
  exact List.length_pos_iff.mpr (TL.numL_ne n)
theorem dec_digit : ∀ d, d < 10 → Unicode.isDecimal (48 + d) = true := by decide +kernel
theorem numS_ascii (n : Nat) : Txt.isascii (numS (n : Int)) = true := by
  unfold Txt.isascii
  rw [← Array.all_toList, numS_tl, List.all_eq_true]
  intro c m
  have := TL.numL_digits n c m
  exact decide_eq_true (by omega)
theorem numS_dec (n : Nat) : Txt.isdecimal (numS (n : Int)) = true := by
  unfold Txt.isdecimal
  rw [Bool.and_eq_true]
  refine ⟨decide_eq_true (numS_pos n), ?_⟩
  rw [← Array.all_toList, numS_tl, List.all_eq_true]
  intro c m
  have h := TL.numL_digits n c m
  have := dec_digit (c - 48) (by omega)
  rw [show 48 + (c - 48) = c by omega] at this
  exact this
theorem numL_head : ∀ n : Nat, ∃ c r, TL.numL n = c :: r ∧ (c = 48 → n = 0) := fun n => by
  induction n using Nat.strongRecOn with
  | _ n ih =>
    by_cases h : n < 10
    · exact ⟨48 + n, [], TL.numL_lt h, fun e => by omega⟩
    · obtain ⟨c, r, e, z⟩ := ih (n / 10) (by omega)
      refine ⟨c, r ++ [48 + n % 10], by rw [TL.numL_step (by omega), e]; rfl, fun q => ?_⟩
      have := z q
      omega
theorem numS_0 : numS 0 = Str.ofString "0" := by decide +kernel
theorem numS_int {n : Nat} (h : n < 10 ^ 10) : PySem.intText? (numS (n : Int)) = some (n : Int) := TL.int_num (Nat.le_trans (TL.numL_len (by decide) h) (by decide))
/-- try .. except T: -/
def tTryOnly (K : PySem.W.Frag) (c : Value) (tb : WX → TS) (ts : Addr → Value → Option Addr → TS) (Wout : WX) : TS := fun D σ H => tb (wOnly K c ts Wout D) D σ H
theorem ps_tryOnly {X : Cx} {x : Str} {c : Value} {body suite : List Stmt} {b₀ : Stmt} {np pos pos' : Pos} {tb : WX → TS} {ts : Addr → Value → Option Addr → TS} {Wout : WX} (hs : X.stack = X.env :: X.outer) (hf : X.env.frame = some X.env.locals) (hc : Names X x c) (tk : Takes X Wout)
    (hb : ∀ (W : WX) (pn : List (Addr × Obj)) (xe : Value → Shared → Prop), Takes (X.tr pn xe) W → PassesOwn (model X.prog X.w) X.A X.env xe → PSs (X.tr pn xe) body (tb W))
    (hsu : ∀ (a : Addr) (oe : Obj) (cls : Value) (d : Option Addr) (pn : List (Addr × Obj)), Zc cls d oe → (∃ vs, oe.data = .fields vs) → PSs (X.suite a ((a, oe) :: pn)) (b₀ :: suite) (ts a cls d)) :
    PS X (.Try body [.ExceptHandler (some (.Name x np)) none (b₀ :: suite) pos'] [] [] pos) (tTryOnly X.K c tb ts Wout) := ps_try_only hs hf hc tk hb hsu
theorem g_tryOnly {K : PySem.W.Frag} {c : Value} {tb : WX → TS} {ts : Addr → Value → Option Addr → TS} {Wout : WX} {D : Ends} {σ : L2.St} {H : Hp} (h : tb (wOnly K c ts Wout D) D σ H) : tTryOnly K c tb ts Wout D σ H := h
/-- f'..' by its parts -/
theorem g_joinedS {ts : List TE} {σ : L2.St} {H : Hp} {Q : VK} (h : tJs ts Str.empty σ H fun out H1 => Q (.str out) H1) : (fun (σ : L2.St) (H : Hp) (Q : VK) => tJs ts Str.empty σ H fun out H1 => Q (.str out) H1) σ H Q := h
theorem emp_app (z : Str) : Str.empty ++ z = z := by
  show Str.mk (#[] ++ z.cps) = z
  rw [Array.empty_append]
section
variable {K : PySem.W.Frag} {S : AS} {H : Hp} {Q : VK}
/-- the k-th item from the end -/
theorem d_ixEnd {a : Addr} {ds : List D} {d : D} (k : Nat) (h : Dz K S H (.lst ds) (.ref a)) (h0 : 0 < k) (h1 : k ≤ ds.length) (hd : ds[ds.length - k]? = some d) (q : ∀ v, Dz K S H d v → Q v H) : rIxG K (.ref a) (.int (-(k : Nat))) H Q := by
  obtain ⟨xs, z1, z2⟩ := z_lst h
  have hl := z2.len
  obtain ⟨v, e, hv⟩ := z2.get hd
  refine .inl ⟨a, xs, _, v, rfl, rfl, z1.sq, ?_, q v hv⟩
  unfold atI ixN
  rw [if_neg (by omega), if_pos (by omega)]
  show xs[(-((k : Nat) : Int) + (xs.length : Int)).toNat]? = some v
  rw [show (-((k : Nat) : Int) + (xs.length : Int)).toNat = ds.length - k by omega]
  exact e
/-- a sign of a text -/
theorem d_ixS {z : Str} {i c : Nat} (hz : z.length ≤ sizeLine) (hc : z.cps.toList[i]? = some c) (q : Q (.str ⟨#[c]⟩) H) : rIxG K (.str z) (.int (i : Nat)) H Q :=
  .inr (.inr ⟨z, _, c, rfl, rfl, hz, atI_nat hc, q⟩)
theorem inV_strs {y : Str} : ∀ ws : List Str, inV (.str y) (ws.map V.str) = decide (y ∈ ws)
  | [] => by simp [inV]
  | z :: ws => by
    have ih := inV_strs (y := y) ws
    unfold inV at ih ⊢
    rw [List.map_cons, List.any_cons, ih]
    by_cases h : y = z
    · subst h; simp [eqV]
    · have h' : ¬ z = y := fun e => h e.symm
      simp [eqV, h, h']
theorem flat_strs : ∀ ws : List Str, (ws.map V.str).all flatV = true
  | [] => rfl
  | z :: ws => by rw [List.map_cons, List.all_cons, flat_strs ws]; rfl
theorem d_niLS {a : Addr} {y : Str} {ws : List Str} (h : Dz K S H (.lst (ws.map D.str)) (.ref a)) (q : Q (.bl (!decide (y ∈ ws))) H) : rNiG K (.str y) (.ref a) H Q := by
  obtain ⟨xs, h1, h2⟩ := z_lst h
  have ex := DzL.strs _ h2
  subst ex
  refine .inl ⟨a, ws.map V.str, rfl, .inl h1.sq, rfl, flat_strs ws, ?_⟩
  show Q (.bl (!inV (.str y) (ws.map V.str))) H
  rw [inV_strs]
  exact q
/-- where a text stands first in a list -/
theorem d_indexS {a : Addr} {y : Str} {ws : List Str} {j : Nat} (h : Dz K S H (.lst (ws.map D.str)) (.ref a)) (hj : ws[j]? = some y) (hn : ∀ m, m < j → ws[m]? ≠ some y) (q : Q (.int (j : Nat)) H) : rIndex K (.ref a) [.str y] H Q := by
  obtain ⟨xs, h1, h2⟩ := z_lst h
  have ex := DzL.strs _ h2
  subst ex
  refine ⟨a, ws.map V.str, .str y, j, .str y, rfl, rfl, h1.sq, rfl, flat_strs ws, by rw [List.getElem?_map, hj]; rfl, by simp [eqV], fun m z' hm e => ?_, q⟩
  rw [List.getElem?_map] at e
  obtain ⟨w, hw, rfl⟩ := Option.map_eq_some_iff.mp e
  have ne : ¬ w = y := fun z => hn m hm (by rw [hw, z])
  simp [eqV, ne]
end
/-! ### a wane's text -/
def stepW (s : Int × Int) : Str := numS s.1 ++ Str.ofString "-" ++ numS s.2
def lastW (w : Wn) : List Str := [Str.ofString "cap", numS w.cap, Str.ofString "lift", numS w.lift, if w.anew = true then Str.ofString "anew" else Str.ofString "on"]
def wordsW (w : Wn) : List Str := w.head.map stepW ++ ([Str.ofString "|"] ++ (w.tail.map stepW ++ lastW w))
def textW (w : Wn) : Str := Str.join (Str.ofString " ") (wordsW w)
theorem nat_of {i : Int} (h : 0 ≤ i) : ∃ n : Nat, i = (n : Int) := ⟨i.toNat, by omega⟩
theorem stepW_tl {s : Int × Int} {a b : Nat} (h1 : s.1 = (a : Int)) (h2 : s.2 = (b : Int)) : (stepW s).cps.toList = TL.numL a ++ [45] ++ TL.numL b := by
  unfold stepW
  rw [app_list, app_list, h1, h2, numS_tl, numS_tl]
  rfl
theorem stepW_free {s : Int × Int} (h : stepOk s) {c : Nat} (hc : c < 45) : c ∉ (stepW s).cps.toList := by
  obtain ⟨h1, h2, h3, h4⟩ := h
  obtain ⟨a, ea⟩ := nat_of (show 0 ≤ s.1 by omega)
  obtain ⟨b, eb⟩ := nat_of h3
  rw [stepW_tl ea eb]
  intro m
  rcases List.mem_append.mp m with m | m
  · rcases List.mem_append.mp m with m | m
    · exact TL.numL_free (.inl (by omega)) m
    · rw [List.mem_singleton.mp m] at hc; omega
  · exact TL.numL_free (.inl (by omega)) m
theorem stepW_bar {s : Int × Int} (h : stepOk s) : stepW s ≠ Str.ofString "|" := fun e => by
  obtain ⟨h1, h2, h3, h4⟩ := h
  obtain ⟨a, ea⟩ := nat_of (show 0 ≤ s.1 by omega)
  obtain ⟨b, eb⟩ := nat_of h3
  have e1 := congrArg (fun z : Str => z.cps.toList) e
  rw [stepW_tl ea eb] at e1
  have m : (45 : Nat) ∈ (Str.ofString "|").cps.toList := by rw [← e1]; simp
  have : (Str.ofString "|").cps.toList = [124] := by decide +kernel
  rw [this] at m
  simp at m
theorem stepW_len {s : Int × Int} (h : stepOk s) : (stepW s).length ≤ 21 := by
  obtain ⟨h1, h2, h3, h4⟩ := h
  obtain ⟨a, ea⟩ := nat_of (show 0 ≤ s.1 by omega)
  obtain ⟨b, eb⟩ := nat_of h3
  show (stepW s).cps.size ≤ 21
  rw [← Array.length_toList, stepW_tl ea eb, List.length_append, List.length_append]
  have l1 := TL.numL_len (n := a) (k := 10) (by decide) (by omega)
  have l2 := TL.numL_len (n := b) (k := 10) (by decide) (by omega)
  show _ + 1 + _ ≤ 21
  omega
/-- no word has a blank -/
theorem words_free {w : Wn} (h : w.Ok) : ∀ p ∈ wordsW w, (32 : Nat) ∉ p.cps.toList := fun p m => by
  have hc := h.c1
  have hl := h.l1
  obtain ⟨c, ec⟩ := nat_of (show 0 ≤ w.cap by omega)
  obtain ⟨l, el⟩ := nat_of hl
  unfold wordsW at m
  rcases List.mem_append.mp m with m | m
  · obtain ⟨s, hs, rfl⟩ := List.mem_map.mp m
    exact stepW_free (h.hs s hs) (by decide)
  rcases List.mem_append.mp m with m | m
  · rw [List.mem_singleton.mp m]; decide +kernel
  rcases List.mem_append.mp m with m | m
  · obtain ⟨s, hs, rfl⟩ := List.mem_map.mp m
    exact stepW_free (h.ts s hs) (by decide)
  · simp only [lastW, List.mem_cons, List.not_mem_nil, or_false] at m
    rcases m with rfl | rfl | rfl | rfl | rfl
    · decide +kernel
    · rw [ec, numS_tl]; exact TL.numL_free (.inl (by decide))
    · decide +kernel
    · rw [el, numS_tl]; exact TL.numL_free (.inl (by decide))
    · split <;> decide +kernel
theorem words_ne (w : Wn) : wordsW w ≠ [] := fun e => by
  have := congrArg List.length e
  simp [wordsW] at this
theorem text_split {w : Wn} (h : w.Ok) : Txt.split (textW w) (Str.ofString " ") = wordsW w := by
  unfold textW
  rw [← TL.join_eq]
  exact TL.split_join (s := 32) (S := []) (by decide +kernel) (by decide +kernel) (words_ne w) (words_free h)
theorem step_part {s : Int × Int} (h : stepOk s) : Txt.partition (stepW s) (Str.ofString "-") = (numS s.1, Str.ofString "-", numS s.2) := by
  obtain ⟨h1, h2, h3, h4⟩ := h
  obtain ⟨a, ea⟩ := nat_of (show 0 ≤ s.1 by omega)
  refine TL.partition_app (s := 45) (S := []) (by decide +kernel) ?_
  show (45 : Nat) ∉ (numS s.1).cps.toList
  rw [ea, numS_tl]
  exact TL.numL_free (.inl (by decide))
theorem words_len {w : Wn} (h : w.Ok) : (wordsW w).length = w.head.length + w.tail.length + 6 := by
  unfold wordsW lastW
  simp
  omega
theorem words_sum {w : Wn} (h : w.Ok) : ((wordsW w).map (·.length)).sum ≤ 1200 := by
  have steps : ∀ l : List (Int × Int), (∀ s ∈ l, stepOk s) → ((l.map stepW).map (·.length)).sum ≤ 21 * l.length := fun l => by
    induction l with
    | nil => intro _; exact Nat.le_refl _
    | cons s l ih =>
      intro hs
      have a := stepW_len (hs s (List.mem_cons_self ..))
      have b := ih fun x m => hs x (List.mem_cons_of_mem _ m)
      rw [List.map_cons, List.map_cons, List.sum_cons, List.length_cons]
      omega
  have c1 := h.c1
  have c2 := h.c2
  have l1 := h.l1
  have l2 := h.l2
  obtain ⟨c, ec⟩ := nat_of (show 0 ≤ w.cap by omega)
  obtain ⟨l, el⟩ := nat_of l1
  have a := steps w.head h.hs
  have b := steps w.tail h.ts
  have hl := h.hl
  have t24 := h.t24
  have nc := numS_len (n := c) (by omega)
  have nl := numS_len (n := l) (by omega)
  rw [← ec] at nc
  rw [← el] at nl
  have la : (if w.anew = true then Str.ofString "anew" else Str.ofString "on").length ≤ 4 := by split <;> decide
  unfold wordsW lastW
  rw [List.map_append, List.sum_append, List.map_append, List.sum_append, List.map_append, List.sum_append]
  simp only [List.map_cons, List.map_nil, List.sum_cons, List.sum_nil]
  have e1 : (Str.ofString "|").length = 1 := by decide
  have e2 : (Str.ofString "cap").length = 3 := by decide
  have e3 : (Str.ofString "lift").length = 4 := by decide
  omega
theorem join_len (y : Str) : ∀ ps : List Str, (Str.join y ps).length ≤ (ps.map (·.length)).sum + y.length * ps.length
  | [] => Nat.zero_le _
  | [p] => by
    show p.length ≤ p.length + 0 + y.length * 1
    omega
  | p :: q :: r => by
    have ih := join_len y (q :: r)
    show (p ++ y ++ Str.join y (q :: r)).cps.size ≤ _
    have e : (p ++ y ++ Str.join y (q :: r)).cps.size = p.length + y.length + (Str.join y (q :: r)).length := by
      show ((p.cps ++ y.cps) ++ _).size = _
      rw [Array.size_append, Array.size_append]
      rfl
    rw [e, List.map_cons, List.sum_cons, List.length_cons (a := p), Nat.mul_succ]
    omega
theorem text_len {w : Wn} (h : w.Ok) : (textW w).length ≤ 1300 := by
  have a := join_len (Str.ofString " ") (wordsW w)
  have b := words_sum h
  have c := words_len h
  have hl := h.hl
  have t24 := h.t24
  have e1 : (Str.ofString " ").length = 1 := by decide
  unfold textW
  rw [e1, c] at a
  omega
section
variable {K : PySem.W.Frag} {S M : AS} {H0 H : Hp} {G : List (V × D)} {L : List (Addr × List D)} {B : List Addr} {Q : VK}
/-- a comprehension over a tuple, its list changed behind -/
theorem lc_TO {a : Addr} {ds : List D} {g : TG} {tt : TT} {te : TE} {ws : List Nat} {σ : L2.St} (st : Vf.St K S M H0 H G L B) (m : (V.ref a, D.tup ds) ∈ G) (P : Nat → List D → Prop) (p0 : P 0 [])
    (hs : ∀ p i d x H1 es, ¬ S p → ds[i]? = some d → i < ds.length → es.length ≤ i → P i es → Vf.St K (fun b => S b ∨ b = p) M H0 H1 ((x, d) :: G) ((p, es) :: L) B → g x (wipe σ ws) H1 fun σ2 H3 => wipe σ2 ws = wipe σ ws ∧ tt σ2 H3 fun b H4 =>
      if b = true then te σ2 H4 (LcE K S M H0 G L B p P (i + 1)) else LcP K S M H0 G L B p P (i + 1) H4)
    (hd : ∀ p H' es, ¬ S p → P ds.length es → es.length ≤ ds.length → Vf.St K (fun b => S b ∨ b = p) M H0 H' G ((p, es) :: L) B → Q (.ref p) H') : FItt K (FLc g tt te ws σ Q) (.ref a) H := by
  obtain ⟨xs, h1, _⟩ := z_tup (st.dz m)
  refine ⟨a, rfl, ⟨xs, h1.sq⟩, d_lcO (fun p => walk_Td (S := fun b => S b ∨ b = p)) st (fun p es H' s => s.dz m) P p0 (fun p i x H1 H2 es n hi hl pe s y => ?_) hd⟩
  obtain ⟨e, d, hd', hx⟩ := y
  subst e
  exact hs p i d x _ es n hd' hi hl pe (s.add hx)
/-- xs.extend(a list of data), xs the def's own -/
theorem d_extend {a b : Addr} {es ds : List D} {L' : List (Addr × List D)} {i : Nat} (st : Vf.St K S M H0 H G L B) (hl : L[i]? = some (a, es)) (h : Dz K S H (.lst ds) (.ref b)) (hL : L.set i (a, es ++ ds) = L') (hn : es.length + ds.length < 100000) (q : ∀ H', Vf.St K S M H0 H' G L' B → Q .non H') : rExtend (.ref a) [.ref b] H Q := by
  obtain ⟨_, _, xs, h3, h4⟩ := st.la (a, es) (List.mem_of_getElem? hl)
  obtain ⟨zs, z1, z2⟩ := z_lst h
  refine ⟨a, b, xs, zs, rfl, rfl, h3, z1.2, ?_, ?_⟩
  · have l4 : xs.length = es.length := h4.len
    rw [l4, z2.len, sizeLine_eq]; omega
  · subst hL
    exact q _ (st.put hl (h4.app z2))
theorem zl_strs : ∀ ys : List Str, DzL K S H (ys.map D.str) (ys.map V.str)
  | [] => zl_nil
  | y :: ys => zl_cons z_str (zl_strs ys)
/-- text.split(..) -/
theorem d_newStrs {ys : List Str} (st : Vf.St K S M H0 H G L B) (q : ∀ p H', Vf.St K S M H0 H' ((.ref p, .lst (ys.map D.str)) :: G) L B → Q (.ref p) H') : rNewStrs ys H Q := fun p n => q p _ (st.lst n (zl_strs ys))
theorem cutD_to {ds : List D} {i : Nat} (h : i ≤ ds.length) : cutD ds none (some ((i : Nat) : Int)) = ds.take i := by
  unfold cutD
  rw [HT.sIx_none, HT.sIx_nat, List.drop_zero, Nat.sub_zero, Nat.min_eq_left h]
theorem cutD_mid {ds : List D} {i k : Nat} (h0 : 0 < k) (h : i + k ≤ ds.length) : cutD ds (some ((i : Nat) : Int)) (some (-((k : Nat) : Int))) = (ds.drop i).take (ds.length - k - i) := by
  unfold cutD
  have e : HT.sIx ds.length ds.length (some (-((k : Nat) : Int))) = ds.length - k := by
    show (if -((k : Nat) : Int) < 0 then (-((k : Nat) : Int) + (ds.length : Nat)).toNat else _) = _
    rw [if_pos (by omega)]
    omega
  rw [e, HT.sIx_nat, Nat.min_eq_left (by omega)]
end
/-! ### where the words stand -/
theorem words_eq (w : Wn) : wordsW w = (w.head.map stepW ++ ([Str.ofString "|"] ++ w.tail.map stepW)) ++ lastW w := by
  unfold wordsW
  simp only [List.append_assoc]
theorem words_bar (w : Wn) : (wordsW w)[w.head.length]? = some (Str.ofString "|") := by
  unfold wordsW
  rw [List.getElem?_append_right (by rw [List.length_map]; exact Nat.le_refl _), List.length_map, Nat.sub_self]
  rfl
theorem words_nobar {w : Wn} (h : w.Ok) : ∀ m, m < w.head.length → (wordsW w)[m]? ≠ some (Str.ofString "|") := fun m hm e => by
  unfold wordsW at e
  rw [List.getElem?_append_left (by rw [List.length_map]; exact hm), List.getElem?_map] at e
  obtain ⟨s, hs, es⟩ := Option.map_eq_some_iff.mp e
  exact stepW_bar (h.hs s (List.mem_of_getElem? hs)) es
theorem words_in (w : Wn) : Str.ofString "|" ∈ wordsW w := List.mem_of_getElem? (words_bar w)
theorem words_head (w : Wn) : (wordsW w).take w.head.length = w.head.map stepW := by
  unfold wordsW
  rw [List.take_append_of_le_length (by rw [List.length_map]; exact Nat.le_refl _), List.take_of_length_le (by rw [List.length_map]; exact Nat.le_refl _)]
theorem lastW_len (w : Wn) : (lastW w).length = 5 := rfl
theorem words_tail (w : Wn) : ((wordsW w).drop (w.head.length + 1)).take ((wordsW w).length - 5 - (w.head.length + 1)) = w.tail.map stepW := by
  have e : wordsW w = (w.head.map stepW ++ [Str.ofString "|"]) ++ (w.tail.map stepW ++ lastW w) := by
    unfold wordsW
    simp only [List.append_assoc]
  have l1 : (w.head.map stepW ++ [Str.ofString "|"]).length = w.head.length + 1 := by simp
  have l2 : (wordsW w).length - 5 - (w.head.length + 1) = w.tail.length := by
    rw [e, List.length_append, l1, List.length_append, lastW_len, List.length_map]
    omega
  rw [l2, e, ← l1, List.drop_left, List.take_append_of_le_length (by rw [List.length_map]; exact Nat.le_refl _), List.take_of_length_le (by rw [List.length_map]; exact Nat.le_refl _)]
theorem words_last {w : Wn} {k : Nat} {z : Str} (h0 : 0 < k) (h5 : k ≤ 5) (hz : (lastW w)[5 - k]? = some z) : ((wordsW w).map D.str)[((wordsW w).map D.str).length - k]? = some (.str z) := by
  rw [List.getElem?_map, List.length_map, words_eq w]
  have l : (w.head.map stepW ++ ([Str.ofString "|"] ++ w.tail.map stepW) ++ lastW w).length = (w.head.map stepW ++ ([Str.ofString "|"] ++ w.tail.map stepW)).length + 5 := by rw [List.length_append, lastW_len]
  rw [l, List.getElem?_append_right (by omega), show (w.head.map stepW ++ ([Str.ofString "|"] ++ w.tail.map stepW)).length + 5 - k - (w.head.map stepW ++ ([Str.ofString "|"] ++ w.tail.map stepW)).length = 5 - k by omega, hz]
  rfl
end Vf
namespace Vf
open PySem PySem.Spec PyProof.Rows L2 RZ
/-! ## a wane's text is plain -/
theorem join_mem (y : Str) {c : Nat} : ∀ {ps : List Str}, c ∈ (Str.join y ps).cps.toList → c ∈ y.cps.toList ∨ ∃ p ∈ ps, c ∈ p.cps.toList
  | [], h => by
    have : (Str.join y []).cps.toList = [] := rfl
    rw [this] at h
    simp at h
  | [p], h => .inr ⟨p, List.mem_singleton.mpr rfl, h⟩
  | p :: q :: r, h => by
    have e : (Str.join y (p :: q :: r)).cps.toList = p.cps.toList ++ y.cps.toList ++ (Str.join y (q :: r)).cps.toList := by
      show (p ++ y ++ Str.join y (q :: r)).cps.toList = _
      rw [app_list, app_list]
    rw [e] at h
    rcases List.mem_append.mp h with h | h
    · rcases List.mem_append.mp h with h | h
      · exact .inr ⟨p, List.mem_cons_self .., h⟩
      · exact .inl h
    · rcases join_mem y h with h | ⟨x, m, h⟩
      · exact .inl h
      · exact .inr ⟨x, List.mem_cons_of_mem _ m, h⟩
/-- a text of signs below 128 -/
def plain (z : Str) : Prop := ∀ c ∈ z.cps.toList, c < 128
theorem plain_fine {z : Str} (h : plain z) : (D.str z).fine = true := by
  simp only [D.fine, Bool.and_eq_true]
  constructor
  · show (z.cps.all fun c => decide (c < 0x110000)) = true
    rw [← Array.all_toList, List.all_eq_true]
    intro c m
    have := h c m
    exact decide_eq_true (by omega)
  · rw [List.all_eq_true]
    intro c m
    have := h c m
    exact decide_eq_true (by omega)
theorem plain_num (n : Nat) : plain (numS (n : Int)) := fun c m => by
  rw [numS_tl] at m
  have := TL.numL_digits n c m
  omega
theorem plain_step {s : Int × Int} (h : stepOk s) : plain (stepW s) := fun c m => by
  obtain ⟨h1, h2, h3, h4⟩ := h
  obtain ⟨a, ea⟩ := nat_of (show 0 ≤ s.1 by omega)
  obtain ⟨b, eb⟩ := nat_of h3
  rw [stepW_tl ea eb] at m
  rcases List.mem_append.mp m with m | m
  · rcases List.mem_append.mp m with m | m
    · have := TL.numL_digits a c m; omega
    · rw [List.mem_singleton.mp m]; decide
  · have := TL.numL_digits b c m; omega
theorem plain_dec {z : Str} (h : (z.cps.toList.all fun c => decide (c < 128)) = true) : plain z := fun c m => of_decide_eq_true (List.all_eq_true.mp h c m)
theorem plain_words {w : Wn} (h : w.Ok) : ∀ p ∈ wordsW w, plain p := fun p m => by
  have hc := h.c1
  have hl := h.l1
  obtain ⟨c, ec⟩ := nat_of (show 0 ≤ w.cap by omega)
  obtain ⟨l, el⟩ := nat_of hl
  unfold wordsW at m
  rcases List.mem_append.mp m with m | m
  · obtain ⟨s, hs, rfl⟩ := List.mem_map.mp m
    exact plain_step (h.hs s hs)
  rcases List.mem_append.mp m with m | m
  · rw [List.mem_singleton.mp m]; exact plain_dec (by decide +kernel)
  rcases List.mem_append.mp m with m | m
  · obtain ⟨s, hs, rfl⟩ := List.mem_map.mp m
    exact plain_step (h.ts s hs)
  · simp only [lastW, List.mem_cons, List.not_mem_nil, or_false] at m
    rcases m with rfl | rfl | rfl | rfl | rfl
    · exact plain_dec (by decide +kernel)
    · rw [ec]; exact plain_num c
    · exact plain_dec (by decide +kernel)
    · rw [el]; exact plain_num l
    · split <;> exact plain_dec (by decide +kernel)
theorem plain_text {w : Wn} (h : w.Ok) : plain (textW w) := fun c m => by
  unfold textW at m
  rcases join_mem _ m with m | ⟨p, mp, m⟩
  · exact plain_dec (z := Str.ofString " ") (by decide +kernel) c m
  · exact plain_words h p mp c m
theorem text_ok {w : Wn} (h : w.Ok) : (D.str (textW w)).Ok := by
  have a := text_len h
  have a' : (textW w).cps.size ≤ 1300 := a
  refine ⟨plain_fine (plain_text h), ?_, ?_⟩
  · simp only [D.wt]; omega
  · simp only [D.dep]; omega
end Vf
namespace Vf
open PySem PySem.Spec PyProof.Rows L2 RZ
/-! ## zip of three lists -/
def Itz3 (K : PySem.W.Frag) (a b c : Addr) : It :=
  ⟨fun i H => ∃ (xs ys zs : List V) (x y z : V), SqL K H a xs ∧ SqL K H b ys ∧ SqL K H c zs ∧ xs[i]? = some x ∧ ys[i]? = some y ∧ zs[i]? = some z,
    fun i H v H' => ∃ T x y z, v = .ref T ∧ H T = none ∧ H' = upd H T (.tup [x, y, z]) ∧ (∀ xs, SqL K H a xs → xs[i]? = some x) ∧ (∀ ys, SqL K H b ys → ys[i]? = some y) ∧ ∀ zs, SqL K H c zs → zs[i]? = some z,
    fun i H => ∃ xs ys zs : List V, SqL K H a xs ∧ SqL K H b ys ∧ SqL K H c zs ∧ xs.length = i ∧ ys.length = i ∧ zs.length = i⟩
structure Zip3 (z TI TO i1 i2 i3 a b c : Addr) : Prop where
  S : ZipSep3 z TI TO i1 i2 i3 [i1, a] [i2, b] [i3, c]
  a1 : a ≠ i1
  b2 : b ≠ i2
  c3 : c ≠ i3
theorem turn_zip3 {P : Program} {w : World} {K : PySem.W.Frag} {elts : List Expr} {kk : Nat} {tpos : Pos} {a b c z TI TO i1 i2 i3 : Addr} (D : Zip3 z TI TO i1 i2 i3 a b c) :
    Turn P w K (.Tuple elts kk tpos) (Itz3 K a b c) [z, TI, TO, i1, i2, i3] z (fun i h => IsZip h z TI TO .none ∧ IsTupOf3 h TI (.ref i1) (.ref i2) (.ref i3) ∧ (∃ x y u, IsTupOf3 h TO x y u) ∧ h.IsListIter i1 a i ∧ h.IsListIter i2 b i ∧ h.IsListIter i3 c i) where
  mem := by simp
  obj := fun i h st c hc => by
    obtain ⟨hz, hTI, ⟨x, y, u, hTO⟩, ⟨o1, e1, _, d1⟩, ⟨o2, e2, _, d2⟩, ⟨o3, e3, _, d3⟩⟩ := st
    have e' : c = z ∨ c = TI ∨ c = TO ∨ c = i1 ∨ c = i2 ∨ c = i3 := by simpa using hc
    rcases e' with q | q | q | q | q | q
    · rw [q]; exact ⟨_, hz, fun v q => nomatch q⟩
    · rw [q]; exact ⟨_, hTI, fun v q => nomatch q⟩
    · rw [q]; exact ⟨_, hTO, fun v q => nomatch q⟩
    · rw [q]; exact ⟨o1, e1, fun v q => by rw [d1] at q; cases q⟩
    · rw [q]; exact ⟨o2, e2, fun v q => by rw [d2] at q; cases q⟩
    · rw [q]; exact ⟨o3, e3, fun v q => by rw [d3] at q; cases q⟩
  keep := fun i h h' st k => by
    obtain ⟨hz, hTI, ⟨x, y, u, hTO⟩, h1, h2, h3⟩ := st
    exact ⟨k z (by simp) _ hz, k TI (by simp) _ hTI, ⟨x, y, u, k TO (by simp) _ hTO⟩, h1.at fun o q => k i1 (by simp) o q, h2.at fun o q => k i2 (by simp) o q, h3.at fun o q => k i3 (by simp) o q⟩
  item := by
    intro X hP hw hK hc i pins s σ H E I hf st hg
    subst hP hw hK
    obtain ⟨hz, hTI, ⟨x0, y0, u0, hTO⟩, h1, h2, h3⟩ := st
    obtain ⟨xs, ys, zs, x, y, u, hqx, hqy, hqz, hx, hy, hu⟩ := hg
    obtain ⟨its, rv, p, _⟩ := I.list hqx
    obtain ⟨its2, rv2, p2, _⟩ := I.list hqy
    obtain ⟨its3, rv3, p3, _⟩ := I.list hqz
    obtain ⟨v1, hv1, rv1'⟩ := rv.get hx
    obtain ⟨v2, hv2, rv2'⟩ := rv2.get hy
    obtain ⟨v3, hv3, rv3'⟩ := rv3.get hu
    have hzl : z < s.heap.objs.size := Heap.lt_size hz
    have hh : X.A.in1.handled = none := I.ok.hd hc
    have b1 : i < its.toArray.size := by have := (List.getElem?_eq_some_iff.mp hv1).1; simpa using this
    have b2 : i < its2.toArray.size := by have := (List.getElem?_eq_some_iff.mp hv2).1; simpa using this
    have b3 : i < its3.toArray.size := by have := (List.getElem?_eq_some_iff.mp hv3).1; simpa using this
    refine wpAny_pyNext_zipD3_item D.S (Draws.list hh i1 a D.a1 its.toArray) (Draws.list hh i2 b D.b2 its2.toArray) (Draws.list hh i3 c D.c3 its3.toArray) hz hTI hTO ⟨h1, p.isList⟩ ⟨h2, p2.isList⟩ ⟨h3, p3.isList⟩ b1 b2 b3 fun w1 w2 w3 h' tk q1 q2 q3 z' TO' s1 s2 s3 hT hsz hk => ?_
    have q1 : w1 = v1 := by
      have q1 : its.toArray[i]? = some w1 := q1
      rw [List.getElem?_toArray, hv1] at q1
      exact (Option.some.inj q1).symm
    have q2 : w2 = v2 := by
      have q2 : its2.toArray[i]? = some w2 := q2
      rw [List.getElem?_toArray, hv2] at q2
      exact (Option.some.inj q2).symm
    have q3 : w3 = v3 := by
      have q3 : its3.toArray[i]? = some w3 := q3
      rw [List.getElem?_toArray, hv3] at q3
      exact (Option.some.inj q3).symm
    subst q1 q2 q3
    refine ⟨_, rfl, wpAny_letOwnedTupleGo_zip (s := { s with heap := h', toks := tk }) z' fun h'' z'' sb => ?_⟩
    have hT2 : h''.get? s.heap.objs.size = some { cls := .type "tuple", data := .seq #[w1, w2, w3] } := (sb.2 _ (Nat.ne_of_gt hzl)).trans hT
    have new : ObjOk X.prog X.w (upd H s.heap.objs.size (.tup [x, y, u])) h'' s.heap.objs.size (.tup [x, y, u]) :=
      ⟨by show 3 ≤ sizeLine; decide, [w1, w2, w3], .cons rv1' (.cons rv2' (.cons rv3' .nil)), ⟨_, hT2, rfl, _, rfl⟩⟩
    have I1 : Inv X pins σ (upd H s.heap.objs.size (.tup [x, y, u])) { s with heap := h'', toks := tk } :=
      I.turnedNew (t' := tk) (ch := [z, TI, TO, i1, i2, i3]) (fun c o hb q => (sb.2 c (fun q' => hb (by simp [q']))).trans (hk c o (fun q' => hb (by simp [q'])) (fun q' => hb (by simp [q'])) (fun q' => hb (by simp [q'])) (fun q' => hb (by simp [q'])) (fun q' => hb (by simp [q'])) q)) hf (Nat.le_refl _) new
    refine ⟨.ref s.heap.objs.size, _, I1, rfl, ⟨_, x, y, u, rfl, I.hok.fresh (Nat.le_refl _), rfl, fun l hl => by rw [I.list_inj hl hqx]; exact hx, fun l hl => by rw [I.list_inj hl hqy]; exact hy, fun l hl => by rw [I.list_inj hl hqz]; exact hu⟩, ⟨z'', ?_, ⟨w1, w2, w3, ?_⟩, ?_, ?_, ?_⟩, fun c hcm => ?_⟩
    · exact (sb.2 _ D.S.TIz).trans (hk _ _ D.S.TIz D.S.TITO D.S.TIi1 D.S.TIi2 D.S.TIi3 hTI)
    · exact (sb.2 _ D.S.TOz).trans TO'
    · exact s1.1.at fun o q => (sb.2 _ (fun e => D.S.zi1 e.symm)).trans q
    · exact s2.1.at fun o q => (sb.2 _ (fun e => D.S.zi2 e.symm)).trans q
    · exact s3.1.at fun o q => (sb.2 _ (fun e => D.S.zi3 e.symm)).trans q
    · have hlt : c < s.heap.objs.size := by
        have e' : c = z ∨ c = TI ∨ c = TO ∨ c = i1 ∨ c = i2 ∨ c = i3 := by simpa using hcm
        rcases e' with q | q | q | q | q | q
        · rw [q]; exact hzl
        · rw [q]; exact Heap.lt_size hTI
        · rw [q]; exact Heap.lt_size hTO
        · rw [q]; obtain ⟨_, e1, _⟩ := h1; exact Heap.lt_size e1
        · rw [q]; obtain ⟨_, e2, _⟩ := h2; exact Heap.lt_size e2
        · rw [q]; obtain ⟨_, e3, _⟩ := h3; exact Heap.lt_size e3
      rw [upd_ne (Nat.ne_of_lt hlt)]
      exact (hf c hcm).1
  done := by
    intro X hP hw hK hc i pins s σ H E I hf st hg
    subst hP hw hK
    obtain ⟨hz, hTI, ⟨x0, y0, u0, hTO⟩, h1, h2, h3⟩ := st
    obtain ⟨xs, ys, zs, hqx, hqy, hqz, l1, l2, l3⟩ := hg
    obtain ⟨its, rv, p, _⟩ := I.list hqx
    obtain ⟨its2, rv2, p2, _⟩ := I.list hqy
    obtain ⟨its3, rv3, p3, _⟩ := I.list hqz
    have m1 := rv.length
    have m2 := rv2.length
    have m3 := rv3.length
    have hh : X.A.in1.handled = none := I.ok.hd hc
    refine wpAny_pyNext_zipD3_end D.S (Draws.list hh i1 a D.a1 its.toArray) (Draws.list hh i2 b D.b2 its2.toArray) (Draws.list hh i3 c D.c3 its3.toArray) hz hTI hTO ⟨h1, p.isList⟩ ⟨h2, p2.isList⟩ ⟨h3, p3.isList⟩ (by simp; omega) (by simp; omega) (by simp; omega) (.inl (by simp; omega)) fun h' tk hk => ⟨rfl, I.turnedL (t' := tk) (ch := [z, TI, TO, i1, i2, i3]) (fun c o hb q =>
      hk c o (fun q' => hb (by simp [q'])) (fun q' => hb (by simp [q'])) (fun q' => hb (by simp [q'])) (fun q' => hb (by simp [q'])) (fun q' => hb (by simp [q'])) q) hf⟩
  self := fun A i s Q E st h => wpAny_pyIter_zip st.1 h
theorem zip3_new (n a b c : Nat) (ha : a < n) (hb : b < n) (hc : c < n) : Zip3 (n + 5) (n + 3) (n + 4) n (n + 1) (n + 2) a b c := by
  refine ⟨⟨?_, ?_, ?_, ?_, ?_, ?_, ?_, ?_, ?_, ?_, ?_, ?_, ?_, ?_, ?_, ?_, ?_, ?_, ?_, ?_, ?_⟩, ?_, ?_, ?_⟩
  all_goals first
    | exact List.Mem.head _
    | (intro m; have m : @Eq Nat _ _ := m; omega)
    | (intro m; rcases List.mem_cons.mp m with m | m; (have m : @Eq Nat _ _ := m; omega); have m : @Eq Nat _ _ := List.mem_singleton.mp m; omega)
def FZip3 (K : PySem.W.Frag) (R : It → Hp → Prop) : List V → Hp → Prop := fun vs H1 => ∃ a b c xs ys zs, vs = [.ref a, .ref b, .ref c] ∧ SqL K H1 a xs ∧ SqL K H1 b ys ∧ SqL K H1 c zs ∧ R (Itz3 K a b c) H1
def iZip3 (K : PySem.W.Frag) (ta : TA) : TI := fun σ H R => ta σ H (FZip3 K R)
theorem pi_zip3 {X : Cx} {e e2 e3 : Expr} {ta : TA} {p pos tpos : Pos} {elts : List Expr} {kk : Nat} (hg : Gl X "zip") (hm : X.mg "zip" = none) (ha : PA X [e, e2, e3] ta)
    (hs : starEach [e, e2, e3] X.env = (false, eval e X.env) :: starEach [e2, e3] X.env := by rfl) (hpl : (backTo pos (starEach [e2, e3] X.env)).any (·.1) = false := by rfl) :
    PI X (.Tuple elts kk tpos) (.Call (.Name "zip" p) [e, e2, e3] [] pos) (iZip3 X.K ta) := by
  refine ⟨fun pins s σ H R I h => ?_⟩
  refine Call_ (ld_blt I hg hm PyProof.Rows.boot_zip (PyProof.Rows.callWith_type1 (thn (ha.run pos pins s σ H _ I h) fun us s1 ⟨vs, H1, I1, r1, q1⟩ => ?_) hs hpl))
  obtain ⟨a, b, c, xs, ys, zs, ex, hqx, hqy, hqz, q⟩ := q1
  subst ex
  cases r1 with
  | cons r rr =>
    cases rr with
    | cons r' rr =>
      cases rr with
      | cons r'' rr =>
        cases rr
        cases r
        cases r'
        cases r''
        obtain ⟨its, rv, p1, _⟩ := I1.list hqx
        obtain ⟨its2, rv2, p2, _⟩ := I1.list hqy
        obtain ⟨its3, rv3, p3, _⟩ := I1.list hqz
        have la : a < s1.heap.objs.size := p1.lt
        have lb : b < s1.heap.objs.size := p2.lt
        have lc : c < s1.heap.objs.size := p3.lt
        refine zip_begins3 (begins_list a its.toArray) (begins_list b its2.toArray) (begins_list c its3.toArray) p1.isList p2.isList p3.isList fun h' hz hTI hTO h1 h2 h3 hsz hk => wpAny_pyIter_zip hz ?_
        have I2 : Inv X pins σ H1 { s1 with heap := h' } := I1.kept (t' := s1.toks) hk
        refine ⟨s1.heap.objs.size + 5, [s1.heap.objs.size + 5, s1.heap.objs.size + 3, s1.heap.objs.size + 4, s1.heap.objs.size, s1.heap.objs.size + 1, s1.heap.objs.size + 2], _, _, H1, rfl, I2, turn_zip3 (zip3_new s1.heap.objs.size a b c la lb lc), ⟨hz, hTI, ⟨_, _, _, hTO⟩, ⟨_, h1, rfl, rfl⟩, ⟨_, h2, rfl, rfl⟩, ⟨_, h3, rfl, rfl⟩⟩, fun d hdm => ?_, q⟩
        have e' : d = s1.heap.objs.size + 5 ∨ d = s1.heap.objs.size + 3 ∨ d = s1.heap.objs.size + 4 ∨ d = s1.heap.objs.size ∨ d = s1.heap.objs.size + 1 ∨ d = s1.heap.objs.size + 2 := by simpa using hdm
        have hle : s1.heap.objs.size ≤ d := by
          rcases e' with z | z | z | z | z | z
          · rw [z]; exact Nat.le_add_right _ _
          · rw [z]; exact Nat.le_add_right _ _
          · rw [z]; exact Nat.le_add_right _ _
          · rw [z]; exact Nat.le_refl _
          · rw [z]; exact Nat.le_add_right _ _
          · rw [z]; exact Nat.le_add_right _ _
        exact I1.fpOk hle (I1.hok.fresh hle)
theorem i_zip3 {K : PySem.W.Frag} {H : Hp} {σ : L2.St} {ta : TA} {R : It → Hp → Prop} (h : ta σ H (FZip3 K R)) : iZip3 K ta σ H R := h
def YZ3 (K : PySem.W.Frag) (S : AS) (ds es fs : List D) : Nat → Hp → V → Hp → Prop := fun i H v H' => ∃ T x y z d e f, v = .ref T ∧ H T = none ∧ H' = upd H T (.tup [x, y, z]) ∧ (ds[i]? = some d ∧ es[i]? = some e ∧ fs[i]? = some f) ∧ Dz K S H d x ∧ Dz K S H e y ∧ Dz K S H f z
theorem walk_Z3 {K : PySem.W.Frag} {S : AS} {a b c : Addr} {ds es fs : List D} {n : Nat} (h1 : ds.length = n) (h2 : es.length = n) (h3 : fs.length = n) : Walk (Itz3 K a b c) n (fun H => Dz K S H (.lst ds) (.ref a) ∧ Dz K S H (.lst es) (.ref b) ∧ Dz K S H (.lst fs) (.ref c)) (YZ3 K S ds es fs) := by
  refine ⟨fun i H hi h => ?_, fun H h => ?_, fun i H v H' hi h y => ?_⟩
  · obtain ⟨xs, q1, q2⟩ := z_lst h.1
    obtain ⟨ys, q3, q4⟩ := z_lst h.2.1
    obtain ⟨zs, q5, q6⟩ := z_lst h.2.2
    obtain ⟨v, e, _⟩ := q2.get (d := ds[i]'(by omega)) (List.getElem?_eq_getElem (by omega))
    obtain ⟨w, e', _⟩ := q4.get (d := es[i]'(by omega)) (List.getElem?_eq_getElem (by omega))
    obtain ⟨u, e'', _⟩ := q6.get (d := fs[i]'(by omega)) (List.getElem?_eq_getElem (by omega))
    exact ⟨xs, ys, zs, v, w, u, q1.sq, q3.sq, q5.sq, e, e', e''⟩
  · obtain ⟨xs, q1, q2⟩ := z_lst h.1
    obtain ⟨ys, q3, q4⟩ := z_lst h.2.1
    obtain ⟨zs, q5, q6⟩ := z_lst h.2.2
    exact ⟨xs, ys, zs, q1.sq, q3.sq, q5.sq, by rw [q2.len]; exact h1, by rw [q4.len]; exact h2, by rw [q6.len]; exact h3⟩
  · obtain ⟨xs, q1, q2⟩ := z_lst h.1
    obtain ⟨ys, q3, q4⟩ := z_lst h.2.1
    obtain ⟨zs, q5, q6⟩ := z_lst h.2.2
    obtain ⟨v', e, hv⟩ := q2.get (d := ds[i]'(by omega)) (List.getElem?_eq_getElem (by omega))
    obtain ⟨w, e', hw⟩ := q4.get (d := es[i]'(by omega)) (List.getElem?_eq_getElem (by omega))
    obtain ⟨u, e'', hu⟩ := q6.get (d := fs[i]'(by omega)) (List.getElem?_eq_getElem (by omega))
    obtain ⟨T, x, y, z, rfl, nT, rfl, y1, y2, y3⟩ := y
    have y1 := y1 _ q1.sq
    have y2 := y2 _ q3.sq
    have y3 := y3 _ q5.sq
    rw [e] at y1
    rw [e'] at y2
    rw [e''] at y3
    cases y1
    cases y2
    cases y3
    exact ⟨T, _, _, _, _, _, _, rfl, nT, rfl, ⟨List.getElem?_eq_getElem (by omega), List.getElem?_eq_getElem (by omega), List.getElem?_eq_getElem (by omega)⟩, hv, hw, hu⟩
/-- for x, y, z in zip(three lists of one length) -/
theorem for_Z3 {K : PySem.W.Frag} {S : AS} {H : Hp} {a b c : Addr} {ds es fs : List D} {g : TG} {tb : TS} {E : Ends} {σ : L2.St} {n : Nat} (h1 : ds.length = n) (h2 : es.length = n) (h3 : fs.length = n) (Pv : Nat → L2.St → Hp → Prop) (hG : ∀ i σ H, Pv i σ H → Dz K S H (.lst ds) (.ref a) ∧ Dz K S H (.lst es) (.ref b) ∧ Dz K S H (.lst fs) (.ref c)) (h0 : Pv 0 σ H)
    (hs : ∀ i d e f x y z T σ H, ds[i]? = some d → es[i]? = some e → fs[i]? = some f → Dz K S H d x → Dz K S H e y → Dz K S H f z → Pv i σ H → H T = none → g (.ref T) σ (upd H T (.tup [x, y, z])) fun σ2 H2 => tb { E with nx := Pv (i + 1), ct := Pv (i + 1), bk := E.nx } σ2 H2) (hd : ∀ σ H, Pv n σ H → E.nx σ H) : FZip3 K (FFor g tb E σ) [.ref a, .ref b, .ref c] H := by
  obtain ⟨g1, g2, g3⟩ := hG _ _ _ h0
  obtain ⟨xs, q1, _⟩ := z_lst g1
  obtain ⟨ys, q2, _⟩ := z_lst g2
  obtain ⟨zs, q3, _⟩ := z_lst g3
  refine ⟨a, b, c, xs, ys, zs, rfl, q1.sq, q2.sq, q3.sq, for_it (walk_Z3 (S := S) h1 h2 h3) Pv h0 (fun i σ H _ p => hG i σ H p) (fun i x σ H H' hi p y => ?_) hd⟩
  obtain ⟨T, x', y', z', d, e, f, r1, nT, r2, ⟨k1, k2, k3⟩, d1, d2, d3⟩ := y
  subst r1 r2
  exact hs i d e f x' y' z' T σ H k1 k2 k3 d1 d2 d3 p nT
end Vf
namespace Vf
open PySem PySem.Spec PyProof.Rows L2 RZ
/-! ## more strength, more asking: no less -/
theorem row_mono {w : Wn} (h : w.Ok) {cs : List Nat} {x y n : Int} (h0 : 0 ≤ x) (h1 : x ≤ y) (h2 : y ≤ w.cap) (hn : 0 ≤ n) : (stt w (x, n) cs).1 ≤ (stt w (y, n) cs).1 := stR_mono h (cs := cs) h0 h1 h2 hn 1
theorem ask_step {w : Wn} (h : w.Ok) {x n : Int} (h0 : 0 ≤ x) (h1 : x ≤ w.cap) : x ≤ (stt w (x, n) [97]).1 ∧ (stt w (x, n) [97]).1 ≤ w.cap ∧ (x = 0 ↔ (stt w (x, n) [97]).1 = 0) := by
  have c1 := h.c1
  have l1 := h.l1
  have e : (stt w (x, n) [97]).1 = lifted1 w x := rfl
  rw [e]
  unfold lifted1
  refine ⟨?_, ?_, ?_⟩
  all_goals (split <;> try split) <;> omega
theorem turn_step {w : Wn} (h : w.Ok) {x n : Int} (h0 : 0 ≤ x) (h1 : x ≤ w.cap) (hn : 0 ≤ n) : 0 ≤ (stt w (x, n) [46]).1 ∧ (stt w (x, n) [46]).1 ≤ x := by
  have e : (stt w (x, n) [46]).1 = waned1 w x n := rfl
  obtain ⟨s1, s2, s3, s4⟩ := stepAt_ok h hn
  have e1 : x / (stepAt w n).1 ≤ x := Int.ediv_le_self _ h0
  rw [e]
  unfold waned1
  split <;> omega
section
variable {w : Wn} (h : w.Ok) {cs : List Nat} {n : Int} (hn : 0 ≤ n)
include h hn
theorem three {x : Int} (h0 : 0 ≤ x) (h1 : x ≤ w.cap) : 0 ≤ (stt w (x, n) (cs ++ [46])).1 ∧ (stt w (x, n) (cs ++ [46])).1 ≤ (stt w (x, n) cs).1 ∧ (stt w (x, n) cs).1 ≤ (stt w (x, n) (cs ++ [97])).1 ∧ (stt w (x, n) (cs ++ [97])).1 ≤ w.cap ∧ ((stt w (x, n) cs).1 = 0 ↔ (stt w (x, n) (cs ++ [97])).1 = 0) := by
  have b := stt_ok h cs (s := (x, n)) ⟨h0, h1⟩ hn
  rw [stt_app, stt_app]
  generalize stt w (x, n) cs = s at b ⊢
  obtain ⟨y, m⟩ := s
  have a := ask_step h (n := m) b.1.1 b.1.2
  have t := turn_step h b.1.1 b.1.2 b.2.1
  exact ⟨t.1, t.2, a.1, a.2.1, a.2.2⟩
theorem gone_more (ds : List Nat) (e : rowE w n cs = none) : rowE w n (cs ++ ds) = none := by
  rw [row_app h hn, e]
  rfl
theorem ask_least {e : Ef} (he : rowE w n cs = some e) : ∃ a, rowE w n (cs ++ [97]) = some a ∧ a.least = e.least := by
  have c1 := h.c1
  obtain ⟨p1, p2, p3, p4, p5⟩ := row_least h hn he
  have t := row_top h hn he
  cases ha : rowE w n (cs ++ [97]) with
  | none =>
    have z := row_none h hn ha
    have q := (three h hn (cs := cs) (x := w.cap) (by omega) (Int.le_refl _)).2.2.2.2.mpr z
    omega
  | some a =>
    refine ⟨a, rfl, ?_⟩
    obtain ⟨q1, q2, q3, q4, q5⟩ := row_least h hn ha
    rcases Int.lt_trichotomy a.least e.least with lt | eq | gt
    · have z := (three h hn (cs := cs) (x := a.least) (by omega) q2).2.2.2.2
      have m := row_mono h (cs := cs) (x := a.least) (y := e.least - 1) (by omega) (by omega) (by omega) hn
      have b := (stt_ok h cs (s := (a.least, n)) ⟨by show 0 ≤ a.least; omega, q2⟩ hn).1.1
      exact absurd (z.mp (by omega)) q4
    · exact eq
    · have z := (three h hn (cs := cs) (x := a.least - 1) (by omega) (by omega)).2.2.2.2
      have m := row_mono h (cs := cs) (x := e.least) (y := a.least - 1) (by omega) (by omega) (by omega) hn
      have b := (stt_ok h cs (s := (e.least, n)) ⟨by show 0 ≤ e.least; omega, p2⟩ hn).1.1
      have y := z.mpr q5
      exact absurd (by omega) p4
theorem turn_least {e a : Ef} (he : rowE w n cs = some e) (ha : rowE w n (cs ++ [46]) = some a) : e.least ≤ a.least := by
  obtain ⟨p1, p2, p3, p4, p5⟩ := row_least h hn he
  obtain ⟨q1, q2, q3, q4, q5⟩ := row_least h hn ha
  rcases Int.lt_or_le a.least e.least with lt | le
  · have z := three h hn (cs := cs) (x := a.least) (by omega) q2
    have m := row_mono h (cs := cs) (x := a.least) (y := e.least - 1) (by omega) (by omega) (by omega) hn
    exact absurd (by omega) q4
  · exact le
end
end Vf
namespace Vf
open PySem PySem.Spec PyProof.Rows L2 RZ
/-! ## d.setdefault(k, v), the keys tuples of numbers and texts -/
def rSetdT : V → List V → Hp → VK → Prop := fun x xs H Q => ∃ (a : Addr) (kvs : List (List L2.Key × V)) (k : List L2.Key) (b : Addr) (d : V), x = .ref a ∧ xs = [.ref b, d] ∧ H a = some (.dT kvs) ∧ H b = some (.tup (k.map kV)) ∧ kvs.length < sizeLine ∧
  (∀ v, valV kvs k = some v → Q v H) ∧ (valV kvs k = none → Q d (upd H a (.dT (putK kvs k d))))
theorem mt_setdT {X : Cx} (hu : X.A.units + 1 < cLine) : MtR X "dict.setdefault" rSetdT := by
  intro pins s σ H x xs v us Q I rx rxs h
  obtain ⟨a, kvs, k, b, d, rfl, rfl, ha, hb, hl, q1, q2⟩ := h
  cases rx
  obtain ⟨u1, u2, rfl, r1, r2⟩ := vals2 rxs
  cases r1
  obtain ⟨z, hd, xs', rel, dd⟩ := dt_of I.hok ha
  have hz : xs'.length ≤ sizeLine := by rw [← Paired.length rel]; exact z
  refine call_setdefault_heap (hsz := hz) (knd := tupleKind (mixKind X.prog X.w)) (k := k) (tupleKind_room_in1 hu) (key_of I.hok hb) hd dd (fun p hp => ?_) fun hn h' dd' hs => ?_
  · have r := rel.val k
    rw [hp] at r
    obtain ⟨v0, ev, rv⟩ : ∃ v0, valV kvs k = some v0 ∧ RelV v0 p.2 := by
      cases ev : valV kvs k with
      | none =>
        rw [ev] at r
        exact (show False from r).elim
      | some v0 =>
        rw [ev] at r
        exact ⟨v0, rfl, r⟩
    show EP X pins σ Q p.2 _
    exact ⟨v0, H, I.tok _, rv, q1 v0 ev⟩
  · have r := rel.val k
    rw [hn] at r
    have e : valV kvs k = none := by
      cases ev : valV kvs k with
      | none => rfl
      | some v0 =>
        rw [ev] at r
        exact (show False from r).elim
    obtain ⟨o, es, ep, hq, h2, h3, h4, _, h5⟩ := dd'
    have hl2 : (putK kvs k d).length ≤ sizeLine := by
      have := length_putK kvs k d
      omega
    have I2 : Inv X pins σ (upd H a (.dT (putK kvs k d))) { s with heap := h', toks := s.toks + (tupleKind (mixKind X.prog X.w)).draws k } :=
      d_write I (by rw [ha]; exact True.intro) hs ⟨o, hq⟩ ⟨hl2, hd, _, (KT.put rel k hb r2).keeps (fun c ys ec => (by rw [upd_ne (ne_of ec ha (fun z => nomatch z))]; exact ec)), o, es, ep, hq, h2, h3, h4, h5⟩
    show EP X pins σ Q u2 _
    exact ⟨d, _, I2, r2, q2 e⟩
/-! ### such a dict beside the bag -/
section
variable {K : PySem.W.Frag} {S M : AS} {H0 H H' : Hp} {G : List (V × D)} {B : List Addr} {Q : VK} {pd : Addr}
theorem Bag.upd {a : Addr} {o : HO} (hs : S pd) (n : a ≠ pd) (h : Bag K S H a) : Bag K S (L2.upd H pd o) a := by
  obtain ⟨r, x, i, c, ns, h1, hc, h2, h3, h4, h5, h6, h7⟩ := h.get
  have nc : c ≠ pd := fun e => hc (by rw [e]; exact hs)
  have e1 : L2.upd H pd o a = some (.lst [.int r, .int x, .int i, .ref c]) := by rw [upd_ne n]; exact h1
  have e2 : L2.upd H pd o c = some (.lst (ns.map V.int)) := by rw [upd_ne nc]; exact h2
  exact Bag.mk' e1 hc e2 h3 h4 h5 h6 h7
theorem St.updB (st : Vf.St K S M H0 H G [] B) (hs : S pd) (hB : pd ∉ B) (hm : H0 pd = none ∨ M pd) (o : HO) : Vf.St K S M H0 (L2.upd H pd o) G [] B := by
  refine ⟨fun b s => ?_, fun b u nm e => ?_, fun b e => ?_, fun p hp => Dz.keep kp_upd (fun b e => by rw [e]; exact hs) (st.ga p hp), fun p hp => by simp at hp, fun a ha => ?_, st.nd⟩
  · by_cases z : b = pd
    · subst z; rw [upd_same]; exact fun w => by cases w
    · rw [upd_ne z]; exact st.ok b s
  · have z : b ≠ pd := fun z => by
      rw [z] at e nm
      exact hm.elim (fun q => by rw [q] at e; cases e) nm
    rw [upd_ne z]; exact st.kp b u nm e
  · by_cases z : b = pd
    · subst z; rw [upd_same]; exact fun w => by cases w
    · rw [upd_ne z]; exact st.dm b e
  · obtain ⟨h1, h2, h3⟩ := st.ba a ha
    exact ⟨h1, h2, h3.upd hs fun e => hB (by rw [← e]; exact ha)⟩
theorem St.newB (st : Vf.St K S M H0 H G [] B) (n : H pd = none) (o : HO) : Vf.St K (fun b => S b ∨ b = pd) M H0 (L2.upd H pd o) G [] B := by
  have hB : pd ∉ B := fun m => by
    obtain ⟨_, _, h3⟩ := st.ba pd m
    obtain ⟨r, x, i, c, ns, h1, _⟩ := h3.get
    rw [n] at h1; cases h1
  refine ⟨fun b s => ?_, fun b u nm e => ?_, fun b e => ?_, fun p hp => Dz.keep kp_upd (fun b e => .inr e) (Dz.fresh n (st.ga p hp)), fun p hp => by simp at hp, fun a ha => ?_, st.nd⟩
  · by_cases z : b = pd
    · subst z; rw [upd_same]; exact fun w => by cases w
    · rw [upd_ne z]
      exact s.elim (st.ok b) fun e => absurd e z
  · have z : b ≠ pd := fun z => by rw [z, st.h0 n] at e; cases e
    rw [upd_ne z]; exact st.kp b u nm e
  · by_cases z : b = pd
    · subst z; rw [upd_same]; exact fun w => by cases w
    · rw [upd_ne z]; exact st.dm b e
  · obtain ⟨h1, h2, h3⟩ := st.ba a ha
    exact ⟨.inl h1, h2, (h3.fresh n).upd (.inr rfl) fun e => hB (by rw [← e]; exact ha)⟩
/-- from here on: what isn't the bag is as it is now -/
theorem St.rebaseB (st : Vf.St K S M H0 H G [] B) : Vf.St K S (fun c => c ∈ B) H H G [] B :=
  ⟨st.ok, fun _ _ _ e => e, fun _ e => e, st.ga, fun p hp => by simp at hp, fun a ha => ⟨(st.ba a ha).1, .inr ha, (st.ba a ha).2.2⟩, st.nd⟩
end
end Vf
namespace Vf
open PySem PySem.Spec PyProof.Rows L2 RZ
/-! ## two effects behind each other, their size -/
theorem Ef.At.In2 {e : Ef} {m : Nat} (h : e.At m) (hm : m ≤ 30) : e.In 200 := by
  have h0 := two_pos (4 * m)
  have e1 : (2 : Int) ^ (4 * m + 40) = 2 ^ (4 * m) * 1099511627776 := by rw [Int.pow_add]; rfl
  obtain ⟨p, y, a1, a2, l1, l2, t1, t2⟩ := h
  refine ⟨?_, ?_, p, ?_, ?_⟩
  all_goals
    refine natAbs_two (k := 4 * m + 40) ?_ ?_ (by omega) <;> rw [e1] <;> generalize (2 : Int) ^ (4 * m) = z at * <;> omega
theorem ediv_abs {x y : Int} (h : 1 ≤ y) : (x / y).natAbs ≤ x.natAbs := by
  have h1 := Int.ediv_mul_le x (show y ≠ 0 by omega)
  have h2 := Int.lt_ediv_add_one_mul_self x (show 0 < y by omega)
  by_cases hx : 0 ≤ x
  · have a := Int.ediv_le_self y hx
    have b := Int.ediv_nonneg hx (show 0 ≤ y by omega)
    omega
  · have b : x / y < 0 := Int.ediv_neg_of_neg_of_pos (by omega) (by omega)
    have c : x ≤ x / y := Int.le_ediv_of_mul_le (by omega) (by
      have : x * y ≤ x * 1 := Int.mul_le_mul_of_nonpos_left (by omega) (by omega)
      omega)
    omega
theorem chn_In {a b e : Ef} (ha : a.In 200) (hb : b.In 200) (h : chn (some a) (some b) = some e) : e.In 500 := by
  obtain ⟨_, rfl⟩ := chn_some h
  obtain ⟨al, aa, ap, ay, at_⟩ := ha
  obtain ⟨bl, ba, bp, by_, bt⟩ := hb
  have m1 : (b.least * a.by_).natAbs ≤ 2 ^ 200 * 2 ^ 200 := by rw [Int.natAbs_mul]; exact Nat.mul_le_mul (Nat.le_of_lt bl) (Nat.le_of_lt ay)
  have m2 : (b.add * a.by_).natAbs ≤ 2 ^ 200 * 2 ^ 200 := by rw [Int.natAbs_mul]; exact Nat.mul_le_mul (Nat.le_of_lt ba) (Nat.le_of_lt ay)
  have m3 : (a.by_ * b.by_).natAbs ≤ 2 ^ 200 * 2 ^ 200 := by rw [Int.natAbs_mul]; exact Nat.mul_le_mul (Nat.le_of_lt ay) (Nat.le_of_lt by_)
  have m4 : 1 ≤ a.by_ * b.by_ := by
    have := Int.mul_le_mul ap bp (by decide) (by omega)
    omega
  have d := ediv_abs (x := a.top + b.add) bp
  have big : 2 ^ 200 * 2 ^ 200 + 2 ^ 200 < 2 ^ 500 := by decide +kernel
  have two : 2 ^ 200 + 2 ^ 200 < 2 ^ 500 := by decide +kernel
  have g : (mx a.least (b.least * a.by_ - a.add)).natAbs < 2 ^ 500 ∧ (a.add + b.add * a.by_).natAbs < 2 ^ 500 ∧ (a.by_ * b.by_).natAbs < 2 ^ 500 ∧ (mn b.top ((a.top + b.add) / b.by_)).natAbs < 2 ^ 500 := by
    generalize 2 ^ 500 = Z at *
    generalize 2 ^ 200 * 2 ^ 200 = Y at *
    generalize 2 ^ 200 = X at *
    refine ⟨?_, ?_, ?_, ?_⟩
    · unfold mx
      split <;> omega
    · omega
    · omega
    · unfold mn
      split <;> omega
  exact ⟨g.1, g.2.1, m4, g.2.2.1, g.2.2.2⟩
theorem efIn_fine {e : Ef} (h : e.In 500) : e.d.fine = true := by
  have f : ∀ i : Int, i.natAbs < 2 ^ 500 → (D.int i).fine = true := fun i hi => (int_okB (Nat.lt_trans hi (Nat.pow_lt_pow_right (by decide) (by decide)))).fine
  have e1 := f _ h.l
  have e2 := f _ h.a
  have e3 := f _ h.y
  have e4 := f _ h.t
  simp only [Ef.d, D.fine, D.fines, Bool.and_eq_true] at *
  exact ⟨e1, e2, e3, e4, trivial⟩
theorem efO_ok {o : Option Ef} (h : ∀ e, o = some e → e.In 500) : (efD o).Ok := by
  have w := efD_wt o
  have d := efD_dep o
  refine ⟨?_, by omega, by omega⟩
  cases o with
  | none => rfl
  | some e => exact efIn_fine (h e rfl)
theorem ef2_ok {o p : Option Ef} (h1 : ∀ e, o = some e → e.In 500) (h2 : ∀ e, p = some e → e.In 500) : (D.tup [efD o, efD p]).Ok := by
  have f1 := (efO_ok h1).fine
  have f2 := (efO_ok h2).fine
  have w1 := efD_wt o
  have w2 := efD_wt p
  have d1 := efD_dep o
  have d2 := efD_dep p
  refine ⟨?_, ?_, ?_⟩
  · have : (D.tup [efD o, efD p]).fine = ((efD o).fine && ((efD p).fine && true)) := by simp only [D.fine, D.fines]
    rw [this, f1, f2]; rfl
  · simp only [D.wt, D.wts]; omega
  · simp only [D.dep, D.deps]; omega
theorem g_par3 {D0 : Ends} {σ : L2.St} {H : Hp} {i j l : Nat} {t : TA} (h : t σ H fun vs H1 => ∃ u v w, vs = [u, v, w] ∧ D0.nx (((σ.set i (some u)).set j (some v)).set l (some w)) H1) : tPar3 i j l t D0 σ H := h
/-- from here on -/
theorem St.rebaseT {K : PySem.W.Frag} {S M : AS} {H0 H : Hp} {G : List (V × D)} {B : List Addr} (st : Vf.St K S M H0 H G [] B) : Vf.St K S (fun _ => True) H H G [] B :=
  ⟨st.ok, fun _ _ _ e => e, fun _ e => e, st.ga, fun p hp => by simp at hp, fun a ha => ⟨(st.ba a ha).1, .inr trivial, (st.ba a ha).2.2⟩, st.nd⟩
end Vf
namespace Vf
open PySem PySem.Spec PyProof.Rows L2 RZ
/-! ## new things told as new; fates by walking -/
section
variable {K : PySem.W.Frag} {S M : AS} {H0 H : Hp} {G : List (V × D)} {L : List (Addr × List D)} {B : List Addr} {Q : VK} {E : XK} {ds : List D} {xs vs : List V}
theorem d_tupH (st : Vf.St K S M H0 H G L B) (hz : DzL K S H ds xs) (hl : xs.length ≤ 100000) (q : ∀ p H', H p = none → H' p = some (.tup xs) → Vf.St K S M H0 H' ((.ref p, .tup ds) :: G) L B → Q (.ref p) H') : FTup Q xs H :=
  ⟨Nat.le_trans hl (by decide), fun p n => q p _ n upd_same (st.tup n hz)⟩
theorem v_catN {a b : Addr} {es : List D} (st : Vf.St K S M H0 H G L B) (h : Dz K S H (.lst ds) (.ref a)) (h' : Dz K S H (.lst es) (.ref b)) (hl : ds.length + es.length ≤ sizeLine) (q : ∀ p H', H p = none → Vf.St K S M H0 H' ((.ref p, .lst (ds ++ es)) :: G) L B → Q (.ref p) H') : rAddG K (.ref a) (.ref b) H Q := by
  obtain ⟨xs, h1, h2⟩ := z_lst h
  obtain ⟨ys, h3, h4⟩ := z_lst h'
  exact .inr (.inr (.inl ⟨a, b, xs, ys, rfl, rfl, h1.2, h3.2, by rw [h2.len, h4.len]; exact hl, fun p n => q p _ n (st.lst n (h2.app h4))⟩))
theorem c_NewGn {α : Type} {enc : α → List D} {pre : α → Prop} {f : α → List D} (x : α) (st : Vf.St K S M H0 H G L B) (hz : DzL K S H (enc x) vs) (hp : pre x) (q : ∀ b H', H b = none → Vf.St K S M H0 H' ((.ref b, .lst (f x)) :: G) L B → Q (.ref b) H') : spNewL K enc pre f vs H Q E :=
  ⟨S, x, st.ok, hz, hp, fun b H' _ e n hb h => q b H' n ((st.adopt e n hb h).give (st.nS n))⟩
theorem St.fresh0 (st : Vf.St K S M H0 H G L B) : Vf.St K S (fun _ => False) H H G [] [] :=
  ⟨st.ok, fun _ _ _ e => e, fun _ e => e, st.ga, fun p hp => by simp at hp, fun a ha => by simp at ha, List.nodup_nil⟩
end
section
variable {H : Hp} {Q : VK} {a b : Addr} {kvs : List (List L2.Key × V)} {k : List L2.Key} {v : V}
theorem t_din (h : H a = some (.dT kvs)) (hb : H b = some (.tup (k.map kV))) (q : Q (.bl (valV kvs k).isSome) H) : FDin (.ref b) Q (.ref a) H := ⟨a, _, rfl, DGet.t h hb, q⟩
theorem t_dgt (h : H a = some (.dT kvs)) (hb : H b = some (.tup (k.map kV))) (e : valV kvs k = some v) (q : Q v H) : FDgt (.ref a) Q (.ref b) H := ⟨a, v, rfl, by rw [← e]; exact DGet.t h hb, q⟩
theorem t_dpt {D : Ends} {σ : L2.St} (h : H a = some (.dT kvs)) (hb : H b = some (.tup (k.map kV))) (hl : kvs.length < 100000) (q : D.nx σ (upd H a (.dT (putK kvs k v)))) : FDpt v (.ref a) D σ (.ref b) H := ⟨a, _, rfl, DPut.t h hb (Nat.lt_of_lt_of_le hl (by decide)), q⟩
end
theorem sIx_n {n d j : Nat} : HT.sIx n d (some ((j : Nat) : Int)) = min j n := by
  show (if ((j : Nat) : Int) < 0 then (((j : Nat) : Int) + (n : Nat)).toNat else min ((j : Nat) : Int).toNat n) = _
  rw [if_neg (by omega), Int.toNat_natCast]
/-- keys by a function of the place, the values the places -/
def kvT (f : Nat → List L2.Key) (k : Nat) : List (List L2.Key × V) := (List.range k).map fun j => (f j, V.int (j : Nat))
theorem kvT_some {f : Nat → List L2.Key} {k : Nat} {p : List L2.Key} {v : V} (h : valV (kvT f k) p = some v) : ∃ j, j < k ∧ f j = p ∧ v = V.int (j : Nat) := by
  unfold valV kvT at h
  obtain ⟨kv, h1, h2⟩ := Option.map_eq_some_iff.mp h
  have m := List.mem_of_find?_eq_some h1
  have t := List.find?_some h1
  obtain ⟨j, hj, rfl⟩ := List.mem_map.mp m
  refine ⟨j, List.mem_range.mp hj, ?_, h2.symm⟩
  simpa using t
theorem kvT_fresh {f : Nat → List L2.Key} {k : Nat} {p : List L2.Key} (h : valV (kvT f k) p = none) : ∀ j, j < k → f j ≠ p := by
  intro j hj e
  unfold valV kvT at h
  rw [Option.map_eq_none_iff, List.find?_eq_none] at h
  refine h (f j, V.int (j : Nat)) (List.mem_map.mpr ⟨j, List.mem_range.mpr hj, rfl⟩) ?_
  rw [e]
  simp
theorem kvT_put {f : Nat → List L2.Key} {k : Nat} (h : ∀ j, j < k → f j ≠ f k) : putK (kvT f k) (f k) (V.int (k : Nat)) = kvT f (k + 1) := by
  unfold putK
  rw [if_neg ?_]
  · unfold kvT
    rw [List.range_succ, List.map_append]
    rfl
  · intro e
    obtain ⟨kv, h1, h2⟩ := List.any_eq_true.mp e
    obtain ⟨j, hj, rfl⟩ := List.mem_map.mp h1
    exact h j (List.mem_range.mp hj) (by simpa using h2)
theorem kvT_len (f : Nat → List L2.Key) (k : Nat) : (kvT f k).length = k := by unfold kvT; rw [List.length_map, List.length_range]
/-! ### the fate, by walking till a state comes again -/
section
variable {w : Wn} {cs : List Nat} {x n : Int}
/-- the states ahead of the t-th are all apart -/
def Apart (w : Wn) (cs : List Nat) (x n : Int) (t : Nat) : Prop := ∀ i j, i < j → j < t → ¬ ((stR w cs (x, n) i).1 = (stR w cs (x, n) j).1 ∧ phase w (nxs w cs n i) = phase w (nxs w cs n j))
theorem FateS.again (h : w.Ok) (hx : 0 ≤ x ∧ x ≤ w.cap) (hn : 0 ≤ n) {r : Nat} {ds : List Int} (g : FateS w cs x n r ds) :
    0 < ds.length ∧ (stR w cs (x, n) (r + ds.length)).1 = (stR w cs (x, n) r).1 ∧ phase w (nxs w cs n (r + ds.length)) = phase w (nxs w cs n r) ∧ ds = (List.range ds.length).map fun i => (stR w cs (x, n) (r + i)).1 := by
  obtain ⟨lead, kk, h1, h2, h3, h4, h5, h6, h7, h8⟩ := g.cyc
  have e : ds.length = kk - lead := by rw [h5, List.length_map, List.length_range]
  rw [e]
  exact ⟨by omega, h7, ph_cyc h hn h1 h3 h6, h5⟩
theorem FateS.bound (h : w.Ok) (hx : 0 ≤ x ∧ x ≤ w.cap) (hn : 0 ≤ n) {r : Nat} {ds : List Int} (g : FateS w cs x n r ds) {t : Nat} (hd : Apart w cs x n t) : t ≤ r + ds.length := by
  obtain ⟨p, e1, e2, _⟩ := g.again h hx hn
  refine Decidable.byContradiction fun q => hd r (r + ds.length) (by omega) (by omega) ⟨e1.symm, e2.symm⟩
/-- so many times around -/
theorem around (h : w.Ok) (hx : 0 ≤ x ∧ x ≤ w.cap) (hn : 0 ≤ n) {k c : Nat} (e1 : (stR w cs (x, n) (k + c)).1 = (stR w cs (x, n) k).1) (e2 : phase w (nxs w cs n (k + c)) = phase w (nxs w cs n k)) (i : Nat) : ∀ j, (stR w cs (x, n) (k + j * c + i)).1 = (stR w cs (x, n) (k + i)).1 ∧ phase w (nxs w cs n (k + j * c + i)) = phase w (nxs w cs n (k + i))
  | 0 => by rw [Nat.zero_mul, Nat.add_zero]; exact ⟨rfl, rfl⟩
  | j + 1 => by
    have ih := around h hx hn e1 e2 i j
    have s := stR_same h hx hn e1 e2 (j * c + i)
    rw [show k + (j + 1) * c + i = k + c + (j * c + i) by rw [Nat.succ_mul]; omega]
    rw [show k + (j * c + i) = k + j * c + i by omega] at s
    exact ⟨s.1.trans ih.1, s.2.trans ih.2⟩
theorem FateS.found (h : w.Ok) (hx : 0 ≤ x ∧ x ≤ w.cap) (hn : 0 ≤ n) {r : Nat} {ds : List Int} (g : FateS w cs x n r ds) {k t : Nat} (hkt : k < t) (hd : Apart w cs x n t) (e1 : (stR w cs (x, n) t).1 = (stR w cs (x, n) k).1) (e2 : phase w (nxs w cs n t) = phase w (nxs w cs n k)) :
    k = r ∧ t = r + ds.length := by
  have bd := g.bound h hx hn hd
  obtain ⟨p0, a1, a2, _⟩ := g.again h hx hn
  obtain ⟨lead, kk, h1, h2, h3, h4, h5, h6, h7, h8⟩ := g.cyc
  have hP : kk - lead = ds.length := by rw [h5, List.length_map, List.length_range]
  obtain ⟨c, rfl⟩ : ∃ c, t = k + c := ⟨t - k, by omega⟩
  clear h5
  rw [hP] at h7 h8
  generalize ds.length = P at *
  have c0 : 0 < c := by omega
  -- from k on the states come again each P rounds
  have kr : ¬ k < r := fun q => by
    have far : r ≤ k + r * c := by
      have : r * 1 ≤ r * c := Nat.mul_le_mul_left _ c0
      omega
    have s := stR_same h hx hn a1 a2 (k + r * c - r)
    rw [show r + P + (k + r * c - r) = k + r * c + P by omega, show r + (k + r * c - r) = k + r * c + 0 by omega] at s
    have s1 := around h hx hn e1 e2 P r
    have s2 := around h hx hn e1 e2 0 r
    have kP1 : (stR w cs (x, n) (k + P)).1 = (stR w cs (x, n) k).1 := (s1.1.symm.trans s.1).trans s2.1
    have kP2 : phase w (nxs w cs n (k + P)) = phase w (nxs w cs n k) := (s1.2.symm.trans s.2).trans s2.2
    have z := stR_same h hx hn kP1 kP2 (r - 1 - k)
    rw [show k + P + (r - 1 - k) = r - 1 + P by omega, show k + (r - 1 - k) = r - 1 by omega] at z
    exact h8 (r - 1) (by omega) z
  have cP : ¬ c < P := fun q => by
    have m1 := nxs_mod h hn h1 h3 (k - lead)
    have m2 := nxs_mod h hn h1 h3 (k + c - lead)
    rw [show lead + (k - lead) = k by omega] at m1
    rw [show lead + (k + c - lead) = k + c by omega] at m2
    rw [hP] at m1 m2
    rw [m1, m2] at e2
    have b1 := Nat.mod_lt (k - lead) p0
    have b2 := Nat.mod_lt (k + c - lead) p0
    have ne : (k + c - lead) % P ≠ (k - lead) % P := fun z => by
      have z2 : ((k - lead) + c) % P = (k - lead) % P := by rw [← z]; congr 1; omega
      have d : P ∣ c := by
        have := (Nat.dvd_sub_mod (k - lead + c) (n := P))
        have t := Nat.dvd_sub_mod (k - lead) (n := P)
        rw [z2] at this
        have q3 := Nat.dvd_sub this t
        rw [show k - lead + c - (k - lead) % P - (k - lead - (k - lead) % P) = c by
          have := Nat.mod_le (k - lead) P
          omega] at q3
        exact q3
      have := Nat.le_of_dvd c0 d
      omega
    rcases Nat.lt_or_gt_of_ne ne with z | z
    · exact h4 _ _ (by omega : lead + (k + c - lead) % P < lead + (k - lead) % P) (by omega) e2
    · exact h4 _ _ (by omega : lead + (k - lead) % P < lead + (k + c - lead) % P) (by omega) e2.symm
  exact ⟨by omega, by omega⟩
theorem FateG.bound (h : w.Ok) (hx : 0 ≤ x ∧ x ≤ w.cap) (hn : 0 ≤ n) {r i : Nat} (g : FateG w cs x n r i) {t : Nat} (ht : (stR w cs (x, n) t).1 ≠ 0) : t ≤ r := by
  refine Decidable.byContradiction fun q => ht ?_
  have := stR_gone h hx hn (g.gone h hx hn) (t - (r + 1))
  rw [show r + 1 + (t - (r + 1)) = t by omega] at this
  exact this
theorem FateR.bound (h : w.Ok) (hx : 0 ≤ x ∧ x ≤ w.cap) (hn : 0 ≤ n) {d : D} (g : FateR w cs x n d) : ∃ b, b ≤ 10 ^ 11 + 48 ∧ ∀ t, Apart w cs x n t → (stR w cs (x, n) t).1 ≠ 0 → t ≤ b := by
  rcases g with ⟨r, i, _, g⟩ | ⟨r, ds, _, g⟩
  · exact ⟨r, Nat.le_trans g.far (by decide), fun t _ ht => g.bound h hx hn ht⟩
  · exact ⟨r + ds.length, Nat.add_le_add g.far g.len, fun t hd _ => g.bound h hx hn hd⟩
theorem FateR.goes (h : w.Ok) (hx : 0 ≤ x ∧ x ≤ w.cap) (hn : 0 ≤ n) {d : D} (g : FateR w cs x n d) {t i : Nat} (hi : i < cs.length) (hz : (stt w (stR w cs (x, n) t) (cs.take (i + 1))).1 = 0) (ha : ∀ j, j ≤ i → (stt w (stR w cs (x, n) t) (cs.take j)).1 ≠ 0) :
    FateR w cs x n (.tup [.str (Str.ofString "goes"), .int (t : Nat), .int (i : Nat)]) := by
  have h0 : (stR w cs (x, n) t).1 ≠ 0 := ha 0 (Nat.zero_le _)
  have far : t ≤ 10 ^ 11 := by
    rcases g with ⟨r, i, _, g⟩ | ⟨r, ds, _, g⟩
    · exact Nat.le_trans (g.bound h hx hn h0) g.far
    · exfalso
      have b := stR_ok h (cs := cs) hx hn t
      have b2 := stt_ok h (cs.take (i + 1)) b.1 b.2
      have e : stt w (stR w cs (x, n) t) cs = stt w (stt w (stR w cs (x, n) t) (cs.take (i + 1))) (cs.drop (i + 1)) := by
        rw [← stt_app, List.take_append_drop]
      have s := g.st (t + 1)
      have s : 0 < (stt w (stR w cs (x, n) t) cs).1 := s
      rw [e] at s
      generalize stt w (stR w cs (x, n) t) (cs.take (i + 1)) = u at *
      obtain ⟨u1, u2⟩ := u
      have hz : u1 = 0 := hz
      subst hz
      rw [stt_zero h _ b2.2.1] at s
      exact absurd s (by decide)
  exact .inl ⟨t, i, rfl, hi, hz, ha, far⟩
theorem FateR.stays (h : w.Ok) (hx : 0 ≤ x ∧ x ≤ w.cap) (hn : 0 ≤ n) {d : D} (g : FateR w cs x n d) {k t : Nat} (hkt : k < t) (hd : Apart w cs x n t) (h0 : (stR w cs (x, n) k).1 ≠ 0) (e1 : (stR w cs (x, n) t).1 = (stR w cs (x, n) k).1) (e2 : phase w (nxs w cs n t) = phase w (nxs w cs n k)) :
    FateR w cs x n (.tup [.str (Str.ofString "stays"), .int (k : Nat), .lst (((List.range (t - k)).map fun i => (stR w cs (x, n) (k + i)).1).map D.int)]) := by
  rcases g with ⟨r, i, _, g⟩ | ⟨r, ds, _, g⟩
  · exfalso
    obtain ⟨c, rfl⟩ : ∃ c, t = k + c := ⟨t - k, by omega⟩
    have a := (around h hx hn e1 e2 0 (r + 1)).1
    have b := g.bound h hx hn (t := k + (r + 1) * c + 0) (by rw [a]; exact h0)
    have : (r + 1) * 1 ≤ (r + 1) * c := Nat.mul_le_mul_left _ (by omega)
    omega
  · obtain ⟨rfl, rfl⟩ := g.found h hx hn hkt hd e1 e2
    have e := (g.again h hx hn).2.2.2
    refine .inr ⟨k, ds, ?_, g⟩
    rw [show k + ds.length - k = ds.length by omega, ← e]
end
end Vf
namespace Vf
open PySem PySem.Spec PyProof.Rows L2 RZ
/-! ## what a def tells of good things, and how it refuses the others -/
theorem FnOk.lift {P : Program} {w : World} {K : PySem.W.Frag} {mg : Str → Option Value} {base : Heap} {CX : CXT} {k : Nat} {f : Addr} {fd : FuncData} {ps : List Str} {sp : Sp} (F : FnOk P w K mg base CX0 k f fd ps sp) : FnOk P w K mg base CX k f fd ps sp :=
  ⟨F.len, fun A outer s H args us vs Q E hr he hb hv hs => codeAny_mono (F.run A outer s H args us vs Q E hr he hb hv hs) fun r s' h => by
    cases r with
    | ok u => cases u <;> exact h
    | error e => exact False.elim h⟩
def spOr (a b : Sp) : Sp := fun vs H Q E => a vs H Q E ∨ b vs H Q E
theorem FnOk.or {P : Program} {w : World} {K : PySem.W.Frag} {mg : Str → Option Value} {base : Heap} {CX : CXT} {k : Nat} {f : Addr} {fd : FuncData} {ps : List Str} {a b : Sp} (F : FnOk P w K mg base CX k f fd ps a) (G : FnOk P w K mg base CX k f fd ps b) : FnOk P w K mg base CX k f fd ps (spOr a b) :=
  ⟨fun vs H Q E h => h.elim (F.len vs H Q E) (G.len vs H Q E), fun A outer s H args us vs Q E hr he hb hv h => h.elim (F.run A outer s H args us vs Q E hr he hb hv) (G.run A outer s H args us vs Q E hr he hb hv)⟩
section
variable {α : Type} (K : PySem.W.Frag) (Wr : Addr) (enc : α → List D) (pre : α → Prop) (plc : α → Nat)
/-- refused, with the place -/
def spBad : Sp := fun vs H Q E => ∃ S a, Okk S H ∧ DzL K S H (enc a) vs ∧ pre a ∧ ∀ dx H', Same H H' → H dx = none → H' dx = some (.xd [("place", .int (plc a : Nat))]) → E (.ref Wr) (some dx) H'
end
section
variable {α : Type} {K : PySem.W.Frag} {Wr : Addr} {enc : α → List D} {pre : α → Prop} {plc : α → Nat} {S M : AS} {H0 H : Hp} {G : List (V × D)} {L : List (Addr × List D)} {B : List Addr} {Q : VK} {E : XK} {vs : List V} {n : Nat}
theorem spBad_len (hn : ∀ a, (enc a).length = n) (h : spBad K Wr enc pre plc vs H Q E) : vs.length = n := by
  obtain ⟨S, a, _, hz, _⟩ := h
  rw [hz.len, hn]
theorem c_Bad (a : α) (st : Vf.St K S M H0 H G L B) (hz : DzL K S H (enc a) vs) (hp : pre a) (q : ∀ dx H', H dx = none → H' dx = some (.xd [("place", .int (plc a : Nat))]) → Vf.St K S M H0 H' G L B → E (.ref Wr) (some dx) H') : spBad K Wr enc pre plc vs H Q E :=
  ⟨S, a, st.ok, hz, hp, fun dx H' e n hx => q dx H' n hx (st.same e)⟩
end
/-- isinstance(plain thing, own class) -/
theorem kit_noC {K : PySem.W.Frag} {C : Addr} {d : D} (ic : InsQ K C) (ty : PySem.W.typeIn K (.ref C) = some (.type "type")) (n : d.noIns = true) : PySem.W.kitOne K (.type d.tn) (.ref C) = some false := by
  have cl : (PySem.W.clsIn K C).isSome = true := by
    have hd := ic.cl.hd
    unfold PySem.W.hasDictIn at hd
    cases h : PySem.W.clsIn K C with
    | none => rw [h] at hd; cases hd
    | some c => rfl
  unfold PySem.W.kitOne
  rw [if_neg (by intro e; have := beq_iff_eq.mp e; cases this)]
  show (if ((PySem.W.clsIn K C).isSome && PySem.W.typeIn K (.ref C) == some (.type "type")) = true then PySem.W.subIn K (.type d.tn) (.ref C) else none) = some false
  rw [if_pos (by rw [cl, ty]; rfl)]
  cases d <;> first | (cases n; done) | rfl
theorem d_isCn {K : PySem.W.Frag} {S : AS} {H : Hp} {C : Addr} {d : D} {x : V} {Q : VK} (c : InsQ K C) (ty : PySem.W.typeIn K (.ref C) = some (.type "type")) (h : Dz K S H d x) (n : d.noIns = true) (q : Q (.bl false) H) : rIsiG K [x, .ref C] H Q :=
  .inl ⟨x, .ref C, _, _, false, rfl, .own C, d_ty h n, kit_noC c ty n, q⟩
/-- the first that is no -/
theorem idx_first {bs : List Bool} {i : Nat} (h : bs[i]? = some false) (hn : ∀ j, j < i → bs[j]? = some true) : bs.idxOf false = i := by
  induction bs generalizing i with
  | nil => cases h
  | cons b bs ih =>
    cases i with
    | zero =>
      have h : b = false := Option.some.inj h
      subst h
      rfl
    | succ i =>
      have h0 : b = true := Option.some.inj (hn 0 (Nat.succ_pos _))
      subst h0
      rw [List.idxOf_cons, ih (i := i) h fun j hj => hn (j + 1) (by omega)]
      rfl
theorem idx_get {bs : List Bool} (h : false ∈ bs) : bs[bs.idxOf false]? = some false ∧ ∀ j, j < bs.idxOf false → bs[j]? = some true := by
  induction bs with
  | nil => cases h
  | cons b bs ih =>
    cases b with
    | false => exact ⟨rfl, fun j hj => absurd hj (Nat.not_lt_zero _)⟩
    | true =>
      have h2 : false ∈ bs := (List.mem_cons.mp h).elim (fun e => by cases e) id
      obtain ⟨h3, h4⟩ := ih h2
      have e : (true :: bs).idxOf false = bs.idxOf false + 1 := by rw [List.idxOf_cons]; rfl
      rw [e]
      refine ⟨h3, fun j hj => ?_⟩
      cases j with
      | zero => rfl
      | succ j => exact h4 j (by omega)
theorem all_true {bs : List Bool} (h : false ∉ bs) : bs = List.replicate bs.length true := by
  induction bs with
  | nil => rfl
  | cons b bs ih =>
    cases b with
    | false => exact absurd (List.mem_cons_self ..) h
    | true => rw [List.length_cons, List.replicate_succ, ← ih fun m => h (List.mem_cons_of_mem _ m)]
end Vf
namespace Vf
open PySem PySem.Spec PyProof.Rows L2 RZ
/-! ## a wane, or whatever is none -/
inductive Tg where
  | wn (w : Wn) | pl (d : D)
def Tg.d (C : Addr) : Tg → D
  | .wn w => w.d C
  | .pl d => d
def Tg.Ok : Tg → Prop
  | .wn w => w.Ok
  | .pl d => d.noIns = true
def Tg.is : Tg → Bool
  | .wn _ => true
  | .pl _ => false
def Tg.lev (x : D) (lo : Int) : Tg → Bool
  | .wn w => isWithin x lo w.cap
  | .pl _ => false
def roundD : D → Bool
  | .str z => isRow (.str z) && (decide (1 ≤ z.cps.size) && decide (z.cps.size ≤ 48))
  | _ => false
theorem roundD_of {z : Str} (h : roundD (.str z) = true) : isRow (.str z) = true ∧ 1 ≤ z.cps.size ∧ z.cps.size ≤ 48 := by
  unfold roundD at h
  rw [Bool.and_eq_true, Bool.and_eq_true, decide_eq_true_eq, decide_eq_true_eq] at h
  exact h
theorem within_int {d : D} {lo hi : Int} (h : isWithin d lo hi = true) : ∃ i : Int, d = .int i ∧ lo ≤ i ∧ i ≤ hi := by
  cases d with
  | int i => exact ⟨i, rfl, of_decide_eq_true h⟩
  | _ => cases h
theorem round_str {d : D} (h : roundD d = true) : ∃ z : Str, d = .str z ∧ isRow (.str z) = true ∧ 1 ≤ z.cps.size ∧ z.cps.size ≤ 48 := by
  cases d with
  | str z => exact ⟨z, rfl, roundD_of h⟩
  | _ => cases h
theorem lev_wn {t : Tg} {x : D} {lo : Int} (h : t.lev x lo = true) : ∃ (w : Wn) (i : Int), t = .wn w ∧ x = .int i ∧ lo ≤ i ∧ i ≤ w.cap := by
  cases t with
  | wn w =>
    obtain ⟨i, e, h1, h2⟩ := within_int h
    exact ⟨w, i, rfl, e, h1, h2⟩
  | pl d => cases h
structure Th3 where
  t : Tg
  z : D
  n : D
structure Th4 where
  t : Tg
  x : D
  z : D
  n : D
structure Th5 where
  t : Tg
  x : D
  z : D
  m : D
  n : D
/-- a plain thing, no text too long -/
def fewD (d : D) : Prop := d.noIns = true ∧ ∀ z, d = .str z → z.length ≤ 100000
def Th3.gs (a : Th3) : List Bool := [a.t.is, roundD a.z, isWithin a.n 0 (10 ^ 30)]
def Th4.gs (a : Th4) : List Bool := [a.t.is, a.t.lev a.x 1, roundD a.z, isWithin a.n 0 (10 ^ 30)]
def Th5.gs (a : Th5) : List Bool := [a.t.is, a.t.lev a.x 0, roundD a.z, isWithin a.m 0 (10 ^ 30), isWithin a.n 0 (10 ^ 30)]
def Th3.Ok (a : Th3) : Prop := a.t.Ok ∧ fewD a.z ∧ a.n.noIns = true
def Th4.Ok (a : Th4) : Prop := a.t.Ok ∧ a.x.noIns = true ∧ fewD a.z ∧ a.n.noIns = true
def Th5.Ok (a : Th5) : Prop := a.t.Ok ∧ a.x.noIns = true ∧ fewD a.z ∧ a.m.noIns = true ∧ a.n.noIns = true
end Vf
namespace Vf
open PySem PySem.Spec PyProof.Rows L2 RZ
/-! ## lists of truths; a list of texts that is empty -/
section
variable {K : PySem.W.Frag} {S : AS} {H : Hp} {Q : VK} {x y : V}
theorem flat_bls : ∀ bs : List Bool, (bs.map V.bl).all flatV = true
  | [] => rfl
  | z :: ws => by rw [List.map_cons, List.all_cons, flat_bls ws]; rfl
theorem inV_bls {b : Bool} : ∀ bs : List Bool, inV (.bl b) (bs.map V.bl) = decide (b ∈ bs)
  | [] => by simp [inV]
  | z :: ws => by
    have ih := inV_bls (b := b) ws
    unfold inV at ih ⊢
    rw [List.map_cons, List.any_cons, ih]
    by_cases h : b = z
    · subst h; simp [eqV]
    · have h' : ¬ z = b := fun e => h e.symm
      cases b <;> cases z <;> simp_all [eqV]
theorem d_inB {a : Addr} {b : Bool} {bs : List Bool} (h : Dz K S H (.lst (bs.map D.bl)) (.ref a)) (q : Q (.bl (decide (b ∈ bs))) H) : rInG K (.bl b) (.ref a) H Q := by
  refine d_inL h rfl (fun xs hx => ?_) fun xs hx => ?_
  · rw [DzL.bls _ hx]; exact flat_bls bs
  · rw [DzL.bls _ hx, inV_bls]; exact q
theorem d_indexB {a : Addr} {bs : List Bool} (h : Dz K S H (.lst (bs.map D.bl)) (.ref a)) (hf : false ∈ bs) (q : Q (.int (bs.idxOf false : Nat)) H) : rIndex K (.ref a) [.bl false] H Q := by
  obtain ⟨xs, h1, h2⟩ := z_lst h
  have ex := DzL.bls _ h2
  subst ex
  obtain ⟨g1, g2⟩ := idx_get hf
  refine ⟨a, bs.map V.bl, .bl false, bs.idxOf false, .bl false, rfl, rfl, h1.sq, rfl, flat_bls bs, by rw [List.getElem?_map, g1]; rfl, rfl, fun m z' hm e => ?_, q⟩
  rw [List.getElem?_map, g2 m hm] at e
  cases e
  rfl
theorem strs_flat : ∀ ws : List Str, D.flats (ws.map D.str) = true
  | [] => rfl
  | z :: ws => by rw [List.map_cons, D.flats, strs_flat ws]; rfl
theorem strs_lay : ∀ {ws : List Str}, (∀ z ∈ ws, PyData.strOk z = true) → PyData.canLayAll0 (D.pys (ws.map D.str)) = true ∧ PyData.depthAll (D.pys (ws.map D.str)) = 0
  | [], _ => ⟨rfl, rfl⟩
  | z :: ws, h => by
    obtain ⟨h1, h2⟩ := strs_lay (ws := ws) fun y m => h y (List.mem_cons_of_mem _ m)
    constructor
    · show (PyData.strOk z && PyData.canLayAll0 (D.pys (ws.map D.str))) = true
      rw [h z (List.mem_cons_self ..), h1]; rfl
    · show max 0 (PyData.depthAll (D.pys (ws.map D.str))) = 0
      rw [h2]; rfl
theorem d_eqNil {ws : List Str} (hx : Dz K S H (.lst (ws.map D.str)) x) (hy : Dz K S H (.lst []) y) (ho : ∀ z ∈ ws, PyData.strOk z = true) (q : Q (.bl ws.isEmpty) H) : rEqG K x y H Q := by
  obtain ⟨h1, h2⟩ := strs_lay ho
  refine d_eq hx hy (strs_flat ws) rfl ?_ (by decide) ?_
  · show (PyData.canLayAll0 (D.pys (ws.map D.str)) && decide (PyData.depthAll (D.pys (ws.map D.str)) + 1 ≤ 64)) = true
    rw [h1, h2]; rfl
  · have e : PyData.eqv (D.lst (ws.map D.str)).py (D.lst []).py = ws.isEmpty := by
      cases ws <;> rfl
    rw [e]
    exact q
end
/-- so many turns -/
def dots (n : Nat) : Str := ⟨(List.replicate n (Str.ofString ".").cps).foldl (· ++ ·) #[]⟩
end Vf
namespace Vf
open PySem PySem.Spec PyProof.Rows L2 RZ
/-! ## repr of data in which an empty dict may stand -/
def D.itemE (d : D) : Bool := match d with
  | .dic kvs => kvs.isEmpty
  | d => d.flat
section
variable {X : Cx} {pins : List (Addr × Obj)} {σ : L2.St} {H : Hp} {s : Shared} {S : AS}
theorem one_reads (I : Inv X pins σ H s) {d : D} {v : V} {u : Value} (f : d.itemE = true) (h : Dz X.K S H d v) (r : RelV v u) : ∃ as, Reads s.heap u d.py as ∧ (d.py.hasDict = true → sysModules ∉ as) := by
  by_cases q : d.flat = true
  · have dp := Dz.dp d v q h
    obtain ⟨as, rd⟩ := Dp.reads I d.py v u dp r
    exact ⟨as, rd, fun z => by rw [Dp.noDict d.py v dp] at z; cases z⟩
  · cases d with
    | dic kvs =>
      obtain ⟨a, e, _, h1⟩ := h
      subst e
      cases r
      have e0 : kvs = [] := List.isEmpty_iff.mp f
      subst e0
      obtain ⟨_, hsm, vs, rel, dd⟩ := dk_of I.hok h1
      have ev : vs = [] := by
        have := Paired.length rel
        exact List.length_eq_zero_iff.mp (by simpa using this.symm)
      subst ev
      obtain ⟨o, es, ep, ho, hx, hd, hk, hp, _⟩ := dd
      obtain ⟨es⟩ := es
      have ees : es = [] := by
        cases es with
        | nil => rfl
        | cons _ _ => cases hp
      subst ees
      simp only [D.py, List.map_nil]
      refine ⟨[a] ++ [] ++ [], Reads.dict (as := []) (bs := []) ho hx.1 hd ReadsAll.nil ReadsAll.nil, fun _ m => ?_⟩
      have m : sysModules = a := by simpa using m
      rw [m] at hsm
      simp at hsm
    | _ => exact absurd f q
theorem items_read (I : Inv X pins σ H s) : ∀ {ds : List D} {vs : List V} {us : List Value}, (∀ d ∈ ds, d.itemE = true ∧ d.py.showable = true ∧ d.py.shown.length ≤ sizeLine) → DzL X.K S H ds vs → Vals vs us →
    ∃ as bs, ReadsAll s.heap us (D.pys ds) as ∧ ReadAtMost s.heap (PyData.depthAll (D.pys ds)) bs ∧ ReprAllK X.prog X.w bs s.heap (PyData.depthAll (D.pys ds)) us (PyData.shownAll (D.pys ds))
  | [], _, _, _, h, r => by
    cases h
    cases r
    simp only [D.pys, PyData.shownAll]
    exact ⟨[], [], ReadsAll.nil, fun b hb => by simp at hb, ReprAllK.nil⟩
  | d :: ds, _, _, hf, h, r => by
    obtain ⟨x, rr, e, h1, h2⟩ := h
    subst e
    cases r with
    | cons r1 r2 =>
      obtain ⟨f1, f2, f3⟩ := hf d (List.mem_cons_self ..)
      obtain ⟨as, rd, nm⟩ := one_reads I f1 h1 r1
      obtain ⟨cs, c1, c2⟩ := ReprK.of_reads (prog := X.prog) (w := X.w) rd f2 nm f3
      obtain ⟨as', bs, g1, g2, g3⟩ := items_read I (fun e m => hf e (List.mem_cons_of_mem _ m)) h2 r2
      have l1 : d.py.depth ≤ PyData.depthAll (D.pys (d :: ds)) := by simp only [D.pys, PyData.depthAll]; omega
      have l2 : PyData.depthAll (D.pys ds) ≤ PyData.depthAll (D.pys (d :: ds)) := by simp only [D.pys, PyData.depthAll]; omega
      refine ⟨as ++ as', cs ++ bs, ?_, (c1.mono l1).append (g2.mono l2), ?_⟩
      · simp only [D.pys]
        exact ReadsAll.cons rd g1
      · have q := ReprAllK.more_le (as' := cs ++ bs) (fun b m => List.mem_append_right _ m) l2 g3
        have p := ReprAllK.more_le (as' := cs ++ bs) (fun b m => List.mem_append_left _ m) l1 (ReprAllK.cons c2 ReprAllK.nil)
        simp only [D.pys, PyData.shownAll] at p q ⊢
        cases p with
        | cons p1 _ => exact ReprAllK.cons p1 q
end
/-- repr of a list whose items may be empty dicts -/
def rReprE (K : PySem.W.Frag) : List V → Hp → VK → Prop := fun xs H Q => ∃ (S : AS) (ds : List D) (x : V), xs = [x] ∧ Dz K S H (.lst ds) x ∧ ds ≠ [] ∧ (∀ d ∈ ds, d.itemE = true ∧ d.py.showable = true ∧ d.py.shown.length ≤ sizeLine) ∧ (D.lst ds).py.depth ≤ 60 ∧ (D.lst ds).py.shown.length ≤ sizeLine ∧ Q (.str (D.lst ds).py.shown) H
theorem call_reprE {X : Cx} (hgd : X.A.guards = some []) (hu : X.A.units + 64 < cLine) : CallR X (.builtin "repr") (rReprE X.K) := by
  intro pins s σ H xs us Q I r h
  obtain ⟨S, ds, x, rfl, hd, hne, hf, hdp, hsz, q⟩ := h
  obtain ⟨u, rfl, ru⟩ := vals1 r
  obtain ⟨a, xs, e, h1, h2⟩ := hd
  subst e
  cases ru
  obtain ⟨its, rv, ⟨o, n, ho, hc, _, hda⟩, _⟩ := I.list h1.sq
  obtain ⟨as, bs, g1, g2, g3⟩ := items_read I hf h2 rv
  have rd : Reads s.heap (.ref a) (D.lst ds).py (a :: as) := by simp only [D.py]; exact Reads.list ho hc hda g1
  have hdp2 : PyData.depthAll (D.pys ds) + 1 ≤ 60 := by simpa only [D.py, PyData.depth] using hdp
  have hna : a ∉ bs := not_mem_of_deeper rd (by simp only [D.py, PyData.depth]; omega) g2
  have q : Q (.str (listText (PyData.shownAll (D.pys ds)))) H := by simpa only [D.py, PyData.shown] using q
  have hsz : (listText (PyData.shownAll (D.pys ds))).length ≤ sizeLine := by simpa only [D.py, PyData.shown] using hsz
  refine call_repr_slot (idr := "list.__repr__") (T := "list") (by omega) ⟨o, ho, hc⟩ PySem.F.slot_list_repr.toG ?_
  cases its with
  | nil =>
    exfalso
    cases rv
    obtain ⟨d, dd, rfl⟩ := List.exists_cons_of_ne_nil hne
    obtain ⟨_, _, e, _⟩ := h2
    cases e
  | cons y ys =>
    refine call_list_reprK ho hc hda hna (by simpa using g3.length_eq) (fun i z e => g3.item i z (by simpa using e)) (show X.A.in1.guards = some [] from hgd) (fun b _ => Clear.nil b) (by show X.A.units + 1 + _ < cLine; omega) (fun _ _ e => e) (fun h' u tk k => ?_) hsz
    exact ⟨_, _, rfl, lift_kept I q k⟩
def rReprG (K : PySem.W.Frag) : List V → Hp → VK → Prop := fun xs H Q => rRepr K xs H Q ∨ rReprE K xs H Q
theorem call_reprG {X : Cx} (hgd : X.A.guards = some []) (hu : X.A.units + 64 < cLine) : CallR X (.builtin "repr") (rReprG X.K) := CallR.or (call_reprD hgd hu) (call_reprE hgd hu)
theorem o_reprG {K : PySem.W.Frag} {S : AS} {H : Hp} {d : D} {x : V} {Q : VK} (h1 : Dz K S H d x) (o : d.Ok) (q : Q (.str d.py.shown) H) : rReprG K [x] H Q := .inl (o_repr h1 o q)
/-- an item: may be shown, or is an empty dict -/
def D.OkI (d : D) : Prop := (d.fine = true ∧ d.wt ≤ 700 ∧ d.dep ≤ 40) ∨ d = .dic []
theorem OkI.parts {d : D} (h : d.OkI) : (d.itemE = true ∧ d.py.showable = true) ∧ d.py.depth ≤ 40 ∧ d.py.leavesShort 1910 = true ∧ d.py.bulk ≤ 700 := by
  rcases h with ⟨h1, h2, h3⟩ | rfl
  · refine ⟨⟨?_, D.fine_show d h1⟩, by rw [D.py_dep d h1]; exact h3, D.fine_short d h1, by rw [D.py_bulk d h1]; exact h2⟩
    have := D.fine_flat d h1
    cases d <;> first | exact this | (cases this; done)
  · exact ⟨⟨rfl, rfl⟩, by decide, by decide, by decide⟩
theorem listE {K : PySem.W.Frag} {S : AS} {H : Hp} {ds : List D} {x : V} {Q : VK} (h1 : Dz K S H (.lst ds) x) (hne : ds ≠ []) (hl : ds.length ≤ 9) (o : ∀ d ∈ ds, d.OkI) (q : Q (.str (D.lst ds).py.shown) H) : rReprG K [x] H Q := by
  have key : ∀ ds : List D, (∀ d ∈ ds, d.OkI) → PyData.depthAll (D.pys ds) ≤ 40 ∧ PyData.leavesShortAll 1910 (D.pys ds) = true ∧ PyData.bulkAll (D.pys ds) ≤ 701 * ds.length := by
    intro ds
    induction ds with
    | nil => intro _; exact ⟨Nat.zero_le _, rfl, Nat.zero_le _⟩
    | cons d ds ih =>
      intro h
      obtain ⟨_, a3, a4, a5⟩ := OkI.parts (h d (List.mem_cons_self ..))
      obtain ⟨b3, b4, b5⟩ := ih fun e m => h e (List.mem_cons_of_mem _ m)
      refine ⟨by simp only [D.pys, PyData.depthAll]; omega, by simp only [D.pys, PyData.leavesShortAll, a4, b4]; rfl, by simp only [D.pys, PyData.bulkAll, List.length_cons]; omega⟩
  obtain ⟨c3, c4, c5⟩ := key ds o
  have short : ∀ d : PyData, d.leavesShort 1910 = true → d.bulk ≤ 7000 → d.shown.length ≤ sizeLine := fun d h1 h2 => by
    have e := PyData.shown_le_bulk 1910 (by decide) d h1
    rw [sizeLine_eq]
    omega
  refine .inr ⟨S, ds, x, rfl, h1, hne, fun d m => ?_, by simp only [D.py, PyData.depth]; omega, short _ (by simp only [D.py, PyData.leavesShort]; exact c4) (by simp only [D.py, PyData.bulk]; omega), q⟩
  obtain ⟨p, _, p4, p5⟩ := OkI.parts (o d m)
  exact ⟨p.1, p.2, short _ p4 (by omega)⟩
theorem notNon {K : PySem.W.Frag} {S : AS} {H : Hp} {d : D} {x : V} (h : Dz K S H d x) (n : d ≠ .non) : decide (x = V.non) = false := by
  refine decide_eq_false fun e => ?_
  subst e
  cases d with
  | non => exact n rfl
  | lst ds => obtain ⟨_, _, e, _⟩ := h; cases e
  | tup ds => obtain ⟨_, _, e, _⟩ := h; cases e
  | ins C fs => obtain ⟨_, _, _, e, _⟩ := h; cases e
  | dic kvs => obtain ⟨_, e, _⟩ := h; cases e
  | _ => cases h
end Vf
namespace Vf
open PySem PySem.Spec PyProof.Rows L2 RZ
/-! ## x *= y of whole numbers; what is seen behind a row, by bounds of strengths -/
def ipM : TIp := fun x y H Q => ∃ i j, x = .int i ∧ y = .int j ∧ CMulW i j ∧ Q (.int (i * j)) H
theorem ip_mul {X : Cx} : PIp X .Mult ipM := by
  intro pins s σ H x y v u Q I r1 r2 h
  obtain ⟨i, j, rfl, rfl, hc, q⟩ := h
  obtain ⟨t, rfl⟩ := r1
  obtain ⟨t', rfl⟩ := r2
  exact imul_int ⟨.int _, H, I.tok _, ⟨_, rfl⟩, q⟩ hc.ok
/-- f( *y ), f a def of the module -/
def tStarC (K : PySem.W.Frag) (sp : Sp) (dvs : List V) (E : XK) (te : TE) : TE := fun σ H Q => te σ H fun y H1 => ∃ a xs, y = V.ref a ∧ (SqT K H1 a xs ∨ SqL K H1 a xs) ∧ sp (xs ++ dvs) H1 Q E
theorem pe_star {X : Cx} {K' : PySem.W.Frag} {CX : CXT} {k : Nat} {f : Addr} {fd : FuncData} {ps : List Str} {ds : List Value} {dvs : List V} {sp : Sp} {E : XK} {x : Str} {e : Expr} {te : TE} {p sp_ pos : Pos} (F : FnOk X.prog X.w X.K X.mg X.base CX k f fd ps sp) (hr : Room k X.A) (hg : Gl X x) (hm : X.mg x = some (.ref f)) (hk : PySem.W.keepIn X.K (.ref f) = true) (hb : Binds X.K fd ps ds) (hd : Vals dvs ds) (hx : Passes CX X E) (he : PE X e te) (hK : X.K = K' := by rfl)
    (hdb : (x == ("__debug__" : Str)) = false := by decide) (hst : starEach [.Starred e sp_] X.env = [(true, eval e X.env)] := by rfl) : PE X (.Call (.Name x p) [.Starred e sp_] [] pos) (tStarC K' sp dvs E te) := by
  subst hK
  exact StX.pe_callS1 (FnOk.raw F hb hd) hr hk hg hm hx he hdb hst
/-- the lower and the upper bound of what is seen as s through an effect, up to the cap -/
def boundsE (o : Option Ef) (cap : Int) (seen : Option Int) : Int × Int :=
  match seen with
  | none => (match o with | none => cap + 1 | some e => e.least, cap)
  | some s =>
    if s = 0 then (1, (match o with | none => cap + 1 | some e => e.least) - 1)
    else match o with
      | none => (cap + 1, cap)
      | some e => if s > e.top then (cap + 1, cap) else (mx e.least (s * e.by_ - e.add), if s = e.top then cap else s * e.by_ - e.add + e.by_ - 1)
/-- is it seen so? -/
def fits (seen : Option Int) (y : Int) : Prop := match seen with
  | none => 0 < y
  | some s => y = s
theorem bounds_iff {o : Option Ef} (hw : oWf o) {cap : Int} {seen : Option Int} (hs : ∀ s, seen = some s → 0 ≤ s) {x : Int} (hx : 1 ≤ x ∧ x ≤ cap) : fits seen (thr o x) ↔ (boundsE o cap seen).1 ≤ x ∧ x ≤ (boundsE o cap seen).2 := by
  have nn := thr_nn hw (x := x)
  cases o with
  | none =>
    have e0 : thr none x = 0 := rfl
    cases seen with
    | none =>
      show 0 < thr none x ↔ cap + 1 ≤ x ∧ x ≤ cap
      omega
    | some s =>
      have h0 := hs s rfl
      show thr none x = s ↔ _
      unfold boundsE
      by_cases q : s = 0
      · simp only [if_pos q]
        omega
      · simp only [if_neg q]
        omega
  | some e =>
    have w := hw e rfl
    by_cases lt : x < e.least
    · rw [thr_lt lt] at nn ⊢
      cases seen with
      | none =>
        show (0 : Int) < 0 ↔ e.least ≤ x ∧ x ≤ cap
        omega
      | some s =>
        have h0 := hs s rfl
        show (0 : Int) = s ↔ _
        unfold boundsE
        by_cases q : s = 0
        · simp only [if_pos q]
          omega
        · simp only [if_neg q]
          have mxl : ∀ y, e.least ≤ mx e.least y := fun y => by unfold mx; split <;> omega
          by_cases q2 : s > e.top
          · simp only [if_pos q2]
            omega
          · simp only [if_neg q2]
            have := mxl (s * e.by_ - e.add)
            constructor
            · intro z; exact absurd z.symm q
            · intro z; omega
    · rw [thr_ge lt] at nn ⊢
      have wp := w.p
      have wt := w.t
      have ws := w.s
      have k1 : ∀ s : Int, s ≤ (x + e.add) / e.by_ ↔ s * e.by_ ≤ x + e.add := fun s => Int.le_ediv_iff_mul_le (by omega)
      have q1 := (k1 1).mpr (by omega)
      generalize hq : (x + e.add) / e.by_ = q at *
      have mnp : 1 ≤ mn e.top q := by unfold mn; split <;> omega
      have mnt : mn e.top q ≤ e.top := by unfold mn; split <;> omega
      cases seen with
      | none =>
        show 0 < mn e.top q ↔ e.least ≤ x ∧ x ≤ cap
        omega
      | some s =>
        have h0 := hs s rfl
        show mn e.top q = s ↔ _
        unfold boundsE
        by_cases z : s = 0
        · simp only [if_pos z]
          omega
        · simp only [if_neg z]
          by_cases z2 : s > e.top
          · simp only [if_pos z2]
            omega
          · simp only [if_neg z2]
            have ks := k1 s
            have ks1 := k1 (s + 1)
            rw [Int.add_mul, Int.one_mul] at ks1
            have mxi : mx e.least (s * e.by_ - e.add) ≤ x ↔ s * e.by_ ≤ x + e.add := by
              unfold mx
              split <;> omega
            rw [mxi]
            generalize s * e.by_ = sb at *
            by_cases z3 : s = e.top
            · rw [if_pos z3]
              unfold mn
              split <;> omega
            · rw [if_neg z3]
              unfold mn
              split <;> omega
end Vf
namespace Vf
open PySem PySem.Spec PyProof.Rows L2 RZ
/-! ## repr of a dict of plain values; a dict told out by its pairs -/
def vScal (v : V) : Bool := match v with
  | .non | .bl _ | .int _ | .str _ => true
  | _ => false
section
variable {X : Cx} {pins : List (Addr × Obj)} {σ : L2.St} {H : Hp} {s : Shared} {S : AS}
theorem scal_reads {h : Heap} {v : V} {u : Value} (f : vScal v = true) (r : RelV v u) : Reads h u (vPy v) [] := by
  cases v with
  | non => cases r; exact .none
  | bl b => cases r; exact .bool b
  | int i => obtain ⟨t, rfl⟩ := r; exact .int i t
  | str z => obtain ⟨t, rfl⟩ := r; exact .str z t
  | _ => cases f
theorem key_reads {h : Heap} {k : Key} {u : Value} (r : (mixKind X.prog X.w).is k u = true) : Reads h u (keyPy k) [] := by
  rcases keyIs_shape r with ⟨i, t, rfl, rfl⟩ | ⟨x, t, rfl, rfl⟩
  · exact .int i t
  · exact .str x t
theorem pairs_reads {h : Heap} {kvs : List (Key × V)} : ∀ {vs : List (Key × Value)} {es : List DictEntry}, (∀ p ∈ kvs, vScal p.2 = true) → KV kvs vs → Pairs (mixKind X.prog X.w) es vs →
    ReadsAll h (es.map (·.key)) ((kvs.map fun p => (keyPy p.1, vPy p.2)).map (·.1)) [] ∧ ReadsAll h (es.map (·.val)) ((kvs.map fun p => (keyPy p.1, vPy p.2)).map (·.2)) [] := by
  induction kvs with
  | nil =>
    intro vs es _ r p
    cases r
    cases p
    exact ⟨.nil, .nil⟩
  | cons kv kvs ih =>
    intro vs es f r p
    cases r with
    | cons r1 r2 =>
      cases p with
      | cons p1 p2 p3 =>
        obtain ⟨g1, g2⟩ := ih (fun q m => f q (List.mem_cons_of_mem _ m)) r2 p3
        refine ⟨?_, ?_⟩
        · have e := key_reads (h := h) p1
          rw [← r1.1] at e
          exact ReadsAll.cons (as := []) (bs := []) e g1
        · have e := scal_reads (h := h) (f kv (List.mem_cons_self ..)) r1.2
          rw [← p2] at e
          exact ReadsAll.cons (as := []) (bs := []) e g2
theorem dic_reads (I : Inv X pins σ H s) {a : Addr} {kvs : List (Key × V)} (f : ∀ p ∈ kvs, vScal p.2 = true) (h1 : H a = some (.dK kvs)) : Reads s.heap (.ref a) (D.dic kvs).py [a] ∧ sysModules ∉ [a] := by
  obtain ⟨_, hsm, vs, rel, dd⟩ := dk_of I.hok h1
  obtain ⟨o, es, ep, ho, hx, hd, hk, hp, _⟩ := dd
  obtain ⟨g1, g2⟩ := pairs_reads (h := s.heap) f rel hp
  simp only [D.py]
  refine ⟨Reads.dict (as := []) (bs := []) ho hx.1 hd g1 g2, fun m => ?_⟩
  have m : sysModules = a := by simpa using m
  rw [m] at hsm
  simp at hsm
end
/-- repr of a dict of plain values -/
def rReprDic (K : PySem.W.Frag) : List V → Hp → VK → Prop := fun xs H Q => ∃ (a : Addr) (kvs : List (Key × V)), xs = [.ref a] ∧ H a = some (.dK kvs) ∧ (∀ p ∈ kvs, vScal p.2 = true) ∧ (D.dic kvs).py.showable = true ∧ (D.dic kvs).py.depth ≤ 60 ∧ (D.dic kvs).py.shown.length ≤ sizeLine ∧ Q (.str (D.dic kvs).py.shown) H
theorem call_reprDic {X : Cx} (hgd : X.A.guards = some []) (hu : X.A.units + 64 < cLine) : CallR X (.builtin "repr") (rReprDic X.K) := by
  intro pins s σ H xs us Q I r h
  obtain ⟨a, kvs, rfl, h1, hf, hsh, hdp, hsz, q⟩ := h
  obtain ⟨u, rfl, ru⟩ := vals1 r
  cases ru
  obtain ⟨rd, hsm⟩ := dic_reads I hf h1
  exact repr_of_reads' rd hsh (fun _ => hsm) hgd (by omega) (fun _ _ e => e) (fun h' u tk k => lift_kept I q k) hsz
def rReprH (K : PySem.W.Frag) : List V → Hp → VK → Prop := fun xs H Q => rReprG K xs H Q ∨ rReprDic K xs H Q
theorem call_reprH {X : Cx} (hgd : X.A.guards = some []) (hu : X.A.units + 64 < cLine) : CallR X (.builtin "repr") (rReprH X.K) := CallR.or (call_reprG hgd hu) (call_reprDic hgd hu)
theorem o_reprH {K : PySem.W.Frag} {S : AS} {H : Hp} {d : D} {x : V} {Q : VK} (h1 : Dz K S H d x) (o : d.Ok) (q : Q (.str d.py.shown) H) : rReprH K [x] H Q := .inl (o_reprG h1 o q)
theorem o_reprDic {K : PySem.W.Frag} {S : AS} {H : Hp} {kvs : List (Key × V)} {x : V} {Q : VK} (h1 : Dz K S H (.dic kvs) x) (f : (kvs.all fun p => vScal p.2) = true) (o : ((D.dic kvs).py.showable && (decide ((D.dic kvs).py.depth ≤ 60) && decide ((D.dic kvs).py.shown.length ≤ 1000000))) = true) (q : Q (.str (D.dic kvs).py.shown) H) : rReprH K [x] H Q := by
  obtain ⟨a, rfl, _, h⟩ := h1
  rw [Bool.and_eq_true, Bool.and_eq_true] at o
  exact .inr ⟨a, kvs, rfl, h, fun p m => List.all_eq_true.mp f p m, o.1, of_decide_eq_true o.2.1, by rw [sizeLine_eq]; have := of_decide_eq_true o.2.2; omega, q⟩
/-- {} -/
theorem d_dic0 {K : PySem.W.Frag} {S M : AS} {H0 H : Hp} {G : List (V × D)} {L : List (Addr × List D)} {B : List Addr} {Q : VK} {σ : L2.St} (st : Vf.St K S M H0 H G L B) (q : ∀ p H', Vf.St K S M H0 H' ((.ref p, .dic []) :: G) L B → Q (.ref p) H') : tDNewK σ H Q :=
  fun p n => q p _ ((st.same (Same.upd n)).add ⟨p, rfl, st.nS n, upd_same⟩)
/-- {k: v} with constants -/
theorem d_dic1 {K : PySem.W.Frag} {S M : AS} {H0 H : Hp} {G : List (V × D)} {L : List (Addr × List D)} {B : List Addr} {Q : VK} {σ : L2.St} {k : Key} {v : V} (st : Vf.St K S M H0 H G L B) (q : ∀ p H', Vf.St K S M H0 H' ((.ref p, .dic [(k, v)]) :: G) L B → Q (.ref p) H') : tDisp [(tC (kV k), tC v)] σ H Q := by
  intro p n
  refine ⟨upd_same, [(k, v)], rfl, (by show 1 ≤ 15; omega), ?_⟩
  refine q p _ ((st.same ?_).add ⟨p, rfl, st.nS n, upd_same⟩)
  refine fun a o e => ?_
  have na : a ≠ p := fun z => by rw [z, n] at e; cases e
  rw [upd_ne na, upd_ne na]
  exact e
end Vf
namespace Vf
open PySem PySem.Spec PyProof.Rows L2 RZ
/-! ## the kinds, asked of plain data -/
def letOk (c : Nat) : Bool := decide (97 ≤ c) && decide (c ≤ 122)
theorem let_in (c : Nat) : decide (c ∈ (Str.ofString "abcdefghijklmnopqrstuvwxyz").cps.toList) = letOk c := by
  have e : (Str.ofString "abcdefghijklmnopqrstuvwxyz").cps.toList = [97, 98, 99, 100, 101, 102, 103, 104, 105, 106, 107, 108, 109, 110, 111, 112, 113, 114, 115, 116, 117, 118, 119, 120, 121, 122] := by decide +kernel
  rw [e]
  unfold letOk
  rw [← Bool.decide_and, decide_eq_decide]
  simp only [List.mem_cons, List.not_mem_nil, or_false]
  omega
def isName (d : D) : Bool := match d with
  | .str z => (decide (1 ≤ z.cps.size) && decide (z.cps.size ≤ 8)) && z.cps.toList.all letOk
  | _ => false
theorem isName_eq {z : Str} (h1 : 1 ≤ z.cps.size) (h2 : z.cps.size ≤ 8) : isName (.str z) = (z.cps.toList.filter fun c => !decide (c ∈ (Str.ofString "abcdefghijklmnopqrstuvwxyz").cps.toList)).isEmpty := by
  show ((decide (1 ≤ z.cps.size) && decide (z.cps.size ≤ 8)) && z.cps.toList.all letOk) = _
  rw [decide_eq_true h1, decide_eq_true h2, Bool.true_and, Bool.true_and]
  induction z.cps.toList with
  | nil => rfl
  | cons c cs ih =>
    rw [List.all_cons, List.filter_cons, ih, let_in]
    cases letOk c <;> rfl
theorem isRow_iff3 {z : Str} (h2 : z.cps.size ≤ 200) : isRow (.str z) = (z.cps.toList.filter fun c => !decide (c ∈ (Str.ofString ".a").cps.toList)).isEmpty := by
  show (decide (z.cps.size ≤ 200) && z.cps.toList.all signOk) = _
  rw [decide_eq_true (by omega), Bool.true_and]
  induction z.cps.toList with
  | nil => rfl
  | cons c cs ih =>
    rw [List.all_cons, List.filter_cons, ih]
    have e : signOk c = decide (c ∈ (Str.ofString ".a").cps.toList) := by
      have : (Str.ofString ".a").cps.toList = [46, 97] := by decide +kernel
      rw [this]
      unfold signOk
      by_cases a : c = 46
      · subst a; rfl
      · by_cases b : c = 97
        · subst b; rfl
        · simp [a, b]
    rw [e]
    by_cases q : c ∈ (Str.ofString ".a").cps.toList
    · rw [decide_eq_true q]; rfl
    · rw [decide_eq_false q]; rfl
/-- a plain thing: no instance, its text plain and not long -/
def fewS (d : D) : Prop := d.noIns = true ∧ ∀ z, d = .str z → z.length ≤ 100000 ∧ PyData.strOk z = true
/-- .. and no instance in a tuple -/
structure kindPre (d : D) : Prop where
  few : fewS d
  tup : ∀ ds, d = .tup ds → ds.length ≤ 100000 ∧ (∀ x ∈ ds, x.noIns = true) ∧ d.Ok
theorem kindPre.no {d : D} (h : kindPre d) : d.noIns = true := h.few.1
def valI (d : D) : Int := match d with
  | .int i => i
  | _ => 0
def risingB : List D → Bool
  | a :: b :: r => decide (valI a < valI b) && risingB (b :: r)
  | _ => true
def isHours (d : D) : Bool := match d with
  | .tup ds => (decide (1 ≤ ds.length) && decide (ds.length ≤ 24)) && (ds.all (fun x => isWithin x 0 23) && risingB ds)
  | _ => false
theorem within_val {d : D} {lo hi : Int} (h : isWithin d lo hi = true) : d = .int (valI d) ∧ lo ≤ valI d ∧ valI d ≤ hi := by
  cases d with
  | int i =>
    have h : decide (lo ≤ i ∧ i ≤ hi) = true := h
    exact ⟨rfl, of_decide_eq_true h⟩
  | _ => cases h
theorem rising_low : ∀ {ds : List D} {k : Int}, (∀ d ∈ ds, isWithin d 0 23 = true) → risingB ds = true → (∀ d, ds.head? = some d → k ≤ valI d) → ds ≠ [] → k + (ds.length : Nat) ≤ 24
  | [], _, _, _, _, h => absurd rfl h
  | [a], k, h, _, hk, _ => by
    have := (within_val (h a (List.mem_cons_self ..))).2.2
    have := hk a rfl
    show k + ((1 : Nat) : Int) ≤ 24
    omega
  | a :: b :: r, k, h, hr, hk, _ => by
    have hr : (decide (valI a < valI b) && risingB (b :: r)) = true := hr
    rw [Bool.and_eq_true] at hr
    have lt := of_decide_eq_true hr.1
    have ka := hk a rfl
    have ih := rising_low (ds := b :: r) (k := k + 1) (fun d m => h d (List.mem_cons_of_mem _ m)) hr.2 (fun d e => by cases e; omega) (by simp)
    simp only [List.length_cons] at ih ⊢
    omega
/-- hours without their number looked at -/
theorem hours_alt {ds : List D} (h1 : ds ≠ []) (h2 : (ds.all fun x => isWithin x 0 23) = true) : isHours (.tup ds) = risingB ds := by
  show ((decide (1 ≤ ds.length) && decide (ds.length ≤ 24)) && (ds.all (fun x => isWithin x 0 23) && risingB ds)) = _
  rw [h2, decide_eq_true (show 1 ≤ ds.length from List.length_pos_iff.mpr h1)]
  cases hr : risingB ds with
  | false => simp
  | true =>
    have := rising_low (k := 0) (fun d m => List.all_eq_true.mp h2 d m) hr (fun d e => (within_val (List.all_eq_true.mp h2 d (List.mem_of_head? e))).2.1) h1
    rw [decide_eq_true (by omega : ds.length ≤ 24)]
    rfl
theorem rising_get : ∀ {ds : List D}, risingB ds = ((List.range (ds.length - 1)).map fun k => decide (valI (ds.getD k .non) < valI (ds.getD (k + 1) .non))).all id
  | [] => rfl
  | [_] => rfl
  | a :: b :: r => by
    show (decide (valI a < valI b) && risingB (b :: r)) = _
    rw [rising_get (ds := b :: r)]
    rw [show (a :: b :: r).length - 1 = ((b :: r).length - 1) + 1 by simp only [List.length_cons]; omega, List.range_succ_eq_map, List.map_cons, List.map_map, List.all_cons]
    rfl
def kindsD (d : D) : D := .lst [.bl (isWhole d), .bl (isName d), .bl (isWithin d 0 9), .bl (isWithin d 1 (10 ^ 9)), .bl (isWithin d 0 (10 ^ 9)), .bl (isWithin d (-(10 ^ 9)) (10 ^ 9)), .bl (isWithin d 1 (10 ^ 12)), .bl (isWithin d 0 (10 ^ 30)), .bl (isHours d), .bl (isRow d), .bl (isStep d)]
theorem flat_noIns {d : D} (h : d.flat = true) : d.noIns = true := by
  cases d <;> first | rfl | (cases h; done)
theorem flats_mem : ∀ {ds : List D}, D.flats ds = true → ∀ d ∈ ds, d.flat = true
  | [], _, _, m => by simp at m
  | e :: ds, h, d, m => by
    simp only [D.flats, Bool.and_eq_true] at h
    rcases List.mem_cons.mp m with rfl | m
    · exact h.1
    · exact flats_mem h.2 d m
theorem wts_len : ∀ ds : List D, ds.length ≤ D.wts ds
  | [] => Nat.zero_le _
  | d :: ds => by
    have := wts_len ds
    simp only [D.wts, List.length_cons]
    omega
theorem ok_ask {d : D} (h : d.Ok) : kindPre d := by
  have hf := h.flat
  have no := flat_noIns hf
  have hw := h.wt
  have tp : ∀ ds, d = .tup ds → ds.length ≤ 100000 ∧ ∀ x ∈ ds, x.noIns = true := by
    intro ds e
    subst e
    refine ⟨?_, fun x m => flat_noIns (flats_mem (by simpa only [D.flat] using hf) x m)⟩
    have := wts_len ds
    simp only [D.wt] at hw
    omega
  have tx : ∀ z, d = .str z → z.length ≤ 100000 ∧ PyData.strOk z = true := by
    intro z e
    subst e
    have hfi := h.fine
    simp only [D.fine, Bool.and_eq_true] at hfi
    simp only [D.wt] at hw
    exact ⟨by show z.cps.size ≤ 100000; omega, hfi.1⟩
  exact ⟨⟨no, tx⟩, fun ds e => ⟨(tp ds e).1, (tp ds e).2, h⟩⟩
/-- a thing that is drawn: it may be shown, or is a dict of none or one -/
def dicA : D := .dic [(.inr (Str.ofString "a"), .int 1)]
def thK (d : D) : Prop := d.Ok ∨ d = .dic [] ∨ d = dicA
theorem thK.ask {d : D} (h : thK d) : kindPre d := by
  rcases h with h | rfl | rfl
  · exact ok_ask h
  · exact ⟨⟨rfl, fun z e => by cases e⟩, fun ds e => by cases e⟩
  · exact ⟨⟨rfl, fun z e => by cases e⟩, fun ds e => by cases e⟩
theorem thK.repr {K : PySem.W.Frag} {S : AS} {H : Hp} {d : D} {x : V} {Q : VK} (h : thK d) (hz : Dz K S H d x) (q : Q (.str d.py.shown) H) : rReprH K [x] H Q := by
  rcases h with h | rfl | rfl
  · exact o_reprH hz h q
  · exact o_reprDic hz (by decide +kernel) (by decide +kernel) q
  · exact o_reprDic hz (by decide +kernel) (by decide +kernel) q
/-- by looking, for what is written out -/
def okB (d : D) : Bool := d.fine && (decide (d.wt ≤ 8000) && decide (d.dep ≤ 60))
theorem okB_ok {d : D} (h : okB d = true) : d.Ok := by
  unfold okB at h
  rw [Bool.and_eq_true, Bool.and_eq_true] at h
  exact ⟨h.1, of_decide_eq_true h.2.1, of_decide_eq_true h.2.2⟩
theorem str_ok {z : Str} (h1 : z.cps.size ≤ 1000) (h2 : ∀ c ∈ z.cps.toList, c < 128) : (D.str z).Ok := by
  refine ⟨?_, by simp only [D.wt]; omega, by simp only [D.dep]; decide⟩
  have so : PyData.strOk z = true := by
    show z.cps.all (· < 0x110000) = true
    rw [Array.all_eq_true_iff_forall_mem]
    intro c hc
    have := h2 c (Array.mem_toList_iff.mpr hc)
    simp
    omega
  simp only [D.fine, so, Bool.true_and, List.all_eq_true, decide_eq_true_eq]
  intro c hc
  have := h2 c hc
  omega
/-- plain values one beside another -/
def scalB (d : D) : Bool := match d with
  | .non | .bl _ => true
  | .int i => decide (i.natAbs < 2 ^ 1900)
  | _ => false
theorem scals_ok : ∀ {ds : List D}, (∀ d ∈ ds, d.Ok ∧ d.wt ≤ 10 ∧ d.dep ≤ 3) → D.fines ds = true ∧ D.wts ds ≤ 11 * ds.length ∧ D.deps ds ≤ 4
  | [], _ => ⟨rfl, Nat.zero_le _, by simp only [D.deps]; decide⟩
  | d :: ds, h => by
    obtain ⟨a, b, c⟩ := scals_ok fun e m => h e (List.mem_cons_of_mem _ m)
    obtain ⟨h1, h2, h3⟩ := h d (List.mem_cons_self ..)
    refine ⟨by simp only [D.fines, h1.fine, a, Bool.and_self], by simp only [D.wts, List.length_cons]; omega, by simp only [D.deps]; omega⟩
theorem tup_ok {ds : List D} (h : ∀ d ∈ ds, d.Ok ∧ d.wt ≤ 10 ∧ d.dep ≤ 3) (hl : ds.length ≤ 300) : (D.tup ds).Ok ∧ (D.lst ds).Ok := by
  obtain ⟨a, b, c⟩ := scals_ok h
  refine ⟨⟨by simp only [D.fine]; exact a, by simp only [D.wt]; omega, by simp only [D.dep]; omega⟩, ⟨by simp only [D.fine]; exact a, by simp only [D.wt]; omega, by simp only [D.dep]; omega⟩⟩
theorem St.seeO {K : PySem.W.Frag} {S M : AS} {H0 H : Hp} {G : List (V × D)} {L : List (Addr × List D)} {B : List Addr} {p : Addr} {ds : List D} (st : Vf.St K S M H0 H G L B) (m : (p, ds) ∈ L) : Dz K (fun _ => False) H (.lst ds) (.ref p) := by
  obtain ⟨_, _, xs, h3, h4⟩ := st.la (p, ds) m
  exact ⟨p, xs, rfl, ⟨fun h => h, h3⟩, DzL.weak (fun _ h => h.elim) h4⟩
theorem eqv_nilL {ds : List D} : PyData.eqv (D.lst ds).py (D.lst []).py = ds.isEmpty := by
  cases ds <;> rfl
theorem ints_okL {ns : List Int} (hl : ns.length ≤ 300) (h : ∀ n ∈ ns, n.natAbs < 2 ^ 200) : (D.lst (ns.map D.int)).Ok := by
  refine (tup_ok (fun d m => ?_) (by rw [List.length_map]; exact hl)).2
  obtain ⟨n, hn, rfl⟩ := List.mem_map.mp m
  exact ⟨Vf.int_ok (h n hn), by simp only [D.wt]; omega, by simp only [D.dep]; omega⟩
/-- a plain text -/
def plainZ (k : Nat) (z : Str) : Prop := z.cps.size ≤ k ∧ ∀ c ∈ z.cps.toList, c < 128
/-- tuple + tuple -/
theorem v_catT {K : PySem.W.Frag} {S M : AS} {H0 H : Hp} {G : List (V × D)} {L : List (Addr × List D)} {B : List Addr} {Q : VK} {a b : Addr} {ds es : List D} (st : Vf.St K S M H0 H G L B) (h : Dz K S H (.tup ds) (.ref a)) (h' : Dz K S H (.tup es) (.ref b)) (hl : ds.length + es.length ≤ sizeLine) (q : ∀ p H', Vf.St K S M H0 H' ((.ref p, .tup (ds ++ es)) :: G) L B → Q (.ref p) H') : rAddG K (.ref a) (.ref b) H Q := by
  obtain ⟨xs, h1, h2⟩ := z_tup h
  obtain ⟨ys, h3, h4⟩ := z_tup h'
  refine .inr (.inr (.inr ⟨a, b, xs, ys, rfl, rfl, h1.sq, h3.sq, by rw [h2.len, h4.len]; exact hl, fun e => ?_, fun _ e => ?_, fun _ _ p n => q p _ (st.tup n (h2.app h4))⟩))
  · have e0 : ds = [] := by
      have := h2.len
      rw [e] at this
      exact List.length_eq_zero_iff.mp this.symm
    refine q b H (st.add ?_)
    rw [e0]
    exact h'
  · have e0 : es = [] := by
      have := h4.len
      rw [e] at this
      exact List.length_eq_zero_iff.mp this.symm
    refine q a H (st.add ?_)
    rw [e0, List.append_nil]
    exact h
end Vf
namespace Vf
open PySem PySem.Spec PyProof.Rows L2 RZ
/-! ## lists of the very same things are alike, whatever these are -/
/-- == and != of two lists whose items are the very same objects -/
def rSameL (K : PySem.W.Frag) (b : Bool) : R2 := fun x y H Q => ∃ (p q : Addr) (as : List Addr), x = .ref p ∧ y = .ref q ∧ SqL K H p (as.map V.ref) ∧ SqL K H q (as.map V.ref) ∧ Q (.bl b) H
theorem vals_refs : ∀ {as : List Addr} {us : List Value}, Vals (as.map V.ref) us → us = as.map Value.ref
  | [], _, h => by cases h; rfl
  | a :: as, _, h => by
    cases h with
    | cons h1 h2 =>
      cases h1
      rw [vals_refs h2]
      rfl
theorem range_true (n : Nat) : (List.range n).all (fun _ => true) = true := by simp
theorem op_sameEq {X : Cx} (hu : X.A.units + 64 < cLine) : OpR X (compareOp .Eq) (rSameL X.K true) := by
  intro pins s σ H x y v u Q I rx ry h
  obtain ⟨p, q, as, rfl, rfl, h1, h2, k⟩ := h
  cases rx
  cases ry
  obtain ⟨its, r1, ⟨o, n, ho, hc, _, hd⟩, _⟩ := I.list h1
  obtain ⟨its2, r2, ⟨o2, n2, ho2, hc2, _, hd2⟩, _⟩ := I.list h2
  have e1 := vals_refs r1
  have e2 := vals_refs r2
  subst e1 e2
  refine SeqAt.eq_listAt (e := fun _ => true) ⟨o, ho, hc, n, hd⟩ ⟨o2, ho2, hc2, n2, hd2⟩ rfl (by omega) (fun j _ _ => SeqAt.EqAt.same _) ?_
  rw [range_true]
  exact ⟨.bl true, H, I, rfl, k⟩
theorem op_sameNe {X : Cx} (hu : X.A.units + 64 < cLine) : OpR X (compareOp .NotEq) (rSameL X.K false) := by
  intro pins s σ H x y v u Q I rx ry h
  obtain ⟨p, q, as, rfl, rfl, h1, h2, k⟩ := h
  cases rx
  cases ry
  obtain ⟨its, r1, ⟨o, n, ho, hc, _, hd⟩, _⟩ := I.list h1
  obtain ⟨its2, r2, ⟨o2, n2, ho2, hc2, _, hd2⟩, _⟩ := I.list h2
  have e1 := vals_refs r1
  have e2 := vals_refs r2
  subst e1 e2
  have z := SeqAt.RcNeAt.lists (A := X.A) (e := fun _ => true) (s := s) ⟨o, ho, hc, n, hd⟩ ⟨o2, ho2, hc2, n2, hd2⟩ rfl (by omega) (fun j _ _ => SeqAt.EqAt.same _)
  rw [range_true] at z
  exact z X.prog X.w _ _ ⟨.bl false, H, I, rfl, k⟩
def rEqH (K : PySem.W.Frag) : R2 := fun x y H Q => rEqG K x y H Q ∨ rSameL K true x y H Q
def rNeH (K : PySem.W.Frag) : R2 := fun x y H Q => rNeG K x y H Q ∨ rSameL K false x y H Q
theorem opEqH {X : Cx} (hu : X.A.units + 64 < cLine) : OpR X (compareOp .Eq) (rEqH X.K) := OpR.or (opEq hu) (op_sameEq hu)
theorem opNeH {X : Cx} (hu : X.A.units + 64 < cLine) : OpR X (compareOp .NotEq) (rNeH X.K) := OpR.or (opNe hu) (op_sameNe hu)
/-! ## [x] * n -/
theorem zl_repS {K : PySem.W.Frag} {S : AS} {H : Hp} {d : D} {x : V} (h : Dz K S H d x) : ∀ n : Nat, DzL K S H (List.replicate n d) ((List.replicate n [x]).flatten)
  | 0 => zl_nil
  | n + 1 => by
    rw [List.replicate_succ, List.replicate_succ, List.flatten_cons]
    exact zl_cons h (zl_repS h n)
theorem d_repG {K : PySem.W.Frag} {S M : AS} {H0 H : Hp} {G : List (V × D)} {L : List (Addr × List D)} {B : List Addr} {Q : VK} {d : D} {a : Addr} {k : Int} (st : Vf.St K S M H0 H G L B) (h : Dz K S H (.lst [d]) (.ref a)) (hk : 0 ≤ k ∧ k ≤ 1000) (q : ∀ p H', Vf.St K S M H0 H' ((.ref p, .lst (List.replicate k.toNat d)) :: G) L B → Q (.ref p) H') : rRep (.ref a) (.int k) H Q := by
  obtain ⟨xs, h1, h2⟩ := z_lst h
  obtain ⟨x, _, rfl, hx, rfl⟩ := h2
  refine ⟨a, k, [x], rfl, rfl, h1.2, by omega, by omega, ?_, fun p n => q p _ (st.lst n (zl_repS hx k.toNat))⟩
  rw [sizeLine_eq]
  show 1 * k.toNat ≤ _
  omega
theorem d_repO {K : PySem.W.Frag} {S M : AS} {H0 H : Hp} {G : List (V × D)} {L : List (Addr × List D)} {B : List Addr} {Q : VK} {d : D} {a : Addr} {k : Int} (st : Vf.St K S M H0 H G L B) (h : Dz K S H (.lst [d]) (.ref a)) (hk : 0 ≤ k ∧ k ≤ 1000) (q : ∀ p H', ¬ S p → Vf.St K (fun b => S b ∨ b = p) M H0 H' G ((p, List.replicate k.toNat d) :: L) B → Q (.ref p) H') : rRep (.ref a) (.int k) H Q := by
  obtain ⟨xs, h1, h2⟩ := z_lst h
  obtain ⟨x, _, rfl, hx, rfl⟩ := h2
  refine ⟨a, k, [x], rfl, rfl, h1.2, by omega, by omega, ?_, fun p n => q p _ (st.nS n) (st.own n (zl_repS hx k.toNat))⟩
  rw [sizeLine_eq]
  show 1 * k.toNat ≤ _
  omega
/-! ## a def that is given an own list beside the bag -/
section
variable {K : PySem.W.Frag} {S M : AS} {H0 H H' : Hp} {G G' : List (V × D)} {L : List (Addr × List D)} {b p : Addr} {ds : List D} {xs r : List V}
def spDrO {α : Type} (K : PySem.W.Frag) (encL enc : α → List D) (pre : α → Prop) (post : α → D → Prop) : Sp := fun vs H Q _ => ∃ S b p r a xs, vs = .ref b :: .ref p :: r ∧ Okk S H ∧ S b ∧ S p ∧ p ≠ b ∧ Bag K S H b ∧ H p = some (.lst xs) ∧ DzL K S H (encL a) xs ∧ DzL K S H (enc a) r ∧ pre a ∧
  ∀ v d H', Kp (fun c => c = b ∨ c = p) H H' → Bag K S H' b → (∃ xs', H' p = some (.lst xs') ∧ DzL K S H' (encL a) xs') → Dz K S H' d v → post a d → Q v H'
theorem spDrO_len {α : Type} {encL enc : α → List D} {pre : α → Prop} {post : α → D → Prop} {vs : List V} {Q : VK} {E : XK} {n : Nat} (hn : ∀ a, (enc a).length = n) (h : spDrO K encL enc pre post vs H Q E) : vs.length = n + 2 := by
  obtain ⟨S, b, p, r, a, xs, rfl, _, _, _, _, _, _, _, hz, _⟩ := h
  show (r.length + 1) + 1 = _
  rw [hz.len, hn]
theorem St.startBO (ok : Okk S H) (sb : S b) (sp : S p) (ne : p ≠ b) (bg : Bag K S H b) (hp : H p = some (.lst xs)) (hx : DzL K S H ds xs) : Vf.St K S (fun c => c = b ∨ c = p) H H [] [(p, ds)] [b] :=
  ⟨ok, fun _ _ _ h => h, fun _ h => h, fun q m => by simp at m, fun q m => by
    rw [List.mem_singleton.mp m]
    exact ⟨sp, .inr (.inr rfl), xs, hp, hx⟩, fun a m => by
    rw [List.mem_singleton.mp m]
    exact ⟨sb, .inr (.inl rfl), bg⟩, by simp [ne]⟩
theorem St.bagO (st : Vf.St K S M H0 H G ((p, ds) :: L) [b]) (k : Kp (fun c => c = b ∨ c = p) H H') (bg : Bag K S H' b) (hp : ∃ xs', H' p = some (.lst xs') ∧ DzL K S H' ds xs') : Vf.St K S M H0 H' G ((p, ds) :: L) [b] := by
  obtain ⟨h1, h2, _⟩ := st.ba b (List.mem_singleton.mpr rfl)
  obtain ⟨p1, p2, _⟩ := st.la (p, ds) (List.mem_cons_self ..)
  have p1 : S p := p1
  have p2 : H0 p = none ∨ M p := p2
  obtain ⟨xs', hp1, hp2⟩ := hp
  have ms : ∀ c, (c = b ∨ c = p) → S c := fun c e => e.elim (fun e => e ▸ h1) (fun e => e ▸ p1)
  have dm : ∀ c, H c ≠ none → H' c ≠ none := fun c n => by
    by_cases z : c = b
    · subst z
      obtain ⟨r, x, i, cc, ns, q, _⟩ := bg.ex
      rw [q]; exact fun w => by cases w
    · by_cases z2 : c = p
      · subst z2
        rw [hp1]; exact fun w => by cases w
      · cases q : H c with
        | none => exact absurd q n
        | some o => rw [k c o (fun w => w.elim z z2) q]; exact fun w => by cases w
  have nd := st.nd
  rw [List.map_cons, List.cons_append, List.nodup_cons] at nd
  refine ⟨fun c s => dm c (st.ok c s), fun c o n e => ?_, fun c n => dm c (st.dm c n), fun q hq => Dz.keep k ms (st.ga q hq), fun q hq => ?_, fun c hc => ?_, st.nd⟩
  · refine k c o (fun z => ?_) (st.kp c o n e)
    rcases z with rfl | rfl
    · rcases h2 with h2 | h2
      · rw [e] at h2; cases h2
      · exact n h2
    · rcases p2 with h2 | h2
      · rw [e] at h2; cases h2
      · exact n h2
  · rcases List.mem_cons.mp hq with z | z
    · subst z
      exact ⟨p1, p2, xs', hp1, hp2⟩
    · obtain ⟨q1, q2, ys, q3, q4⟩ := st.la q hq
      have ne1 : q.1 ≠ p := fun e => nd.1 (List.mem_append_left _ (List.mem_map.mpr ⟨q, z, e⟩))
      have ne2 : q.1 ≠ b := fun e => (List.nodup_append.mp nd.2).2.2 q.1 (List.mem_map.mpr ⟨q, z, rfl⟩) b (List.mem_singleton.mpr rfl) e
      exact ⟨q1, q2, ys, k _ _ (fun w => w.elim ne2 ne1) q3, DzL.keep k ms q4⟩
  · rw [List.mem_singleton.mp hc]
    exact ⟨h1, h2, bg⟩
theorem c_DrO {α : Type} {encL enc : α → List D} {pre : α → Prop} {post : α → D → Prop} {vs : List V} {Q : VK} {E : XK} (a : α) (st : Vf.St K S M H0 H G ((p, encL a) :: L) [b]) (hz : DzL K S H (enc a) vs) (hp : pre a) (q : ∀ v d H', post a d → Vf.St K S M H0 H' ((v, d) :: G) ((p, encL a) :: L) [b] → Q v H') : spDrO K encL enc pre post (.ref b :: .ref p :: vs) H Q E := by
  obtain ⟨h1, h2, h3⟩ := st.ba b (List.mem_singleton.mpr rfl)
  obtain ⟨p1, p2, xs, p3, p4⟩ := st.la (p, encL a) (List.mem_cons_self ..)
  have nd := st.nd
  rw [List.map_cons, List.cons_append, List.nodup_cons] at nd
  refine ⟨S, b, p, vs, a, xs, rfl, st.ok, h1, p1, fun e => nd.1 (List.mem_append_right _ (List.mem_singleton.mpr e)), h3, p3, p4, hz, hp, fun v d H' k bg hx hv po => q v d H' po ((st.bagO k bg hx).add hv)⟩
/-- the last item of an own list -/
theorem d_own_end {a : Addr} {es : List D} {d : D} {L : List (Addr × List D)} {B : List Addr} {Q : VK} (k : Nat) (st : Vf.St K S M H0 H G L B) (hl : (a, es) ∈ L) (h0 : 0 < k) (h1 : k ≤ es.length) (hd : es[es.length - k]? = some d) (q : ∀ v, Dz K S H d v → Q v H) : rIxG K (.ref a) (.int (-(k : Nat))) H Q := by
  obtain ⟨_, _, xs, h3, z2⟩ := st.la (a, es) hl
  have z2 : DzL K S H es xs := z2
  have hl := z2.len
  obtain ⟨v, e, hv⟩ := z2.get hd
  refine .inl ⟨a, xs, _, v, rfl, rfl, SqL.of h3, ?_, q v hv⟩
  unfold atI ixN
  rw [if_neg (by omega), if_pos (by omega)]
  show xs[(-((k : Nat) : Int) + (xs.length : Int)).toNat]? = some v
  rw [show (-((k : Nat) : Int) + (xs.length : Int)).toNat = es.length - k by omega]
  exact e
end
/-- a plan may be compared -/
theorem planD_ok2 {w : Wn} (h : w.Ok) : (planD w).fine = true ∧ (planD w).wt ≤ 200 ∧ (planD w).dep ≤ 5 := by
  obtain ⟨a1, a2, a3⟩ := steps_fine h.hs
  obtain ⟨b1, b2, b3⟩ := steps_fine h.ts
  have c1 := h.c1
  have c2 := h.c2
  have l1 := h.l1
  have l2 := h.l2
  have hl := h.hl
  have tl := h.t24
  have i1 := (Vf.int_ok (i := w.cap) (by omega)).fine
  have i2 := (Vf.int_ok (i := w.lift) (by omega)).fine
  refine ⟨?_, ?_, ?_⟩
  · simp only [planD, D.fine, D.fines, Bool.and_eq_true]
    simp only [D.fine] at i1 i2
    exact ⟨a1, b1, i1, i2, trivial, trivial⟩
  · simp only [planD, D.wt, D.wts]; omega
  · simp only [planD, D.dep, D.deps]; omega
/-! ## C(..) of an own list, with what stays as it is -/
section
variable {α : Type} {K : PySem.W.Frag} {S M : AS} {H0 H : Hp} {G : List (V × D)} {L : List (Addr × List D)} {B : List Addr} {Q : VK} {E : XK} {vs : List V} {C : Addr} {enc : α → List D} {pre : α → Prop}
theorem c_make3 {fs : α → List (Str × D)} {n m : Nat} {gV : List V → List V → List V} {zs : List V} (x : α) (st : Vf.St K S M H0 H G L B) (sep : ∀ b, S b → ∃ ys, H b = some (.lst ys)) (im : D.immF (fs x) = true) (hn : vs.length = n) (hm : zs.length = m) (r : List V) (hg : ∀ a, gV (.ref a :: vs) zs = .ref a :: r) (hz : DzL K (fun _ => False) H (enc x) r) (hp : pre x)
    (q : ∀ a H', Same H H' → Vf.St K S M H0 H' ((.ref a, .ins C (fs x)) :: G) L B → Q (.ref a) H') : FMake C n m (spInit K C enc pre fs) gV E vs Q zs H := by
  refine ⟨hn, hm, fun a dx na nd ne => ?_⟩
  have e1 : Same H (upd (upd H dx (.own a)) a (.ins C dx [])) := fun b o h => by
    rw [upd_ne (ne_of_none h na), upd_ne (ne_of_none h nd)]
    exact h
  have ok2 : Okk (fun b => False ∨ b = a) (upd (upd H dx (.own a)) a (.ins C dx [])) := fun b s => by
    rcases s with s | s
    · exact s.elim
    · subst s; rw [upd_same]; exact fun w => by cases w
  refine ⟨fun b => False ∨ b = a, x, a, dx, r, hg a, ok2, .inr rfl, upd_same, DzL.same e1 (DzL.fresh na hz), hp, fun H' gs k ha hd => ⟨rfl, ?_⟩⟩
  have e2 : Same H H' := fun b o h => k b o (ne_of_none h na) (e1 b o h)
  refine q a H' e2 ((st.same e2).add ⟨a, dx, gs, rfl, st.nS na, ha, DzF.imm (S := fun _ => False) (fun b s => ?_) _ _ im (DzF.weak (fun _ => .inl) hd)⟩)
  obtain ⟨ys, s⟩ := sep b s
  exact .inr ⟨ys, e2 _ _ s⟩
/-- a call told of data, own lists among them, that changes nothing -/
theorem c_Bl0 {f : α → Bool} (a : α) (st : Vf.St K S M H0 H G L B) (hz : DzL K (fun _ => False) H (enc a) vs) (hp : pre a) (q : ∀ H', Vf.St K S M H0 H' G L B → Q (.bl (f a)) H') : spBl K enc pre f vs H Q E :=
  ⟨fun _ => False, a, fun _ h => h.elim, hz, hp, fun H' e => q H' (st.same e)⟩
theorem St.dz0 (st : Vf.St K S M H0 H G L B) {x : V} {d : D} (m : (x, d) ∈ G) : Dz K (fun _ => False) H d x := Dz.weak (fun _ h => h.elim) (st.dz m)
/-- a list of tuples is a list of references -/
theorem tups_refs {S : AS} {H : Hp} : ∀ {dss : List (List D)} {xs : List V}, DzL K S H (dss.map D.tup) xs → ∃ as : List Addr, xs = as.map V.ref
  | [], _, h => by cases h; exact ⟨[], rfl⟩
  | ds :: dss, _, h => by
    obtain ⟨x, r, rfl, ⟨a, _, rfl, _, _⟩, h2⟩ := h
    obtain ⟨as, rfl⟩ := tups_refs h2
    exact ⟨a :: as, rfl⟩
/-- list(p) of an own list of tuples: the very same things stand in both -/
theorem d_listSame {p : Addr} {dss : List (List D)} (st : Vf.St K S M H0 H G L B) (m : (p, dss.map D.tup) ∈ L) (q : ∀ l H' (as : List Addr), H' p = some (.lst (as.map V.ref)) → H' l = some (.lst (as.map V.ref)) → Vf.St K S M H0 H' ((.ref l, .lst (dss.map D.tup)) :: G) L B → Q (.ref l) H') : rListG K [.ref p] H Q := by
  obtain ⟨_, _, xs, h3, h4⟩ := st.la (p, dss.map D.tup) m
  obtain ⟨as, rfl⟩ := tups_refs h4
  refine ⟨p, _, rfl, .inl (SqL.of h3), fun l n => q l _ as ?_ upd_same (st.lst n h4)⟩
  rw [upd_ne (fun e => by rw [e] at h3; rw [n] at h3; cases h3)]
  exact h3
end
/-! ## plans that are alike -/
theorem eqv_steps : ∀ {l k : List (Int × Int)}, PyData.eqvAll (D.pys (l.map stepD)) (D.pys (k.map stepD)) = true → l = k
  | [], [], _ => rfl
  | [], _ :: _, h => by simp [D.pys, PyData.eqvAll] at h
  | _ :: _, [], h => by simp [D.pys, PyData.eqvAll] at h
  | (a, b) :: l, (c, d) :: k, h => by
    simp only [List.map_cons, stepD, D.pys, D.py, PyData.eqvAll, PyData.eqv, Bool.and_eq_true, decide_eq_true_eq, beq_iff_eq] at h
    obtain ⟨⟨h1, h2, _⟩, h3⟩ := h
    rw [eqv_steps h3, h1, h2]
theorem eqv_plan {w v : Wn} (h : PyData.eqv (planD w).py (planD v).py = true) : w = v := by
  obtain ⟨h1, t1, c1, l1, a1⟩ := w
  obtain ⟨h2, t2, c2, l2, a2⟩ := v
  simp only [planD, D.py, D.pys, PyData.eqvAll, PyData.eqv, Bool.and_eq_true, decide_eq_true_eq, beq_iff_eq] at h
  obtain ⟨e1, e2, e3, e4, e5, _⟩ := h
  rw [eqv_steps e1, eqv_steps e2, e3, e4, e5]
section
variable {K : PySem.W.Frag} {S M : AS} {H0 H : Hp} {G : List (V × D)} {L : List (Addr × List D)} {B : List Addr} {Q : VK} {a : Addr} {ds : List D} {x : V} {d : D}
/-- list(range(i, j)) -/
theorem g_rg2 {ta tb : TE} {σ : L2.St} {P : Int → Int → Hp → Prop} (h : ta σ H fun x H1 => tb σ H1 fun y H2 => ∃ i j, x = .int i ∧ y = .int j ∧ P i j H2) : tRg2 ta tb σ H P := h
theorem d_lrg2 {i j : Int} (st : Vf.St K S M H0 H G L B) (h : RgOk i j) (q : ∀ p H', Vf.St K S M H0 H' ((.ref p, .lst ((List.range (j - i).toNat).map fun k => D.int (i + (k : Nat)))) :: G) L B → Q (.ref p) H') : FLrg Q i j H :=
  ⟨h, fun p np => q p _ (st.lst np (rgV_data i _))⟩
/-- [.. for x in l], the new list the def's own -/
theorem lc_LO {g : TG} {tt : TT} {te : TE} {ws : List Nat} {σ : L2.St} (st : Vf.St K S M H0 H G L B) (m : (V.ref a, D.lst ds) ∈ G) (P : Nat → List D → Prop) (p0 : P 0 [])
    (hs : ∀ p i d x H1 es, ¬ S p → ds[i]? = some d → i < ds.length → es.length ≤ i → P i es → Vf.St K (fun b => S b ∨ b = p) M H0 H1 ((x, d) :: G) ((p, es) :: L) B → g x (wipe σ ws) H1 fun σ2 H3 => wipe σ2 ws = wipe σ ws ∧ tt σ2 H3 fun b H4 =>
      if b = true then te σ2 H4 (LcE K S M H0 G L B p P (i + 1)) else LcP K S M H0 G L B p P (i + 1) H4)
    (hd : ∀ p H' es, ¬ S p → P ds.length es → es.length ≤ ds.length → Vf.St K (fun b => S b ∨ b = p) M H0 H' G ((p, es) :: L) B → Q (.ref p) H') : FItl K (FLc g tt te ws σ Q) (.ref a) H := by
  obtain ⟨xs, h1, _⟩ := z_lst (st.dz m)
  refine ⟨a, rfl, ⟨xs, h1.sq⟩, d_lcO (fun p => walk_Ld (S := fun b => S b ∨ b = p)) st (fun p es H' s => s.dz m) P p0 (fun p i x H1 H2 es n hi hl pe s y => ?_) hd⟩
  obtain ⟨e, d, hd', hx⟩ := y
  subst e
  exact hs p i d x _ es n hd' hi hl pe (s.add hx)
end
end Vf
namespace Vf
open PySem PySem.Spec PyProof.Rows L2 RZ
/-! ## fractions -/
/-- a fraction in lowest terms -/
def lowZ (x : Int × Int) : Int × Int := (x.1 / ((Nat.gcd x.1.natAbs x.2.natAbs : Nat) : Int), x.2 / ((Nat.gcd x.1.natAbs x.2.natAbs : Nat) : Int))
def addF (x y : Int × Int) : Int × Int := (x.1 * y.2 + y.1 * x.2, x.2 * y.2)
def sumF (l : List (Int × Int)) : Int × Int := l.foldl addF (0, 1)
def sumL (l : List (Int × Int)) : Int × Int := l.foldl (fun x y => lowZ (addF x y)) (0, 1)
/-- a top of 0 or more, a bottom of 1 or more -/
def FrP (x : Int × Int) : Prop := 0 ≤ x.1 ∧ 0 < x.2
theorem gcd_pos {x : Int × Int} (h : FrP x) : 0 < Nat.gcd x.1.natAbs x.2.natAbs := Nat.gcd_pos_of_pos_right _ (by have := h.2; omega)
theorem low_split {x : Int × Int} (h : FrP x) : ∃ g : Int, 0 < g ∧ x = (g * (lowZ x).1, g * (lowZ x).2) := by
  have g0 := gcd_pos h
  refine ⟨((Nat.gcd x.1.natAbs x.2.natAbs : Nat) : Int), by omega, ?_⟩
  have d1 : ((Nat.gcd x.1.natAbs x.2.natAbs : Nat) : Int) ∣ x.1 := Int.ofNat_dvd_left.2 (Nat.gcd_dvd_left ..)
  have d2 : ((Nat.gcd x.1.natAbs x.2.natAbs : Nat) : Int) ∣ x.2 := Int.ofNat_dvd_left.2 (Nat.gcd_dvd_right ..)
  show x = (_ * (x.1 / _), _ * (x.2 / _))
  rw [Int.mul_ediv_cancel' d1, Int.mul_ediv_cancel' d2]
theorem low_mul {g : Int} (h : 0 < g) (a b : Int) : lowZ (g * a, g * b) = lowZ (a, b) := by
  have hg : ((g.natAbs : Nat) : Int) = g := by omega
  unfold lowZ
  dsimp only
  rw [Int.natAbs_mul, Int.natAbs_mul, Nat.gcd_mul_left, Int.natCast_mul, hg, Int.mul_ediv_mul_of_pos _ _ h, Int.mul_ediv_mul_of_pos _ _ h]
theorem low_pos {x : Int × Int} (h : FrP x) : FrP (lowZ x) ∧ (lowZ x).1 ≤ x.1 ∧ (lowZ x).2 ≤ x.2 := by
  obtain ⟨g, g0, e⟩ := low_split h
  obtain ⟨h1, h2⟩ := h
  have e1 : x.1 = g * (lowZ x).1 := congrArg Prod.fst e
  have e2 : x.2 = g * (lowZ x).2 := congrArg Prod.snd e
  unfold FrP
  generalize (lowZ x).1 = p at e1 ⊢
  generalize (lowZ x).2 = q at e2 ⊢
  rw [e1] at h1
  rw [e2] at h2
  have p0 : 0 ≤ p := by
    refine Int.not_lt.mp fun z => ?_
    have := Int.mul_neg_of_pos_of_neg g0 z
    omega
  have q0 : 0 < q := by
    refine Int.not_le.mp fun z => ?_
    have := Int.mul_nonpos_of_nonneg_of_nonpos (Int.le_of_lt g0) z
    omega
  refine ⟨⟨p0, q0⟩, ?_, ?_⟩
  · rw [e1]
    have := Int.mul_le_mul_of_nonneg_right (show (1 : Int) ≤ g by omega) p0
    omega
  · rw [e2]
    have := Int.mul_le_mul_of_nonneg_right (show (1 : Int) ≤ g by omega) (Int.le_of_lt q0)
    omega
theorem addF_pos {x y : Int × Int} (h : FrP x) (k : FrP y) : FrP (addF x y) :=
  ⟨Int.add_nonneg (Int.mul_nonneg h.1 (Int.le_of_lt k.2)) (Int.mul_nonneg k.1 (Int.le_of_lt h.2)), Int.mul_pos h.2 k.2⟩
theorem low_add {x y : Int × Int} (h : FrP x) : lowZ (addF (lowZ x) y) = lowZ (addF x y) := by
  obtain ⟨g, g0, e⟩ := low_split h
  have e1 : x.1 = g * (lowZ x).1 := congrArg Prod.fst e
  have e2 : x.2 = g * (lowZ x).2 := congrArg Prod.snd e
  have : addF x y = (g * (addF (lowZ x) y).1, g * (addF (lowZ x) y).2) := by
    unfold addF
    dsimp only
    rw [Prod.mk.injEq]
    refine ⟨?_, ?_⟩
    · conv => lhs; rw [e1, e2]
      rw [Int.mul_add, Int.mul_assoc, Int.mul_left_comm y.1]
    · conv => lhs; rw [e2]
      rw [Int.mul_assoc]
  rw [this, low_mul g0]
theorem low_fold : ∀ (l : List (Int × Int)) (x : Int × Int), FrP x → (∀ y ∈ l, FrP y) → l.foldl (fun x y => lowZ (addF x y)) (lowZ x) = lowZ (l.foldl addF x)
  | [], _, _, _ => rfl
  | y :: l, x, h, k => by
    rw [List.foldl_cons, List.foldl_cons, low_add h]
    exact low_fold l _ (addF_pos h (k y (List.mem_cons_self ..))) fun z m => k z (List.mem_cons_of_mem _ m)
theorem sumL_low {l : List (Int × Int)} (k : ∀ y ∈ l, FrP y) : sumL l = lowZ (sumF l) := low_fold l (0, 1) ⟨by decide, by decide⟩ k
theorem sumF_snoc {l : List (Int × Int)} {y : Int × Int} : sumF (l ++ [y]) = addF (sumF l) y := by
  unfold sumF
  rw [List.foldl_append]
  rfl
theorem sumL_snoc {l : List (Int × Int)} {y : Int × Int} : sumL (l ++ [y]) = lowZ (addF (sumL l) y) := by
  unfold sumL
  rw [List.foldl_append]
  rfl
/-- what may be added: tops and bottoms that are small -/
def FrS (y : Int × Int) : Prop := 0 ≤ y.1 ∧ y.1 ≤ 24000000000 ∧ 1 ≤ y.2 ∧ y.2 ≤ 1000000000
theorem FrS.p {y : Int × Int} (h : FrS y) : FrP y := ⟨h.1, h.2.2.1⟩
def FrB (n : Nat) (x : Int × Int) : Prop := 0 ≤ x.1 ∧ x.1 ≤ (n : Int) * (24000000000) * 1000000000 ^ n ∧ 0 < x.2 ∧ x.2 ≤ 1000000000 ^ n
theorem FrB.p {n : Nat} {x : Int × Int} (h : FrB n x) : FrP x := ⟨h.1, h.2.2.1⟩
theorem FrB.add {n : Nat} {x y : Int × Int} (h : FrB n x) (k : FrS y) : FrB (n + 1) (addF x y) := by
  obtain ⟨a1, a2, a3, a4⟩ := h
  obtain ⟨b1, b2, b3, b4⟩ := k
  have p0 : (0 : Int) < 1000000000 ^ n := Int.pow_pos (by decide)
  obtain ⟨B, hB⟩ : ∃ B : Int, 1000000000 ^ n = B := ⟨_, rfl⟩
  have p := addF_pos ⟨a1, a3⟩ (FrS.p ⟨b1, b2, b3, b4⟩)
  unfold FrB
  rw [Int.pow_succ]
  rw [hB] at a2 a4 p0 ⊢
  refine ⟨p.1, ?_, p.2, ?_⟩
  · show x.1 * y.2 + y.1 * x.2 ≤ _
    have h1 : x.1 * y.2 ≤ ((n : Int) * (24000000000) * B) * 1000000000 := Int.mul_le_mul a2 b4 (by omega) (by have := Int.mul_nonneg (Int.mul_nonneg (Int.natCast_nonneg n) (show (0 : Int) ≤ 24000000000 by decide)) (Int.le_of_lt p0); omega)
    have h2 : y.1 * x.2 ≤ (24000000000) * B := Int.mul_le_mul b2 a4 (by omega) (by decide)
    have h3 : (24000000000) * B ≤ ((24000000000) * B) * 1000000000 := by omega
    have h4 : (((n + 1 : Nat) : Int) * (24000000000)) * (B * 1000000000) = ((n : Int) * (24000000000) * B) * 1000000000 + ((24000000000) * B) * 1000000000 := by
      rw [Int.natCast_add, Int.add_mul, Int.add_mul, ← Int.mul_assoc, ← Int.mul_assoc]
      rfl
    rw [h4]
    omega
  · exact Int.mul_le_mul a4 b4 (by omega) (Int.le_of_lt p0)
theorem FrB.low {n : Nat} {x : Int × Int} (h : FrB n x) : FrB n (lowZ x) := by
  obtain ⟨a1, a2, a3, a4⟩ := h
  obtain ⟨p, l1, l2⟩ := low_pos ⟨a1, a3⟩
  exact ⟨p.1, by omega, p.2, by omega⟩
theorem frB0 : FrB 0 (0, 1) := by unfold FrB; decide
theorem FrB.all : ∀ (l : List (Int × Int)), (∀ y ∈ l, FrS y) → ∀ {n : Nat} {x : Int × Int}, FrB n x → FrB (n + l.length) (l.foldl addF x)
  | [], _, _, _, h => h
  | y :: l, k, n, x, h => by
    rw [List.foldl_cons, List.length_cons, show n + (l.length + 1) = (n + 1) + l.length by omega]
    exact FrB.all l (fun z m => k z (List.mem_cons_of_mem _ m)) (h.add (k y (List.mem_cons_self ..)))
theorem sumF_bd {l : List (Int × Int)} (k : ∀ y ∈ l, FrS y) : FrB l.length (sumF l) := by
  have := FrB.all l k frB0
  rw [Nat.zero_add] at this
  exact this
theorem FrB.big {n : Nat} {x : Int × Int} (h : FrB n x) (hn : n ≤ 8) : x.1.natAbs < 2 ^ 290 ∧ x.2.natAbs < 2 ^ 290 := by
  have a : ∀ n : Nat, n ≤ 8 → (n : Int) * (24000000000) * 1000000000 ^ n < 2 ^ 290 ∧ (1000000000 : Int) ^ n < 2 ^ 290 := by decide +kernel
  obtain ⟨c1, c2⟩ := a n hn
  obtain ⟨h1, h2, h3, h4⟩ := h
  generalize (n : Int) * (24000000000) * 1000000000 ^ n = u at *
  generalize (1000000000 : Int) ^ n = v at *
  rw [show ((2 : Int) ^ 290) = ((2 ^ 290 : Nat) : Int) by norm_cast] at c1 c2
  generalize (2 : Nat) ^ 290 = z at *
  omega
theorem mulW_of {i j : Int} (hi : i.natAbs < 2 ^ 2000) (hj : j.natAbs < 2 ^ 2000) : CMulW i j := by
  have b : ∀ x : Int, x.natAbs < 2 ^ 2000 → x.natAbs.log2 < 2000 := fun x h => by
    by_cases z : x.natAbs = 0
    · rw [z]; decide
    · exact (Nat.log2_lt z).mpr h
  have := b i hi
  have := b j hj
  unfold CMulW
  omega
theorem divW_of {i j : Int} (h0 : 0 < j) (hj : j.natAbs < 2 ^ 2000) : CDivW i j := ⟨h0, by
  have : j.natAbs.log2 < 2000 := (Nat.log2_lt (by omega)).mpr hj
  omega⟩
theorem pow_up {a : Nat} {m n : Nat} (h : a < 2 ^ m) (k : m ≤ n) : a < 2 ^ n := Nat.lt_of_lt_of_le h (Nat.pow_le_pow_right (by decide) k)
theorem mul_bits {i j : Int} {m n : Nat} (hi : i.natAbs < 2 ^ m) (hj : j.natAbs < 2 ^ n) : (i * j).natAbs < 2 ^ (m + n) := by
  rw [Int.natAbs_mul, Nat.pow_add]
  exact Nat.mul_lt_mul'' hi hj
/-! ## what a day takes -/
theorem sum_map_mul {f : Nat → Int} {n : Nat} (h : 0 < n) : ∀ m : Nat, ((List.range (n * m)).map fun i => f (i % n)).sum = ((List.range n).map f).sum * (m : Int)
  | 0 => by simp
  | m + 1 => by
    rw [Nat.mul_succ, List.range_add, List.map_append, List.sum_append, sum_map_mul h m, List.map_map]
    have e : ((List.range n).map ((fun i => f (i % n)) ∘ fun x => n * m + x)) = (List.range n).map f := by
      refine List.map_congr_left fun i hi => ?_
      have hi := List.mem_range.mp hi
      show f ((n * m + i) % n) = f i
      rw [Nat.mul_add_mod, Nat.mod_eq_of_lt hi]
    rw [e, Int.natCast_add, Int.mul_add]
    omega
theorem sum_range_get : ∀ (l : List Int), ((List.range l.length).map fun i => l.getD i 0).sum = l.sum := by
  intro l
  congr 1
  refine List.ext_getElem? fun i => ?_
  rw [List.getElem?_map]
  by_cases h : i < l.length
  · rw [List.getElem?_range h, List.getElem?_eq_getElem h]
    show some (l.getD i 0) = _
    rw [List.getD_eq_getElem?_getD, List.getElem?_eq_getElem h]
    rfl
  · rw [List.getElem?_eq_none (by rw [List.length_range]; omega), List.getElem?_eq_none (by omega)]
    rfl
theorem sum_bd {c : Int} : ∀ {l : List Int}, (∀ x ∈ l, 0 ≤ x ∧ x ≤ c) → 0 ≤ l.sum ∧ l.sum ≤ l.length * c
  | [], _ => by simp
  | x :: l, h => by
    obtain ⟨a, b⟩ := sum_bd (l := l) fun y m => h y (List.mem_cons_of_mem _ m)
    obtain ⟨c1, c2⟩ := h x (List.mem_cons_self ..)
    rw [List.sum_cons, List.length_cons, Int.natCast_add, Int.add_mul]
    omega
/-! ## the days by which all of one is gone -/
theorem lost_right {x y : Int} (hx : 0 ≤ x) (hy : 0 < y) : 1 ≤ x / y + 1 ∧ x < (x / y + 1) * y ∧ ¬ x < (x / y + 1 - 1) * y := by
  have h0 := Int.ediv_nonneg hx (Int.le_of_lt hy)
  have h1 := Int.emod_add_mul_ediv x y
  have h2 := Int.emod_nonneg x (show y ≠ 0 by omega)
  have h3 := Int.emod_lt_of_pos x hy
  rw [Int.mul_comm] at h1
  refine ⟨by omega, ?_, ?_⟩
  · rw [Int.add_mul]; omega
  · rw [show x / y + 1 - 1 = x / y by omega]; omega
theorem short_iff {s t by_ bot days : Int} : (s + 24 * days * by_) * bot < days * t * by_ ↔ s * bot < days * (by_ * (t - 24 * bot)) := by
  have : days * t * by_ - (s + 24 * days * by_) * bot = days * (by_ * (t - 24 * bot)) - s * bot := by
    rw [Int.add_mul, Int.mul_sub, Int.mul_sub, Int.mul_assoc days t by_, Int.mul_comm t by_]
    rw [show 24 * days * by_ * bot = days * (by_ * (24 * bot)) by
      rw [Int.mul_assoc, Int.mul_assoc, Int.mul_left_comm 24 days, Int.mul_left_comm 24 by_]]
    omega
  omega
theorem sumF_mono : ∀ {α : Type} (f g h : α → Int) (l : List α), (∀ a ∈ l, f a ≤ g a ∧ 0 < h a) → ∀ {x y : Int × Int}, 0 < x.2 → x.2 = y.2 → x.1 ≤ y.1 →
    ((l.map fun a => (f a, h a)).foldl addF x).2 = ((l.map fun a => (g a, h a)).foldl addF y).2 ∧ ((l.map fun a => (f a, h a)).foldl addF x).1 ≤ ((l.map fun a => (g a, h a)).foldl addF y).1
  | _, _, _, _, [], _, _, _, _, e, l => ⟨e, l⟩
  | _, f, g, h, a :: l, k, x, y, p, e, le => by
    obtain ⟨k1, k2⟩ := k a (List.mem_cons_self ..)
    rw [List.map_cons, List.map_cons, List.foldl_cons, List.foldl_cons]
    refine sumF_mono f g h l (fun b m => k b (List.mem_cons_of_mem _ m)) ?_ ?_ ?_
    · exact Int.mul_pos p k2
    · show x.2 * h a = y.2 * h a
      rw [e]
    · show x.1 * h a + f a * x.2 ≤ y.1 * h a + g a * y.2
      rw [← e]
      have := Int.mul_le_mul_of_nonneg_right le (Int.le_of_lt k2)
      have := Int.mul_le_mul_of_nonneg_right k1 (Int.le_of_lt p)
      omega
theorem low_div {x : Int × Int} (h : FrP x) {a b : Int} : (lowZ x).1 * a / ((lowZ x).2 * b) = x.1 * a / (x.2 * b) := by
  obtain ⟨g, g0, e⟩ := low_split h
  have e1 : x.1 = g * (lowZ x).1 := congrArg Prod.fst e
  have e2 : x.2 = g * (lowZ x).2 := congrArg Prod.snd e
  rw [e1, e2, Int.mul_assoc, Int.mul_assoc, Int.mul_ediv_mul_of_pos _ _ g0]
theorem lost_mono {x y : Int × Int} (hx : FrP x) (hy : FrP y) (e : x.2 = y.2) (l : x.1 ≤ y.1) {a b : Int} (ha : 0 ≤ a) (hb : 0 < b) :
    (lowZ x).1 * a / ((lowZ x).2 * b) ≤ (lowZ y).1 * a / ((lowZ y).2 * b) := by
  rw [low_div hx, low_div hy, e]
  exact Int.ediv_le_ediv (Int.mul_pos hy.2 hb) (Int.mul_le_mul_of_nonneg_right l ha)
/-! ## the sums of a day -/
def takesI (w : Wn) : Int := (w.tail.map (·.2)).sum * (24 / (w.tail.length : Int))
theorem tail_div {w : Wn} (h : w.Ok) : ∃ m : Nat, w.tail.length * m = 24 ∧ (24 : Int) / (w.tail.length : Int) = (m : Int) := by
  have ht := h.tl
  simp only [tails, List.mem_cons, List.not_mem_nil, or_false] at ht
  rcases ht with e | e | e | e | e | e | e | e
  · exact ⟨24, by omega, by rw [e]; rfl⟩
  · exact ⟨12, by omega, by rw [e]; rfl⟩
  · exact ⟨8, by omega, by rw [e]; rfl⟩
  · exact ⟨6, by omega, by rw [e]; rfl⟩
  · exact ⟨4, by omega, by rw [e]; rfl⟩
  · exact ⟨3, by omega, by rw [e]; rfl⟩
  · exact ⟨2, by omega, by rw [e]; rfl⟩
  · exact ⟨1, by omega, by rw [e]; rfl⟩
theorem takes_each {w : Wn} (h : w.Ok) : ∀ x ∈ w.tail.map (·.2), 0 ≤ x ∧ x ≤ 1000000000 := fun x m => by
  obtain ⟨s, hs, rfl⟩ := List.mem_map.mp m
  obtain ⟨_, _, a, b⟩ := h.ts s hs
  exact ⟨a, by omega⟩
theorem takes_bd {w : Wn} (h : w.Ok) : 0 ≤ takesI w ∧ takesI w ≤ 24000000000 := by
  obtain ⟨m, e1, e2⟩ := tail_div h
  obtain ⟨a, b⟩ := sum_bd (takes_each h)
  rw [List.length_map] at b
  unfold takesI
  rw [e2]
  refine ⟨Int.mul_nonneg a (by omega), ?_⟩
  have := Int.mul_le_mul_of_nonneg_right b (show (0 : Int) ≤ (m : Int) by omega)
  have e3 : ((w.tail.length : Nat) : Int) * 1000000000 * (m : Int) = ((w.tail.length * m : Nat) : Int) * 1000000000 := by
    rw [Int.natCast_mul, Int.mul_right_comm]
  rw [e3, e1] at this
  omega
theorem takes_law {w : Wn} (h : w.Ok) : ((List.range 24).map fun i => (w.tail.map (·.2)).getD (i % w.tail.length) 0).sum = takesI w := by
  obtain ⟨m, e1, e2⟩ := tail_div h
  unfold takesI
  rw [e2, ← e1, sum_map_mul (f := fun j => (w.tail.map (·.2)).getD j 0) h.t0 m]
  have := sum_range_get (w.tail.map (·.2))
  rw [List.length_map] at this
  rw [this]
/-- a part whose day is summed up -/
def need1 (w : Wn) : Int × Int := (takesI w, w.lift)
theorem need1_ok {w : Wn} (h : w.Ok) (hl : 1 ≤ w.lift) : FrS (need1 w) := ⟨(takes_bd h).1, (takes_bd h).2, hl, by have := h.l2; show w.lift ≤ _; omega⟩
theorem frD_ok {x : Int × Int} (h1 : x.1.natAbs < 2 ^ 290) (h2 : x.2.natAbs < 2 ^ 290) : (D.tup [.int x.1, .int x.2]).Ok := by
  have f : ∀ i : Int, i.natAbs < 2 ^ 290 → (D.int i).fine = true := fun i hi => (int_okB (Nat.lt_trans hi (Nat.pow_lt_pow_right (by decide) (by decide)))).fine
  refine ⟨?_, ?_, ?_⟩
  · have e : ∀ x y : D, (D.tup [x, y]).fine = (x.fine && (y.fine && true)) := fun x y => by simp only [D.fine, D.fines]
    rw [e, f _ h1, f _ h2]; rfl
  · simp only [D.wt, D.wts]; decide
  · simp only [D.dep, D.deps]; decide
end Vf
namespace Vf
open PySem PySem.Spec PyProof.Rows L2 RZ
/-! ## a local name that holds one of two defs, called; what these refuse goes on -/
def tCallV2 (i : Nat) (f1 f2 : Addr) (sp1 sp2 : Sp) (E : XK) (t : TA) : TE := fun σ H Q => (σ[i]? = some (some (.ref f1)) ∧ t σ H fun vs H1 => sp1 vs H1 Q E) ∨ (σ[i]? = some (some (.ref f2)) ∧ t σ H fun vs H1 => sp2 vs H1 Q E)
theorem pe_callV2 {X : Cx} {x : Str} {p pos : Pos} {e : Expr} {es : List Expr} {t : TA} {CX : CXT} {i k1 k2 : Nat} {f1 f2 : Addr} {fd1 fd2 : FuncData} {ps1 ps2 : List Str} {sp1 sp2 : Sp} {E : XK}
    (F1 : FnOk X.prog X.w X.K X.mg X.base CX k1 f1 fd1 ps1 sp1) (F2 : FnOk X.prog X.w X.K X.mg X.base CX k2 f2 fd2 ps2 sp2) (r1 : Room k1 X.A) (r2 : Room k2 X.A) (q1 : PySem.W.keepIn X.K (.ref f1) = true) (q2 : PySem.W.keepIn X.K (.ref f2) = true)
    (b1 : Binds X.K fd1 ps1 []) (b2 : Binds X.K fd2 ps2 []) (hx : Passes CX X E) (ha : PA X (e :: es) t)
    (hN : X.N[i]? = some x := by rfl) (hv : Vis X.env.scope x := by first | exact Or.inl rfl | exact Or.inr (Or.inl rfl) | exact Or.inr (Or.inr rfl))
    (hd : (x == ("__debug__" : Str)) = false := by decide) (hcd : (x == ("__classdict__" : Str)) = false := by decide)
    (he : starEach (e :: es) X.env = (false, eval e X.env) :: starEach es X.env := by rfl) (hpl : (backTo pos (starEach es X.env)).any (·.1) = false := by rfl) :
    PE X (.Call (.Name x p) (e :: es) [] pos) (tCallV2 i f1 f2 sp1 sp2 E t) := by
  refine ⟨fun pins s σ H Q I h => ?_⟩
  have go : ∀ {k : Nat} {f : Addr} {fd : FuncData} {ps : List Str} {sp : Sp}, FnOk X.prog X.w X.K X.mg X.base CX k f fd ps sp → Room k X.A → PySem.W.keepIn X.K (.ref f) = true → Binds X.K fd ps [] → σ[i]? = some (some (.ref f)) → (t σ H fun vs H1 => sp vs H1 Q E) → wpAny (model X.prog X.w) X.A (eval (.Call (.Name x p) (e :: es) [] pos) X.env) (EP X pins σ Q) X.xe s := fun {k f fd ps sp} F hr kp b hs ht => by
    refine wpAny_Call_Name_kw (thn ((pe_var (pos := p) hN hv hd hcd).run pins s σ H (fun v H1 => v = .ref f ∧ H1 = H) I ⟨.ref f, hs, rfl, rfl⟩) fun u s1 ⟨v, H1, I1, r1, q1⟩ => ?_)
    obtain ⟨rfl, rfl⟩ := q1
    cases r1
    refine PySem.W.callWith_K (h₀ := X.base) I.ok.mod.kin kp (thn (ha.run pos pins s1 σ _ _ I1 ht) fun us s2 ⟨vs, H2, I2, r, q⟩ => ⟨I2.kIn, ?_⟩) he hpl
    exact run_fn F hr b .nil hx I2 r (by rw [List.append_nil]; exact q)
  rcases h with ⟨h1, h2⟩ | ⟨h1, h2⟩
  · exact go F1 r1 q1 b1 h1 h2
  · exact go F2 r2 q2 b2 h1 h2
theorem g_cv2a {i : Nat} {f1 f2 : Addr} {sp1 sp2 : Sp} {E : XK} {t : TA} {σ : L2.St} {H : Hp} {Q : VK} (h : σ[i]? = some (some (.ref f1))) (k : t σ H fun vs H1 => sp1 vs H1 Q E) : tCallV2 i f1 f2 sp1 sp2 E t σ H Q := .inl ⟨h, k⟩
theorem g_cv2b {i : Nat} {f1 f2 : Addr} {sp1 sp2 : Sp} {E : XK} {t : TA} {σ : L2.St} {H : Hp} {Q : VK} (h : σ[i]? = some (some (.ref f2))) (k : t σ H fun vs H1 => sp2 vs H1 Q E) : tCallV2 i f1 f2 sp1 sp2 E t σ H Q := .inr ⟨h, k⟩
/-! ## what a call lets out, with the caller's names as they are at the call -/
theorem run_fnS {X : Cx} {k : Nat} {f : Addr} {fd : FuncData} {ps : List Str} {sp : Sp} {dvs : List V} {ds : List Value} {W : WX} {pins : List (Addr × Obj)} {σ : L2.St} {H : Hp} {s : Shared} {Q : VK} {us : List Value} {vs : List V} (F : FnOk X.prog X.w X.K X.mg X.base (L2.CX X.prog X.w) k f fd ps sp) (hr : Room k X.A) (hb : Binds X.K fd ps ds) (hd : Vals dvs ds) (tk : Takes X W)
    (I : Inv X pins σ H s) (r : Vals vs us) (h : sp (vs ++ dvs) H Q (fun c d H' => W c d σ H')) : wpAny (model X.prog X.w) X.A (call (.ref f) us) (EP X pins σ Q) X.xe s := by
  have r2 : Vals (vs ++ dvs) (us ++ ds) := r.append hd
  have hl : (us ++ ds).length = ps.length := by rw [← r2.length]; exact F.len _ _ _ _ h
  refine wpAny_call (codeAny_mono (F.run X.A X.stack s H ⟨us, []⟩ (us ++ ds) (vs ++ dvs) Q _ hr I.env0 (hb s us I.kIn hl) r2 h) fun r s' hq => ?_)
  cases r with
  | error e => exact tk e s' (XE.of_call I (fun _ _ _ h => h) hq)
  | ok fl =>
    cases fl with
    | ret u => exact I.after hq
    | next => exact False.elim hq
    | brk => exact False.elim hq
    | cont => exact False.elim hq
def tCallS (sp : Sp) (dvs : List V) (W : WX) (t : TA) : TE := fun σ H Q => t σ H fun vs H1 => sp (vs ++ dvs) H1 Q (fun c d H' => W c d σ H')
theorem pe_callS {X : Cx} {x : Str} {p pos : Pos} {e : Expr} {es : List Expr} {t : TA} {k : Nat} {f : Addr} {fd : FuncData} {ps : List Str} {sp : Sp} {dvs : List V} {ds : List Value} {W : WX} (F : FnOk X.prog X.w X.K X.mg X.base (L2.CX X.prog X.w) k f fd ps sp) (hr : Room k X.A) (hg : Gl X x) (hm : X.mg x = some (.ref f)) (hk : PySem.W.keepIn X.K (.ref f) = true) (hb : Binds X.K fd ps ds) (hd : Vals dvs ds) (tk : Takes X W)
    (ha : PA X (e :: es) t) (hdb : (x == ("__debug__" : Str)) = false := by decide) (he : starEach (e :: es) X.env = (false, eval e X.env) :: starEach es X.env := by rfl) (hpl : (backTo pos (starEach es X.env)).any (·.1) = false := by rfl) :
    PE X (.Call (.Name x p) (e :: es) [] pos) (tCallS sp dvs W t) := by
  refine ⟨fun pins s σ H Q I h => ?_⟩
  refine wpAny_Call_Name_kw (ld_glob I hg hm ?_ hdb)
  refine PySem.W.callWith_K (h₀ := X.base) I.ok.mod.kin hk (thn (ha.run pos pins s σ H _ I h) fun us s1 ⟨vs, H1, I1, r, q⟩ => ⟨I1.kIn, ?_⟩) he hpl
  exact run_fnS F hr hb hd tk I1 r q
theorem g_callS {sp : Sp} {W : WX} {t : TA} {σ : L2.St} {H : Hp} {Q : VK} (h : t σ H fun vs H1 => sp (vs ++ []) H1 Q (fun c d H' => W c d σ H')) : tCallS sp [] W t σ H Q := h
def tMethS (C : Addr) (m : Str) (sp : Sp) (W : WX) (ta : TE) (t : TA) : TE := fun σ H Q => ta σ H fun x H1 => ∃ a dx fs, x = .ref a ∧ H1 a = some (.ins C dx fs) ∧ fs.lookup m = none ∧ t σ H1 fun vs H2 => sp (x :: vs) H2 Q (fun c d H' => W c d σ H')
def tCallV2S (i : Nat) (f1 f2 : Addr) (sp1 sp2 : Sp) (W : WX) (t : TA) : TE := fun σ H Q => (σ[i]? = some (some (.ref f1)) ∧ t σ H fun vs H1 => sp1 vs H1 Q (fun c d H' => W c d σ H')) ∨ (σ[i]? = some (some (.ref f2)) ∧ t σ H fun vs H1 => sp2 vs H1 Q (fun c d H' => W c d σ H'))
theorem pe_callV2S {X : Cx} {x : Str} {p pos : Pos} {e : Expr} {es : List Expr} {t : TA} {i k1 k2 : Nat} {f1 f2 : Addr} {fd1 fd2 : FuncData} {ps1 ps2 : List Str} {sp1 sp2 : Sp} {W : WX}
    (F1 : FnOk X.prog X.w X.K X.mg X.base (L2.CX X.prog X.w) k1 f1 fd1 ps1 sp1) (F2 : FnOk X.prog X.w X.K X.mg X.base (L2.CX X.prog X.w) k2 f2 fd2 ps2 sp2) (r1 : Room k1 X.A) (r2 : Room k2 X.A) (q1 : PySem.W.keepIn X.K (.ref f1) = true) (q2 : PySem.W.keepIn X.K (.ref f2) = true)
    (b1 : Binds X.K fd1 ps1 []) (b2 : Binds X.K fd2 ps2 []) (tk : Takes X W) (ha : PA X (e :: es) t)
    (hN : X.N[i]? = some x := by rfl) (hv : Vis X.env.scope x := by first | exact Or.inl rfl | exact Or.inr (Or.inl rfl) | exact Or.inr (Or.inr rfl))
    (hd : (x == ("__debug__" : Str)) = false := by decide) (hcd : (x == ("__classdict__" : Str)) = false := by decide)
    (he : starEach (e :: es) X.env = (false, eval e X.env) :: starEach es X.env := by rfl) (hpl : (backTo pos (starEach es X.env)).any (·.1) = false := by rfl) :
    PE X (.Call (.Name x p) (e :: es) [] pos) (tCallV2S i f1 f2 sp1 sp2 W t) := by
  refine ⟨fun pins s σ H Q I h => ?_⟩
  have go : ∀ {k : Nat} {f : Addr} {fd : FuncData} {ps : List Str} {sp : Sp}, FnOk X.prog X.w X.K X.mg X.base (L2.CX X.prog X.w) k f fd ps sp → Room k X.A → PySem.W.keepIn X.K (.ref f) = true → Binds X.K fd ps [] → σ[i]? = some (some (.ref f)) → (t σ H fun vs H1 => sp vs H1 Q (fun c d H' => W c d σ H')) → wpAny (model X.prog X.w) X.A (eval (.Call (.Name x p) (e :: es) [] pos) X.env) (EP X pins σ Q) X.xe s := fun {k f fd ps sp} F hr kp b hs ht => by
    refine wpAny_Call_Name_kw (thn ((pe_var (pos := p) hN hv hd hcd).run pins s σ H (fun v H1 => v = .ref f ∧ H1 = H) I ⟨.ref f, hs, rfl, rfl⟩) fun u s1 ⟨v, H1, I1, r1, q1⟩ => ?_)
    obtain ⟨rfl, rfl⟩ := q1
    cases r1
    refine PySem.W.callWith_K (h₀ := X.base) I.ok.mod.kin kp (thn (ha.run pos pins s1 σ _ _ I1 ht) fun us s2 ⟨vs, H2, I2, r, q⟩ => ⟨I2.kIn, ?_⟩) he hpl
    exact run_fnS F hr b .nil tk I2 r (by rw [List.append_nil]; exact q)
  rcases h with ⟨h1, h2⟩ | ⟨h1, h2⟩
  · exact go F1 r1 q1 b1 h1 h2
  · exact go F2 r2 q2 b2 h1 h2
theorem g_cv2aS {i : Nat} {f1 f2 : Addr} {sp1 sp2 : Sp} {W : WX} {t : TA} {σ : L2.St} {H : Hp} {Q : VK} (h : σ[i]? = some (some (.ref f1))) (k : t σ H fun vs H1 => sp1 vs H1 Q (fun c d H' => W c d σ H')) : tCallV2S i f1 f2 sp1 sp2 W t σ H Q := .inl ⟨h, k⟩
theorem g_cv2bS {i : Nat} {f1 f2 : Addr} {sp1 sp2 : Sp} {W : WX} {t : TA} {σ : L2.St} {H : Hp} {Q : VK} (h : σ[i]? = some (some (.ref f2))) (k : t σ H fun vs H1 => sp2 vs H1 Q (fun c d H' => W c d σ H')) : tCallV2S i f1 f2 sp1 sp2 W t σ H Q := .inr ⟨h, k⟩
theorem w_asS {K : PySem.W.Frag} {i : Nat} {T C : Addr} {ts : Addr → Value → Option Addr → TS} {Wout : WX} {D : Ends} {d : Option Addr} {σ : L2.St} {H : Hp} (e : PySem.W.exmOne K (.ref C) (.ref T) = some true)
    (h : ∀ a, H a = none → ts a (.ref C) d { nx := fun σ' H' => D.nx (σ'.set i none) H', rt := D.rt, bk := fun σ' H' => D.bk (σ'.set i none) H', ct := fun σ' H' => D.ct (σ'.set i none) H' } (σ.set i (some (.ref a))) H) : wAs K (.ref T) i ts Wout D (.ref C) d σ H :=
  ⟨true, e, fun _ a na => h a na, fun z => nomatch z⟩
/-! ## for x in (f, g): a tuple of whatever things -/
theorem walk_Tv {K : PySem.W.Frag} {a : Addr} {xs : List V} : Walk (Itt K a) xs.length (fun H => SqT K H a xs) (fun i H x H' => H' = H ∧ xs[i]? = some x) := by
  refine ⟨fun i H hi h => ?_, fun H h => ?_, fun i H x H' hi h y => ?_⟩
  · exact ⟨xs, xs[i], h, List.getElem?_eq_getElem hi⟩
  · exact ⟨xs, h, Nat.le_refl _⟩
  · have q := y.2 xs h
    exact ⟨y.1, q⟩
theorem for_TV {K : PySem.W.Frag} {a : Addr} {xs : List V} {H : Hp} {g : TG} {tb : TS} {E : Ends} {σ : L2.St} (Pv : Nat → L2.St → Hp → Prop) (hG : ∀ i σ H, Pv i σ H → SqT K H a xs) (h0 : Pv 0 σ H)
    (hs : ∀ i x σ H, xs[i]? = some x → i < xs.length → Pv i σ H → g x σ H fun σ2 H2 => tb { E with nx := Pv (i + 1), ct := Pv (i + 1), bk := E.nx } σ2 H2) (hd : ∀ σ H, Pv xs.length σ H → E.nx σ H) : FItt K (FFor g tb E σ) (.ref a) H := by
  refine ⟨a, rfl, ⟨xs, hG _ _ _ h0⟩, for_it walk_Tv Pv h0 (fun i σ H _ p => hG i σ H p) (fun i x σ H H' hi p y => ?_) hd⟩
  obtain ⟨e, q⟩ := y
  subst e
  exact hs i x σ _ q hi p
/-! ## lists made: a slice, a sum, [..] * n, an item put in -/
section
variable {K : PySem.W.Frag} {S M : AS} {H0 H : Hp} {G : List (V × D)} {L : List (Addr × List D)} {B : List Addr} {Q : VK} {ds es : List D} {a b : Addr}
/-- l[i:j], the def's own -/
theorem d_slLO {lo hi : Option Int} (st : Vf.St K S M H0 H G L B) (h : Dz K S H (.lst ds) (.ref a)) (q : ∀ p H', ¬ S p → Vf.St K (fun c => S c ∨ c = p) M H0 H' G ((p, Vf.cutD ds lo hi) :: L) B → Q (.ref p) H') : rSlG K (.ref a) lo hi H Q := by
  obtain ⟨xs, h1, h2⟩ := z_lst h
  exact .inl ⟨a, xs, rfl, h1.sq, fun p n => q p _ (st.nS n) (st.own n h2.cut)⟩
/-- l + m, the def's own -/
theorem v_catO (st : Vf.St K S M H0 H G L B) (h : Dz K S H (.lst ds) (.ref a)) (h' : Dz K S H (.lst es) (.ref b)) (hl : ds.length + es.length ≤ sizeLine) (q : ∀ p H', ¬ S p → Vf.St K (fun c => S c ∨ c = p) M H0 H' G ((p, ds ++ es) :: L) B → Q (.ref p) H') : rAddG K (.ref a) (.ref b) H Q := by
  obtain ⟨xs, h1, h2⟩ := z_lst h
  obtain ⟨ys, h3, h4⟩ := z_lst h'
  exact .inr (.inr (.inl ⟨a, b, xs, ys, rfl, rfl, h1.2, h3.2, by rw [h2.len, h4.len]; exact hl, fun p n => q p _ (st.nS n) (st.own n (h2.app h4))⟩))
theorem zl_repL {S : AS} {H : Hp} {xs : List V} (h : DzL K S H ds xs) : ∀ n : Nat, DzL K S H ((List.replicate n ds).flatten) ((List.replicate n xs).flatten)
  | 0 => zl_nil
  | n + 1 => by
    rw [List.replicate_succ, List.replicate_succ, List.flatten_cons, List.flatten_cons]
    exact h.app (zl_repL h n)
/-- l * n -/
theorem d_repL {k : Int} (st : Vf.St K S M H0 H G L B) (h : Dz K S H (.lst ds) (.ref a)) (hk : 0 ≤ k ∧ k ≤ 1000) (hl : ds.length ≤ 100) (q : ∀ p H', Vf.St K S M H0 H' ((.ref p, .lst ((List.replicate k.toNat ds).flatten)) :: G) L B → Q (.ref p) H') : rRep (.ref a) (.int k) H Q := by
  obtain ⟨xs, h1, h2⟩ := z_lst h
  refine ⟨a, k, xs, rfl, rfl, h1.2, by omega, by omega, ?_, fun p n => q p _ (st.lst n (zl_repL h2 k.toNat))⟩
  rw [sizeLine_eq, h2.len]
  have : ds.length * k.toNat ≤ 100 * 1000 := Nat.mul_le_mul hl (by omega)
  omega
/-- l.insert(j, x) -/
theorem d_insert {i : Nat} {j : Int} {d : D} {y : V} (st : Vf.St K S M H0 H G L B) (hl : L[i]? = some (a, ds)) (hz : Dz K S H d y) (h0 : 0 ≤ j ∧ j ≤ 100000) (hn : ds.length < 100000) (q : ∀ H', Vf.St K S M H0 H' G (L.set i (a, ds.take j.toNat ++ [d] ++ ds.drop j.toNat)) B → Q .non H') :
    ∃ (l : Addr) (xs : List V) (i : Int) (y0 : V), V.ref a = .ref l ∧ [V.int j, y] = [.int i, y0] ∧ H l = some (.lst xs) ∧ xs.length < sizeLine ∧ 0 ≤ i ∧ i < 2 ^ 63 ∧ Q .non (upd H l (.lst (xs.take i.toNat ++ [y0] ++ xs.drop i.toNat))) := by
  obtain ⟨_, _, xs, h3, h4⟩ := st.la (a, ds) (List.mem_of_getElem? hl)
  refine ⟨a, xs, j, y, rfl, rfl, h3, ?_, h0.1, by omega, q _ (st.put hl (((h4.take _).app (zl_cons hz zl_nil)).app (h4.drop _)))⟩
  rw [h4.len, sizeLine_eq]
  show ds.length < _
  omega
/-- what stays as it is over a call -/
theorem c_VS {α : Type} {E : XK} {vs : List V} {enc : α → List D} {pre : α → Prop} {f : α → D} (a : α) (st : Vf.St K S M H0 H G L B) (hz : DzL K S H (enc a) vs) (hp : pre a) (q : ∀ v H', Same H H' → Vf.St K S M H0 H' ((v, f a) :: G) L B → Q v H') : spV K enc pre f vs H Q E :=
  ⟨S, a, st.ok, hz, hp, fun v H' e hv => q v H' e ((st.same e).add hv)⟩
theorem c_BlS {α : Type} {E : XK} {vs : List V} {enc : α → List D} {pre : α → Prop} {f : α → Bool} (a : α) (st : Vf.St K S M H0 H G L B) (hz : DzL K S H (enc a) vs) (hp : pre a) (q : ∀ H', Same H H' → Vf.St K S M H0 H' G L B → Q (.bl (f a)) H') : spBl K enc pre f vs H Q E :=
  ⟨S, a, st.ok, hz, hp, fun H' e => q H' e (st.same e)⟩
end
end Vf
namespace Vf
open PySem PySem.Spec PyProof.Rows L2 RZ
/-! ## l[i:] = m, l[:] = m -/
section
variable {prog : Program} {w : World} {A : Around} {E : Value → Shared → Prop} {s : Shared}
theorem cut_put (its zs : List Value) (a c : Nat) : its.toArray.extract 0 a ++ zs.toArray ++ its.toArray.extract c its.toArray.size = (its.take a ++ zs ++ its.drop c).toArray := L2.splice_eq its zs a c
set_option maxRecDepth 100000 in
theorem put_part {l b sl : Addr} {old new : Array Value} {m k : Nat} {vl vu : Value} {lo hi : Option Int} {R : Unit → Shared → Prop}
    (gl : s.heap.get? l = some { cls := .type "list", data := .seq old m }) (gb : s.heap.get? b = some { cls := .type "list", data := .seq new k }) (ne : l ≠ b)
    (hs : s.heap.IsSliceOf sl vl vu .none) (pl : IsPart vl lo) (pu : IsPart vu hi) (sz : old.size + new.size ≤ sizeLine)
    (hR : R () { s with heap := s.heap.update l (Obj.mapSeq fun xs => xs.extract 0 (PySem.W.kms_lo lo old.size) ++ new ++ xs.extract (max (PySem.W.kms_lo lo old.size) (PySem.W.kms_hi hi old.size)) xs.size) }) :
    wpAny (model prog w) A (setItem (.ref l) (.ref sl) (.ref b)) R E s := by
  have il : s.heap.IsList l old := PySem.IsL.isList gl
  have ib : s.heap.IsList b new := PySem.IsL.isList gb
  obtain ⟨ob, o1, o2, o3⟩ := id hs
  have ty : s.TypeIs (.ref sl) "slice" := ⟨ob, o1, o2⟩
  have n0 : ¬ ((rawPart none == rawInt 0) = true) := Bool.false_ne_true
  have n1 : Builtin.List.listSameRef (.ref l) (.ref b) = false := by unfold Builtin.List.listSameRef; exact beq_eq_false_iff_ne.mpr ne
  have lh : PySem.W.kms_lo lo old.size ≤ old.size := by
    unfold PySem.W.kms_lo
    split
    · omega
    · split <;> omega
  have hh : PySem.W.kms_hi hi old.size ≤ old.size := by
    unfold PySem.W.kms_hi
    split
    · omega
    · split <;> omega
  have mx : (max ((PySem.W.kms_lo lo old.size : Nat) : Int) ((PySem.W.kms_hi hi old.size : Nat) : Int)).toNat = max (PySem.W.kms_lo lo old.size) (PySem.W.kms_hi hi old.size) := by omega
  have z9 : ((fun xs : Array Value => xs.extract 0 (PySem.W.kms_lo lo old.size) ++ new ++ xs.extract (max (PySem.W.kms_lo lo old.size) (PySem.W.kms_hi hi old.size)) xs.size) old).size ≤ sizeLine + 1 := by
    simp only [Array.size_append, Array.size_extract]; omega
  unfold setItem
  try with_reducible refine wpAny_holding ?_
  first | refine wpAny_bind (wpAny_pure ?_) | skip
  refine wpAny_bind (wpAny_sequenceKey il.typeIs (by decide) (wpAny_bind (wpAny_callSpecial?_slot (name := Str.ofString "__setitem__") il.typeIs slot_list_setitem (wpAny_call_entry slot_list_setitem il.typeIs entry_list_setitem ?_ (args_list_setitem _ _ _)))))
  show wpAny _ _ (Builtin.List.listSubscript? (.ref sl) >>= _) _ _ s
  refine wpAny_bind ?_
  unfold Builtin.List.listSubscript?
  refine wpAny_bind (wpAny_specialOf ty slice_no_index ?_)
  simp only [Option.isNone_none, if_true]
  refine wpAny_pure ?_
  show wpAny _ _ (typeOf (.ref sl) >>= _) _ _ s
  refine wpAny_bind (wpAny_typeOf ty ?_)
  first | rw [if_neg (by decide)] | refine PySem.W.KFB.if_not (by decide) ?_
  rw [listSliceParts_eq]
  refine wpAny_bind (wpAny_bind (wpAny_field o1 o3 (x := .none) rfl (wpAny_bind (wpAny_listPart .none ?_))))
  rw [if_neg n0]
  refine wpAny_bind (wpAny_field o1 o3 (x := vl) rfl (wpAny_bind (wpAny_listPart pl (wpAny_bind (wpAny_field o1 o3 (x := vu) rfl (wpAny_bind (wpAny_listPart pu (wpAny_pure ?_))))))))
  first | simp only [n1, Bool.false_eq_true, if_false] | refine PySem.W.KFB.if_not n1 ?_ | (dsimp only; rw [if_neg (by rw [n1]; exact Bool.false_ne_true)])
  refine wpAny_bind (m := Builtin.List.listAllItems (.ref b) "must assign iterable to extended slice") ?_
  unfold Builtin.List.listAllItems
  refine wpAny_bind (wpAny_typeOf ib.typeIs ?_)
  first | refine PySem.W.KFB.if_so (by decide) ?_ | rw [if_pos (by decide)] | simp only [beq_self_eq_true, Bool.true_or, if_true]
  unfold Builtin.List.listItems
  refine wpAny_bind (wpAny_seqItems gb rfl (wpAny_pure (wpAny_bind (wpAny_bind (wpAny_seqItems gl rfl (wpAny_pure ?_))))))
  refine wpAny_bind (wpAny_of_eq ((sliceIndices_raw lo hi none old.size (by simp)).trans (congrArg (pure : Int × Int × Int → Sem (Int × Int × Int)) (PySem.W.kms_bounds lo hi old.size))) ?_)
  show wpAny _ _ (if ((1 : Int) == 1) = true then _ else _) _ _ s
  rw [if_pos (by decide)]
  refine wpAny_bind (wpAny_rule ?_)
  first | simp only [notLongL sz, Bool.false_eq_true, if_false] | refine PySem.W.KFB.if_not (notLongL sz) ?_
  first | refine wpAny_bind (wpAny_pure ?_) | skip
  show wpAny _ _ (updateSeq l (fun xs => xs.extract 0 (((PySem.W.kms_lo lo old.size : Nat) : Int)).toNat ++ new ++ xs.extract (max ((PySem.W.kms_lo lo old.size : Nat) : Int) ((PySem.W.kms_hi hi old.size : Nat) : Int)).toNat xs.size) >>= _) _ _ s
  rw [mx, Int.toNat_natCast]
  refine wpAny_bind (wpAny_updateSeq (hz := Nat.le_trans (Nat.le_add_right _ _) sz) (_hz' := z9) gl rfl (wpAny_bind (wpAny_letGo ?_)))
  first | exact wpAny_bind (wpAny_pure (wpAny_pure ⟨.none, rfl, wpAny_pure hR⟩)) | exact wpAny_pure ⟨.none, rfl, wpAny_pure hR⟩
end
/-- l[i:j] = m at the values -/
def rSlW (lo hi : Option Int) (x v : V) (H : Hp) (N : Hp → Prop) : Prop := ∃ (l b : Addr) (xs ys : List V), x = .ref l ∧ v = .ref b ∧ H l = some (.lst xs) ∧ H b = some (.lst ys) ∧ l ≠ b ∧ xs.length + ys.length ≤ sizeLine ∧
  N (upd H l (.lst (xs.take (PySem.W.kms_lo lo xs.length) ++ ys ++ xs.drop (max (PySem.W.kms_lo lo xs.length) (PySem.W.kms_hi hi xs.length)))))
def gSlW (to : TE) (tl th : TO) : TG := fun v σ H Q => to σ H fun x H1 => tl σ H1 fun a H2 => th σ H2 fun c H3 => rSlW a c x v H3 (fun H4 => Q σ H4)
theorem pg_slw {X : Cx} {o : Expr} {lo hi : Option Expr} {p2 pos : Pos} {to : TE} {tl th : TO} (ho : PE X o to) (hl : PO X lo tl) (hu : PO X hi th)
    (ha : ∀ v, assign (.Subscript o (.Slice lo hi none p2) pos) X.env v = (do
      let a ← holding [v] (eval o X.env)
      let c ← holding [v, a] (eval (.Slice lo hi none p2) X.env)
      standAt pos
      holding [v, a, c] (setItem a c v)
      release [c, v, a] []) := by intro _; rfl) : PG X (.Subscript o (.Slice lo hi none p2) pos) (gSlW to tl th) := by
  refine ⟨fun pins s σ H v u Q I r h => ?_⟩
  rw [ha]
  refine wpAny_bind (wpAny_holding (thn (ho.run pins s σ H _ I h) fun ov s1 ⟨x, H1, I1, r1, q1⟩ => wpAny_bind (wpAny_holding (wpAny_Slice (thn (hl.run pins s1 σ H1 _ I1 q1) fun vl s2 ⟨a, H2, I2, pl, q2⟩ => thn (hu.run pins s2 σ H2 _ I2 q2) fun vu s3 ⟨c, H3, I3, pu, q3⟩ => ?_)))))
  rw [evalPart_none]
  refine wpAny_pure ?_
  obtain ⟨l, b, xs, ys, rfl, rfl, hL, hB, ne, sz, q⟩ := q3
  cases r1
  cases r
  have I4 : Inv X pins σ H3 { s3 with heap := s3.heap.push { cls := .type "slice", data := .fields #[vl, vu, .none] } } := I3.kept (t' := s3.toks) fun b ob q => Heap.get?_push_of_some _ q
  obtain ⟨z, its, n, rv, hz, e⟩ := I4.lstM hL
  obtain ⟨z2, its2, n2, rv2, hz2, e2⟩ := I4.lstM hB
  have el : its.toArray.size = xs.length := by rw [List.size_toArray]; exact rv.length.symm
  have el2 : its2.toArray.size = ys.length := by rw [List.size_toArray]; exact rv2.length.symm
  refine wpAny_bind (wpAny_standAt (wpAny_bind (wpAny_holding (put_part e e2 ne (Heap.IsSliceOf.new ..) pl pu (by rw [el, el2]; exact sz) ?_))))
  rw [el]
  refine wpAny_release ⟨σ, _, I4.lset (its' := its.take (PySem.W.kms_lo a xs.length) ++ its2 ++ its.drop (max (PySem.W.kms_lo a xs.length) (PySem.W.kms_hi c xs.length))) (t' := s3.toks) hL e (cut_put its its2 _ _) ((rv.take _).append rv2 |>.append (rv.drop _)) ?_, q⟩
  rw [List.length_append, List.length_append, List.length_take, List.length_drop]
  omega
/-! ## C(), an exception class of one's own without an __init__ -/
theorem pmk_own0 {X : Cx} {C : Addr} {bmB : List Value} {B newId initId : String} {x : Str} {p pos : Pos} (F : ExcBaseFacts B newId initId bmB) (q : PySem.W.excIn X.K C bmB newId = true) (gC : X.mg x = some (.ref C)) (kC : PySem.W.keepIn X.K (.ref C) = true) (r : Raises X (.ref C)) (hg : Gl X x)
    (hdb : (x == ("__debug__" : Str)) = false := by decide) : PMk X (.Call (.Name x p) [] [] pos) (fun _ H Q => Q (.ref C) none H) := by
  intro pins s σ H Q I h
  refine wpAny_Call_Name_kw (ld_glob I hg gC (PySem.W.callWith_K0 I.kIn kC ?_) hdb)
  obtain ⟨bm, N, nm, qn, bs, hdct, sn, sub, ab, col, dd, k0, k1, k2, k3, k5, mN, hC, hN, hni, T⟩ := exc_obj I.kIn q
  refine wpAny_call_exc_subT F T hC hN hni (fun h' e hm => mk_of I hm r h (I.hok.gone hm.new)) ?_
  show 0 ≤ sizeLine
  omega
/-! ## a method's refusal, with the caller's names as they are at the call -/
section
variable {X : Cx} {k : Nat} {f C : Addr} {fd : FuncData} {ps : List Str} {sp : Sp} {m : Str} {pos apos : Pos} {e o : Expr} {es : List Expr} {ta : TE} {t : TA} {W : WX}
def tMethW (C : Addr) (m : Str) (sp : Sp) (W : WX) (ta : TE) (t : TA) : TE := fun σ H Q => ta σ H fun x H1 => ∃ a dx fs, x = .ref a ∧ H1 a = some (.ins C dx fs) ∧ fs.lookup m = none ∧ t σ H1 fun vs H2 => sp (x :: vs) H2 Q (fun c d H' => W c d σ H')
theorem pe_methW {pl : Sem Bool} (he : PE X o ta) (c : Cls X.K C) (hm : Meth X.K C m f) (F : FnOk X.prog X.w X.K X.mg X.base (L2.CX X.prog X.w) k f fd ps sp) (hr : Room k X.A) (hb : Binds X.K fd ps []) (tk : Takes X W) (ha : PA X (e :: es) t)
    (hst : starEach (e :: es) X.env = (false, eval e X.env) :: starEach es X.env := by rfl) (hpl : (backTo pos (starEach es X.env)).any (·.1) = false := by rfl)
    (ht : eval (.Call (.Attribute o m apos) (e :: es) [] pos) X.env = (do
      let a ← eval o X.env
      standAt apos.atName
      let (g, first) ← holding [a] (getMethod a m pl)
      callWith pos g first (backTo pos (starEach (e :: es) X.env)) (backToKw pos (keywordEach [] X.env))) := by rfl) :
    PE X (.Call (.Attribute o m apos) (e :: es) [] pos) (tMethW C m sp W ta t) := by
  refine ⟨fun pins s σ H Q I h => PySem.W.methodCall_KW (pl := pl) (thn (he.run pins s σ H _ I h) fun u s1 ⟨x, H1, I1, rx, a, dx, fs, ex, ea, l, q⟩ => ?_) ht⟩
  subst ex
  obtain rfl : u = Value.ref a := rx
  refine getmeth_ok I1 ea c hm l (PySem.W.callWith_K (first := [.ref a]) (h₀ := X.base) I.ok.mod.kin hm.kp (thn (ha.run pos pins s1 σ H1 _ I1 q) fun us s2 ⟨vs, H2, I2, r, q2⟩ => ⟨I2.kIn, ?_⟩) hst hpl)
  exact run_fnS (us := .ref a :: us) (vs := .ref a :: vs) F hr hb .nil tk I2 (.cons rfl r) (by rw [List.append_nil]; exact q2)
theorem g_methW {σ : L2.St} {H : Hp} {Q : VK} (h : ta σ H fun x H1 => ∃ a dx fs, x = .ref a ∧ H1 a = some (.ins C dx fs) ∧ fs.lookup m = none ∧ t σ H1 fun vs H2 => sp (x :: vs) H2 Q (fun c d H' => W c d σ H')) : tMethW C m sp W ta t σ H Q := h
theorem d_methW {K : PySem.W.Frag} {S : AS} {H : Hp} {fs : List (Str × D)} {a : Addr} {σ : L2.St} {Q : VK} (h : Dz K S H (.ins C fs) (.ref a)) (hl : fs.lookup m = none) (q : t σ H fun vs H2 => sp (.ref a :: vs) H2 Q (fun c d H' => W c d σ H')) :
    ∃ (b dx : Addr) (gs : List (Str × V)), V.ref a = .ref b ∧ H b = some (.ins C dx gs) ∧ gs.lookup m = none ∧ t σ H fun vs H2 => sp (V.ref a :: vs) H2 Q (fun c d H' => W c d σ H') := by
  obtain ⟨b, dx, gs, e, _, h2, h3⟩ := h
  cases e
  exact ⟨a, dx, gs, rfl, h2, h3.none hl, q⟩
end
/-! ## isinstance of a refusal without a field -/
theorem d_isX0 {K : PySem.W.Frag} {a D T : Addr} {b : Bool} {H : Hp} {Q : VK} (x : XCls K D) (k : PySem.W.kitOne K (.ref D) (.ref T) = some b) (q : Q (.bl b) H) : rIsEX K a (.ref D) none [.ref a, .ref T] H Q :=
  ⟨D, rfl, x.ic, .inl rfl, .inl ⟨.ref T, .ref T, b, rfl, .own T, k, q⟩⟩
/-! ## x in a list of data -/
theorem o_niD {K : PySem.W.Frag} {S : AS} {H : Hp} {d : D} {ds : List D} {x y : V} {Q : VK} (h1 : Dz K S H d x) (h2 : Dz K S H (.lst ds) y) (o1 : d.Ok) (o2 : (D.lst ds).Ok) (q : Q (.bl (!(D.pys ds).any fun z => PyData.eqv z d.py)) H) : rNotInD K x y H Q := by
  have e : (D.lst ds).py = .list (D.pys ds) := by simp only [D.py]
  have a := Dz.dp _ _ o2.flat h2
  have b := o2.shaped
  rw [e] at a b
  exact ⟨d.py, D.pys ds, Dz.dp _ _ o1.flat h1, a, o1.shaped, b, q⟩
/-! ## t[::-1] of a tuple -/
section
variable {prog : Program} {w : World} {A : Around} {E : Value → Shared → Prop} {s : Shared}
theorem applied_rev {sl : Addr} {vk : Value} {n : Nat} {R : Int × Int × Nat → Shared → Prop} (hs : s.heap.IsSliceOf sl .none .none vk) (pk : IsPart vk (some (-1))) (h : R ((n : Int) - 1, -1, n) s) : wpAny (model prog w) A (Builtin.Slice.sliceApplied (.ref sl) (pure (n : Int))) R E s := by
  obtain ⟨ob, o1, o2, o3⟩ := id hs
  unfold Builtin.Slice.sliceApplied Builtin.Slice.sliceFields
  refine wpAny_bind (wpAny_bind (wpAny_field o1 o3 (x := .none) rfl (wpAny_bind (wpAny_field o1 o3 (x := .none) rfl (wpAny_bind (wpAny_field o1 o3 (x := vk) rfl (wpAny_pure (wpAny_bind (HT.slicePart_ pk ?_)))))))))
  show wpAny _ _ (if ((-1 : Int) == 0) = true then _ else _) _ _ s
  rw [if_neg (by decide)]
  refine wpAny_bind (HT.slicePart_ .none (wpAny_bind (HT.slicePart_ .none (wpAny_bind (wpAny_pure ?_)))))
  have e : Builtin.Slice.slicePlaces ((n : Int) - 1) (-1) (-1) = n := by
    unfold Builtin.Slice.slicePlaces
    rw [if_neg (by decide)]
    split
    · rw [show (-(-1) : Int) = 1 by decide, Int.ediv_one]; omega
    · omega
  show wpAny _ _ (pure ((n : Int) - 1, (-1 : Int), Builtin.Slice.slicePlaces ((n : Int) - 1) (-1) (-1))) _ _ s
  rw [e]
  exact wpAny_pure h
theorem pick_rev (xs : Array Value) : ((List.range xs.size).filterMap fun (m : Nat) => xs[(((xs.size : Nat) : Int) - 1 + (m : Int) * -1).toNat]?).toArray = xs.toList.reverse.toArray := by
  have e : (List.range xs.size).filterMap (fun (m : Nat) => xs[(((xs.size : Nat) : Int) - 1 + (m : Int) * -1).toNat]?) = ((List.range xs.size).map fun m => xs.size - 1 - m).filterMap (xs[·]?) := by
    rw [List.filterMap_map]
    congr 1
    funext m
    show _ = xs[xs.size - 1 - m]?
    rw [show (((xs.size : Nat) : Int) - 1 + (m : Int) * -1).toNat = xs.size - 1 - m by omega]
  rw [e, PySem.W.krv_range, List.filterMap_reverse, PySem.W.krv_all]
theorem get_rev {t sl : Addr} {its : Array Value} {vk : Value} {R : Value → Shared → Prop} (ht : IsTup s.heap t its) (hs : s.heap.IsSliceOf sl .none .none vk) (pk : IsPart vk (some (-1)))
    (h : R (.ref s.heap.objs.size) { s with heap := s.heap.push { cls := .type "tuple", data := .seq its.toList.reverse.toArray } }) (hz : its.size ≤ sizeLine) : wpAny (model prog w) A (getItem (.ref t) (.ref sl)) R E s := by
  have so : sizeOk (.seq its.toList.reverse.toArray) := by
    show its.toList.reverse.toArray.size ≤ sizeLine
    rw [List.size_toArray, List.length_reverse, Array.length_toList]
    exact hz
  obtain ⟨ob, o1, o2, o3⟩ := id hs
  have ty : s.TypeIs (.ref sl) "slice" := ⟨ob, o1, o2⟩
  unfold getItem
  try with_reducible refine wpAny_holding ?_
  first | refine wpAny_bind (wpAny_pure ?_) | skip
  refine wpAny_bind (wpAny_sequenceKey ht.typeIs (by decide) (wpAny_bind (wpAny_callSpecial?_slot (name := Str.ofString "__getitem__") ht.typeIs PyProof.Rows.slot_tuple_getitem (wpAny_call_entry PyProof.Rows.slot_tuple_getitem ht.typeIs entry_tuple_getitem ?_ (args_tuple_getitem _ _)))))
  show wpAny _ _ (Builtin.Tuple.tupleItemsOf (.ref t) >>= _) _ _ s
  refine wpAny_bind (tupleItemsOf_ ht (wpAny_bind (wpAny_typeOf ty ?_)))
  rw [if_pos (by decide)]
  refine wpAny_bind (applied_rev hs pk ?_)
  have no : ¬ ((((its.size : Nat) : Int) - 1 == 0 && (-1 : Int) == 1 && its.size == its.size) = true) := by
    rw [show ((-1 : Int) == 1) = false by decide, Bool.and_false, Bool.false_and]
    decide
  show wpAny _ _ (if (((its.size : Nat) : Int) - 1 == 0 && (-1 : Int) == 1 && its.size == its.size) = true then _ else _) _ _ s
  rw [if_neg no, pick_rev]
  first
    | exact wpAny_bind (m := Builtin.Tuple.tupleExact _) (wpAny_newObj_type (wpAny_pure ⟨_, rfl, wpAny_pure h⟩) so)
    | exact wpAny_bind (m := Builtin.Tuple.tupleExact _) (wpAny_newObj_type (wpAny_bind (wpAny_pure (wpAny_pure ⟨_, rfl, wpAny_pure h⟩))) so)
    | exact wpAny_bind (wpAny_bind (m := Builtin.Tuple.tupleExact _) (wpAny_newObj_type (wpAny_pure (wpAny_pure ⟨_, rfl, wpAny_pure h⟩)) so))
    | exact wpAny_bind (wpAny_bind (m := Builtin.Tuple.tupleExact _) (wpAny_newObj_type (wpAny_pure ⟨_, rfl, wpAny_pure h⟩) so))
end
def tRevT (K : PySem.W.Frag) (te : TE) : TE := fun σ H Q => te σ H fun x H1 => ∃ a xs, x = .ref a ∧ SqT K H1 a xs ∧ ∀ p, H1 p = none → Q (.ref p) (upd H1 p (.tup xs.reverse))
theorem pe_revT {X : Cx} {e : Expr} {te : TE} {k : Nat} {p1 p2 p3 pos : Pos} (he : PE X e te) : PE X (.Subscript e (.Slice none none (some (.UnaryOp .USub (.Constant (.int 1) k p1) p2)) p3) pos) (tRevT X.K te) := by
  refine ⟨fun pins s σ H Q I h => Subscript_ (thn (he.run pins s σ H _ I h) fun v s1 ⟨x, H1, I1, r1, a, xs, ex, hx, q⟩ => ?_)⟩
  subst ex
  cases r1
  have hst : PO X (some (.UnaryOp .USub (.Constant (.int 1) k p1) p2)) (tPart (tUn (rU fun i => .int (-i)) (tC (.int 1)))) := po_some (pe_un un_neg pe_int)
  refine wpAny_Slice ?_
  rw [evalPart_none]
  refine wpAny_pure (wpAny_pure (thn (hst.run pins s1 σ H1 (fun o H4 => o = some (-1) ∧ H4 = H1) I1 ⟨1, rfl, -1, rfl, rfl, rfl⟩) fun vs s4 ⟨o, H4, I4, ps, eo, e4⟩ => ?_))
  subst eo e4
  have I5 : Inv X pins σ H4 { s4 with heap := s4.heap.push { cls := .type "slice", data := .fields #[.none, .none, vs] } } := I4.kept (t' := s4.toks) fun b ob q => Heap.get?_push_of_some _ q
  obtain ⟨its, r, ht, hz⟩ := I5.tuple hx
  have hlen := r.length
  have zz : its.toArray.size ≤ sizeLine := by rw [List.size_toArray]; omega
  refine tail_any (ops := [.ref a, .ref s4.heap.objs.size]) ht.typeIs (PyProof.Rows.slot_tuple_getitem.lookup) (get_rev ht (Heap.IsSliceOf.new _ .none .none vs) ps ?_ zz) (by with_unfolding_all rfl)
  refine ⟨.ref _, _, I5.laid (t' := s4.toks) (o := .tup xs.reverse) (fun b ob q => Heap.get?_push_of_some _ q) (Nat.le_refl _) ?_, rfl, q _ (I5.hok.fresh (Nat.le_refl _))⟩
  exact ⟨by rw [List.length_reverse]; omega, _, r.reverse, IsTup.new _ _⟩
theorem g_revT {K : PySem.W.Frag} {te : TE} {σ : L2.St} {H : Hp} {Q : VK} (h : te σ H fun x H1 => ∃ a xs, x = .ref a ∧ SqT K H1 a xs ∧ ∀ p, H1 p = none → Q (.ref p) (upd H1 p (.tup xs.reverse))) : tRevT K te σ H Q := h
theorem d_revT {K : PySem.W.Frag} {S M : AS} {H0 H : Hp} {G : List (V × D)} {L : List (Addr × List D)} {B : List Addr} {Q : VK} {ds : List D} {a : Addr} (st : Vf.St K S M H0 H G L B) (h : Dz K S H (.tup ds) (.ref a)) (q : ∀ p H', Vf.St K S M H0 H' ((.ref p, .tup ds.reverse) :: G) L B → Q (.ref p) H') :
    ∃ (b : Addr) (xs : List V), V.ref a = .ref b ∧ SqT K H b xs ∧ ∀ p, H p = none → Q (.ref p) (upd H p (.tup xs.reverse)) := by
  obtain ⟨xs, h1, h2⟩ := z_tup h
  exact ⟨a, xs, rfl, h1.sq, fun p np => q p _ (st.tup np h2.rev)⟩
end Vf
namespace Vf
open PySem PySem.Spec PyProof.Rows L2 RZ
/-! ## zip of a list and a tuple of one length -/
def ItzM (K : PySem.W.Frag) (a b : Addr) : It :=
  ⟨fun i H => ∃ (xs ys : List V) (x y : V), SqL K H a xs ∧ SqT K H b ys ∧ xs[i]? = some x ∧ ys[i]? = some y,
    fun i H v H' => ∃ T x y, v = .ref T ∧ H T = none ∧ H' = upd H T (.tup [x, y]) ∧ (∀ xs, SqL K H a xs → xs[i]? = some x) ∧ ∀ ys, SqT K H b ys → ys[i]? = some y,
    fun i H => ∃ xs ys : List V, SqL K H a xs ∧ SqT K H b ys ∧ xs.length = i ∧ ys.length = i⟩
structure ZipM (z TI TO i1 i2 a b : Addr) : Prop where
  S : ZipSep2 z TI TO i1 i2 [i1, a] [i2, b]
  a1 : a ≠ i1
  b2 : b ≠ i2
theorem turn_zipM {P : Program} {w : World} {K : PySem.W.Frag} {elts : List Expr} {kk : Nat} {tpos : Pos} {a b z TI TO i1 i2 : Addr} (D : ZipM z TI TO i1 i2 a b) :
    Turn P w K (.Tuple elts kk tpos) (ItzM K a b) [z, TI, TO, i1, i2] z (fun i h => IsZip h z TI TO .none ∧ IsTupOf2 h TI (.ref i1) (.ref i2) ∧ (∃ x y, IsTupOf2 h TO x y) ∧ h.IsListIter i1 a i ∧ h.IsTupleIter i2 b i) where
  mem := by simp
  obj := fun i h st c hc => by
    obtain ⟨hz, hTI, ⟨x, y, hTO⟩, ⟨o1, e1, _, d1⟩, ⟨o2, e2, _, d2⟩⟩ := st
    have e' : c = z ∨ c = TI ∨ c = TO ∨ c = i1 ∨ c = i2 := by simpa using hc
    rcases e' with q | q | q | q | q
    · rw [q]; exact ⟨_, hz, fun v q => nomatch q⟩
    · rw [q]; exact ⟨_, hTI, fun v q => nomatch q⟩
    · rw [q]; exact ⟨_, hTO, fun v q => nomatch q⟩
    · rw [q]; exact ⟨o1, e1, fun v q => by rw [d1] at q; cases q⟩
    · rw [q]; exact ⟨o2, e2, fun v q => by rw [d2] at q; cases q⟩
  keep := fun i h h' st k => by
    obtain ⟨hz, hTI, ⟨x, y, hTO⟩, h1, h2⟩ := st
    exact ⟨k z (by simp) _ hz, k TI (by simp) _ hTI, ⟨x, y, k TO (by simp) _ hTO⟩, h1.at fun o q => k i1 (by simp) o q, h2.at fun o q => k i2 (by simp) o q⟩
  item := by
    intro X hP hw hK hc i pins s σ H E I hf st hg
    subst hP hw hK
    obtain ⟨hz, hTI, ⟨x0, y0, hTO⟩, h1, h2⟩ := st
    obtain ⟨xs, ys, x, y, hqx, hqy, hx, hy⟩ := hg
    obtain ⟨its, rv, p, _⟩ := I.list hqx
    obtain ⟨its2, rv2, p2, _⟩ := I.tuple hqy
    obtain ⟨v1, hv1, rv1'⟩ := rv.get hx
    obtain ⟨v2, hv2, rv2'⟩ := rv2.get hy
    have hzl : z < s.heap.objs.size := Heap.lt_size hz
    have hh : X.A.in1.handled = none := I.ok.hd hc
    have b1 : i < its.toArray.size := by have := (List.getElem?_eq_some_iff.mp hv1).1; simpa using this
    have b2 : i < its2.toArray.size := by have := (List.getElem?_eq_some_iff.mp hv2).1; simpa using this
    refine wpAny_pyNext_zipD2_item D.S (Draws.list hh i1 a D.a1 its.toArray) (Draws.tuple hh i2 b D.b2 its2.toArray) hz hTI hTO ⟨h1, p.isList⟩ ⟨h2, p2⟩ b1 b2 fun w1 w2 h' tk q1 q2 z' TO' s1 s2 hT hsz hk => ?_
    have q1 : w1 = v1 := by
      have q1 : its.toArray[i]? = some w1 := q1
      rw [List.getElem?_toArray, hv1] at q1
      exact (Option.some.inj q1).symm
    have q2 : w2 = v2 := by
      have q2 : its2.toArray[i]? = some w2 := q2
      rw [List.getElem?_toArray, hv2] at q2
      exact (Option.some.inj q2).symm
    subst q1 q2
    refine ⟨_, rfl, wpAny_letOwnedTupleGo_zip (s := { s with heap := h', toks := tk }) z' fun h'' z'' sb => ?_⟩
    have hT2 : h''.get? s.heap.objs.size = some { cls := .type "tuple", data := .seq #[w1, w2] } := (sb.2 _ (Nat.ne_of_gt hzl)).trans hT
    have new : ObjOk X.prog X.w (upd H s.heap.objs.size (.tup [x, y])) h'' s.heap.objs.size (.tup [x, y]) :=
      ⟨by show 2 ≤ sizeLine; decide, [w1, w2], .cons rv1' (.cons rv2' .nil), ⟨_, hT2, rfl, _, rfl⟩⟩
    have I1 : Inv X pins σ (upd H s.heap.objs.size (.tup [x, y])) { s with heap := h'', toks := tk } :=
      I.turnedNew (t' := tk) (ch := [z, TI, TO, i1, i2]) (fun c o hb q => (sb.2 c (fun q' => hb (by simp [q']))).trans (hk c o (fun q' => hb (by simp [q'])) (fun q' => hb (by simp [q'])) (fun q' => hb (by simp [q'])) (fun q' => hb (by simp [q'])) q)) hf (Nat.le_refl _) new
    refine ⟨.ref s.heap.objs.size, _, I1, rfl, ⟨_, x, y, rfl, I.hok.fresh (Nat.le_refl _), rfl, fun l hl => by rw [I.list_inj hl hqx]; exact hx, fun l hl => by rw [I.tuple_inj hl hqy]; exact hy⟩, ⟨z'', ?_, ⟨w1, w2, ?_⟩, ?_, ?_⟩, fun c hcm => ?_⟩
    · exact (sb.2 _ D.S.TIz).trans (hk _ _ D.S.TIz D.S.TITO D.S.TIi1 D.S.TIi2 hTI)
    · exact (sb.2 _ D.S.TOz).trans TO'
    · exact s1.1.at fun o q => (sb.2 _ (fun e => D.S.zi1 e.symm)).trans q
    · exact s2.1.at fun o q => (sb.2 _ (fun e => D.S.zi2 e.symm)).trans q
    · have hlt : c < s.heap.objs.size := by
        have e' : c = z ∨ c = TI ∨ c = TO ∨ c = i1 ∨ c = i2 := by simpa using hcm
        rcases e' with q | q | q | q | q
        · rw [q]; exact hzl
        · rw [q]; exact Heap.lt_size hTI
        · rw [q]; exact Heap.lt_size hTO
        · rw [q]; obtain ⟨_, e1, _⟩ := h1; exact Heap.lt_size e1
        · rw [q]; obtain ⟨_, e2, _⟩ := h2; exact Heap.lt_size e2
      rw [upd_ne (Nat.ne_of_lt hlt)]
      exact (hf c hcm).1
  done := by
    intro X hP hw hK hc i pins s σ H E I hf st hg
    subst hP hw hK
    obtain ⟨hz, hTI, ⟨x0, y0, hTO⟩, h1, h2⟩ := st
    obtain ⟨xs, ys, hqx, hqy, l1, l2⟩ := hg
    obtain ⟨its, rv, p, _⟩ := I.list hqx
    obtain ⟨its2, rv2, p2, _⟩ := I.tuple hqy
    have m1 := rv.length
    have m2 := rv2.length
    have hh : X.A.in1.handled = none := I.ok.hd hc
    refine wpAny_pyNext_zipD2_end D.S (Draws.list hh i1 a D.a1 its.toArray) (Draws.tuple hh i2 b D.b2 its2.toArray) hz hTI hTO ⟨h1, p.isList⟩ ⟨h2, p2⟩ (by simp; omega) (by simp; omega) (.inl (by simp; omega)) fun h' tk hk => ⟨rfl, I.turnedL (t' := tk) (ch := [z, TI, TO, i1, i2]) (fun c o hb q =>
      hk c o (fun q' => hb (by simp [q'])) (fun q' => hb (by simp [q'])) (fun q' => hb (by simp [q'])) (fun q' => hb (by simp [q'])) q) hf⟩
  self := fun A i s Q E st h => wpAny_pyIter_zip st.1 h
theorem zipM_new (n a b : Nat) (ha : a < n) (hb : b < n) : ZipM (n + 4) (n + 2) (n + 3) n (n + 1) a b := by
  refine ⟨⟨?_, ?_, ?_, ?_, ?_, ?_, ?_, ?_, ?_, ?_, ?_, ?_, ?_⟩, ?_, ?_⟩
  all_goals first
    | exact List.Mem.head _
    | (intro m; have m : @Eq Nat _ _ := m; omega)
    | (intro m; rcases List.mem_cons.mp m with m | m; (have m : @Eq Nat _ _ := m; omega); have m : @Eq Nat _ _ := List.mem_singleton.mp m; omega)
def FZipM (K : PySem.W.Frag) (R : It → Hp → Prop) : List V → Hp → Prop := fun vs H1 => ∃ a b xs ys, vs = [.ref a, .ref b] ∧ SqL K H1 a xs ∧ SqT K H1 b ys ∧ R (ItzM K a b) H1
def iZipM (K : PySem.W.Frag) (ta : TA) : TI := fun σ H R => ta σ H (FZipM K R)
theorem pi_zipM {X : Cx} {e e2 : Expr} {ta : TA} {p pos tpos : Pos} {elts : List Expr} {kk : Nat} (hg : Gl X "zip") (hm : X.mg "zip" = none) (ha : PA X [e, e2] ta)
    (hs : starEach [e, e2] X.env = (false, eval e X.env) :: starEach [e2] X.env := by rfl) (hpl : (backTo pos (starEach [e2] X.env)).any (·.1) = false := by rfl) :
    PI X (.Tuple elts kk tpos) (.Call (.Name "zip" p) [e, e2] [] pos) (iZipM X.K ta) := by
  refine ⟨fun pins s σ H R I h => ?_⟩
  refine Call_ (ld_blt I hg hm PyProof.Rows.boot_zip (PyProof.Rows.callWith_type1 (thn (ha.run pos pins s σ H _ I h) fun us s1 ⟨vs, H1, I1, r1, q1⟩ => ?_) hs hpl))
  obtain ⟨a, b, xs, ys, ex, hqx, hqy, q⟩ := q1
  subst ex
  cases r1 with
  | cons r rr =>
    cases rr with
    | cons r' rr =>
      cases rr
      cases r
      cases r'
      obtain ⟨its, rv, p1, _⟩ := I1.list hqx
      obtain ⟨its2, rv2, p2, _⟩ := I1.tuple hqy
      obtain ⟨o2, ho2, _⟩ := id p2
      have la : a < s1.heap.objs.size := p1.lt
      have lb : b < s1.heap.objs.size := Heap.lt_size ho2
      refine zip_begins2 (begins_list a its.toArray) (begins_tuple b its2.toArray) p1.isList (show s1.heap.IsTuple b its2.toArray from p2) fun h' hz hTI hTO h1 h2 hsz hk => wpAny_pyIter_zip hz ?_
      have I2 : Inv X pins σ H1 { s1 with heap := h' } := I1.kept (t' := s1.toks) hk
      refine ⟨s1.heap.objs.size + 4, [s1.heap.objs.size + 4, s1.heap.objs.size + 2, s1.heap.objs.size + 3, s1.heap.objs.size, s1.heap.objs.size + 1], _, _, H1, rfl, I2, turn_zipM (zipM_new s1.heap.objs.size a b la lb), ⟨hz, hTI, ⟨_, _, hTO⟩, ⟨_, h1, rfl, rfl⟩, ⟨_, h2, rfl, rfl⟩⟩, fun d hdm => ?_, q⟩
      have e' : d = s1.heap.objs.size + 4 ∨ d = s1.heap.objs.size + 2 ∨ d = s1.heap.objs.size + 3 ∨ d = s1.heap.objs.size ∨ d = s1.heap.objs.size + 1 := by simpa using hdm
      have hle : s1.heap.objs.size ≤ d := by
        rcases e' with z | z | z | z | z
        · rw [z]; exact Nat.le_add_right _ _
        · rw [z]; exact Nat.le_add_right _ _
        · rw [z]; exact Nat.le_add_right _ _
        · rw [z]; exact Nat.le_refl _
        · rw [z]; exact Nat.le_add_right _ _
      exact I1.fpOk hle (I1.hok.fresh hle)
theorem i_zipM {K : PySem.W.Frag} {H : Hp} {σ : L2.St} {ta : TA} {R : It → Hp → Prop} (h : ta σ H (FZipM K R)) : iZipM K ta σ H R := h
def YZM (K : PySem.W.Frag) (S : AS) (ds es : List D) : Nat → Hp → V → Hp → Prop := fun i H v H' => ∃ T x y d e, v = .ref T ∧ H T = none ∧ H' = upd H T (.tup [x, y]) ∧ (ds[i]? = some d ∧ es[i]? = some e) ∧ Dz K S H d x ∧ Dz K S H e y
theorem walk_ZM {K : PySem.W.Frag} {S : AS} {a b : Addr} {ds es : List D} {n : Nat} (h1 : ds.length = n) (h2 : es.length = n) : Walk (ItzM K a b) n (fun H => Dz K S H (.lst ds) (.ref a) ∧ Dz K S H (.tup es) (.ref b)) (YZM K S ds es) := by
  refine ⟨fun i H hi h => ?_, fun H h => ?_, fun i H v H' hi h y => ?_⟩
  · obtain ⟨xs, q1, q2⟩ := z_lst h.1
    obtain ⟨ys, q3, q4⟩ := z_tup h.2
    obtain ⟨x, e1, _⟩ := q2.get (d := ds[i]) (List.getElem?_eq_getElem (by omega))
    obtain ⟨y, e2, _⟩ := q4.get (d := es[i]) (List.getElem?_eq_getElem (by omega))
    exact ⟨xs, ys, x, y, q1.sq, q3.sq, e1, e2⟩
  · obtain ⟨xs, q1, q2⟩ := z_lst h.1
    obtain ⟨ys, q3, q4⟩ := z_tup h.2
    exact ⟨xs, ys, q1.sq, q3.sq, by rw [q2.len, h1], by rw [q4.len, h2]⟩
  · obtain ⟨T, x, y, rfl, nT, rfl, g1, g2⟩ := y
    obtain ⟨xs, q1, q2⟩ := z_lst h.1
    obtain ⟨ys, q3, q4⟩ := z_tup h.2
    obtain ⟨x', e1, hx⟩ := q2.get (d := ds[i]) (List.getElem?_eq_getElem (by omega))
    obtain ⟨y', e2, hy⟩ := q4.get (d := es[i]) (List.getElem?_eq_getElem (by omega))
    have z1 := g1 xs q1.sq
    rw [e1] at z1
    cases z1
    have z2 := g2 ys q3.sq
    rw [e2] at z2
    cases z2
    exact ⟨T, x, y, _, _, rfl, nT, rfl, ⟨List.getElem?_eq_getElem (by omega), List.getElem?_eq_getElem (by omega)⟩, hx, hy⟩
/-- for (x, y) in zip(list, tuple) -/
theorem for_ZM {K : PySem.W.Frag} {S : AS} {H : Hp} {a b : Addr} {ds es : List D} {n : Nat} {g : TG} {tb : TS} {E : Ends} {σ : L2.St} (h1 : ds.length = n) (h2 : es.length = n) (Pv : Nat → L2.St → Hp → Prop) (hG : ∀ i σ H, Pv i σ H → Dz K S H (.lst ds) (.ref a) ∧ Dz K S H (.tup es) (.ref b)) (h0 : Pv 0 σ H)
    (hs : ∀ i d e x y T σ H, ds[i]? = some d → es[i]? = some e → i < n → Dz K S H d x → Dz K S H e y → Pv i σ H → H T = none → g (.ref T) σ (upd H T (.tup [x, y])) fun σ2 H2 => tb { E with nx := Pv (i + 1), ct := Pv (i + 1), bk := E.nx } σ2 H2) (hd : ∀ σ H, Pv n σ H → E.nx σ H) : FZipM K (FFor g tb E σ) [.ref a, .ref b] H := by
  obtain ⟨z1, z2⟩ := hG _ _ _ h0
  obtain ⟨xs, q1, q2⟩ := z_lst z1
  obtain ⟨ys, q3, q4⟩ := z_tup z2
  refine ⟨a, b, xs, ys, rfl, q1.sq, q3.sq, for_it (walk_ZM h1 h2) Pv h0 (fun i σ H _ p => hG i σ H p) (fun i v σ H H' hi p y => ?_) hd⟩
  obtain ⟨T, x, y, d, e, rfl, nT, rfl, ⟨g1, g2⟩, hx, hy⟩ := y
  exact hs i d e x y T σ H g1 g2 hi hx hy p nT
end Vf
namespace Vf
open PySem PySem.Spec PyProof.Rows L2 RZ
/-! ## a new store: dicts with nothing in them -/
theorem sortedD_nil {X : Cx} (hc : X.calm = true) : CallR X (.builtin "sorted") (fun xs H Q => ∃ a : Addr, xs = [.ref a] ∧ Rd H a (.dK []) ∧ ∀ p, H p = none → Q (.ref p) (upd H p (.lst []))) := by
  intro pins s σ H xs us Q I r q
  obtain ⟨a, ex, hd, q⟩ := q
  refine call_sortedD hc pins s σ H xs us Q I r ⟨a, [], [], ex, hd, rfl, by decide, fun ys p hp _ n => ?_⟩
  rw [List.Perm.eq_nil hp]
  exact q p n
def rSortedE : List V → Hp → VK → Prop := fun xs H Q => ∃ a : Addr, xs = [.ref a] ∧ Rd H a (.dK []) ∧ ∀ p, H p = none → Q (.ref p) (upd H p (.lst []))
theorem cr_sortedE {X : Cx} (hc : X.calm = true) : CallR X (.builtin "sorted") rSortedE := sortedD_nil hc
section
variable {K : PySem.W.Frag} {S M : AS} {H0 H : Hp} {G : List (V × D)} {L : List (Addr × List D)} {B : List Addr} {Q : VK} {σ : L2.St}
/-- sorted of a dict with nothing in it -/
theorem d_sortedE {x : V} (st : St K S M H0 H G L B) (h : Dz K S H (.dic []) x) (q : ∀ p H', St K S M H0 H' ((.ref p, .lst []) :: G) L B → Q (.ref p) H') : rSortedE [x] H Q := by
  obtain ⟨a, rfl, _, h1⟩ := h
  exact ⟨a, rfl, .inl h1, fun p n => q p _ (st.lst n zl_nil)⟩
/-- .. the new list is one's own -/
theorem d_sortedEo {x : V} (st : St K S M H0 H G L B) (h : Dz K S H (.dic []) x) (q : ∀ p H', ¬ S p → St K (fun c => S c ∨ c = p) M H0 H' G ((p, []) :: L) B → Q (.ref p) H') : rSortedE [x] H Q := by
  obtain ⟨a, rfl, _, h1⟩ := h
  exact ⟨a, rfl, .inl h1, fun p n => q p _ (st.nS n) (st.own n zl_nil)⟩
/-- d.get(k, x) of a dict with nothing in it -/
theorem g_dget2 {td ty tx : TE} (h : td σ H fun x H1 => ∃ a, x = .ref a ∧ IsD H1 a ∧ ty σ H1 fun y H2 => tx σ H2 fun z H3 => ∃ o, DGet H3 a y o ∧ Q (o.getD z) H3) : tDGet2 td ty tx σ H Q := h
theorem d_isD {x : V} {kvs : List (Key × V)} {R : Addr → Prop} (h : Dz K S H (.dic kvs) x) (q : ∀ a, x = .ref a → R a) : ∃ a, x = .ref a ∧ IsD H a ∧ R a := by
  obtain ⟨a, rfl, _, h1⟩ := h
  exact ⟨a, rfl, .inl ⟨kvs, .inl h1⟩, q a rfl⟩
theorem d_get0 {a : Addr} {y : Str} {z : V} {R : V → Prop} (h : Dz K S H (.dic []) (.ref a)) (q : R z) : ∃ o, DGet H a (.str y) o ∧ R (o.getD z) := by
  obtain ⟨b, e, _, h1⟩ := h
  cases e
  exact ⟨none, .inl ⟨[], .inr y, .inl h1, rfl, rfl⟩, q⟩
/-- [.. for x in o.f.values() ..] of a dict with nothing in it -/
theorem g_vals0 {td : TE} {g : TG} {tt : TT} {te : TE} {vs : List Nat} {d : Addr} (hd : H d = some (.dK [])) (e : ∀ od (R : VK), R (.ref d) (upd H d (.frz od (.dK []))) → td σ (upd H d (.frz od (.dK []))) R)
    (q : ∀ p, H p = none → Q (.ref p) (upd H p (.lst []))) : tLockE (tLc (iVals td) g tt te vs) σ H Q := by
  refine ⟨d, .dK [], hd, by simp [Mut], fun od => ?_⟩
  refine e od _ ⟨d, od, [], rfl, upd_same, ?_⟩
  intro D hD
  have ne : D ≠ d := fun z => by rw [z, upd_same] at hD; cases hD
  have hD' : H D = none := by rw [upd_ne ne] at hD; exact hD
  refine ⟨fun i m H' => i = 0 ∧ m = 0 ∧ H' = upd (upd H d (.frz od (.dK []))) D (.lst []), ⟨0, rfl, rfl, rfl⟩, ?_⟩
  rintro i m H' ⟨rfl, rfl, rfl⟩
  have ed : (upd (upd H d (.frz od (.dK []))) D (.lst [])) d = some (.frz od (.dK [])) := by rw [upd_ne (Ne.symm ne), upd_same]
  refine .inl ⟨⟨ed, Nat.le_refl _⟩, ed, ?_⟩
  have eh : upd (upd (upd H d (.frz od (.dK []))) D (.lst [])) d (.dK []) = upd H D (.lst []) := by
    funext b
    by_cases hb : b = d
    · rw [hb, upd_same, upd_ne (Ne.symm ne), hd]
    · rw [upd_ne hb]
      by_cases hb2 : b = D
      · rw [hb2, upd_same, upd_same]
      · rw [upd_ne hb2, upd_ne hb2, upd_ne hb]
  rw [eh]
  exact q D hD'
end
theorem pe_fldK {X : Cx} {e : Expr} {ta : TE} {f : Str} {pos : Pos} {K : PySem.W.Frag} (he : PE X e ta) (hb : attributeBase e f X.env (eval e X.env) = eval e X.env) (hK : X.K = K := by rfl) : PE X (.Attribute e f pos) (tFld K ta f) := by
  subst hK
  exact pe_fld he hb
/-! ### C(..) without keywords -/
def FMk1 (C : Addr) (sp : Sp) (dvs : List V) (E : XK) (Q : VK) : List V → Hp → Prop := fun vs H1 => ∀ x dx, H1 x = none → H1 dx = none → dx ≠ x → sp (.ref x :: (vs ++ dvs)) (upd (upd H1 dx (.own x)) x (.ins C dx [])) (fun v H2 => v = .non ∧ Q (.ref x) H2) E
theorem g_mk1 {C : Addr} {sp : Sp} {dvs : List V} {E : XK} {Q : VK} {t : TA} {σ : L2.St} {H : Hp} (h : t σ H (FMk1 C sp dvs E Q)) : tMake C sp dvs E t σ H Q := h
theorem c_mk {α : Type} {K : PySem.W.Frag} {S M : AS} {H0 H : Hp} {G : List (V × D)} {L : List (Addr × List D)} {B : List Addr} {Q : VK} {C : Addr} {enc : α → List D} {pre : α → Prop} {fs : α → List (Str × D)} {dvs : List V} {E : XK} {vs : List V} (x : α) (st : St K S M H0 H G L B) (hz : DzL K S H (enc x) (vs ++ dvs)) (hp : pre x)
    (q : ∀ a H', St K S M H0 H' ((.ref a, .ins C (fs x)) :: G) L B → Q (.ref a) H') : FMk1 C (spInit K C enc pre fs) dvs E Q vs H :=
  (c_make (n := vs.length) (m := 0) (gV := fun vs _ => vs ++ dvs) (zs := []) (vs := vs) (E := E) x st rfl rfl (vs ++ dvs) (fun _ => rfl) hz hp q).2.2
theorem d_sumZ {K : PySem.W.Frag} {S : AS} {H : Hp} {Q : VK} {a : Addr} {ns : List Int} (h : Dz K S H (.lst (ns.map D.int)) (.ref a)) (q : Q (.int ns.sum) H) : rSum K [.ref a] H Q := by
  obtain ⟨xs, h1, h2⟩ := z_lst h
  have e := DzL.ints _ h2
  subst e
  exact ⟨a, ns, rfl, h1.sq, q⟩
/-! ### rooms and stirs as they may be -/
def isRooms : D → Bool
  | .lst ds => decide (1 ≤ ds.length ∧ ds.length ≤ 4) && ds.all fun d => isWithin d 1 (10 ^ 12)
  | _ => false
def isStirs : D → Bool
  | .lst ds => decide (ds.length = 10) && ds.all fun d => isWithin d (-(10 ^ 9)) (10 ^ 9)
  | _ => false
structure PreRow (d : D) : Prop where
  no : d.noIns = true
  few : ∀ ds, d = .lst ds → ds.length ≤ 100000 ∧ ∀ e ∈ ds, e.noIns = true
theorem all_mapX (ds : List D) (f : D → Bool) : ((ds.map f).all id) = ds.all f := by
  induction ds with
  | nil => rfl
  | cons d ds ih => simp [List.all_cons, ih]
/-! ### data whose lists have nothing in them -/
mutual
def D.ime : D → Bool
  | .lst ds => ds.isEmpty
  | .dic kvs => kvs.isEmpty
  | .tup ds => D.imes ds
  | .ins _ fs => D.imeF fs
  | .non | .bl _ | .int _ | .str _ => true
def D.imes : List D → Bool
  | [] => true
  | d :: ds => D.ime d && D.imes ds
def D.imeF : List (Str × D) → Bool
  | [] => true
  | (_, d) :: ds => D.ime d && D.imeF ds
end
section
variable {K : PySem.W.Frag} {S S' : AS} {H : Hp}
mutual
theorem Dz.ime (sep : ∀ b, S' b → S b ∨ ∃ y ys, H b = some (.lst (y :: ys))) : ∀ (d : D) (v : V), D.ime d = true → Dz K S H d v → Dz K S' H d v
  | .non, _, _, h => h
  | .bl _, _, _, h => h
  | .int _, _, _, h => h
  | .str _, _, _, h => h
  | .lst ds, _, i, h => by
    obtain ⟨a, xs, e, h1, h2⟩ := h
    have : ds = [] := List.isEmpty_iff.mp i
    subst this
    obtain rfl : xs = [] := h2
    refine ⟨a, [], e, ⟨fun z => ?_, h1.2⟩, rfl⟩
    rcases sep a z with z | ⟨y, ys, z⟩
    · exact h1.1 z
    · have r := h1.2
      rw [z] at r; cases r
  | .dic kvs, _, i, h => by
    obtain ⟨a, e, h1, h2⟩ := h
    refine ⟨a, e, fun z => ?_, h2⟩
    rcases sep a z with z | ⟨y, ys, z⟩
    · exact h1 z
    · rw [z] at h2; cases h2
  | .tup ds, _, i, h => by
    obtain ⟨a, xs, e, h1, h2⟩ := h
    refine ⟨a, xs, e, ?_, DzL.ime sep ds xs i h2⟩
    rcases h1 with ⟨n, r⟩ | h1
    · refine .inl ⟨fun z => ?_, r⟩
      rcases sep a z with z | ⟨y, ys, z⟩
      · exact n z
      · rcases r with r | ⟨o, r⟩ <;> rw [z] at r <;> cases r
    · exact .inr h1
  | .ins C fs, _, i, h => by
    obtain ⟨a, dx, gs, e, h1, h2, h3⟩ := h
    refine ⟨a, dx, gs, e, fun z => ?_, h2, DzF.ime sep fs gs i h3⟩
    rcases sep a z with z | ⟨y, ys, z⟩
    · exact h1 z
    · rw [z] at h2; cases h2
theorem DzL.ime (sep : ∀ b, S' b → S b ∨ ∃ y ys, H b = some (.lst (y :: ys))) : ∀ (ds : List D) (xs : List V), D.imes ds = true → DzL K S H ds xs → DzL K S' H ds xs
  | [], _, _, h => h
  | d :: ds, _, i, h => by
    obtain ⟨x, r, e, h1, h2⟩ := h
    rw [D.imes, Bool.and_eq_true] at i
    exact ⟨x, r, e, Dz.ime sep d x i.1 h1, DzL.ime sep ds r i.2 h2⟩
theorem DzF.ime (sep : ∀ b, S' b → S b ∨ ∃ y ys, H b = some (.lst (y :: ys))) : ∀ (ds : List (Str × D)) (xs : List (Str × V)), D.imeF ds = true → DzF K S H ds xs → DzF K S' H ds xs
  | [], _, _, h => h
  | (n, d) :: ds, _, i, h => by
    obtain ⟨x, r, e, h1, h2⟩ := h
    rw [D.imeF, Bool.and_eq_true] at i
    exact ⟨x, r, e, Dz.ime sep d x i.1 h1, DzF.ime sep ds r i.2 h2⟩
end
end
theorem imes_ints : ∀ l : List Int, D.imes (l.map D.int) = true
  | [] => rfl
  | i :: l => by rw [List.map_cons, D.imes, D.ime, imes_ints l]; rfl
/-! ### what a new store is made of -/
structure Sq where
  rooms : List Int
  stirs : List Int
  grain : Int
  fade : Int
def intsD (l : List Int) : List D := l.map D.int
def storyFs : List (Str × D) := [("shared", .lst []), ("length", .int 0)]
def Sq.shelf (C : Addr) (s : Sq) : List (Str × D) :=
  [("limits", .tup (s.rooms.map D.int)), ("shifts", .tup (s.stirs.map D.int)), ("per_asking", .int s.grain), ("per_turn", .int s.fade), ("moment", .int 0), ("things", .dic []), ("traces", .dic []), ("plans", .lst []), ("hired", .int 0), ("mark", .non), ("rows", .ins C storyFs)]
def Sq.shelfD (C C' : Addr) (s : Sq) : D := .ins C (s.shelf C')
def Sq.fs (C C' : Addr) (s : Sq) : List (Str × D) := [("shelf", s.shelfD C C')]
/-- rooms and stirs as a store may have them -/
structure Sq.Ok (s : Sq) : Prop where
  rl : 1 ≤ s.rooms.length ∧ s.rooms.length ≤ 4
  rs : ∀ r ∈ s.rooms, 1 ≤ r ∧ r ≤ 10 ^ 12
  sl : s.stirs.length = 10
  ss : ∀ r ∈ s.stirs, -(10 ^ 9) ≤ r ∧ r ≤ 10 ^ 9
  g : 0 ≤ s.grain ∧ s.grain ≤ 10 ^ 9
  f : 1 ≤ s.fade ∧ s.fade ≤ 10 ^ 9
end Vf
namespace Pf
open PySem PySem.Spec PyProof.Rows L2 RZ Vf
def top (i : Nat) : Stmt := PySem.Challenge.pw_wanehold_k40_stores_made.main.body.getD i (.Pass ⟨0, 0, 0, 0⟩)
abbrev s__wall : Stmt := (top 0)
abbrev N__wall : List Str := ["k"]
theorem sc__wall : FnScope N__wall ["k"] (defScope s__wall) := ⟨rfl, rfl, rfl, by decide +kernel, rfl, by decide +kernel, by decide +kernel⟩
abbrev s_Wrong___init__ : Stmt := (inClass (top 3) 0)
abbrev N_Wrong___init__ : List Str := ["self", "place"]
theorem sc_Wrong___init__ : FnScope N_Wrong___init__ ["self", "place"] (defScope s_Wrong___init__) := ⟨rfl, rfl, rfl, by decide +kernel, rfl, by decide +kernel, by decide +kernel⟩
abbrev s_TooMany___init__ : Stmt := (inClass (top 4) 0)
abbrev N_TooMany___init__ : List Str := ["self", "most"]
theorem sc_TooMany___init__ : FnScope N_TooMany___init__ ["self", "most"] (defScope s_TooMany___init__) := ⟨rfl, rfl, rfl, by decide +kernel, rfl, by decide +kernel, by decide +kernel⟩
abbrev s_There___init__ : Stmt := (inClass (top 5) 0)
abbrev N_There___init__ : List Str := ["self", "name"]
theorem sc_There___init__ : FnScope N_There___init__ ["self", "name"] (defScope s_There___init__) := ⟨rfl, rfl, rfl, by decide +kernel, rfl, by decide +kernel, by decide +kernel⟩
abbrev s_Gone___init__ : Stmt := (inClass (top 6) 0)
abbrev N_Gone___init__ : List Str := ["self", "name"]
theorem sc_Gone___init__ : FnScope N_Gone___init__ ["self", "name"] (defScope s_Gone___init__) := ⟨rfl, rfl, rfl, by decide +kernel, rfl, by decide +kernel, by decide +kernel⟩
abbrev s_refuse_wrong : Stmt := (top 8)
abbrev N_refuse_wrong : List Str := ["fits", "place", "fit"]
theorem sc_refuse_wrong : FnScope N_refuse_wrong ["fits"] (defScope s_refuse_wrong) := ⟨rfl, rfl, rfl, by decide +kernel, rfl, by decide +kernel, by decide +kernel⟩
abbrev s_is_whole : Stmt := (top 18)
abbrev N_is_whole : List Str := ["thing"]
theorem sc_is_whole : FnScope N_is_whole ["thing"] (defScope s_is_whole) := ⟨rfl, rfl, rfl, by decide +kernel, rfl, by decide +kernel, by decide +kernel⟩
abbrev s_is_within : Stmt := (top 19)
abbrev N_is_within : List Str := ["thing", "least", "most"]
theorem sc_is_within : FnScope N_is_within ["thing", "least", "most"] (defScope s_is_within) := ⟨rfl, rfl, rfl, by decide +kernel, rfl, by decide +kernel, by decide +kernel⟩
abbrev s_is_name : Stmt := (top 20)
abbrev N_is_name : List Str := ["thing", "sign"]
theorem sc_is_name : FnScope N_is_name ["thing"] (defScope s_is_name) := ⟨rfl, rfl, rfl, by decide +kernel, rfl, by decide +kernel, by decide +kernel⟩
abbrev s_is_sort : Stmt := (top 21)
abbrev N_is_sort : List Str := ["thing"]
theorem sc_is_sort : FnScope N_is_sort ["thing"] (defScope s_is_sort) := ⟨rfl, rfl, rfl, by decide +kernel, rfl, by decide +kernel, by decide +kernel⟩
abbrev s_is_strength : Stmt := (top 22)
abbrev N_is_strength : List Str := ["thing"]
theorem sc_is_strength : FnScope N_is_strength ["thing"] (defScope s_is_strength) := ⟨rfl, rfl, rfl, by decide +kernel, rfl, by decide +kernel, by decide +kernel⟩
abbrev s_is_size : Stmt := (top 23)
abbrev N_is_size : List Str := ["thing"]
theorem sc_is_size : FnScope N_is_size ["thing"] (defScope s_is_size) := ⟨rfl, rfl, rfl, by decide +kernel, rfl, by decide +kernel, by decide +kernel⟩
abbrev s_is_shift : Stmt := (top 24)
abbrev N_is_shift : List Str := ["thing"]
theorem sc_is_shift : FnScope N_is_shift ["thing"] (defScope s_is_shift) := ⟨rfl, rfl, rfl, by decide +kernel, rfl, by decide +kernel, by decide +kernel⟩
abbrev s_is_room : Stmt := (top 25)
abbrev N_is_room : List Str := ["thing"]
theorem sc_is_room : FnScope N_is_room ["thing"] (defScope s_is_room) := ⟨rfl, rfl, rfl, by decide +kernel, rfl, by decide +kernel, by decide +kernel⟩
abbrev s_is_moment : Stmt := (top 26)
abbrev N_is_moment : List Str := ["thing"]
theorem sc_is_moment : FnScope N_is_moment ["thing"] (defScope s_is_moment) := ⟨rfl, rfl, rfl, by decide +kernel, rfl, by decide +kernel, by decide +kernel⟩
abbrev s_is_step : Stmt := (top 27)
abbrev N_is_step : List Str := ["thing", "by", "take"]
theorem sc_is_step : FnScope N_is_step ["thing"] (defScope s_is_step) := ⟨rfl, rfl, rfl, by decide +kernel, rfl, by decide +kernel, by decide +kernel⟩
abbrev s_hour_of : Stmt := (top 28)
abbrev N_hour_of : List Str := ["moment"]
theorem sc_hour_of : FnScope N_hour_of ["moment"] (defScope s_hour_of) := ⟨rfl, rfl, rfl, by decide +kernel, rfl, by decide +kernel, by decide +kernel⟩
abbrev s_Wane___init__ : Stmt := (inClass (top 34) 0)
abbrev N_Wane___init__ : List Str := ["self", "head", "tail", "cap", "lift", "anew"]
theorem sc_Wane___init__ : FnScope N_Wane___init__ ["self", "head", "tail", "cap", "lift", "anew"] (defScope s_Wane___init__) := ⟨rfl, rfl, rfl, by decide +kernel, rfl, by decide +kernel, by decide +kernel⟩
abbrev s_Wane_head : Stmt := (inClass (top 34) 1)
abbrev N_Wane_head : List Str := ["self"]
theorem sc_Wane_head : FnScope N_Wane_head ["self"] (defScope s_Wane_head) := ⟨rfl, rfl, rfl, by decide +kernel, rfl, by decide +kernel, by decide +kernel⟩
abbrev s_Wane_tail : Stmt := (inClass (top 34) 2)
abbrev N_Wane_tail : List Str := ["self"]
theorem sc_Wane_tail : FnScope N_Wane_tail ["self"] (defScope s_Wane_tail) := ⟨rfl, rfl, rfl, by decide +kernel, rfl, by decide +kernel, by decide +kernel⟩
abbrev s_Wane_cap : Stmt := (inClass (top 34) 3)
abbrev N_Wane_cap : List Str := ["self"]
theorem sc_Wane_cap : FnScope N_Wane_cap ["self"] (defScope s_Wane_cap) := ⟨rfl, rfl, rfl, by decide +kernel, rfl, by decide +kernel, by decide +kernel⟩
abbrev s_Wane_lift : Stmt := (inClass (top 34) 4)
abbrev N_Wane_lift : List Str := ["self"]
theorem sc_Wane_lift : FnScope N_Wane_lift ["self"] (defScope s_Wane_lift) := ⟨rfl, rfl, rfl, by decide +kernel, rfl, by decide +kernel, by decide +kernel⟩
abbrev s_Wane_is_anew : Stmt := (inClass (top 34) 5)
abbrev N_Wane_is_anew : List Str := ["self"]
theorem sc_Wane_is_anew : FnScope N_Wane_is_anew ["self"] (defScope s_Wane_is_anew) := ⟨rfl, rfl, rfl, by decide +kernel, rfl, by decide +kernel, by decide +kernel⟩
abbrev s_Wane_step : Stmt := (inClass (top 34) 6)
abbrev N_Wane_step : List Str := ["self", "number"]
theorem sc_Wane_step : FnScope N_Wane_step ["self", "number"] (defScope s_Wane_step) := ⟨rfl, rfl, rfl, by decide +kernel, rfl, by decide +kernel, by decide +kernel⟩
abbrev s_Wane_phase : Stmt := (inClass (top 34) 7)
abbrev N_Wane_phase : List Str := ["self", "since"]
theorem sc_Wane_phase : FnScope N_Wane_phase ["self", "since"] (defScope s_Wane_phase) := ⟨rfl, rfl, rfl, by decide +kernel, rfl, by decide +kernel, by decide +kernel⟩
abbrev s_Wane_text : Stmt := (inClass (top 34) 8)
abbrev N_Wane_text : List Str := ["self", "words", "step"]
theorem sc_Wane_text : FnScope N_Wane_text ["self"] (defScope s_Wane_text) := ⟨rfl, rfl, rfl, by decide +kernel, rfl, by decide +kernel, by decide +kernel⟩
abbrev s_Wane_step_behind : Stmt := (inClass (top 34) 9)
abbrev N_Wane_step_behind : List Str := ["self", "since"]
theorem sc_Wane_step_behind : FnScope N_Wane_step_behind ["self", "since"] (defScope s_Wane_step_behind) := ⟨rfl, rfl, rfl, by decide +kernel, rfl, by decide +kernel, by decide +kernel⟩
abbrev s_Wane_phase_behind : Stmt := (inClass (top 34) 10)
abbrev N_Wane_phase_behind : List Str := ["self", "since", "lead"]
theorem sc_Wane_phase_behind : FnScope N_Wane_phase_behind ["self", "since"] (defScope s_Wane_phase_behind) := ⟨rfl, rfl, rfl, by decide +kernel, rfl, by decide +kernel, by decide +kernel⟩
abbrev s_is_wane : Stmt := (top 35)
abbrev N_is_wane : List Str := ["thing"]
theorem sc_is_wane : FnScope N_is_wane ["thing"] (defScope s_is_wane) := ⟨rfl, rfl, rfl, by decide +kernel, rfl, by decide +kernel, by decide +kernel⟩
abbrev s_is_level : Stmt := (top 36)
abbrev N_is_level : List Str := ["wane", "thing"]
theorem sc_is_level : FnScope N_is_level ["wane", "thing"] (defScope s_is_level) := ⟨rfl, rfl, rfl, by decide +kernel, rfl, by decide +kernel, by decide +kernel⟩
abbrev s__is_head : Stmt := (top 37)
abbrev N__is_head : List Str := ["thing"]
theorem sc__is_head : FnScope N__is_head ["thing"] (defScope s__is_head) := ⟨rfl, rfl, rfl, by decide +kernel, rfl, by decide +kernel, by decide +kernel⟩
abbrev s__is_tail : Stmt := (top 38)
abbrev N__is_tail : List Str := ["thing"]
theorem sc__is_tail : FnScope N__is_tail ["thing"] (defScope s__is_tail) := ⟨rfl, rfl, rfl, by decide +kernel, rfl, by decide +kernel, by decide +kernel⟩
abbrev s__are_steps : Stmt := (top 39)
abbrev N__are_steps : List Str := ["thing", "step"]
theorem sc__are_steps : FnScope N__are_steps ["thing"] (defScope s__are_steps) := ⟨rfl, rfl, rfl, by decide +kernel, rfl, by decide +kernel, by decide +kernel⟩
abbrev s__step_word : Stmt := (top 40)
abbrev N__step_word : List Str := ["step", "by", "take"]
theorem sc__step_word : FnScope N__step_word ["step"] (defScope s__step_word) := ⟨rfl, rfl, rfl, by decide +kernel, rfl, by decide +kernel, by decide +kernel⟩
abbrev s_behind_turn : Stmt := (top 42)
abbrev N_behind_turn : List Str := ["wane", "strength", "since", "by", "take"]
theorem sc_behind_turn : FnScope N_behind_turn ["wane", "strength", "since"] (defScope s_behind_turn) := ⟨rfl, rfl, rfl, by decide +kernel, rfl, by decide +kernel, by decide +kernel⟩
abbrev s_behind_asking : Stmt := (top 43)
abbrev N_behind_asking : List Str := ["wane", "strength"]
theorem sc_behind_asking : FnScope N_behind_asking ["wane", "strength"] (defScope s_behind_asking) := ⟨rfl, rfl, rfl, by decide +kernel, rfl, by decide +kernel, by decide +kernel⟩
abbrev s_Story___init__ : Stmt := (inClass (top 45) 0)
abbrev N_Story___init__ : List Str := ["self"]
theorem sc_Story___init__ : FnScope N_Story___init__ ["self"] (defScope s_Story___init__) := ⟨rfl, rfl, rfl, by decide +kernel, rfl, by decide +kernel, by decide +kernel⟩
abbrev s_Story_doubled : Stmt := (inClass (top 45) 1)
abbrev N_Story_doubled : List Str := ["self", "other"]
theorem sc_Story_doubled : FnScope N_Story_doubled ["self"] (defScope s_Story_doubled) := ⟨rfl, rfl, rfl, by decide +kernel, rfl, by decide +kernel, by decide +kernel⟩
abbrev s_Story_write : Stmt := (inClass (top 45) 2)
abbrev N_Story_write : List Str := ["self", "row"]
theorem sc_Story_write : FnScope N_Story_write ["self", "row"] (defScope s_Story_write) := ⟨rfl, rfl, rfl, by decide +kernel, rfl, by decide +kernel, by decide +kernel⟩
abbrev s_Story_listed : Stmt := (inClass (top 45) 3)
abbrev N_Story_listed : List Str := ["self"]
theorem sc_Story_listed : FnScope N_Story_listed ["self"] (defScope s_Story_listed) := ⟨rfl, rfl, rfl, by decide +kernel, rfl, by decide +kernel, by decide +kernel⟩
abbrev s_Thing___init__ : Stmt := (inClass (top 53) 0)
abbrev N_Thing___init__ : List Str := ["self", "name", "group", "wane", "strength"]
theorem sc_Thing___init__ : FnScope N_Thing___init__ ["self", "name", "group", "wane", "strength"] (defScope s_Thing___init__) := ⟨rfl, rfl, rfl, by decide +kernel, rfl, by decide +kernel, by decide +kernel⟩
abbrev s_Thing_doubled : Stmt := (inClass (top 53) 1)
abbrev N_Thing_doubled : List Str := ["self", "other"]
theorem sc_Thing_doubled : FnScope N_Thing_doubled ["self"] (defScope s_Thing_doubled) := ⟨rfl, rfl, rfl, by decide +kernel, rfl, by decide +kernel, by decide +kernel⟩
abbrev s_Thing_phase : Stmt := (inClass (top 53) 2)
abbrev N_Thing_phase : List Str := ["self"]
theorem sc_Thing_phase : FnScope N_Thing_phase ["self"] (defScope s_Thing_phase) := ⟨rfl, rfl, rfl, by decide +kernel, rfl, by decide +kernel, by decide +kernel⟩
abbrev s_Shelf___init__ : Stmt := (inClass (top 54) 0)
abbrev N_Shelf___init__ : List Str := ["self", "limits", "shifts", "per_asking", "per_turn"]
theorem sc_Shelf___init__ : FnScope N_Shelf___init__ ["self", "limits", "shifts", "per_asking", "per_turn"] (defScope s_Shelf___init__) := ⟨rfl, rfl, rfl, by decide +kernel, rfl, by decide +kernel, by decide +kernel⟩
abbrev s_Shelf_doubled : Stmt := (inClass (top 54) 1)
abbrev N_Shelf_doubled : List Str := ["self", "other", "name", "thing"]
theorem sc_Shelf_doubled : FnScope N_Shelf_doubled ["self"] (defScope s_Shelf_doubled) := ⟨rfl, rfl, rfl, by decide +kernel, rfl, by decide +kernel, by decide +kernel⟩
abbrev s_Shelf_by_names : Stmt := (inClass (top 54) 2)
abbrev N_Shelf_by_names : List Str := ["self", "name"]
theorem sc_Shelf_by_names : FnScope N_Shelf_by_names ["self"] (defScope s_Shelf_by_names) := ⟨rfl, rfl, rfl, by decide +kernel, rfl, by decide +kernel, by decide +kernel⟩
abbrev s_Shelf_in_room : Stmt := (inClass (top 54) 3)
abbrev N_Shelf_in_room : List Str := ["self", "room", "thing"]
theorem sc_Shelf_in_room : FnScope N_Shelf_in_room ["self", "room"] (defScope s_Shelf_in_room) := ⟨rfl, rfl, rfl, by decide +kernel, rfl, by decide +kernel, by decide +kernel⟩
abbrev s_Shelf_sum_in : Stmt := (inClass (top 54) 4)
abbrev N_Shelf_sum_in : List Str := ["self", "room", "thing"]
theorem sc_Shelf_sum_in : FnScope N_Shelf_sum_in ["self", "room"] (defScope s_Shelf_sum_in) := ⟨rfl, rfl, rfl, by decide +kernel, rfl, by decide +kernel, by decide +kernel⟩
abbrev s_Shelf_states : Stmt := (inClass (top 54) 5)
abbrev N_Shelf_states : List Str := ["self", "thing"]
theorem sc_Shelf_states : FnScope N_Shelf_states ["self"] (defScope s_Shelf_states) := ⟨rfl, rfl, rfl, by decide +kernel, rfl, by decide +kernel, by decide +kernel⟩
abbrev s_Shelf_trace_of : Stmt := (inClass (top 54) 6)
abbrev N_Shelf_trace_of : List Str := ["self", "name", "number", "moment"]
theorem sc_Shelf_trace_of : FnScope N_Shelf_trace_of ["self", "name"] (defScope s_Shelf_trace_of) := ⟨rfl, rfl, rfl, by decide +kernel, rfl, by decide +kernel, by decide +kernel⟩
abbrev s_Shelf_add_row : Stmt := (inClass (top 54) 7)
abbrev N_Shelf_add_row : List Str := ["self", "thing", "word"]
theorem sc_Shelf_add_row : FnScope N_Shelf_add_row ["self", "thing", "word"] (defScope s_Shelf_add_row) := ⟨rfl, rfl, rfl, by decide +kernel, rfl, by decide +kernel, by decide +kernel⟩
abbrev s_Shelf_put_in : Stmt := (inClass (top 54) 8)
abbrev N_Shelf_put_in : List Str := ["self", "thing"]
theorem sc_Shelf_put_in : FnScope N_Shelf_put_in ["self", "thing"] (defScope s_Shelf_put_in) := ⟨rfl, rfl, rfl, by decide +kernel, rfl, by decide +kernel, by decide +kernel⟩
abbrev s_Shelf_take_out : Stmt := (inClass (top 54) 9)
abbrev N_Shelf_take_out : List Str := ["self", "thing"]
theorem sc_Shelf_take_out : FnScope N_Shelf_take_out ["self", "thing"] (defScope s_Shelf_take_out) := ⟨rfl, rfl, rfl, by decide +kernel, rfl, by decide +kernel, by decide +kernel⟩
abbrev s_Shelf_lose : Stmt := (inClass (top 54) 10)
abbrev N_Shelf_lose : List Str := ["self", "thing", "word", "number"]
theorem sc_Shelf_lose : FnScope N_Shelf_lose ["self", "thing", "word"] (defScope s_Shelf_lose) := ⟨rfl, rfl, rfl, by decide +kernel, rfl, by decide +kernel, by decide +kernel⟩
abbrev s_Shelf_ask_for : Stmt := (inClass (top 54) 11)
abbrev N_Shelf_ask_for : List Str := ["self", "name", "thing", "shift"]
theorem sc_Shelf_ask_for : FnScope N_Shelf_ask_for ["self", "name"] (defScope s_Shelf_ask_for) := ⟨rfl, rfl, rfl, by decide +kernel, rfl, by decide +kernel, by decide +kernel⟩
abbrev s_Shelf_stir_beside : Stmt := (inClass (top 54) 12)
abbrev N_Shelf_stir_beside : List Str := ["self", "thing", "shift", "other"]
theorem sc_Shelf_stir_beside : FnScope N_Shelf_stir_beside ["self", "thing", "shift"] (defScope s_Shelf_stir_beside) := ⟨rfl, rfl, rfl, by decide +kernel, rfl, by decide +kernel, by decide +kernel⟩
abbrev s_Shelf_crowd : Stmt := (inClass (top 54) 13)
abbrev N_Shelf_crowd : List Str := ["self", "room", "limit"]
theorem sc_Shelf_crowd : FnScope N_Shelf_crowd ["self"] (defScope s_Shelf_crowd) := ⟨rfl, rfl, rfl, by decide +kernel, rfl, by decide +kernel, by decide +kernel⟩
abbrev s_Shelf_move_on : Stmt := (inClass (top 54) 14)
abbrev N_Shelf_move_on : List Str := ["self", "thing"]
theorem sc_Shelf_move_on : FnScope N_Shelf_move_on ["self", "thing"] (defScope s_Shelf_move_on) := ⟨rfl, rfl, rfl, by decide +kernel, rfl, by decide +kernel, by decide +kernel⟩
abbrev s_Shelf_turn : Stmt := (inClass (top 54) 15)
abbrev N_Shelf_turn : List Str := ["self", "hour", "_", "name", "hours"]
theorem sc_Shelf_turn : FnScope N_Shelf_turn ["self"] (defScope s_Shelf_turn) := ⟨rfl, rfl, rfl, by decide +kernel, rfl, by decide +kernel, by decide +kernel⟩
abbrev s_Shelf_wane_all : Stmt := (inClass (top 54) 16)
abbrev N_Shelf_wane_all : List Str := ["self", "thing"]
theorem sc_Shelf_wane_all : FnScope N_Shelf_wane_all ["self"] (defScope s_Shelf_wane_all) := ⟨rfl, rfl, rfl, by decide +kernel, rfl, by decide +kernel, by decide +kernel⟩
abbrev s_Shelf_ask_for_weak : Stmt := (inClass (top 54) 17)
abbrev N_Shelf_ask_for_weak : List Str := ["self", "weak", "thing"]
theorem sc_Shelf_ask_for_weak : FnScope N_Shelf_ask_for_weak ["self"] (defScope s_Shelf_ask_for_weak) := ⟨rfl, rfl, rfl, by decide +kernel, rfl, by decide +kernel, by decide +kernel⟩
abbrev s_Shelf_turns : Stmt := (inClass (top 54) 18)
abbrev N_Shelf_turns : List Str := ["self", "many"]
theorem sc_Shelf_turns : FnScope N_Shelf_turns ["self", "many"] (defScope s_Shelf_turns) := ⟨rfl, rfl, rfl, by decide +kernel, rfl, by decide +kernel, by decide +kernel⟩
abbrev s_weakest : Stmt := (top 55)
abbrev N_weakest : List Str := ["things"]
theorem sc_weakest : FnScope N_weakest ["things"] (defScope s_weakest) := ⟨rfl, rfl, rfl, by decide +kernel, rfl, by decide +kernel, by decide +kernel⟩
abbrev s_Store___init__ : Stmt := (inClass (top 60) 0)
abbrev N_Store___init__ : List Str := ["self", "rooms", "stirs", "grain", "fade"]
theorem sc_Store___init__ : FnScope N_Store___init__ ["self", "rooms", "stirs", "grain", "fade"] (defScope s_Store___init__) := ⟨rfl, rfl, rfl, by decide +kernel, rfl, by decide +kernel, by decide +kernel⟩
abbrev s_Store_put : Stmt := (inClass (top 60) 1)
abbrev N_Store_put : List Str := ["self", "name", "sort", "wane", "strength"]
theorem sc_Store_put : FnScope N_Store_put ["self", "name", "sort", "wane", "strength"] (defScope s_Store_put) := ⟨rfl, rfl, rfl, by decide +kernel, rfl, by decide +kernel, by decide +kernel⟩
abbrev s_Store_ask : Stmt := (inClass (top 60) 2)
abbrev N_Store_ask : List Str := ["self", "name"]
theorem sc_Store_ask : FnScope N_Store_ask ["self", "name"] (defScope s_Store_ask) := ⟨rfl, rfl, rfl, by decide +kernel, rfl, by decide +kernel, by decide +kernel⟩
abbrev s_Store_take : Stmt := (inClass (top 60) 3)
abbrev N_Store_take : List Str := ["self", "name"]
theorem sc_Store_take : FnScope N_Store_take ["self", "name"] (defScope s_Store_take) := ⟨rfl, rfl, rfl, by decide +kernel, rfl, by decide +kernel, by decide +kernel⟩
abbrev s_Store_mend : Stmt := (inClass (top 60) 4)
abbrev N_Store_mend : List Str := ["self", "mark"]
theorem sc_Store_mend : FnScope N_Store_mend ["self", "mark"] (defScope s_Store_mend) := ⟨rfl, rfl, rfl, by decide +kernel, rfl, by decide +kernel, by decide +kernel⟩
abbrev s_Store_pass_on : Stmt := (inClass (top 60) 5)
abbrev N_Store_pass_on : List Str := ["self", "turns"]
theorem sc_Store_pass_on : FnScope N_Store_pass_on ["self", "turns"] (defScope s_Store_pass_on) := ⟨rfl, rfl, rfl, by decide +kernel, rfl, by decide +kernel, by decide +kernel⟩
abbrev s_Store_hire : Stmt := (inClass (top 60) 6)
abbrev N_Store_hire : List Str := ["self", "name", "hours"]
theorem sc_Store_hire : FnScope N_Store_hire ["self", "name", "hours"] (defScope s_Store_hire) := ⟨rfl, rfl, rfl, by decide +kernel, rfl, by decide +kernel, by decide +kernel⟩
abbrev s_Store_dismiss : Stmt := (inClass (top 60) 7)
abbrev N_Store_dismiss : List Str := ["self", "number"]
theorem sc_Store_dismiss : FnScope N_Store_dismiss ["self", "number"] (defScope s_Store_dismiss) := ⟨rfl, rfl, rfl, by decide +kernel, rfl, by decide +kernel, by decide +kernel⟩
abbrev s_Store_now : Stmt := (inClass (top 60) 8)
abbrev N_Store_now : List Str := ["self"]
theorem sc_Store_now : FnScope N_Store_now ["self"] (defScope s_Store_now) := ⟨rfl, rfl, rfl, by decide +kernel, rfl, by decide +kernel, by decide +kernel⟩
abbrev s_Store_rooms : Stmt := (inClass (top 60) 9)
abbrev N_Store_rooms : List Str := ["self"]
theorem sc_Store_rooms : FnScope N_Store_rooms ["self"] (defScope s_Store_rooms) := ⟨rfl, rfl, rfl, by decide +kernel, rfl, by decide +kernel, by decide +kernel⟩
abbrev s_Store_stirs : Stmt := (inClass (top 60) 10)
abbrev N_Store_stirs : List Str := ["self"]
theorem sc_Store_stirs : FnScope N_Store_stirs ["self"] (defScope s_Store_stirs) := ⟨rfl, rfl, rfl, by decide +kernel, rfl, by decide +kernel, by decide +kernel⟩
abbrev s_Store_grain : Stmt := (inClass (top 60) 11)
abbrev N_Store_grain : List Str := ["self"]
theorem sc_Store_grain : FnScope N_Store_grain ["self"] (defScope s_Store_grain) := ⟨rfl, rfl, rfl, by decide +kernel, rfl, by decide +kernel, by decide +kernel⟩
abbrev s_Store_fade : Stmt := (inClass (top 60) 12)
abbrev N_Store_fade : List Str := ["self"]
theorem sc_Store_fade : FnScope N_Store_fade ["self"] (defScope s_Store_fade) := ⟨rfl, rfl, rfl, by decide +kernel, rfl, by decide +kernel, by decide +kernel⟩
abbrev s_Store_there : Stmt := (inClass (top 60) 13)
abbrev N_Store_there : List Str := ["self"]
theorem sc_Store_there : FnScope N_Store_there ["self"] (defScope s_Store_there) := ⟨rfl, rfl, rfl, by decide +kernel, rfl, by decide +kernel, by decide +kernel⟩
abbrev s_Store_thing : Stmt := (inClass (top 60) 14)
abbrev N_Store_thing : List Str := ["self", "name", "thing"]
theorem sc_Store_thing : FnScope N_Store_thing ["self", "name"] (defScope s_Store_thing) := ⟨rfl, rfl, rfl, by decide +kernel, rfl, by decide +kernel, by decide +kernel⟩
abbrev s_Store_wane_of : Stmt := (inClass (top 60) 15)
abbrev N_Store_wane_of : List Str := ["self", "name"]
theorem sc_Store_wane_of : FnScope N_Store_wane_of ["self", "name"] (defScope s_Store_wane_of) := ⟨rfl, rfl, rfl, by decide +kernel, rfl, by decide +kernel, by decide +kernel⟩
abbrev s_Store_total : Stmt := (inClass (top 60) 16)
abbrev N_Store_total : List Str := ["self", "room"]
theorem sc_Store_total : FnScope N_Store_total ["self", "room"] (defScope s_Store_total) := ⟨rfl, rfl, rfl, by decide +kernel, rfl, by decide +kernel, by decide +kernel⟩
abbrev s_Store_trace : Stmt := (inClass (top 60) 17)
abbrev N_Store_trace : List Str := ["self", "name"]
theorem sc_Store_trace : FnScope N_Store_trace ["self", "name"] (defScope s_Store_trace) := ⟨rfl, rfl, rfl, by decide +kernel, rfl, by decide +kernel, by decide +kernel⟩
abbrev s_Store_askers : Stmt := (inClass (top 60) 18)
abbrev N_Store_askers : List Str := ["self"]
theorem sc_Store_askers : FnScope N_Store_askers ["self"] (defScope s_Store_askers) := ⟨rfl, rfl, rfl, by decide +kernel, rfl, by decide +kernel, by decide +kernel⟩
abbrev s_Store_mender : Stmt := (inClass (top 60) 19)
abbrev N_Store_mender : List Str := ["self"]
theorem sc_Store_mender : FnScope N_Store_mender ["self"] (defScope s_Store_mender) := ⟨rfl, rfl, rfl, by decide +kernel, rfl, by decide +kernel, by decide +kernel⟩
abbrev s_Store_state : Stmt := (inClass (top 60) 20)
abbrev N_Store_state : List Str := ["self"]
theorem sc_Store_state : FnScope N_Store_state ["self"] (defScope s_Store_state) := ⟨rfl, rfl, rfl, by decide +kernel, rfl, by decide +kernel, by decide +kernel⟩
abbrev s_Store_story : Stmt := (inClass (top 60) 21)
abbrev N_Store_story : List Str := ["self"]
theorem sc_Store_story : FnScope N_Store_story ["self"] (defScope s_Store_story) := ⟨rfl, rfl, rfl, by decide +kernel, rfl, by decide +kernel, by decide +kernel⟩
abbrev s_Store_copied : Stmt := (inClass (top 60) 22)
abbrev N_Store_copied : List Str := ["self"]
theorem sc_Store_copied : FnScope N_Store_copied ["self"] (defScope s_Store_copied) := ⟨rfl, rfl, rfl, by decide +kernel, rfl, by decide +kernel, by decide +kernel⟩
abbrev s_Store__refuse_gone : Stmt := (inClass (top 60) 23)
abbrev N_Store__refuse_gone : List Str := ["self", "name"]
theorem sc_Store__refuse_gone : FnScope N_Store__refuse_gone ["self", "name"] (defScope s_Store__refuse_gone) := ⟨rfl, rfl, rfl, by decide +kernel, rfl, by decide +kernel, by decide +kernel⟩
abbrev s_put_fits : Stmt := (top 61)
abbrev N_put_fits : List Str := ["name", "sort", "wane", "strength"]
theorem sc_put_fits : FnScope N_put_fits ["name", "sort", "wane", "strength"] (defScope s_put_fits) := ⟨rfl, rfl, rfl, by decide +kernel, rfl, by decide +kernel, by decide +kernel⟩
abbrev s_are_rooms : Stmt := (top 62)
abbrev N_are_rooms : List Str := ["thing", "room"]
theorem sc_are_rooms : FnScope N_are_rooms ["thing"] (defScope s_are_rooms) := ⟨rfl, rfl, rfl, by decide +kernel, rfl, by decide +kernel, by decide +kernel⟩
abbrev s_are_stirs : Stmt := (top 63)
abbrev N_are_stirs : List Str := ["thing", "stir"]
theorem sc_are_stirs : FnScope N_are_stirs ["thing"] (defScope s_are_stirs) := ⟨rfl, rfl, rfl, by decide +kernel, rfl, by decide +kernel, by decide +kernel⟩
abbrev s__law_bag : Stmt := (top 65)
abbrev N__law_bag : List Str := ["_law_script", "_law_cell"]
theorem sc__law_bag : FnScope N__law_bag ["_law_script"] (defScope s__law_bag) := ⟨rfl, rfl, rfl, by decide +kernel, rfl, by decide +kernel, by decide +kernel⟩
abbrev s__law_take : Stmt := (top 66)
abbrev N__law_take : List Str := ["_law_bag_here", "_law_many", "_law_first", "_law_second", "_law_cell", "_law_value"]
theorem sc__law_take : FnScope N__law_take ["_law_bag_here", "_law_many"] (defScope s__law_take) := ⟨rfl, rfl, rfl, by decide +kernel, rfl, by decide +kernel, by decide +kernel⟩
abbrev s__law_names : Stmt := (top 67)
abbrev N__law_names : List Str := ["_law_bag_here", "_law_many", "_law_letters", "_law_size", "_law_at", "_law_start", "_law_step", "_law_stem", "_law_signs", "_law_k", "_law_sign"]
theorem sc__law_names : FnScope N__law_names ["_law_bag_here", "_law_many"] (defScope s__law_names) := ⟨rfl, rfl, rfl, by decide +kernel, rfl, by decide +kernel, by decide +kernel⟩
abbrev s__law_stirs : Stmt := (top 68)
abbrev N__law_stirs : List Str := ["_law_bag_here", "_law_some", "_law_sort"]
theorem sc__law_stirs : FnScope N__law_stirs ["_law_bag_here"] (defScope s__law_stirs) := ⟨rfl, rfl, rfl, by decide +kernel, rfl, by decide +kernel, by decide +kernel⟩
abbrev s__law_rooms : Stmt := (top 69)
abbrev N__law_rooms : List Str := ["_law_bag_here", "_law_wide", "_law_rooms_here", "_law_k"]
theorem sc__law_rooms : FnScope N__law_rooms ["_law_bag_here"] (defScope s__law_rooms) := ⟨rfl, rfl, rfl, by decide +kernel, rfl, by decide +kernel, by decide +kernel⟩
abbrev s__law_alike : Stmt := (top 70)
abbrev N__law_alike : List Str := ["_law_found", "_law_due"]
theorem sc__law_alike : FnScope N__law_alike ["_law_found", "_law_due"] (defScope s__law_alike) := ⟨rfl, rfl, rfl, by decide +kernel, rfl, by decide +kernel, by decide +kernel⟩
abbrev s__law_made : Stmt := (top 71)
abbrev N__law_made : List Str := ["_law_rooms_here", "_law_stirring", "_law_grains", "_law_fading"]
theorem sc__law_made : FnScope N__law_made ["_law_rooms_here", "_law_stirring", "_law_grains", "_law_fading"] (defScope s__law_made) := ⟨rfl, rfl, rfl, by decide +kernel, rfl, by decide +kernel, by decide +kernel⟩
abbrev s__law_right : Stmt := (top 72)
abbrev N__law_right : List Str := ["_law_store_here", "_law_due", "_law_names_here", "_law_turn", "_law_rooms_here", "_law_stirring", "_law_grains", "_law_fading", "_law_found", "_law_lists", "_law_told", "_law_room", "_law_name"]
theorem sc__law_right : FnScope N__law_right ["_law_store_here", "_law_due", "_law_names_here"] (defScope s__law_right) := ⟨rfl, rfl, rfl, by decide +kernel, rfl, by decide +kernel, by decide +kernel⟩
abbrev s__law_refused : Stmt := (top 73)
abbrev N__law_refused : List Str := ["_law_rooms_here", "_law_stirring", "_law_grains", "_law_fading", "e"]
theorem sc__law_refused : FnScope N__law_refused ["_law_rooms_here", "_law_stirring", "_law_grains", "_law_fading"] (defScope s__law_refused) := ⟨rfl, rfl, rfl, by decide +kernel, rfl, by decide +kernel, by decide +kernel⟩
abbrev s__law_spoilt : Stmt := (top 74)
abbrev N__law_spoilt : List Str := ["_law_bag_here", "_law_things", "_law_odd", "_law_other", "_law_bad", "_law_found", "_law_places", "_law_at", "_law_rooms_here", "_law_stirring", "_law_k"]
theorem sc__law_spoilt : FnScope N__law_spoilt ["_law_bag_here", "_law_things"] (defScope s__law_spoilt) := ⟨rfl, rfl, rfl, by decide +kernel, rfl, by decide +kernel, by decide +kernel⟩
abbrev s__law_case : Stmt := (top 75)
abbrev N__law_case : List Str := ["_law_bag_here", "_law_grains", "_law_fading", "_law_things"]
theorem sc__law_case : FnScope N__law_case ["_law_bag_here"] (defScope s__law_case) := ⟨rfl, rfl, rfl, by decide +kernel, rfl, by decide +kernel, by decide +kernel⟩
abbrev s__law_store : Stmt := (top 76)
abbrev N__law_store : List Str := ["_law_things", "_law_plain", "_law_bare", "_law_handed", "_law_due", "_law_store_here", "_law_rooms_here", "_law_stirring", "_law_grains", "_law_fading"]
theorem sc__law_store : FnScope N__law_store ["_law_things", "_law_plain", "_law_bare"] (defScope s__law_store) := ⟨rfl, rfl, rfl, by decide +kernel, rfl, by decide +kernel, by decide +kernel⟩
abbrev s_law : Stmt := (top 77)
abbrev N_law : List Str := ["_law_script", "_law_bag_here", "_law_names_here", "_law_stores", "_law_turn", "_law_bare_stirs", "_law_shown", "_law_found", "_law_things", "_law_plain", "_law_bare", "_law_spoilt_here", "_law_place", "_law_store_here", "_law_due"]
theorem sc_law : FnScope N_law ["_law_script"] (defScope s_law) := ⟨rfl, rfl, rfl, by decide +kernel, rfl, by decide +kernel, by decide +kernel⟩
/-- where the top has laid what the defs name -/
structure Wd (K : PySem.W.Frag) (mg : Str → Option Value) where
  n_ValueError : mg "ValueError" = none
  n_abs : mg "abs" = none
  n_all : mg "all" = none
  n_bool : mg "bool" = none
  n_dict : mg "dict" = none
  n_enumerate : mg "enumerate" = none
  n_int : mg "int" = none
  n_isinstance : mg "isinstance" = none
  n_len : mg "len" = none
  n_list : mg "list" = none
  n_max : mg "max" = none
  n_min : mg "min" = none
  n_range : mg "range" = none
  n_repr : mg "repr" = none
  n_sorted : mg "sorted" = none
  n_str : mg "str" = none
  n_sum : mg "sum" = none
  n_tuple : mg "tuple" = none
  t_ANEW : Tok
  c_ANEW : mg "ANEW" = some (.str "anew" t_ANEW)
  t_BAR : Tok
  c_BAR : mg "BAR" = some (.str "|" t_BAR)
  t_BILLION : Tok
  c_BILLION : mg "BILLION" = some (.int 1000000000 t_BILLION)
  t_CROWDED : Tok
  c_CROWDED : mg "CROWDED" = some (.str "crowded" t_CROWDED)
  t_DAY : Tok
  c_DAY : mg "DAY" = some (.int 24 t_DAY)
  t_FADED : Tok
  c_FADED : mg "FADED" = some (.str "faded" t_FADED)
  t_LETTERS : Tok
  c_LETTERS : mg "LETTERS" = some (.str "abcdefghijklmnopqrstuvwxyz" t_LETTERS)
  t_MOST_BY : Tok
  c_MOST_BY : mg "MOST_BY" = some (.int 9 t_MOST_BY)
  t_MOST_HEAD : Tok
  c_MOST_HEAD : mg "MOST_HEAD" = some (.int 24 t_MOST_HEAD)
  t_MOST_LETTERS : Tok
  c_MOST_LETTERS : mg "MOST_LETTERS" = some (.int 8 t_MOST_LETTERS)
  t_MOST_MOMENT : Tok
  c_MOST_MOMENT : mg "MOST_MOMENT" = some (.int 1000000000000000000000000000000 t_MOST_MOMENT)
  t_MOST_ROOM : Tok
  c_MOST_ROOM : mg "MOST_ROOM" = some (.int 1000000000000 t_MOST_ROOM)
  t_MOST_ROOMS : Tok
  c_MOST_ROOMS : mg "MOST_ROOMS" = some (.int 4 t_MOST_ROOMS)
  t_MOST_SORT : Tok
  c_MOST_SORT : mg "MOST_SORT" = some (.int 9 t_MOST_SORT)
  t_MOST_THINGS : Tok
  c_MOST_THINGS : mg "MOST_THINGS" = some (.int 8 t_MOST_THINGS)
  t_MOVED : Tok
  c_MOVED : mg "MOVED" = some (.str "moved" t_MOVED)
  t_PRESSED : Tok
  c_PRESSED : mg "PRESSED" = some (.str "pressed" t_PRESSED)
  t_PUT : Tok
  c_PUT : mg "PUT" = some (.str "put" t_PUT)
  t_SORTS : Tok
  c_SORTS : mg "SORTS" = some (.int 10 t_SORTS)
  a_TAILS : Addr
  c_TAILS : mg "TAILS" = some (.ref a_TAILS)
  i_TAILS : KTup K a_TAILS [.int 1, .int 2, .int 3, .int 4, .int 6, .int 8, .int 12, .int 24]
  t_TAKEN : Tok
  c_TAKEN : mg "TAKEN" = some (.str "taken" t_TAKEN)
  C_WaneError : Addr
  c_WaneError : mg "WaneError" = some (.ref C_WaneError)
  x_WaneError : XCls K C_WaneError
  sv_WaneError : PySem.W.subIn K (.ref C_WaneError) (.type "ValueError") = some true
  C_Wrong : Addr
  c_Wrong : mg "Wrong" = some (.ref C_Wrong)
  x_Wrong : XCls K C_Wrong
  sv_Wrong : PySem.W.subIn K (.ref C_Wrong) (.type "ValueError") = some true
  C_TooMany : Addr
  c_TooMany : mg "TooMany" = some (.ref C_TooMany)
  x_TooMany : XCls K C_TooMany
  sv_TooMany : PySem.W.subIn K (.ref C_TooMany) (.type "ValueError") = some true
  C_There : Addr
  c_There : mg "There" = some (.ref C_There)
  x_There : XCls K C_There
  sv_There : PySem.W.subIn K (.ref C_There) (.type "ValueError") = some true
  C_Gone : Addr
  c_Gone : mg "Gone" = some (.ref C_Gone)
  x_Gone : XCls K C_Gone
  sv_Gone : PySem.W.subIn K (.ref C_Gone) (.type "ValueError") = some true
  C_Wane : Addr
  c_Wane : mg "Wane" = some (.ref C_Wane)
  cl_Wane : Cls K C_Wane
  ic_Wane : InsQ K C_Wane
  ty_Wane : PySem.W.typeIn K (.ref C_Wane) = some (.type "type")
  na_Wane__anew : NoAttr K C_Wane "_anew"
  na_Wane__cap : NoAttr K C_Wane "_cap"
  na_Wane__head : NoAttr K C_Wane "_head"
  na_Wane__lift : NoAttr K C_Wane "_lift"
  na_Wane__steps : NoAttr K C_Wane "_steps"
  na_Wane__tail : NoAttr K C_Wane "_tail"
  C_Story : Addr
  c_Story : mg "Story" = some (.ref C_Story)
  cl_Story : Cls K C_Story
  ic_Story : InsQ K C_Story
  ty_Story : PySem.W.typeIn K (.ref C_Story) = some (.type "type")
  na_Story_length : NoAttr K C_Story "length"
  na_Story_shared : NoAttr K C_Story "shared"
  C_Thing : Addr
  c_Thing : mg "Thing" = some (.ref C_Thing)
  cl_Thing : Cls K C_Thing
  ic_Thing : InsQ K C_Thing
  ty_Thing : PySem.W.typeIn K (.ref C_Thing) = some (.type "type")
  na_Thing_asked : NoAttr K C_Thing "asked"
  na_Thing_group : NoAttr K C_Thing "group"
  na_Thing_name : NoAttr K C_Thing "name"
  na_Thing_room : NoAttr K C_Thing "room"
  na_Thing_since : NoAttr K C_Thing "since"
  na_Thing_strength : NoAttr K C_Thing "strength"
  na_Thing_wane : NoAttr K C_Thing "wane"
  C_Shelf : Addr
  c_Shelf : mg "Shelf" = some (.ref C_Shelf)
  cl_Shelf : Cls K C_Shelf
  ic_Shelf : InsQ K C_Shelf
  ty_Shelf : PySem.W.typeIn K (.ref C_Shelf) = some (.type "type")
  na_Shelf_hired : NoAttr K C_Shelf "hired"
  na_Shelf_limits : NoAttr K C_Shelf "limits"
  na_Shelf_mark : NoAttr K C_Shelf "mark"
  na_Shelf_moment : NoAttr K C_Shelf "moment"
  na_Shelf_per_asking : NoAttr K C_Shelf "per_asking"
  na_Shelf_per_turn : NoAttr K C_Shelf "per_turn"
  na_Shelf_plans : NoAttr K C_Shelf "plans"
  na_Shelf_rows : NoAttr K C_Shelf "rows"
  na_Shelf_shifts : NoAttr K C_Shelf "shifts"
  na_Shelf_things : NoAttr K C_Shelf "things"
  na_Shelf_traces : NoAttr K C_Shelf "traces"
  C_Store : Addr
  c_Store : mg "Store" = some (.ref C_Store)
  cl_Store : Cls K C_Store
  ic_Store : InsQ K C_Store
  ty_Store : PySem.W.typeIn K (.ref C_Store) = some (.type "type")
  na_Store_shelf : NoAttr K C_Store "shelf"
  a__wall : Addr
  d__wall : FuncData
  F__wall : Fun K "_wall" "_wall" s__wall a__wall d__wall
  m__wall : mg "_wall" = some (.ref a__wall)
  a_Wrong___init__ : Addr
  d_Wrong___init__ : FuncData
  F_Wrong___init__ : Fun K "__init__" "Wrong.__init__" s_Wrong___init__ a_Wrong___init__ d_Wrong___init__
  a_TooMany___init__ : Addr
  d_TooMany___init__ : FuncData
  F_TooMany___init__ : Fun K "__init__" "TooMany.__init__" s_TooMany___init__ a_TooMany___init__ d_TooMany___init__
  a_There___init__ : Addr
  d_There___init__ : FuncData
  F_There___init__ : Fun K "__init__" "There.__init__" s_There___init__ a_There___init__ d_There___init__
  a_Gone___init__ : Addr
  d_Gone___init__ : FuncData
  F_Gone___init__ : Fun K "__init__" "Gone.__init__" s_Gone___init__ a_Gone___init__ d_Gone___init__
  a_refuse_wrong : Addr
  d_refuse_wrong : FuncData
  F_refuse_wrong : Fun K "refuse_wrong" "refuse_wrong" s_refuse_wrong a_refuse_wrong d_refuse_wrong
  m_refuse_wrong : mg "refuse_wrong" = some (.ref a_refuse_wrong)
  a_is_whole : Addr
  d_is_whole : FuncData
  F_is_whole : Fun K "is_whole" "is_whole" s_is_whole a_is_whole d_is_whole
  m_is_whole : mg "is_whole" = some (.ref a_is_whole)
  a_is_within : Addr
  d_is_within : FuncData
  F_is_within : Fun K "is_within" "is_within" s_is_within a_is_within d_is_within
  m_is_within : mg "is_within" = some (.ref a_is_within)
  a_is_name : Addr
  d_is_name : FuncData
  F_is_name : Fun K "is_name" "is_name" s_is_name a_is_name d_is_name
  m_is_name : mg "is_name" = some (.ref a_is_name)
  a_is_sort : Addr
  d_is_sort : FuncData
  F_is_sort : Fun K "is_sort" "is_sort" s_is_sort a_is_sort d_is_sort
  m_is_sort : mg "is_sort" = some (.ref a_is_sort)
  a_is_strength : Addr
  d_is_strength : FuncData
  F_is_strength : Fun K "is_strength" "is_strength" s_is_strength a_is_strength d_is_strength
  m_is_strength : mg "is_strength" = some (.ref a_is_strength)
  a_is_size : Addr
  d_is_size : FuncData
  F_is_size : Fun K "is_size" "is_size" s_is_size a_is_size d_is_size
  m_is_size : mg "is_size" = some (.ref a_is_size)
  a_is_shift : Addr
  d_is_shift : FuncData
  F_is_shift : Fun K "is_shift" "is_shift" s_is_shift a_is_shift d_is_shift
  m_is_shift : mg "is_shift" = some (.ref a_is_shift)
  a_is_room : Addr
  d_is_room : FuncData
  F_is_room : Fun K "is_room" "is_room" s_is_room a_is_room d_is_room
  m_is_room : mg "is_room" = some (.ref a_is_room)
  a_is_moment : Addr
  d_is_moment : FuncData
  F_is_moment : Fun K "is_moment" "is_moment" s_is_moment a_is_moment d_is_moment
  m_is_moment : mg "is_moment" = some (.ref a_is_moment)
  a_is_step : Addr
  d_is_step : FuncData
  F_is_step : Fun K "is_step" "is_step" s_is_step a_is_step d_is_step
  m_is_step : mg "is_step" = some (.ref a_is_step)
  a_hour_of : Addr
  d_hour_of : FuncData
  F_hour_of : Fun K "hour_of" "hour_of" s_hour_of a_hour_of d_hour_of
  m_hour_of : mg "hour_of" = some (.ref a_hour_of)
  a_Wane___init__ : Addr
  d_Wane___init__ : FuncData
  D_Wane___init__ : FunD K "__init__" "Wane.__init__" (defArgs s_Wane___init__) (defBody s_Wane___init__) (defScope s_Wane___init__) [] [("anew", (.bl true))] a_Wane___init__ d_Wane___init__
  K_Wane : Mk K C_Wane a_Wane___init__
  a_Wane_head : Addr
  d_Wane_head : FuncData
  F_Wane_head : Fun K "head" "Wane.head" s_Wane_head a_Wane_head d_Wane_head
  M_Wane_head : Meth K C_Wane "head" a_Wane_head
  a_Wane_tail : Addr
  d_Wane_tail : FuncData
  F_Wane_tail : Fun K "tail" "Wane.tail" s_Wane_tail a_Wane_tail d_Wane_tail
  M_Wane_tail : Meth K C_Wane "tail" a_Wane_tail
  a_Wane_cap : Addr
  d_Wane_cap : FuncData
  F_Wane_cap : Fun K "cap" "Wane.cap" s_Wane_cap a_Wane_cap d_Wane_cap
  M_Wane_cap : Meth K C_Wane "cap" a_Wane_cap
  a_Wane_lift : Addr
  d_Wane_lift : FuncData
  F_Wane_lift : Fun K "lift" "Wane.lift" s_Wane_lift a_Wane_lift d_Wane_lift
  M_Wane_lift : Meth K C_Wane "lift" a_Wane_lift
  a_Wane_is_anew : Addr
  d_Wane_is_anew : FuncData
  F_Wane_is_anew : Fun K "is_anew" "Wane.is_anew" s_Wane_is_anew a_Wane_is_anew d_Wane_is_anew
  M_Wane_is_anew : Meth K C_Wane "is_anew" a_Wane_is_anew
  a_Wane_step : Addr
  d_Wane_step : FuncData
  F_Wane_step : Fun K "step" "Wane.step" s_Wane_step a_Wane_step d_Wane_step
  M_Wane_step : Meth K C_Wane "step" a_Wane_step
  a_Wane_phase : Addr
  d_Wane_phase : FuncData
  F_Wane_phase : Fun K "phase" "Wane.phase" s_Wane_phase a_Wane_phase d_Wane_phase
  M_Wane_phase : Meth K C_Wane "phase" a_Wane_phase
  a_Wane_text : Addr
  d_Wane_text : FuncData
  F_Wane_text : Fun K "text" "Wane.text" s_Wane_text a_Wane_text d_Wane_text
  M_Wane_text : Meth K C_Wane "text" a_Wane_text
  a_Wane_step_behind : Addr
  d_Wane_step_behind : FuncData
  F_Wane_step_behind : Fun K "step_behind" "Wane.step_behind" s_Wane_step_behind a_Wane_step_behind d_Wane_step_behind
  M_Wane_step_behind : Meth K C_Wane "step_behind" a_Wane_step_behind
  a_Wane_phase_behind : Addr
  d_Wane_phase_behind : FuncData
  F_Wane_phase_behind : Fun K "phase_behind" "Wane.phase_behind" s_Wane_phase_behind a_Wane_phase_behind d_Wane_phase_behind
  M_Wane_phase_behind : Meth K C_Wane "phase_behind" a_Wane_phase_behind
  a_is_wane : Addr
  d_is_wane : FuncData
  F_is_wane : Fun K "is_wane" "is_wane" s_is_wane a_is_wane d_is_wane
  m_is_wane : mg "is_wane" = some (.ref a_is_wane)
  a_is_level : Addr
  d_is_level : FuncData
  F_is_level : Fun K "is_level" "is_level" s_is_level a_is_level d_is_level
  m_is_level : mg "is_level" = some (.ref a_is_level)
  a__is_head : Addr
  d__is_head : FuncData
  F__is_head : Fun K "_is_head" "_is_head" s__is_head a__is_head d__is_head
  m__is_head : mg "_is_head" = some (.ref a__is_head)
  a__is_tail : Addr
  d__is_tail : FuncData
  F__is_tail : Fun K "_is_tail" "_is_tail" s__is_tail a__is_tail d__is_tail
  m__is_tail : mg "_is_tail" = some (.ref a__is_tail)
  a__are_steps : Addr
  d__are_steps : FuncData
  F__are_steps : Fun K "_are_steps" "_are_steps" s__are_steps a__are_steps d__are_steps
  m__are_steps : mg "_are_steps" = some (.ref a__are_steps)
  a__step_word : Addr
  d__step_word : FuncData
  F__step_word : Fun K "_step_word" "_step_word" s__step_word a__step_word d__step_word
  m__step_word : mg "_step_word" = some (.ref a__step_word)
  a_behind_turn : Addr
  d_behind_turn : FuncData
  F_behind_turn : Fun K "behind_turn" "behind_turn" s_behind_turn a_behind_turn d_behind_turn
  m_behind_turn : mg "behind_turn" = some (.ref a_behind_turn)
  a_behind_asking : Addr
  d_behind_asking : FuncData
  F_behind_asking : Fun K "behind_asking" "behind_asking" s_behind_asking a_behind_asking d_behind_asking
  m_behind_asking : mg "behind_asking" = some (.ref a_behind_asking)
  a_Story___init__ : Addr
  d_Story___init__ : FuncData
  F_Story___init__ : Fun K "__init__" "Story.__init__" s_Story___init__ a_Story___init__ d_Story___init__
  K_Story : Mk K C_Story a_Story___init__
  a_Story_doubled : Addr
  d_Story_doubled : FuncData
  F_Story_doubled : Fun K "doubled" "Story.doubled" s_Story_doubled a_Story_doubled d_Story_doubled
  M_Story_doubled : Meth K C_Story "doubled" a_Story_doubled
  a_Story_write : Addr
  d_Story_write : FuncData
  F_Story_write : Fun K "write" "Story.write" s_Story_write a_Story_write d_Story_write
  M_Story_write : Meth K C_Story "write" a_Story_write
  a_Story_listed : Addr
  d_Story_listed : FuncData
  F_Story_listed : Fun K "listed" "Story.listed" s_Story_listed a_Story_listed d_Story_listed
  M_Story_listed : Meth K C_Story "listed" a_Story_listed
  a_Thing___init__ : Addr
  d_Thing___init__ : FuncData
  F_Thing___init__ : Fun K "__init__" "Thing.__init__" s_Thing___init__ a_Thing___init__ d_Thing___init__
  K_Thing : Mk K C_Thing a_Thing___init__
  a_Thing_doubled : Addr
  d_Thing_doubled : FuncData
  F_Thing_doubled : Fun K "doubled" "Thing.doubled" s_Thing_doubled a_Thing_doubled d_Thing_doubled
  M_Thing_doubled : Meth K C_Thing "doubled" a_Thing_doubled
  a_Thing_phase : Addr
  d_Thing_phase : FuncData
  F_Thing_phase : Fun K "phase" "Thing.phase" s_Thing_phase a_Thing_phase d_Thing_phase
  M_Thing_phase : Meth K C_Thing "phase" a_Thing_phase
  a_Shelf___init__ : Addr
  d_Shelf___init__ : FuncData
  F_Shelf___init__ : Fun K "__init__" "Shelf.__init__" s_Shelf___init__ a_Shelf___init__ d_Shelf___init__
  K_Shelf : Mk K C_Shelf a_Shelf___init__
  a_Shelf_doubled : Addr
  d_Shelf_doubled : FuncData
  F_Shelf_doubled : Fun K "doubled" "Shelf.doubled" s_Shelf_doubled a_Shelf_doubled d_Shelf_doubled
  M_Shelf_doubled : Meth K C_Shelf "doubled" a_Shelf_doubled
  a_Shelf_by_names : Addr
  d_Shelf_by_names : FuncData
  F_Shelf_by_names : Fun K "by_names" "Shelf.by_names" s_Shelf_by_names a_Shelf_by_names d_Shelf_by_names
  M_Shelf_by_names : Meth K C_Shelf "by_names" a_Shelf_by_names
  a_Shelf_in_room : Addr
  d_Shelf_in_room : FuncData
  F_Shelf_in_room : Fun K "in_room" "Shelf.in_room" s_Shelf_in_room a_Shelf_in_room d_Shelf_in_room
  M_Shelf_in_room : Meth K C_Shelf "in_room" a_Shelf_in_room
  a_Shelf_sum_in : Addr
  d_Shelf_sum_in : FuncData
  F_Shelf_sum_in : Fun K "sum_in" "Shelf.sum_in" s_Shelf_sum_in a_Shelf_sum_in d_Shelf_sum_in
  M_Shelf_sum_in : Meth K C_Shelf "sum_in" a_Shelf_sum_in
  a_Shelf_states : Addr
  d_Shelf_states : FuncData
  F_Shelf_states : Fun K "states" "Shelf.states" s_Shelf_states a_Shelf_states d_Shelf_states
  M_Shelf_states : Meth K C_Shelf "states" a_Shelf_states
  a_Shelf_trace_of : Addr
  d_Shelf_trace_of : FuncData
  F_Shelf_trace_of : Fun K "trace_of" "Shelf.trace_of" s_Shelf_trace_of a_Shelf_trace_of d_Shelf_trace_of
  M_Shelf_trace_of : Meth K C_Shelf "trace_of" a_Shelf_trace_of
  a_Shelf_add_row : Addr
  d_Shelf_add_row : FuncData
  F_Shelf_add_row : Fun K "add_row" "Shelf.add_row" s_Shelf_add_row a_Shelf_add_row d_Shelf_add_row
  M_Shelf_add_row : Meth K C_Shelf "add_row" a_Shelf_add_row
  a_Shelf_put_in : Addr
  d_Shelf_put_in : FuncData
  F_Shelf_put_in : Fun K "put_in" "Shelf.put_in" s_Shelf_put_in a_Shelf_put_in d_Shelf_put_in
  M_Shelf_put_in : Meth K C_Shelf "put_in" a_Shelf_put_in
  a_Shelf_take_out : Addr
  d_Shelf_take_out : FuncData
  F_Shelf_take_out : Fun K "take_out" "Shelf.take_out" s_Shelf_take_out a_Shelf_take_out d_Shelf_take_out
  M_Shelf_take_out : Meth K C_Shelf "take_out" a_Shelf_take_out
  a_Shelf_lose : Addr
  d_Shelf_lose : FuncData
  F_Shelf_lose : Fun K "lose" "Shelf.lose" s_Shelf_lose a_Shelf_lose d_Shelf_lose
  M_Shelf_lose : Meth K C_Shelf "lose" a_Shelf_lose
  a_Shelf_ask_for : Addr
  d_Shelf_ask_for : FuncData
  F_Shelf_ask_for : Fun K "ask_for" "Shelf.ask_for" s_Shelf_ask_for a_Shelf_ask_for d_Shelf_ask_for
  M_Shelf_ask_for : Meth K C_Shelf "ask_for" a_Shelf_ask_for
  a_Shelf_stir_beside : Addr
  d_Shelf_stir_beside : FuncData
  F_Shelf_stir_beside : Fun K "stir_beside" "Shelf.stir_beside" s_Shelf_stir_beside a_Shelf_stir_beside d_Shelf_stir_beside
  M_Shelf_stir_beside : Meth K C_Shelf "stir_beside" a_Shelf_stir_beside
  a_Shelf_crowd : Addr
  d_Shelf_crowd : FuncData
  F_Shelf_crowd : Fun K "crowd" "Shelf.crowd" s_Shelf_crowd a_Shelf_crowd d_Shelf_crowd
  M_Shelf_crowd : Meth K C_Shelf "crowd" a_Shelf_crowd
  a_Shelf_move_on : Addr
  d_Shelf_move_on : FuncData
  F_Shelf_move_on : Fun K "move_on" "Shelf.move_on" s_Shelf_move_on a_Shelf_move_on d_Shelf_move_on
  M_Shelf_move_on : Meth K C_Shelf "move_on" a_Shelf_move_on
  a_Shelf_turn : Addr
  d_Shelf_turn : FuncData
  F_Shelf_turn : Fun K "turn" "Shelf.turn" s_Shelf_turn a_Shelf_turn d_Shelf_turn
  M_Shelf_turn : Meth K C_Shelf "turn" a_Shelf_turn
  a_Shelf_wane_all : Addr
  d_Shelf_wane_all : FuncData
  F_Shelf_wane_all : Fun K "wane_all" "Shelf.wane_all" s_Shelf_wane_all a_Shelf_wane_all d_Shelf_wane_all
  M_Shelf_wane_all : Meth K C_Shelf "wane_all" a_Shelf_wane_all
  a_Shelf_ask_for_weak : Addr
  d_Shelf_ask_for_weak : FuncData
  F_Shelf_ask_for_weak : Fun K "ask_for_weak" "Shelf.ask_for_weak" s_Shelf_ask_for_weak a_Shelf_ask_for_weak d_Shelf_ask_for_weak
  M_Shelf_ask_for_weak : Meth K C_Shelf "ask_for_weak" a_Shelf_ask_for_weak
  a_Shelf_turns : Addr
  d_Shelf_turns : FuncData
  F_Shelf_turns : Fun K "turns" "Shelf.turns" s_Shelf_turns a_Shelf_turns d_Shelf_turns
  M_Shelf_turns : Meth K C_Shelf "turns" a_Shelf_turns
  a_weakest : Addr
  d_weakest : FuncData
  F_weakest : Fun K "weakest" "weakest" s_weakest a_weakest d_weakest
  m_weakest : mg "weakest" = some (.ref a_weakest)
  a_Store___init__ : Addr
  d_Store___init__ : FuncData
  D_Store___init__ : FunD K "__init__" "Store.__init__" (defArgs s_Store___init__) (defBody s_Store___init__) (defScope s_Store___init__) [] [("stirs", .non), ("grain", (.int 0)), ("fade", (.int 1))] a_Store___init__ d_Store___init__
  K_Store : Mk K C_Store a_Store___init__
  a_Store_put : Addr
  d_Store_put : FuncData
  F_Store_put : Fun K "put" "Store.put" s_Store_put a_Store_put d_Store_put
  M_Store_put : Meth K C_Store "put" a_Store_put
  a_Store_ask : Addr
  d_Store_ask : FuncData
  F_Store_ask : Fun K "ask" "Store.ask" s_Store_ask a_Store_ask d_Store_ask
  M_Store_ask : Meth K C_Store "ask" a_Store_ask
  a_Store_take : Addr
  d_Store_take : FuncData
  F_Store_take : Fun K "take" "Store.take" s_Store_take a_Store_take d_Store_take
  M_Store_take : Meth K C_Store "take" a_Store_take
  a_Store_mend : Addr
  d_Store_mend : FuncData
  F_Store_mend : Fun K "mend" "Store.mend" s_Store_mend a_Store_mend d_Store_mend
  M_Store_mend : Meth K C_Store "mend" a_Store_mend
  a_Store_pass_on : Addr
  d_Store_pass_on : FuncData
  F_Store_pass_on : Fun K "pass_on" "Store.pass_on" s_Store_pass_on a_Store_pass_on d_Store_pass_on
  M_Store_pass_on : Meth K C_Store "pass_on" a_Store_pass_on
  a_Store_hire : Addr
  d_Store_hire : FuncData
  F_Store_hire : Fun K "hire" "Store.hire" s_Store_hire a_Store_hire d_Store_hire
  M_Store_hire : Meth K C_Store "hire" a_Store_hire
  a_Store_dismiss : Addr
  d_Store_dismiss : FuncData
  F_Store_dismiss : Fun K "dismiss" "Store.dismiss" s_Store_dismiss a_Store_dismiss d_Store_dismiss
  M_Store_dismiss : Meth K C_Store "dismiss" a_Store_dismiss
  a_Store_now : Addr
  d_Store_now : FuncData
  F_Store_now : Fun K "now" "Store.now" s_Store_now a_Store_now d_Store_now
  M_Store_now : Meth K C_Store "now" a_Store_now
  a_Store_rooms : Addr
  d_Store_rooms : FuncData
  F_Store_rooms : Fun K "rooms" "Store.rooms" s_Store_rooms a_Store_rooms d_Store_rooms
  M_Store_rooms : Meth K C_Store "rooms" a_Store_rooms
  a_Store_stirs : Addr
  d_Store_stirs : FuncData
  F_Store_stirs : Fun K "stirs" "Store.stirs" s_Store_stirs a_Store_stirs d_Store_stirs
  M_Store_stirs : Meth K C_Store "stirs" a_Store_stirs
  a_Store_grain : Addr
  d_Store_grain : FuncData
  F_Store_grain : Fun K "grain" "Store.grain" s_Store_grain a_Store_grain d_Store_grain
  M_Store_grain : Meth K C_Store "grain" a_Store_grain
  a_Store_fade : Addr
  d_Store_fade : FuncData
  F_Store_fade : Fun K "fade" "Store.fade" s_Store_fade a_Store_fade d_Store_fade
  M_Store_fade : Meth K C_Store "fade" a_Store_fade
  a_Store_there : Addr
  d_Store_there : FuncData
  F_Store_there : Fun K "there" "Store.there" s_Store_there a_Store_there d_Store_there
  M_Store_there : Meth K C_Store "there" a_Store_there
  a_Store_thing : Addr
  d_Store_thing : FuncData
  F_Store_thing : Fun K "thing" "Store.thing" s_Store_thing a_Store_thing d_Store_thing
  M_Store_thing : Meth K C_Store "thing" a_Store_thing
  a_Store_wane_of : Addr
  d_Store_wane_of : FuncData
  F_Store_wane_of : Fun K "wane_of" "Store.wane_of" s_Store_wane_of a_Store_wane_of d_Store_wane_of
  M_Store_wane_of : Meth K C_Store "wane_of" a_Store_wane_of
  a_Store_total : Addr
  d_Store_total : FuncData
  F_Store_total : Fun K "total" "Store.total" s_Store_total a_Store_total d_Store_total
  M_Store_total : Meth K C_Store "total" a_Store_total
  a_Store_trace : Addr
  d_Store_trace : FuncData
  F_Store_trace : Fun K "trace" "Store.trace" s_Store_trace a_Store_trace d_Store_trace
  M_Store_trace : Meth K C_Store "trace" a_Store_trace
  a_Store_askers : Addr
  d_Store_askers : FuncData
  F_Store_askers : Fun K "askers" "Store.askers" s_Store_askers a_Store_askers d_Store_askers
  M_Store_askers : Meth K C_Store "askers" a_Store_askers
  a_Store_mender : Addr
  d_Store_mender : FuncData
  F_Store_mender : Fun K "mender" "Store.mender" s_Store_mender a_Store_mender d_Store_mender
  M_Store_mender : Meth K C_Store "mender" a_Store_mender
  a_Store_state : Addr
  d_Store_state : FuncData
  F_Store_state : Fun K "state" "Store.state" s_Store_state a_Store_state d_Store_state
  M_Store_state : Meth K C_Store "state" a_Store_state
  a_Store_story : Addr
  d_Store_story : FuncData
  F_Store_story : Fun K "story" "Store.story" s_Store_story a_Store_story d_Store_story
  M_Store_story : Meth K C_Store "story" a_Store_story
  a_Store_copied : Addr
  d_Store_copied : FuncData
  F_Store_copied : Fun K "copied" "Store.copied" s_Store_copied a_Store_copied d_Store_copied
  M_Store_copied : Meth K C_Store "copied" a_Store_copied
  a_Store__refuse_gone : Addr
  d_Store__refuse_gone : FuncData
  F_Store__refuse_gone : Fun K "_refuse_gone" "Store._refuse_gone" s_Store__refuse_gone a_Store__refuse_gone d_Store__refuse_gone
  M_Store__refuse_gone : Meth K C_Store "_refuse_gone" a_Store__refuse_gone
  a_put_fits : Addr
  d_put_fits : FuncData
  F_put_fits : Fun K "put_fits" "put_fits" s_put_fits a_put_fits d_put_fits
  m_put_fits : mg "put_fits" = some (.ref a_put_fits)
  a_are_rooms : Addr
  d_are_rooms : FuncData
  F_are_rooms : Fun K "are_rooms" "are_rooms" s_are_rooms a_are_rooms d_are_rooms
  m_are_rooms : mg "are_rooms" = some (.ref a_are_rooms)
  a_are_stirs : Addr
  d_are_stirs : FuncData
  F_are_stirs : Fun K "are_stirs" "are_stirs" s_are_stirs a_are_stirs d_are_stirs
  m_are_stirs : mg "are_stirs" = some (.ref a_are_stirs)
  a__law_bag : Addr
  d__law_bag : FuncData
  F__law_bag : Fun K "_law_bag" "_law_bag" s__law_bag a__law_bag d__law_bag
  m__law_bag : mg "_law_bag" = some (.ref a__law_bag)
  a__law_take : Addr
  d__law_take : FuncData
  F__law_take : Fun K "_law_take" "_law_take" s__law_take a__law_take d__law_take
  m__law_take : mg "_law_take" = some (.ref a__law_take)
  a__law_names : Addr
  d__law_names : FuncData
  F__law_names : Fun K "_law_names" "_law_names" s__law_names a__law_names d__law_names
  m__law_names : mg "_law_names" = some (.ref a__law_names)
  a__law_stirs : Addr
  d__law_stirs : FuncData
  F__law_stirs : Fun K "_law_stirs" "_law_stirs" s__law_stirs a__law_stirs d__law_stirs
  m__law_stirs : mg "_law_stirs" = some (.ref a__law_stirs)
  a__law_rooms : Addr
  d__law_rooms : FuncData
  F__law_rooms : Fun K "_law_rooms" "_law_rooms" s__law_rooms a__law_rooms d__law_rooms
  m__law_rooms : mg "_law_rooms" = some (.ref a__law_rooms)
  a__law_alike : Addr
  d__law_alike : FuncData
  F__law_alike : Fun K "_law_alike" "_law_alike" s__law_alike a__law_alike d__law_alike
  m__law_alike : mg "_law_alike" = some (.ref a__law_alike)
  a__law_made : Addr
  d__law_made : FuncData
  F__law_made : Fun K "_law_made" "_law_made" s__law_made a__law_made d__law_made
  m__law_made : mg "_law_made" = some (.ref a__law_made)
  a__law_right : Addr
  d__law_right : FuncData
  F__law_right : Fun K "_law_right" "_law_right" s__law_right a__law_right d__law_right
  m__law_right : mg "_law_right" = some (.ref a__law_right)
  a__law_refused : Addr
  d__law_refused : FuncData
  F__law_refused : Fun K "_law_refused" "_law_refused" s__law_refused a__law_refused d__law_refused
  m__law_refused : mg "_law_refused" = some (.ref a__law_refused)
  a__law_spoilt : Addr
  d__law_spoilt : FuncData
  F__law_spoilt : Fun K "_law_spoilt" "_law_spoilt" s__law_spoilt a__law_spoilt d__law_spoilt
  m__law_spoilt : mg "_law_spoilt" = some (.ref a__law_spoilt)
  a__law_case : Addr
  d__law_case : FuncData
  F__law_case : Fun K "_law_case" "_law_case" s__law_case a__law_case d__law_case
  m__law_case : mg "_law_case" = some (.ref a__law_case)
  a__law_store : Addr
  d__law_store : FuncData
  F__law_store : Fun K "_law_store" "_law_store" s__law_store a__law_store d__law_store
  m__law_store : mg "_law_store" = some (.ref a__law_store)
  a_law : Addr
  d_law : FuncData
  F_law : Fun K "law" "law" s_law a_law d_law
  m_law : mg "law" = some (.ref a_law)
  su_WaneError_Wrong : PySem.W.subIn K (.ref C_WaneError) (.ref C_Wrong) = some false
  su_WaneError_TooMany : PySem.W.subIn K (.ref C_WaneError) (.ref C_TooMany) = some false
  su_WaneError_There : PySem.W.subIn K (.ref C_WaneError) (.ref C_There) = some false
  su_WaneError_Gone : PySem.W.subIn K (.ref C_WaneError) (.ref C_Gone) = some false
  ei_WaneError : PySem.W.excIn K C_WaneError [.type "ValueError", .type "Exception", .type "BaseException", .type "object"] "ValueError.__new__" = true
  su_Wrong_WaneError : PySem.W.subIn K (.ref C_Wrong) (.ref C_WaneError) = some true
  su_Wrong_TooMany : PySem.W.subIn K (.ref C_Wrong) (.ref C_TooMany) = some false
  su_Wrong_There : PySem.W.subIn K (.ref C_Wrong) (.ref C_There) = some false
  su_Wrong_Gone : PySem.W.subIn K (.ref C_Wrong) (.ref C_Gone) = some false
  oi_Wrong : PySem.W.findIn K (.ref C_Wrong) "__init__" = some (some (.ref a_Wrong___init__))
  ot_Wrong : PySem.W.typeIn K (.ref a_Wrong___init__) = some (.type "function")
  nf_Wrong : PySem.W.findIn K (.ref C_Wrong) "place" = some none
  su_TooMany_WaneError : PySem.W.subIn K (.ref C_TooMany) (.ref C_WaneError) = some true
  su_TooMany_Wrong : PySem.W.subIn K (.ref C_TooMany) (.ref C_Wrong) = some false
  su_TooMany_There : PySem.W.subIn K (.ref C_TooMany) (.ref C_There) = some false
  su_TooMany_Gone : PySem.W.subIn K (.ref C_TooMany) (.ref C_Gone) = some false
  oi_TooMany : PySem.W.findIn K (.ref C_TooMany) "__init__" = some (some (.ref a_TooMany___init__))
  ot_TooMany : PySem.W.typeIn K (.ref a_TooMany___init__) = some (.type "function")
  nf_TooMany : PySem.W.findIn K (.ref C_TooMany) "most" = some none
  su_There_WaneError : PySem.W.subIn K (.ref C_There) (.ref C_WaneError) = some true
  su_There_Wrong : PySem.W.subIn K (.ref C_There) (.ref C_Wrong) = some false
  su_There_TooMany : PySem.W.subIn K (.ref C_There) (.ref C_TooMany) = some false
  su_There_Gone : PySem.W.subIn K (.ref C_There) (.ref C_Gone) = some false
  oi_There : PySem.W.findIn K (.ref C_There) "__init__" = some (some (.ref a_There___init__))
  ot_There : PySem.W.typeIn K (.ref a_There___init__) = some (.type "function")
  nf_There : PySem.W.findIn K (.ref C_There) "name" = some none
  su_Gone_WaneError : PySem.W.subIn K (.ref C_Gone) (.ref C_WaneError) = some true
  su_Gone_Wrong : PySem.W.subIn K (.ref C_Gone) (.ref C_Wrong) = some false
  su_Gone_TooMany : PySem.W.subIn K (.ref C_Gone) (.ref C_TooMany) = some false
  su_Gone_There : PySem.W.subIn K (.ref C_Gone) (.ref C_There) = some false
  oi_Gone : PySem.W.findIn K (.ref C_Gone) "__init__" = some (some (.ref a_Gone___init__))
  ot_Gone : PySem.W.typeIn K (.ref a_Gone___init__) = some (.type "function")
  nf_Gone : PySem.W.findIn K (.ref C_Gone) "name" = some none
section
variable {K : PySem.W.Frag} {mg : Str → Option Value}
theorem b__wall (W : Wd K mg) : Binds K W.d__wall ["k"] [] := W.F__wall.binds fun _ _ _ _ _ _ us hl => match us, hl with | [_], _ => rfl
theorem b_Wrong___init__ (W : Wd K mg) : Binds K W.d_Wrong___init__ ["self", "place"] [] := W.F_Wrong___init__.binds fun _ _ _ _ _ _ us hl => match us, hl with | [_, _], _ => rfl
theorem b_TooMany___init__ (W : Wd K mg) : Binds K W.d_TooMany___init__ ["self", "most"] [] := W.F_TooMany___init__.binds fun _ _ _ _ _ _ us hl => match us, hl with | [_, _], _ => rfl
theorem b_There___init__ (W : Wd K mg) : Binds K W.d_There___init__ ["self", "name"] [] := W.F_There___init__.binds fun _ _ _ _ _ _ us hl => match us, hl with | [_, _], _ => rfl
theorem b_Gone___init__ (W : Wd K mg) : Binds K W.d_Gone___init__ ["self", "name"] [] := W.F_Gone___init__.binds fun _ _ _ _ _ _ us hl => match us, hl with | [_, _], _ => rfl
theorem b_refuse_wrong (W : Wd K mg) : Binds K W.d_refuse_wrong ["fits"] [] := W.F_refuse_wrong.binds fun _ _ _ _ _ _ us hl => match us, hl with | [_], _ => rfl
theorem b_is_whole (W : Wd K mg) : Binds K W.d_is_whole ["thing"] [] := W.F_is_whole.binds fun _ _ _ _ _ _ us hl => match us, hl with | [_], _ => rfl
theorem b_is_within (W : Wd K mg) : Binds K W.d_is_within ["thing", "least", "most"] [] := W.F_is_within.binds fun _ _ _ _ _ _ us hl => match us, hl with | [_, _, _], _ => rfl
theorem b_is_name (W : Wd K mg) : Binds K W.d_is_name ["thing"] [] := W.F_is_name.binds fun _ _ _ _ _ _ us hl => match us, hl with | [_], _ => rfl
theorem b_is_sort (W : Wd K mg) : Binds K W.d_is_sort ["thing"] [] := W.F_is_sort.binds fun _ _ _ _ _ _ us hl => match us, hl with | [_], _ => rfl
theorem b_is_strength (W : Wd K mg) : Binds K W.d_is_strength ["thing"] [] := W.F_is_strength.binds fun _ _ _ _ _ _ us hl => match us, hl with | [_], _ => rfl
theorem b_is_size (W : Wd K mg) : Binds K W.d_is_size ["thing"] [] := W.F_is_size.binds fun _ _ _ _ _ _ us hl => match us, hl with | [_], _ => rfl
theorem b_is_shift (W : Wd K mg) : Binds K W.d_is_shift ["thing"] [] := W.F_is_shift.binds fun _ _ _ _ _ _ us hl => match us, hl with | [_], _ => rfl
theorem b_is_room (W : Wd K mg) : Binds K W.d_is_room ["thing"] [] := W.F_is_room.binds fun _ _ _ _ _ _ us hl => match us, hl with | [_], _ => rfl
theorem b_is_moment (W : Wd K mg) : Binds K W.d_is_moment ["thing"] [] := W.F_is_moment.binds fun _ _ _ _ _ _ us hl => match us, hl with | [_], _ => rfl
theorem b_is_step (W : Wd K mg) : Binds K W.d_is_step ["thing"] [] := W.F_is_step.binds fun _ _ _ _ _ _ us hl => match us, hl with | [_], _ => rfl
theorem b_hour_of (W : Wd K mg) : Binds K W.d_hour_of ["moment"] [] := W.F_hour_of.binds fun _ _ _ _ _ _ us hl => match us, hl with | [_], _ => rfl
theorem b_Wane_head (W : Wd K mg) : Binds K W.d_Wane_head ["self"] [] := W.F_Wane_head.binds fun _ _ _ _ _ _ us hl => match us, hl with | [_], _ => rfl
theorem b_Wane_tail (W : Wd K mg) : Binds K W.d_Wane_tail ["self"] [] := W.F_Wane_tail.binds fun _ _ _ _ _ _ us hl => match us, hl with | [_], _ => rfl
theorem b_Wane_cap (W : Wd K mg) : Binds K W.d_Wane_cap ["self"] [] := W.F_Wane_cap.binds fun _ _ _ _ _ _ us hl => match us, hl with | [_], _ => rfl
theorem b_Wane_lift (W : Wd K mg) : Binds K W.d_Wane_lift ["self"] [] := W.F_Wane_lift.binds fun _ _ _ _ _ _ us hl => match us, hl with | [_], _ => rfl
theorem b_Wane_is_anew (W : Wd K mg) : Binds K W.d_Wane_is_anew ["self"] [] := W.F_Wane_is_anew.binds fun _ _ _ _ _ _ us hl => match us, hl with | [_], _ => rfl
theorem b_Wane_step (W : Wd K mg) : Binds K W.d_Wane_step ["self", "number"] [] := W.F_Wane_step.binds fun _ _ _ _ _ _ us hl => match us, hl with | [_, _], _ => rfl
theorem b_Wane_phase (W : Wd K mg) : Binds K W.d_Wane_phase ["self", "since"] [] := W.F_Wane_phase.binds fun _ _ _ _ _ _ us hl => match us, hl with | [_, _], _ => rfl
theorem b_Wane_text (W : Wd K mg) : Binds K W.d_Wane_text ["self"] [] := W.F_Wane_text.binds fun _ _ _ _ _ _ us hl => match us, hl with | [_], _ => rfl
theorem b_Wane_step_behind (W : Wd K mg) : Binds K W.d_Wane_step_behind ["self", "since"] [] := W.F_Wane_step_behind.binds fun _ _ _ _ _ _ us hl => match us, hl with | [_, _], _ => rfl
theorem b_Wane_phase_behind (W : Wd K mg) : Binds K W.d_Wane_phase_behind ["self", "since"] [] := W.F_Wane_phase_behind.binds fun _ _ _ _ _ _ us hl => match us, hl with | [_, _], _ => rfl
theorem b_is_wane (W : Wd K mg) : Binds K W.d_is_wane ["thing"] [] := W.F_is_wane.binds fun _ _ _ _ _ _ us hl => match us, hl with | [_], _ => rfl
theorem b_is_level (W : Wd K mg) : Binds K W.d_is_level ["wane", "thing"] [] := W.F_is_level.binds fun _ _ _ _ _ _ us hl => match us, hl with | [_, _], _ => rfl
theorem b__is_head (W : Wd K mg) : Binds K W.d__is_head ["thing"] [] := W.F__is_head.binds fun _ _ _ _ _ _ us hl => match us, hl with | [_], _ => rfl
theorem b__is_tail (W : Wd K mg) : Binds K W.d__is_tail ["thing"] [] := W.F__is_tail.binds fun _ _ _ _ _ _ us hl => match us, hl with | [_], _ => rfl
theorem b__are_steps (W : Wd K mg) : Binds K W.d__are_steps ["thing"] [] := W.F__are_steps.binds fun _ _ _ _ _ _ us hl => match us, hl with | [_], _ => rfl
theorem b__step_word (W : Wd K mg) : Binds K W.d__step_word ["step"] [] := W.F__step_word.binds fun _ _ _ _ _ _ us hl => match us, hl with | [_], _ => rfl
theorem b_behind_turn (W : Wd K mg) : Binds K W.d_behind_turn ["wane", "strength", "since"] [] := W.F_behind_turn.binds fun _ _ _ _ _ _ us hl => match us, hl with | [_, _, _], _ => rfl
theorem b_behind_asking (W : Wd K mg) : Binds K W.d_behind_asking ["wane", "strength"] [] := W.F_behind_asking.binds fun _ _ _ _ _ _ us hl => match us, hl with | [_, _], _ => rfl
theorem b_Story___init__ (W : Wd K mg) : Binds K W.d_Story___init__ ["self"] [] := W.F_Story___init__.binds fun _ _ _ _ _ _ us hl => match us, hl with | [_], _ => rfl
theorem b_Story_doubled (W : Wd K mg) : Binds K W.d_Story_doubled ["self"] [] := W.F_Story_doubled.binds fun _ _ _ _ _ _ us hl => match us, hl with | [_], _ => rfl
theorem b_Story_write (W : Wd K mg) : Binds K W.d_Story_write ["self", "row"] [] := W.F_Story_write.binds fun _ _ _ _ _ _ us hl => match us, hl with | [_, _], _ => rfl
theorem b_Story_listed (W : Wd K mg) : Binds K W.d_Story_listed ["self"] [] := W.F_Story_listed.binds fun _ _ _ _ _ _ us hl => match us, hl with | [_], _ => rfl
theorem b_Thing___init__ (W : Wd K mg) : Binds K W.d_Thing___init__ ["self", "name", "group", "wane", "strength"] [] := W.F_Thing___init__.binds fun _ _ _ _ _ _ us hl => match us, hl with | [_, _, _, _, _], _ => rfl
theorem b_Thing_doubled (W : Wd K mg) : Binds K W.d_Thing_doubled ["self"] [] := W.F_Thing_doubled.binds fun _ _ _ _ _ _ us hl => match us, hl with | [_], _ => rfl
theorem b_Thing_phase (W : Wd K mg) : Binds K W.d_Thing_phase ["self"] [] := W.F_Thing_phase.binds fun _ _ _ _ _ _ us hl => match us, hl with | [_], _ => rfl
theorem b_Shelf___init__ (W : Wd K mg) : Binds K W.d_Shelf___init__ ["self", "limits", "shifts", "per_asking", "per_turn"] [] := W.F_Shelf___init__.binds fun _ _ _ _ _ _ us hl => match us, hl with | [_, _, _, _, _], _ => rfl
theorem b_Shelf_doubled (W : Wd K mg) : Binds K W.d_Shelf_doubled ["self"] [] := W.F_Shelf_doubled.binds fun _ _ _ _ _ _ us hl => match us, hl with | [_], _ => rfl
theorem b_Shelf_by_names (W : Wd K mg) : Binds K W.d_Shelf_by_names ["self"] [] := W.F_Shelf_by_names.binds fun _ _ _ _ _ _ us hl => match us, hl with | [_], _ => rfl
theorem b_Shelf_in_room (W : Wd K mg) : Binds K W.d_Shelf_in_room ["self", "room"] [] := W.F_Shelf_in_room.binds fun _ _ _ _ _ _ us hl => match us, hl with | [_, _], _ => rfl
theorem b_Shelf_sum_in (W : Wd K mg) : Binds K W.d_Shelf_sum_in ["self", "room"] [] := W.F_Shelf_sum_in.binds fun _ _ _ _ _ _ us hl => match us, hl with | [_, _], _ => rfl
theorem b_Shelf_states (W : Wd K mg) : Binds K W.d_Shelf_states ["self"] [] := W.F_Shelf_states.binds fun _ _ _ _ _ _ us hl => match us, hl with | [_], _ => rfl
theorem b_Shelf_trace_of (W : Wd K mg) : Binds K W.d_Shelf_trace_of ["self", "name"] [] := W.F_Shelf_trace_of.binds fun _ _ _ _ _ _ us hl => match us, hl with | [_, _], _ => rfl
theorem b_Shelf_add_row (W : Wd K mg) : Binds K W.d_Shelf_add_row ["self", "thing", "word"] [] := W.F_Shelf_add_row.binds fun _ _ _ _ _ _ us hl => match us, hl with | [_, _, _], _ => rfl
theorem b_Shelf_put_in (W : Wd K mg) : Binds K W.d_Shelf_put_in ["self", "thing"] [] := W.F_Shelf_put_in.binds fun _ _ _ _ _ _ us hl => match us, hl with | [_, _], _ => rfl
theorem b_Shelf_take_out (W : Wd K mg) : Binds K W.d_Shelf_take_out ["self", "thing"] [] := W.F_Shelf_take_out.binds fun _ _ _ _ _ _ us hl => match us, hl with | [_, _], _ => rfl
theorem b_Shelf_lose (W : Wd K mg) : Binds K W.d_Shelf_lose ["self", "thing", "word"] [] := W.F_Shelf_lose.binds fun _ _ _ _ _ _ us hl => match us, hl with | [_, _, _], _ => rfl
theorem b_Shelf_ask_for (W : Wd K mg) : Binds K W.d_Shelf_ask_for ["self", "name"] [] := W.F_Shelf_ask_for.binds fun _ _ _ _ _ _ us hl => match us, hl with | [_, _], _ => rfl
theorem b_Shelf_stir_beside (W : Wd K mg) : Binds K W.d_Shelf_stir_beside ["self", "thing", "shift"] [] := W.F_Shelf_stir_beside.binds fun _ _ _ _ _ _ us hl => match us, hl with | [_, _, _], _ => rfl
theorem b_Shelf_crowd (W : Wd K mg) : Binds K W.d_Shelf_crowd ["self"] [] := W.F_Shelf_crowd.binds fun _ _ _ _ _ _ us hl => match us, hl with | [_], _ => rfl
theorem b_Shelf_move_on (W : Wd K mg) : Binds K W.d_Shelf_move_on ["self", "thing"] [] := W.F_Shelf_move_on.binds fun _ _ _ _ _ _ us hl => match us, hl with | [_, _], _ => rfl
theorem b_Shelf_turn (W : Wd K mg) : Binds K W.d_Shelf_turn ["self"] [] := W.F_Shelf_turn.binds fun _ _ _ _ _ _ us hl => match us, hl with | [_], _ => rfl
theorem b_Shelf_wane_all (W : Wd K mg) : Binds K W.d_Shelf_wane_all ["self"] [] := W.F_Shelf_wane_all.binds fun _ _ _ _ _ _ us hl => match us, hl with | [_], _ => rfl
theorem b_Shelf_ask_for_weak (W : Wd K mg) : Binds K W.d_Shelf_ask_for_weak ["self"] [] := W.F_Shelf_ask_for_weak.binds fun _ _ _ _ _ _ us hl => match us, hl with | [_], _ => rfl
theorem b_Shelf_turns (W : Wd K mg) : Binds K W.d_Shelf_turns ["self", "many"] [] := W.F_Shelf_turns.binds fun _ _ _ _ _ _ us hl => match us, hl with | [_, _], _ => rfl
theorem b_weakest (W : Wd K mg) : Binds K W.d_weakest ["things"] [] := W.F_weakest.binds fun _ _ _ _ _ _ us hl => match us, hl with | [_], _ => rfl
theorem b_Store_put (W : Wd K mg) : Binds K W.d_Store_put ["self", "name", "sort", "wane", "strength"] [] := W.F_Store_put.binds fun _ _ _ _ _ _ us hl => match us, hl with | [_, _, _, _, _], _ => rfl
theorem b_Store_ask (W : Wd K mg) : Binds K W.d_Store_ask ["self", "name"] [] := W.F_Store_ask.binds fun _ _ _ _ _ _ us hl => match us, hl with | [_, _], _ => rfl
theorem b_Store_take (W : Wd K mg) : Binds K W.d_Store_take ["self", "name"] [] := W.F_Store_take.binds fun _ _ _ _ _ _ us hl => match us, hl with | [_, _], _ => rfl
theorem b_Store_mend (W : Wd K mg) : Binds K W.d_Store_mend ["self", "mark"] [] := W.F_Store_mend.binds fun _ _ _ _ _ _ us hl => match us, hl with | [_, _], _ => rfl
theorem b_Store_pass_on (W : Wd K mg) : Binds K W.d_Store_pass_on ["self", "turns"] [] := W.F_Store_pass_on.binds fun _ _ _ _ _ _ us hl => match us, hl with | [_, _], _ => rfl
theorem b_Store_hire (W : Wd K mg) : Binds K W.d_Store_hire ["self", "name", "hours"] [] := W.F_Store_hire.binds fun _ _ _ _ _ _ us hl => match us, hl with | [_, _, _], _ => rfl
theorem b_Store_dismiss (W : Wd K mg) : Binds K W.d_Store_dismiss ["self", "number"] [] := W.F_Store_dismiss.binds fun _ _ _ _ _ _ us hl => match us, hl with | [_, _], _ => rfl
theorem b_Store_now (W : Wd K mg) : Binds K W.d_Store_now ["self"] [] := W.F_Store_now.binds fun _ _ _ _ _ _ us hl => match us, hl with | [_], _ => rfl
theorem b_Store_rooms (W : Wd K mg) : Binds K W.d_Store_rooms ["self"] [] := W.F_Store_rooms.binds fun _ _ _ _ _ _ us hl => match us, hl with | [_], _ => rfl
theorem b_Store_stirs (W : Wd K mg) : Binds K W.d_Store_stirs ["self"] [] := W.F_Store_stirs.binds fun _ _ _ _ _ _ us hl => match us, hl with | [_], _ => rfl
theorem b_Store_grain (W : Wd K mg) : Binds K W.d_Store_grain ["self"] [] := W.F_Store_grain.binds fun _ _ _ _ _ _ us hl => match us, hl with | [_], _ => rfl
theorem b_Store_fade (W : Wd K mg) : Binds K W.d_Store_fade ["self"] [] := W.F_Store_fade.binds fun _ _ _ _ _ _ us hl => match us, hl with | [_], _ => rfl
theorem b_Store_there (W : Wd K mg) : Binds K W.d_Store_there ["self"] [] := W.F_Store_there.binds fun _ _ _ _ _ _ us hl => match us, hl with | [_], _ => rfl
theorem b_Store_thing (W : Wd K mg) : Binds K W.d_Store_thing ["self", "name"] [] := W.F_Store_thing.binds fun _ _ _ _ _ _ us hl => match us, hl with | [_, _], _ => rfl
theorem b_Store_wane_of (W : Wd K mg) : Binds K W.d_Store_wane_of ["self", "name"] [] := W.F_Store_wane_of.binds fun _ _ _ _ _ _ us hl => match us, hl with | [_, _], _ => rfl
theorem b_Store_total (W : Wd K mg) : Binds K W.d_Store_total ["self", "room"] [] := W.F_Store_total.binds fun _ _ _ _ _ _ us hl => match us, hl with | [_, _], _ => rfl
theorem b_Store_trace (W : Wd K mg) : Binds K W.d_Store_trace ["self", "name"] [] := W.F_Store_trace.binds fun _ _ _ _ _ _ us hl => match us, hl with | [_, _], _ => rfl
theorem b_Store_askers (W : Wd K mg) : Binds K W.d_Store_askers ["self"] [] := W.F_Store_askers.binds fun _ _ _ _ _ _ us hl => match us, hl with | [_], _ => rfl
theorem b_Store_mender (W : Wd K mg) : Binds K W.d_Store_mender ["self"] [] := W.F_Store_mender.binds fun _ _ _ _ _ _ us hl => match us, hl with | [_], _ => rfl
theorem b_Store_state (W : Wd K mg) : Binds K W.d_Store_state ["self"] [] := W.F_Store_state.binds fun _ _ _ _ _ _ us hl => match us, hl with | [_], _ => rfl
theorem b_Store_story (W : Wd K mg) : Binds K W.d_Store_story ["self"] [] := W.F_Store_story.binds fun _ _ _ _ _ _ us hl => match us, hl with | [_], _ => rfl
theorem b_Store_copied (W : Wd K mg) : Binds K W.d_Store_copied ["self"] [] := W.F_Store_copied.binds fun _ _ _ _ _ _ us hl => match us, hl with | [_], _ => rfl
theorem b_Store__refuse_gone (W : Wd K mg) : Binds K W.d_Store__refuse_gone ["self", "name"] [] := W.F_Store__refuse_gone.binds fun _ _ _ _ _ _ us hl => match us, hl with | [_, _], _ => rfl
theorem b_put_fits (W : Wd K mg) : Binds K W.d_put_fits ["name", "sort", "wane", "strength"] [] := W.F_put_fits.binds fun _ _ _ _ _ _ us hl => match us, hl with | [_, _, _, _], _ => rfl
theorem b_are_rooms (W : Wd K mg) : Binds K W.d_are_rooms ["thing"] [] := W.F_are_rooms.binds fun _ _ _ _ _ _ us hl => match us, hl with | [_], _ => rfl
theorem b_are_stirs (W : Wd K mg) : Binds K W.d_are_stirs ["thing"] [] := W.F_are_stirs.binds fun _ _ _ _ _ _ us hl => match us, hl with | [_], _ => rfl
theorem b__law_bag (W : Wd K mg) : Binds K W.d__law_bag ["_law_script"] [] := W.F__law_bag.binds fun _ _ _ _ _ _ us hl => match us, hl with | [_], _ => rfl
theorem b__law_take (W : Wd K mg) : Binds K W.d__law_take ["_law_bag_here", "_law_many"] [] := W.F__law_take.binds fun _ _ _ _ _ _ us hl => match us, hl with | [_, _], _ => rfl
theorem b__law_names (W : Wd K mg) : Binds K W.d__law_names ["_law_bag_here", "_law_many"] [] := W.F__law_names.binds fun _ _ _ _ _ _ us hl => match us, hl with | [_, _], _ => rfl
theorem b__law_stirs (W : Wd K mg) : Binds K W.d__law_stirs ["_law_bag_here"] [] := W.F__law_stirs.binds fun _ _ _ _ _ _ us hl => match us, hl with | [_], _ => rfl
theorem b__law_rooms (W : Wd K mg) : Binds K W.d__law_rooms ["_law_bag_here"] [] := W.F__law_rooms.binds fun _ _ _ _ _ _ us hl => match us, hl with | [_], _ => rfl
theorem b__law_alike (W : Wd K mg) : Binds K W.d__law_alike ["_law_found", "_law_due"] [] := W.F__law_alike.binds fun _ _ _ _ _ _ us hl => match us, hl with | [_, _], _ => rfl
theorem b__law_made (W : Wd K mg) : Binds K W.d__law_made ["_law_rooms_here", "_law_stirring", "_law_grains", "_law_fading"] [] := W.F__law_made.binds fun _ _ _ _ _ _ us hl => match us, hl with | [_, _, _, _], _ => rfl
theorem b__law_right (W : Wd K mg) : Binds K W.d__law_right ["_law_store_here", "_law_due", "_law_names_here"] [] := W.F__law_right.binds fun _ _ _ _ _ _ us hl => match us, hl with | [_, _, _], _ => rfl
theorem b__law_refused (W : Wd K mg) : Binds K W.d__law_refused ["_law_rooms_here", "_law_stirring", "_law_grains", "_law_fading"] [] := W.F__law_refused.binds fun _ _ _ _ _ _ us hl => match us, hl with | [_, _, _, _], _ => rfl
theorem b__law_spoilt (W : Wd K mg) : Binds K W.d__law_spoilt ["_law_bag_here", "_law_things"] [] := W.F__law_spoilt.binds fun _ _ _ _ _ _ us hl => match us, hl with | [_, _], _ => rfl
theorem b__law_case (W : Wd K mg) : Binds K W.d__law_case ["_law_bag_here"] [] := W.F__law_case.binds fun _ _ _ _ _ _ us hl => match us, hl with | [_], _ => rfl
theorem b__law_store (W : Wd K mg) : Binds K W.d__law_store ["_law_things", "_law_plain", "_law_bare"] [] := W.F__law_store.binds fun _ _ _ _ _ _ us hl => match us, hl with | [_, _, _], _ => rfl
theorem b_law (W : Wd K mg) : Binds K W.d_law ["_law_script"] [] := W.F_law.binds fun _ _ _ _ _ _ us hl => match us, hl with | [_], _ => rfl
theorem kb_Store___init___1_ (W : Wd K mg) : ∃ ds, Vals [.non, (.int 0), (.int 1)] ds ∧ Binds K W.d_Store___init__ ["self", "rooms", "stirs", "grain", "fade"] ds := W.D_Store___init__.binds0 (ps := ["self", "rooms", "stirs", "grain", "fade"]) 2 (by simp) rfl fun D doc pm an cdv ct us ks h1 h2 => by
  match us, ks, h1, h2 with
  | [_, _], [_, _, _], _, _ => exact ⟨_, _, _, _, _, _, rfl, rfl, _, _, _, _, _, _, rfl, rfl, _, _, _, _, _, _, rfl, rfl, rfl⟩
theorem kb_Store___init___1_grain_fade (W : Wd K mg) : ∃ g, KBn K W.d_Store___init__ ["self", "rooms", "stirs", "grain", "fade"] 2 ["grain", "fade"] g (fun vs zs => vs ++ ((([.non] : List V).drop 0).take 1 ++ ((zs.drop 0).take 1 ++ ((zs.drop 1).take 1)))) := by
  obtain ⟨mv, h⟩ := W.D_Store___init__.kbinds0 (ps := ["self", "rooms", "stirs", "grain", "fade"]) 2 ["grain", "fade"] [("stirs", .non)] (fun us mv ws => us ++ ((mv.drop 0).take 1 ++ ((ws.drop 0).take 1 ++ ((ws.drop 1).take 1)))) (by simp) (by simp) (fun hu hm hw => hu.append (((hm.drop 0).take 1).append (((hw.drop 0).take 1).append ((hw.drop 1).take 1)))) (fun D doc pm an cdv ct us mv ws h1 h2 h3 => by
    match us, mv, ws, h1, h2, h3 with
    | [_, _], [_], [_, _], _, _, _ => exact ⟨_, _, _, _, _, _, rfl, rfl, rfl⟩)
  exact ⟨_, h⟩
theorem kb_Store___init___1_stirs (W : Wd K mg) : ∃ g, KBn K W.d_Store___init__ ["self", "rooms", "stirs", "grain", "fade"] 2 ["stirs"] g (fun vs zs => vs ++ ((zs.drop 0).take 1 ++ ((([(.int 0), (.int 1)] : List V).drop 0).take 1 ++ ((([(.int 0), (.int 1)] : List V).drop 1).take 1)))) := by
  obtain ⟨mv, h⟩ := W.D_Store___init__.kbinds0 (ps := ["self", "rooms", "stirs", "grain", "fade"]) 2 ["stirs"] [("grain", (.int 0)), ("fade", (.int 1))] (fun us mv ws => us ++ ((ws.drop 0).take 1 ++ ((mv.drop 0).take 1 ++ ((mv.drop 1).take 1)))) (by simp) (by simp) (fun hu hm hw => hu.append (((hw.drop 0).take 1).append (((hm.drop 0).take 1).append ((hm.drop 1).take 1)))) (fun D doc pm an cdv ct us mv ws h1 h2 h3 => by
    match us, mv, ws, h1, h2, h3 with
    | [_, _], [_, _], [_], _, _, _ => exact ⟨_, _, _, _, _, _, rfl, rfl, _, _, _, _, _, _, rfl, rfl, rfl⟩)
  exact ⟨_, h⟩
theorem kb_Store___init___1_stirs_grain_fade (W : Wd K mg) : ∃ g, KBn K W.d_Store___init__ ["self", "rooms", "stirs", "grain", "fade"] 2 ["stirs", "grain", "fade"] g (fun vs zs => vs ++ ((zs.drop 0).take 1 ++ ((zs.drop 1).take 1 ++ ((zs.drop 2).take 1)))) := by
  obtain ⟨mv, h⟩ := W.D_Store___init__.kbinds0 (ps := ["self", "rooms", "stirs", "grain", "fade"]) 2 ["stirs", "grain", "fade"] [] (fun us mv ws => us ++ ((ws.drop 0).take 1 ++ ((ws.drop 1).take 1 ++ ((ws.drop 2).take 1)))) (by simp) (by simp) (fun hu hm hw => hu.append (((hw.drop 0).take 1).append (((hw.drop 1).take 1).append ((hw.drop 2).take 1)))) (fun D doc pm an cdv ct us mv ws h1 h2 h3 => by
    match us, mv, ws, h1, h2, h3 with
    | [_, _], [], [_, _, _], _, _, _ => exact rfl)
  exact ⟨_, h⟩
end
/-! ## the walk of a reading -/
local macro_rules | `(tactic| walk_at "mem") => `(tactic| first | exact List.Mem.head _ | (refine List.Mem.tail _ ?_; walk_at "mem"))
local macro_rules | `(tactic| walk_at "sub") => `(tactic| first | exact sub_nil | (refine sub_cons ?sa ?sb; (case sa => walk_at "mem"); (case sb => walk_at "sub")))
local macro_rules | `(tactic| walk_at "dz") => `(tactic| first | with_reducible exact z_int | with_reducible exact z_str | with_reducible exact z_bl | with_reducible exact z_non | with_reducible assumption | exact St.dz (by assumption) (by walk_at "mem"))
local macro_rules | `(tactic| walk_at "dzl") => `(tactic| first | exact zl_nil | (refine zl_cons ?zd ?zr; (case zd => walk_at "dz"); (case zr => walk_at "dzl")))
local macro_rules | `(tactic| walk_at "g1") => `(tactic| with_reducible first
  | refine g_var (by with_unfolding_all rfl) ?_
  | refine g_c ?_ | refine g_op ?_ | refine g_cons ?_ | refine g_nil ?_ | refine g_cb ?_ | refine g_seq ?_ | refine g_ret ?_ | refine g_asg ?_ | refine g_name ?_ | refine g_ifS ?_ | refine g_test ?_ | refine g_bl ?_ | refine g_iteT ?_ | refine g_iteF ?_
  | refine g_next ?_ | refine g_drop ?_ | refine g_call ?_ | refine g_tup ?_ | refine g_lst ?_ | refine g_sl ?_ | refine g_nopart ?_ | refine g_part ?_ | refine g_int ?_ | refine g_for ?_ | refine g_lc ?_
  | refine g_and ?_ | refine g_or ?_ | refine g_not ?_ | refine g_tB ?_ | refine g_andV ?_ | refine g_andV1 ?_ | refine g_orV ?_ | refine g_orV1 ?_ | refine g_notV ?_ | refine g_notV1 ?_ | refine g_if ?_ | refine g_chain ?_ | refine g_un ?_
  | refine v_add ?_ | refine v_sub ?_ | refine v_lt ?_ | refine v_le ?_ | refine v_gt ?_ | refine v_ge ?_ | refine v_eqI ?_ | refine v_neI ?_ | refine v_eqS ?_ | refine v_neS ?_ | refine v_eqB ?_ | refine v_neB ?_ | refine v_inSg ?_ | refine v_niSg ?_
  | refine g_bm ?_ | refine g_bm0 ?_ | refine g_m0 ?_ | refine g_m1 ?_ | refine g_str1 ?_ | refine g_str2 ?_ | refine g_orT ?_ | refine g_andT ?_ | refine g_notT ?_ | refine g_gtup ?_ | refine g_gcons ?_ | refine g_gnil ?_ | refine g_retN ?_ | refine g_brk ?_ | refine g_cont ?_
  | refine i_rng ?_ | refine i_rng2 ?_ | refine i_zip ?_ | refine i_enum ?_ | refine g_callD ?_ | refine g_augS ?_ | refine g_ipI ?_ | refine g_sub ?_ | refine g_yes ?_ | refine g_fld ?_ | refine g_meth ?_ | refine g_make ?_ | refine g_tru ?_ | refine g_setf ?_ | refine g_parS ?_ | refine g_parE ?_ | refine g_callN ?_ | refine g_ch3 ?_ | refine g_lrg ?_ | refine g_rg1 ?_ | refine g_rev ?_ | refine v_isNN ?_ | refine v_isNR ?_ | refine v_notNN ?_ | refine v_notNR ?_ | refine v_isNI ?_ | refine v_notNI ?_ | refine g_dni ?_ | refine g_din ?_ | refine g_dgt ?_ | refine g_dpt ?_ | refine i_enumS ?_ | refine g_revS ?_ | refine g_iteNT ?_ | refine g_iteNF ?_ | refine v_isiIB ?_ | refine v_isiII ?_ | refine v_isiSS ?_ | refine i_zip3 ?_ | refine g_par3 ?_)
local macro_rules | `(tactic| walk_at "g") => `(tactic| repeat (walk_at "g1"; try dsimp only [List.set_cons_zero, List.set_cons_succ, wipe, List.map_cons, List.map_nil, Bool.not_true, Bool.not_false]))
section
variable {P : Program} {w : World} {K : PySem.W.Frag} {mg : Str → Option Value} {base : Heap}
/-- nothing is refused where all fits are True -/
def sp_refuse_wrong (K : PySem.W.Frag) : Sp := spUnit K (fun n : Nat => [.lst (List.replicate n (D.bl true))]) (fun _ => True)
theorem ok_refuse_wrong (W : Wd K mg) : FnOk P w K mg base CX0 3 W.a_refuse_wrong W.d_refuse_wrong ["fits"] (sp_refuse_wrong K) := by
  refine W.F_refuse_wrong.ok sc_refuse_wrong (fun vs H Q E h => spUnit_len (n := 1) (fun _ => rfl) h) (fun cdv A outer s H vs Q E hr h => ?_)
  obtain ⟨S, n, ok, hz, hp, k⟩ := h
  have st := St.start ok hz
  obtain ⟨x, _, rfl, hx, rfl⟩ := hz
  obtain ⟨a, rfl⟩ := st.isL (by walk_at "mem")
  refine ⟨_, (pss_one (ps_for PassesOwn.never rfl (pi_enum (by rfl) W.n_enumerate (pa_cons (pv 0) pa_nil)) (pg_tup (by rfl) (pgs_cons (pg_name (i := 1) sc_refuse_wrong.nd rfl (.inl rfl)) (pgs_cons (pg_name (i := 2) sc_refuse_wrong.nd rfl (.inl rfl)) pgs_nil)))
        (pss_one (ps_if (pt_not (pt_truth (pv 2) (by intro _; rfl))) (pss_one ps_never) pss_nil)))), ?_⟩
  rw [show start N_refuse_wrong [.ref a] = [some (.ref a), none, none] from rfl]
  try dsimp only [cxOf]
  walk_at "g"
  refine for_E (K := K) (S := S) (fun i σ H' => (∃ y z, σ = [some (.ref a), y, z]) ∧ Vf.St K S (fun _ => False) H H' [(.ref a, .lst (List.replicate n (D.bl true)))] [] []) (fun i σ H' h => h.2.dz (by walk_at "mem")) ⟨⟨_, _, rfl⟩, st⟩ ?_ ?_
  · rintro i d x T σ H' hd hi hx ⟨⟨y, z, rfl⟩, st⟩ nT
    obtain rfl : d = D.bl true := List.eq_of_mem_replicate (List.mem_of_getElem? hd)
    obtain rfl : x = .bl true := hx
    have st := st.tup nT (zl_cons (z_int (i := (i : Nat))) (zl_cons (z_bl (i := true)) zl_nil))
    walk_at "g"
    refine d_gT (st.dz (by walk_at "mem")) rfl fun xs hxs => ?_
    obtain ⟨_, _, rfl, rfl, _, _, rfl, rfl, rfl⟩ := hxs
    walk_at "g"
    refine ⟨true, rfl, ?_⟩
    walk_at "g"
    exact ⟨⟨_, _, rfl⟩, st.sub (fun p h => List.mem_cons_of_mem _ h)⟩
  · rintro σ H' ⟨_, st⟩
    exact k _ st.end_

theorem isT_whole (d : D) (b : Bool) : isT "int" d = b → (if b = true then !isT "bool" d else false) = isWhole d := by
  intro e
  subst e
  cases d <;> simp [isT, D.tn, isWhole]
def sp_is_whole (K : PySem.W.Frag) : Sp := spBl K (fun d : D => [d]) (fun d => d.noIns = true) isWhole
theorem ok_is_whole (W : Wd K mg) : FnOk P w K mg base CX0 1 W.a_is_whole W.d_is_whole ["thing"] (sp_is_whole K) := by
  refine W.F_is_whole.ok sc_is_whole (fun vs H Q E h => spBl_len (n := 1) (fun _ => rfl) h) (fun cdv A outer s H vs Q E hr h => ?_)
  obtain ⟨S, d, ok, hz, hp, k⟩ := h
  have st := St.start ok hz
  obtain ⟨x, _, rfl, hx, rfl⟩ := hz
  refine ⟨_, (pss_one (ps_ret (pe_and (pe_callB (r := rIsiG K) call_isiG (by rfl) W.n_isinstance (by decide +kernel) (pa_cons (pv 0) (pa_cons (pe_bltn (v := .ty "int") (by rfl) W.n_int (by decide +kernel) rfl) pa_nil))) (pe_one (pe_not (pe_callB (r := rIsiG K) call_isiG (by rfl) W.n_isinstance (by decide +kernel) (pa_cons (pv 0) (pa_cons (pe_bltn (v := .ty "bool") (by rfl) W.n_bool (by decide +kernel) rfl) pa_nil)))))))), ?_⟩
  rw [show start N_is_whole [x] = [some (x)] from rfl]
  try dsimp only [cxOf]
  walk_at "g"
  refine d_isi hx hp (q := ?_)
  walk_at "g"
  have e := isT_whole d _ rfl
  refine g_ite (fun hb => ?_) (fun hb => ?_)
  · rw [hb, if_pos rfl] at e
    walk_at "g"
    refine d_isi hx hp (q := ?_)
    walk_at "g"
    rw [e]
    exact k _ st.end_
  · rw [hb, if_neg Bool.false_ne_true] at e
    rw [e]
    exact k _ st.end_

def sp_is_within (K : PySem.W.Frag) : Sp := spBl K (fun a : D × Int × Int => [a.1, .int a.2.1, .int a.2.2]) (fun a => a.1.noIns = true) (fun a => isWithin a.1 a.2.1 a.2.2)
theorem ok_is_within (W : Wd K mg) : FnOk P w K mg base CX0 2 W.a_is_within W.d_is_within ["thing", "least", "most"] (sp_is_within K) := by
  refine W.F_is_within.ok sc_is_within (fun vs H Q E h => spBl_len (n := 3) (fun _ => rfl) h) (fun cdv A outer s H vs Q E hr h => ?_)
  obtain ⟨S, ⟨d, lo, hi⟩, ok, hz, hd, k⟩ := h
  have st := St.start ok hz
  obtain ⟨x, _, rfl, hx, _, _, rfl, rfl, _, _, rfl, rfl, rfl⟩ := hz
  refine ⟨_, (pss_one (ps_ret (pe_and (pe_call (ok_is_whole W) (hr.mono (by decide)) (by rfl) W.m_is_whole W.F_is_whole.kp (b_is_whole W) .nil pass0 (pa_cons (pv 0) pa_nil)) (pe_one (pe_chain opLe opLe (pv 1) (pv 0) (pv 2)))))), ?_⟩
  rw [show start N_is_within [x, .int lo, .int hi] = [some (x), some (.int lo), some (.int hi)] from rfl]
  try dsimp only [cxOf]
  walk_at "g"
  refine c_Bl d st (zl_cons hx zl_nil) hd fun H1 st => ?_
  walk_at "g"
  refine g_ite (fun hb => ?_) (fun hb => ?_)
  · cases d with
    | int i =>
      obtain rfl : x = .int i := hx
      walk_at "g"
      refine g_dec (fun h1 => ?_) (fun h1 => ?_)
      · walk_at "g"
        have e : decide (i ≤ hi) = isWithin (.int i) lo hi := by simp [isWithin, h1]
        rw [e]
        exact k _ st.end_
      · have e : false = isWithin (.int i) lo hi := by simp [isWithin, h1]
        rw [e]
        exact k _ st.end_
    | _ => cases hb
  · have e : false = isWithin d lo hi := by cases d <;> first | (cases hb; done) | rfl
    rw [e]
    exact k _ st.end_

def sp_is_size (K : PySem.W.Frag) : Sp := spBl K (fun d : D => [d]) (fun d => d.noIns = true) (fun d => isWithin d 0 (10 ^ 9))
theorem ok_is_size (W : Wd K mg) : FnOk P w K mg base CX0 3 W.a_is_size W.d_is_size ["thing"] (sp_is_size K) := by
  refine W.F_is_size.ok sc_is_size (fun vs H Q E h => spBl_len (n := 1) (fun _ => rfl) h) (fun cdv A outer s H vs Q E hr h => ?_)
  obtain ⟨S, d, ok, hz, hp, k⟩ := h
  have st := St.start ok hz
  obtain ⟨x, _, rfl, hx, rfl⟩ := hz
  refine ⟨_, (pss_one (ps_ret (pe_call (ok_is_within W) (hr.mono (by decide)) (by rfl) W.m_is_within W.F_is_within.kp (b_is_within W) .nil pass0 (pa_cons (pv 0) (pa_cons pe_int (pa_cons (pe_glob (v := V.int 1000000000) rfl W.c_BILLION ⟨_, rfl⟩) pa_nil)))))), ?_⟩
  rw [show start N_is_size [x] = [some (x)] from rfl]
  try dsimp only [cxOf]
  walk_at "g"
  refine c_Bl (d, 0, 10 ^ 9) st (zl_cons hx (zl_cons z_int (zl_cons (z_int' (by dsimp only; decide)) zl_nil))) hp fun H1 st => ?_
  exact k _ st.end_

def sp_Story___init__ (K : PySem.W.Frag) (C : Addr) : Sp := spInit K C (fun _ : Unit => []) (fun _ => True) (fun _ => storyFs)
theorem ok_Story___init__ (W : Wd K mg) : FnOk P w K mg base CX0 1 W.a_Story___init__ W.d_Story___init__ ["self"] (sp_Story___init__ K W.C_Story) := by
  refine W.F_Story___init__.ok sc_Story___init__ (fun vs H Q E h => spInit_len (n := 1) (fun _ => rfl) h) (fun cdv A outer s H vs Q E hr h => ?_)
  obtain ⟨S, _, a, dx, r, rfl, ok, sa, ha, hz, _, k⟩ := h
  have st := St.start ok hz
  obtain rfl := hz
  refine ⟨_, (pss_cons (ps_fld (pv 0) (pe_lst pa_nil) rfl)
      (pss_one (ps_fld (pv 0) pe_int rfl))), ?_⟩
  rw [show start N_Story___init__ [.ref a] = [some (.ref a)] from rfl]
  try dsimp only [cxOf]
  walk_at "g"
  refine d_lst st (ds := []) zl_nil (by simp) fun p H1 st => ?_
  walk_at "g"
  refine d_setf st sa ha W.cl_Story W.na_Story_shared [] rfl rfl (by simp) fun H1 ha1 k1 st => ?_
  walk_at "g"
  refine d_setf st sa ha1 W.cl_Story W.na_Story_length ["shared"] rfl (by decide +kernel) (by simp) fun H2 ha2 k2 st => ?_
  refine k H2 _ (fun b o n e => k2 b o n (k1 b o n e)) ha2 ?_
  exact zf_cons (st.dz (by walk_at "mem")) (zf_cons z_int zf_nil)

-- needs: Story___init__
def sp_Shelf___init__ (K : PySem.W.Frag) (C C' : Addr) : Sp := spInit K C (fun s : Sq => [.lst (s.rooms.map D.int), .lst (s.stirs.map D.int), .int s.grain, .int s.fade]) (fun _ => True) (fun s => s.shelf C')
theorem ok_Shelf___init__ (W : Wd K mg) : FnOk P w K mg base CX0 3 W.a_Shelf___init__ W.d_Shelf___init__ ["self", "limits", "shifts", "per_asking", "per_turn"] (sp_Shelf___init__ K W.C_Shelf W.C_Story) := by
  refine W.F_Shelf___init__.ok sc_Shelf___init__ (fun vs H Q E h => spInit_len (n := 5) (fun _ => rfl) h) (fun cdv A outer s H vs Q E hr h => ?_)
  obtain ⟨S, sq, a, dx, r, rfl, ok, sa, ha, hz, _, k⟩ := h
  have st := St.start ok hz
  obtain ⟨x1, _, rfl, hx1, x2, _, rfl, hx2, _, _, rfl, rfl, _, _, rfl, rfl, rfl⟩ := hz
  obtain ⟨a1, rfl⟩ := st.isL (by walk_at "mem")
  obtain ⟨a2, rfl⟩ := st.isL (x := x2) (by walk_at "mem")
  refine ⟨_, (pss_cons (ps_fld (pv 0) (pe_callTy call_tupleG (by rfl) W.n_tuple (by decide +kernel) (pa_cons (pv 1) pa_nil)) rfl)
      (pss_cons (ps_fld (pv 0) (pe_callTy call_tupleG (by rfl) W.n_tuple (by decide +kernel) (pa_cons (pv 2) pa_nil)) rfl)
      (pss_cons (ps_fld (pv 0) (pv 3) rfl)
      (pss_cons (ps_fld (pv 0) (pv 4) rfl)
      (pss_cons (ps_fld (pv 0) pe_int rfl)
      (pss_cons (ps_fld (pv 0) pe_dnewK rfl)
      (pss_cons (ps_fld (pv 0) pe_dnewK rfl)
      (pss_cons (ps_fld (pv 0) (pe_lst pa_nil) rfl)
      (pss_cons (ps_fld (pv 0) pe_int rfl)
      (pss_cons (ps_fld (pv 0) pe_non rfl)
      (pss_one (ps_fld (pv 0) (pe_make0 W.K_Story (ok_Story___init__ W) (hr.mono (by decide)) (by rfl) W.c_Story (b_Story___init__ W) .nil pass0) rfl)))))))))))), ?_⟩
  rw [show start N_Shelf___init__ [.ref a, .ref a1, .ref a2, .int sq.grain, .int sq.fade] = [some (.ref a), some (.ref a1), some (.ref a2), some (.int sq.grain), some (.int sq.fade)] from rfl]
  try dsimp only [cxOf]
  walk_at "g"
  refine d_tupleL st (ds := sq.rooms.map D.int) (st.dz (x := .ref a1) (by walk_at "mem")) fun p1 H1 st => ?_
  walk_at "g"
  refine d_setf st sa ha W.cl_Shelf W.na_Shelf_limits [] rfl rfl (by simp) fun H1 ha1 k1 st => ?_
  walk_at "g"
  refine d_tupleL st (ds := sq.stirs.map D.int) (st.dz (x := .ref a2) (by walk_at "mem")) fun p2 H1 st => ?_
  walk_at "g"
  refine d_setf st sa ha1 W.cl_Shelf W.na_Shelf_shifts ["limits"] rfl (by decide +kernel) (by simp) fun H1 ha2 k2 st => ?_
  walk_at "g"
  refine d_setf st sa ha2 W.cl_Shelf W.na_Shelf_per_asking ["limits", "shifts"] rfl (by decide +kernel) (by simp) fun H1 ha3 k3 st => ?_
  walk_at "g"
  refine d_setf st sa ha3 W.cl_Shelf W.na_Shelf_per_turn ["limits", "shifts", "per_asking"] rfl (by decide +kernel) (by simp) fun H1 ha4 k4 st => ?_
  walk_at "g"
  refine d_setf st sa ha4 W.cl_Shelf W.na_Shelf_moment ["limits", "shifts", "per_asking", "per_turn"] rfl (by decide +kernel) (by simp) fun H1 ha5 k5 st => ?_
  walk_at "g"
  refine d_dic0 st fun q1 H1 st => ?_
  walk_at "g"
  refine d_setf st sa ha5 W.cl_Shelf W.na_Shelf_things ["limits", "shifts", "per_asking", "per_turn", "moment"] rfl (by decide +kernel) (by simp) fun H1 ha6 k6 st => ?_
  walk_at "g"
  refine d_dic0 st fun q2 H1 st => ?_
  walk_at "g"
  refine d_setf st sa ha6 W.cl_Shelf W.na_Shelf_traces ["limits", "shifts", "per_asking", "per_turn", "moment", "things"] rfl (by decide +kernel) (by simp) fun H1 ha7 k7 st => ?_
  walk_at "g"
  refine d_lst st (ds := []) zl_nil (by simp) fun q3 H1 st => ?_
  walk_at "g"
  refine d_setf st sa ha7 W.cl_Shelf W.na_Shelf_plans ["limits", "shifts", "per_asking", "per_turn", "moment", "things", "traces"] rfl (by decide +kernel) (by simp) fun H1 ha8 k8 st => ?_
  walk_at "g"
  refine d_setf st sa ha8 W.cl_Shelf W.na_Shelf_hired ["limits", "shifts", "per_asking", "per_turn", "moment", "things", "traces", "plans"] rfl (by decide +kernel) (by simp) fun H1 ha9 k9 st => ?_
  walk_at "g"
  refine d_setf st sa ha9 W.cl_Shelf W.na_Shelf_mark ["limits", "shifts", "per_asking", "per_turn", "moment", "things", "traces", "plans", "hired"] rfl (by decide +kernel) (by simp) fun H1 ha10 k10 st => ?_
  walk_at "g"
  refine g_mk1 ?_
  walk_at "g"
  refine c_mk () st zl_nil trivial fun q4 H1 st => ?_
  walk_at "g"
  refine d_setf st sa ha10 W.cl_Shelf W.na_Shelf_rows ["limits", "shifts", "per_asking", "per_turn", "moment", "things", "traces", "plans", "hired", "mark"] rfl (by decide +kernel) (by simp) fun H1 ha11 k11 st => ?_
  refine k H1 _ (fun b o n e => k11 b o n (k10 b o n (k9 b o n (k8 b o n (k7 b o n (k6 b o n (k5 b o n (k4 b o n (k3 b o n (k2 b o n (k1 b o n e))))))))))) ha11 ?_
  exact zf_cons (st.dz (x := .ref p1) (by walk_at "mem")) (zf_cons (st.dz (x := .ref p2) (by walk_at "mem")) (zf_cons z_int (zf_cons z_int (zf_cons z_int (zf_cons (st.dz (x := .ref q1) (by walk_at "mem")) (zf_cons (st.dz (x := .ref q2) (by walk_at "mem")) (zf_cons (st.dz (x := .ref q3) (by walk_at "mem")) (zf_cons z_int (zf_cons z_non (zf_cons (st.dz (x := .ref q4) (by walk_at "mem")) zf_nil))))))))))

-- needs: is_within
def sp_is_room (K : PySem.W.Frag) : Sp := spBl K (fun d : D => [d]) (fun d => d.noIns = true) (fun d => isWithin d 1 (10 ^ 12))
theorem ok_is_room (W : Wd K mg) : FnOk P w K mg base CX0 3 W.a_is_room W.d_is_room ["thing"] (sp_is_room K) := by
  refine W.F_is_room.ok sc_is_room (fun vs H Q E h => spBl_len (n := 1) (fun _ => rfl) h) (fun cdv A outer s H vs Q E hr h => ?_)
  obtain ⟨S, d, ok, hz, hp, k⟩ := h
  have st := St.start ok hz
  obtain ⟨x, _, rfl, hx, rfl⟩ := hz
  refine ⟨_, (pss_one (ps_ret (pe_call (ok_is_within W) (hr.mono (by decide)) (by rfl) W.m_is_within W.F_is_within.kp (b_is_within W) .nil pass0 (pa_cons (pv 0) (pa_cons pe_int (pa_cons (pe_glob (v := V.int 1000000000000) rfl W.c_MOST_ROOM ⟨_, rfl⟩) pa_nil)))))), ?_⟩
  rw [show start N_is_room [x] = [some (x)] from rfl]
  try dsimp only [cxOf]
  walk_at "g"
  refine c_Bl (d, 1, 10 ^ 12) st (zl_cons hx (zl_cons z_int (zl_cons (z_int' (by dsimp only; decide)) zl_nil))) hp fun H1 st => ?_
  exact k _ st.end_

-- needs: is_room
def sp_are_rooms (K : PySem.W.Frag) : Sp := spBl K (fun d : D => [d]) PreRow isRooms
theorem ok_are_rooms (W : Wd K mg) : FnOk P w K mg base CX0 4 W.a_are_rooms W.d_are_rooms ["thing"] (sp_are_rooms K) := by
  refine W.F_are_rooms.ok sc_are_rooms (fun vs H Q E h => spBl_len (n := 1) (fun _ => rfl) h) (fun cdv A outer s H vs Q E hr h => ?_)
  obtain ⟨S, d, ok, hz, hp, k⟩ := h
  have hp : PreRow d := hp
  have st := St.start ok hz
  obtain ⟨x, _, rfl, hx, rfl⟩ := hz
  have fin : ∀ b H', Same H H' → b = isRooms d → Q (.bl b) H' := fun b H' e eb => by rw [eb]; exact k H' e
  refine ⟨_, (pss_one (ps_ret (pe_and (pe_callB (r := rIsiG K) call_isiG (by rfl) W.n_isinstance (by decide +kernel) (pa_cons (pv 0) (pa_cons (pe_bltn (v := .ty "list") (by rfl) W.n_list (by decide +kernel) rfl) pa_nil))) (pe_and (pe_chain opLe opLe pe_int (pe_callB (r := rLenG K) call_lenG (by rfl) W.n_len PySem.boot_len (pa_cons (pv 0) pa_nil)) (pe_glob (v := V.int 4) rfl W.c_MOST_ROOMS ⟨_, rfl⟩)) (pe_one (pe_callB (cr_all rfl) (by rfl) W.n_all (by decide +kernel) (pa_cons (pe_lc (own := [("room", 1)]) rfl sc_are_rooms.nd (piG (pv 0)) (blkOk_by (N := N_are_rooms) (sc := defScope s_are_rooms) (by decide +kernel)) (fun _ _ _ _ _ => (pg_name (i := 1) sc_are_rooms.nd rfl (.inl rfl))) (fun _ _ _ _ _ => pts_nil) (fun _ _ _ _ _ => (pe_call (ok_is_room W) (hr.mono (by decide)) (by rfl) W.m_is_room W.F_is_room.kp (b_is_room W) .nil pass0 (pa_cons (pv 1) pa_nil)))) pa_nil))))))), ?_⟩
  rw [show start N_are_rooms [x] = [some (x), none] from rfl]
  try dsimp only [cxOf]
  walk_at "g"
  refine d_isi hx hp.no (q := ?_)
  walk_at "g"
  refine g_ite (fun hb => ?_) (fun hb => ?_)
  · cases d with
    | lst ds =>
      obtain ⟨few, pre⟩ := hp.few ds rfl
      obtain ⟨a, rfl⟩ := st.isL (by walk_at "mem")
      walk_at "g"
      refine d_lenL (st.dz (x := .ref a) (by walk_at "mem")) ?_
      walk_at "g"
      by_cases h4 : 1 ≤ ds.length ∧ ds.length ≤ 4
      rotate_left
      · by_cases h1 : 1 ≤ ds.length
        · rw [decide_eq_true (by omega : (1 : Int) ≤ (ds.length : Nat))]
          walk_at "g"
          rw [decide_eq_false (by omega : ¬ ((ds.length : Nat) : Int) ≤ 4)]
          walk_at "g"
          refine fin _ _ st.end_ ?_
          show _ = (decide _ && _)
          rw [decide_eq_false h4]; rfl
        · rw [decide_eq_false (by omega : ¬ (1 : Int) ≤ (ds.length : Nat))]
          walk_at "g"
          refine fin _ _ st.end_ ?_
          show _ = (decide _ && _)
          rw [decide_eq_false h4]; rfl
      rw [decide_eq_true (by omega : (1 : Int) ≤ (ds.length : Nat))]
      walk_at "g"
      rw [decide_eq_true (by omega : ((ds.length : Nat) : Int) ≤ 4)]
      walk_at "g"
      refine i_lst ?_
      walk_at "g"
      refine lc_L st (ds := ds) (by walk_at "mem") (fun i es => es = (ds.take i).map fun d => D.bl (isWithin d 1 (10 ^ 12))) (by simp) ?_ ?_
      · rintro p i d x H1 es np hd hi hl pe st
        walk_at "g"
        refine ⟨rfl, ?_⟩
        walk_at "g"
        refine c_Bl d st (zl_cons (st.dz (by walk_at "mem")) zl_nil) (pre d (List.mem_of_getElem? hd)) fun H2 st => ?_
        refine lc_end st (fun q h => List.mem_cons_of_mem _ h) (by omega) hl z_bl ?_
        rw [pe, take_snoc hd, List.map_append]
        rfl
      · rintro p H1 es pe hl st
        have e2 : es = (ds.map fun d => isWithin d 1 (10 ^ 12)).map D.bl := by rw [pe, List.take_length, List.map_map]; rfl
        subst e2
        walk_at "g"
        refine d_all (st.dz (by walk_at "mem")) ?_
        refine fin _ _ st.end_ ?_
        rw [all_mapX]
        show _ = (decide _ && _)
        rw [decide_eq_true h4, Bool.true_and]
    | _ => simp [isT, D.tn] at hb
  · refine fin _ _ st.end_ ?_
    cases d <;> first | rfl | (simp [isT, D.tn] at hb; done)

-- needs: is_within
def sp_is_shift (K : PySem.W.Frag) : Sp := spBl K (fun d : D => [d]) (fun d => d.noIns = true) (fun d => isWithin d (-(10 ^ 9)) (10 ^ 9))
theorem ok_is_shift (W : Wd K mg) : FnOk P w K mg base CX0 3 W.a_is_shift W.d_is_shift ["thing"] (sp_is_shift K) := by
  refine W.F_is_shift.ok sc_is_shift (fun vs H Q E h => spBl_len (n := 1) (fun _ => rfl) h) (fun cdv A outer s H vs Q E hr h => ?_)
  obtain ⟨S, d, ok, hz, hp, k⟩ := h
  have st := St.start ok hz
  obtain ⟨x, _, rfl, hx, rfl⟩ := hz
  refine ⟨_, (pss_one (ps_ret (pe_call (ok_is_within W) (hr.mono (by decide)) (by rfl) W.m_is_within W.F_is_within.kp (b_is_within W) .nil pass0 (pa_cons (pv 0) (pa_cons (pe_un un_neg (pe_glob (v := V.int 1000000000) rfl W.c_BILLION ⟨_, rfl⟩)) (pa_cons (pe_glob (v := V.int 1000000000) rfl W.c_BILLION ⟨_, rfl⟩) pa_nil)))))), ?_⟩
  rw [show start N_is_shift [x] = [some (x)] from rfl]
  try dsimp only [cxOf]
  walk_at "g"
  refine ⟨_, rfl, ?_⟩
  walk_at "g"
  refine c_Bl (d, (-1000000000 : Int), (1000000000 : Int)) st (zl_cons hx (zl_cons z_int (zl_cons z_int zl_nil))) (show d.noIns = true from hp) fun H1 st => ?_
  exact k _ st.end_

-- needs: is_shift
def sp_are_stirs (K : PySem.W.Frag) : Sp := spBl K (fun d : D => [d]) PreRow isStirs
theorem ok_are_stirs (W : Wd K mg) : FnOk P w K mg base CX0 4 W.a_are_stirs W.d_are_stirs ["thing"] (sp_are_stirs K) := by
  refine W.F_are_stirs.ok sc_are_stirs (fun vs H Q E h => spBl_len (n := 1) (fun _ => rfl) h) (fun cdv A outer s H vs Q E hr h => ?_)
  obtain ⟨S, d, ok, hz, hp, k⟩ := h
  have hp : PreRow d := hp
  have st := St.start ok hz
  obtain ⟨x, _, rfl, hx, rfl⟩ := hz
  have fin : ∀ b H', Same H H' → b = isStirs d → Q (.bl b) H' := fun b H' e eb => by rw [eb]; exact k H' e
  refine ⟨_, (pss_one (ps_ret (pe_and (pe_callB (r := rIsiG K) call_isiG (by rfl) W.n_isinstance (by decide +kernel) (pa_cons (pv 0) (pa_cons (pe_bltn (v := .ty "list") (by rfl) W.n_list (by decide +kernel) rfl) pa_nil))) (pe_and (pe_cmpR (r := rEqG K) (opEq hr.units) (pe_callB (r := rLenG K) call_lenG (by rfl) W.n_len PySem.boot_len (pa_cons (pv 0) pa_nil)) (pe_glob (v := V.int 10) rfl W.c_SORTS ⟨_, rfl⟩) (nomark _)) (pe_one (pe_callB (cr_all rfl) (by rfl) W.n_all (by decide +kernel) (pa_cons (pe_lc (own := [("stir", 1)]) rfl sc_are_stirs.nd (piG (pv 0)) (blkOk_by (N := N_are_stirs) (sc := defScope s_are_stirs) (by decide +kernel)) (fun _ _ _ _ _ => (pg_name (i := 1) sc_are_stirs.nd rfl (.inl rfl))) (fun _ _ _ _ _ => pts_nil) (fun _ _ _ _ _ => (pe_call (ok_is_shift W) (hr.mono (by decide)) (by rfl) W.m_is_shift W.F_is_shift.kp (b_is_shift W) .nil pass0 (pa_cons (pv 1) pa_nil)))) pa_nil))))))), ?_⟩
  rw [show start N_are_stirs [x] = [some (x), none] from rfl]
  try dsimp only [cxOf]
  walk_at "g"
  refine d_isi hx hp.no (q := ?_)
  walk_at "g"
  refine g_ite (fun hb => ?_) (fun hb => ?_)
  · cases d with
    | lst ds =>
      obtain ⟨few, pre⟩ := hp.few ds rfl
      obtain ⟨a, rfl⟩ := st.isL (by walk_at "mem")
      walk_at "g"
      refine d_lenL (st.dz (x := .ref a) (by walk_at "mem")) ?_
      walk_at "g"
      by_cases h4 : ds.length = 10
      rotate_left
      · rw [decide_eq_false (by omega : ¬ ((ds.length : Nat) : Int) = 10)]
        walk_at "g"
        refine fin _ _ st.end_ ?_
        show _ = (decide _ && _)
        rw [decide_eq_false h4]; rfl
      rw [decide_eq_true (by omega : ((ds.length : Nat) : Int) = 10)]
      walk_at "g"
      refine i_lst ?_
      walk_at "g"
      refine lc_L st (ds := ds) (by walk_at "mem") (fun i es => es = (ds.take i).map fun d => D.bl (isWithin d (-(10 ^ 9)) (10 ^ 9))) (by simp) ?_ ?_
      · rintro p i d x H1 es np hd hi hl pe st
        walk_at "g"
        refine ⟨rfl, ?_⟩
        walk_at "g"
        refine c_Bl d st (zl_cons (st.dz (by walk_at "mem")) zl_nil) (pre d (List.mem_of_getElem? hd)) fun H2 st => ?_
        refine lc_end st (fun q h => List.mem_cons_of_mem _ h) (by omega) hl z_bl ?_
        rw [pe, take_snoc hd, List.map_append]
        rfl
      · rintro p H1 es pe hl st
        have e2 : es = (ds.map fun d => isWithin d (-(10 ^ 9)) (10 ^ 9)).map D.bl := by rw [pe, List.take_length, List.map_map]; rfl
        subst e2
        walk_at "g"
        refine d_all (st.dz (by walk_at "mem")) ?_
        refine fin _ _ st.end_ ?_
        rw [all_mapX]
        show _ = (decide _ && _)
        rw [decide_eq_true h4, Bool.true_and]
    | _ => simp [isT, D.tn] at hb
  · refine fin _ _ st.end_ ?_
    cases d <;> first | rfl | (simp [isT, D.tn] at hb; done)

-- needs: Shelf___init__
-- needs: are_rooms
-- needs: are_stirs
def sqIn (p : Sq × Bool) : List D := [.lst (p.1.rooms.map D.int), if p.2 then .non else .lst (p.1.stirs.map D.int), .int p.1.grain, .int p.1.fade]
structure SqIn (p : Sq × Bool) : Prop where
  o : p.1.Ok
  n : p.2 = true → p.1.stirs = List.replicate 10 0
theorem rooms_good {l : List Int} (h1 : 1 ≤ l.length ∧ l.length ≤ 4) (h : ∀ r ∈ l, 1 ≤ r ∧ r ≤ 10 ^ 12) : isRooms (.lst (l.map D.int)) = true := by
  show (decide _ && _) = true
  rw [List.length_map, decide_eq_true h1, Bool.true_and, List.all_eq_true]
  intro d hd
  obtain ⟨r, hr, rfl⟩ := List.mem_map.mp hd
  exact decide_eq_true (h r hr)
theorem stirs_good {l : List Int} (h1 : l.length = 10) (h : ∀ r ∈ l, -(10 ^ 9) ≤ r ∧ r ≤ 10 ^ 9) : isStirs (.lst (l.map D.int)) = true := by
  show (decide _ && _) = true
  rw [List.length_map, decide_eq_true h1, Bool.true_and, List.all_eq_true]
  intro d hd
  obtain ⟨r, hr, rfl⟩ := List.mem_map.mp hd
  exact decide_eq_true (h r hr)
theorem preRow_ints {l : List Int} (h1 : l.length ≤ 100000) : PreRow (.lst (l.map D.int)) := by
  refine ⟨rfl, fun ds e => ?_⟩
  cases e
  refine ⟨by rw [List.length_map]; exact h1, fun e he => ?_⟩
  obtain ⟨r, _, rfl⟩ := List.mem_map.mp he
  rfl
def sp_Store___init__ (K : PySem.W.Frag) (C C1 C2 : Addr) : Sp := spInit K C sqIn SqIn (fun p => p.1.fs C1 C2)
theorem ok_Store___init__ (W : Wd K mg) : FnOk P w K mg base CX0 5 W.a_Store___init__ W.d_Store___init__ ["self", "rooms", "stirs", "grain", "fade"] (sp_Store___init__ K W.C_Store W.C_Shelf W.C_Story) := by
  refine okD W.D_Store___init__ sc_Store___init__ (fun vs H Q E h => spInit_len (n := 5) (fun _ => rfl) h) (fun cdv A outer s H vs Q E hr h => ?_)
  obtain ⟨S, ⟨sq, pl⟩, a, dx, r, rfl, ok, sa, ha, hz, ⟨ho, hn⟩, k⟩ := h
  have ho : sq.Ok := ho
  have hn : pl = true → sq.stirs = List.replicate 10 0 := hn
  have st := St.start ok hz
  obtain ⟨x1, _, rfl, hx1, x2, _, rfl, hx2, _, _, rfl, rfl, _, _, rfl, rfl, rfl⟩ := hz
  obtain ⟨a1, rfl⟩ := st.isL (by walk_at "mem")
  have e1 : isRooms (.lst (sq.rooms.map D.int)) = true := rooms_good ho.rl ho.rs
  have e2 : isStirs (.lst (sq.stirs.map D.int)) = true := stirs_good ho.sl ho.ss
  have e3 : isWithin (.int sq.grain) 0 (10 ^ 9) = true := decide_eq_true ho.g
  have e4 : isWithin (.int sq.fade) 1 (10 ^ 9) = true := decide_eq_true ho.f
  have rl := ho.rl
  have sl := ho.sl
  cases pl with
  | true =>
    obtain rfl : x2 = .non := hx2
    refine ⟨_, (pss_cons (ps_expr (pe_call (ok_refuse_wrong W) (hr.mono (by decide)) (by rfl) W.m_refuse_wrong W.F_refuse_wrong.kp (b_refuse_wrong W) .nil pass0 (pa_cons (pe_lst (pa_cons (pe_call (ok_are_rooms W) (hr.mono (by decide)) (by rfl) W.m_are_rooms W.F_are_rooms.kp (b_are_rooms W) .nil pass0 (pa_cons (pv 1) pa_nil)) (pa_cons (pe_or (pe_cmpR (r := rIsNo) opIs (pv 2) pe_non (nomark _)) (pe_one (pe_call (ok_are_stirs W) (hr.mono (by decide)) (by rfl) W.m_are_stirs W.F_are_stirs.kp (b_are_stirs W) .nil pass0 (pa_cons (pv 2) pa_nil)))) (pa_cons (pe_call (ok_is_size W) (hr.mono (by decide)) (by rfl) W.m_is_size W.F_is_size.kp (b_is_size W) .nil pass0 (pa_cons (pv 3) pa_nil)) (pa_cons (pe_call (ok_is_within W) (hr.mono (by decide)) (by rfl) W.m_is_within W.F_is_within.kp (b_is_within W) .nil pass0 (pa_cons (pv 4) (pa_cons pe_int (pa_cons (pe_glob (v := V.int 1000000000) rfl W.c_BILLION ⟨_, rfl⟩) pa_nil)))) pa_nil))))) pa_nil)))
      (pss_one (ps_fld (pv 0) (pe_make W.K_Shelf (ok_Shelf___init__ W) (hr.mono (by decide)) (by rfl) W.c_Shelf (b_Shelf___init__ W) .nil pass0 (pa_cons (pv 1) (pa_cons (pe_ifExp (pt_cmpR (r := rIsNo) opIs (pv 2) pe_non (nomark _)) (pe_op op_rep (pe_lst (pa_cons pe_int pa_nil)) (pe_glob (v := V.int 10) rfl W.c_SORTS ⟨_, rfl⟩)) (pv 2)) (pa_cons (pv 3) (pa_cons (pv 4) pa_nil))))) rfl))), ?_⟩
    rw [show start N_Store___init__ [.ref a, .ref a1, .non, .int sq.grain, .int sq.fade] = [some (.ref a), some (.ref a1), some (.non), some (.int sq.grain), some (.int sq.fade)] from rfl]
    try dsimp only [cxOf]
    walk_at "g"
    refine c_Bl (.lst (sq.rooms.map D.int)) st (zl_cons (st.dz (x := .ref a1) (by walk_at "mem")) zl_nil) (preRow_ints (by omega)) fun H1 st => ?_
    rw [e1]
    walk_at "g"
    refine c_Bl (.int sq.grain) st (by walk_at "dzl") rfl fun H1 st => ?_
    rw [e3]
    walk_at "g"
    refine c_Bl (.int sq.fade, 1, 10 ^ 9) st (zl_cons z_int (zl_cons z_int (zl_cons (z_int' (by dsimp only; decide)) zl_nil))) rfl fun H1 st => ?_
    rw [show isWithin _ _ _ = true from e4]
    walk_at "g"
    refine d_lst st (ds := [.bl true, .bl true, .bl true, .bl true]) (by walk_at "dzl") (by simp) fun p H1 st => ?_
    walk_at "g"
    refine c_Unit 4 st (zl_cons (show Dz K S H1 (.lst (List.replicate 4 (D.bl true))) _ from st.dz (by walk_at "mem")) zl_nil) trivial fun H1 st => ?_
    walk_at "g"
    refine g_mk1 ?_
    walk_at "g"
    refine d_lst st (ds := [.int 0]) (by walk_at "dzl") (by simp) fun p2 H1 st => ?_
    walk_at "g"
    refine d_repG (d := .int 0) (k := 10) st (st.dz (x := .ref p2) (by walk_at "mem")) (by omega) fun p3 H1 st => ?_
    walk_at "g"
    have e5 : List.replicate (10 : Int).toNat (D.int 0) = sq.stirs.map D.int := by rw [hn rfl]; rfl
    rw [e5] at st
    refine c_mk sq st (zl_cons (st.dz (x := .ref a1) (by walk_at "mem")) (zl_cons (st.dz (x := .ref p3) (by walk_at "mem")) (zl_cons z_int (zl_cons z_int zl_nil)))) trivial fun p4 H1 st => ?_
    walk_at "g"
    refine d_setf st sa ha W.cl_Store W.na_Store_shelf [] rfl rfl (by simp) fun H2 ha1 k1 st => ?_
    refine k H2 _ k1 ha1 ?_
    exact zf_cons (st.dz (by walk_at "mem")) zf_nil
  | false =>
    obtain ⟨a2, rfl⟩ := st.isL (x := x2) (ds := sq.stirs.map D.int) (by walk_at "mem")
    refine ⟨_, (pss_cons (ps_expr (pe_call (ok_refuse_wrong W) (hr.mono (by decide)) (by rfl) W.m_refuse_wrong W.F_refuse_wrong.kp (b_refuse_wrong W) .nil pass0 (pa_cons (pe_lst (pa_cons (pe_call (ok_are_rooms W) (hr.mono (by decide)) (by rfl) W.m_are_rooms W.F_are_rooms.kp (b_are_rooms W) .nil pass0 (pa_cons (pv 1) pa_nil)) (pa_cons (pe_or (pe_cmpR (r := rIsNo) opIs (pv 2) pe_non (nomark _)) (pe_one (pe_call (ok_are_stirs W) (hr.mono (by decide)) (by rfl) W.m_are_stirs W.F_are_stirs.kp (b_are_stirs W) .nil pass0 (pa_cons (pv 2) pa_nil)))) (pa_cons (pe_call (ok_is_size W) (hr.mono (by decide)) (by rfl) W.m_is_size W.F_is_size.kp (b_is_size W) .nil pass0 (pa_cons (pv 3) pa_nil)) (pa_cons (pe_call (ok_is_within W) (hr.mono (by decide)) (by rfl) W.m_is_within W.F_is_within.kp (b_is_within W) .nil pass0 (pa_cons (pv 4) (pa_cons pe_int (pa_cons (pe_glob (v := V.int 1000000000) rfl W.c_BILLION ⟨_, rfl⟩) pa_nil)))) pa_nil))))) pa_nil)))
      (pss_one (ps_fld (pv 0) (pe_make W.K_Shelf (ok_Shelf___init__ W) (hr.mono (by decide)) (by rfl) W.c_Shelf (b_Shelf___init__ W) .nil pass0 (pa_cons (pv 1) (pa_cons (pe_ifExp (pt_cmpR (r := rIsNo) opIs (pv 2) pe_non (nomark _)) (pe_op op_rep (pe_lst (pa_cons pe_int pa_nil)) (pe_glob (v := V.int 10) rfl W.c_SORTS ⟨_, rfl⟩)) (pv 2)) (pa_cons (pv 3) (pa_cons (pv 4) pa_nil))))) rfl))), ?_⟩
    rw [show start N_Store___init__ [.ref a, .ref a1, .ref a2, .int sq.grain, .int sq.fade] = [some (.ref a), some (.ref a1), some (.ref a2), some (.int sq.grain), some (.int sq.fade)] from rfl]
    try dsimp only [cxOf]
    walk_at "g"
    refine c_Bl (.lst (sq.rooms.map D.int)) st (zl_cons (st.dz (x := .ref a1) (by walk_at "mem")) zl_nil) (preRow_ints (by omega)) fun H1 st => ?_
    rw [e1]
    walk_at "g"
    refine c_Bl (.lst (sq.stirs.map D.int)) st (zl_cons (st.dz (x := .ref a2) (by walk_at "mem")) zl_nil) (preRow_ints (by omega)) fun H1 st => ?_
    rw [e2]
    walk_at "g"
    refine c_Bl (.int sq.grain) st (by walk_at "dzl") rfl fun H1 st => ?_
    rw [e3]
    walk_at "g"
    refine c_Bl (.int sq.fade, 1, 10 ^ 9) st (zl_cons z_int (zl_cons z_int (zl_cons (z_int' (by dsimp only; decide)) zl_nil))) rfl fun H1 st => ?_
    rw [show isWithin _ _ _ = true from e4]
    walk_at "g"
    refine d_lst st (ds := [.bl true, .bl true, .bl true, .bl true]) (by walk_at "dzl") (by simp) fun p H1 st => ?_
    walk_at "g"
    refine c_Unit 4 st (zl_cons (show Dz K S H1 (.lst (List.replicate 4 (D.bl true))) _ from st.dz (by walk_at "mem")) zl_nil) trivial fun H1 st => ?_
    walk_at "g"
    refine g_mk1 ?_
    walk_at "g"
    refine c_mk sq st (zl_cons (st.dz (x := .ref a1) (by walk_at "mem")) (zl_cons (st.dz (x := .ref a2) (by walk_at "mem")) (zl_cons z_int (zl_cons z_int zl_nil)))) trivial fun p4 H1 st => ?_
    walk_at "g"
    refine d_setf st sa ha W.cl_Store W.na_Store_shelf [] rfl rfl (by simp) fun H2 ha1 k1 st => ?_
    refine k H2 _ k1 ha1 ?_
    exact zf_cons (st.dz (by walk_at "mem")) zf_nil

def sp__law_bag (K : PySem.W.Frag) : Sp := fun vs H Q _ => ∃ (a : Addr) (ns : List Int), vs = [.ref a] ∧ SqL K H a (ns.map V.int) ∧ ns.length ≤ 63 ∧ ∀ b H', Same H H' → H b = none → Bag K (fun c => c = b) H' b → Q (.ref b) H'
theorem sp__law_bag_len {vs : List V} {H : Hp} {Q : VK} {E : XK} {n : Nat} (h1 : ∀ _ : Unit, 1 = n) (h : sp__law_bag K vs H Q E) : vs.length = n := by
  obtain ⟨a, ns, rfl, _⟩ := h
  exact h1 ()
theorem ok__law_bag (W : Wd K mg) : FnOk P w K mg base CX0 1 W.a__law_bag W.d__law_bag ["_law_script"] (sp__law_bag K) := by
  refine W.F__law_bag.ok sc__law_bag (fun vs H Q E h => sp__law_bag_len (n := 1) (fun _ => rfl) h) (fun cdv A outer s H vs Q E hr h => ?_)
  obtain ⟨a, ns, rfl, hs, hl63, k⟩ := h
  have st : Vf.St K (fun _ => False) (fun _ => False) H H [] [] [] := St.start (ds := []) (fun _ z => z.elim) zl_nil
  refine ⟨_, (pss_one (ps_ret (pe_lst (pa_cons pe_int (pa_cons pe_int (pa_cons pe_int (pa_cons (pe_lc (own := [("_law_cell", 1)]) rfl sc__law_bag.nd (piG (pe_slice (r := rSlG K) slG (pv 0) po_none (po_some pe_int))) (blkOk_by (N := N__law_bag) (sc := defScope s__law_bag) (by decide +kernel)) (fun _ _ _ _ _ => (pg_name (i := 1) sc__law_bag.nd rfl (.inl rfl))) (fun _ _ _ _ _ => pts_nil) (fun _ _ _ _ _ => (pe_callB call_abs (by rfl) W.n_abs (by decide +kernel) (pa_cons (pv 1) pa_nil)))) pa_nil))))))), ?_⟩
  rw [show start N__law_bag [.ref a] = [some (.ref a), none] from rfl]
  try dsimp only [cxOf]
  walk_at "g"
  refine i_lst ?_
  walk_at "g"
  refine .inl ⟨a, _, rfl, hs, fun p np => ?_⟩
  obtain ⟨ms, em, hms⟩ : ∃ ms : List Int, cutV (ns.map V.int) none (some 63) = ms.map V.int ∧ ms.length ≤ 63 :=
    ⟨_, by unfold cutV; rw [← List.map_drop, ← List.map_take], by rw [List.length_take, List.length_drop]; omega⟩
  rw [em]
  have st := st.lst np (DzL.of_ints ms)
  refine lc_L st (by walk_at "mem") (fun i es => es = (ms.take i).map fun n => D.int (if n < 0 then -n else n)) (by simp) ?_ ?_
  · rintro q i d x H1 es nq hd hi hl pe st
    rw [List.getElem?_map] at hd
    rw [List.length_map] at hi
    have em : ms[i]? = some ms[i] := List.getElem?_eq_getElem hi
    rw [em] at hd
    obtain rfl := Option.some.inj hd
    obtain rfl := st.eqI (List.Mem.head _)
    walk_at "g"
    refine ⟨rfl, ?_⟩
    walk_at "g"
    refine ⟨_, rfl, ?_⟩
    refine lc_end st (fun q h => List.mem_cons_of_mem _ h) (by omega) hl z_int ?_
    rw [pe, take_snoc em, List.map_append]
    rfl
  · rintro q H' es pe hl st
    rw [List.length_map, List.take_length] at pe
    subst pe
    walk_at "g"
    refine ⟨by show 4 ≤ sizeLine; decide, fun b nb => ?_⟩
    obtain ⟨xs, h1, h2⟩ := z_lst (st.dz (x := .ref q) (List.Mem.head _))
    have e2 : (ms.map fun n => D.int (if n < 0 then -n else n)) = (ms.map fun n => if n < 0 then -n else n).map D.int := by rw [List.map_map]; rfl
    rw [e2] at h2
    have ex := DzL.ints _ h2
    subst ex
    have qb : q ≠ b := ne_of_none h1.2 nb
    refine k b _ (fun c o e => by rw [upd_ne (ne_of_none (st.end_ c o e) nb)]; exact st.end_ c o e) ?_ (Bag.mk' upd_same qb (by rw [upd_ne qb]; exact h1.2) (fun n hn => ?_) (by decide) (by decide) (by decide) (by decide))
    · cases z : H b with
      | none => rfl
      | some o => rw [st.end_ b o z] at nb; cases nb
    · obtain ⟨m, _, rfl⟩ := List.mem_map.mp hn
      show 0 ≤ (if m < 0 then -m else m)
      split <;> omega

/-- a draw -/
def drawn (m : Int) (d : D) : Prop := ∃ v : Int, d = .int v ∧ 0 ≤ v ∧ v < m
def sp__law_take (K : PySem.W.Frag) : Sp := spDr K (fun m : Int => [.int m]) (fun m => 0 < m ∧ m < 2 ^ 200) drawn
theorem ok__law_take (W : Wd K mg) : FnOk P w K mg base CX0 1 W.a__law_take W.d__law_take ["_law_bag_here", "_law_many"] (sp__law_take K) := by
  refine W.F__law_take.ok sc__law_take (fun vs H Q E h => spDr_len (n := 1) (fun _ => rfl) h) (fun cdv A outer s H vs Q E hr h => ?_)
  obtain ⟨S, a, _, m, rfl, ok, sa, bg, hz, ⟨hm, hm2⟩, k⟩ := h
  obtain ⟨_, _, rfl, rfl, rfl⟩ := hz
  obtain ⟨r, hh, i, c, ns, hb, nc, hc, hn, hr0, hh0, hh1, hi0⟩ := bg.get
  have ca : c ≠ a := fun e => nc (e ▸ sa)
  have wd : ∀ z : Int, CDivW z m := fun z => wide_div (b := 200) hm (by omega) (by decide) (by decide)
  -- what is left at an end
  have fin : ∀ (r' h' i' v : Int) (H' : Hp), H' a = some (.lst [.int r', .int h', .int i', .ref c]) → (∀ b, b ≠ a → H' b = H b) → 0 ≤ r' → 0 ≤ h' → h' < 2147483647 → 0 ≤ i' → 0 ≤ v → v < m → Q (.int v) H' := by
    intro r' h' i' v H' e1 e2 z1 z2 z3 z4 z5 z6
    exact k (.int v) (.int v) H' (fun b o n e => by rw [e2 b n]; exact e) (Bag.mk' e1 nc (by rw [e2 c ca]; exact hc) hn z1 z2 z3 z4) rfl ⟨v, rfl, z5, z6⟩
  refine ⟨_, (pss_mid (ps_if (pt_cmpR (r := rEqG K) (opEq hr.units) (pe_ix (r := rIxG K) ixG (pv 0) pe_int (fun _ _ => rfl)) pe_int (nomark _)) (pss_cons (ps_set (i := 4) sc__law_take.nd rfl (Or.inl rfl) pe_int)
      (pss_mid (ps_if (pt_cmpR opLt (pe_ix (r := rIxG K) ixG (pv 0) pe_int (fun _ _ => rfl)) (pe_callB (r := rLenG K) call_lenG (by rfl) W.n_len PySem.boot_len (pa_cons (pe_ix (r := rIxG K) ixG (pv 0) pe_int (fun _ _ => rfl)) pa_nil)) (nomark _)) (pss_one (ps_set (i := 4) sc__law_take.nd rfl (Or.inl rfl) (pe_ix (r := rIxG K) ixG (pe_ix (r := rIxG K) ixG (pv 0) pe_int (fun _ _ => rfl)) (pe_ix (r := rIxG K) ixG (pv 0) pe_int (fun _ _ => rfl)) (fun _ _ => rfl)))) pss_nil)
      (pss_cons (ps_augS (pv 0) pe_int pget_ix pe_int ip_add set_list)
      (pss_mid (ps_if (pt_cmpR opGe (pv 4) pe_int (nomark _)) (pss_one (ps_asg (pv 4) (pg_sub (pv 0) pe_int set_list))) pss_nil)
      (pss_one (ps_asg (pe_op opMod (pe_op (r := rAddG K) opAdd (pe_op (r := rAddG K) opAdd (pe_op opMul (pe_ix (r := rIxG K) ixG (pv 0) pe_int (fun _ _ => rfl)) pe_int) (pe_op opMod (pv 4) pe_int)) (pe_op opMul pe_int (pe_ix (r := rIxG K) ixG (pv 0) pe_int (fun _ _ => rfl)))) pe_int) (pg_sub (pv 0) pe_int set_list))))))) pss_nil)
      (pss_cons (ps_if (pt_cmpR opGt (pe_ix (r := rIxG K) ixG (pv 0) pe_int (fun _ _ => rfl)) pe_int (nomark _)) (pss_cons (ps_set (i := 5) sc__law_take.nd rfl (Or.inl rfl) (pe_op opMod (pe_ix (r := rIxG K) ixG (pv 0) pe_int (fun _ _ => rfl)) (pv 1)))
      (pss_cons (ps_asg (pe_op opDiv (pe_ix (r := rIxG K) ixG (pv 0) pe_int (fun _ _ => rfl)) (pv 1)) (pg_sub (pv 0) pe_int set_list))
      (pss_one (ps_ret (pv 5))))) pss_nil)
      (pss_cons (ps_set (i := 2) sc__law_take.nd rfl (Or.inl rfl) (pe_op opMod (pe_op opMul (pe_op (r := rAddG K) opAdd (pe_ix (r := rIxG K) ixG (pv 0) pe_int (fun _ _ => rfl)) pe_int) pe_int) pe_int))
      (pss_cons (ps_set (i := 3) sc__law_take.nd rfl (Or.inl rfl) (pe_op opMod (pe_op opMul (pe_op opMod (pe_op opMul (pv 2) (pv 2)) pe_int) pe_int) pe_int))
      (pss_cons (ps_if (pt_cmpR opGt (pv 1) pe_int (nomark _)) (pss_one (ps_ret (pe_op opMod (pe_op (r := rAddG K) opAdd (pe_op opMul (pv 3) pe_int) (pv 2)) (pv 1)))) pss_nil)
      (pss_one (ps_ret (pe_op opMod (pe_op opDiv (pv 3) pe_int) (pv 1))))))))), ?_⟩
  rw [show start N__law_take [.ref a, .int m] = [some (.ref a), some (.int m), none, none, none, none] from rfl]
  try dsimp only [cxOf]
  walk_at "g"
  refine g_mid (fun σ' H' => ∃ (r' h' i' : Int) (x4 : Option V), σ' = [some (.ref a), some (.int m), none, none, x4, none] ∧ H' a = some (.lst [.int r', .int h', .int i', .ref c]) ∧ (∀ b, b ≠ a → H' b = H b) ∧ 0 ≤ r' ∧ 0 ≤ h' ∧ h' < 2147483647 ∧ 0 ≤ i') ?_ ?_
  · walk_at "g"
    refine b_ix 0 hb rfl ?_
    walk_at "g"
    refine g_dec (fun e0 => ?_) (fun e0 => ⟨r, hh, i, none, rfl, hb, fun _ _ => rfl, hr0, hh0, hh1, hi0⟩)
    walk_at "g"
    refine g_mid (fun σ' H' => ∃ cell : Int, 0 ≤ cell ∧ σ' = [some (.ref a), some (.int m), none, none, some (.int cell), none] ∧ H' = H) ?_ ?_
    · walk_at "g"
      refine b_ix 2 hb rfl ?_
      walk_at "g"
      refine b_ix 3 hb rfl ?_
      walk_at "g"
      refine b_len hc ?_
      walk_at "g"
      refine g_dec (fun e1 => ?_) (fun e1 => ⟨0, by decide, rfl, rfl⟩)
      walk_at "g"
      refine b_ix 3 hb rfl ?_
      walk_at "g"
      refine b_ix 2 hb rfl ?_
      rw [List.length_map] at e1
      have hl : i.toNat < ns.length := by omega
      rw [show i = ((i.toNat : Nat) : Int) by omega]
      refine b_ix i.toNat hc (v := .int ns[i.toNat]) (by simp [hl]) ?_
      walk_at "g"
      exact ⟨ns[i.toNat], hn _ (List.getElem_mem hl), rfl, rfl⟩
    · rintro _ H' ⟨cell, hcell, rfl, eH⟩
      rw [eH]
      clear eH H'
      walk_at "g"
      refine b_get 2 hb rfl ?_
      walk_at "g"
      refine b_set 2 hb (by simp) ?_
      generalize hH2 : upd H a (.lst ([V.int r, .int hh, .int i, .ref c].set 2 (.int (i + 1)))) = H2
      have hb2 : H2 a = some (.lst [.int r, .int hh, .int (i + 1), .ref c]) := by rw [← hH2]; exact upd_same
      have ho2 : ∀ b, b ≠ a → H2 b = H b := fun b n => by rw [← hH2]; exact upd_ne n
      walk_at "g"
      refine g_mid (fun σ' H' => ∃ r' : Int, 0 ≤ r' ∧ σ' = [some (.ref a), some (.int m), none, none, some (.int cell), none] ∧ H' a = some (.lst [.int r', .int hh, .int (i + 1), .ref c]) ∧ ∀ b, b ≠ a → H' b = H b) ?_ ?_
      · walk_at "g"
        refine g_dec (fun e1 => ?_) (fun e1 => ⟨r, hr0, rfl, hb2, ho2⟩)
        walk_at "g"
        refine b_set 0 hb2 (by simp) ?_
        exact ⟨cell, hcell, rfl, upd_same, fun b n => by rw [upd_ne n]; exact ho2 b n⟩
      · rintro _ H3 ⟨r', hr', rfl, hb3, ho3⟩
        walk_at "g"
        refine b_ix 1 hb3 rfl ?_
        walk_at "g"
        refine v_mulR (by decide) ?_
        walk_at "g"
        refine v_mod (by decide) ?_
        walk_at "g"
        refine b_ix 2 hb3 rfl ?_
        walk_at "g"
        refine v_mulL (by decide) ?_
        walk_at "g"
        refine v_mod (by decide) ?_
        walk_at "g"
        refine b_set 1 hb3 (by simp) ?_
        exact ⟨r', _, i + 1, some (.int cell), rfl, upd_same, fun b n => by rw [upd_ne n]; exact ho3 b n, hr', Int.emod_nonneg _ (by decide), Int.emod_lt_of_pos _ (by decide), by omega⟩
  · rintro _ H1 ⟨r', h', i', x4, rfl, hb1, ho1, z1, z2, z3, z4⟩
    walk_at "g"
    refine b_ix 0 hb1 rfl ?_
    walk_at "g"
    refine g_dec (fun e1 => ?_) (fun e1 => ?_)
    · walk_at "g"
      refine b_ix 0 hb1 rfl ?_
      walk_at "g"
      refine v_mod hm ?_
      walk_at "g"
      refine b_ix 0 hb1 rfl ?_
      walk_at "g"
      refine v_div (wd _) ?_
      walk_at "g"
      refine b_set 0 hb1 (by simp) ?_
      walk_at "g"
      exact fin _ h' i' _ _ upd_same (fun b n => by rw [upd_ne n]; exact ho1 b n) (Int.ediv_nonneg z1 (by omega)) z2 z3 z4 (Int.emod_nonneg _ (by omega)) (Int.emod_lt_of_pos _ hm)
    · walk_at "g"
      refine b_ix 1 hb1 rfl ?_
      walk_at "g"
      refine v_mulR (by decide) ?_
      walk_at "g"
      refine v_mod (by decide) ?_
      walk_at "g"
      generalize hf : (h' + 1) * 39373 % 1000000007 = f
      have f0 : 0 ≤ f := by rw [← hf]; exact Int.emod_nonneg _ (by decide)
      have f1 : f < 1000000007 := by rw [← hf]; exact Int.emod_lt_of_pos _ (by decide)
      refine v_mulL (by omega) ?_
      walk_at "g"
      refine v_mod (by decide) ?_
      walk_at "g"
      refine v_mulR (by decide) ?_
      walk_at "g"
      refine v_mod (by decide) ?_
      walk_at "g"
      refine g_dec (fun e2 => ?_) (fun e2 => ?_)
      · walk_at "g"
        refine v_mulR (by decide) ?_
        walk_at "g"
        refine v_mod hm ?_
        exact fin r' h' i' _ _ hb1 ho1 z1 z2 z3 z4 (Int.emod_nonneg _ (by omega)) (Int.emod_lt_of_pos _ hm)
      · walk_at "g"
        refine v_div (wide_div (b := 3) (by decide) (by decide) (by decide) (by decide)) ?_
        walk_at "g"
        refine v_mod hm ?_
        exact fin r' h' i' _ _ hb1 ho1 z1 z2 z3 z4 (Int.emod_nonneg _ (by omega)) (Int.emod_lt_of_pos _ hm)

-- needs: _law_take
abbrev abc : Str := Str.ofString "abcdefghijklmnopqrstuvwxyz"
theorem abc_len : abc.cps.toList.length = 26 := by decide +kernel
theorem abc_size : abc.length ≤ sizeLine := by rw [sizeLine_eq]; decide +kernel
theorem abc_all : abc.cps.toList.all letOk = true := by decide +kernel
theorem abc_at {i : Nat} (h : i < 26) : ∃ c, abc.cps.toList[i]? = some c ∧ letOk c = true := by
  have hl : i < abc.cps.toList.length := by rw [abc_len]; exact h
  exact ⟨_, List.getElem?_eq_getElem hl, List.all_eq_true.mp abc_all _ (List.getElem_mem hl)⟩
/-- a name: one to eight small letters -/
theorem name_ok {z : Str} (h1 : 1 ≤ z.cps.toList.length) (h2 : z.cps.toList.length ≤ 8) (h3 : ∀ c ∈ z.cps.toList, letOk c = true) : isName (.str z) = true ∧ fewS (.str z) := by
  have e : z.cps.size = z.cps.toList.length := rfl
  have q := (str_ok (z := z) (by omega) (fun c m => by
    have := h3 c m
    unfold letOk at this
    simp only [Bool.and_eq_true, decide_eq_true_eq] at this
    omega)).fine
  simp only [D.fine, Bool.and_eq_true] at q
  refine ⟨?_, rfl, fun y ey => ?_⟩
  · show ((decide _ && decide _) && _) = true
    rw [decide_eq_true (by omega), decide_eq_true (by omega), List.all_eq_true.mpr h3]; rfl
  · cases ey
    exact ⟨by show z.cps.size ≤ 100000; omega, q.1⟩
def stemS (n c : Nat) : Str := ⟨(List.replicate n (⟨#[c]⟩ : Str).cps).foldl (· ++ ·) #[]⟩
theorem stem_list (n c : Nat) : (stemS n c).cps.toList = List.replicate n c := by
  show ((List.replicate n (#[c] : Array Nat)).foldl (· ++ ·) #[]).toList = _
  rw [fold_rep]; simp
theorem name_list {n c at_ d : Nat} : (cutS (stemS n c) none (some ((at_ : Nat) : Int)) ++ ⟨#[d]⟩ ++ cutS (stemS n c) (some (((at_ + 1 : Nat)) : Int)) none : Str).cps.toList = (List.replicate n c).take at_ ++ [d] ++ (List.replicate n c).drop (at_ + 1) := by
  show ((cutS (stemS n c) none (some ((at_ : Nat) : Int))).cps ++ #[d] ++ (cutS (stemS n c) (some (((at_ + 1 : Nat)) : Int)) none).cps).toList = _
  rw [Array.toList_append, Array.toList_append, cutS_to, cutS_from, stem_list]
theorem name_is {n c at_ d : Nat} (h1 : 1 ≤ n) (h2 : n ≤ 8) (ha : at_ < n) (hc : letOk c = true) (hd : letOk d = true) : isName (.str (cutS (stemS n c) none (some ((at_ : Nat) : Int)) ++ ⟨#[d]⟩ ++ cutS (stemS n c) (some (((at_ + 1 : Nat)) : Int)) none)) = true ∧ fewS (.str (cutS (stemS n c) none (some ((at_ : Nat) : Int)) ++ ⟨#[d]⟩ ++ cutS (stemS n c) (some (((at_ + 1 : Nat)) : Int)) none)) := by
  have e : ((List.replicate n c).take at_ ++ [d] ++ (List.replicate n c).drop (at_ + 1)).length = n := by
    rw [List.length_append, List.length_append, List.length_take, List.length_drop, List.length_replicate, List.length_singleton]; omega
  refine name_ok (by rw [name_list, e]; exact h1) (by rw [name_list, e]; exact h2) (fun x m => ?_)
  rw [name_list] at m
  rcases List.mem_append.mp m with m | m
  · rcases List.mem_append.mp m with m | m
    · rw [(List.mem_replicate.mp (List.mem_of_mem_take m)).2]; exact hc
    · rw [List.mem_singleton.mp m]; exact hd
  · rw [(List.mem_replicate.mp (List.mem_of_mem_drop m)).2]; exact hc
def sp__law_names (K : PySem.W.Frag) : Sp := spDr K (fun m : Int => [.int m]) (fun m => m = 3) (fun m r => ∃ ns : List Str, r = .lst (ns.map D.str) ∧ ns.length = 3 ∧ ∀ z ∈ ns, isName (.str z) = true ∧ fewS (.str z))
theorem ok__law_names (W : Wd K mg) : FnOk P w K mg base CX0 2 W.a__law_names W.d__law_names ["_law_bag_here", "_law_many"] (sp__law_names K) := by
  refine W.F__law_names.ok sc__law_names (fun vs H Q E h => spDr_len (n := 1) (fun _ => rfl) h) (fun cdv A outer s H vs Q E hr h => ?_)
  obtain ⟨S, b, _, m, rfl, ok, sb, bg, hz, hm, k⟩ := h
  obtain rfl : m = 3 := hm
  have st := St.startB ok sb bg hz
  obtain ⟨_, _, rfl, rfl, rfl⟩ := hz
  refine ⟨_, (pss_cons (ps_set (i := 2) sc__law_names.nd rfl (Or.inr rfl) pe_str)
      (pss_cons (ps_set (i := 3) sc__law_names.nd rfl (Or.inl rfl) (pe_op (r := rAddG K) opAdd pe_int (pe_call (ok__law_take W) (hr.mono (by decide)) (by rfl) W.m__law_take W.F__law_take.kp (b__law_take W) .nil pass0 (pa_cons (pv 0) (pa_cons pe_int pa_nil)))))
      (pss_cons (ps_set (i := 4) sc__law_names.nd rfl (Or.inr rfl) (pe_call (ok__law_take W) (hr.mono (by decide)) (by rfl) W.m__law_take W.F__law_take.kp (b__law_take W) .nil pass0 (pa_cons (pv 0) (pa_cons (pv 3) pa_nil))))
      (pss_cons (ps_set (i := 5) sc__law_names.nd rfl (Or.inr rfl) (pe_call (ok__law_take W) (hr.mono (by decide)) (by rfl) W.m__law_take W.F__law_take.kp (b__law_take W) .nil pass0 (pa_cons (pv 0) (pa_cons pe_int pa_nil))))
      (pss_cons (ps_set (i := 6) sc__law_names.nd rfl (Or.inr rfl) (pe_ix (r := rIxG K) ixG (pe_lst (pa_cons pe_int (pa_cons pe_int (pa_cons pe_int pa_nil)))) (pe_call (ok__law_take W) (hr.mono (by decide)) (by rfl) W.m__law_take W.F__law_take.kp (b__law_take W) .nil pass0 (pa_cons (pv 0) (pa_cons pe_int pa_nil))) (fun _ _ => rfl)))
      (pss_cons (ps_set (i := 7) sc__law_names.nd rfl (Or.inr rfl) (pe_op opMul (pe_ix (r := rIxG K) ixG (pv 2) (pe_call (ok__law_take W) (hr.mono (by decide)) (by rfl) W.m__law_take W.F__law_take.kp (b__law_take W) .nil pass0 (pa_cons (pv 0) (pa_cons pe_int pa_nil))) (fun _ _ => rfl)) (pv 3)))
      (pss_cons (ps_setLc (i := 8) (own := [("_law_k", 9)]) rfl sc__law_names.nd rfl rfl (sw_true rfl rfl rfl (by decide +kernel)) (pi_range1 (by rfl) W.n_range (pa_cons (pv 1) pa_nil)) (blkOk_by (N := N__law_names) (sc := defScope s__law_names) (by decide +kernel)) (fun _ _ _ _ _ => (pg_name (i := 9) sc__law_names.nd rfl (.inl rfl))) (fun _ _ _ _ _ => pts_nil) (fun _ _ _ _ _ => (pe_ix (r := rIxG K) ixG (pv 2) (pe_op opMod (pe_op (r := rAddG K) opAdd (pv 5) (pe_op opMul (pv 9) (pv 6))) pe_int) (fun _ _ => rfl))))
      (pss_one (ps_ret (pe_lc (own := [("_law_sign", 10)]) rfl sc__law_names.nd (piG (pv 8)) (blkOk_by (N := N__law_names) (sc := defScope s__law_names) (by decide +kernel)) (fun _ _ _ _ _ => (pg_name (i := 10) sc__law_names.nd rfl (.inl rfl))) (fun _ _ _ _ _ => pts_nil) (fun _ _ _ _ _ => (pe_op (r := rAddG K) opAdd (pe_op (r := rAddG K) opAdd (pe_slice (r := rSlG K) slG (pv 7) po_none (po_some (pv 4))) (pv 10)) (pe_slice (r := rSlG K) slG (pv 7) (po_some (pe_op (r := rAddG K) opAdd (pv 4) pe_int)) po_none))))))))))))), ?_⟩
  rw [show start N__law_names [.ref b, .int 3] = [some (.ref b), some (.int 3), none, none, none, none, none, none, none, none, none] from rfl]
  try dsimp only [cxOf]
  walk_at "g"
  refine c_Dr (8) st (by walk_at "dzl") ⟨by omega, by omega⟩ fun v d H1 ⟨m1, e, m10, m11⟩ st => ?_
  subst e
  obtain rfl := st.eqI (List.Mem.head _)
  obtain ⟨n, hn⟩ : ∃ n : Nat, 1 + m1 = (n : Int) := ⟨(1 + m1).toNat, by omega⟩
  walk_at "g"
  rw [hn]
  walk_at "g"
  refine c_Dr ((n : Int)) st (by walk_at "dzl") ⟨by omega, by omega⟩ fun v d H1 ⟨m2, e, m20, m21⟩ st => ?_
  subst e
  obtain rfl := st.eqI (List.Mem.head _)
  obtain ⟨a, rfl⟩ : ∃ a : Nat, m2 = (a : Int) := ⟨m2.toNat, by omega⟩
  walk_at "g"
  refine c_Dr (26) st (by walk_at "dzl") ⟨by omega, by omega⟩ fun v d H1 ⟨m3, e, m30, m31⟩ st => ?_
  subst e
  obtain rfl := st.eqI (List.Mem.head _)
  walk_at "g"
  refine d_lst st (ds := [.int 1, .int 3, .int 25]) (by walk_at "dzl") (by simp) fun q H1 st => ?_
  walk_at "g"
  refine c_Dr (3) st (by walk_at "dzl") ⟨by omega, by omega⟩ fun v d H1 ⟨m4, e, m40, m41⟩ st => ?_
  subst e
  obtain rfl := st.eqI (List.Mem.head _)
  walk_at "g"
  refine d_ixLP (P := fun d => ∃ y : Int, d = .int y ∧ 0 ≤ y ∧ y ≤ 25) (st.dz (x := .ref q) (by walk_at "mem")) m40 (by simp; omega) (by simp) fun v d ⟨sp, e3, hs1, hs2⟩ hv => ?_
  subst e3
  cases hv
  walk_at "g"
  refine c_Dr (26) st (by walk_at "dzl") ⟨by omega, by omega⟩ fun v d H1 ⟨m5, e, m50, m51⟩ st => ?_
  subst e
  obtain rfl := st.eqI (List.Mem.head _)
  obtain ⟨i5, rfl⟩ : ∃ i : Nat, m5 = (i : Int) := ⟨m5.toNat, by omega⟩
  obtain ⟨c0, hc0, hc1⟩ := abc_at (i := i5) (by omega)
  walk_at "g"
  refine d_ixS abc_size hc0 ?_
  walk_at "g"
  refine v_mulS (n := n) (by show 1 * n ≤ _; omega) (by omega) ?_
  change _
  rw [show (⟨(List.replicate n (⟨#[c0]⟩ : Str).cps).foldl (· ++ ·) #[]⟩ : Str) = stemS n c0 from rfl]
  walk_at "g"
  have st := st.keep0
  refine lc_RI (n := 3) (by decide) (by decide) st (fun i es => ∃ cs : List Nat, es = cs.map (fun c => D.str ⟨#[c]⟩) ∧ cs.length = i ∧ ∀ c ∈ cs, letOk c = true) ⟨[], rfl, rfl, fun x m => by simp at m⟩ ?_ ?_
  · rintro p i x H3 es np hi hl ⟨cs, rfl, hll, hlb⟩ st rfl
    have hi : i < 3 := hi
    walk_at "g"
    refine ⟨rfl, ?_⟩
    walk_at "g"
    refine v_mulL ⟨by omega, by omega⟩ ?_
    walk_at "g"
    refine v_mod (by decide) ?_
    walk_at "g"
    have x0 := Int.emod_nonneg (m3 + ((i : Nat) : Int) * sp) (show (26 : Int) ≠ 0 by decide)
    have x1 := Int.emod_lt_of_pos (m3 + ((i : Nat) : Int) * sp) (show (0 : Int) < 26 by decide)
    obtain ⟨j, hj⟩ : ∃ j : Nat, (m3 + ((i : Nat) : Int) * sp) % 26 = (j : Int) := ⟨_, (Int.toNat_of_nonneg x0).symm⟩
    rw [hj] at x1 ⊢
    obtain ⟨c, hc, hl2⟩ := abc_at (i := j) (by omega)
    refine d_ixS abc_size hc ?_
    refine lc_end st (fun q h => h) (by omega) hl z_str ⟨cs ++ [c], by rw [List.map_append]; rfl, by rw [List.length_append, hll]; rfl, fun x m => ?_⟩
    rcases List.mem_append.mp m with m | m
    · exact hlb x m
    · rw [List.mem_singleton.mp m]; exact hl2
  rintro p H4 es ⟨cs, rfl, hcl, hcs⟩ hl st
  have hcl : cs.length = 3 := hcl
  walk_at "g"
  refine i_lst ?_
  walk_at "g"
  refine lc_L st (ds := cs.map fun c => D.str ⟨#[c]⟩) (by walk_at "mem") (fun i es => ∃ ns : List Str, es = ns.map D.str ∧ ns.length = i ∧ ∀ z ∈ ns, isName (.str z) = true ∧ fewS (.str z)) ⟨[], rfl, rfl, fun x m => by simp at m⟩ ?_ ?_
  · rintro p2 i d x H3 es np hd hi hl ⟨ns, rfl, hll, hlb⟩ st
    rw [List.getElem?_map] at hd
    obtain ⟨c, hc, rfl⟩ := Option.map_eq_some_iff.mp hd
    obtain rfl := st.eqS (x := x) (List.Mem.head _)
    rw [List.length_map] at hi
    walk_at "g"
    refine ⟨rfl, ?_⟩
    have sl : (stemS n c0).length ≤ sizeLine := by
      show (stemS n c0).cps.toList.length ≤ _
      rw [stem_list, List.length_replicate, sizeLine_eq]; omega
    walk_at "g"
    refine d_slS sl ?_
    walk_at "g"
    have l1 : (cutS (stemS n c0) none (some ((a : Nat) : Int))).length ≤ 8 := by
      show (cutS (stemS n c0) none (some ((a : Nat) : Int))).cps.toList.length ≤ 8
      rw [cutS_to, stem_list, List.length_take, List.length_replicate]; omega
    have l2 : (cutS (stemS n c0) (some (((a + 1 : Nat)) : Int)) none).length ≤ 8 := by
      show (cutS (stemS n c0) (some (((a + 1 : Nat)) : Int)) none).cps.toList.length ≤ 8
      rw [cutS_from, stem_list, List.length_drop, List.length_replicate]; omega
    refine v_addS (by rw [sizeLine_eq]; show _ + 1 ≤ _; omega) ?_
    walk_at "g"
    refine d_slS sl ?_
    walk_at "g"
    rw [show ((a : Nat) : Int) + 1 = ((a + 1 : Nat) : Int) by omega]
    refine v_addS (by rw [sizeLine_eq, PySem.strLen_append]; show _ + 1 + _ ≤ _; omega) ?_
    refine lc_end st (fun q h => List.mem_cons_of_mem _ h) (by omega) hl z_str ⟨ns ++ [_], by rw [List.map_append]; rfl, by rw [List.length_append, hll]; rfl, fun x m => ?_⟩
    rcases List.mem_append.mp m with m | m
    · exact hlb x m
    · rw [List.mem_singleton.mp m]; exact name_is (by omega) (by omega) (by omega) hc1 (hcs c (List.mem_of_getElem? hc))
  · rintro p2 H5 es ⟨ns, rfl, hnl, hns⟩ hl st
    rw [List.length_map, hcl] at hnl
    exact k (.ref p2) _ H5 st.endB st.bagB (st.dz (by walk_at "mem")) ⟨ns, rfl, hnl, hns⟩

def sp__law_alike (K : PySem.W.Frag) : Sp := spBl K (fun d : D => [d, d]) D.Ok (fun _ => true)
theorem ok__law_alike (W : Wd K mg) : FnG P w K mg base CX0 1 W.a__law_alike W.d__law_alike ["_law_found", "_law_due"] (sp__law_alike K) := by
  refine okG W.F__law_alike sc__law_alike (fun vs H Q E h => spBl_len (n := 2) (fun _ => rfl) h) (fun cdv A outer s H vs Q E hr hgd h => ?_)
  obtain ⟨S, d, ok, hz, ho, k⟩ := h
  have st := St.start ok hz
  obtain ⟨x, _, rfl, hx, y, _, rfl, hy, rfl⟩ := hz
  refine ⟨_, (pss_one (ps_ret (pe_and (pe_cmpR (r := rEqG K) (opEq hr.units) (pv 0) (pv 1) (nomark _)) (pe_one (pe_cmpR (r := rEqG K) (opEq hr.units) (pe_callB (call_reprD hgd hr.units) (by rfl) W.n_repr (by decide +kernel) (pa_cons (pv 0) pa_nil)) (pe_callB (call_reprD hgd hr.units) (by rfl) W.n_repr (by decide +kernel) (pa_cons (pv 1) pa_nil)) (nomark _)))))), ?_⟩
  rw [show start N__law_alike [x, y] = [some (x), some (y)] from rfl]
  try dsimp only [cxOf]
  walk_at "g"
  refine o_eqT hx hy ho ?_
  walk_at "g"
  refine o_repr hx ho ?_
  walk_at "g"
  refine o_repr hy ho ?_
  walk_at "g"
  rw [decide_eq_true rfl]
  exact k _ st.end_

-- needs: Store___init__
def sp_Store_now (K : PySem.W.Frag) (C C1 C2 : Addr) : Sp := spInt K (fun s : Sq => [.ins C (s.fs C1 C2)]) (fun _ => True) (fun _ => 0)
theorem ok_Store_now (W : Wd K mg) : FnOk P w K mg base CX0 1 W.a_Store_now W.d_Store_now ["self"] (sp_Store_now K W.C_Store W.C_Shelf W.C_Story) := by
  refine W.F_Store_now.ok sc_Store_now (fun vs H Q E h => spInt_len (n := 1) (fun _ => rfl) h) (fun cdv A outer s H vs Q E hr h => ?_)
  obtain ⟨S, sq, ok, hz, ho, k⟩ := h
  have st := St.start ok hz
  obtain ⟨x, _, rfl, hx, rfl⟩ := hz
  obtain ⟨a, rfl⟩ := st.isI (by walk_at "mem")
  refine ⟨_, (pss_one (ps_ret (pe_fld (pe_fld (pv 0) rfl) rfl))), ?_⟩
  rw [show start N_Store_now [.ref a] = [some (.ref a)] from rfl]
  try dsimp only [cxOf]
  walk_at "g"
  refine d_fld (st.dz (by walk_at "mem")) W.cl_Store W.na_Store_shelf rfl fun v0 hv0 => ?_
  obtain ⟨b, _, _, rfl, _, _⟩ := id hv0
  walk_at "g"
  refine d_fld hv0 W.cl_Shelf W.na_Shelf_moment (by with_unfolding_all rfl) fun v hv => ?_
  cases hv; exact k _ st.end_

-- needs: Store___init__
def sp_Store_rooms (K : PySem.W.Frag) (C C1 C2 : Addr) : Sp := spNewL K (fun s : Sq => [.ins C (s.fs C1 C2)]) (fun _ => True) (fun s => s.rooms.map D.int)
theorem ok_Store_rooms (W : Wd K mg) : FnOk P w K mg base CX0 1 W.a_Store_rooms W.d_Store_rooms ["self"] (sp_Store_rooms K W.C_Store W.C_Shelf W.C_Story) := by
  refine W.F_Store_rooms.ok sc_Store_rooms (fun vs H Q E h => spNewL_len (n := 1) (fun _ => rfl) h) (fun cdv A outer s H vs Q E hr h => ?_)
  obtain ⟨S, sq, ok, hz, ho, k⟩ := h
  have st := St.start ok hz
  obtain ⟨x, _, rfl, hx, rfl⟩ := hz
  obtain ⟨a, rfl⟩ := st.isI (by walk_at "mem")
  refine ⟨_, (pss_one (ps_ret (pe_callTy call_listG (by rfl) W.n_list (by decide +kernel) (pa_cons (pe_fld (pe_fld (pv 0) rfl) rfl) pa_nil)))), ?_⟩
  rw [show start N_Store_rooms [.ref a] = [some (.ref a)] from rfl]
  try dsimp only [cxOf]
  walk_at "g"
  refine d_fld (st.dz (by walk_at "mem")) W.cl_Store W.na_Store_shelf rfl fun v0 hv0 => ?_
  obtain ⟨b, _, _, rfl, _, _⟩ := id hv0
  walk_at "g"
  refine d_fld hv0 W.cl_Shelf W.na_Shelf_limits (by with_unfolding_all rfl) fun v hv => ?_
  obtain ⟨b2, _, rfl, _, _⟩ := id hv
  walk_at "g"
  refine d_listTo st hv fun p H1 _ _ st => ?_
  exact st.new k

-- needs: Store___init__
def sp_Store_stirs (K : PySem.W.Frag) (C C1 C2 : Addr) : Sp := spNewL K (fun s : Sq => [.ins C (s.fs C1 C2)]) (fun _ => True) (fun s => s.stirs.map D.int)
theorem ok_Store_stirs (W : Wd K mg) : FnOk P w K mg base CX0 1 W.a_Store_stirs W.d_Store_stirs ["self"] (sp_Store_stirs K W.C_Store W.C_Shelf W.C_Story) := by
  refine W.F_Store_stirs.ok sc_Store_stirs (fun vs H Q E h => spNewL_len (n := 1) (fun _ => rfl) h) (fun cdv A outer s H vs Q E hr h => ?_)
  obtain ⟨S, sq, ok, hz, ho, k⟩ := h
  have st := St.start ok hz
  obtain ⟨x, _, rfl, hx, rfl⟩ := hz
  obtain ⟨a, rfl⟩ := st.isI (by walk_at "mem")
  refine ⟨_, (pss_one (ps_ret (pe_callTy call_listG (by rfl) W.n_list (by decide +kernel) (pa_cons (pe_fld (pe_fld (pv 0) rfl) rfl) pa_nil)))), ?_⟩
  rw [show start N_Store_stirs [.ref a] = [some (.ref a)] from rfl]
  try dsimp only [cxOf]
  walk_at "g"
  refine d_fld (st.dz (by walk_at "mem")) W.cl_Store W.na_Store_shelf rfl fun v0 hv0 => ?_
  obtain ⟨b, _, _, rfl, _, _⟩ := id hv0
  walk_at "g"
  refine d_fld hv0 W.cl_Shelf W.na_Shelf_shifts (by with_unfolding_all rfl) fun v hv => ?_
  obtain ⟨b2, _, rfl, _, _⟩ := id hv
  walk_at "g"
  refine d_listTo st hv fun p H1 _ _ st => ?_
  exact st.new k

-- needs: Store___init__
def sp_Store_grain (K : PySem.W.Frag) (C C1 C2 : Addr) : Sp := spInt K (fun s : Sq => [.ins C (s.fs C1 C2)]) (fun _ => True) (fun s => s.grain)
theorem ok_Store_grain (W : Wd K mg) : FnOk P w K mg base CX0 1 W.a_Store_grain W.d_Store_grain ["self"] (sp_Store_grain K W.C_Store W.C_Shelf W.C_Story) := by
  refine W.F_Store_grain.ok sc_Store_grain (fun vs H Q E h => spInt_len (n := 1) (fun _ => rfl) h) (fun cdv A outer s H vs Q E hr h => ?_)
  obtain ⟨S, sq, ok, hz, ho, k⟩ := h
  have st := St.start ok hz
  obtain ⟨x, _, rfl, hx, rfl⟩ := hz
  obtain ⟨a, rfl⟩ := st.isI (by walk_at "mem")
  refine ⟨_, (pss_one (ps_ret (pe_fld (pe_fld (pv 0) rfl) rfl))), ?_⟩
  rw [show start N_Store_grain [.ref a] = [some (.ref a)] from rfl]
  try dsimp only [cxOf]
  walk_at "g"
  refine d_fld (st.dz (by walk_at "mem")) W.cl_Store W.na_Store_shelf rfl fun v0 hv0 => ?_
  obtain ⟨b, _, _, rfl, _, _⟩ := id hv0
  walk_at "g"
  refine d_fld hv0 W.cl_Shelf W.na_Shelf_per_asking (by with_unfolding_all rfl) fun v hv => ?_
  cases hv; exact k _ st.end_

-- needs: Store___init__
def sp_Store_fade (K : PySem.W.Frag) (C C1 C2 : Addr) : Sp := spInt K (fun s : Sq => [.ins C (s.fs C1 C2)]) (fun _ => True) (fun s => s.fade)
theorem ok_Store_fade (W : Wd K mg) : FnOk P w K mg base CX0 1 W.a_Store_fade W.d_Store_fade ["self"] (sp_Store_fade K W.C_Store W.C_Shelf W.C_Story) := by
  refine W.F_Store_fade.ok sc_Store_fade (fun vs H Q E h => spInt_len (n := 1) (fun _ => rfl) h) (fun cdv A outer s H vs Q E hr h => ?_)
  obtain ⟨S, sq, ok, hz, ho, k⟩ := h
  have st := St.start ok hz
  obtain ⟨x, _, rfl, hx, rfl⟩ := hz
  obtain ⟨a, rfl⟩ := st.isI (by walk_at "mem")
  refine ⟨_, (pss_one (ps_ret (pe_fld (pe_fld (pv 0) rfl) rfl))), ?_⟩
  rw [show start N_Store_fade [.ref a] = [some (.ref a)] from rfl]
  try dsimp only [cxOf]
  walk_at "g"
  refine d_fld (st.dz (by walk_at "mem")) W.cl_Store W.na_Store_shelf rfl fun v0 hv0 => ?_
  obtain ⟨b, _, _, rfl, _, _⟩ := id hv0
  walk_at "g"
  refine d_fld hv0 W.cl_Shelf W.na_Shelf_per_turn (by with_unfolding_all rfl) fun v hv => ?_
  cases hv; exact k _ st.end_

-- needs: Store___init__
def sp_Store_there (K : PySem.W.Frag) (C C1 C2 : Addr) : Sp := spNewL K (fun s : Sq => [.ins C (s.fs C1 C2)]) (fun _ => True) (fun _ => [])
theorem ok_Store_there (W : Wd K mg) : FnOk P w K mg base CX0 1 W.a_Store_there W.d_Store_there ["self"] (sp_Store_there K W.C_Store W.C_Shelf W.C_Story) := by
  refine W.F_Store_there.ok sc_Store_there (fun vs H Q E h => spNewL_len (n := 1) (fun _ => rfl) h) (fun cdv A outer s H vs Q E hr h => ?_)
  obtain ⟨S, sq, ok, hz, ho, k⟩ := h
  have st := St.start ok hz
  obtain ⟨x, _, rfl, hx, rfl⟩ := hz
  obtain ⟨a, rfl⟩ := st.isI (by walk_at "mem")
  refine ⟨_, (pss_one (ps_ret (pe_callB (cr_sortedE rfl) (by rfl) W.n_sorted (by decide +kernel) (pa_cons (pe_fld (pe_fld (pv 0) rfl) rfl) pa_nil)))), ?_⟩
  rw [show start N_Store_there [.ref a] = [some (.ref a)] from rfl]
  try dsimp only [cxOf]
  walk_at "g"
  refine d_fld (st.dz (by walk_at "mem")) W.cl_Store W.na_Store_shelf rfl fun v0 hv0 => ?_
  obtain ⟨b, _, _, rfl, _, _⟩ := id hv0
  walk_at "g"
  refine d_fld hv0 W.cl_Shelf W.na_Shelf_things (by with_unfolding_all rfl) fun v hv => ?_
  obtain ⟨b2, rfl, _, _⟩ := id hv
  walk_at "g"
  refine d_sortedEo st hv fun p H1 _ st => ?_
  exact st.new k

-- needs: Shelf___init__
def sp_Shelf_in_room (K : PySem.W.Frag) (C1 C2 : Addr) : Sp := spV K (fun p : Sq × Int => [p.1.shelfD C1 C2, .int p.2]) (fun _ => True) (fun _ => .lst [])
theorem ok_Shelf_in_room (W : Wd K mg) : FnOk P w K mg base CX0 1 W.a_Shelf_in_room W.d_Shelf_in_room ["self", "room"] (sp_Shelf_in_room K W.C_Shelf W.C_Story) := by
  refine W.F_Shelf_in_room.ok sc_Shelf_in_room (fun vs H Q E h => spV_len (n := 2) (fun _ => rfl) h) (fun cdv A outer s H vs Q E hr h => ?_)
  obtain ⟨S, ⟨sq, y⟩, ok, hz, ho, k⟩ := h
  have st := St.start ok hz
  obtain ⟨x, _, rfl, hx, _, _, rfl, rfl, rfl⟩ := hz
  obtain ⟨a, rfl⟩ := st.isI (x := x) (by walk_at "mem")
  refine ⟨_, (pss_one (ps_ret (pe_lock (pe_lc (own := [("thing", 2)]) rfl sc_Shelf_in_room.nd (pi_values (pe_fld (pv 0) rfl)) (blkOk_by (N := N_Shelf_in_room) (sc := defScope s_Shelf_in_room) (by decide +kernel)) (fun _ _ _ _ _ => (pg_name (i := 2) sc_Shelf_in_room.nd rfl (.inl rfl))) (fun _ _ _ _ _ => (pts_one (pt_cmpR (r := rEqG K) (opEq hr.units) (pe_fldK (K := K) (pv 2) rfl) (pv 1) (nomark _)))) (fun _ _ _ _ _ => (pv 2)))))), ?_⟩
  rw [show start N_Shelf_in_room [.ref a, .int y] = [some (.ref a), some (.int y), none] from rfl]
  try dsimp only [cxOf]
  walk_at "g"
  obtain ⟨_, dx, gs, e, _, hi, hg⟩ := st.dz (x := .ref a) (d := sq.shelfD W.C_Shelf W.C_Story) (by walk_at "mem")
  cases e
  obtain ⟨v, hv, hd⟩ := hg.get (n := "things") (d := .dic []) (by with_unfolding_all rfl)
  obtain ⟨b, rfl, _, hb⟩ := hd
  have nab : a ≠ b := fun z => by rw [z, hb] at hi; cases hi
  refine g_vals0 hb (fun od R r => ?_) fun p n => ?_
  · walk_at "g"
    exact ⟨a, W.C_Shelf, dx, gs, .ref b, rfl, by rw [upd_ne nab]; exact hi, W.cl_Shelf, W.na_Shelf_things, hv, r⟩
  · have st := st.lst n (ds := []) (xs := []) zl_nil
    exact k _ _ st.end_ (st.dz (x := .ref p) (List.Mem.head _))

-- needs: Shelf___init__
-- needs: Shelf_in_room
def sp_Shelf_sum_in (K : PySem.W.Frag) (C1 C2 : Addr) : Sp := spInt K (fun p : Sq × Int => [p.1.shelfD C1 C2, .int p.2]) (fun _ => True) (fun _ => 0)
theorem ok_Shelf_sum_in (W : Wd K mg) : FnOk P w K mg base CX0 2 W.a_Shelf_sum_in W.d_Shelf_sum_in ["self", "room"] (sp_Shelf_sum_in K W.C_Shelf W.C_Story) := by
  refine W.F_Shelf_sum_in.ok sc_Shelf_sum_in (fun vs H Q E h => spInt_len (n := 2) (fun _ => rfl) h) (fun cdv A outer s H vs Q E hr h => ?_)
  obtain ⟨S, ⟨sq, y⟩, ok, hz, ho, k⟩ := h
  have st := St.start ok hz
  obtain ⟨x, _, rfl, hx, _, _, rfl, rfl, rfl⟩ := hz
  obtain ⟨a, rfl⟩ := st.isI (x := x) (by walk_at "mem")
  refine ⟨_, (pss_one (ps_ret (pe_callB (cr_sum rfl) (by rfl) W.n_sum (by decide +kernel) (pa_cons (pe_lc (own := [("thing", 2)]) rfl sc_Shelf_sum_in.nd (piG (pe_meth (pv 0) W.cl_Shelf W.M_Shelf_in_room (ok_Shelf_in_room W) (hr.mono (by decide)) (b_Shelf_in_room W) .nil pass0 (pa_cons (pv 1) pa_nil))) (blkOk_by (N := N_Shelf_sum_in) (sc := defScope s_Shelf_sum_in) (by decide +kernel)) (fun _ _ _ _ _ => (pg_name (i := 2) sc_Shelf_sum_in.nd rfl (.inl rfl))) (fun _ _ _ _ _ => pts_nil) (fun _ _ _ _ _ => (pe_fldK (K := K) (pv 2) rfl))) pa_nil)))), ?_⟩
  rw [show start N_Shelf_sum_in [.ref a, .int y] = [some (.ref a), some (.int y), none] from rfl]
  try dsimp only [cxOf]
  walk_at "g"
  refine i_lst ?_
  walk_at "g"
  refine d_meth (fs := sq.shelf W.C_Story) (st.dz (x := .ref a) (by walk_at "mem")) (by with_unfolding_all rfl) ?_
  walk_at "g"
  refine c_V (sq, y) st (zl_cons (st.dz (x := .ref a) (by walk_at "mem")) (zl_cons z_int zl_nil)) trivial fun v H1 st => ?_
  obtain ⟨b, rfl⟩ := st.isL (x := v) (List.Mem.head _)
  walk_at "g"
  refine lc_L st (ds := []) (by walk_at "mem") (fun i es => es = []) rfl ?_ ?_
  · rintro p i d x H1 es np hd hi hl pe st
    exact absurd hi (Nat.not_lt_zero _)
  · rintro p H1 es pe hl st
    subst pe
    walk_at "g"
    refine d_sumZ (ns := []) (st.dz (x := .ref p) (List.Mem.head _)) ?_
    exact k _ st.end_

-- needs: Store___init__
-- needs: Shelf_sum_in
def sp_Store_total (K : PySem.W.Frag) (C C1 C2 : Addr) : Sp := spInt K (fun p : Sq × Int => [.ins C (p.1.fs C1 C2), .int p.2]) (fun p => 0 ≤ p.2 ∧ p.2 < (p.1.rooms.length : Nat) ∧ p.1.rooms.length ≤ 4) (fun _ => 0)
theorem ok_Store_total (W : Wd K mg) : FnOk P w K mg base CX0 4 W.a_Store_total W.d_Store_total ["self", "room"] (sp_Store_total K W.C_Store W.C_Shelf W.C_Story) := by
  refine W.F_Store_total.ok sc_Store_total (fun vs H Q E h => spInt_len (n := 2) (fun _ => rfl) h) (fun cdv A outer s H vs Q E hr h => ?_)
  obtain ⟨S, ⟨sq, y⟩, ok, hz, ho, k⟩ := h
  have st := St.start ok hz
  obtain ⟨x, _, rfl, hx, _, _, rfl, rfl, rfl⟩ := hz
  obtain ⟨a, rfl⟩ := st.isI (x := x) (by walk_at "mem")
  refine ⟨_, (pss_cons (ps_expr (pe_call (ok_refuse_wrong W) (hr.mono (by decide)) (by rfl) W.m_refuse_wrong W.F_refuse_wrong.kp (b_refuse_wrong W) .nil pass0 (pa_cons (pe_lst (pa_cons (pe_call (ok_is_within W) (hr.mono (by decide)) (by rfl) W.m_is_within W.F_is_within.kp (b_is_within W) .nil pass0 (pa_cons (pv 1) (pa_cons pe_int (pa_cons (pe_op opSub (pe_callB (r := rLenG K) call_lenG (by rfl) W.n_len PySem.boot_len (pa_cons (pe_fld (pe_fld (pv 0) rfl) rfl) pa_nil)) pe_int) pa_nil)))) pa_nil)) pa_nil)))
      (pss_one (ps_ret (pe_meth (pe_fld (pv 0) rfl) W.cl_Shelf W.M_Shelf_sum_in (ok_Shelf_sum_in W) (hr.mono (by decide)) (b_Shelf_sum_in W) .nil pass0 (pa_cons (pv 1) pa_nil))))), ?_⟩
  rw [show start N_Store_total [.ref a, .int y] = [some (.ref a), some (.int y)] from rfl]
  try dsimp only [cxOf]
  walk_at "g"
  refine d_fld (st.dz (x := .ref a) (by walk_at "mem")) W.cl_Store W.na_Store_shelf rfl fun v0 hv0 => ?_
  obtain ⟨b, _, _, rfl, _, _⟩ := id hv0
  walk_at "g"
  refine d_fld hv0 W.cl_Shelf W.na_Shelf_limits (by with_unfolding_all rfl) fun v hv => ?_
  obtain ⟨b2, _, rfl, _, _⟩ := id hv
  walk_at "g"
  refine d_lenT hv ?_
  rw [List.length_map]
  walk_at "g"
  have ho : 0 ≤ y ∧ y < (sq.rooms.length : Nat) ∧ sq.rooms.length ≤ 4 := ho
  refine c_Bl (.int y, 0, (sq.rooms.length : Nat) - 1) st (zl_cons z_int (zl_cons z_int (zl_cons z_int zl_nil))) rfl fun H1 st => ?_
  rw [show isWithin (.int y) 0 ((sq.rooms.length : Nat) - 1) = true from decide_eq_true (by omega)]
  walk_at "g"
  refine d_lst st (ds := [.bl true]) (by walk_at "dzl") (by simp) fun p H1 st => ?_
  walk_at "g"
  refine c_Unit 1 st (zl_cons (show Dz K S H1 (.lst (List.replicate 1 (D.bl true))) _ from st.dz (by walk_at "mem")) zl_nil) trivial fun H1 st => ?_
  walk_at "g"
  refine d_fld (st.dz (x := .ref a) (by walk_at "mem")) W.cl_Store W.na_Store_shelf rfl fun v0 hv0 => ?_
  obtain ⟨b, _, _, rfl, _, _⟩ := id hv0
  have st := st.add hv0
  walk_at "g"
  refine d_meth (fs := sq.shelf W.C_Story) (st.dz (x := .ref b) (by walk_at "mem")) (by with_unfolding_all rfl) ?_
  walk_at "g"
  refine c_Int (sq, y) st (zl_cons (st.dz (x := .ref b) (by walk_at "mem")) (zl_cons z_int zl_nil)) trivial fun H1 st => ?_
  exact k _ st.end_

def sp_is_name (K : PySem.W.Frag) : Sp := spBl K (fun d : D => [d]) fewS isName
theorem ok_is_name (W : Wd K mg) : FnOk P w K mg base CX0 1 W.a_is_name W.d_is_name ["thing"] (sp_is_name K) := by
  refine W.F_is_name.ok sc_is_name (fun vs H Q E h => spBl_len (n := 1) (fun _ => rfl) h) (fun cdv A outer s H vs Q E hr h => ?_)
  obtain ⟨S, d, ok, hz, ⟨hd, few⟩, k⟩ := h
  have st := St.start ok hz
  have k : ∀ b H', Same H H' → b = isName d → Q (.bl b) H' := fun b H' e eb => by rw [eb]; exact k H' e
  obtain ⟨x, _, rfl, hx, rfl⟩ := hz
  refine ⟨_, (pss_cons (ps_if (PW.pt (pw_or (pt_not (pt_val (pe_callB (r := rIsiG K) call_isiG (by rfl) W.n_isinstance (by decide +kernel) (pa_cons (pv 0) (pa_cons (pe_bltn (v := .ty "str") (by rfl) W.n_str (by decide +kernel) rfl) pa_nil))))) (pw_or1 (pt_not (pt_chain opLe opLe pe_int (pe_callB (r := rLenG K) call_lenG (by rfl) W.n_len PySem.boot_len (pa_cons (pv 0) pa_nil)) (pe_glob (v := V.int 8) rfl W.c_MOST_LETTERS ⟨_, rfl⟩)))))) (pss_one (ps_ret pe_bl)) pss_nil)
      (pss_one (ps_ret (pe_callB (cr_all rfl) (by rfl) W.n_all (by decide +kernel) (pa_cons (pe_lc (own := [("sign", 1)]) rfl sc_is_name.nd (piG (pv 0)) (blkOk_by (N := N_is_name) (sc := defScope s_is_name) (by decide +kernel)) (fun _ _ _ _ _ => (pg_name (i := 1) sc_is_name.nd rfl (.inl rfl))) (fun _ _ _ _ _ => pts_nil) (fun _ _ _ _ _ => (pe_cmpR (r := rInG K) opIn (pv 1) (pe_glob (v := V.str "abcdefghijklmnopqrstuvwxyz") rfl W.c_LETTERS ⟨_, rfl⟩) (by rfl)))) pa_nil))))), ?_⟩
  rw [show start N_is_name [x] = [some (x), none] from rfl]
  try dsimp only [cxOf]
  walk_at "g"
  refine d_isi hx hd (q := ?_)
  walk_at "g"
  refine g_ite (fun hb => ?_) (fun hb => ?_)
  · walk_at "g"
    refine k _ _ st.end_ ?_
    cases d <;> first | rfl | (cases hb; done)
  · cases d with
    | str z =>
      obtain rfl : x = .str z := hx
      obtain ⟨few, _⟩ := few z rfl
      have zl : z.length = z.cps.size := rfl
      walk_at "g"
      refine d_lenS (Nat.le_trans few (by decide)) ?_
      walk_at "g"
      refine g_dec (fun h1 => ?_) (fun h1 => ?_)
      · walk_at "g"
        by_cases h2 : ((z.length : Nat) : Int) ≤ 8
        · rw [decide_eq_true h2]
          walk_at "g"
          refine i_str ?_
          walk_at "g"
          refine lc_S st (fun i es => es = (z.cps.toList.take i).map fun c => D.bl (letOk c)) (by simp) ?_ ?_
          · rintro p i c x H1 es np hc hi hl pe st rfl
            walk_at "g"
            refine ⟨rfl, ?_⟩
            walk_at "g"
            rw [let_in]
            refine lc_end st (fun q h => h) (by omega) hl z_bl ?_
            rw [pe, take_snoc (by rw [Array.getElem?_toList]; exact hc), List.map_append]
            rfl
          · rintro p H1 es pe hl st
            have e2 : es = (z.cps.toList.map letOk).map D.bl := by rw [pe, List.take_of_length_le (by simp), List.map_map]; rfl
            subst e2
            walk_at "g"
            refine d_all (st.dz (by walk_at "mem")) ?_
            refine k _ _ st.end_ ?_
            show _ = ((decide (1 ≤ z.cps.size) && decide (z.cps.size ≤ 8)) && z.cps.toList.all letOk)
            rw [decide_eq_true (by omega : 1 ≤ z.cps.size), decide_eq_true (by omega : z.cps.size ≤ 8), List.all_map]
            rfl
        · rw [decide_eq_false h2]
          walk_at "g"
          refine k _ _ st.end_ ?_
          show _ = ((decide (1 ≤ z.cps.size) && decide (z.cps.size ≤ 8)) && z.cps.toList.all letOk)
          rw [decide_eq_false (by omega : ¬ z.cps.size ≤ 8), Bool.and_false]
          rfl
      · walk_at "g"
        refine k _ _ st.end_ ?_
        show _ = ((decide (1 ≤ z.cps.size) && decide (z.cps.size ≤ 8)) && z.cps.toList.all letOk)
        rw [decide_eq_false (by omega : ¬ 1 ≤ z.cps.size)]
        rfl
    | _ => cases hb

-- needs: Shelf___init__
def sp_Shelf_trace_of (K : PySem.W.Frag) (C1 C2 : Addr) : Sp := spInt K (fun p : Sq × Str => [p.1.shelfD C1 C2, .str p.2]) (fun _ => True) (fun _ => 0)
theorem ok_Shelf_trace_of (W : Wd K mg) : FnOk P w K mg base CX0 1 W.a_Shelf_trace_of W.d_Shelf_trace_of ["self", "name"] (sp_Shelf_trace_of K W.C_Shelf W.C_Story) := by
  refine W.F_Shelf_trace_of.ok sc_Shelf_trace_of (fun vs H Q E h => spInt_len (n := 2) (fun _ => rfl) h) (fun cdv A outer s H vs Q E hr h => ?_)
  obtain ⟨S, ⟨sq, y⟩, ok, hz, ho, k⟩ := h
  have st := St.start ok hz
  obtain ⟨x, _, rfl, hx, _, _, rfl, rfl, rfl⟩ := hz
  obtain ⟨a, rfl⟩ := st.isI (x := x) (by walk_at "mem")
  refine ⟨_, (pss_cons (ps_asg (pe_dget2 (Nat.lt_of_le_of_lt (Nat.add_le_add_left (by decide) _) hr.units) (pe_fld (pv 0) rfl) (pv 1) (pe_tup (pa_cons pe_int (pa_cons (pe_fld (pv 0) rfl) pa_nil))) (by exact ⟨rfl, rfl, rfl, rfl⟩)) (pg_tup (by rfl) (pgs_cons (pg_name (i := 2) sc_Shelf_trace_of.nd rfl (.inl rfl)) (pgs_cons (pg_name (i := 3) sc_Shelf_trace_of.nd rfl (.inl rfl)) pgs_nil))))
      (pss_one (ps_ret (pe_callB (call_max2 rfl) (by rfl) W.n_max (by decide +kernel) (pa_cons pe_int (pa_cons (pe_op opSub (pv 2) (pe_op opMul (pe_fld (pv 0) rfl) (pe_op opSub (pe_fld (pv 0) rfl) (pv 3)))) pa_nil)))))), ?_⟩
  rw [show start N_Shelf_trace_of [.ref a, .str y] = [some (.ref a), some (.str y), none, none] from rfl]
  try dsimp only [cxOf]
  walk_at "g"
  refine g_dget2 ?_
  walk_at "g"
  refine d_fld (st.dz (by walk_at "mem")) W.cl_Shelf W.na_Shelf_traces (by with_unfolding_all rfl) fun v hv => ?_
  refine d_isD hv fun b eb => ?_
  subst eb
  have st := st.add hv
  walk_at "g"
  refine d_fld (st.dz (by walk_at "mem")) W.cl_Shelf W.na_Shelf_moment (by with_unfolding_all rfl) fun v hv => ?_
  cases hv
  walk_at "g"
  refine d_tup st (ds := [.int 0, .int 0]) (by walk_at "dzl") (by simp) fun p H1 st => ?_
  refine d_get0 (R := fun v => gTup K _ _ v _ H1 _) (st.dz (x := .ref b) (by walk_at "mem")) ?_
  walk_at "g"
  refine d_gT (st.dz (x := .ref p) (List.Mem.head _)) rfl fun xs hxs => ?_
  obtain ⟨_, _, rfl, rfl, _, _, rfl, rfl, rfl⟩ := hxs
  walk_at "g"
  refine d_fld (st.dz (by walk_at "mem")) W.cl_Shelf W.na_Shelf_per_turn (by with_unfolding_all rfl) fun v hv => ?_
  cases hv
  walk_at "g"
  refine d_fld (st.dz (by walk_at "mem")) W.cl_Shelf W.na_Shelf_moment (by with_unfolding_all rfl) fun v hv => ?_
  cases hv
  walk_at "g"
  refine v_mulR (by decide) ?_
  walk_at "g"
  try refine v_max ?_
  rw [show (if (0 : Int) - sq.fade * (0 - 0) > 0 then (0 : Int) - sq.fade * (0 - 0) else 0) = 0 by simp]
  exact k _ st.end_

-- needs: Store___init__
-- needs: Shelf_trace_of
def sp_Store_trace (K : PySem.W.Frag) (C C1 C2 : Addr) : Sp := spInt K (fun p : Sq × Str => [.ins C (p.1.fs C1 C2), .str p.2]) (fun p => isName (.str p.2) = true ∧ fewS (.str p.2)) (fun _ => 0)
theorem ok_Store_trace (W : Wd K mg) : FnOk P w K mg base CX0 4 W.a_Store_trace W.d_Store_trace ["self", "name"] (sp_Store_trace K W.C_Store W.C_Shelf W.C_Story) := by
  refine W.F_Store_trace.ok sc_Store_trace (fun vs H Q E h => spInt_len (n := 2) (fun _ => rfl) h) (fun cdv A outer s H vs Q E hr h => ?_)
  obtain ⟨S, ⟨sq, y⟩, ok, hz, ho, k⟩ := h
  have st := St.start ok hz
  obtain ⟨x, _, rfl, hx, _, _, rfl, rfl, rfl⟩ := hz
  obtain ⟨a, rfl⟩ := st.isI (x := x) (by walk_at "mem")
  refine ⟨_, (pss_cons (ps_expr (pe_call (ok_refuse_wrong W) (hr.mono (by decide)) (by rfl) W.m_refuse_wrong W.F_refuse_wrong.kp (b_refuse_wrong W) .nil pass0 (pa_cons (pe_lst (pa_cons (pe_call (ok_is_name W) (hr.mono (by decide)) (by rfl) W.m_is_name W.F_is_name.kp (b_is_name W) .nil pass0 (pa_cons (pv 1) pa_nil)) pa_nil)) pa_nil)))
      (pss_one (ps_ret (pe_meth (pe_fld (pv 0) rfl) W.cl_Shelf W.M_Shelf_trace_of (ok_Shelf_trace_of W) (hr.mono (by decide)) (b_Shelf_trace_of W) .nil pass0 (pa_cons (pv 1) pa_nil))))), ?_⟩
  rw [show start N_Store_trace [.ref a, .str y] = [some (.ref a), some (.str y)] from rfl]
  try dsimp only [cxOf]
  walk_at "g"
  have ho : isName (.str y) = true ∧ fewS (.str y) := ho
  refine c_Bl (.str y) st (zl_cons z_str zl_nil) ho.2 fun H1 st => ?_
  rw [ho.1]
  walk_at "g"
  refine d_lst st (ds := [.bl true]) (by walk_at "dzl") (by simp) fun p H1 st => ?_
  walk_at "g"
  refine c_Unit 1 st (zl_cons (show Dz K S H1 (.lst (List.replicate 1 (D.bl true))) _ from st.dz (by walk_at "mem")) zl_nil) trivial fun H1 st => ?_
  walk_at "g"
  refine d_fld (st.dz (x := .ref a) (by walk_at "mem")) W.cl_Store W.na_Store_shelf rfl fun v0 hv0 => ?_
  obtain ⟨b, _, _, rfl, _, _⟩ := id hv0
  have st := st.add hv0
  walk_at "g"
  refine d_meth (fs := sq.shelf W.C_Story) (st.dz (x := .ref b) (by walk_at "mem")) (by with_unfolding_all rfl) ?_
  walk_at "g"
  refine c_Int (sq, y) st (zl_cons (st.dz (x := .ref b) (by walk_at "mem")) (zl_cons z_str zl_nil)) trivial fun H1 st => ?_
  exact k _ st.end_

-- needs: Store___init__
def sp_Store_askers (K : PySem.W.Frag) (C C1 C2 : Addr) : Sp := spNewL K (fun s : Sq => [.ins C (s.fs C1 C2)]) (fun _ => True) (fun _ => [])
theorem ok_Store_askers (W : Wd K mg) : FnOk P w K mg base CX0 1 W.a_Store_askers W.d_Store_askers ["self"] (sp_Store_askers K W.C_Store W.C_Shelf W.C_Story) := by
  refine W.F_Store_askers.ok sc_Store_askers (fun vs H Q E h => spNewL_len (n := 1) (fun _ => rfl) h) (fun cdv A outer s H vs Q E hr h => ?_)
  obtain ⟨S, sq, ok, hz, ho, k⟩ := h
  have st := St.start ok hz
  obtain ⟨x, _, rfl, hx, rfl⟩ := hz
  obtain ⟨a, rfl⟩ := st.isI (by walk_at "mem")
  refine ⟨_, (pss_one (ps_ret (pe_callTy call_listG (by rfl) W.n_list (by decide +kernel) (pa_cons (pe_fld (pe_fld (pv 0) rfl) rfl) pa_nil)))), ?_⟩
  rw [show start N_Store_askers [.ref a] = [some (.ref a)] from rfl]
  try dsimp only [cxOf]
  walk_at "g"
  refine d_fld (st.dz (by walk_at "mem")) W.cl_Store W.na_Store_shelf rfl fun v0 hv0 => ?_
  obtain ⟨b, _, _, rfl, _, _⟩ := id hv0
  walk_at "g"
  refine d_fld hv0 W.cl_Shelf W.na_Shelf_plans (by with_unfolding_all rfl) fun v hv => ?_
  obtain ⟨b2, _, rfl, _, _⟩ := id hv
  walk_at "g"
  refine d_listLo st hv fun p H1 _ _ st => ?_
  exact st.new k

-- needs: Store___init__
def sp_Store_mender (K : PySem.W.Frag) (C C1 C2 : Addr) : Sp := spUnit K (fun s : Sq => [.ins C (s.fs C1 C2)]) (fun _ => True)
theorem ok_Store_mender (W : Wd K mg) : FnOk P w K mg base CX0 1 W.a_Store_mender W.d_Store_mender ["self"] (sp_Store_mender K W.C_Store W.C_Shelf W.C_Story) := by
  refine W.F_Store_mender.ok sc_Store_mender (fun vs H Q E h => spUnit_len (n := 1) (fun _ => rfl) h) (fun cdv A outer s H vs Q E hr h => ?_)
  obtain ⟨S, sq, ok, hz, ho, k⟩ := h
  have st := St.start ok hz
  obtain ⟨x, _, rfl, hx, rfl⟩ := hz
  obtain ⟨a, rfl⟩ := st.isI (by walk_at "mem")
  refine ⟨_, (pss_one (ps_ret (pe_fld (pe_fld (pv 0) rfl) rfl))), ?_⟩
  rw [show start N_Store_mender [.ref a] = [some (.ref a)] from rfl]
  try dsimp only [cxOf]
  walk_at "g"
  refine d_fld (st.dz (by walk_at "mem")) W.cl_Store W.na_Store_shelf rfl fun v0 hv0 => ?_
  obtain ⟨b, _, _, rfl, _, _⟩ := id hv0
  walk_at "g"
  refine d_fld hv0 W.cl_Shelf W.na_Shelf_mark (by with_unfolding_all rfl) fun v hv => ?_
  cases hv; exact k _ st.end_

def sp_is_moment (K : PySem.W.Frag) : Sp := spBl K (fun d : D => [d]) (fun d => d.noIns = true) (fun d => isWithin d 0 (10 ^ 30))
theorem ok_is_moment (W : Wd K mg) : FnOk P w K mg base CX0 3 W.a_is_moment W.d_is_moment ["thing"] (sp_is_moment K) := by
  refine W.F_is_moment.ok sc_is_moment (fun vs H Q E h => spBl_len (n := 1) (fun _ => rfl) h) (fun cdv A outer s H vs Q E hr h => ?_)
  obtain ⟨S, d, ok, hz, hp, k⟩ := h
  have st := St.start ok hz
  obtain ⟨x, _, rfl, hx, rfl⟩ := hz
  refine ⟨_, (pss_one (ps_ret (pe_call (ok_is_within W) (hr.mono (by decide)) (by rfl) W.m_is_within W.F_is_within.kp (b_is_within W) .nil pass0 (pa_cons (pv 0) (pa_cons pe_int (pa_cons (pe_glob (v := V.int 1000000000000000000000000000000) rfl W.c_MOST_MOMENT ⟨_, rfl⟩) pa_nil)))))), ?_⟩
  rw [show start N_is_moment [x] = [some (x)] from rfl]
  try dsimp only [cxOf]
  walk_at "g"
  refine c_Bl (d, 0, 10 ^ 30) st (zl_cons hx (zl_cons z_int (zl_cons (z_int' (by dsimp only; decide)) zl_nil))) hp fun H1 st => ?_
  exact k _ st.end_

def sp_is_strength (K : PySem.W.Frag) : Sp := spBl K (fun d : D => [d]) (fun d => d.noIns = true) (fun d => isWithin d 1 (10 ^ 9))
theorem ok_is_strength (W : Wd K mg) : FnOk P w K mg base CX0 3 W.a_is_strength W.d_is_strength ["thing"] (sp_is_strength K) := by
  refine W.F_is_strength.ok sc_is_strength (fun vs H Q E h => spBl_len (n := 1) (fun _ => rfl) h) (fun cdv A outer s H vs Q E hr h => ?_)
  obtain ⟨S, d, ok, hz, hp, k⟩ := h
  have st := St.start ok hz
  obtain ⟨x, _, rfl, hx, rfl⟩ := hz
  refine ⟨_, (pss_one (ps_ret (pe_call (ok_is_within W) (hr.mono (by decide)) (by rfl) W.m_is_within W.F_is_within.kp (b_is_within W) .nil pass0 (pa_cons (pv 0) (pa_cons pe_int (pa_cons (pe_glob (v := V.int 1000000000) rfl W.c_BILLION ⟨_, rfl⟩) pa_nil)))))), ?_⟩
  rw [show start N_is_strength [x] = [some (x)] from rfl]
  try dsimp only [cxOf]
  walk_at "g"
  refine c_Bl (d, 1, 10 ^ 9) st (zl_cons hx (zl_cons z_int (zl_cons (z_int' (by dsimp only; decide)) zl_nil))) hp fun H1 st => ?_
  exact k _ st.end_

/-- what may be asked: no instance, none in a pair -/
structure PreStep (d : D) : Prop where
  no : d.noIns = true
  pair : ∀ a b, d = .tup [a, b] → a.noIns = true ∧ b.noIns = true
def sp_is_step (K : PySem.W.Frag) : Sp := spBl K (fun d : D => [d]) PreStep isStep
theorem ok_is_step (W : Wd K mg) : FnOk P w K mg base CX0 4 W.a_is_step W.d_is_step ["thing"] (sp_is_step K) := by
  refine W.F_is_step.ok sc_is_step (fun vs H Q E h => spBl_len (n := 1) (fun _ => rfl) h) (fun cdv A outer s H vs Q E hr h => ?_)
  obtain ⟨S, d, ok, hz, hp, k⟩ := h
  have st := St.start ok hz
  obtain ⟨x, _, rfl, hx, rfl⟩ := hz
  have fin : ∀ b H', Same H H' → b = isStep d → Q (.bl b) H' := fun b H' e eb => by rw [eb]; exact k H' e
  refine ⟨_, (pss_cons (ps_if (PW.pt (pw_or (pt_not (pt_val (pe_callB (r := rIsiG K) call_isiG (by rfl) W.n_isinstance (by decide +kernel) (pa_cons (pv 0) (pa_cons (pe_bltn (v := .ty "tuple") (by rfl) W.n_tuple (by decide +kernel) rfl) pa_nil))))) (pw_or1 (pt_cmpR (r := rNeG K) (opNe hr.units) (pe_callB (r := rLenG K) call_lenG (by rfl) W.n_len PySem.boot_len (pa_cons (pv 0) pa_nil)) pe_int (nomark _))))) (pss_one (ps_ret pe_bl)) pss_nil)
      (pss_cons (ps_asg (pv 0) (pg_tup (by rfl) (pgs_cons (pg_name (i := 1) sc_is_step.nd rfl (.inl rfl)) (pgs_cons (pg_name (i := 2) sc_is_step.nd rfl (.inl rfl)) pgs_nil))))
      (pss_one (ps_ret (pe_and (pe_call (ok_is_within W) (hr.mono (by decide)) (by rfl) W.m_is_within W.F_is_within.kp (b_is_within W) .nil pass0 (pa_cons (pv 1) (pa_cons pe_int (pa_cons (pe_glob (v := V.int 9) rfl W.c_MOST_BY ⟨_, rfl⟩) pa_nil)))) (pe_one (pe_call (ok_is_size W) (hr.mono (by decide)) (by rfl) W.m_is_size W.F_is_size.kp (b_is_size W) .nil pass0 (pa_cons (pv 2) pa_nil)))))))), ?_⟩
  rw [show start N_is_step [x] = [some (x), none, none] from rfl]
  try dsimp only [cxOf]
  walk_at "g"
  refine d_isi hx hp.no (q := ?_)
  walk_at "g"
  refine g_ite (fun hb => ?_) (fun hb => ?_)
  · walk_at "g"
    refine fin _ _ st.end_ ?_
    cases d <;> first | rfl | (simp [isT, D.tn] at hb; done)
  · cases d with
    | tup ds =>
      obtain ⟨a, rfl⟩ := st.isT (by walk_at "mem")
      walk_at "g"
      refine d_lenT (st.dz (by walk_at "mem")) ?_
      walk_at "g"
      refine g_decN (fun h2 => ?_) (fun h2 => ?_)
      · walk_at "g"
        refine fin _ _ st.end_ ?_
        match ds, h2 with
        | [], _ => rfl
        | [_], _ => rfl
        | [_, _], h2 => exact absurd rfl h2
        | _ :: _ :: _ :: _, _ => rfl
      · have h3 : ds.length = 2 := by omega
        match ds, h3 with
        | [d1, d2], _ =>
        obtain ⟨n1, n2⟩ := hp.pair d1 d2 rfl
        walk_at "g"
        refine d_gT (st.dz (by walk_at "mem")) rfl fun xs hxs => ?_
        obtain ⟨x1, _, rfl, hx1, x2, _, rfl, hx2, rfl⟩ := hxs
        have st := (st.add hx1).add hx2
        walk_at "g"
        refine c_Bl (d1, 1, 9) st (zl_cons hx1 (zl_cons z_int (zl_cons z_int zl_nil))) n1 fun H1 st => ?_
        walk_at "g"
        refine g_ite (fun hb1 => ?_) (fun hb1 => ?_)
        · walk_at "g"
          refine c_Bl d2 st (zl_cons (st.dz (by walk_at "mem")) zl_nil) n2 fun H2 st => ?_
          refine fin _ _ st.end_ ?_
          simp only [isStep, hb1, Bool.true_and]
        · walk_at "g"
          refine fin _ _ st.end_ ?_
          simp only [isStep, hb1, Bool.false_and]
    | _ => simp [isT, D.tn] at hb

structure PreSteps (d : D) : Prop where
  no : d.noIns = true
  few : ∀ ds, d = .lst ds → ds.length ≤ 100000 ∧ ∀ e ∈ ds, PreStep e
theorem all_map (ds : List D) (f : D → Bool) : ((ds.map f).all id) = ds.all f := by
  induction ds with
  | nil => rfl
  | cons d ds ih => simp [List.all_cons, ih]
def sp__are_steps (K : PySem.W.Frag) : Sp := spBl K (fun d : D => [d]) PreSteps areSteps
theorem ok__are_steps (W : Wd K mg) : FnOk P w K mg base CX0 5 W.a__are_steps W.d__are_steps ["thing"] (sp__are_steps K) := by
  refine W.F__are_steps.ok sc__are_steps (fun vs H Q E h => spBl_len (n := 1) (fun _ => rfl) h) (fun cdv A outer s H vs Q E hr h => ?_)
  obtain ⟨S, d, ok, hz, hp, k⟩ := h
  have st := St.start ok hz
  obtain ⟨x, _, rfl, hx, rfl⟩ := hz
  have fin : ∀ b H', Same H H' → b = areSteps d → Q (.bl b) H' := fun b H' e eb => by rw [eb]; exact k H' e
  refine ⟨_, (pss_one (ps_ret (pe_and (pe_callB (r := rIsiG K) call_isiG (by rfl) W.n_isinstance (by decide +kernel) (pa_cons (pv 0) (pa_cons (pe_bltn (v := .ty "list") (by rfl) W.n_list (by decide +kernel) rfl) pa_nil))) (pe_one (pe_callB (cr_all rfl) (by rfl) W.n_all (by decide +kernel) (pa_cons (pe_lc (own := [("step", 1)]) rfl sc__are_steps.nd (piG (pv 0)) (blkOk_by (N := N__are_steps) (sc := defScope s__are_steps) (by decide +kernel)) (fun _ _ _ _ _ => (pg_name (i := 1) sc__are_steps.nd rfl (.inl rfl))) (fun _ _ _ _ _ => pts_nil) (fun _ _ _ _ _ => (pe_call (ok_is_step W) (hr.mono (by decide)) (by rfl) W.m_is_step W.F_is_step.kp (b_is_step W) .nil pass0 (pa_cons (pv 1) pa_nil)))) pa_nil)))))), ?_⟩
  rw [show start N__are_steps [x] = [some (x), none] from rfl]
  try dsimp only [cxOf]
  walk_at "g"
  refine d_isi hx hp.no (q := ?_)
  walk_at "g"
  refine g_ite (fun hb => ?_) (fun hb => ?_)
  · cases d with
    | lst ds =>
      obtain ⟨few, pre⟩ := hp.few ds rfl
      obtain ⟨a, rfl⟩ := st.isL (by walk_at "mem")
      walk_at "g"
      refine i_lst ?_
      walk_at "g"
      refine lc_L st (by walk_at "mem") (fun i es => es = (ds.take i).map fun d => D.bl (isStep d)) (by simp) ?_ ?_
      · rintro p i d x H1 es np hd hi hl pe st
        walk_at "g"
        refine ⟨rfl, ?_⟩
        walk_at "g"
        refine c_Bl d st (zl_cons (st.dz (by walk_at "mem")) zl_nil) (pre d (List.mem_of_getElem? hd)) fun H2 st => ?_
        refine lc_end st (fun q h => List.mem_cons_of_mem _ h) (by omega) hl z_bl ?_
        rw [pe, take_snoc hd, List.map_append]
        rfl
      · rintro p H1 es pe hl st
        have e2 : es = (ds.map isStep).map D.bl := by rw [pe, List.take_length, List.map_map]; rfl
        subst e2
        walk_at "g"
        refine d_all (st.dz (by walk_at "mem")) ?_
        refine fin _ _ st.end_ ?_
        rw [all_map]
        rfl
    | _ => simp [isT, D.tn] at hb
  · refine fin _ _ st.end_ ?_
    cases d <;> first | rfl | (simp [isT, D.tn] at hb; done)

def dlen : D → Nat
  | .lst ds => ds.length
  | .tup ds => ds.length
  | _ => 0
def isHead (d : D) : Bool := areSteps d && decide (dlen d ≤ 24)
def sp__is_head (K : PySem.W.Frag) : Sp := spBl K (fun d : D => [d]) PreSteps isHead
theorem ok__is_head (W : Wd K mg) : FnOk P w K mg base CX0 6 W.a__is_head W.d__is_head ["thing"] (sp__is_head K) := by
  refine W.F__is_head.ok sc__is_head (fun vs H Q E h => spBl_len (n := 1) (fun _ => rfl) h) (fun cdv A outer s H vs Q E hr h => ?_)
  obtain ⟨S, d, ok, hz, hp, k⟩ := h
  have st := St.start ok hz
  obtain ⟨x, _, rfl, hx, rfl⟩ := hz
  have fin : ∀ b H', Same H H' → b = isHead d → Q (.bl b) H' := fun b H' e eb => by rw [eb]; exact k H' e
  refine ⟨_, (pss_one (ps_ret (pe_and (pe_call (ok__are_steps W) (hr.mono (by decide)) (by rfl) W.m__are_steps W.F__are_steps.kp (b__are_steps W) .nil pass0 (pa_cons (pv 0) pa_nil)) (pe_one (pe_cmpR opLe (pe_callB (r := rLenG K) call_lenG (by rfl) W.n_len PySem.boot_len (pa_cons (pv 0) pa_nil)) (pe_glob (v := V.int 24) rfl W.c_MOST_HEAD ⟨_, rfl⟩) (nomark _)))))), ?_⟩
  rw [show start N__is_head [x] = [some (x)] from rfl]
  try dsimp only [cxOf]
  walk_at "g"
  refine c_Bl d st (zl_cons hx zl_nil) hp fun H1 st => ?_
  walk_at "g"
  refine g_ite (fun hb => ?_) (fun hb => ?_)
  · cases d with
    | lst ds =>
      obtain ⟨a, rfl⟩ := st.isL (by walk_at "mem")
      walk_at "g"
      refine d_lenL (st.dz (by walk_at "mem")) ?_
      walk_at "g"
      refine fin _ _ st.end_ ?_
      unfold isHead
      rw [hb]
      show decide ((ds.length : Int) ≤ 24) = (true && decide (ds.length ≤ 24))
      rw [Bool.true_and]
      exact decide_eq_decide.mpr (by omega)
    | _ => cases hb
  · refine fin _ _ st.end_ ?_
    unfold isHead
    rw [hb]
    rfl

def isTail (d : D) : Bool := areSteps d && decide ((dlen d : Int) ∈ tails)
def sp__is_tail (K : PySem.W.Frag) : Sp := spBl K (fun d : D => [d]) PreSteps isTail
-- needs: _is_head
theorem ok__is_tail (W : Wd K mg) : FnOk P w K mg base CX0 6 W.a__is_tail W.d__is_tail ["thing"] (sp__is_tail K) := by
  refine W.F__is_tail.ok sc__is_tail (fun vs H Q E h => spBl_len (n := 1) (fun _ => rfl) h) (fun cdv A outer s H vs Q E hr h => ?_)
  obtain ⟨S, d, ok, hz, hp, k⟩ := h
  have st := St.start ok hz
  obtain ⟨x, _, rfl, hx, rfl⟩ := hz
  have fin : ∀ b H', Same H H' → b = isTail d → Q (.bl b) H' := fun b H' e eb => by rw [eb]; exact k H' e
  refine ⟨_, (pss_one (ps_ret (pe_and (pe_call (ok__are_steps W) (hr.mono (by decide)) (by rfl) W.m__are_steps W.F__are_steps.kp (b__are_steps W) .nil pass0 (pa_cons (pv 0) pa_nil)) (pe_one (pe_cmpR (r := rInG K) opIn (pe_callB (r := rLenG K) call_lenG (by rfl) W.n_len PySem.boot_len (pa_cons (pv 0) pa_nil)) (pe_glob (v := V.ref W.a_TAILS) rfl W.c_TAILS rfl) (by rfl)))))), ?_⟩
  rw [show start N__is_tail [x] = [some (x)] from rfl]
  try dsimp only [cxOf]
  walk_at "g"
  refine c_Bl d st (zl_cons hx zl_nil) hp fun H1 st => ?_
  walk_at "g"
  refine g_ite (fun hb => ?_) (fun hb => ?_)
  · cases d with
    | lst ds =>
      obtain ⟨a, rfl⟩ := st.isL (by walk_at "mem")
      walk_at "g"
      refine d_lenL (st.dz (by walk_at "mem")) ?_
      walk_at "g"
      refine d_inTI (S := S) (ns := tails) (W.i_TAILS.dz (DzL.of_ints tails)) ?_
      refine fin _ _ st.end_ ?_
      unfold isTail
      rw [hb]
      rfl
    | _ => cases hb
  · refine fin _ _ st.end_ ?_
    unfold isTail
    rw [hb]
    rfl

theorem preSteps {l : List (Int × Int)} (h : l.length ≤ 24) : PreSteps (.lst (l.map stepD)) := by
  refine ⟨rfl, fun ds e => ?_⟩
  cases e
  refine ⟨by rw [List.length_map]; omega, fun e he => ?_⟩
  obtain ⟨s, _, rfl⟩ := List.mem_map.mp he
  exact ⟨rfl, fun a b e => by cases e; exact ⟨rfl, rfl⟩⟩
theorem isHead_ok {w : Wn} (h : w.Ok) : isHead (.lst (w.head.map stepD)) = true := by
  unfold isHead
  rw [areSteps_ok h.hs]
  show (true && decide ((w.head.map stepD).length ≤ 24)) = true
  rw [List.length_map, Bool.true_and]
  exact decide_eq_true h.hl
theorem isTail_ok {w : Wn} (h : w.Ok) : isTail (.lst (w.tail.map stepD)) = true := by
  unfold isTail
  rw [areSteps_ok h.ts]
  show (true && decide (((w.tail.map stepD).length : Int) ∈ tails)) = true
  rw [List.length_map, Bool.true_and]
  exact decide_eq_true h.tl
def sp_Wane___init__ (K : PySem.W.Frag) (C : Addr) : Sp := spInit K C encW Wn.Ok Wn.fs
theorem ok_Wane___init__ (W : Wd K mg) : FnOk P w K mg base CX0 7 W.a_Wane___init__ W.d_Wane___init__ ["self", "head", "tail", "cap", "lift", "anew"] (sp_Wane___init__ K W.C_Wane) := by
  refine okD W.D_Wane___init__ sc_Wane___init__ (fun vs H Q E h => spInit_len (n := 6) (fun _ => rfl) h) (fun cdv A outer s H vs Q E hr h => ?_)
  obtain ⟨S, wn, a, dx, r, rfl, ok, sa, ha, hz, ho, k⟩ := h
  have st := St.start ok hz
  obtain ⟨x1, _, rfl, hx1, x2, _, rfl, hx2, _, _, rfl, rfl, _, _, rfl, rfl, _, _, rfl, rfl, rfl⟩ := hz
  obtain ⟨a1, rfl⟩ := st.isL (by walk_at "mem")
  obtain ⟨a2, rfl⟩ := st.isL (x := x2) (by walk_at "mem")
  have e1 := isHead_ok ho
  have e2 := isTail_ok ho
  have e3 : isWithin (.int wn.cap) 1 (10 ^ 9) = true := decide_eq_true ⟨ho.c1, ho.c2⟩
  have e4 : isWithin (.int wn.lift) 0 (10 ^ 9) = true := decide_eq_true ⟨ho.l1, ho.l2⟩
  refine ⟨_, (pss_cons (ps_expr (pe_call (ok_refuse_wrong W) (hr.mono (by decide)) (by rfl) W.m_refuse_wrong W.F_refuse_wrong.kp (b_refuse_wrong W) .nil pass0 (pa_cons (pe_lst (pa_cons (pe_call (ok__is_head W) (hr.mono (by decide)) (by rfl) W.m__is_head W.F__is_head.kp (b__is_head W) .nil pass0 (pa_cons (pv 1) pa_nil)) (pa_cons (pe_call (ok__is_tail W) (hr.mono (by decide)) (by rfl) W.m__is_tail W.F__is_tail.kp (b__is_tail W) .nil pass0 (pa_cons (pv 2) pa_nil)) (pa_cons (pe_call (ok_is_strength W) (hr.mono (by decide)) (by rfl) W.m_is_strength W.F_is_strength.kp (b_is_strength W) .nil pass0 (pa_cons (pv 3) pa_nil)) (pa_cons (pe_call (ok_is_size W) (hr.mono (by decide)) (by rfl) W.m_is_size W.F_is_size.kp (b_is_size W) .nil pass0 (pa_cons (pv 4) pa_nil)) (pa_cons (pe_callB (r := rIsiG K) call_isiG (by rfl) W.n_isinstance (by decide +kernel) (pa_cons (pv 5) (pa_cons (pe_bltn (v := .ty "bool") (by rfl) W.n_bool (by decide +kernel) rfl) pa_nil))) pa_nil)))))) pa_nil)))
      (pss_cons (ps_fld (pv 0) (pe_callTy call_tupleG (by rfl) W.n_tuple (by decide +kernel) (pa_cons (pv 1) pa_nil)) rfl)
      (pss_cons (ps_fld (pv 0) (pe_callTy call_tupleG (by rfl) W.n_tuple (by decide +kernel) (pa_cons (pv 2) pa_nil)) rfl)
      (pss_cons (ps_fld (pv 0) (pe_op (r := rAddG K) opAdd (pe_fld (pv 0) rfl) (pe_fld (pv 0) rfl)) rfl)
      (pss_cons (ps_fld (pv 0) (pv 3) rfl)
      (pss_cons (ps_fld (pv 0) (pv 4) rfl)
      (pss_one (ps_fld (pv 0) (pv 5) rfl)))))))), ?_⟩
  rw [show start N_Wane___init__ [.ref a, .ref a1, .ref a2, .int wn.cap, .int wn.lift, .bl wn.anew] = [some (.ref a), some (.ref a1), some (.ref a2), some (.int wn.cap), some (.int wn.lift), some (.bl wn.anew)] from rfl]
  try dsimp only [cxOf]
  walk_at "g"
  refine c_Bl (.lst (wn.head.map stepD)) st (by walk_at "dzl") (preSteps ho.hl) fun H1 st => ?_
  rw [e1]
  walk_at "g"
  refine c_Bl (.lst (wn.tail.map stepD)) st (by walk_at "dzl") (preSteps (by have := ho.t24; omega)) fun H1 st => ?_
  rw [e2]
  walk_at "g"
  refine c_Bl (.int wn.cap) st (by walk_at "dzl") rfl fun H1 st => ?_
  rw [e3]
  walk_at "g"
  refine c_Bl (.int wn.lift) st (by walk_at "dzl") rfl fun H1 st => ?_
  rw [e4]
  walk_at "g"
  refine d_isi (S := S) (z_bl (i := wn.anew)) rfl (q := ?_)
  rw [show isT "bool" (D.bl wn.anew) = true from rfl]
  walk_at "g"
  refine d_lst st (ds := [.bl true, .bl true, .bl true, .bl true, .bl true]) (by walk_at "dzl") (by simp) fun p H1 st => ?_
  walk_at "g"
  refine c_Unit 5 st (zl_cons (show Dz K S H1 (.lst (List.replicate 5 (D.bl true))) _ from st.dz (by walk_at "mem")) zl_nil) trivial fun H1 st => ?_
  walk_at "g"
  refine d_tupleL st (ds := wn.head.map stepD) (by walk_at "dz") fun p1 H1 st => ?_
  walk_at "g"
  refine d_setf st sa ha W.cl_Wane W.na_Wane__head [] rfl rfl (by simp) fun H1 ha1 k1 st => ?_
  walk_at "g"
  refine d_tupleL st (ds := wn.tail.map stepD) (by walk_at "dz") fun p2 H2 st => ?_
  walk_at "g"
  refine d_setf st sa ha1 W.cl_Wane W.na_Wane__tail ["_head"] rfl (by decide +kernel) (by simp) fun H2 ha2 k2 st => ?_
  walk_at "g"
  refine ⟨a, W.C_Wane, dx, _, .ref p1, rfl, ha2, W.cl_Wane, W.na_Wane__head, rfl, ?_⟩
  walk_at "g"
  refine ⟨a, W.C_Wane, dx, _, .ref p2, rfl, ha2, W.cl_Wane, W.na_Wane__tail, (by first | rfl | with_unfolding_all rfl), ?_⟩
  walk_at "g"
  refine d_addT st (ds := wn.head.map stepD) (es := wn.tail.map stepD) (st.dz (x := .ref p1) (by walk_at "mem")) (st.dz (x := .ref p2) (by walk_at "mem")) (by rw [List.length_map, List.length_map]; have := ho.hl; have := ho.t24; omega) fun p3 H3 st => ?_
  rw [← List.map_append] at st
  walk_at "g"
  refine d_setf st sa ha2 W.cl_Wane W.na_Wane__steps ["_head", "_tail"] rfl (by decide +kernel) (by simp) fun H3 ha3 k3 st => ?_
  walk_at "g"
  refine d_setf st sa ha3 W.cl_Wane W.na_Wane__cap ["_head", "_tail", "_steps"] rfl (by decide +kernel) (by simp) fun H4 ha4 k4 st => ?_
  walk_at "g"
  refine d_setf st sa ha4 W.cl_Wane W.na_Wane__lift ["_head", "_tail", "_steps", "_cap"] rfl (by decide +kernel) (by simp) fun H5 ha5 k5 st => ?_
  walk_at "g"
  refine d_setf st sa ha5 W.cl_Wane W.na_Wane__anew ["_head", "_tail", "_steps", "_cap", "_lift"] rfl (by decide +kernel) (by simp) fun H6 ha6 k6 st => ?_
  refine k H6 _ (fun b o n e => k6 b o n (k5 b o n (k4 b o n (k3 b o n (k2 b o n (k1 b o n e)))))) ha6 ?_
  exact zf_cons (st.dz (by walk_at "mem")) (zf_cons (st.dz (by walk_at "mem")) (zf_cons (st.dz (by walk_at "mem")) (zf_cons z_int (zf_cons z_int (zf_cons z_bl zf_nil)))))

-- needs: Wane___init__
def sp_Wane_phase_behind (K : PySem.W.Frag) (C : Addr) : Sp := spInt K (fun a : Wn × Int => [a.1.d C, .int a.2]) (fun a => a.1.Ok ∧ 0 ≤ a.2) (fun a => phase a.1 a.2)
theorem ok_Wane_phase_behind (W : Wd K mg) : FnOk P w K mg base CX0 1 W.a_Wane_phase_behind W.d_Wane_phase_behind ["self", "since"] (sp_Wane_phase_behind K W.C_Wane) := by
  refine W.F_Wane_phase_behind.ok sc_Wane_phase_behind (fun vs H Q E h => spInt_len (n := 2) (fun _ => rfl) h) (fun cdv A outer s H vs Q E hr h => ?_)
  obtain ⟨S, ⟨wn, n⟩, ok, hz, ⟨ho, hn⟩, k⟩ := h
  have ho : wn.Ok := ho
  have hn : 0 ≤ n := hn
  have st := St.start ok hz
  obtain ⟨x, _, rfl, hx, _, _, rfl, rfl, rfl⟩ := hz
  obtain ⟨a, rfl⟩ := st.isI (by walk_at "mem")
  have fin : ∀ r H', Same H H' → r = phase wn n → Q (.int r) H' := fun r H' e er => by rw [er]; exact k H' e
  refine ⟨_, (pss_cons (ps_set (i := 2) sc_Wane_phase_behind.nd rfl (Or.inl rfl) (pe_callB (r := rLenG K) call_lenG (by rfl) W.n_len PySem.boot_len (pa_cons (pe_fld (pv 0) rfl) pa_nil)))
      (pss_cons (ps_if (pt_cmpR opLt (pv 1) (pv 2) (nomark _)) (pss_one (ps_ret (pv 1))) pss_nil)
      (pss_one (ps_ret (pe_op (r := rAddG K) opAdd (pv 2) (pe_op opMod (pe_op opSub (pv 1) (pv 2)) (pe_callB (r := rLenG K) call_lenG (by rfl) W.n_len PySem.boot_len (pa_cons (pe_fld (pv 0) rfl) pa_nil)))))))), ?_⟩
  rw [show start N_Wane_phase_behind [.ref a, .int n] = [some (.ref a), some (.int n), none] from rfl]
  try dsimp only [cxOf]
  walk_at "g"
  refine d_fld (st.dz (by walk_at "mem")) W.cl_Wane W.na_Wane__head (W_head wn) fun v hv => ?_
  obtain ⟨b, _, rfl, _, _⟩ := id hv
  walk_at "g"
  refine d_lenT hv ?_
  walk_at "g"
  rw [List.length_map]
  refine g_dec (fun h1 => ?_) (fun h1 => ?_)
  · walk_at "g"
    exact fin _ _ st.end_ (by unfold phase; rw [if_pos h1])
  · walk_at "g"
    refine d_fld (st.dz (by walk_at "mem")) W.cl_Wane W.na_Wane__tail (W_tail wn) fun v hv => ?_
    obtain ⟨b, _, rfl, _, _⟩ := id hv
    walk_at "g"
    refine d_lenT hv ?_
    rw [List.length_map]
    refine v_mod (by have := ho.t0; omega) ?_
    walk_at "g"
    exact fin _ _ st.end_ (by unfold phase; rw [if_neg h1])

def sp_Wane_phase (K : PySem.W.Frag) (C : Addr) : Sp := spInt K (fun a : Wn × Int => [a.1.d C, .int a.2]) (fun a => a.1.Ok ∧ 0 ≤ a.2 ∧ a.2 ≤ 10 ^ 30) (fun a => phase a.1 a.2)
theorem ok_Wane_phase (W : Wd K mg) : FnOk P w K mg base CX0 4 W.a_Wane_phase W.d_Wane_phase ["self", "since"] (sp_Wane_phase K W.C_Wane) := by
  refine W.F_Wane_phase.ok sc_Wane_phase (fun vs H Q E h => spInt_len (n := 2) (fun _ => rfl) h) (fun cdv A outer s H vs Q E hr h => ?_)
  obtain ⟨S, ⟨wn, n⟩, ok, hz, ⟨ho, hn⟩, k⟩ := h
  have ho : wn.Ok := ho
  have hn : 0 ≤ n ∧ n ≤ 10 ^ 30 := hn
  have st := St.start ok hz
  obtain ⟨x, _, rfl, hx, _, _, rfl, rfl, rfl⟩ := hz
  obtain ⟨a, rfl⟩ := st.isI (by walk_at "mem")
  have e1 : isWithin (.int n) 0 (10 ^ 30) = true := decide_eq_true hn
  refine ⟨_, (pss_cons (ps_expr (pe_call (ok_refuse_wrong W) (hr.mono (by decide)) (by rfl) W.m_refuse_wrong W.F_refuse_wrong.kp (b_refuse_wrong W) .nil pass0 (pa_cons (pe_lst (pa_cons (pe_call (ok_is_moment W) (hr.mono (by decide)) (by rfl) W.m_is_moment W.F_is_moment.kp (b_is_moment W) .nil pass0 (pa_cons (pv 1) pa_nil)) pa_nil)) pa_nil)))
      (pss_one (ps_ret (pe_meth (pv 0) W.cl_Wane W.M_Wane_phase_behind (ok_Wane_phase_behind W) (hr.mono (by decide)) (b_Wane_phase_behind W) .nil pass0 (pa_cons (pv 1) pa_nil))))), ?_⟩
  rw [show start N_Wane_phase [.ref a, .int n] = [some (.ref a), some (.int n)] from rfl]
  try dsimp only [cxOf]
  walk_at "g"
  refine c_Bl (.int n) st (by walk_at "dzl") rfl fun H1 st => ?_
  rw [e1]
  walk_at "g"
  refine d_lst st (ds := [.bl true]) (by walk_at "dzl") (by simp) fun p H1 st => ?_
  walk_at "g"
  refine c_Unit 1 st (zl_cons (show Dz K S H1 (.lst (List.replicate 1 (D.bl true))) _ from st.dz (by walk_at "mem")) zl_nil) trivial fun H1 st => ?_
  walk_at "g"
  refine d_meth (st.dz (by walk_at "mem")) (W_no (by decide +kernel) wn) ?_
  walk_at "g"
  refine c_Int (wn, n) st (by walk_at "dzl") ⟨ho, hn.1⟩ fun H2 st => ?_
  exact k _ st.end_

-- needs: Shelf___init__
def sp_Shelf_by_names (K : PySem.W.Frag) (C1 C2 : Addr) : Sp := spV K (fun s : Sq => [s.shelfD C1 C2]) (fun _ => True) (fun _ => .lst [])
theorem ok_Shelf_by_names (W : Wd K mg) : FnOk P w K mg base CX0 1 W.a_Shelf_by_names W.d_Shelf_by_names ["self"] (sp_Shelf_by_names K W.C_Shelf W.C_Story) := by
  refine W.F_Shelf_by_names.ok sc_Shelf_by_names (fun vs H Q E h => spV_len (n := 1) (fun _ => rfl) h) (fun cdv A outer s H vs Q E hr h => ?_)
  obtain ⟨S, sq, ok, hz, ho, k⟩ := h
  have st := St.start ok hz
  obtain ⟨x, _, rfl, hx, rfl⟩ := hz
  obtain ⟨a, rfl⟩ := st.isI (x := x) (by walk_at "mem")
  refine ⟨_, (pss_one (ps_ret (pe_lc (own := [("name", 1)]) rfl sc_Shelf_by_names.nd (piG (pe_callB (cr_sortedE rfl) (by rfl) W.n_sorted (by decide +kernel) (pa_cons (pe_fld (pv 0) rfl) pa_nil))) (blkOk_by (N := N_Shelf_by_names) (sc := defScope s_Shelf_by_names) (by decide +kernel)) (fun _ _ _ _ _ => (pg_name (i := 1) sc_Shelf_by_names.nd rfl (.inl rfl))) (fun _ _ _ _ _ => pts_nil) (fun _ _ _ _ _ => (pe_ix (r := rIxG K) ixG (pe_fldK (K := K) (pv 0) rfl) (pv 1) (fun _ _ => rfl)))))), ?_⟩
  rw [show start N_Shelf_by_names [.ref a] = [some (.ref a), none] from rfl]
  try dsimp only [cxOf]
  walk_at "g"
  refine i_lst ?_
  walk_at "g"
  refine d_fld (st.dz (by walk_at "mem")) W.cl_Shelf W.na_Shelf_things (by with_unfolding_all rfl) fun v hv => ?_
  obtain ⟨b2, rfl, _, _⟩ := id hv
  walk_at "g"
  refine d_sortedE st hv fun p H1 st => ?_
  walk_at "g"
  refine lc_L st (ds := []) (by walk_at "mem") (fun i es => es = []) rfl ?_ ?_
  · rintro p i d x H1 es np hd hi hl pe st
    exact absurd hi (Nat.not_lt_zero _)
  · rintro p H1 es pe hl st
    subst pe
    exact k _ _ st.end_ (st.dz (x := .ref p) (List.Mem.head _))

-- needs: Shelf___init__
def sp_Shelf_states (K : PySem.W.Frag) (C1 C2 : Addr) : Sp := spV K (fun s : Sq => [s.shelfD C1 C2]) (fun _ => True) (fun _ => .tup [])
theorem ok_Shelf_states (W : Wd K mg) : FnOk P w K mg base CX0 5 W.a_Shelf_states W.d_Shelf_states ["self"] (sp_Shelf_states K W.C_Shelf W.C_Story) := by
  refine W.F_Shelf_states.ok sc_Shelf_states (fun vs H Q E h => spV_len (n := 1) (fun _ => rfl) h) (fun cdv A outer s H vs Q E hr h => ?_)
  obtain ⟨S, sq, ok, hz, ho, k⟩ := h
  have st := St.start ok hz
  obtain ⟨x, _, rfl, hx, rfl⟩ := hz
  obtain ⟨a, rfl⟩ := st.isI (x := x) (by walk_at "mem")
  refine ⟨_, (pss_one (ps_ret (pe_callTy call_tupleG (by rfl) W.n_tuple (by decide +kernel) (pa_cons (pe_lc (own := [("thing", 1)]) rfl sc_Shelf_states.nd (piG (pe_meth0 (pv 0) W.cl_Shelf W.M_Shelf_by_names (ok_Shelf_by_names W) (hr.mono (by decide)) (b_Shelf_by_names W) .nil pass0)) (blkOk_by (N := N_Shelf_states) (sc := defScope s_Shelf_states) (by decide +kernel)) (fun _ _ _ _ _ => (pg_name (i := 1) sc_Shelf_states.nd rfl (.inl rfl))) (fun _ _ _ _ _ => pts_nil) (fun _ _ _ _ _ => (pe_tup (pa_cons (pe_fldK (K := K) (pv 1) rfl) (pa_cons (pe_fldK (K := K) (pv 1) rfl) (pa_cons (pe_fldK (K := K) (pv 1) rfl) (pa_cons (pe_meth0 (pv 1) W.cl_Wane W.M_Wane_phase (ok_Wane_phase W) (hr.mono (by decide)) (b_Wane_phase W) .nil pass0) pa_nil))))))) pa_nil)))), ?_⟩
  rw [show start N_Shelf_states [.ref a] = [some (.ref a), none] from rfl]
  try dsimp only [cxOf]
  walk_at "g"
  refine i_lst ?_
  walk_at "g"
  refine d_meth (fs := sq.shelf W.C_Story) (st.dz (x := .ref a) (by walk_at "mem")) (by with_unfolding_all rfl) ?_
  walk_at "g"
  refine c_V sq st (zl_cons (st.dz (x := .ref a) (by walk_at "mem")) zl_nil) trivial fun v H1 st => ?_
  obtain ⟨b, rfl⟩ := st.isL (x := v) (List.Mem.head _)
  walk_at "g"
  refine lc_L st (ds := []) (by walk_at "mem") (fun i es => es = []) rfl ?_ ?_
  · rintro p i d x H1 es np hd hi hl pe st
    exact absurd hi (Nat.not_lt_zero _)
  · rintro p H1 es pe hl st
    subst pe
    walk_at "g"
    refine d_tupleL st (ds := []) (st.dz (x := .ref p) (List.Mem.head _)) fun p2 H3 st => ?_
    exact k _ _ st.end_ (st.dz (x := .ref p2) (List.Mem.head _))

-- needs: Store___init__
-- needs: Shelf_states
def sp_Store_state (K : PySem.W.Frag) (C C1 C2 : Addr) : Sp := spV K (fun s : Sq => [.ins C (s.fs C1 C2)]) (fun _ => True) (fun _ => .tup [])
theorem ok_Store_state (W : Wd K mg) : FnOk P w K mg base CX0 6 W.a_Store_state W.d_Store_state ["self"] (sp_Store_state K W.C_Store W.C_Shelf W.C_Story) := by
  refine W.F_Store_state.ok sc_Store_state (fun vs H Q E h => spV_len (n := 1) (fun _ => rfl) h) (fun cdv A outer s H vs Q E hr h => ?_)
  obtain ⟨S, sq, ok, hz, ho, k⟩ := h
  have st := St.start ok hz
  obtain ⟨x, _, rfl, hx, rfl⟩ := hz
  obtain ⟨a, rfl⟩ := st.isI (by walk_at "mem")
  refine ⟨_, (pss_one (ps_ret (pe_meth0 (pe_fld (pv 0) rfl) W.cl_Shelf W.M_Shelf_states (ok_Shelf_states W) (hr.mono (by decide)) (b_Shelf_states W) .nil pass0))), ?_⟩
  rw [show start N_Store_state [.ref a] = [some (.ref a)] from rfl]
  try dsimp only [cxOf]
  walk_at "g"
  refine d_fld (st.dz (by walk_at "mem")) W.cl_Store W.na_Store_shelf rfl fun v0 hv0 => ?_
  obtain ⟨b, _, _, rfl, _, _⟩ := id hv0
  walk_at "g"
  have st := st.add hv0
  refine d_meth (fs := sq.shelf W.C_Story) (st.dz (x := .ref b) (by walk_at "mem")) (by with_unfolding_all rfl) ?_
  walk_at "g"
  refine c_V sq st (zl_cons (st.dz (x := .ref b) (by walk_at "mem")) zl_nil) trivial fun v H1 st => ?_
  exact k _ _ st.end_ (st.dz (x := v) (by walk_at "mem"))

-- needs: Story___init__
def sp_Story_listed (K : PySem.W.Frag) (C : Addr) : Sp := spNewL K (fun _ : Unit => [.ins C storyFs]) (fun _ => True) (fun _ => [])
theorem ok_Story_listed (W : Wd K mg) : FnOk P w K mg base CX0 1 W.a_Story_listed W.d_Story_listed ["self"] (sp_Story_listed K W.C_Story) := by
  refine W.F_Story_listed.ok sc_Story_listed (fun vs H Q E h => spNewL_len (n := 1) (fun _ => rfl) h) (fun cdv A outer s H vs Q E hr h => ?_)
  obtain ⟨S, _, ok, hz, _, k⟩ := h
  have st := St.start ok hz
  obtain ⟨x, _, rfl, hx, rfl⟩ := hz
  obtain ⟨a, rfl⟩ := st.isI (by walk_at "mem")
  refine ⟨_, (pss_one (ps_ret (pe_slice (r := rSlG K) slG (pe_fld (pv 0) rfl) po_none (po_some (pe_fld (pv 0) rfl))))), ?_⟩
  rw [show start N_Story_listed [.ref a] = [some (.ref a)] from rfl]
  try dsimp only [cxOf]
  walk_at "g"
  refine d_fld (st.dz (by walk_at "mem")) W.cl_Story W.na_Story_shared rfl fun v hv => ?_
  obtain ⟨b, _, rfl, _, _⟩ := id hv
  walk_at "g"
  refine d_fld (st.dz (by walk_at "mem")) W.cl_Story W.na_Story_length (by with_unfolding_all rfl) fun v hv2 => ?_
  cases hv2
  walk_at "g"
  refine d_slLO (lo := none) (hi := some 0) st hv fun p H1 _ st => ?_
  exact st.new k

-- needs: Store___init__
-- needs: Story_listed
def sp_Store_story (K : PySem.W.Frag) (C C1 C2 : Addr) : Sp := spNewL K (fun s : Sq => [.ins C (s.fs C1 C2)]) (fun _ => True) (fun _ => [])
theorem ok_Store_story (W : Wd K mg) : FnOk P w K mg base CX0 2 W.a_Store_story W.d_Store_story ["self"] (sp_Store_story K W.C_Store W.C_Shelf W.C_Story) := by
  refine W.F_Store_story.ok sc_Store_story (fun vs H Q E h => spNewL_len (n := 1) (fun _ => rfl) h) (fun cdv A outer s H vs Q E hr h => ?_)
  obtain ⟨S, sq, ok, hz, ho, k⟩ := h
  have st := St.start ok hz
  obtain ⟨x, _, rfl, hx, rfl⟩ := hz
  obtain ⟨a, rfl⟩ := st.isI (by walk_at "mem")
  refine ⟨_, (pss_one (ps_ret (pe_meth0 (pe_fld (pe_fld (pv 0) rfl) rfl) W.cl_Story W.M_Story_listed (ok_Story_listed W) (hr.mono (by decide)) (b_Story_listed W) .nil pass0))), ?_⟩
  rw [show start N_Store_story [.ref a] = [some (.ref a)] from rfl]
  try dsimp only [cxOf]
  walk_at "g"
  refine d_fld (st.dz (by walk_at "mem")) W.cl_Store W.na_Store_shelf rfl fun v0 hv0 => ?_
  obtain ⟨b, _, _, rfl, _, _⟩ := id hv0
  walk_at "g"
  refine d_fld hv0 W.cl_Shelf W.na_Shelf_rows (by with_unfolding_all rfl) fun v hv => ?_
  obtain ⟨b2, _, _, rfl, _, _⟩ := id hv
  have st := st.add hv
  walk_at "g"
  refine d_meth (fs := storyFs) (st.dz (x := .ref b2) (by walk_at "mem")) (by with_unfolding_all rfl) ?_
  walk_at "g"
  refine c_New () st (zl_cons (st.dz (x := .ref b2) (by walk_at "mem")) zl_nil) trivial fun p H1 _ st => ?_
  exact st.new k

-- needs: _law_take
def sp__law_stirs (K : PySem.W.Frag) : Sp := spDr K (fun _ : Unit => []) (fun _ => True) (fun _ r => ∃ l : List Int, r = .lst (l.map D.int) ∧ l.length = 10 ∧ ∀ x ∈ l, -(10 ^ 9) ≤ x ∧ x ≤ 10 ^ 9)
theorem ok__law_stirs (W : Wd K mg) : FnOk P w K mg base CX0 2 W.a__law_stirs W.d__law_stirs ["_law_bag_here"] (sp__law_stirs K) := by
  refine W.F__law_stirs.ok sc__law_stirs (fun vs H Q E h => spDr_len (n := 0) (fun _ => rfl) h) (fun cdv A outer s H vs Q E hr h => ?_)
  obtain ⟨S, b, _, u, rfl, ok, sb, bg, hz, _, k⟩ := h
  have st := St.startB ok sb bg hz
  obtain rfl := hz
  refine ⟨_, (pss_cons (ps_set (i := 1) sc__law_stirs.nd rfl (Or.inr rfl) (pe_lst (pa_cons pe_int (pa_cons pe_int (pa_cons (pe_un un_neg pe_int) (pa_cons pe_int (pa_cons (pe_un un_neg pe_int) (pa_cons (pe_op opSub (pe_call (ok__law_take W) (hr.mono (by decide)) (by rfl) W.m__law_take W.F__law_take.kp (b__law_take W) .nil pass0 (pa_cons (pv 0) (pa_cons pe_int pa_nil))) pe_int) (pa_cons (pe_op opSub (pe_call (ok__law_take W) (hr.mono (by decide)) (by rfl) W.m__law_take W.F__law_take.kp (b__law_take W) .nil pass0 (pa_cons (pv 0) (pa_cons (pe_op (r := rAddG K) opAdd (pe_op opMul pe_int (pe_op opPow pe_int pe_int)) pe_int) pa_nil))) (pe_op opPow pe_int pe_int)) pa_nil)))))))))
      (pss_one (ps_ret (pe_lc (own := [("_law_sort", 2)]) rfl sc__law_stirs.nd (pi_range1 (by rfl) W.n_range (pa_cons pe_int pa_nil)) (blkOk_by (N := N__law_stirs) (sc := defScope s__law_stirs) (by decide +kernel)) (fun _ _ _ _ _ => (pg_name (i := 2) sc__law_stirs.nd rfl (.inl rfl))) (fun _ _ _ _ _ => pts_nil) (fun _ _ _ _ _ => (pe_ix (r := rIxG K) ixG (pv 1) (pe_ix (r := rIxG K) ixG (pe_lst (pa_cons pe_int (pa_cons pe_int (pa_cons pe_int (pa_cons pe_int (pa_cons pe_int (pa_cons pe_int (pa_cons pe_int (pa_cons pe_int (pa_cons pe_int pa_nil)))))))))) (pe_call (ok__law_take W) (hr.mono (by decide)) (by rfl) W.m__law_take W.F__law_take.kp (b__law_take W) .nil pass0 (pa_cons (pv 0) (pa_cons pe_int pa_nil))) (fun _ _ => rfl)) (fun _ _ => rfl))))))), ?_⟩
  rw [show start N__law_stirs [.ref b] = [some (.ref b), none, none] from rfl]
  try dsimp only [cxOf]
  walk_at "g"
  refine ⟨1, rfl, ?_⟩
  walk_at "g"
  refine ⟨3, rfl, ?_⟩
  walk_at "g"
  refine c_Dr (200) st (by walk_at "dzl") ⟨by omega, by omega⟩ fun v d H1 ⟨m1, e, m10, m11⟩ st => ?_
  subst e
  obtain rfl := st.eqI (List.Mem.head _)
  walk_at "g"
  refine v_pow ⟨by decide, by decide, by decide⟩ ?_
  rw [show (10 : Int) ^ (9 : Int).toNat = 10 ^ 9 from rfl]
  walk_at "g"
  refine v_mulL (by decide) ?_
  walk_at "g"
  refine c_Dr (2 * 10 ^ 9 + 1) st (by walk_at "dzl") ⟨by omega, by omega⟩ fun v d H1 ⟨m2, e, m20, m21⟩ st => ?_
  subst e
  obtain rfl := st.eqI (List.Mem.head _)
  walk_at "g"
  refine v_pow ⟨by decide, by decide, by decide⟩ ?_
  rw [show (10 : Int) ^ (9 : Int).toNat = 10 ^ 9 from rfl]
  walk_at "g"
  have st := st.keep0
  refine d_lst st (ds := [.int 0, .int 1, .int (-1), .int 3, .int (-3), .int (m1 - 100), .int (m2 - 10 ^ 9)]) (by walk_at "dzl") (by simp) fun q H1 st => ?_
  walk_at "g"
  refine lc_RI (n := 10) (by decide) (by decide) st (fun i es => ∃ l : List Int, es = l.map D.int ∧ l.length = i ∧ ∀ x ∈ l, -(10 ^ 9) ≤ x ∧ x ≤ 10 ^ 9) ⟨[], rfl, rfl, fun x m => by simp at m⟩ ?_ ?_
  · rintro p i x H3 es np hi hl ⟨l, rfl, hll, hlb⟩ st rfl
    walk_at "g"
    refine ⟨rfl, ?_⟩
    walk_at "g"
    refine d_lst st (ds := [.int 0, .int 0, .int 0, .int 1, .int 2, .int 3, .int 4, .int 5, .int 6]) (by walk_at "dzl") (by simp) fun q2 H1 st => ?_
    walk_at "g"
    refine c_Dr (9) st (by walk_at "dzl") ⟨by omega, by omega⟩ fun v d H1 ⟨m3, e, m30, m31⟩ st => ?_
    subst e
    obtain rfl := st.eqI (List.Mem.head _)
    walk_at "g"
    refine d_ixLP (P := fun d => ∃ y : Int, d = .int y ∧ 0 ≤ y ∧ y < 7) (st.dz (x := .ref q2) (by walk_at "mem")) m30 (by simp; omega) (by simp) fun v d ⟨y, e3, hy1, hy2⟩ hv => ?_
    subst e3
    cases hv
    refine d_ixLP (P := fun d => ∃ z : Int, d = .int z ∧ -(10 ^ 9) ≤ z ∧ z ≤ 10 ^ 9) (st.dz (x := .ref q) (by walk_at "mem")) hy1 (by simp; omega) (by simp; omega) fun v d ⟨z, e3, hz1, hz2⟩ hv => ?_
    subst e3
    cases hv
    refine lc_end st (fun q h => List.mem_cons_of_mem _ (List.mem_cons_of_mem _ h)) (by omega) hl z_int ⟨l ++ [z], by rw [List.map_append]; rfl, by rw [List.length_append, hll]; rfl, fun x m => ?_⟩
    rcases List.mem_append.mp m with m | m
    · exact hlb x m
    · rw [List.mem_singleton.mp m]; exact ⟨hz1, hz2⟩
  · rintro p H3 es ⟨l, rfl, hll, hlb⟩ hl st
    exact k (.ref p) (.lst (l.map D.int)) H3 st.endB st.bagB (st.dz (by walk_at "mem")) ⟨l, rfl, hll, hlb⟩

-- needs: _law_take
def sp__law_rooms (K : PySem.W.Frag) : Sp := spDr K (fun _ : Unit => []) (fun _ => True) (fun _ r => ∃ l : List Int, r = .lst (l.map D.int) ∧ (1 ≤ l.length ∧ l.length ≤ 4) ∧ ∀ x ∈ l, 1 ≤ x ∧ x ≤ 10 ^ 12)
theorem ok__law_rooms (W : Wd K mg) : FnOk P w K mg base CX0 2 W.a__law_rooms W.d__law_rooms ["_law_bag_here"] (sp__law_rooms K) := by
  refine W.F__law_rooms.ok sc__law_rooms (fun vs H Q E h => spDr_len (n := 0) (fun _ => rfl) h) (fun cdv A outer s H vs Q E hr h => ?_)
  obtain ⟨S, b, _, u, rfl, ok, sb, bg, hz, _, k⟩ := h
  have st := St.startB ok sb bg hz
  obtain rfl := hz
  refine ⟨_, (pss_cons (ps_set (i := 1) sc__law_rooms.nd rfl (Or.inl rfl) (pe_ix (r := rIxG K) ixG (pe_lst (pa_cons pe_int (pa_cons pe_int (pa_cons pe_int (pa_cons (pe_op opPow pe_int pe_int) pa_nil))))) (pe_call (ok__law_take W) (hr.mono (by decide)) (by rfl) W.m__law_take W.F__law_take.kp (b__law_take W) .nil pass0 (pa_cons (pv 0) (pa_cons pe_int pa_nil))) (fun _ _ => rfl)))
      (pss_cons (ps_set (i := 2) sc__law_rooms.nd rfl (Or.inl rfl) (pe_lst pa_nil))
      (pss_cons (ps_for PassesOwn.never rfl (pi_range1 (by rfl) W.n_range (pa_cons (pe_op (r := rAddG K) opAdd pe_int (pe_call (ok__law_take W) (hr.mono (by decide)) (by rfl) W.m__law_take W.F__law_take.kp (b__law_take W) .nil pass0 (pa_cons (pv 0) (pa_cons pe_int pa_nil)))) pa_nil)) (pg_name (i := 3) sc__law_rooms.nd rfl (.inl rfl))
        (pss_one (ps_expr (pe_bm PySem.F.plainAttrs_list PySem.F.slot_list_append PySem.F.type_list_append mt_append (pv 2) (pa_cons (pe_ix (r := rIxG K) ixG (pe_lst (pa_cons (pe_op (r := rAddG K) opAdd pe_int (pe_call (ok__law_take W) (hr.mono (by decide)) (by rfl) W.m__law_take W.F__law_take.kp (b__law_take W) .nil pass0 (pa_cons (pv 0) (pa_cons (pv 1) pa_nil)))) (pa_cons (pe_op (r := rAddG K) opAdd pe_int (pe_call (ok__law_take W) (hr.mono (by decide)) (by rfl) W.m__law_take W.F__law_take.kp (b__law_take W) .nil pass0 (pa_cons (pv 0) (pa_cons (pv 1) pa_nil)))) (pa_cons (pe_op opPow pe_int pe_int) pa_nil)))) (pe_op opDiv (pe_call (ok__law_take W) (hr.mono (by decide)) (by rfl) W.m__law_take W.F__law_take.kp (b__law_take W) .nil pass0 (pa_cons (pv 0) (pa_cons pe_int pa_nil))) pe_int) (fun _ _ => rfl)) pa_nil)))))
      (pss_one (ps_ret (pv 2)))))), ?_⟩
  rw [show start N__law_rooms [.ref b] = [some (.ref b), none, none, none] from rfl]
  try dsimp only [cxOf]
  walk_at "g"
  refine v_pow ⟨by decide, by decide, by decide⟩ ?_
  rw [show (10 : Int) ^ (10 : Int).toNat = 10 ^ 10 from rfl]
  walk_at "g"
  refine d_lst st (ds := [.int 30, .int 200, .int 4000, .int (10 ^ 10)]) (by walk_at "dzl") (by simp) fun q H1 st => ?_
  walk_at "g"
  refine c_Dr (4) st (by walk_at "dzl") ⟨by omega, by omega⟩ fun v d H1 ⟨m1, e, m10, m11⟩ st => ?_
  subst e
  obtain rfl := st.eqI (List.Mem.head _)
  walk_at "g"
  refine d_ixLP (P := fun d => ∃ y : Int, d = .int y ∧ 1 ≤ y ∧ y ≤ 10 ^ 10) (st.dz (x := .ref q) (by walk_at "mem")) m10 (by simp; omega) (by simp) fun v d ⟨wd, e3, hw1, hw2⟩ hv => ?_
  subst e3
  cases hv
  walk_at "g"
  have st := st.keep0
  refine d_own st (ds := []) zl_nil (by simp) fun p H1 np st => ?_
  walk_at "g"
  refine c_Dr (4) st (by walk_at "dzl") ⟨by omega, by omega⟩ fun v d H1 ⟨m2, e, m20, m21⟩ st => ?_
  subst e
  obtain rfl := st.eqI (List.Mem.head _)
  walk_at "g"
  have st := st.keep0
  refine for_R (n := 1 + m2) (by omega) (by omega) (fun i σ H' => (∃ y3 : Option V, σ = [some (.ref b), some (.int wd), some (.ref p), y3]) ∧ ∃ l : List Int, l.length = i ∧ (∀ s ∈ l, 1 ≤ s ∧ s ≤ 10 ^ 12) ∧ Vf.St K (fun c => S c ∨ c = p) (fun c => c = b) H H' [] [(p, l.map D.int)] [b])
    ⟨⟨_, rfl⟩, [], rfl, (fun s m => by simp at m), st⟩ ?_ ?_
  · rintro i σ H3 hi ⟨⟨y3, rfl⟩, l, hll, hls, st⟩
    walk_at "g"
    refine d_bm st (a := p) (es := l.map D.int) (by walk_at "mem") ?_
    walk_at "g"
    refine c_Dr (wd) st (by walk_at "dzl") ⟨by omega, by omega⟩ fun v d H1 ⟨a1, e, a10, a11⟩ st => ?_
    subst e
    obtain rfl := st.eqI (List.Mem.head _)
    walk_at "g"
    refine c_Dr (wd) st (by walk_at "dzl") ⟨by omega, by omega⟩ fun v d H1 ⟨a2, e, a20, a21⟩ st => ?_
    subst e
    obtain rfl := st.eqI (List.Mem.head _)
    walk_at "g"
    refine v_pow ⟨by decide, by decide, by decide⟩ ?_
    rw [show (10 : Int) ^ (12 : Int).toNat = 10 ^ 12 from rfl]
    walk_at "g"
    refine d_lst st (ds := [.int (1 + a1), .int (1 + a2), .int (10 ^ 12)]) (by walk_at "dzl") (by simp) fun q H1 st => ?_
    walk_at "g"
    refine c_Dr (9) st (by walk_at "dzl") ⟨by omega, by omega⟩ fun v d H1 ⟨m3, e, m30, m31⟩ st => ?_
    subst e
    obtain rfl := st.eqI (List.Mem.head _)
    walk_at "g"
    refine v_div (wide_div (b := 8) (by omega) (by omega) (by decide) (by decide)) ?_
    walk_at "g"
    refine d_ixLP (P := fun d => ∃ y : Int, d = .int y ∧ 1 ≤ y ∧ y ≤ 10 ^ 12) (st.dz (x := .ref q) (by walk_at "mem")) (by omega) (by simp; omega) (by simp; omega) fun v d ⟨y, e3, hy1, hy2⟩ hv => ?_
    subst e3
    cases hv
    have st := st.keep0
    walk_at "g"
    refine d_append st (i := 0) (d := .int y) rfl rfl z_int (by rw [List.length_map, hll]; omega) fun H5 st => ?_
    walk_at "g"
    refine ⟨⟨_, rfl⟩, l ++ [y], by rw [List.length_append, hll]; rfl, fun s m => ?_, ?_⟩
    · rcases List.mem_append.mp m with m | m
      · exact hls s m
      · rw [List.mem_singleton.mp m]; exact ⟨hy1, hy2⟩
    · rw [List.map_append]
      exact st
  · rintro σ H3 ⟨⟨y3, rfl⟩, l, hll, hls, st⟩
    walk_at "g"
    have st := st.give np
    exact k (.ref p) (.lst (l.map D.int)) H3 st.endB st.bagB (st.dz (by walk_at "mem")) ⟨l, rfl, by omega, hls⟩

-- needs: _law_take
-- needs: _law_rooms
-- needs: _law_stirs
def sqD (s : Sq) : D := .lst [.lst (s.rooms.map D.int), .lst (s.stirs.map D.int), .int s.grain, .int s.fade]
def sp__law_case (K : PySem.W.Frag) : Sp := spDr K (fun _ : Unit => []) (fun _ => True) (fun _ r => ∃ (s : Sq) (x y : Bool), s.Ok ∧ r = .tup [sqD s, .bl x, .bl y])
theorem ok__law_case (W : Wd K mg) : FnOk P w K mg base CX0 3 W.a__law_case W.d__law_case ["_law_bag_here"] (sp__law_case K) := by
  refine W.F__law_case.ok sc__law_case (fun vs H Q E h => spDr_len (n := 0) (fun _ => rfl) h) (fun cdv A outer s H vs Q E hr h => ?_)
  obtain ⟨S, b, _, u, rfl, ok, sb, bg, hz, _, k⟩ := h
  have st := St.startB ok sb bg hz
  obtain rfl := hz
  refine ⟨_, (pss_cons (ps_set (i := 1) sc__law_case.nd rfl (Or.inl rfl) (pe_ix (r := rIxG K) ixG (pe_lst (pa_cons pe_int (pa_cons (pe_call (ok__law_take W) (hr.mono (by decide)) (by rfl) W.m__law_take W.F__law_take.kp (b__law_take W) .nil pass0 (pa_cons (pv 0) (pa_cons (pe_op (r := rAddG K) opAdd (pe_op opPow pe_int pe_int) pe_int) pa_nil))) (pa_cons (pe_op opPow pe_int pe_int) pa_nil)))) (pe_call (ok__law_take W) (hr.mono (by decide)) (by rfl) W.m__law_take W.F__law_take.kp (b__law_take W) .nil pass0 (pa_cons (pv 0) (pa_cons pe_int pa_nil))) (fun _ _ => rfl)))
      (pss_cons (ps_set (i := 2) sc__law_case.nd rfl (Or.inl rfl) (pe_ix (r := rIxG K) ixG (pe_lst (pa_cons pe_int (pa_cons (pe_op (r := rAddG K) opAdd pe_int (pe_call (ok__law_take W) (hr.mono (by decide)) (by rfl) W.m__law_take W.F__law_take.kp (b__law_take W) .nil pass0 (pa_cons (pv 0) (pa_cons (pe_op opPow pe_int pe_int) pa_nil)))) pa_nil))) (pe_call (ok__law_take W) (hr.mono (by decide)) (by rfl) W.m__law_take W.F__law_take.kp (b__law_take W) .nil pass0 (pa_cons (pv 0) (pa_cons pe_int pa_nil))) (fun _ _ => rfl)))
      (pss_cons (ps_set (i := 3) sc__law_case.nd rfl (Or.inl rfl) (pe_lst (pa_cons (pe_call (ok__law_rooms W) (hr.mono (by decide)) (by rfl) W.m__law_rooms W.F__law_rooms.kp (b__law_rooms W) .nil pass0 (pa_cons (pv 0) pa_nil)) (pa_cons (pe_call (ok__law_stirs W) (hr.mono (by decide)) (by rfl) W.m__law_stirs W.F__law_stirs.kp (b__law_stirs W) .nil pass0 (pa_cons (pv 0) pa_nil)) (pa_cons (pv 1) (pa_cons (pv 2) pa_nil))))))
      (pss_one (ps_ret (pe_tup (pa_cons (pv 3) (pa_cons (pe_cmpR (r := rEqG K) (opEq hr.units) (pe_call (ok__law_take W) (hr.mono (by decide)) (by rfl) W.m__law_take W.F__law_take.kp (b__law_take W) .nil pass0 (pa_cons (pv 0) (pa_cons pe_int pa_nil))) pe_int (nomark _)) (pa_cons (pe_cmpR (r := rEqG K) (opEq hr.units) (pe_call (ok__law_take W) (hr.mono (by decide)) (by rfl) W.m__law_take W.F__law_take.kp (b__law_take W) .nil pass0 (pa_cons (pv 0) (pa_cons pe_int pa_nil))) pe_int (nomark _)) pa_nil))))))))), ?_⟩
  rw [show start N__law_case [.ref b] = [some (.ref b), none, none, none] from rfl]
  try dsimp only [cxOf]
  walk_at "g"
  refine v_pow ⟨by decide, by decide, by decide⟩ ?_
  rw [show (10 : Int) ^ (9 : Int).toNat = 10 ^ 9 from rfl]
  walk_at "g"
  refine c_Dr (10 ^ 9 + 1) st (by walk_at "dzl") ⟨by omega, by omega⟩ fun v d H1 ⟨m1, e, m10, m11⟩ st => ?_
  subst e
  obtain rfl := st.eqI (List.Mem.head _)
  walk_at "g"
  refine v_pow ⟨by decide, by decide, by decide⟩ ?_
  rw [show (10 : Int) ^ (9 : Int).toNat = 10 ^ 9 from rfl]
  walk_at "g"
  refine d_lst st (ds := [.int 0, .int m1, .int (10 ^ 9)]) (by walk_at "dzl") (by simp) fun q H1 st => ?_
  walk_at "g"
  refine c_Dr (3) st (by walk_at "dzl") ⟨by omega, by omega⟩ fun v d H1 ⟨m2, e, m20, m21⟩ st => ?_
  subst e
  obtain rfl := st.eqI (List.Mem.head _)
  walk_at "g"
  refine d_ixLP (P := fun d => ∃ y : Int, d = .int y ∧ 0 ≤ y ∧ y ≤ 10 ^ 9) (st.dz (x := .ref q) (by walk_at "mem")) m20 (by simp; omega) (by simp; omega) fun v d ⟨gr, e3, hg1, hg2⟩ hv => ?_
  subst e3
  cases hv
  walk_at "g"
  refine v_pow ⟨by decide, by decide, by decide⟩ ?_
  rw [show (10 : Int) ^ (9 : Int).toNat = 10 ^ 9 from rfl]
  walk_at "g"
  refine c_Dr (10 ^ 9) st (by walk_at "dzl") ⟨by omega, by omega⟩ fun v d H1 ⟨m3, e, m30, m31⟩ st => ?_
  subst e
  obtain rfl := st.eqI (List.Mem.head _)
  walk_at "g"
  refine d_lst st (ds := [.int 1, .int (1 + m3)]) (by walk_at "dzl") (by simp) fun q H1 st => ?_
  walk_at "g"
  refine c_Dr (2) st (by walk_at "dzl") ⟨by omega, by omega⟩ fun v d H1 ⟨m4, e, m40, m41⟩ st => ?_
  subst e
  obtain rfl := st.eqI (List.Mem.head _)
  walk_at "g"
  refine d_ixLP (P := fun d => ∃ y : Int, d = .int y ∧ 1 ≤ y ∧ y ≤ 10 ^ 9) (st.dz (x := .ref q) (by walk_at "mem")) m40 (by simp; omega) (by simp; omega) fun v d ⟨fa, e3, hf1, hf2⟩ hv => ?_
  subst e3
  cases hv
  walk_at "g"
  have st := st.keep0
  refine c_Dr () st zl_nil trivial fun v1 d H1 ⟨rs, e, r1, r2⟩ st => ?_
  subst e
  walk_at "g"
  refine c_Dr () st zl_nil trivial fun v2 d H1 ⟨ss, e, s1, s2⟩ st => ?_
  subst e
  walk_at "g"
  refine d_lst st (ds := [.lst (rs.map D.int), .lst (ss.map D.int), .int gr, .int fa]) (zl_cons (st.dz (x := v1) (by walk_at "mem")) (zl_cons (st.dz (x := v2) (by walk_at "mem")) (zl_cons z_int (zl_cons z_int zl_nil)))) (by simp) fun q H1 st => ?_
  walk_at "g"
  refine c_Dr (2) st (by walk_at "dzl") ⟨by omega, by omega⟩ fun v d H1 ⟨m5, e, m50, m51⟩ st => ?_
  subst e
  obtain rfl := st.eqI (List.Mem.head _)
  walk_at "g"
  refine c_Dr (2) st (by walk_at "dzl") ⟨by omega, by omega⟩ fun v d H1 ⟨m6, e, m60, m61⟩ st => ?_
  subst e
  obtain rfl := st.eqI (List.Mem.head _)
  walk_at "g"
  refine d_tup st (ds := [sqD ⟨rs, ss, gr, fa⟩, .bl (decide (m5 = 0)), .bl (decide (m6 = 0))]) (zl_cons (st.dz (x := .ref q) (by walk_at "mem")) (zl_cons z_bl (zl_cons z_bl zl_nil))) (by simp) fun q2 H1 st => ?_
  exact k (.ref q2) _ _ st.endB st.bagB (st.dz (by walk_at "mem")) ⟨⟨rs, ss, gr, fa⟩, _, _, ⟨r1, r2, s1, s2, ⟨hg1, hg2⟩, ⟨hf1, hf2⟩⟩, rfl⟩

-- needs: Store___init__
structure Mk where
  s : Sq
  plain : Bool
  bare : Bool
def Mk.enc (m : Mk) : List D := [.lst (m.s.rooms.map D.int), if m.plain then .non else .lst (m.s.stirs.map D.int), if m.bare then .non else .int m.s.grain, .int m.s.fade]
def Mk.out (m : Mk) : Sq := ⟨m.s.rooms, if m.plain then List.replicate 10 0 else m.s.stirs, if m.bare then 0 else m.s.grain, if m.bare then 1 else m.s.fade⟩
theorem Mk.ok {m : Mk} (h : m.s.Ok) : m.out.Ok := by
  obtain ⟨h1, h2, h3, h4, h5, h6⟩ := h
  refine ⟨h1, h2, ?_, ?_, ?_, ?_⟩ <;> simp only [Mk.out]
  · split
    · rfl
    · exact h3
  · split
    · intro r hr
      rw [(List.mem_replicate.mp hr).2]; omega
    · exact h4
  · split
    · omega
    · exact h5
  · split
    · omega
    · exact h6
def sp__law_made (K : PySem.W.Frag) (C C1 C2 : Addr) : Sp := spV K Mk.enc (fun m => m.s.Ok) (fun m => .ins C (m.out.fs C1 C2))
theorem ok__law_made (W : Wd K mg) : FnOk P w K mg base CX0 7 W.a__law_made W.d__law_made ["_law_rooms_here", "_law_stirring", "_law_grains", "_law_fading"] (sp__law_made K W.C_Store W.C_Shelf W.C_Story) := by
  refine W.F__law_made.ok sc__law_made (fun vs H Q E h => spV_len (n := 4) (fun _ => rfl) h) (fun cdv A outer s H vs Q E hr h => ?_)
  obtain ⟨S, ⟨sq, pl, ba⟩, ok, hz, ho, k⟩ := h
  have hk := Mk.ok (m := ⟨sq, pl, ba⟩) ho
  have st := St.start ok hz
  obtain ⟨x1, _, rfl, hx1, x2, _, rfl, hx2, x3, _, rfl, hx3, _, _, rfl, rfl, rfl⟩ := hz
  obtain ⟨a1, rfl⟩ := st.isL (x := x1) (ds := sq.rooms.map D.int) (by walk_at "mem")
  cases pl with
  | true =>
    obtain rfl : x2 = .non := hx2
    cases ba with
    | true =>
      obtain rfl : x3 = .non := hx3
      refine ⟨_, (pss_cons (ps_if (pt_cmpR (r := rIsNo) opIs (pv 1) pe_non (nomark _)) (pss_cons (ps_if (pt_cmpR (r := rIsNo) opIs (pv 2) pe_non (nomark _)) (pss_one (ps_ret (pe_make W.K_Store (ok_Store___init__ W) (hr.mono (by decide)) (by rfl) W.c_Store (kb_Store___init___1_ W).choose_spec.2 (kb_Store___init___1_ W).choose_spec.1 pass0 (pa_cons (pv 0) pa_nil)))) pss_nil)
      (pss_one (ps_ret (pe_makeK W.K_Store (ok_Store___init__ W) (hr.mono (by decide)) (by rfl) W.c_Store (kb_Store___init___1_grain_fade W).choose_spec pass0 (pa_cons (pv 0) pa_nil) (pk_cons (pv 2) (pk_cons (pv 3) pk_nil)))))) pss_nil)
      (pss_cons (ps_if (pt_cmpR (r := rIsNo) opIs (pv 2) pe_non (nomark _)) (pss_one (ps_ret (pe_makeK W.K_Store (ok_Store___init__ W) (hr.mono (by decide)) (by rfl) W.c_Store (kb_Store___init___1_stirs W).choose_spec pass0 (pa_cons (pv 0) pa_nil) (pk_cons (pv 1) pk_nil)))) pss_nil)
      (pss_one (ps_ret (pe_makeK W.K_Store (ok_Store___init__ W) (hr.mono (by decide)) (by rfl) W.c_Store (kb_Store___init___1_stirs_grain_fade W).choose_spec pass0 (pa_cons (pv 0) pa_nil) (pk_cons (pv 1) (pk_cons (pv 2) (pk_cons (pv 3) pk_nil)))))))), ?_⟩
      rw [show start N__law_made [.ref a1, .non, .non, .int sq.fade] = [some (.ref a1), some (.non), some (.non), some (.int sq.fade)] from rfl]
      try dsimp only [cxOf]
      walk_at "g"
      refine g_mk1 ?_
      walk_at "g"
      refine c_mk (Mk.out ⟨sq, true, true⟩, true) st (zl_cons (st.dz (x := .ref a1) (by walk_at "mem")) (zl_cons rfl (zl_cons z_int (zl_cons z_int zl_nil)))) ⟨hk, fun _ => rfl⟩ fun p H1 st => ?_
      exact k _ _ st.end_ (st.dz (List.Mem.head _))
    | false =>
      obtain rfl : x3 = .int sq.grain := hx3
      refine ⟨_, (pss_cons (ps_if (pt_cmpR (r := rIsNo) opIs (pv 1) pe_non (nomark _)) (pss_cons (ps_if (pt_cmpR (r := rIsNo) opIs (pv 2) pe_non (nomark _)) (pss_one (ps_ret (pe_make W.K_Store (ok_Store___init__ W) (hr.mono (by decide)) (by rfl) W.c_Store (kb_Store___init___1_ W).choose_spec.2 (kb_Store___init___1_ W).choose_spec.1 pass0 (pa_cons (pv 0) pa_nil)))) pss_nil)
      (pss_one (ps_ret (pe_makeK W.K_Store (ok_Store___init__ W) (hr.mono (by decide)) (by rfl) W.c_Store (kb_Store___init___1_grain_fade W).choose_spec pass0 (pa_cons (pv 0) pa_nil) (pk_cons (pv 2) (pk_cons (pv 3) pk_nil)))))) pss_nil)
      (pss_cons (ps_if (pt_cmpR (r := rIsNo) opIs (pv 2) pe_non (nomark _)) (pss_one (ps_ret (pe_makeK W.K_Store (ok_Store___init__ W) (hr.mono (by decide)) (by rfl) W.c_Store (kb_Store___init___1_stirs W).choose_spec pass0 (pa_cons (pv 0) pa_nil) (pk_cons (pv 1) pk_nil)))) pss_nil)
      (pss_one (ps_ret (pe_makeK W.K_Store (ok_Store___init__ W) (hr.mono (by decide)) (by rfl) W.c_Store (kb_Store___init___1_stirs_grain_fade W).choose_spec pass0 (pa_cons (pv 0) pa_nil) (pk_cons (pv 1) (pk_cons (pv 2) (pk_cons (pv 3) pk_nil)))))))), ?_⟩
      rw [show start N__law_made [.ref a1, .non, .int sq.grain, .int sq.fade] = [some (.ref a1), some (.non), some (.int sq.grain), some (.int sq.fade)] from rfl]
      try dsimp only [cxOf]
      walk_at "g"
      refine c_make (Mk.out ⟨sq, true, false⟩, true) st rfl rfl [.ref a1, .non, .int sq.grain, .int sq.fade] (fun _ => rfl) (zl_cons (st.dz (x := .ref a1) (by walk_at "mem")) (zl_cons rfl (zl_cons z_int (zl_cons z_int zl_nil)))) ⟨hk, fun _ => rfl⟩ fun p H1 st => ?_
      exact k _ _ st.end_ (st.dz (List.Mem.head _))
  | false =>
    obtain ⟨a2, rfl⟩ := st.isL (x := x2) (ds := sq.stirs.map D.int) (by walk_at "mem")
    cases ba with
    | true =>
      obtain rfl : x3 = .non := hx3
      refine ⟨_, (pss_cons (ps_if (pt_cmpR (r := rIsNo) opIs (pv 1) pe_non (nomark _)) (pss_cons (ps_if (pt_cmpR (r := rIsNo) opIs (pv 2) pe_non (nomark _)) (pss_one (ps_ret (pe_make W.K_Store (ok_Store___init__ W) (hr.mono (by decide)) (by rfl) W.c_Store (kb_Store___init___1_ W).choose_spec.2 (kb_Store___init___1_ W).choose_spec.1 pass0 (pa_cons (pv 0) pa_nil)))) pss_nil)
      (pss_one (ps_ret (pe_makeK W.K_Store (ok_Store___init__ W) (hr.mono (by decide)) (by rfl) W.c_Store (kb_Store___init___1_grain_fade W).choose_spec pass0 (pa_cons (pv 0) pa_nil) (pk_cons (pv 2) (pk_cons (pv 3) pk_nil)))))) pss_nil)
      (pss_cons (ps_if (pt_cmpR (r := rIsNo) opIs (pv 2) pe_non (nomark _)) (pss_one (ps_ret (pe_makeK W.K_Store (ok_Store___init__ W) (hr.mono (by decide)) (by rfl) W.c_Store (kb_Store___init___1_stirs W).choose_spec pass0 (pa_cons (pv 0) pa_nil) (pk_cons (pv 1) pk_nil)))) pss_nil)
      (pss_one (ps_ret (pe_makeK W.K_Store (ok_Store___init__ W) (hr.mono (by decide)) (by rfl) W.c_Store (kb_Store___init___1_stirs_grain_fade W).choose_spec pass0 (pa_cons (pv 0) pa_nil) (pk_cons (pv 1) (pk_cons (pv 2) (pk_cons (pv 3) pk_nil)))))))), ?_⟩
      rw [show start N__law_made [.ref a1, .ref a2, .non, .int sq.fade] = [some (.ref a1), some (.ref a2), some (.non), some (.int sq.fade)] from rfl]
      try dsimp only [cxOf]
      walk_at "g"
      refine c_make (Mk.out ⟨sq, false, true⟩, false) st rfl rfl [.ref a1, .ref a2, .int 0, .int 1] (fun _ => rfl) (zl_cons (st.dz (x := .ref a1) (by walk_at "mem")) (zl_cons (st.dz (x := .ref a2) (by walk_at "mem")) (zl_cons z_int (zl_cons z_int zl_nil)))) ⟨hk, fun h => by cases h⟩ fun p H1 st => ?_
      exact k _ _ st.end_ (st.dz (List.Mem.head _))
    | false =>
      obtain rfl : x3 = .int sq.grain := hx3
      refine ⟨_, (pss_cons (ps_if (pt_cmpR (r := rIsNo) opIs (pv 1) pe_non (nomark _)) (pss_cons (ps_if (pt_cmpR (r := rIsNo) opIs (pv 2) pe_non (nomark _)) (pss_one (ps_ret (pe_make W.K_Store (ok_Store___init__ W) (hr.mono (by decide)) (by rfl) W.c_Store (kb_Store___init___1_ W).choose_spec.2 (kb_Store___init___1_ W).choose_spec.1 pass0 (pa_cons (pv 0) pa_nil)))) pss_nil)
      (pss_one (ps_ret (pe_makeK W.K_Store (ok_Store___init__ W) (hr.mono (by decide)) (by rfl) W.c_Store (kb_Store___init___1_grain_fade W).choose_spec pass0 (pa_cons (pv 0) pa_nil) (pk_cons (pv 2) (pk_cons (pv 3) pk_nil)))))) pss_nil)
      (pss_cons (ps_if (pt_cmpR (r := rIsNo) opIs (pv 2) pe_non (nomark _)) (pss_one (ps_ret (pe_makeK W.K_Store (ok_Store___init__ W) (hr.mono (by decide)) (by rfl) W.c_Store (kb_Store___init___1_stirs W).choose_spec pass0 (pa_cons (pv 0) pa_nil) (pk_cons (pv 1) pk_nil)))) pss_nil)
      (pss_one (ps_ret (pe_makeK W.K_Store (ok_Store___init__ W) (hr.mono (by decide)) (by rfl) W.c_Store (kb_Store___init___1_stirs_grain_fade W).choose_spec pass0 (pa_cons (pv 0) pa_nil) (pk_cons (pv 1) (pk_cons (pv 2) (pk_cons (pv 3) pk_nil)))))))), ?_⟩
      rw [show start N__law_made [.ref a1, .ref a2, .int sq.grain, .int sq.fade] = [some (.ref a1), some (.ref a2), some (.int sq.grain), some (.int sq.fade)] from rfl]
      try dsimp only [cxOf]
      walk_at "g"
      refine c_make (Mk.out ⟨sq, false, false⟩, false) st rfl rfl [.ref a1, .ref a2, .int sq.grain, .int sq.fade] (fun _ => rfl) (zl_cons (st.dz (x := .ref a1) (by walk_at "mem")) (zl_cons (st.dz (x := .ref a2) (by walk_at "mem")) (zl_cons z_int (zl_cons z_int zl_nil)))) ⟨hk, fun h => by cases h⟩ fun p H1 st => ?_
      exact k _ _ st.end_ (st.dz (List.Mem.head _))

-- needs: _law_made
-- needs: _law_case
theorem d_gL {K : PySem.W.Frag} {S : AS} {H : Hp} {a : Addr} {ds : List D} {n : Nat} {tg : TGs} {σ : L2.St} {N : L2.St → Hp → Prop} (h : Dz K S H (.lst ds) (.ref a)) (hn : ds.length = n) (q : ∀ xs, DzL K S H ds xs → tg xs σ H N) : gLst K n tg (.ref a) σ H N := by
  obtain ⟨xs, h1, h2⟩ := z_lst h
  exact ⟨a, xs, rfl, h1.sq, by rw [h2.len, hn], q xs h2⟩
theorem d_pick {K : PySem.W.Frag} {H : Hp} {Q : VK} {tmp : Addr} {v0 v1 : V} {b : Bool} (h : H tmp = some (.lst [v0, v1])) (q : Q (if b = true then v1 else v0) H) : rIxG K (.ref tmp) (.int (if b = true then 1 else 0)) H Q := by
  cases b
  · exact .inl ⟨tmp, [v0, v1], 0, v0, rfl, rfl, SqL.of h, rfl, q⟩
  · exact .inl ⟨tmp, [v0, v1], 1, v1, rfl, rfl, SqL.of h, rfl, q⟩
theorem d_at0 {K : PySem.W.Frag} {H : Hp} {Q : VK} {tmp : Addr} {v0 v1 : V} (h : H tmp = some (.lst [v0, v1])) (q : Q v0 H) : rIxG K (.ref tmp) (.int 0) H Q := .inl ⟨tmp, [v0, v1], 0, v0, rfl, rfl, SqL.of h, rfl, q⟩
theorem d_at1 {K : PySem.W.Frag} {H : Hp} {Q : VK} {tmp : Addr} {v0 v1 : V} (h : H tmp = some (.lst [v0, v1])) (q : Q v1 H) : rIxG K (.ref tmp) (.int 1) H Q := .inl ⟨tmp, [v0, v1], 1, v1, rfl, rfl, SqL.of h, rfl, q⟩
theorem g_slW {to : TE} {tl th : TO} {v : V} {σ : L2.St} {H : Hp} {N : L2.St → Hp → Prop} (h : to σ H fun x H1 => tl σ H1 fun a H2 => th σ H2 fun c H3 => rSlW a c x v H3 (fun H4 => N σ H4)) : gSlW to tl th v σ H N := h
/-- l[2:] = m of a list of four -/
theorem d_slw2 {K : PySem.W.Frag} {S M : AS} {H0 H : Hp} {G : List (V × D)} {L : List (Addr × List D)} {B : List Addr} {a b : Addr} {d0 d1 d2 d3 e0 e1 : D} {i : Nat} {N : Hp → Prop} (st : Vf.St K S M H0 H G L B) (hl : L[i]? = some (a, [d0, d1, d2, d3])) (hb : Dz K S H (.lst [e0, e1]) (.ref b)) (q : ∀ H', Vf.St K S M H0 H' G (L.set i (a, [d0, d1, e0, e1])) B → N H') : rSlW (some 2) none (.ref a) (.ref b) H N := by
  obtain ⟨s1, _, xs, h3, h4⟩ := st.la (a, [d0, d1, d2, d3]) (List.mem_of_getElem? hl)
  obtain ⟨ys, h5, h6⟩ := z_lst hb
  have s1 : S a := s1
  obtain ⟨x0, _, rfl, z0, x1, _, rfl, z1, x2, _, rfl, z2, x3, _, rfl, z3, rfl⟩ := h4
  obtain ⟨w0, _, rfl, y0, w1, _, rfl, y1, rfl⟩ := h6
  refine ⟨a, b, _, _, rfl, rfl, h3, h5.2, fun e => h5.1 (e ▸ s1), by show 6 ≤ sizeLine; rw [sizeLine_eq]; decide, ?_⟩
  show N (upd H a (.lst [x0, x1, w0, w1]))
  exact q _ (st.put hl (zl_cons z0 (zl_cons z1 (zl_cons y0 (zl_cons y1 zl_nil)))))
structure Sto where
  s : Sq
  plain : Bool
  bare : Bool
def Sto.m (x : Sto) : Sq := Mk.out ⟨x.s, x.plain, x.bare⟩
def pairD (C C1 C2 : Addr) (s : Sq) : D := .tup [.ins C (s.fs C1 C2), sqD s]
theorem sq_ok {s : Sq} (h : s.Ok) : (D.lst [.lst (s.rooms.map D.int), .lst (s.stirs.map D.int)]).Ok := by
  have i1 := ints_ok (ns := s.rooms) (fun i m => by have := h.rs i m; omega) (by have := h.rl; omega)
  have i2 := ints_ok (ns := s.stirs) (fun i m => by have := h.ss i m; omega) (by have := h.sl; omega)
  obtain ⟨a1, a2, a3⟩ := ints_fine (ns := s.rooms) (fun i m => by have := h.rs i m; omega)
  obtain ⟨b1, b2, b3⟩ := ints_fine (ns := s.stirs) (fun i m => by have := h.ss i m; omega)
  have l1 := h.rl
  have l2 := h.sl
  refine ⟨?_, ?_, ?_⟩
  · simp only [D.fine, D.fines, Bool.and_eq_true]
    exact ⟨a1, b1, trivial⟩
  · simp only [D.wt, D.wts]; omega
  · simp only [D.dep, D.deps]; omega
def sp__law_store (K : PySem.W.Frag) (C C1 C2 : Addr) : Sp := spV K (fun x : Sto => [sqD x.s, .bl x.plain, .bl x.bare]) (fun x => x.s.Ok) (fun x => pairD C C1 C2 x.m)
theorem ok__law_store (W : Wd K mg) : FnOk P w K mg base CX0 8 W.a__law_store W.d__law_store ["_law_things", "_law_plain", "_law_bare"] (sp__law_store K W.C_Store W.C_Shelf W.C_Story) := by
  refine W.F__law_store.ok sc__law_store (fun vs H Q E h => spV_len (n := 3) (fun _ => rfl) h) (fun cdv A outer s H vs Q E hr h => ?_)
  obtain ⟨S, ⟨sq, pl, ba⟩, ok, hz, ho, k⟩ := h
  have ho : sq.Ok := ho
  have st := St.start ok hz
  obtain ⟨x, _, rfl, hx, _, _, rfl, rfl, _, _, rfl, rfl, rfl⟩ := hz
  obtain ⟨t, rfl⟩ := st.isL (x := x) (ds := [.lst (sq.rooms.map D.int), .lst (sq.stirs.map D.int), .int sq.grain, .int sq.fade]) (by walk_at "mem")
  refine ⟨_, (pss_cons (ps_asg (pv 0) (pg_lst (by rfl) (pgs_cons (pg_name (i := 6) sc__law_store.nd rfl (.inl rfl)) (pgs_cons (pg_name (i := 7) sc__law_store.nd rfl (.inl rfl)) (pgs_cons (pg_name (i := 8) sc__law_store.nd rfl (.inl rfl)) (pgs_cons (pg_name (i := 9) sc__law_store.nd rfl (.inl rfl)) pgs_nil))))))
      (pss_cons (ps_set (i := 3) sc__law_store.nd rfl (Or.inl rfl) (pe_lst (pa_cons (pe_callTy call_listG (by rfl) W.n_list (by decide +kernel) (pa_cons (pv 6) pa_nil)) (pa_cons (pe_callTy call_listG (by rfl) W.n_list (by decide +kernel) (pa_cons (pv 7) pa_nil)) pa_nil))))
      (pss_cons (ps_set (i := 4) sc__law_store.nd rfl (Or.inl rfl) (pe_lst (pa_cons (pe_callTy call_listG (by rfl) W.n_list (by decide +kernel) (pa_cons (pv 6) pa_nil)) (pa_cons (pe_callTy call_listG (by rfl) W.n_list (by decide +kernel) (pa_cons (pv 7) pa_nil)) (pa_cons (pv 8) (pa_cons (pv 9) pa_nil))))))
      (pss_mid (ps_if (pt_truth (pv 1) (by intro _; rfl)) (pss_one (ps_asg (pe_op op_rep (pe_lst (pa_cons pe_int pa_nil)) pe_int) (pg_sub (pv 4) pe_int set_list))) pss_nil)
      (pss_mid (ps_if (pt_truth (pv 2) (by intro _; rfl)) (pss_one (ps_asg (pe_lst (pa_cons pe_int (pa_cons pe_int pa_nil))) (pg_slw (pv 4) (po_some pe_int) po_none))) pss_nil)
      (pss_cons (ps_set (i := 5) sc__law_store.nd rfl (Or.inl rfl) (pe_call (ok__law_made W) (hr.mono (by decide)) (by rfl) W.m__law_made W.F__law_made.kp (b__law_made W) .nil pass0 (pa_cons (pe_ix (r := rIxG K) ixG (pv 3) pe_int (fun _ _ => rfl)) (pa_cons (pe_ix (r := rIxG K) ixG (pe_lst (pa_cons (pe_ix (r := rIxG K) ixG (pv 3) pe_int (fun _ _ => rfl)) (pa_cons pe_non pa_nil))) (pe_callTy call_int1 (by rfl) W.n_int (by decide +kernel) (pa_cons (pv 1) pa_nil)) (fun _ _ => rfl)) (pa_cons (pe_ix (r := rIxG K) ixG (pe_lst (pa_cons (pv 8) (pa_cons pe_non pa_nil))) (pe_callTy call_int1 (by rfl) W.n_int (by decide +kernel) (pa_cons (pv 2) pa_nil)) (fun _ _ => rfl)) (pa_cons (pv 9) pa_nil))))))
      (pss_mid (ps_if (pt_cmpR (r := rNeG K) (opNe hr.units) (pv 3) (pe_lst (pa_cons (pv 6) (pa_cons (pv 7) pa_nil))) (nomark _)) (pss_one (ps_asg pe_non (pg_sub (pv 4) pe_int set_list))) pss_nil)
      (pss_cons (ps_expr (pe_bm PySem.F.plainAttrs_list PySem.F.slot_list_append PySem.F.type_list_append mt_append (pe_ix (r := rIxG K) ixG (pv 3) pe_int (fun _ _ => rfl)) (pa_cons pe_int pa_nil)))
      (pss_cons (ps_asg pe_int (pg_sub (pe_ix (r := rIxG K) ixG (pv 3) pe_int (fun _ _ => rfl)) pe_int set_list))
      (pss_one (ps_ret (pe_tup (pa_cons (pv 5) (pa_cons (pv 4) pa_nil)))))))))))))), ?_⟩
  rw [show start N__law_store [.ref t, .bl pl, .bl ba] = [some (.ref t), some (.bl pl), some (.bl ba), none, none, none, none, none, none, none] from rfl]
  try dsimp only [cxOf]
  walk_at "g"
  refine d_gL (st.dz (x := .ref t) (List.Mem.head _)) rfl fun xs hxs => ?_
  obtain ⟨y1, _, rfl, hy1, y2, _, rfl, hy2, _, _, rfl, rfl, _, _, rfl, rfl, rfl⟩ := hxs
  obtain ⟨a1, _, rfl, _, _⟩ := id hy1
  obtain ⟨a2, _, rfl, _, _⟩ := id hy2
  have st := (st.add hy1).add hy2
  walk_at "g"
  have st := st.sub (G' := [(.ref a1, .lst (sq.rooms.map D.int)), (.ref a2, .lst (sq.stirs.map D.int))]) (by walk_at "sub")
  refine d_listLo st (st.dz (x := .ref a1) (by walk_at "mem")) fun l1 H1 n1 _ st => ?_
  walk_at "g"
  refine d_listLo st (st.dz (x := .ref a2) (by walk_at "mem")) fun l2 H2 n2 _ st => ?_
  walk_at "g"
  refine ⟨by show 2 ≤ sizeLine; decide, fun hp nh => ?_⟩
  have nS := st.nS nh
  have hh : (upd H2 hp (.lst [.ref l1, .ref l2])) hp = some (.lst [.ref l1, .ref l2]) := upd_same
  have stA := st.same (Same.upd (o := .lst [.ref l1, .ref l2]) nh)
  generalize upd H2 hp (.lst [.ref l1, .ref l2]) = Ha at hh stA ⊢
  have st := stA.rebase
  have keep : ∀ {Hn : Hp} {S2 : AS} {G2 : List (V × D)} {L2 : List (Addr × List D)}, Vf.St K S2 (fun c => ∃ ds, (c, ds) ∈ [(l2, sq.stirs.map D.int), (l1, sq.rooms.map D.int)]) Ha Hn G2 L2 [] → Hn hp = some (.lst [.ref l1, .ref l2]) := fun s2 => s2.stays (fun p m e => nS (by
    rcases List.mem_cons.mp m with m | m
    · rw [m] at e; exact .inr e.symm
    · rw [List.mem_singleton.mp m] at e; exact .inl (.inr e.symm))) hh
  walk_at "g"
  refine d_listL st (st.dz (x := .ref a1) (by walk_at "mem")) fun m1 H1 st => ?_
  walk_at "g"
  refine d_listL st (st.dz (x := .ref a2) (by walk_at "mem")) fun m2 H1 st => ?_
  walk_at "g"
  refine d_own st (ds := [.lst (sq.rooms.map D.int), .lst (sq.stirs.map D.int), .int sq.grain, .int sq.fade]) (zl_cons (st.dz (x := .ref m1) (by walk_at "mem")) (zl_cons (st.dz (x := .ref m2) (by walk_at "mem")) (zl_cons z_int (zl_cons z_int zl_nil)))) (by simp) fun dl H1 nd st => ?_
  walk_at "g"
  have st := st.sub (G' := [(.ref a1, .lst (sq.rooms.map D.int)), (.ref a2, .lst (sq.stirs.map D.int))]) (by walk_at "sub")
  refine g_mid (fun σ' H' => σ' = [some (.ref t), some (.bl pl), some (.bl ba), some (.ref hp), some (.ref dl), none, some (.ref a1), some (.ref a2), some (.int sq.grain), some (.int sq.fade)] ∧ Vf.St K (fun b => ((S b ∨ b = l1) ∨ b = l2) ∨ b = dl) (fun c => ∃ ds, (c, ds) ∈ [(l2, sq.stirs.map D.int), (l1, sq.rooms.map D.int)]) Ha H' [(.ref a1, .lst (sq.rooms.map D.int)), (.ref a2, .lst (sq.stirs.map D.int))] [(dl, [.lst (sq.rooms.map D.int), .lst ((if pl = true then List.replicate 10 0 else sq.stirs).map D.int), .int sq.grain, .int sq.fade]), (l2, sq.stirs.map D.int), (l1, sq.rooms.map D.int)] []) ?_ ?_
  · walk_at "g"
    refine ⟨pl, rfl, ?_⟩
    have stM := st
    cases pl with
    | false => exact ⟨rfl, stM⟩
    | true =>
      walk_at "g"
      refine d_lst stM (ds := [.int 0]) (by walk_at "dzl") (by simp) fun q1 H2 st => ?_
      walk_at "g"
      refine d_repG (d := .int 0) (k := 10) st (st.dz (x := .ref q1) (by walk_at "mem")) (by omega) fun q2 H2 st => ?_
      walk_at "g"
      refine d_setO st (i := 0) (j := 1) (ds := [.lst (sq.rooms.map D.int), .lst (sq.stirs.map D.int), .int sq.grain, .int sq.fade]) rfl (show 1 < 4 by decide) (st.dz (x := .ref q2) (List.Mem.head _)) fun H3 st => ?_
      exact ⟨rfl, st.sub (by walk_at "sub")⟩
  rintro σ' H' ⟨rfl, st⟩
  refine g_mid (fun σ' H' => σ' = [some (.ref t), some (.bl pl), some (.bl ba), some (.ref hp), some (.ref dl), none, some (.ref a1), some (.ref a2), some (.int sq.grain), some (.int sq.fade)] ∧ Vf.St K (fun b => ((S b ∨ b = l1) ∨ b = l2) ∨ b = dl) (fun c => ∃ ds, (c, ds) ∈ [(l2, sq.stirs.map D.int), (l1, sq.rooms.map D.int)]) Ha H' [(.ref a1, .lst (sq.rooms.map D.int)), (.ref a2, .lst (sq.stirs.map D.int))] [(dl, [.lst (sq.rooms.map D.int), .lst ((if pl = true then List.replicate 10 0 else sq.stirs).map D.int), .int (if ba = true then 0 else sq.grain), .int (if ba = true then 1 else sq.fade)]), (l2, sq.stirs.map D.int), (l1, sq.rooms.map D.int)] []) ?_ ?_
  · walk_at "g"
    refine ⟨ba, rfl, ?_⟩
    have stM := st
    cases ba with
    | false => exact ⟨rfl, stM⟩
    | true =>
      walk_at "g"
      refine d_lst stM (ds := [.int 0, .int 1]) (by walk_at "dzl") (by simp) fun q1 H2 st => ?_
      walk_at "g"
      refine g_slW ?_
      walk_at "g"
      refine d_slw2 (i := 0) st rfl (st.dz (x := .ref q1) (List.Mem.head _)) fun H3 st => ?_
      exact ⟨rfl, st.sub (by walk_at "sub")⟩
  rintro σ' H' ⟨rfl, st⟩
  walk_at "g"
  refine d_at0 (keep st) ?_
  walk_at "g"
  refine d_at1 (keep st) ?_
  walk_at "g"
  refine ⟨by show 2 ≤ sizeLine; decide, fun t1 nt => ?_⟩
  have ht1 : (upd H' t1 (.lst [.ref l2, .non])) t1 = some (.lst [.ref l2, .non]) := upd_same
  have st := st.same (Same.upd (o := .lst [.ref l2, .non]) nt)
  generalize upd H' t1 (.lst [.ref l2, .non]) = Hb at ht1 st ⊢
  walk_at "g"
  refine .inr ⟨pl, rfl, ?_⟩
  refine d_pick ht1 ?_
  walk_at "g"
  refine ⟨by show 2 ≤ sizeLine; decide, fun t2 nt => ?_⟩
  have ht2 : (upd Hb t2 (.lst [.int sq.grain, .non])) t2 = some (.lst [.int sq.grain, .non]) := upd_same
  have st := st.same (Same.upd (o := .lst [.int sq.grain, .non]) nt)
  generalize upd Hb t2 (.lst [.int sq.grain, .non]) = Hc at ht2 st ⊢
  walk_at "g"
  refine .inr ⟨ba, rfl, ?_⟩
  refine d_pick ht2 ?_
  walk_at "g"
  have wS : ∀ b, S b → ((S b ∨ b = l1) ∨ b = l2) ∨ b = dl := fun b s => .inl (.inl (.inl s))
  have z1 : Dz K S Hc (.lst (sq.rooms.map D.int)) (.ref l1) := by
    obtain ⟨_, _, xs, h3, h4⟩ := st.la (l1, sq.rooms.map D.int) (by simp)
    exact ⟨l1, xs, rfl, ⟨n1, h3⟩, DzL.weak wS h4⟩
  have z2 : Dz K S Hc (.lst (sq.stirs.map D.int)) (.ref l2) := by
    obtain ⟨_, _, xs, h3, h4⟩ := st.la (l2, sq.stirs.map D.int) (by simp)
    exact ⟨l2, xs, rfl, ⟨fun s => n2 (.inl s), h3⟩, DzL.weak wS h4⟩
  refine ⟨S, ⟨sq, pl, ba⟩, fun b s => st.ok b (wS b s), zl_cons z1 (zl_cons (by cases pl; exact z2; exact rfl) (zl_cons (by cases ba <;> exact rfl) (zl_cons z_int zl_nil))), ho, fun v Hd e hv => ?_⟩
  have st := st.same e
  have ne : ∀ {p : Addr} {ds : List D}, (p, ds) ∈ [(dl, [.lst (sq.rooms.map D.int), .lst ((if pl = true then List.replicate 10 0 else sq.stirs).map D.int), .int (if ba = true then 0 else sq.grain), .int (if ba = true then 1 else sq.fade)]), (l2, sq.stirs.map D.int), (l1, sq.rooms.map D.int)] → 0 < ds.length → ∃ y ys, Hd p = some (.lst (y :: ys)) := fun m hl => by
    obtain ⟨_, _, xs, h3, h4⟩ := st.la _ m
    have el := h4.len
    cases xs with
    | nil => rw [List.length_nil] at el; simp only at el; omega
    | cons y ys => exact ⟨y, ys, h3⟩
  have rl := ho.rl
  have sl := ho.sl
  have hv2 := Dz.ime (S := S) (S' := fun b => ((S b ∨ b = l1) ∨ b = l2) ∨ b = dl) (fun b s => by
    rcases s with ((s | rfl) | rfl) | rfl
    · exact .inl s
    · exact .inr (ne (ds := sq.rooms.map D.int) (by simp) (by rw [List.length_map]; omega))
    · exact .inr (ne (ds := sq.stirs.map D.int) (by simp) (by rw [List.length_map]; omega))
    · exact .inr (ne (List.Mem.head _) (by simp))) _ _ (by simp only [D.ime, D.imeF, D.imes, Sq.fs, Sq.shelfD, Sq.shelf, storyFs, imes_ints]; rfl) hv
  have st := st.add hv2
  walk_at "g"
  refine g_mid (fun σ' H' => σ' = [some (.ref t), some (.bl pl), some (.bl ba), some (.ref hp), some (.ref dl), some v, some (.ref a1), some (.ref a2), some (.int sq.grain), some (.int sq.fade)] ∧ Vf.St K (fun b => ((S b ∨ b = l1) ∨ b = l2) ∨ b = dl) (fun c => ∃ ds, (c, ds) ∈ [(l2, sq.stirs.map D.int), (l1, sq.rooms.map D.int)]) Ha H' [(v, .ins W.C_Store (Sq.fs W.C_Shelf W.C_Story (Mk.out ⟨sq, pl, ba⟩)))] [(dl, [.lst (sq.rooms.map D.int), .lst ((if pl = true then List.replicate 10 0 else sq.stirs).map D.int), .int (if ba = true then 0 else sq.grain), .int (if ba = true then 1 else sq.fade)]), (l2, sq.stirs.map D.int), (l1, sq.rooms.map D.int)] []) ?_ ?_
  · walk_at "g"
    refine d_lst st (ds := [.lst (sq.rooms.map D.int), .lst (sq.stirs.map D.int)]) (zl_cons (st.dz (x := .ref a1) (by walk_at "mem")) (zl_cons (st.dz (x := .ref a2) (by walk_at "mem")) zl_nil)) (by simp) fun q3 He st => ?_
    walk_at "g"
    have z1 : Dz K S He (.lst (sq.rooms.map D.int)) (.ref l1) := by
      obtain ⟨_, _, xs, h3, h4⟩ := st.la (l1, sq.rooms.map D.int) (by simp)
      exact ⟨l1, xs, rfl, ⟨n1, h3⟩, DzL.weak wS h4⟩
    have z2 : Dz K S He (.lst (sq.stirs.map D.int)) (.ref l2) := by
      obtain ⟨_, _, xs, h3, h4⟩ := st.la (l2, sq.stirs.map D.int) (by simp)
      exact ⟨l2, xs, rfl, ⟨fun s => n2 (.inl s), h3⟩, DzL.weak wS h4⟩
    refine o_neF (S := S) (d := .lst [.lst (sq.rooms.map D.int), .lst (sq.stirs.map D.int)]) ⟨hp, _, rfl, ⟨fun s => nS (.inl (.inl s)), keep st⟩, zl_cons z1 (zl_cons z2 zl_nil)⟩ (Dz.weak wS (st.dz (x := .ref q3) (List.Mem.head _))) (sq_ok ho) ?_
    walk_at "g"
    exact ⟨rfl, st.sub (by walk_at "sub")⟩
  rintro σ' H' ⟨rfl, st⟩
  walk_at "g"
  refine d_at0 (keep st) ?_
  refine d_bm st (a := l1) (es := sq.rooms.map D.int) (by simp) ?_
  walk_at "g"
  refine d_append st (i := 2) (d := .int 3) rfl rfl z_int (by rw [List.length_map]; omega) fun H5 st => ?_
  dsimp only [List.set_cons_zero, List.set_cons_succ] at st
  walk_at "g"
  refine d_at1 (keep st) ?_
  walk_at "g"
  refine d_setO st (i := 1) (j := 0) (d := .int 77) (ds := sq.stirs.map D.int) rfl (by rw [List.length_map]; omega) z_int fun H6 st => ?_
  dsimp only [List.set_cons_zero, List.set_cons_succ] at st
  walk_at "g"
  have st := st.give nd
  refine d_tup st (ds := [.ins W.C_Store (Sq.fs W.C_Shelf W.C_Story (Mk.out ⟨sq, pl, ba⟩)), sqD (Mk.out ⟨sq, pl, ba⟩)]) (zl_cons (st.dz (x := v) (by walk_at "mem")) (zl_cons (st.dz (x := .ref dl) (by walk_at "mem")) zl_nil)) (by simp) fun q4 H7 st => ?_
  exact k (.ref q4) H7 (stA.trans st).end_ (Dz.weak (fun b s => .inl (.inl s)) (st.dz (x := .ref q4) (List.Mem.head _)))

-- needs: Store___init__
-- needs: _law_alike
-- needs: _law_case
-- needs: _law_store
theorem walk_Lv {K : PySem.W.Frag} {a : Addr} {xs : List V} : Walk (Itl K a) xs.length (fun H => SqL K H a xs) (fun i H x H' => H' = H ∧ xs[i]? = some x) := by
  refine ⟨fun i H hi h => ?_, fun H h => ?_, fun i H x H' hi h y => ?_⟩
  · exact ⟨xs, xs[i], h, List.getElem?_eq_getElem hi⟩
  · exact ⟨xs, h, Nat.le_refl _⟩
  · have q := y.2 xs h
    exact ⟨y.1, q⟩
theorem for_LV {K : PySem.W.Frag} {a : Addr} {xs : List V} {H : Hp} {g : TG} {tb : TS} {E : Ends} {σ : L2.St} (Pv : Nat → L2.St → Hp → Prop) (hG : ∀ i σ H, Pv i σ H → SqL K H a xs) (h0 : Pv 0 σ H)
    (hs : ∀ i x σ H, xs[i]? = some x → i < xs.length → Pv i σ H → g x σ H fun σ2 H2 => tb { E with nx := Pv (i + 1), ct := Pv (i + 1), bk := E.nx } σ2 H2) (hd : ∀ σ H, Pv xs.length σ H → E.nx σ H) : FItl K (FFor g tb E σ) (.ref a) H := by
  refine ⟨a, rfl, ⟨xs, hG _ _ _ h0⟩, for_it walk_Lv Pv h0 (fun i σ H _ p => hG i σ H p) (fun i x σ H H' hi p y => ?_) hd⟩
  obtain ⟨e, q⟩ := y
  subst e
  exact hs i x σ _ q hi p
theorem sq5_ok {s : Sq} (h : s.Ok) : (D.lst [.lst (s.rooms.map D.int), .lst (s.stirs.map D.int), .int s.grain, .int s.fade, .int 0]).Ok := by
  obtain ⟨a1, a2, a3⟩ := ints_fine (ns := s.rooms) (fun i m => by have := h.rs i m; omega)
  obtain ⟨b1, b2, b3⟩ := ints_fine (ns := s.stirs) (fun i m => by have := h.ss i m; omega)
  have l1 := h.rl
  have l2 := h.sl
  have f1 := (int_ok (i := s.grain) (by have := h.g; omega)).fine
  have f2 := (int_ok (i := s.fade) (by have := h.f; omega)).fine
  have f3 := (int_ok (i := 0) (by decide)).fine
  refine ⟨?_, ?_, ?_⟩
  · simp only [D.fine, D.fines, Bool.and_eq_true] at *
    exact ⟨a1, b1, f1, f2, f3, trivial⟩
  · simp only [D.wt, D.wts]; omega
  · simp only [D.dep, D.deps]; omega
theorem rep_ints (n : Nat) : (List.replicate n (D.int 0)) = (List.replicate n (0 : Int)).map D.int := by rw [List.map_replicate]
theorem rep_ok {n : Nat} (h : n ≤ 100) : (D.lst (List.replicate n (D.int 0))).Ok := by
  rw [rep_ints]
  exact ints_ok (fun i m => by rw [(List.mem_replicate.mp m).2]; decide) (by rw [List.length_replicate]; omega)
structure Rt where
  s : Sq
  ns : List Str
structure Rt.Ok (r : Rt) : Prop where
  s : r.s.Ok
  l : r.ns.length = 3
  n : ∀ z ∈ r.ns, isName (.str z) = true ∧ fewS (.str z)
def sp__law_right (K : PySem.W.Frag) (C C1 C2 : Addr) : Sp := spBl K (fun r : Rt => [.ins C (r.s.fs C1 C2), sqD r.s, .lst (r.ns.map D.str)]) Rt.Ok (fun _ => true)
theorem ok__law_right (W : Wd K mg) : FnG P w K mg base CX0 7 W.a__law_right W.d__law_right ["_law_store_here", "_law_due", "_law_names_here"] (sp__law_right K W.C_Store W.C_Shelf W.C_Story) := by
  refine okG W.F__law_right sc__law_right (fun vs H Q E h => spBl_len (n := 3) (fun _ => rfl) h) (fun cdv A outer s H vs Q E hr hgd h => ?_)
  obtain ⟨S, ⟨sq, ns⟩, ok, hz, ⟨hs, hl3, hn⟩, k⟩ := h
  have hs : sq.Ok := hs
  have hl3 : ns.length = 3 := hl3
  have hn : ∀ z ∈ ns, isName (.str z) = true ∧ fewS (.str z) := hn
  have rl := hs.rl
  have sl := hs.sl
  have st := St.start ok hz
  obtain ⟨x, _, rfl, hx, y, _, rfl, hy, z, _, rfl, hz2, rfl⟩ := hz
  obtain ⟨a, rfl⟩ := st.isI (x := x) (by walk_at "mem")
  obtain ⟨dd, rfl⟩ := st.isL (x := y) (ds := [.lst (sq.rooms.map D.int), .lst (sq.stirs.map D.int), .int sq.grain, .int sq.fade]) (by walk_at "mem")
  obtain ⟨nm, rfl⟩ := st.isL (x := z) (ds := ns.map D.str) (by walk_at "mem")
  refine ⟨_, (pss_cons (ps_asg (pv 1) (pg_lst (by rfl) (pgs_cons (pg_name (i := 4) sc__law_right.nd rfl (.inl rfl)) (pgs_cons (pg_name (i := 5) sc__law_right.nd rfl (.inl rfl)) (pgs_cons (pg_name (i := 6) sc__law_right.nd rfl (.inl rfl)) (pgs_cons (pg_name (i := 7) sc__law_right.nd rfl (.inl rfl)) pgs_nil))))))
      (pss_cons (ps_for PassesOwn.never rfl (pi_range1 (by rfl) W.n_range (pa_cons pe_int pa_nil)) (pg_name (i := 3) sc__law_right.nd rfl (.inl rfl))
        (pss_cons (ps_set (i := 8) sc__law_right.nd rfl (Or.inl rfl) (pe_lst (pa_cons (pe_meth0 (pv 0) W.cl_Store W.M_Store_rooms (ok_Store_rooms W) (hr.mono (by decide)) (b_Store_rooms W) .nil pass0) (pa_cons (pe_meth0 (pv 0) W.cl_Store W.M_Store_stirs (ok_Store_stirs W) (hr.mono (by decide)) (b_Store_stirs W) .nil pass0) (pa_cons (pe_meth0 (pv 0) W.cl_Store W.M_Store_grain (ok_Store_grain W) (hr.mono (by decide)) (b_Store_grain W) .nil pass0) (pa_cons (pe_meth0 (pv 0) W.cl_Store W.M_Store_fade (ok_Store_fade W) (hr.mono (by decide)) (b_Store_fade W) .nil pass0) (pa_cons (pe_meth0 (pv 0) W.cl_Store W.M_Store_now (ok_Store_now W) (hr.mono (by decide)) (b_Store_now W) .nil pass0) pa_nil)))))))
      (pss_cons (ps_if (pt_not (pt_truth (pe_callGd (ok__law_alike W) (hr.mono (by decide)) hgd (by rfl) W.m__law_alike W.F__law_alike.kp (b__law_alike W) .nil pass0 (pa_cons (pv 8) (pa_cons (pe_lst (pa_cons (pv 4) (pa_cons (pv 5) (pa_cons (pv 6) (pa_cons (pv 7) (pa_cons pe_int pa_nil)))))) pa_nil))) (by intro _; rfl))) (pss_one (ps_ret pe_bl)) pss_nil)
      (pss_cons (ps_set (i := 9) sc__law_right.nd rfl (Or.inl rfl) (pe_lst (pa_cons (pe_meth0 (pv 0) W.cl_Store W.M_Store_there (ok_Store_there W) (hr.mono (by decide)) (b_Store_there W) .nil pass0) (pa_cons (pe_meth0 (pv 0) W.cl_Store W.M_Store_askers (ok_Store_askers W) (hr.mono (by decide)) (b_Store_askers W) .nil pass0) (pa_cons (pe_meth0 (pv 0) W.cl_Store W.M_Store_story (ok_Store_story W) (hr.mono (by decide)) (b_Store_story W) .nil pass0) pa_nil)))))
      (pss_mid (ps_if (PW.pt (pw_or (pt_not (pt_truth (pe_callGd (ok__law_alike W) (hr.mono (by decide)) hgd (by rfl) W.m__law_alike W.F__law_alike.kp (b__law_alike W) .nil pass0 (pa_cons (pv 9) (pa_cons (pe_lst (pa_cons (pe_lst pa_nil) (pa_cons (pe_lst pa_nil) (pa_cons (pe_lst pa_nil) pa_nil)))) pa_nil))) (by intro _; rfl))) (pw_or1 (pt_not (pt_truth (pe_callGd (ok__law_alike W) (hr.mono (by decide)) hgd (by rfl) W.m__law_alike W.F__law_alike.kp (b__law_alike W) .nil pass0 (pa_cons (pe_lst (pa_cons (pe_meth0 (pv 0) W.cl_Store W.M_Store_mender (ok_Store_mender W) (hr.mono (by decide)) (b_Store_mender W) .nil pass0) (pa_cons (pe_meth0 (pv 0) W.cl_Store W.M_Store_state (ok_Store_state W) (hr.mono (by decide)) (b_Store_state W) .nil pass0) pa_nil))) (pa_cons (pe_lst (pa_cons pe_non (pa_cons (pe_tup pa_nil) pa_nil))) pa_nil))) (by intro _; rfl)))))) (pss_one (ps_ret pe_bl)) pss_nil)
      (pss_cons (ps_if (pt_not (pt_truth (pe_callGd (ok__law_alike W) (hr.mono (by decide)) hgd (by rfl) W.m__law_alike W.F__law_alike.kp (b__law_alike W) .nil pass0 (pa_cons (pe_lc (own := [("_law_room", 11)]) rfl sc__law_right.nd (pi_range1 (by rfl) W.n_range (pa_cons (pe_callB (r := rLenG K) call_lenG (by rfl) W.n_len PySem.boot_len (pa_cons (pv 4) pa_nil)) pa_nil)) (blkOk_by (N := N__law_right) (sc := defScope s__law_right) (by decide +kernel)) (fun _ _ _ _ _ => (pg_name (i := 11) sc__law_right.nd rfl (.inl rfl))) (fun _ _ _ _ _ => pts_nil) (fun _ _ _ _ _ => (pe_meth (pv 0) W.cl_Store W.M_Store_total (ok_Store_total W) (hr.mono (by decide)) (b_Store_total W) .nil pass0 (pa_cons (pv 11) pa_nil)))) (pa_cons (pe_op op_rep (pe_lst (pa_cons pe_int pa_nil)) (pe_callB (r := rLenG K) call_lenG (by rfl) W.n_len PySem.boot_len (pa_cons (pv 4) pa_nil))) pa_nil))) (by intro _; rfl))) (pss_one (ps_ret pe_bl)) pss_nil)
      (pss_cons (ps_if (pt_not (pt_truth (pe_callGd (ok__law_alike W) (hr.mono (by decide)) hgd (by rfl) W.m__law_alike W.F__law_alike.kp (b__law_alike W) .nil pass0 (pa_cons (pe_lc (own := [("_law_name", 12)]) rfl sc__law_right.nd (piG (pv 2)) (blkOk_by (N := N__law_right) (sc := defScope s__law_right) (by decide +kernel)) (fun _ _ _ _ _ => (pg_name (i := 12) sc__law_right.nd rfl (.inl rfl))) (fun _ _ _ _ _ => pts_nil) (fun _ _ _ _ _ => (pe_meth (pv 0) W.cl_Store W.M_Store_trace (ok_Store_trace W) (hr.mono (by decide)) (b_Store_trace W) .nil pass0 (pa_cons (pv 12) pa_nil)))) (pa_cons (pe_op op_rep (pe_lst (pa_cons pe_int pa_nil)) (pe_callB (r := rLenG K) call_lenG (by rfl) W.n_len PySem.boot_len (pa_cons (pv 2) pa_nil))) pa_nil))) (by intro _; rfl))) (pss_one (ps_ret pe_bl)) pss_nil)
      (pss_one (ps_for PassesOwn.never rfl (piG (pe_op (r := rAddG K) opAdd (pe_slice (r := rSlG K) slG (pv 8) po_none (po_some pe_int)) (pv 9))) (pg_name (i := 10) sc__law_right.nd rfl (.inl rfl))
        (pss_cons (ps_expr (pe_bm PySem.F.plainAttrs_list PySem.F.slot_list_append PySem.F.type_list_append mt_append (pv 10) (pa_cons pe_int pa_nil)))
      (pss_one (ps_expr (pe_bm0 PySem.F.plainAttrs_list PySem.F.slot_list_reverse PySem.F.type_list_reverse mt_reverse (pv 10))))))))))))))
      (pss_one (ps_ret pe_bl)))), ?_⟩
  rw [show start N__law_right [.ref a, .ref dd, .ref nm] = [some (.ref a), some (.ref dd), some (.ref nm), none, none, none, none, none, none, none, none, none, none] from rfl]
  try dsimp only [cxOf]
  walk_at "g"
  refine d_gL (st.dz (x := .ref dd) (d := sqD sq) (by walk_at "mem")) rfl fun xs hxs => ?_
  obtain ⟨y1, _, rfl, hy1, y2, _, rfl, hy2, _, _, rfl, rfl, _, _, rfl, rfl, rfl⟩ := hxs
  obtain ⟨a1, _, rfl, _, _⟩ := id hy1
  obtain ⟨a2, _, rfl, _, _⟩ := id hy2
  have st := (st.add hy1).add hy2
  walk_at "g"
  have st := st.sub (G' := [(.ref a, .ins W.C_Store (sq.fs W.C_Shelf W.C_Story)), (.ref a1, .lst (sq.rooms.map D.int)), (.ref a2, .lst (sq.stirs.map D.int)), (.ref nm, .lst (ns.map D.str))]) (by walk_at "sub")
  refine for_R (n := 2) (by decide) (by decide) (fun i σ H' => (∃ y3 y8 y9 y10 : Option V, σ = [some (.ref a), some (.ref dd), some (.ref nm), y3, some (.ref a1), some (.ref a2), some (.int sq.grain), some (.int sq.fade), y8, y9, y10, none, none]) ∧ Vf.St K S (fun _ => False) H H' [(.ref a, .ins W.C_Store (sq.fs W.C_Shelf W.C_Story)), (.ref a1, .lst (sq.rooms.map D.int)), (.ref a2, .lst (sq.stirs.map D.int)), (.ref nm, .lst (ns.map D.str))] [] []) ⟨⟨_, _, _, _, rfl⟩, st⟩ ?_ ?_
  · rintro i σ H9 hi ⟨⟨y3, y8, y9, y10, rfl⟩, st⟩
    have hi : i < 2 := by omega
    walk_at "g"
    refine d_meth (fs := sq.fs W.C_Shelf W.C_Story) (st.dz (x := .ref a) (by walk_at "mem")) (by with_unfolding_all rfl) ?_
    walk_at "g"
    refine c_New sq st (zl_cons (st.dz (x := .ref a) (by walk_at "mem")) zl_nil) trivial fun r1 H1 n1 st => ?_
    walk_at "g"
    refine d_meth (fs := sq.fs W.C_Shelf W.C_Story) (st.dz (x := .ref a) (by walk_at "mem")) (by with_unfolding_all rfl) ?_
    walk_at "g"
    refine c_New sq st (zl_cons (st.dz (x := .ref a) (by walk_at "mem")) zl_nil) trivial fun r2 H1 n2 st => ?_
    walk_at "g"
    refine d_meth (fs := sq.fs W.C_Shelf W.C_Story) (st.dz (x := .ref a) (by walk_at "mem")) (by with_unfolding_all rfl) ?_
    walk_at "g"
    refine c_Int sq st (zl_cons (st.dz (x := .ref a) (by walk_at "mem")) zl_nil) trivial fun H1 st => ?_
    walk_at "g"
    refine d_meth (fs := sq.fs W.C_Shelf W.C_Story) (st.dz (x := .ref a) (by walk_at "mem")) (by with_unfolding_all rfl) ?_
    walk_at "g"
    refine c_Int sq st (zl_cons (st.dz (x := .ref a) (by walk_at "mem")) zl_nil) trivial fun H1 st => ?_
    walk_at "g"
    refine d_meth (fs := sq.fs W.C_Shelf W.C_Story) (st.dz (x := .ref a) (by walk_at "mem")) (by with_unfolding_all rfl) ?_
    walk_at "g"
    refine c_Int sq st (zl_cons (st.dz (x := .ref a) (by walk_at "mem")) zl_nil) trivial fun H1 st => ?_
    walk_at "g"
    refine ⟨by show 5 ≤ sizeLine; decide, fun fp nh => ?_⟩
    have nS := st.nS nh
    have stA := st.same (Same.upd (o := .lst [.ref r1, .ref r2, .int sq.grain, .int sq.fade, .int 0]) nh)
    have hf : (upd H1 fp (.lst [.ref r1, .ref r2, .int sq.grain, .int sq.fade, .int 0])) fp = some (.lst [.ref r1, .ref r2, .int sq.grain, .int sq.fade, .int 0]) := upd_same
    generalize upd H1 fp (.lst [.ref r1, .ref r2, .int sq.grain, .int sq.fade, .int 0]) = Ha at hf stA ⊢
    have st := stA.rebase
    walk_at "g"
    have wS2 : ∀ b, S b → (S b ∨ b = r1) ∨ b = r2 := fun b s => .inl (.inl s)
    have kf : ∀ {Hn : Hp} {S2 : AS} {G2 : List (V × D)} {L2 : List (Addr × List D)}, Vf.St K S2 (fun c => ∃ ds, (c, ds) ∈ [(r2, sq.stirs.map D.int), (r1, sq.rooms.map D.int)]) Ha Hn G2 L2 [] → Hn fp = some (.lst [.ref r1, .ref r2, .int sq.grain, .int sq.fade, .int 0]) := fun s2 => s2.stays (fun p m e => nS (by have q := (stA.la p m).1; rw [e] at q; exact q)) hf
    refine d_lst st (ds := [.lst (sq.rooms.map D.int), .lst (sq.stirs.map D.int), .int sq.grain, .int sq.fade, .int 0]) (zl_cons (st.dz (x := .ref a1) (by walk_at "mem")) (zl_cons (st.dz (x := .ref a2) (by walk_at "mem")) (zl_cons z_int (zl_cons z_int (zl_cons z_int zl_nil))))) (by simp) fun q1 H1 st => ?_
    walk_at "g"
    have zf : Dz K S H1 (.lst [.lst (sq.rooms.map D.int), .lst (sq.stirs.map D.int), .int sq.grain, .int sq.fade, .int 0]) (.ref fp) := by
      have z1 : Dz K S H1 (.lst (sq.rooms.map D.int)) (.ref r1) := by
        obtain ⟨_, _, xs, h3, h4⟩ := st.la (r1, sq.rooms.map D.int) (by simp)
        exact ⟨r1, xs, rfl, ⟨n1, h3⟩, DzL.weak wS2 h4⟩
      have z2 : Dz K S H1 (.lst (sq.stirs.map D.int)) (.ref r2) := by
        obtain ⟨_, _, xs, h3, h4⟩ := st.la (r2, sq.stirs.map D.int) (by simp)
        exact ⟨r2, xs, rfl, ⟨fun s => n2 (.inl s), h3⟩, DzL.weak wS2 h4⟩
      exact ⟨fp, _, rfl, ⟨fun s => nS (.inl (.inl s)), kf st⟩, zl_cons z1 (zl_cons z2 (zl_cons z_int (zl_cons z_int (zl_cons z_int zl_nil))))⟩
    refine ⟨S, (.lst [.lst (sq.rooms.map D.int), .lst (sq.stirs.map D.int), .int sq.grain, .int sq.fade, .int 0]), fun b s => st.ok b (wS2 b s), zl_cons zf (zl_cons (Dz.weak wS2 (st.dz (x := .ref q1) (List.Mem.head _))) zl_nil), (sq5_ok hs), fun H2 e => ?_⟩
    have st := st.same e
    refine ⟨true, rfl, ?_⟩
    walk_at "g"
    refine d_meth (fs := sq.fs W.C_Shelf W.C_Story) (st.dz (x := .ref a) (by walk_at "mem")) (by with_unfolding_all rfl) ?_
    walk_at "g"
    refine c_New sq st (zl_cons (st.dz (x := .ref a) (by walk_at "mem")) zl_nil) trivial fun t1 H1 n3 st => ?_
    walk_at "g"
    refine d_meth (fs := sq.fs W.C_Shelf W.C_Story) (st.dz (x := .ref a) (by walk_at "mem")) (by with_unfolding_all rfl) ?_
    walk_at "g"
    refine c_New sq st (zl_cons (st.dz (x := .ref a) (by walk_at "mem")) zl_nil) trivial fun t2 H1 n4 st => ?_
    walk_at "g"
    refine d_meth (fs := sq.fs W.C_Shelf W.C_Story) (st.dz (x := .ref a) (by walk_at "mem")) (by with_unfolding_all rfl) ?_
    walk_at "g"
    refine c_New sq st (zl_cons (st.dz (x := .ref a) (by walk_at "mem")) zl_nil) trivial fun t3 H1 n5 st => ?_
    walk_at "g"
    refine ⟨by show 3 ≤ sizeLine; decide, fun lp nh => ?_⟩
    have nT := st.nS nh
    have stB := st.same (Same.upd (o := .lst [.ref t1, .ref t2, .ref t3]) nh)
    have hl : (upd H1 lp (.lst [.ref t1, .ref t2, .ref t3])) lp = some (.lst [.ref t1, .ref t2, .ref t3]) := upd_same
    generalize upd H1 lp (.lst [.ref t1, .ref t2, .ref t3]) = Hb at hl stB ⊢
    have st := stB.rebase
    walk_at "g"
    have wS5 : ∀ b, S b → ((((S b ∨ b = r1) ∨ b = r2) ∨ b = t1) ∨ b = t2) ∨ b = t3 := fun b s => .inl (.inl (.inl (.inl (.inl s))))
    have nfp : ∀ p ∈ [(t3, []), (t2, []), (t1, []), (r2, sq.stirs.map D.int), (r1, sq.rooms.map D.int)], p.1 ≠ fp := fun p m e => by
      obtain ⟨_, _, xs, h3, h4⟩ := stB.la p m
      rw [e, kf stB] at h3
      have e5 : xs = [.ref r1, .ref r2, .int sq.grain, .int sq.fade, .int 0] := by cases h3; rfl
      have el := h4.len
      rw [e5] at el
      have el : 5 = p.2.length := el
      simp only [List.mem_cons, List.not_mem_nil, or_false] at m
      rcases m with rfl | rfl | rfl | rfl | rfl <;> simp only [List.length_nil, List.length_map] at el <;> omega
    have kl : ∀ {Hn : Hp} {S2 : AS} {G2 : List (V × D)} {L2 : List (Addr × List D)}, Vf.St K S2 (fun c => ∃ ds, (c, ds) ∈ [(t3, []), (t2, []), (t1, []), (r2, sq.stirs.map D.int), (r1, sq.rooms.map D.int)]) Hb Hn G2 L2 [] → Hn lp = some (.lst [.ref t1, .ref t2, .ref t3]) ∧ Hn fp = some (.lst [.ref r1, .ref r2, .int sq.grain, .int sq.fade, .int 0]) := fun s2 => ⟨s2.stays (fun p m e => nT (by have q := (stB.la p m).1; rw [e] at q; exact q)) hl, s2.stays nfp (kf stB)⟩
    refine g_mid (fun σ' H' => σ' = [some (.ref a), some (.ref dd), some (.ref nm), some (.int (i : Nat)), some (.ref a1), some (.ref a2), some (.int sq.grain), some (.int sq.fade), some (.ref fp), some (.ref lp), y10, none, none] ∧ Vf.St K (fun b => ((((S b ∨ b = r1) ∨ b = r2) ∨ b = t1) ∨ b = t2) ∨ b = t3) (fun c => ∃ ds, (c, ds) ∈ [(t3, []), (t2, []), (t1, []), (r2, sq.stirs.map D.int), (r1, sq.rooms.map D.int)]) Hb H' [(.ref a, .ins W.C_Store (sq.fs W.C_Shelf W.C_Story)), (.ref a1, .lst (sq.rooms.map D.int)), (.ref a2, .lst (sq.stirs.map D.int)), (.ref nm, .lst (ns.map D.str))] [(t3, []), (t2, []), (t1, []), (r2, sq.stirs.map D.int), (r1, sq.rooms.map D.int)] []) ?_ ?_
    · walk_at "g"
      refine d_lst st (ds := []) zl_nil (by simp) fun q1 H1 st => ?_
      walk_at "g"
      refine d_lst st (ds := []) zl_nil (by simp) fun q2 H1 st => ?_
      walk_at "g"
      refine d_lst st (ds := []) zl_nil (by simp) fun q3 H1 st => ?_
      walk_at "g"
      refine d_lst st (ds := [.lst [], .lst [], .lst []]) (zl_cons (st.dz (x := .ref q1) (by walk_at "mem")) (zl_cons (st.dz (x := .ref q2) (by walk_at "mem")) (zl_cons (st.dz (x := .ref q3) (by walk_at "mem")) zl_nil))) (by simp) fun q4 H1 st => ?_
      walk_at "g"
      have zl_ : Dz K S H1 (.lst [.lst [], .lst [], .lst []]) (.ref lp) := by
        have z1 : Dz K S H1 (.lst []) (.ref t1) := by
          obtain ⟨_, _, xs, h3, h4⟩ := st.la (t1, []) (by simp)
          exact ⟨t1, xs, rfl, ⟨fun s => n3 (.inl (.inl s)), h3⟩, DzL.weak wS5 h4⟩
        have z2 : Dz K S H1 (.lst []) (.ref t2) := by
          obtain ⟨_, _, xs, h3, h4⟩ := st.la (t2, []) (by simp)
          exact ⟨t2, xs, rfl, ⟨fun s => n4 (.inl (.inl (.inl s))), h3⟩, DzL.weak wS5 h4⟩
        have z3 : Dz K S H1 (.lst []) (.ref t3) := by
          obtain ⟨_, _, xs, h3, h4⟩ := st.la (t3, []) (by simp)
          exact ⟨t3, xs, rfl, ⟨fun s => n5 (.inl (.inl (.inl (.inl s)))), h3⟩, DzL.weak wS5 h4⟩
        exact ⟨lp, _, rfl, ⟨fun s => nT (wS5 _ s), (kl st).1⟩, zl_cons z1 (zl_cons z2 (zl_cons z3 zl_nil))⟩
      refine ⟨S, .lst [.lst [], .lst [], .lst []], fun b s => st.ok b (wS5 b s), zl_cons zl_ (zl_cons (Dz.weak wS5 (st.dz (x := .ref q4) (List.Mem.head _))) zl_nil), ⟨by decide +kernel, by decide +kernel, by decide +kernel⟩, fun H2 e => ?_⟩
      have st := st.same e
      refine ⟨true, rfl, ?_⟩
      walk_at "g"
      refine d_meth (fs := sq.fs W.C_Shelf W.C_Story) (st.dz (x := .ref a) (by walk_at "mem")) (by with_unfolding_all rfl) ?_
      walk_at "g"
      refine c_Unit sq st (zl_cons (st.dz (x := .ref a) (by walk_at "mem")) zl_nil) trivial fun H1 st => ?_
      walk_at "g"
      refine d_meth (fs := sq.fs W.C_Shelf W.C_Story) (st.dz (x := .ref a) (by walk_at "mem")) (by with_unfolding_all rfl) ?_
      walk_at "g"
      refine c_V sq st (zl_cons (st.dz (x := .ref a) (by walk_at "mem")) zl_nil) trivial fun v1 H1 st => ?_
      walk_at "g"
      refine d_lst st (ds := [.non, .tup []]) (zl_cons z_non (zl_cons (st.dz (x := v1) (List.Mem.head _)) zl_nil)) (by simp) fun q5 H1 st => ?_
      walk_at "g"
      refine d_tup st (ds := []) zl_nil (by simp) fun q6 H1 st => ?_
      walk_at "g"
      refine d_lst st (ds := [.non, .tup []]) (zl_cons z_non (zl_cons (st.dz (x := .ref q6) (List.Mem.head _)) zl_nil)) (by simp) fun q7 H1 st => ?_
      walk_at "g"
      refine c_Bl (.lst [.non, .tup []]) st (zl_cons (st.dz (x := .ref q5) (by walk_at "mem")) (zl_cons (st.dz (x := .ref q7) (by walk_at "mem")) zl_nil)) ⟨by decide +kernel, by decide +kernel, by decide +kernel⟩ fun H1 st => ?_
      refine ⟨true, rfl, ?_⟩
      walk_at "g"
      exact ⟨rfl, st.sub (by walk_at "sub")⟩
    rintro σ' H' ⟨rfl, st⟩
    walk_at "g"
    refine d_lenL (st.dz (x := .ref a1) (by walk_at "mem")) ?_
    rw [List.length_map]
    walk_at "g"
    refine lc_RI (n := (sq.rooms.length : Nat)) (by omega) (by omega) st (fun i es => es = List.replicate i (D.int 0)) rfl ?_ ?_
    · rintro p i x H3 es np hi hl pe st rfl
      have hi : i < sq.rooms.length := by omega
      walk_at "g"
      refine ⟨rfl, ?_⟩
      walk_at "g"
      refine d_meth (fs := sq.fs W.C_Shelf W.C_Story) (st.dz (x := .ref a) (by walk_at "mem")) (by with_unfolding_all rfl) ?_
      walk_at "g"
      refine c_Int (sq, (i : Int)) st (zl_cons (st.dz (x := .ref a) (by walk_at "mem")) (zl_cons z_int zl_nil)) ⟨by show (0 : Int) ≤ (i : Int); omega, by show (i : Int) < ((sq.rooms.length : Nat) : Int); omega, rl.2⟩ fun H4 st => ?_
      refine lc_end st (fun q h => h) (by omega) hl z_int ?_
      rw [pe, rep_succ]
    rintro p1 H3 es pe hl5 st
    have pe : es = List.replicate sq.rooms.length (D.int 0) := pe
    subst pe
    walk_at "g"
    refine d_lst st (ds := [.int 0]) (by walk_at "dzl") (by simp) fun q1 H1 st => ?_
    walk_at "g"
    refine d_lenL (st.dz (x := .ref a1) (by walk_at "mem")) ?_
    rw [List.length_map]
    walk_at "g"
    refine d_repG (d := .int 0) (k := (sq.rooms.length : Nat)) st (st.dz (x := .ref q1) (by walk_at "mem")) (by omega) fun q2 H1 st => ?_
    walk_at "g"
    refine c_Bl (.lst (List.replicate sq.rooms.length (D.int 0))) st (zl_cons (st.dz (x := .ref p1) (by walk_at "mem")) (zl_cons (st.dz (x := .ref q2) (List.Mem.head _)) zl_nil)) (rep_ok (by omega)) fun H1 st => ?_
    refine ⟨true, rfl, ?_⟩
    walk_at "g"
    have st := st.sub (G' := [(.ref a, .ins W.C_Store (sq.fs W.C_Shelf W.C_Story)), (.ref a1, .lst (sq.rooms.map D.int)), (.ref a2, .lst (sq.stirs.map D.int)), (.ref nm, .lst (ns.map D.str))]) (by walk_at "sub")
    refine i_lst ?_
    walk_at "g"
    refine lc_L st (ds := ns.map D.str) (by walk_at "mem") (fun i es => es = List.replicate i (D.int 0)) rfl ?_ ?_
    · rintro p i d x H3 es np hd hi hl pe st
      rw [List.getElem?_map] at hd
      obtain ⟨z, hz, rfl⟩ := Option.map_eq_some_iff.mp hd
      obtain rfl := st.eqS (x := x) (List.Mem.head _)
      rw [List.length_map] at hi
      walk_at "g"
      refine ⟨rfl, ?_⟩
      walk_at "g"
      refine d_meth (fs := sq.fs W.C_Shelf W.C_Story) (st.dz (x := .ref a) (by walk_at "mem")) (by with_unfolding_all rfl) ?_
      walk_at "g"
      refine c_Int (sq, z) st (zl_cons (st.dz (x := .ref a) (by walk_at "mem")) (zl_cons z_str zl_nil)) (hn z (List.mem_of_getElem? hz)) fun H4 st => ?_
      refine lc_end st (fun q h => List.mem_cons_of_mem _ h) (by omega) hl z_int ?_
      rw [pe, rep_succ]
    rintro p2 H4 es pe hl6 st
    rw [List.length_map, hl3] at pe
    have pe : es = List.replicate 3 (D.int 0) := pe
    subst pe
    walk_at "g"
    refine d_lst st (ds := [.int 0]) (by walk_at "dzl") (by simp) fun q3 H1 st => ?_
    walk_at "g"
    refine d_lenL (st.dz (x := .ref nm) (by walk_at "mem")) ?_
    rw [List.length_map, hl3]
    walk_at "g"
    refine d_repG (d := .int 0) (k := 3) st (st.dz (x := .ref q3) (by walk_at "mem")) (by omega) fun q4 H1 st => ?_
    walk_at "g"
    refine c_Bl (.lst (List.replicate 3 (D.int 0))) st (zl_cons (st.dz (x := .ref p2) (by walk_at "mem")) (zl_cons (st.dz (x := .ref q4) (List.Mem.head _)) zl_nil)) (rep_ok (by omega)) fun H1 st => ?_
    refine ⟨true, rfl, ?_⟩
    walk_at "g"
    have st := st.sub (G' := [(.ref a, .ins W.C_Store (sq.fs W.C_Shelf W.C_Story)), (.ref a1, .lst (sq.rooms.map D.int)), (.ref a2, .lst (sq.stirs.map D.int)), (.ref nm, .lst (ns.map D.str))]) (by walk_at "sub")
    obtain ⟨hl9, hf9⟩ := kl st
    refine i_lst ?_
    walk_at "g"
    refine .inl ⟨fp, _, rfl, SqL.of hf9, fun p3 n3' => ?_⟩
    rw [show cutV [.ref r1, .ref r2, .int sq.grain, .int sq.fade, .int 0] none (some 2) = [.ref r1, .ref r2] from rfl]
    have hp3 : (upd H1 p3 (.lst [.ref r1, .ref r2])) p3 = some (.lst [.ref r1, .ref r2]) := upd_same
    have hl9 := Same.upd (o := .lst [.ref r1, .ref r2]) n3' lp _ hl9
    have st := st.same (Same.upd (o := .lst [.ref r1, .ref r2]) n3')
    generalize upd H1 p3 (.lst [.ref r1, .ref r2]) = Hq at hp3 hl9 st ⊢
    walk_at "g"
    refine .inr (.inr (.inl ⟨p3, lp, _, _, rfl, rfl, hp3, hl9, by show 5 ≤ sizeLine; rw [sizeLine_eq]; decide, fun fl nf => ?_⟩))
    rw [show [.ref r1, .ref r2] ++ [.ref t1, .ref t2, .ref t3] = [V.ref r1, .ref r2, .ref t1, .ref t2, .ref t3] from rfl]
    have nF := st.nS nf
    have hF : (upd Hq fl (.lst [.ref r1, .ref r2, .ref t1, .ref t2, .ref t3])) fl = some (.lst [.ref r1, .ref r2, .ref t1, .ref t2, .ref t3]) := upd_same
    have stC := st.same (Same.upd (o := .lst [.ref r1, .ref r2, .ref t1, .ref t2, .ref t3]) nf)
    generalize upd Hq fl (.lst [.ref r1, .ref r2, .ref t1, .ref t2, .ref t3]) = Hc at hF stC ⊢
    have st := stC.rebase
    have kF : ∀ {Hn : Hp} {S2 : AS} {G2 : List (V × D)} {L2 : List (Addr × List D)}, Vf.St K S2 (fun c => ∃ ds, (c, ds) ∈ [(t3, []), (t2, []), (t1, []), (r2, sq.stirs.map D.int), (r1, sq.rooms.map D.int)]) Hc Hn G2 L2 [] → Hn fl = some (.lst [.ref r1, .ref r2, .ref t1, .ref t2, .ref t3]) := fun s2 => s2.stays (fun p m e => nF (by have q := (stC.la p m).1; rw [e] at q; exact q)) hF
    refine for_LV (xs := [.ref r1, .ref r2, .ref t1, .ref t2, .ref t3]) (fun j σ H' => ∃ (y : Option V) (e1 e2 e3 e4 e5 : List D), σ = [some (.ref a), some (.ref dd), some (.ref nm), some (.int (i : Nat)), some (.ref a1), some (.ref a2), some (.int sq.grain), some (.int sq.fade), some (.ref fp), some (.ref lp), y, none, none] ∧ (e1.length ≤ 10 + j ∧ e2.length ≤ 10 + j ∧ e3.length ≤ 10 + j ∧ e4.length ≤ 10 + j ∧ e5.length ≤ 10 + j) ∧ Vf.St K (fun b => ((((S b ∨ b = r1) ∨ b = r2) ∨ b = t1) ∨ b = t2) ∨ b = t3) (fun c => ∃ ds, (c, ds) ∈ [(t3, []), (t2, []), (t1, []), (r2, sq.stirs.map D.int), (r1, sq.rooms.map D.int)]) Hc H' [(.ref a, .ins W.C_Store (sq.fs W.C_Shelf W.C_Story)), (.ref a1, .lst (sq.rooms.map D.int)), (.ref a2, .lst (sq.stirs.map D.int)), (.ref nm, .lst (ns.map D.str))] [(t3, e5), (t2, e4), (t1, e3), (r2, e2), (r1, e1)] [])
      (fun j σ H' ⟨_, _, _, _, _, _, _, _, s2⟩ => SqL.of (kF s2)) ⟨_, _, _, _, _, _, rfl, ⟨by rw [List.length_map]; omega, by rw [List.length_map]; omega, Nat.zero_le _, Nat.zero_le _, Nat.zero_le _⟩, st⟩ ?_ ?_
    · rintro j x σ H5 hx hj ⟨y, e1, e2, e3, e4, e5, rfl, ⟨b1, b2, b3, b4, b5⟩, st⟩
      have hj : j < 5 := hj
      match j, hx with
      | 0, hx =>
        obtain rfl : V.ref r1 = x := Option.some.inj hx
        walk_at "g"
        refine d_bm st (a := r1) (es := e1) (by simp) ?_
        walk_at "g"
        refine d_append st (i := 4) (d := .int 5) rfl rfl z_int (by omega) fun H6 st => ?_
        dsimp only [List.set_cons_zero, List.set_cons_succ] at st
        walk_at "g"
        refine d_bm0 st (a := r1) (es := e1 ++ [.int 5]) (by simp) ?_
        refine d_reverse st (i := 4) rfl rfl fun H7 st => ?_
        dsimp only [List.set_cons_zero, List.set_cons_succ] at st
        walk_at "g"
        refine ⟨_, _, _, _, _, _, rfl, ⟨?_, ?_, ?_, ?_, ?_⟩, st⟩ <;> (try simp only [List.length_reverse, List.length_append, List.length_singleton]) <;> omega
      | 1, hx =>
        obtain rfl : V.ref r2 = x := Option.some.inj hx
        walk_at "g"
        refine d_bm st (a := r2) (es := e2) (by simp) ?_
        walk_at "g"
        refine d_append st (i := 3) (d := .int 5) rfl rfl z_int (by omega) fun H6 st => ?_
        dsimp only [List.set_cons_zero, List.set_cons_succ] at st
        walk_at "g"
        refine d_bm0 st (a := r2) (es := e2 ++ [.int 5]) (by simp) ?_
        refine d_reverse st (i := 3) rfl rfl fun H7 st => ?_
        dsimp only [List.set_cons_zero, List.set_cons_succ] at st
        walk_at "g"
        refine ⟨_, _, _, _, _, _, rfl, ⟨?_, ?_, ?_, ?_, ?_⟩, st⟩ <;> (try simp only [List.length_reverse, List.length_append, List.length_singleton]) <;> omega
      | 2, hx =>
        obtain rfl : V.ref t1 = x := Option.some.inj hx
        walk_at "g"
        refine d_bm st (a := t1) (es := e3) (by simp) ?_
        walk_at "g"
        refine d_append st (i := 2) (d := .int 5) rfl rfl z_int (by omega) fun H6 st => ?_
        dsimp only [List.set_cons_zero, List.set_cons_succ] at st
        walk_at "g"
        refine d_bm0 st (a := t1) (es := e3 ++ [.int 5]) (by simp) ?_
        refine d_reverse st (i := 2) rfl rfl fun H7 st => ?_
        dsimp only [List.set_cons_zero, List.set_cons_succ] at st
        walk_at "g"
        refine ⟨_, _, _, _, _, _, rfl, ⟨?_, ?_, ?_, ?_, ?_⟩, st⟩ <;> (try simp only [List.length_reverse, List.length_append, List.length_singleton]) <;> omega
      | 3, hx =>
        obtain rfl : V.ref t2 = x := Option.some.inj hx
        walk_at "g"
        refine d_bm st (a := t2) (es := e4) (by simp) ?_
        walk_at "g"
        refine d_append st (i := 1) (d := .int 5) rfl rfl z_int (by omega) fun H6 st => ?_
        dsimp only [List.set_cons_zero, List.set_cons_succ] at st
        walk_at "g"
        refine d_bm0 st (a := t2) (es := e4 ++ [.int 5]) (by simp) ?_
        refine d_reverse st (i := 1) rfl rfl fun H7 st => ?_
        dsimp only [List.set_cons_zero, List.set_cons_succ] at st
        walk_at "g"
        refine ⟨_, _, _, _, _, _, rfl, ⟨?_, ?_, ?_, ?_, ?_⟩, st⟩ <;> (try simp only [List.length_reverse, List.length_append, List.length_singleton]) <;> omega
      | 4, hx =>
        obtain rfl : V.ref t3 = x := Option.some.inj hx
        walk_at "g"
        refine d_bm st (a := t3) (es := e5) (by simp) ?_
        walk_at "g"
        refine d_append st (i := 0) (d := .int 5) rfl rfl z_int (by omega) fun H6 st => ?_
        dsimp only [List.set_cons_zero, List.set_cons_succ] at st
        walk_at "g"
        refine d_bm0 st (a := t3) (es := e5 ++ [.int 5]) (by simp) ?_
        refine d_reverse st (i := 0) rfl rfl fun H7 st => ?_
        dsimp only [List.set_cons_zero, List.set_cons_succ] at st
        walk_at "g"
        refine ⟨_, _, _, _, _, _, rfl, ⟨?_, ?_, ?_, ?_, ?_⟩, st⟩ <;> (try simp only [List.length_reverse, List.length_append, List.length_singleton]) <;> omega
      | j + 5, hx => exact absurd hj (by omega)
    · rintro σ H5 ⟨y, e1, e2, e3, e4, e5, rfl, _, st⟩
      have st := stA.trans (stB.trans (stC.trans st))
      exact ⟨⟨_, _, _, _, rfl⟩, ((((st.drop n5).drop n4).drop n3).drop n2).drop n1⟩
  · rintro σ H3 ⟨⟨y3, y8, y9, y10, rfl⟩, st⟩
    walk_at "g"
    exact k _ st.end_

def sp_Wrong___init__ (K : PySem.W.Frag) : Sp := spExI K "place"
theorem ok_Wrong___init__ (W : Wd K mg) : FnOk P w K mg base CX0 1 W.a_Wrong___init__ W.d_Wrong___init__ ["self", "place"] (sp_Wrong___init__ K) := by
  refine W.F_Wrong___init__.ok sc_Wrong___init__ (fun vs H Q E h => spExI_len h) (fun cdv A outer s H vs Q E hr h => ?_)
  obtain ⟨a, C, v, rfl, o, n, e, q⟩ := h
  refine ⟨_, (pss_one (ps_ost (pv 0) (pv 1))), ?_⟩
  rw [show start N_Wrong___init__ [.ref a, v] = [some (.ref a), some v] from rfl]
  exact exi_body rfl rfl o n e q

-- needs: Wrong___init__
-- needs: refuse_wrong
def spB_refuse_wrong (K : PySem.W.Frag) (Wr : Addr) : Sp := spBad K Wr (fun bs : List Bool => [.lst (bs.map D.bl)]) (fun bs => false ∈ bs ∧ bs.length ≤ 1000) (fun bs => bs.idxOf false)
def sp_refuse_wrong__x (K : PySem.W.Frag) (Wr : Addr) : Sp := spOr (sp_refuse_wrong K) (spB_refuse_wrong K Wr)
theorem ok_refuse_wrong__x (W : Wd K mg) : FnOk P w K mg base (L2.CX P w) 3 W.a_refuse_wrong W.d_refuse_wrong ["fits"] (sp_refuse_wrong__x K W.C_Wrong) := by
  refine FnOk.or (FnOk.lift (ok_refuse_wrong W)) ?_
  refine W.F_refuse_wrong.okX sc_refuse_wrong (fun vs H Q E h => spBad_len (n := 1) (fun _ => rfl) h) (fun cdv A outer s H vs Q E hr h => ?_)
  obtain ⟨S, bs, ok, hz, ⟨hf, hl⟩, k⟩ := h
  have hf : false ∈ bs := hf
  have st := St.start ok hz
  obtain ⟨x, _, rfl, hx, rfl⟩ := hz
  obtain ⟨a, rfl⟩ := st.isL (by walk_at "mem")
  refine ⟨_, (pss_one (ps_for (passes_of rfl) rfl (pi_enum (by rfl) W.n_enumerate (pa_cons (pv 0) pa_nil)) (pg_tup (by rfl) (pgs_cons (pg_name (i := 1) sc_refuse_wrong.nd rfl (.inl rfl)) (pgs_cons (pg_name (i := 2) sc_refuse_wrong.nd rfl (.inl rfl)) pgs_nil)))
        (pss_one (ps_if (pt_not (pt_truth (pv 2) (by intro _; rfl))) (pss_one (ps_raiseV rfl (takes_of rfl rfl rfl rfl) (pmk_oex W.x_Wrong.ob W.oi_Wrong W.ot_Wrong (ok_Wrong___init__ W) (hr.mono (by decide)) (b_Wrong___init__ W) .nil pass0 (by rfl) W.c_Wrong (pa_cons (pv 1) pa_nil)))) pss_nil)))), ?_⟩
  rw [show start N_refuse_wrong [.ref a] = [some (.ref a), none, none] from rfl]
  try dsimp only [cxOf]
  walk_at "g"
  refine for_E (K := K) (S := S) (fun i σ H' => (∃ y z, σ = [some (.ref a), y, z]) ∧ (∀ j, j < i → bs[j]? = some true) ∧ Vf.St K S (fun _ => False) H H' [(.ref a, .lst (bs.map D.bl))] [] []) (fun i σ H' h => h.2.2.dz (by walk_at "mem")) ⟨⟨_, _, rfl⟩, fun j h => absurd h (Nat.not_lt_zero _), st⟩ ?_ ?_
  · rintro i d x T σ H' hd hi hx ⟨⟨y, z, rfl⟩, ht, st⟩ nT
    rw [List.getElem?_map] at hd
    obtain ⟨b, hb, rfl⟩ := Option.map_eq_some_iff.mp hd
    obtain rfl : x = .bl b := hx
    have st := st.tup nT (zl_cons (z_int (i := (i : Nat))) (zl_cons (z_bl (i := b)) zl_nil))
    walk_at "g"
    refine d_gT (st.dz (by walk_at "mem")) rfl fun xs hxs => ?_
    obtain ⟨_, _, rfl, rfl, _, _, rfl, rfl, rfl⟩ := hxs
    walk_at "g"
    refine ⟨b, rfl, ?_⟩
    cases b with
    | true =>
      walk_at "g"
      refine ⟨⟨_, _, rfl⟩, fun j hj => ?_, st.sub (fun p h => List.mem_cons_of_mem _ h)⟩
      by_cases q : j < i
      · exact ht j q
      · rw [show j = i by omega]; exact hb
    | false =>
      refine g_iteT ?_
      walk_at "g"
      refine g_raise ?_
      refine g_mkO ?_
      walk_at "g"
      refine d_mkO W.x_Wrong.ob W.nf_Wrong fun d nd => ?_
      have st2 := st.same (Same.upd (o := .xd [("place", .int (i : Nat))]) nd)
      have e := idx_first hb ht
      refine k d _ st2.end_ (st.h0 nd) ?_
      show _ = some (HO.xd [("place", V.int ((bs.idxOf false : Nat) : Int))])
      rw [e]
      exact upd_same
  · rintro σ H' ⟨_, ht, st⟩
    exfalso
    obtain ⟨h1, _⟩ := idx_get hf
    have lt : bs.idxOf false < bs.length := by
      refine Decidable.byContradiction fun q => ?_
      rw [List.getElem?_eq_none (by omega)] at h1
      cases h1
    rw [List.length_map] at ht
    rw [ht _ lt] at h1
    cases h1

-- needs: Wrong___init__
-- needs: Store___init__
-- needs: refuse_wrong__x
structure Bx where
  r : D
  s : D
  g : D
  f : D
def Bx.enc (b : Bx) : List D := [b.r, b.s, b.g, b.f]
def Bx.bs (b : Bx) : List Bool := [isRooms b.r, isStirs b.s, isWithin b.g 0 (10 ^ 9), isWithin b.f 1 (10 ^ 9)]
structure Bx.Pre (b : Bx) : Prop where
  r : PreRow b.r
  s : PreRow b.s
  n : b.s ≠ .non
  g : b.g.noIns = true
  f : b.f.noIns = true
  bad : false ∈ b.bs
def spInX (K : PySem.W.Frag) (C Wr : Addr) : Sp := fun vs H Q E => ∃ S b a dx r, vs = .ref a :: r ∧ Okk S H ∧ S a ∧ H a = some (.ins C dx []) ∧ DzL K S H (Bx.enc b) r ∧ b.Pre ∧
  ∀ d H', (∀ c o, H c = some o → H' c = some o) → H d = none → H' d = some (.xd [("place", .int (b.bs.idxOf false : Nat))]) → E (.ref Wr) (some d) H'
theorem spInX_len {K : PySem.W.Frag} {C Wr : Addr} {vs : List V} {H : Hp} {Q : VK} {E : XK} (h : spInX K C Wr vs H Q E) : vs.length = 5 := by
  obtain ⟨S, b, a, dx, r, rfl, _, _, _, hz, _⟩ := h
  rw [List.length_cons, hz.len]; rfl
def sp_Store___init____x (K : PySem.W.Frag) (C Wr : Addr) : Sp := spInX K C Wr
theorem st_ne_non {K : PySem.W.Frag} {S : AS} {H : Hp} {d : D} {v : V} (h : Dz K S H d v) (n : d ≠ .non) : v ≠ .non := by
  cases d <;> first | exact absurd rfl n | (intro e; subst e; simp [Dz] at h)
theorem v_isNX {x : V} {H : Hp} {Q : VK} (h : x ≠ .non) (q : Q (.bl false) H) : rIsNo x .non H Q := ⟨rfl, by rw [decide_eq_false h]; exact q⟩
theorem ok_Store___init____x (W : Wd K mg) : FnOk P w K mg base (L2.CX P w) 5 W.a_Store___init__ W.d_Store___init__ ["self", "rooms", "stirs", "grain", "fade"] (sp_Store___init____x K W.C_Store W.C_Wrong) := by
  refine W.D_Store___init__.ok sc_Store___init__ (fun vs H Q E h => spInX_len h) (fun cdv A outer s H vs Q E hr h => ?_)
  obtain ⟨S, ⟨r, s, g, f⟩, a, dx, _, rfl, ok, sa, ha, hz, hp, k⟩ := h
  have st := St.start ok hz
  obtain ⟨x1, _, rfl, hx1, x2, _, rfl, hx2, x3, _, rfl, hx3, x4, _, rfl, hx4, rfl⟩ := hz
  have n2 := st_ne_non hx2 hp.n
  refine ⟨_, (pss_cons (ps_expr (pe_call (ok_refuse_wrong__x W) (hr.mono (by decide)) (by rfl) W.m_refuse_wrong W.F_refuse_wrong.kp (b_refuse_wrong W) .nil (passN 5 rfl (takes_of rfl rfl rfl rfl)) (pa_cons (pe_lst (pa_cons (pe_call (ok_are_rooms W) (hr.mono (by decide)) (by rfl) W.m_are_rooms W.F_are_rooms.kp (b_are_rooms W) .nil pass0 (pa_cons (pv 1) pa_nil)) (pa_cons (pe_or (pe_cmpR (r := rIsNo) opIs (pv 2) pe_non (nomark _)) (pe_one (pe_call (ok_are_stirs W) (hr.mono (by decide)) (by rfl) W.m_are_stirs W.F_are_stirs.kp (b_are_stirs W) .nil pass0 (pa_cons (pv 2) pa_nil)))) (pa_cons (pe_call (ok_is_size W) (hr.mono (by decide)) (by rfl) W.m_is_size W.F_is_size.kp (b_is_size W) .nil pass0 (pa_cons (pv 3) pa_nil)) (pa_cons (pe_call (ok_is_within W) (hr.mono (by decide)) (by rfl) W.m_is_within W.F_is_within.kp (b_is_within W) .nil pass0 (pa_cons (pv 4) (pa_cons pe_int (pa_cons (pe_glob (v := V.int 1000000000) rfl W.c_BILLION ⟨_, rfl⟩) pa_nil)))) pa_nil))))) pa_nil)))
      (pss_one (ps_fld (pv 0) (pe_make W.K_Shelf (ok_Shelf___init__ W) (hr.mono (by decide)) (by rfl) W.c_Shelf (b_Shelf___init__ W) .nil pass0 (pa_cons (pv 1) (pa_cons (pe_ifExp (pt_cmpR (r := rIsNo) opIs (pv 2) pe_non (nomark _)) (pe_op op_rep (pe_lst (pa_cons pe_int pa_nil)) (pe_glob (v := V.int 10) rfl W.c_SORTS ⟨_, rfl⟩)) (pv 2)) (pa_cons (pv 3) (pa_cons (pv 4) pa_nil))))) rfl))), ?_⟩
  rw [show start N_Store___init__ [.ref a, x1, x2, x3, x4] = [some (.ref a), some (x1), some (x2), some (x3), some (x4)] from rfl]
  try dsimp only [cxOf]
  walk_at "g"
  refine c_Bl r st (zl_cons (st.dz (x := x1) (by walk_at "mem")) zl_nil) hp.r fun H1 st => ?_
  walk_at "g"
  refine v_isNX n2 ?_
  walk_at "g"
  refine c_Bl s st (zl_cons (st.dz (x := x2) (by walk_at "mem")) zl_nil) hp.s fun H1 st => ?_
  walk_at "g"
  refine c_Bl g st (zl_cons (st.dz (x := x3) (by walk_at "mem")) zl_nil) hp.g fun H1 st => ?_
  walk_at "g"
  refine c_Bl (f, 1, 10 ^ 9) st (zl_cons (st.dz (x := x4) (by walk_at "mem")) (zl_cons z_int (zl_cons (z_int' (by dsimp only; decide)) zl_nil))) hp.f fun H1 st => ?_
  walk_at "g"
  refine d_lst st (ds := [isRooms r, isStirs s, isWithin g 0 (10 ^ 9), isWithin f 1 (10 ^ 9)].map D.bl) (zl_cons z_bl (zl_cons z_bl (zl_cons z_bl (zl_cons z_bl zl_nil)))) (show 4 ≤ 100000 by decide) fun p H1 st => ?_
  walk_at "g"
  have stB := st
  refine .inr ?_
  refine c_Bad [isRooms r, isStirs s, isWithin g 0 (10 ^ 9), isWithin f 1 (10 ^ 9)] st (zl_cons (st.dz (x := .ref p) (List.Mem.head _)) zl_nil) ⟨hp.bad, show 4 ≤ 1000 by decide⟩ fun dx H2 nd hx st => ?_
  exact fun σ _ => k dx H2 st.end_ (stB.h0 nd) hx
theorem c_makeX {K : PySem.W.Frag} {S M : AS} {H0 H : Hp} {G : List (V × D)} {L : List (Addr × List D)} {B : List Addr} {Q : VK} {C Wr : Addr} {n m : Nat} {gV : List V → List V → List V} {E : XK} {vs zs : List V} (b : Bx) (st : Vf.St K S M H0 H G L B) (hn : vs.length = n) (hm : zs.length = m) (r : List V) (hg : ∀ a, gV (.ref a :: vs) zs = .ref a :: r) (hz : DzL K S H b.enc r) (hp : b.Pre)
    (q : ∀ d H', H d = none → H' d = some (.xd [("place", .int (b.bs.idxOf false : Nat))]) → Vf.St K S M H0 H' G L B → E (.ref Wr) (some d) H') : FMake C n m (spInX K C Wr) gV E vs Q zs H := by
  refine ⟨hn, hm, fun a dx na nd ne => ?_⟩
  have e1 : Same H (upd (upd H dx (.own a)) a (.ins C dx [])) := fun c o h => by
    rw [upd_ne (ne_of_none h na), upd_ne (ne_of_none h nd)]
    exact h
  have ok2 : Okk (fun c => S c ∨ c = a) (upd (upd H dx (.own a)) a (.ins C dx [])) := fun c s => by
    rcases s with s | s
    · exact st.ok.same e1 c s
    · subst s; rw [upd_same]; exact fun w => by cases w
  refine ⟨fun c => S c ∨ c = a, b, a, dx, r, hg a, ok2, .inr rfl, upd_same, DzL.same e1 (DzL.fresh na hz), hp, fun d H' k hd hx => ?_⟩
  have n1 : d ≠ a := fun z => by rw [z, upd_same] at hd; cases hd
  rw [upd_ne n1] at hd
  have n2 : d ≠ dx := fun z => by rw [z, upd_same] at hd; cases hd
  rw [upd_ne n2] at hd
  exact q d H' hd hx (st.same fun c o h => k c o (e1 c o h))

-- needs: Store___init____x
-- needs: Wrong___init__
def sp__law_refused (K : PySem.W.Frag) : Sp := spInt K Bx.enc Bx.Pre (fun b => (b.bs.idxOf false : Nat))
theorem ok__law_refused (W : Wd K mg) : FnOk P w K mg base CX0 7 W.a__law_refused W.d__law_refused ["_law_rooms_here", "_law_stirring", "_law_grains", "_law_fading"] (sp__law_refused K) := by
  refine W.F__law_refused.ok sc__law_refused (fun vs H Q E h => spInt_len (n := 4) (fun _ => rfl) h) (fun cdv A outer s H vs Q E hr h => ?_)
  obtain ⟨S, b, ok, hz, hp, k⟩ := h
  have hp : b.Pre := hp
  have st := St.start ok hz
  obtain ⟨x1, _, rfl, hx1, x2, _, rfl, hx2, x3, _, rfl, hx3, x4, _, rfl, hx4, rfl⟩ := hz
  refine ⟨_, (pss_cons (ps_tryAs (i := 4) rfl rfl sc__law_refused.nd rfl rfl ⟨by rfl, by decide, .inl W.c_WaneError⟩
        (fun Wt pn xe tk po => (pss_one (ps_expr (pe_makeK W.K_Store (ok_Store___init____x W) (hr.mono (by decide)) (by rfl) W.c_Store (kb_Store___init___1_stirs_grain_fade W).choose_spec (passN 5 rfl tk) (pa_cons (pv 0) pa_nil) (pk_cons (pv 1) (pk_cons (pv 2) (pk_cons (pv 3) pk_nil)))))))
        (fun a oe cls d pn hz hf => (pss_cons (ps_if (PW.pt (pw_and (pt_val (pe_callB (call_isEX hz hf) (by rfl) W.n_isinstance (by decide +kernel) (pa_cons (pv 4) (pa_cons (pe_glob (v := V.ref W.C_Wrong) rfl W.c_Wrong rfl) pa_nil)))) (pw_and1 (pt_val (pe_callB (call_isEX hz hf) (by rfl) W.n_isinstance (by decide +kernel) (pa_cons (pv 4) (pa_cons (pe_bltn (v := .ty "ValueError") (by rfl) W.n_ValueError (by decide +kernel) rfl) pa_nil))))))) (pss_one (ps_ret (pe_xf W.x_Wrong.xf W.nf_Wrong hz hf (pv 4)))) pss_nil)
      (pss_one (ps_ret pe_str)))))
      (pss_one (ps_ret pe_non))), ?_⟩
  rw [show start N__law_refused [x1, x2, x3, x4] = [some (x1), some (x2), some (x3), some (x4), none] from rfl]
  try dsimp only [cxOf]
  walk_at "g"
  refine g_tryAs ?_
  walk_at "g"
  refine c_makeX (E := fun c d H' => _) b st rfl rfl [x1, x2, x3, x4] (fun _ => rfl) (zl_cons (st.dz (x := x1) (by walk_at "mem")) (zl_cons (st.dz (x := x2) (by walk_at "mem")) (zl_cons (st.dz (x := x3) (by walk_at "mem")) (zl_cons (st.dz (x := x4) (by walk_at "mem")) zl_nil)))) hp fun dx H1 nd hx st => ?_
  refine w_as (exm_own W.x_WaneError W.su_Wrong_WaneError) fun σ e hs ne => ?_
  walk_at "g"
  refine g_var (get_set hs (by decide)) ?_
  walk_at "g"
  refine d_isX W.x_Wrong hx (kit_own W.x_Wrong W.x_Wrong W.x_Wrong.ss) ?_
  walk_at "g"
  refine g_var (get_set hs (by decide)) ?_
  walk_at "g"
  refine d_isXV W.x_Wrong hx (kit_ve W.sv_Wrong) ?_
  walk_at "g"
  refine g_xf ?_
  refine g_var (get_set hs (by decide)) ?_
  refine d_xf hx ?_
  walk_at "g"
  exact k _ st.end_

-- needs: _law_take
-- needs: _law_case
-- needs: Store___init____x
/-- small things that may stand in a list -/
def itB (d : D) : Bool := d.fine && (decide (d.wt ≤ 1) && (decide (d.dep = 0) && d.noIns))
/-- what may stand at a place -/
structure El (d : D) : Prop where
  f : d.fine = true
  w : d.wt ≤ 60
  p : d.dep ≤ 1
  n : d.noIns = true
theorem itB_e {d : D} (h : itB d = true) : d.fine = true ∧ d.wt ≤ 1 ∧ d.dep = 0 ∧ d.noIns = true := by
  unfold itB at h
  simp only [Bool.and_eq_true, decide_eq_true_eq] at h
  exact h
theorem itB_int {i : Int} (h : i.natAbs < 2 ^ 200) : itB (.int i) = true := by
  have := (int_ok h).fine
  unfold itB
  rw [this]; rfl
theorem its_e : ∀ {ds : List D}, (∀ d ∈ ds, itB d = true) → D.fines ds = true ∧ D.wts ds ≤ 2 * ds.length ∧ D.deps ds = 0
  | [], _ => ⟨rfl, Nat.zero_le _, rfl⟩
  | d :: ds, h => by
    obtain ⟨a, b, c⟩ := its_e fun x m => h x (List.mem_cons_of_mem _ m)
    obtain ⟨x, y, z, _⟩ := itB_e (h d (List.mem_cons_self ..))
    refine ⟨by simp only [D.fines, x, a, Bool.and_self], ?_, ?_⟩
    · simp only [D.wts, List.length_cons]; omega
    · simp only [D.deps]; omega
theorem el_one {d : D} (h : itB d = true) : El d := by
  obtain ⟨a, b, c, e⟩ := itB_e h
  exact ⟨a, by omega, by omega, e⟩
theorem el_lst {ds : List D} (h : ∀ d ∈ ds, itB d = true) (hl : ds.length ≤ 20) : El (.lst ds) := by
  obtain ⟨a, b, c⟩ := its_e h
  exact ⟨by simp only [D.fine, a], by simp only [D.wt]; omega, by simp only [D.dep]; omega, rfl⟩
theorem el_tup {ds : List D} (h : ∀ d ∈ ds, itB d = true) (hl : ds.length ≤ 20) : El (.tup ds) := by
  obtain ⟨a, b, c⟩ := its_e h
  exact ⟨by simp only [D.fine, a], by simp only [D.wt]; omega, by simp only [D.dep]; omega, rfl⟩
theorem pre_lst {ds : List D} (h : ∀ d ∈ ds, itB d = true) (hl : ds.length ≤ 20) : PreRow (.lst ds) := by
  refine ⟨rfl, fun es e => ?_⟩
  cases e
  exact ⟨by omega, fun d m => (itB_e (h d m)).2.2.2⟩
theorem pre_not {d : D} (h : d.noIns = true) (n : ∀ ds, d ≠ .lst ds) : PreRow d := ⟨h, fun ds e => absurd e (n ds)⟩
structure BadR (d : D) : Prop where
  e : El d
  p : PreRow d
  b : isRooms d = false
structure BadS (d : D) : Prop where
  e : El d
  p : PreRow d
  b : isStirs d = false
  n : d ≠ .non
theorem rooms_bad {ds : List D} {d : D} (m : d ∈ ds) (h : isWithin d 1 (10 ^ 12) = false) : isRooms (.lst ds) = false := by
  show (decide _ && _) = false
  rw [Bool.and_eq_false_iff]
  refine .inr ?_
  rw [List.all_eq_false]
  exact ⟨d, m, by rw [h]; decide⟩
theorem stirs_bad {ds : List D} {d : D} (m : d ∈ ds) (h : isWithin d (-(10 ^ 9)) (10 ^ 9) = false) : isStirs (.lst ds) = false := by
  show (decide _ && _) = false
  rw [Bool.and_eq_false_iff]
  refine .inr ?_
  rw [List.all_eq_false]
  exact ⟨d, m, by rw [h]; decide⟩
theorem stirs_len {ds : List D} (h : ds.length ≠ 10) : isStirs (.lst ds) = false := by
  show (decide _ && _) = false
  rw [decide_eq_false h]; rfl
theorem rooms_len {ds : List D} (h : ¬ (1 ≤ ds.length ∧ ds.length ≤ 4)) : isRooms (.lst ds) = false := by
  show (decide _ && _) = false
  rw [decide_eq_false h]; rfl
theorem fa_nil {P : D → Prop} : ∀ d ∈ ([] : List D), P d := fun d h => by cases h
theorem fa_cons {P : D → Prop} {d : D} {ds : List D} (h : P d) (r : ∀ x ∈ ds, P x) : ∀ x ∈ d :: ds, P x := fun x m => by
  rcases List.mem_cons.mp m with m | m
  · rw [m]; exact h
  · exact r x m
def oddR : List D := [.int 0, .int (-1), .int (10 ^ 12 + 1), .bl true, .str (Str.ofString "5"), .non]
def oddS : List D := [.int (10 ^ 9 + 1), .int (-1 - 10 ^ 9), .bl false, .str (Str.ofString "0"), .non]
def oddG : List D := [.int (-1), .int (10 ^ 9 + 1), .non, .bl true, .str (Str.ofString "1")]
def oddF : List D := [.int 0, .int (10 ^ 9 + 1), .non, .bl true]
theorem oddR_ok : ∀ d ∈ oddR, itB d = true ∧ isWithin d 1 (10 ^ 12) = false := fun d m => by
  have := List.all_eq_true.mp (show oddR.all (fun d => itB d && !isWithin d 1 (10 ^ 12)) = true by decide +kernel) d m
  simpa using this
theorem oddS_ok : ∀ d ∈ oddS, itB d = true ∧ isWithin d (-(10 ^ 9)) (10 ^ 9) = false := fun d m => by
  have := List.all_eq_true.mp (show oddS.all (fun d => itB d && !isWithin d (-(10 ^ 9)) (10 ^ 9)) = true by decide +kernel) d m
  simpa using this
theorem oddG_ok : ∀ d ∈ oddG, itB d = true ∧ isWithin d 0 (10 ^ 9) = false := fun d m => by
  have := List.all_eq_true.mp (show oddG.all (fun d => itB d && !isWithin d 0 (10 ^ 9)) = true by decide +kernel) d m
  simpa using this
theorem oddF_ok : ∀ d ∈ oddF, itB d = true ∧ isWithin d 1 (10 ^ 9) = false := fun d m => by
  have := List.all_eq_true.mp (show oddF.all (fun d => itB d && !isWithin d 1 (10 ^ 9)) = true by decide +kernel) d m
  simpa using this
theorem its_ints {l : List Int} (h : ∀ i ∈ l, i.natAbs < 2 ^ 200) : ∀ d ∈ l.map D.int, itB d = true := fun d m => by
  obtain ⟨i, hi, rfl⟩ := List.mem_map.mp m
  exact itB_int (h i hi)
theorem its_set {ds : List D} {j : Nat} {d : D} (h : ∀ x ∈ ds, itB x = true) (hd : itB d = true) : ∀ x ∈ ds.set j d, itB x = true := fun x m => by
  rcases List.mem_or_eq_of_mem_set m with m | m
  · exact h x m
  · rw [m]; exact hd
theorem idx4 (f : Nat → Bool) (m : Nat) (hm : m < 4) (h1 : f m = true) (h2 : ∀ j, j < m → f j = false) : [!f 0, !f 1, !f 2, !f 3].idxOf false = m := by
  match m, hm with
  | 0, _ => rw [h1]; rfl
  | 1, _ => rw [h1, h2 0 (by decide)]; rfl
  | 2, _ => rw [h1, h2 0 (by decide), h2 1 (by decide)]; rfl
  | 3, _ => rw [h1, h2 0 (by decide), h2 1 (by decide), h2 2 (by decide)]; rfl
/-- the four things, those of the marked places spoilt -/
def pick4 (f : Nat → Bool) (g b : Bx) : Bx := ⟨if f 0 then b.r else g.r, if f 1 then b.s else g.s, if f 2 then b.g else g.g, if f 3 then b.f else g.f⟩
def sqB (s : Sq) : Bx := ⟨.lst (s.rooms.map D.int), .lst (s.stirs.map D.int), .int s.grain, .int s.fade⟩
structure BadB (b : Bx) : Prop where
  r : BadR b.r
  s : BadS b.s
  g : El b.g ∧ isWithin b.g 0 (10 ^ 9) = false
  f : El b.f ∧ isWithin b.f 1 (10 ^ 9) = false
structure GoodB (b : Bx) : Prop where
  r : El b.r ∧ PreRow b.r ∧ isRooms b.r = true
  s : El b.s ∧ PreRow b.s ∧ isStirs b.s = true ∧ b.s ≠ .non
  g : El b.g ∧ isWithin b.g 0 (10 ^ 9) = true
  f : El b.f ∧ isWithin b.f 1 (10 ^ 9) = true
theorem good_sq {s : Sq} (h : s.Ok) : GoodB (sqB s) := by
  have i1 : ∀ i ∈ s.rooms, i.natAbs < 2 ^ 200 := fun i m => by have := h.rs i m; omega
  have i2 : ∀ i ∈ s.stirs, i.natAbs < 2 ^ 200 := fun i m => by have := h.ss i m; omega
  have l1 := h.rl
  have l2 := h.sl
  have g := h.g
  have f := h.f
  refine ⟨⟨el_lst (its_ints i1) (by rw [List.length_map]; omega), pre_lst (its_ints i1) (by rw [List.length_map]; omega), rooms_good h.rl h.rs⟩, ⟨el_lst (its_ints i2) (by rw [List.length_map]; omega), pre_lst (its_ints i2) (by rw [List.length_map]; omega), stirs_good h.sl h.ss, fun e => by cases e⟩, ⟨el_one (itB_int (by omega)), decide_eq_true h.g⟩, ⟨el_one (itB_int (by omega)), decide_eq_true h.f⟩⟩
theorem pick_bs {g b : Bx} (hg : GoodB g) (hb : BadB b) (f : Nat → Bool) : (pick4 f g b).bs = [!f 0, !f 1, !f 2, !f 3] := by
  have e1 : isRooms (pick4 f g b).r = !f 0 := by
    show isRooms (if f 0 = true then b.r else g.r) = _
    cases f 0
    · exact hg.r.2.2
    · exact hb.r.b
  have e2 : isStirs (pick4 f g b).s = !f 1 := by
    show isStirs (if f 1 = true then b.s else g.s) = _
    cases f 1
    · exact hg.s.2.2.1
    · exact hb.s.b
  have e3 : isWithin (pick4 f g b).g 0 (10 ^ 9) = !f 2 := by
    show isWithin (if f 2 = true then b.g else g.g) _ _ = _
    cases f 2
    · exact hg.g.2
    · exact hb.g.2
  have e4 : isWithin (pick4 f g b).f 1 (10 ^ 9) = !f 3 := by
    show isWithin (if f 3 = true then b.f else g.f) _ _ = _
    cases f 3
    · exact hg.f.2
    · exact hb.f.2
  unfold Bx.bs
  rw [e1, e2, e3, e4]
theorem pick_els {g b : Bx} (hg : GoodB g) (hb : BadB b) (f : Nat → Bool) : ∀ d ∈ (pick4 f g b).enc, El d := by
  refine fa_cons ?_ (fa_cons ?_ (fa_cons ?_ (fa_cons ?_ fa_nil)))
  · show El (if f 0 = true then b.r else g.r)
    cases f 0
    · exact hg.r.1
    · exact hb.r.e
  · show El (if f 1 = true then b.s else g.s)
    cases f 1
    · exact hg.s.1
    · exact hb.s.e
  · show El (if f 2 = true then b.g else g.g)
    cases f 2
    · exact hg.g.1
    · exact hb.g.1
  · show El (if f 3 = true then b.f else g.f)
    cases f 3
    · exact hg.f.1
    · exact hb.f.1
theorem pick_pre {g b : Bx} (hg : GoodB g) (hb : BadB b) (f : Nat → Bool) {m : Nat} (hm : m < 4) (h1 : f m = true) : (pick4 f g b).Pre := by
  have els := pick_els hg hb f
  refine ⟨?_, ?_, ?_, (els _ (by simp [Bx.enc])).n, (els _ (by simp [Bx.enc])).n, ?_⟩
  · show PreRow (if f 0 = true then b.r else g.r)
    cases f 0
    · exact hg.r.2.1
    · exact hb.r.p
  · show PreRow (if f 1 = true then b.s else g.s)
    cases f 1
    · exact hg.s.2.1
    · exact hb.s.p
  · show (if f 1 = true then b.s else g.s) ≠ .non
    cases f 1
    · exact hg.s.2.2.2
    · exact hb.s.n
  · rw [pick_bs hg hb]
    match m, hm with
    | 0, _ => rw [h1]; simp
    | 1, _ => rw [h1]; simp
    | 2, _ => rw [h1]; simp
    | 3, _ => rw [h1]; simp
theorem els_ok {b : Bx} (h : ∀ d ∈ b.enc, El d) {i : Int} (hi : i.natAbs < 2 ^ 200) : (D.tup [.lst b.enc, .int i]).Ok := by
  have h1 := h b.r (by simp [Bx.enc])
  have h2 := h b.s (by simp [Bx.enc])
  have h3 := h b.g (by simp [Bx.enc])
  have h4 := h b.f (by simp [Bx.enc])
  have fi := (int_ok hi).fine
  have w1 := h1.w; have w2 := h2.w; have w3 := h3.w; have w4 := h4.w
  have p1 := h1.p; have p2 := h2.p; have p3 := h3.p; have p4 := h4.p
  refine ⟨?_, ?_, ?_⟩
  · simp only [Bx.enc, D.fine, D.fines, Bool.and_eq_true] at *
    exact ⟨⟨h1.f, h2.f, h3.f, h4.f, trivial⟩, fi, trivial⟩
  · simp only [Bx.enc, D.wt, D.wts] at *; omega
  · simp only [Bx.enc, D.dep, D.deps] at *; omega
theorem d_minI {K : PySem.W.Frag} {S : AS} {H : Hp} {Q : VK} {a : Addr} {ns : List Int} (h : Dz K S H (.lst (ns.map D.int)) (.ref a)) (h0 : 0 < ns.length) (q : ∀ m, m ∈ ns → (∀ y ∈ ns, m ≤ y) → Q (.int m) H) : rMin K [.ref a] H Q := by
  obtain ⟨xs, h1, h2⟩ := z_lst h
  have e := DzL.ints _ h2
  subst e
  exact ⟨a, ns, rfl, h1.sq, h0, q⟩
def sp__law_spoilt (K : PySem.W.Frag) : Sp := spDr K (fun s : Sq => [sqD s]) Sq.Ok (fun _ r => ∃ b : Bx, b.Pre ∧ r = .tup [.lst b.enc, .int (b.bs.idxOf false : Nat)] ∧ (D.tup [.lst b.enc, .int (b.bs.idxOf false : Nat)]).Ok)
theorem ok__law_spoilt (W : Wd K mg) : FnOk P w K mg base CX0 2 W.a__law_spoilt W.d__law_spoilt ["_law_bag_here", "_law_things"] (sp__law_spoilt K) := by
  refine W.F__law_spoilt.ok sc__law_spoilt (fun vs H Q E h => spDr_len (n := 1) (fun _ => rfl) h) (fun cdv A outer s H vs Q E hr h => ?_)
  obtain ⟨S, b, _, s, rfl, ok, sb, bg, hz, ho, k⟩ := h
  have ho : s.Ok := ho
  have i1 : ∀ i ∈ s.rooms, i.natAbs < 2 ^ 200 := fun i m => by have := ho.rs i m; omega
  have i2 : ∀ i ∈ s.stirs, i.natAbs < 2 ^ 200 := fun i m => by have := ho.ss i m; omega
  have l1 := ho.rl
  have l2 := ho.sl
  have st := St.startB ok sb bg hz
  obtain ⟨x, _, rfl, hx, rfl⟩ := hz
  obtain ⟨t, rfl⟩ := st.isL (x := x) (ds := [.lst (s.rooms.map D.int), .lst (s.stirs.map D.int), .int s.grain, .int s.fade]) (by walk_at "mem")
  refine ⟨_, (pss_cons (ps_par (i := 8) (j := 9) (by rfl) sc__law_spoilt.nd rfl rfl (by decide) rfl rfl (pa_cons (pe_callTy call_listG (by rfl) W.n_list (by decide +kernel) (pa_cons (pe_ix (r := rIxG K) ixG (pv 1) pe_int (fun _ _ => rfl)) pa_nil)) (pa_cons (pe_callTy call_listG (by rfl) W.n_list (by decide +kernel) (pa_cons (pe_ix (r := rIxG K) ixG (pv 1) pe_int (fun _ _ => rfl)) pa_nil)) pa_nil)) (by rfl))
      (pss_cons (ps_asg (pe_ix (r := rIxG K) ixG (pe_lst (pa_cons pe_int (pa_cons (pe_un un_neg pe_int) (pa_cons (pe_op (r := rAddG K) opAdd (pe_op opPow pe_int pe_int) pe_int) (pa_cons pe_bl (pa_cons pe_str (pa_cons pe_non pa_nil))))))) (pe_call (ok__law_take W) (hr.mono (by decide)) (by rfl) W.m__law_take W.F__law_take.kp (b__law_take W) .nil pass0 (pa_cons (pv 0) (pa_cons pe_int pa_nil))) (fun _ _ => rfl)) (pg_sub (pv 8) (pe_call (ok__law_take W) (hr.mono (by decide)) (by rfl) W.m__law_take W.F__law_take.kp (b__law_take W) .nil pass0 (pa_cons (pv 0) (pa_cons (pe_callB (r := rLenG K) call_lenG (by rfl) W.n_len PySem.boot_len (pa_cons (pv 8) pa_nil)) pa_nil))) set_list))
      (pss_cons (ps_asg (pe_ix (r := rIxG K) ixG (pe_lst (pa_cons (pe_op (r := rAddG K) opAdd (pe_op opPow pe_int pe_int) pe_int) (pa_cons (pe_op opSub (pe_un un_neg pe_int) (pe_op opPow pe_int pe_int)) (pa_cons pe_bl (pa_cons pe_str (pa_cons pe_non pa_nil)))))) (pe_call (ok__law_take W) (hr.mono (by decide)) (by rfl) W.m__law_take W.F__law_take.kp (b__law_take W) .nil pass0 (pa_cons (pv 0) (pa_cons pe_int pa_nil))) (fun _ _ => rfl)) (pg_sub (pv 9) (pe_call (ok__law_take W) (hr.mono (by decide)) (by rfl) W.m__law_take W.F__law_take.kp (b__law_take W) .nil pass0 (pa_cons (pv 0) (pa_cons pe_int pa_nil))) set_list))
      (pss_cons (ps_set (i := 2) sc__law_spoilt.nd rfl (Or.inl rfl) (pe_ix (r := rIxG K) ixG (pe_lst (pa_cons pe_non (pa_cons (pe_lst pa_nil) (pa_cons (pe_op op_rep (pe_lst (pa_cons pe_int pa_nil)) pe_int) (pa_cons (pe_callTy call_tupleG (by rfl) W.n_tuple (by decide +kernel) (pa_cons (pe_ix (r := rIxG K) ixG (pv 1) pe_int (fun _ _ => rfl)) pa_nil)) (pa_cons pe_int (pa_cons pe_str (pa_cons (pv 8) (pa_cons (pv 8) pa_nil))))))))) (pe_call (ok__law_take W) (hr.mono (by decide)) (by rfl) W.m__law_take W.F__law_take.kp (b__law_take W) .nil pass0 (pa_cons (pv 0) (pa_cons pe_int pa_nil))) (fun _ _ => rfl)))
      (pss_cons (ps_set (i := 3) sc__law_spoilt.nd rfl (Or.inl rfl) (pe_ix (r := rIxG K) ixG (pe_lst (pa_cons (pe_slice (r := rSlG K) slG (pe_ix (r := rIxG K) ixG (pv 1) pe_int (fun _ _ => rfl)) po_none (po_some pe_int)) (pa_cons (pe_op (r := rAddG K) opAdd (pe_ix (r := rIxG K) ixG (pv 1) pe_int (fun _ _ => rfl)) (pe_lst (pa_cons pe_int pa_nil))) (pa_cons (pe_callTy call_tupleG (by rfl) W.n_tuple (by decide +kernel) (pa_cons (pe_ix (r := rIxG K) ixG (pv 1) pe_int (fun _ _ => rfl)) pa_nil)) (pa_cons pe_int (pa_cons (pe_lst pa_nil) (pa_cons pe_bl (pa_cons (pv 9) (pa_cons (pv 9) pa_nil))))))))) (pe_call (ok__law_take W) (hr.mono (by decide)) (by rfl) W.m__law_take W.F__law_take.kp (b__law_take W) .nil pass0 (pa_cons (pv 0) (pa_cons pe_int pa_nil))) (fun _ _ => rfl)))
      (pss_cons (ps_set (i := 4) sc__law_spoilt.nd rfl (Or.inl rfl) (pe_lst (pa_cons (pv 2) (pa_cons (pv 3) (pa_cons (pe_ix (r := rIxG K) ixG (pe_lst (pa_cons (pe_un un_neg pe_int) (pa_cons (pe_op (r := rAddG K) opAdd (pe_op opPow pe_int pe_int) pe_int) (pa_cons pe_non (pa_cons pe_bl (pa_cons pe_str pa_nil)))))) (pe_call (ok__law_take W) (hr.mono (by decide)) (by rfl) W.m__law_take W.F__law_take.kp (b__law_take W) .nil pass0 (pa_cons (pv 0) (pa_cons pe_int pa_nil))) (fun _ _ => rfl)) pa_nil)))))
      (pss_cons (ps_expr (pe_bm PySem.F.plainAttrs_list PySem.F.slot_list_append PySem.F.type_list_append mt_append (pv 4) (pa_cons (pe_ix (r := rIxG K) ixG (pe_lst (pa_cons pe_int (pa_cons (pe_op (r := rAddG K) opAdd (pe_op opPow pe_int pe_int) pe_int) (pa_cons pe_non (pa_cons pe_bl pa_nil))))) (pe_call (ok__law_take W) (hr.mono (by decide)) (by rfl) W.m__law_take W.F__law_take.kp (b__law_take W) .nil pass0 (pa_cons (pv 0) (pa_cons pe_int pa_nil))) (fun _ _ => rfl)) pa_nil)))
      (pss_cons (ps_set (i := 5) sc__law_spoilt.nd rfl (Or.inl rfl) (pe_callTy call_listG (by rfl) W.n_list (by decide +kernel) (pa_cons (pv 1) pa_nil)))
      (pss_cons (ps_setLc (i := 6) (own := [("_law_k", 10)]) rfl sc__law_spoilt.nd rfl rfl (sw_true rfl rfl rfl (by decide +kernel)) (pi_range1 (by rfl) W.n_range (pa_cons (pe_op (r := rAddG K) opAdd pe_int (pe_call (ok__law_take W) (hr.mono (by decide)) (by rfl) W.m__law_take W.F__law_take.kp (b__law_take W) .nil pass0 (pa_cons (pv 0) (pa_cons pe_int pa_nil)))) pa_nil)) (blkOk_by (N := N__law_spoilt) (sc := defScope s__law_spoilt) (by decide +kernel)) (fun _ _ _ _ _ => (pg_name (i := 10) sc__law_spoilt.nd rfl (.inl rfl))) (fun _ _ _ _ _ => pts_nil) (fun _ _ _ _ _ => (pe_call (ok__law_take W) (hr.mono (by decide)) (by rfl) W.m__law_take W.F__law_take.kp (b__law_take W) .nil pass0 (pa_cons (pv 0) (pa_cons pe_int pa_nil)))))
      (pss_cons (ps_for PassesOwn.never rfl (piG (pv 6)) (pg_name (i := 7) sc__law_spoilt.nd rfl (.inl rfl))
        (pss_one (ps_asg (pe_ix (r := rIxG K) ixG (pv 4) (pv 7) (fun _ _ => rfl)) (pg_sub (pv 5) (pv 7) set_list))))
      (pss_one (ps_ret (pe_tup (pa_cons (pv 5) (pa_cons (pe_callB (cr_min rfl) (by rfl) W.n_min (by decide +kernel) (pa_cons (pv 6) pa_nil)) pa_nil))))))))))))))), ?_⟩
  rw [show start N__law_spoilt [.ref b, .ref t] = [some (.ref b), some (.ref t), none, none, none, none, none, none, none, none, none] from rfl]
  try dsimp only [cxOf]
  walk_at "g"
  refine d_ixL (i := 0) (d := .lst (s.rooms.map D.int)) (st.dz (x := .ref t) (by walk_at "mem")) rfl fun v hv => ?_
  obtain ⟨a1, _, rfl, _, _⟩ := id hv
  walk_at "g"
  refine d_listLo st hv fun p1 H1 n1 _ st => ?_
  walk_at "g"
  refine d_ixL (i := 1) (d := .lst (s.stirs.map D.int)) (st.dz (x := .ref t) (by walk_at "mem")) rfl fun v hv => ?_
  obtain ⟨a2, _, rfl, _, _⟩ := id hv
  walk_at "g"
  refine d_listLo st hv fun p2 H1 n2 _ st => ?_
  walk_at "g"
  refine ⟨1, rfl, ?_⟩
  walk_at "g"
  refine v_pow ⟨by decide, by decide, by decide⟩ ?_
  rw [show (10 : Int) ^ (12 : Int).toNat = 10 ^ 12 from rfl]
  walk_at "g"
  refine d_lst st (ds := oddR) (zl_cons z_int (zl_cons z_int (zl_cons z_int (zl_cons z_bl (zl_cons z_str (zl_cons z_non zl_nil)))))) (by simp) fun q H1 st => ?_
  walk_at "g"
  refine c_Dr (6) st (by walk_at "dzl") ⟨by omega, by omega⟩ fun v d H1 ⟨m1, e, m10, m11⟩ st => ?_
  subst e
  obtain rfl := st.eqI (List.Mem.head _)
  walk_at "g"
  refine d_ixLP (st.dz (x := .ref q) (by walk_at "mem")) m10 (by show m1 < 6; omega) oddR_ok fun v1 d1 ⟨o1, o2⟩ hv => ?_
  have st := st.add hv
  walk_at "g"
  refine d_lenB st (ds := s.rooms.map D.int) (by walk_at "mem") ?_
  rw [List.length_map]
  walk_at "g"
  refine c_Dr ((s.rooms.length : Nat)) st (by walk_at "dzl") ⟨by omega, by omega⟩ fun v d H1 ⟨m2, e, m20, m21⟩ st => ?_
  subst e
  obtain rfl := st.eqI (List.Mem.head _)
  walk_at "g"
  obtain ⟨j1, rfl⟩ : ∃ j : Nat, m2 = (j : Int) := ⟨m2.toNat, by omega⟩
  refine d_setO st (i := 1) (ds := s.rooms.map D.int) rfl (by rw [List.length_map]; omega) (st.dz (x := v1) (d := d1) (by walk_at "mem")) fun H1 st => ?_
  dsimp only [List.set_cons_zero, List.set_cons_succ] at st
  walk_at "g"
  refine v_pow ⟨by decide, by decide, by decide⟩ ?_
  rw [show (10 : Int) ^ (9 : Int).toNat = 10 ^ 9 from rfl]
  walk_at "g"
  refine ⟨1, rfl, ?_⟩
  walk_at "g"
  refine v_pow ⟨by decide, by decide, by decide⟩ ?_
  rw [show (10 : Int) ^ (9 : Int).toNat = 10 ^ 9 from rfl]
  walk_at "g"
  refine d_lst st (ds := oddS) (zl_cons z_int (zl_cons z_int (zl_cons z_bl (zl_cons z_str (zl_cons z_non zl_nil))))) (by simp) fun q2 H1 st => ?_
  walk_at "g"
  refine c_Dr (5) st (by walk_at "dzl") ⟨by omega, by omega⟩ fun v d H1 ⟨m3, e, m30, m31⟩ st => ?_
  subst e
  obtain rfl := st.eqI (List.Mem.head _)
  walk_at "g"
  refine d_ixLP (st.dz (x := .ref q2) (by walk_at "mem")) m30 (by show m3 < 5; omega) oddS_ok fun v2 d2 ⟨o3, o4⟩ hv => ?_
  have st := st.add hv
  walk_at "g"
  refine c_Dr (10) st (by walk_at "dzl") ⟨by omega, by omega⟩ fun v d H1 ⟨m4, e, m40, m41⟩ st => ?_
  subst e
  obtain rfl := st.eqI (List.Mem.head _)
  walk_at "g"
  obtain ⟨j2, rfl⟩ : ∃ j : Nat, m4 = (j : Int) := ⟨m4.toNat, by omega⟩
  refine d_setO st (i := 0) (ds := s.stirs.map D.int) rfl (by rw [List.length_map]; omega) (st.dz (x := v2) (d := d2) (by walk_at "mem")) fun H1 st => ?_
  dsimp only [List.set_cons_zero, List.set_cons_succ] at st
  have st := (st.give n2).give n1
  have b1 : BadR (.lst ((s.rooms.map D.int).set j1 d1)) := by
    have it := its_set (j := j1) (its_ints i1) o1
    have ll : ((s.rooms.map D.int).set j1 d1).length ≤ 20 := by rw [List.length_set, List.length_map]; omega
    exact ⟨el_lst it ll, pre_lst it ll, rooms_bad (List.mem_of_getElem? (List.getElem?_set_self (i := j1) (by rw [List.length_map]; omega))) o2⟩
  have b2 : BadS (.lst ((s.stirs.map D.int).set j2 d2)) := by
    have it := its_set (j := j2) (its_ints i2) o3
    have ll : ((s.stirs.map D.int).set j2 d2).length ≤ 20 := by rw [List.length_set, List.length_map]; omega
    exact ⟨el_lst it ll, pre_lst it ll, stirs_bad (List.mem_of_getElem? (List.getElem?_set_self (i := j2) (by rw [List.length_map]; omega))) o4, fun e => by cases e⟩
  have st := st.sub (G' := [(.ref t, sqD s), (.ref p1, .lst ((s.rooms.map D.int).set j1 d1)), (.ref p2, .lst ((s.stirs.map D.int).set j2 d2))]) (by walk_at "sub")
  generalize (s.rooms.map D.int).set j1 d1 = es1 at st b1
  generalize (s.stirs.map D.int).set j2 d2 = es2 at st b2
  walk_at "g"
  refine d_lst st (ds := []) zl_nil (by simp) fun q3 H1 st => ?_
  walk_at "g"
  refine d_lst st (ds := [.int 5]) (zl_cons z_int zl_nil) (by simp) fun q4 H1 st => ?_
  walk_at "g"
  refine d_repG (d := .int 5) (k := 5) st (st.dz (x := .ref q4) (by walk_at "mem")) (by omega) fun q5 H1 st => ?_
  walk_at "g"
  refine d_ixL (i := 0) (d := .lst (s.rooms.map D.int)) (st.dz (x := .ref t) (by walk_at "mem")) rfl fun v hv => ?_
  obtain ⟨a3, _, rfl, _, _⟩ := id hv
  walk_at "g"
  refine d_tupleL st (ds := s.rooms.map D.int) hv fun q6 H1 st => ?_
  walk_at "g"
  refine d_lst st (ds := [.non, .lst [], .lst (List.replicate (5 : Int).toNat (.int 5)), .tup (s.rooms.map D.int), .int 7, .str (Str.ofString "5"), .lst es1, .lst es1]) (zl_cons z_non (zl_cons (st.dz (x := .ref q3) (by walk_at "mem")) (zl_cons (st.dz (x := .ref q5) (by walk_at "mem")) (zl_cons (st.dz (x := .ref q6) (by walk_at "mem")) (zl_cons z_int (zl_cons z_str (zl_cons (st.dz (x := .ref p1) (by walk_at "mem")) (zl_cons (st.dz (x := .ref p1) (by walk_at "mem")) zl_nil)))))))) (by simp) fun q7 H1 st => ?_
  walk_at "g"
  refine c_Dr (8) st (by walk_at "dzl") ⟨by omega, by omega⟩ fun v d H1 ⟨m5, e, m50, m51⟩ st => ?_
  subst e
  obtain rfl := st.eqI (List.Mem.head _)
  walk_at "g"
  have f5 : ∀ d ∈ List.replicate (5 : Int).toNat (D.int 5), itB d = true := fun d m => by rw [(List.mem_replicate.mp m).2]; decide +kernel
  refine d_ixLP (P := BadR) (st.dz (x := .ref q7) (by walk_at "mem")) m50 (by show m5 < 8; omega) (fa_cons ⟨el_one (by decide +kernel), pre_not rfl (fun _ e => by cases e), rfl⟩ (fa_cons ⟨el_lst fa_nil (by decide), pre_lst fa_nil (by decide), rfl⟩ (fa_cons ⟨el_lst f5 (by decide), pre_lst f5 (by decide), rooms_len (by decide)⟩ (fa_cons ⟨el_tup (its_ints i1) (by rw [List.length_map]; omega), pre_not rfl (fun _ e => by cases e), rfl⟩ (fa_cons ⟨el_one (by decide +kernel), pre_not rfl (fun _ e => by cases e), rfl⟩ (fa_cons ⟨el_one (by decide +kernel), pre_not rfl (fun _ e => by cases e), rfl⟩ (fa_cons b1 (fa_cons b1 fa_nil)))))))) fun vo do_ bo hv => ?_
  have st := (st.add hv).sub (G' := [(vo, do_), (.ref t, sqD s), (.ref p2, .lst es2)]) (by walk_at "sub")
  walk_at "g"
  refine d_ixL (i := 1) (d := .lst (s.stirs.map D.int)) (st.dz (x := .ref t) (by walk_at "mem")) rfl fun v hv => ?_
  obtain ⟨a4, _, rfl, _, _⟩ := id hv
  walk_at "g"
  refine d_slL (lo := none) (hi := some 9) st hv fun q8 H1 st => ?_
  rw [show cutD (s.stirs.map D.int) none (some 9) = (s.stirs.map D.int).take 9 from cutD_to (i := 9) (by rw [List.length_map, l2]; decide)] at st
  walk_at "g"
  refine d_ixL (i := 1) (d := .lst (s.stirs.map D.int)) (st.dz (x := .ref t) (by walk_at "mem")) rfl fun v hv => ?_
  obtain ⟨a5, _, rfl, _, _⟩ := id hv
  walk_at "g"
  have st := st.add hv
  refine d_lst st (ds := [.int 0]) (zl_cons z_int zl_nil) (by simp) fun q9 H1 st => ?_
  walk_at "g"
  refine v_cat st (st.dz (x := .ref a5) (d := .lst (s.stirs.map D.int)) (by walk_at "mem")) (st.dz (x := .ref q9) (List.Mem.head _)) (by rw [sizeLine_eq, List.length_map, l2]; decide) fun q10 H1 st => ?_
  walk_at "g"
  refine d_ixL (i := 1) (d := .lst (s.stirs.map D.int)) (st.dz (x := .ref t) (by walk_at "mem")) rfl fun v hv => ?_
  obtain ⟨a6, _, rfl, _, _⟩ := id hv
  walk_at "g"
  refine d_tupleL st (ds := s.stirs.map D.int) hv fun q11 H1 st => ?_
  walk_at "g"
  refine d_lst st (ds := []) zl_nil (by simp) fun q12 H1 st => ?_
  walk_at "g"
  refine d_lst st (ds := [.lst ((s.stirs.map D.int).take 9), .lst (s.stirs.map D.int ++ [.int 0]), .tup (s.stirs.map D.int), .int 0, .lst [], .bl false, .lst es2, .lst es2]) (zl_cons (st.dz (x := .ref q8) (by walk_at "mem")) (zl_cons (st.dz (x := .ref q10) (by walk_at "mem")) (zl_cons (st.dz (x := .ref q11) (by walk_at "mem")) (zl_cons z_int (zl_cons (st.dz (x := .ref q12) (by walk_at "mem")) (zl_cons z_bl (zl_cons (st.dz (x := .ref p2) (by walk_at "mem")) (zl_cons (st.dz (x := .ref p2) (by walk_at "mem")) zl_nil)))))))) (by simp) fun q13 H1 st => ?_
  walk_at "g"
  refine c_Dr (8) st (by walk_at "dzl") ⟨by omega, by omega⟩ fun v d H1 ⟨m6, e, m60, m61⟩ st => ?_
  subst e
  obtain rfl := st.eqI (List.Mem.head _)
  walk_at "g"
  have t9 : ∀ d ∈ (s.stirs.map D.int).take 9, itB d = true := fun d m => its_ints i2 d (List.mem_of_mem_take m)
  have t10 : ∀ d ∈ s.stirs.map D.int ++ [D.int 0], itB d = true := fun d m => by
    rcases List.mem_append.mp m with m | m
    · exact its_ints i2 d m
    · rw [List.mem_singleton.mp m]; decide +kernel
  have z9 : ((s.stirs.map D.int).take 9).length = 9 := by rw [List.length_take, List.length_map, l2]; rfl
  have z10 : (s.stirs.map D.int ++ [D.int 0]).length = 11 := by rw [List.length_append, List.length_map, l2]; rfl
  refine d_ixLP (P := BadS) (st.dz (x := .ref q13) (by walk_at "mem")) m60 (by show m6 < 8; omega) (fa_cons ⟨el_lst t9 (by omega), pre_lst t9 (by omega), stirs_len (by omega), fun e => by cases e⟩ (fa_cons ⟨el_lst t10 (by omega), pre_lst t10 (by omega), stirs_len (by omega), fun e => by cases e⟩ (fa_cons ⟨el_tup (its_ints i2) (by rw [List.length_map]; omega), pre_not rfl (fun _ e => by cases e), rfl, fun e => by cases e⟩ (fa_cons ⟨el_one (by decide +kernel), pre_not rfl (fun _ e => by cases e), rfl, fun e => by cases e⟩ (fa_cons ⟨el_lst fa_nil (by decide), pre_lst fa_nil (by decide), rfl, fun e => by cases e⟩ (fa_cons ⟨el_one (by decide +kernel), pre_not rfl (fun _ e => by cases e), rfl, fun e => by cases e⟩ (fa_cons b2 (fa_cons b2 fa_nil)))))))) fun vt dt bt hv => ?_
  have st := (st.add hv).sub (G' := [(vt, dt), (vo, do_), (.ref t, sqD s)]) (by walk_at "sub")
  walk_at "g"
  refine ⟨1, rfl, ?_⟩
  walk_at "g"
  refine v_pow ⟨by decide, by decide, by decide⟩ ?_
  rw [show (10 : Int) ^ (9 : Int).toNat = 10 ^ 9 from rfl]
  walk_at "g"
  refine d_lst st (ds := oddG) (zl_cons z_int (zl_cons z_int (zl_cons z_non (zl_cons z_bl (zl_cons z_str zl_nil))))) (by simp) fun q14 H1 st => ?_
  walk_at "g"
  refine c_Dr (5) st (by walk_at "dzl") ⟨by omega, by omega⟩ fun v d H1 ⟨m7, e, m70, m71⟩ st => ?_
  subst e
  obtain rfl := st.eqI (List.Mem.head _)
  walk_at "g"
  refine d_ixLP (st.dz (x := .ref q14) (by walk_at "mem")) m70 (by show m7 < 5; omega) oddG_ok fun v3 d3 ⟨o5, o6⟩ hv => ?_
  have st := (st.add hv).sub (G' := [(v3, d3), (vt, dt), (vo, do_), (.ref t, sqD s)]) (by walk_at "sub")
  walk_at "g"
  refine d_own st (ds := [do_, dt, d3]) (zl_cons (st.dz (x := vo) (by walk_at "mem")) (zl_cons (st.dz (x := vt) (by walk_at "mem")) (zl_cons (st.dz (x := v3) (by walk_at "mem")) zl_nil))) (by simp) fun pb H1 nb st => ?_
  walk_at "g"
  refine d_bm st (a := pb) (es := [do_, dt, d3]) (by walk_at "mem") ?_
  walk_at "g"
  refine v_pow ⟨by decide, by decide, by decide⟩ ?_
  rw [show (10 : Int) ^ (9 : Int).toNat = 10 ^ 9 from rfl]
  walk_at "g"
  refine d_lst st (ds := oddF) (zl_cons z_int (zl_cons z_int (zl_cons z_non (zl_cons z_bl zl_nil)))) (by simp) fun q15 H1 st => ?_
  walk_at "g"
  refine c_Dr (4) st (by walk_at "dzl") ⟨by omega, by omega⟩ fun v d H1 ⟨m8, e, m80, m81⟩ st => ?_
  subst e
  obtain rfl := st.eqI (List.Mem.head _)
  walk_at "g"
  refine d_ixLP (st.dz (x := .ref q15) (by walk_at "mem")) m80 (by show m8 < 4; omega) oddF_ok fun v4 d4 ⟨o7, o8⟩ hv => ?_
  have st := st.add hv
  walk_at "g"
  refine d_append st (i := 0) (d := d4) rfl rfl (st.dz (x := v4) (by walk_at "mem")) (by simp) fun H5 st => ?_
  have st := (st.give nb).sub (G' := [(.ref pb, .lst [do_, dt, d3, d4]), (.ref t, sqD s)]) (by walk_at "sub")
  walk_at "g"
  refine d_listLo st (st.dz (x := .ref t) (d := sqD s) (by walk_at "mem")) fun pf H6 nf _ st => ?_
  walk_at "g"
  refine c_Dr (2) st (by walk_at "dzl") ⟨by omega, by omega⟩ fun v d H1 ⟨m9, e, m90, m91⟩ st => ?_
  subst e
  obtain rfl := st.eqI (List.Mem.head _)
  walk_at "g"
  have st := st.sub (G' := [(.ref pb, .lst [do_, dt, d3, d4])]) (by walk_at "sub")
  refine lc_RI (n := 1 + m9) (by omega) (by omega) st (fun i es => ∃ l : List Int, es = l.map D.int ∧ l.length = i ∧ ∀ x ∈ l, 0 ≤ x ∧ x < 4) ⟨[], rfl, rfl, fun x m => by simp at m⟩ ?_ ?_
  · rintro p i x H3 es np hi hl ⟨l, rfl, hll, hlb⟩ st rfl
    walk_at "g"
    refine ⟨rfl, ?_⟩
    walk_at "g"
    refine c_Dr 4 st (by walk_at "dzl") ⟨by omega, by omega⟩ fun v d H1 ⟨z, e, z0, z1⟩ st => ?_
    subst e
    obtain rfl := st.eqI (List.Mem.head _)
    refine lc_end st (fun q h => List.mem_cons_of_mem _ h) (by omega) hl z_int ⟨l ++ [z], by rw [List.map_append]; rfl, by rw [List.length_append, hll]; rfl, fun x m => ?_⟩
    rcases List.mem_append.mp m with m | m
    · exact hlb x m
    · rw [List.mem_singleton.mp m]; exact ⟨z0, z1⟩
  rintro pl H7 es ⟨l, rfl, hll, hlb⟩ hl st
  walk_at "g"
  refine i_lst ?_
  walk_at "g"
  have hg := good_sq ho
  have hb : BadB ⟨do_, dt, d3, d4⟩ := ⟨bo, bt, ⟨el_one o5, o6⟩, ⟨el_one o7, o8⟩⟩
  refine for_L (ds := l.map D.int) (fun i σ H' => (∃ y : Option V, σ = [some (.ref b), some (.ref t), some vo, some vt, some (.ref pb), some (.ref pf), some (.ref pl), y, some (.ref p1), some (.ref p2), none]) ∧ ∃ f : Nat → Bool, (∀ j, f j = true ↔ ∃ i', i' < i ∧ l[i']? = some (j : Int)) ∧ Vf.St K (fun c => S c ∨ c = pf) (fun c => c = b) H H' [(.ref pl, .lst (l.map D.int)), (.ref pb, .lst [do_, dt, d3, d4])] [(pf, (pick4 f (sqB s) ⟨do_, dt, d3, d4⟩).enc)] [b])
    (fun i σ H' h => by obtain ⟨_, f, _, st⟩ := h; exact st.dz (x := .ref pl) (List.Mem.head _)) ⟨⟨_, rfl⟩, fun _ => false, fun j => ⟨fun h => (by cases h), fun ⟨i', h, _⟩ => absurd h (Nat.not_lt_zero _)⟩, st.sub (by walk_at "sub")⟩ ?_ ?_
  · rintro i d x σ H8 hd hi hx ⟨⟨y, rfl⟩, f, hf, st⟩
    rw [List.getElem?_map] at hd
    obtain ⟨z, hz1, rfl⟩ := Option.map_eq_some_iff.mp hd
    obtain rfl : x = .int z := hx
    obtain ⟨z0, z1⟩ := hlb z (List.mem_of_getElem? hz1)
    obtain ⟨j, rfl⟩ : ∃ j : Nat, z = (j : Int) := ⟨z.toNat, by omega⟩
    have hj : j < 4 := by omega
    walk_at "g"
    refine d_ixL (i := j) (d := [do_, dt, d3, d4][j]'hj) (st.dz (x := .ref pb) (by walk_at "mem")) (List.getElem?_eq_getElem hj) fun v hv => ?_
    have st := st.add hv
    walk_at "g"
    refine d_setO st (i := 0) (j := j) (ds := (pick4 f (sqB s) ⟨do_, dt, d3, d4⟩).enc) rfl hj (st.dz (x := v) (List.Mem.head _)) fun H9 st => ?_
    dsimp only [List.set_cons_zero] at st
    walk_at "g"
    have e9 : (pick4 f (sqB s) ⟨do_, dt, d3, d4⟩).enc.set j ([do_, dt, d3, d4][j]'hj) = (pick4 (fun q => f q || q == j) (sqB s) ⟨do_, dt, d3, d4⟩).enc := by
      match j, hj with
      | 0, _ => simp [pick4, Bx.enc]
      | 1, _ => simp [pick4, Bx.enc]
      | 2, _ => simp [pick4, Bx.enc]
      | 3, _ => simp [pick4, Bx.enc]
    rw [e9] at st
    refine ⟨⟨_, rfl⟩, fun q => f q || q == j, fun q => ?_, st.sub (by walk_at "sub")⟩
    rw [Bool.or_eq_true, hf, beq_iff_eq]
    constructor
    · rintro (⟨i', h1, h2⟩ | rfl)
      · exact ⟨i', by omega, h2⟩
      · exact ⟨i, by omega, hz1⟩
    · rintro ⟨i', h1, h2⟩
      by_cases h3 : i' < i
      · exact .inl ⟨i', h3, h2⟩
      · have : i' = i := by omega
        subst this
        rw [hz1] at h2
        have := Option.some.inj h2
        exact .inr (by omega)
  · rintro σ H8 ⟨⟨y, rfl⟩, f, hf, st⟩
    rw [List.length_map] at hf
    have st := st.give nf
    walk_at "g"
    refine d_minI (ns := l) (st.dz (x := .ref pl) (by walk_at "mem")) (by omega) fun m h1 h2 => ?_
    walk_at "g"
    obtain ⟨c0, c1⟩ := hlb m h1
    obtain ⟨j, rfl⟩ : ∃ j : Nat, m = (j : Int) := ⟨m.toNat, by omega⟩
    have fj : f j = true := by
      obtain ⟨i', h3, h4⟩ := List.getElem_of_mem h1
      exact (hf j).mpr ⟨i', h3, by rw [List.getElem?_eq_getElem h3, h4]⟩
    have fl : ∀ q, q < j → f q = false := fun q hq => by
      cases e : f q with
      | false => rfl
      | true =>
        obtain ⟨i', _, h4⟩ := (hf q).mp e
        have := h2 _ (List.mem_of_getElem? h4)
        omega
    have ix : (pick4 f (sqB s) ⟨do_, dt, d3, d4⟩).bs.idxOf false = j := by
      rw [pick_bs hg hb]
      exact idx4 f j (by omega) fj fl
    refine d_tup st (ds := [.lst (pick4 f (sqB s) ⟨do_, dt, d3, d4⟩).enc, .int (j : Nat)]) (zl_cons (st.dz (x := .ref pf) (by walk_at "mem")) (zl_cons z_int zl_nil)) (by simp) fun q9 H9 st => ?_
    refine k (.ref q9) _ _ st.endB st.bagB (st.dz (x := .ref q9) (List.Mem.head _)) ⟨pick4 f (sqB s) ⟨do_, dt, d3, d4⟩, pick_pre hg hb f (by omega) fj, ?_, ?_⟩
    · rw [ix]
    · rw [ix]
      exact els_ok (pick_els hg hb f) (by omega)

-- needs: _law_case
-- needs: _law_names
-- needs: _law_store
-- needs: _law_spoilt
-- needs: _law_refused
-- needs: _law_right
def spLaw (K : PySem.W.Frag) : Sp := fun vs H Q _ => ∃ (a : Addr) (ns : List Int), vs = [.ref a] ∧ SqL K H a (ns.map V.int) ∧ ns.length ≤ 63 ∧ ∀ H', Q (.bl true) H'
theorem spLaw_len {vs : List V} {H : Hp} {Q : VK} {E : XK} {n : Nat} (h1 : ∀ _ : Unit, 1 = n) (h : spLaw K vs H Q E) : vs.length = n := by
  obtain ⟨a, ns, rfl, _⟩ := h
  exact h1 ()
abbrev sp_law (K : PySem.W.Frag) : Sp := spLaw K
theorem ok_fst {x y : D} (h : (D.tup [x, y]).Ok) : x.Ok := by
  obtain ⟨h1, h2, h3⟩ := h
  simp only [D.fine, D.fines, Bool.and_eq_true] at h1
  simp only [D.wt, D.wts] at h2
  simp only [D.dep, D.deps] at h3
  exact ⟨h1.1, by omega, by omega⟩
theorem ok_law (W : Wd K mg) : FnG P w K mg base CX0 9 W.a_law W.d_law ["_law_script"] (sp_law K) := by
  refine okG W.F_law sc_law (fun vs H Q E h => spLaw_len (n := 1) (fun _ => rfl) h) (fun cdv A outer s H vs Q E hr hgd h => ?_)
  obtain ⟨a, ns0, rfl, hs, hl63, k⟩ := h
  refine ⟨_, (pss_cons (ps_set (i := 1) sc_law.nd rfl (Or.inl rfl) (pe_call (ok__law_bag W) (hr.mono (by decide)) (by rfl) W.m__law_bag W.F__law_bag.kp (b__law_bag W) .nil pass0 (pa_cons (pv 0) pa_nil)))
      (pss_cons (ps_set (i := 2) sc_law.nd rfl (Or.inr rfl) (pe_call (ok__law_names W) (hr.mono (by decide)) (by rfl) W.m__law_names W.F__law_names.kp (b__law_names W) .nil pass0 (pa_cons (pv 1) (pa_cons pe_int pa_nil))))
      (pss_cons (ps_set (i := 3) sc_law.nd rfl (Or.inl rfl) (pe_lst pa_nil))
      (pss_cons (ps_for PassesOwn.never rfl (pi_range1 (by rfl) W.n_range (pa_cons pe_int pa_nil)) (pg_name (i := 4) sc_law.nd rfl (.inl rfl))
        (pss_cons (ps_asg (pe_call (ok__law_case W) (hr.mono (by decide)) (by rfl) W.m__law_case W.F__law_case.kp (b__law_case W) .nil pass0 (pa_cons (pv 1) pa_nil)) (pg_tup (by rfl) (pgs_cons (pg_name (i := 8) sc_law.nd rfl (.inl rfl)) (pgs_cons (pg_name (i := 9) sc_law.nd rfl (.inl rfl)) (pgs_cons (pg_name (i := 10) sc_law.nd rfl (.inl rfl)) pgs_nil)))))
      (pss_cons (ps_expr (pe_bm PySem.F.plainAttrs_list PySem.F.slot_list_append PySem.F.type_list_append mt_append (pv 3) (pa_cons (pe_call (ok__law_store W) (hr.mono (by decide)) (by rfl) W.m__law_store W.F__law_store.kp (b__law_store W) .nil pass0 (pa_cons (pv 8) (pa_cons (pv 9) (pa_cons (pv 10) pa_nil)))) pa_nil)))
      (pss_cons (ps_set (i := 5) sc_law.nd rfl (Or.inl rfl) (pe_makeK W.K_Store (ok_Store___init__ W) (hr.mono (by decide)) (by rfl) W.c_Store (kb_Store___init___1_stirs_grain_fade W).choose_spec pass0 (pa_cons (pe_callTy call_listG (by rfl) W.n_list (by decide +kernel) (pa_cons (pe_ix (r := rIxG K) ixG (pv 8) pe_int (fun _ _ => rfl)) pa_nil)) pa_nil) (pk_cons pe_non (pk_cons (pe_ix (r := rIxG K) ixG (pv 8) pe_int (fun _ _ => rfl)) (pk_cons (pe_ix (r := rIxG K) ixG (pv 8) pe_int (fun _ _ => rfl)) pk_nil)))))
      (pss_cons (ps_expr (pe_bm PySem.F.plainAttrs_list PySem.F.slot_list_append PySem.F.type_list_append mt_append (pv 3) (pa_cons (pe_tup (pa_cons (pv 5) (pa_cons (pe_lst (pa_cons (pe_callTy call_listG (by rfl) W.n_list (by decide +kernel) (pa_cons (pe_ix (r := rIxG K) ixG (pv 8) pe_int (fun _ _ => rfl)) pa_nil)) (pa_cons (pe_op op_rep (pe_lst (pa_cons pe_int pa_nil)) pe_int) (pa_cons (pe_ix (r := rIxG K) ixG (pv 8) pe_int (fun _ _ => rfl)) (pa_cons (pe_ix (r := rIxG K) ixG (pv 8) pe_int (fun _ _ => rfl)) pa_nil))))) pa_nil))) pa_nil)))
      (pss_cons (ps_asg (pe_call (ok__law_spoilt W) (hr.mono (by decide)) (by rfl) W.m__law_spoilt W.F__law_spoilt.kp (b__law_spoilt W) .nil pass0 (pa_cons (pv 1) (pa_cons (pv 8) pa_nil))) (pg_tup (by rfl) (pgs_cons (pg_name (i := 11) sc_law.nd rfl (.inl rfl)) (pgs_cons (pg_name (i := 12) sc_law.nd rfl (.inl rfl)) pgs_nil))))
      (pss_cons (ps_set (i := 6) sc_law.nd rfl (Or.inl rfl) (pe_callB (call_reprD hgd hr.units) (by rfl) W.n_repr (by decide +kernel) (pa_cons (pv 11) pa_nil)))
      (pss_cons (ps_set (i := 7) sc_law.nd rfl (Or.inl rfl) (pe_call (ok__law_refused W) (hr.mono (by decide)) (by rfl) W.m__law_refused W.F__law_refused.kp (b__law_refused W) .nil pass0 (pa_cons (pe_ix (r := rIxG K) ixG (pv 11) pe_int (fun _ _ => rfl)) (pa_cons (pe_ix (r := rIxG K) ixG (pv 11) pe_int (fun _ _ => rfl)) (pa_cons (pe_ix (r := rIxG K) ixG (pv 11) pe_int (fun _ _ => rfl)) (pa_cons (pe_ix (r := rIxG K) ixG (pv 11) pe_int (fun _ _ => rfl)) pa_nil))))))
      (pss_one (ps_if (PW.pt (pw_or (pt_not (pt_truth (pe_callGd (ok__law_alike W) (hr.mono (by decide)) hgd (by rfl) W.m__law_alike W.F__law_alike.kp (b__law_alike W) .nil pass0 (pa_cons (pv 7) (pa_cons (pv 12) pa_nil))) (by intro _; rfl))) (pw_or1 (pt_cmpR (r := rNeG K) (opNe hr.units) (pe_callB (call_reprD hgd hr.units) (by rfl) W.n_repr (by decide +kernel) (pa_cons (pv 11) pa_nil)) (pv 6) (nomark _))))) (pss_one (ps_ret pe_bl)) pss_nil))))))))))
      (pss_one (ps_ret (pe_callB (cr_all rfl) (by rfl) W.n_all (by decide +kernel) (pa_cons (pe_lc (own := [("_law_store_here", 13), ("_law_due", 14)]) (g := gTup K 2 (gCons (gName 13) (gCons (gName 14) gNil))) rfl sc_law.nd (piG (pe_op (r := rAddG K) opAdd (pv 3) (pe_revL (pv 3)))) (blkOk_by (N := N_law) (sc := defScope s_law) (by decide +kernel)) (fun _ _ _ _ _ => (pg_tup (by rfl) (pgs_cons (pg_name (i := 13) sc_law.nd rfl (.inl rfl)) (pgs_cons (pg_name (i := 14) sc_law.nd rfl (.inl rfl)) pgs_nil)))) (fun _ _ _ _ _ => pts_nil) (fun _ _ _ _ _ => (pe_callGd (ok__law_right W) (hr.mono (by decide)) hgd (by rfl) W.m__law_right W.F__law_right.kp (b__law_right W) .nil pass0 (pa_cons (pv 13) (pa_cons (pv 14) (pa_cons (pv 2) pa_nil)))))) pa_nil)))))))), ?_⟩
  rw [show start N_law [.ref a] = [some (.ref a), none, none, none, none, none, none, none, none, none, none, none, none, none, none] from rfl]
  try dsimp only [cxOf]
  walk_at "g"
  refine ⟨a, ns0, rfl, hs, hl63, fun b H1 sm nb bg => ?_⟩
  have st := St.law sm nb bg
  walk_at "g"
  refine c_Dr 3 st (by walk_at "dzl") rfl fun v d H1 ⟨ns, e, hnl, hn⟩ st => ?_
  subst e
  obtain ⟨nm, rfl⟩ := st.isL (x := v) (List.Mem.head _)
  have st := st.sub (G' := [(.ref nm, .lst (ns.map D.str))]) (by walk_at "sub")
  walk_at "g"
  refine d_own st (ds := []) zl_nil (by simp) fun p H1 np st => ?_
  walk_at "g"
  refine for_R (n := 3) (by decide) (by decide) (fun i σ H' => (∃ y4 y5 y6 y7 y8 y9 y10 y11 y12 : Option V, σ = [some (.ref a), some (.ref b), some (.ref nm), some (.ref p), y4, y5, y6, y7, y8, y9, y10, y11, y12, none, none]) ∧ ∃ sqs : List Sq, sqs.length = 2 * i ∧ (∀ s ∈ sqs, s.Ok) ∧ Vf.St K (fun c => c = b ∨ c = p) (fun _ => False) H H' [(.ref nm, .lst (ns.map D.str))] [(p, sqs.map (pairD W.C_Store W.C_Shelf W.C_Story))] [b])
    ⟨⟨_, _, _, _, _, _, _, _, _, rfl⟩, [], rfl, (fun s m => by simp at m), st⟩ ?_ ?_
  · rintro i σ H2 hi ⟨⟨y4, y5, y6, y7, y8, y9, y10, y11, y12, rfl⟩, sqs, hsl, hsq, st⟩
    walk_at "g"
    refine c_Dr () st zl_nil trivial fun v d H3 ⟨s, x, y, ho, e⟩ st => ?_
    subst e
    obtain ⟨ct, rfl⟩ := st.isT (x := v) (List.Mem.head _)
    walk_at "g"
    refine d_gT (st.dz (x := .ref ct) (List.Mem.head _)) rfl fun xs hxs => ?_
    obtain ⟨v1, _, rfl, hv1, _, _, rfl, rfl, _, _, rfl, rfl, rfl⟩ := hxs
    obtain ⟨th, _, rfl, _, _⟩ := id hv1
    have st := (st.add hv1).sub (G' := [(.ref th, sqD s), (.ref nm, .lst (ns.map D.str))]) (by walk_at "sub")
    walk_at "g"
    refine d_bm st (a := p) (es := sqs.map (pairD W.C_Store W.C_Shelf W.C_Story)) (by simp) ?_
    walk_at "g"
    refine c_V (⟨s, x, y⟩ : Sto) st (zl_cons (st.dz (x := .ref th) (by walk_at "mem")) (zl_cons z_bl (zl_cons z_bl zl_nil))) ho fun v H4 st => ?_
    walk_at "g"
    refine d_append st (i := 0) (d := pairD W.C_Store W.C_Shelf W.C_Story (Sto.m ⟨s, x, y⟩)) rfl rfl (st.dz (x := v) (List.Mem.head _)) (by rw [List.length_map, hsl]; omega) fun H5 st => ?_
    have st := st.sub (G' := [(.ref th, sqD s), (.ref nm, .lst (ns.map D.str))]) (by walk_at "sub")
    walk_at "g"
    refine d_ixL (i := 0) (d := .lst (s.rooms.map D.int)) (st.dz (x := .ref th) (d := sqD s) (by walk_at "mem")) rfl fun v hv => ?_
    obtain ⟨a1, _, rfl, _, _⟩ := id hv
    walk_at "g"
    refine d_listL st hv fun q1 H6 st => ?_
    walk_at "g"
    refine d_ixL (i := 2) (d := .int s.grain) (st.dz (x := .ref th) (d := sqD s) (by walk_at "mem")) rfl fun v hv => ?_
    cases hv
    walk_at "g"
    refine d_ixL (i := 3) (d := .int s.fade) (st.dz (x := .ref th) (d := sqD s) (by walk_at "mem")) rfl fun v hv => ?_
    cases hv
    walk_at "g"
    have ok2 : Sq.Ok ⟨s.rooms, List.replicate 10 0, s.grain, s.fade⟩ := Mk.ok (m := ⟨s, true, false⟩) ho
    refine c_make (⟨s.rooms, List.replicate 10 0, s.grain, s.fade⟩, true) st rfl rfl [.ref q1, .non, .int s.grain, .int s.fade] (fun _ => rfl) (zl_cons (st.dz (x := .ref q1) (by walk_at "mem")) (zl_cons rfl (zl_cons z_int (zl_cons z_int zl_nil)))) ⟨ok2, fun _ => rfl⟩ fun sa H7 st => ?_
    walk_at "g"
    refine d_bm st (a := p) (es := sqs.map (pairD W.C_Store W.C_Shelf W.C_Story) ++ [pairD W.C_Store W.C_Shelf W.C_Story (Sto.m ⟨s, x, y⟩)]) (by simp) ?_
    walk_at "g"
    refine d_ixL (i := 0) (d := .lst (s.rooms.map D.int)) (st.dz (x := .ref th) (d := sqD s) (by walk_at "mem")) rfl fun v hv => ?_
    obtain ⟨a2, _, rfl, _, _⟩ := id hv
    walk_at "g"
    refine d_listL st hv fun q2 H6 st => ?_
    walk_at "g"
    refine d_lst st (ds := [.int 0]) (by walk_at "dzl") (by simp) fun q3 H6 st => ?_
    walk_at "g"
    refine d_repG (d := .int 0) (k := 10) st (st.dz (x := .ref q3) (by walk_at "mem")) (by omega) fun q4 H6 st => ?_
    walk_at "g"
    refine d_ixL (i := 2) (d := .int s.grain) (st.dz (x := .ref th) (d := sqD s) (by walk_at "mem")) rfl fun v hv => ?_
    cases hv
    walk_at "g"
    refine d_ixL (i := 3) (d := .int s.fade) (st.dz (x := .ref th) (d := sqD s) (by walk_at "mem")) rfl fun v hv => ?_
    cases hv
    walk_at "g"
    refine d_lst st (ds := [.lst (s.rooms.map D.int), .lst (List.replicate (10 : Int).toNat (.int 0)), .int s.grain, .int s.fade]) (zl_cons (st.dz (x := .ref q2) (by walk_at "mem")) (zl_cons (st.dz (x := .ref q4) (by walk_at "mem")) (zl_cons z_int (zl_cons z_int zl_nil)))) (by simp) fun q5 H6 st => ?_
    walk_at "g"
    refine d_tup st (ds := [.ins W.C_Store (Sq.fs W.C_Shelf W.C_Story ⟨s.rooms, List.replicate 10 0, s.grain, s.fade⟩), sqD ⟨s.rooms, List.replicate 10 0, s.grain, s.fade⟩]) (zl_cons (st.dz (x := .ref sa) (by walk_at "mem")) (zl_cons (show Dz K _ H6 (.lst [.lst (s.rooms.map D.int), .lst (List.replicate (10 : Int).toNat (.int 0)), .int s.grain, .int s.fade]) _ from st.dz (x := .ref q5) (by walk_at "mem")) zl_nil)) (by simp) fun q6 H6 st => ?_
    walk_at "g"
    refine d_append st (i := 0) (d := pairD W.C_Store W.C_Shelf W.C_Story ⟨s.rooms, List.replicate 10 0, s.grain, s.fade⟩) rfl rfl (st.dz (x := .ref q6) (List.Mem.head _)) (by rw [List.length_append, List.length_map, hsl]; show _ + 1 < _; omega) fun H5 st => ?_
    have st := st.sub (G' := [(.ref th, sqD s), (.ref nm, .lst (ns.map D.str))]) (by walk_at "sub")
    walk_at "g"
    refine c_Dr s st (zl_cons (st.dz (x := .ref th) (by walk_at "mem")) zl_nil) ho fun v d H6 ⟨b9, hb9, e, ok9⟩ st => ?_
    subst e
    obtain ⟨sp, rfl⟩ := st.isT (x := v) (List.Mem.head _)
    have ok8 := ok_fst ok9
    walk_at "g"
    refine d_gT (st.dz (x := .ref sp) (List.Mem.head _)) rfl fun xs hxs => ?_
    obtain ⟨v1, _, rfl, hv1, _, _, rfl, rfl, rfl⟩ := hxs
    obtain ⟨sl, _, rfl, _, _⟩ := id hv1
    have st := (st.add hv1).sub (G' := [(.ref sl, .lst b9.enc), (.ref nm, .lst (ns.map D.str))]) (by walk_at "sub")
    walk_at "g"
    refine o_repr (st.dz (x := .ref sl) (by walk_at "mem")) ok8 ?_
    walk_at "g"
    refine d_ixL (i := 0) (d := b9.r) (st.dz (x := .ref sl) (d := .lst b9.enc) (by walk_at "mem")) rfl fun w1 hw1 => ?_
    walk_at "g"
    refine d_ixL (i := 1) (d := b9.s) (st.dz (x := .ref sl) (d := .lst b9.enc) (by walk_at "mem")) rfl fun w2 hw2 => ?_
    walk_at "g"
    refine d_ixL (i := 2) (d := b9.g) (st.dz (x := .ref sl) (d := .lst b9.enc) (by walk_at "mem")) rfl fun w3 hw3 => ?_
    walk_at "g"
    refine d_ixL (i := 3) (d := b9.f) (st.dz (x := .ref sl) (d := .lst b9.enc) (by walk_at "mem")) rfl fun w4 hw4 => ?_
    walk_at "g"
    refine c_Int b9 st (zl_cons hw1 (zl_cons hw2 (zl_cons hw3 (zl_cons hw4 zl_nil)))) hb9 fun H7 st => ?_
    walk_at "g"
    have ix : b9.bs.idxOf false ≤ 4 := List.idxOf_le_length
    refine c_Bl (.int (b9.bs.idxOf false : Nat)) st (zl_cons z_int (zl_cons z_int zl_nil)) (int_ok (by omega)) fun H8 st => ?_
    refine ⟨true, rfl, ?_⟩
    walk_at "g"
    refine o_repr (st.dz (x := .ref sl) (by walk_at "mem")) ok8 ?_
    walk_at "g"
    try rw [decide_eq_true rfl]
    walk_at "g"
    refine ⟨⟨_, _, _, _, _, _, _, _, _, rfl⟩, sqs ++ [Sto.m ⟨s, x, y⟩] ++ [⟨s.rooms, List.replicate 10 0, s.grain, s.fade⟩], by rw [List.length_append, List.length_append, hsl]; show _ + 1 + 1 = _; omega, fun z m => ?_, ?_⟩
    · rcases List.mem_append.mp m with m | m
      · rcases List.mem_append.mp m with m | m
        · exact hsq z m
        · rw [List.mem_singleton.mp m]; exact Mk.ok ho
      · rw [List.mem_singleton.mp m]; exact ok2
    · rw [List.map_append, List.map_append]
      exact st.sub (by walk_at "sub")
  · rintro σ H2 ⟨⟨y4, y5, y6, y7, y8, y9, y10, y11, y12, rfl⟩, sqs, hsl, hsq, st⟩
    have hsl : sqs.length = 6 := hsl
    have st := st.give np
    walk_at "g"
    refine i_lst ?_
    walk_at "g"
    refine d_rev st (ds := sqs.map (pairD W.C_Store W.C_Shelf W.C_Story)) (st.dz (x := .ref p) (by walk_at "mem")) fun q1 H3 st => ?_
    walk_at "g"
    refine v_cat st (st.dz (x := .ref p) (d := .lst (sqs.map (pairD W.C_Store W.C_Shelf W.C_Story))) (by walk_at "mem")) (st.dz (x := .ref q1) (List.Mem.head _)) (by rw [List.length_reverse, List.length_map, hsl, sizeLine_eq]; decide) fun q2 H4 st => ?_
    walk_at "g"
    rw [← List.map_reverse, ← List.map_append] at st
    have all : ∀ s ∈ sqs ++ sqs.reverse, s.Ok := fun s m => by
      rcases List.mem_append.mp m with m | m
      · exact hsq s m
      · exact hsq s (List.mem_reverse.mp m)
    refine lc_L st (ds := (sqs ++ sqs.reverse).map (pairD W.C_Store W.C_Shelf W.C_Story)) (by walk_at "mem") (fun i es => es = List.replicate i (D.bl true)) rfl ?_ ?_
    · rintro r i d x H5 es nr hd hi hl pe st
      rw [List.getElem?_map] at hd
      obtain ⟨s, hs9, rfl⟩ := Option.map_eq_some_iff.mp hd
      rw [List.length_map, List.length_append, List.length_reverse, hsl] at hi
      obtain ⟨ct, rfl⟩ := st.isT (x := x) (List.Mem.head _)
      walk_at "g"
      refine d_gT (st.dz (x := .ref ct) (List.Mem.head _)) rfl fun xs hxs => ?_
      obtain ⟨v1, _, rfl, hv1, v2, _, rfl, hv2, rfl⟩ := hxs
      walk_at "g"
      refine ⟨rfl, ?_⟩
      walk_at "g"
      refine c_Bl (⟨s, ns⟩ : Rt) st (zl_cons hv1 (zl_cons hv2 (zl_cons (st.dz (x := .ref nm) (by walk_at "mem")) zl_nil))) ⟨all s (List.mem_of_getElem? hs9), hnl, hn⟩ fun H6 st => ?_
      refine lc_end st (fun q h => List.mem_cons_of_mem _ h) (by omega) hl z_bl ?_
      rw [pe, rep_succ]
    · rintro r H5 es pe hl st
      subst pe
      walk_at "g"
      refine d_allT (st.dz (x := .ref r) (List.Mem.head _)) ?_
      exact k _

end
theorem all_mk {l : PySem.W.OpenLaw} {w : World} {K : PySem.W.Frag} {h : Heap} {mg : Str → Option Value} {fa : Addr} (X : K.In h) (G : h.Ns mainGlobals mg) (hfa : mg "law" = some (.ref fa))
    {t_ANEW : Tok}
    {t_BAR : Tok}
    {t_BILLION : Tok}
    {t_CROWDED : Tok}
    {t_DAY : Tok}
    {t_FADED : Tok}
    {t_LETTERS : Tok}
    {t_MOST_BY : Tok}
    {t_MOST_HEAD : Tok}
    {t_MOST_LETTERS : Tok}
    {t_MOST_MOMENT : Tok}
    {t_MOST_ROOM : Tok}
    {t_MOST_ROOMS : Tok}
    {t_MOST_SORT : Tok}
    {t_MOST_THINGS : Tok}
    {t_MOVED : Tok}
    {t_PRESSED : Tok}
    {t_PUT : Tok}
    {t_SORTS : Tok}
    {a_TAILS : Addr}
    {z_TAILS : Nat}
    {y_TAILS_0 : Tok}
    {y_TAILS_1 : Tok}
    {y_TAILS_2 : Tok}
    {y_TAILS_3 : Tok}
    {y_TAILS_4 : Tok}
    {y_TAILS_5 : Tok}
    {y_TAILS_6 : Tok}
    {y_TAILS_7 : Tok}
    {e_TAILS : Option Addr}
    {sl_TAILS : Array (Option Value)}
    {t_TAKEN : Tok}
    {C_WaneError : Addr}
    {nm_WaneError qq_WaneError : Str} {NN_WaneError : Addr} {bs_WaneError : List Value} {sn_WaneError : List Str} {sb_WaneError : List Value} {ab_WaneError : Bool} {co_WaneError : Option Bool} {dd_WaneError : Option Addr} {k0_WaneError k1_WaneError k2_WaneError k3_WaneError k5_WaneError : Option Value}
    {C_Wrong : Addr}
    {nm_Wrong qq_Wrong : Str} {NN_Wrong : Addr} {bs_Wrong : List Value} {sn_Wrong : List Str} {sb_Wrong : List Value} {ab_Wrong : Bool} {co_Wrong : Option Bool} {dd_Wrong : Option Addr} {k0_Wrong k1_Wrong k2_Wrong k3_Wrong k5_Wrong : Option Value}
    {C_TooMany : Addr}
    {nm_TooMany qq_TooMany : Str} {NN_TooMany : Addr} {bs_TooMany : List Value} {sn_TooMany : List Str} {sb_TooMany : List Value} {ab_TooMany : Bool} {co_TooMany : Option Bool} {dd_TooMany : Option Addr} {k0_TooMany k1_TooMany k2_TooMany k3_TooMany k5_TooMany : Option Value}
    {C_There : Addr}
    {nm_There qq_There : Str} {NN_There : Addr} {bs_There : List Value} {sn_There : List Str} {sb_There : List Value} {ab_There : Bool} {co_There : Option Bool} {dd_There : Option Addr} {k0_There k1_There k2_There k3_There k5_There : Option Value}
    {C_Gone : Addr}
    {nm_Gone qq_Gone : Str} {NN_Gone : Addr} {bs_Gone : List Value} {sn_Gone : List Str} {sb_Gone : List Value} {ab_Gone : Bool} {co_Gone : Option Bool} {dd_Gone : Option Addr} {k0_Gone k1_Gone k2_Gone k3_Gone k5_Gone : Option Value}
    {C_Wane : Addr}
    {C_Story : Addr}
    {C_Thing : Addr}
    {C_Shelf : Addr}
    {C_Store : Addr}
    {a__wall : Addr}
    {od__wall an__wall : Option Addr}
    {sl__wall : Array (Option Value)}
    {oc__wall dc__wall pm__wall cd__wall ct__wall : Value}
    {kV__wall : Value}
    {a_Wrong___init__ : Addr}
    {od_Wrong___init__ an_Wrong___init__ : Option Addr}
    {sl_Wrong___init__ : Array (Option Value)}
    {oc_Wrong___init__ dc_Wrong___init__ pm_Wrong___init__ cd_Wrong___init__ ct_Wrong___init__ : Value}
    {kV_Wrong___init__ : Value}
    {a_TooMany___init__ : Addr}
    {od_TooMany___init__ an_TooMany___init__ : Option Addr}
    {sl_TooMany___init__ : Array (Option Value)}
    {oc_TooMany___init__ dc_TooMany___init__ pm_TooMany___init__ cd_TooMany___init__ ct_TooMany___init__ : Value}
    {kV_TooMany___init__ : Value}
    {a_There___init__ : Addr}
    {od_There___init__ an_There___init__ : Option Addr}
    {sl_There___init__ : Array (Option Value)}
    {oc_There___init__ dc_There___init__ pm_There___init__ cd_There___init__ ct_There___init__ : Value}
    {kV_There___init__ : Value}
    {a_Gone___init__ : Addr}
    {od_Gone___init__ an_Gone___init__ : Option Addr}
    {sl_Gone___init__ : Array (Option Value)}
    {oc_Gone___init__ dc_Gone___init__ pm_Gone___init__ cd_Gone___init__ ct_Gone___init__ : Value}
    {kV_Gone___init__ : Value}
    {a_refuse_wrong : Addr}
    {od_refuse_wrong an_refuse_wrong : Option Addr}
    {sl_refuse_wrong : Array (Option Value)}
    {oc_refuse_wrong dc_refuse_wrong pm_refuse_wrong cd_refuse_wrong ct_refuse_wrong : Value}
    {kV_refuse_wrong : Value}
    {a_is_whole : Addr}
    {od_is_whole an_is_whole : Option Addr}
    {sl_is_whole : Array (Option Value)}
    {oc_is_whole dc_is_whole pm_is_whole cd_is_whole ct_is_whole : Value}
    {kV_is_whole : Value}
    {a_is_within : Addr}
    {od_is_within an_is_within : Option Addr}
    {sl_is_within : Array (Option Value)}
    {oc_is_within dc_is_within pm_is_within cd_is_within ct_is_within : Value}
    {kV_is_within : Value}
    {a_is_name : Addr}
    {od_is_name an_is_name : Option Addr}
    {sl_is_name : Array (Option Value)}
    {oc_is_name dc_is_name pm_is_name cd_is_name ct_is_name : Value}
    {kV_is_name : Value}
    {a_is_sort : Addr}
    {od_is_sort an_is_sort : Option Addr}
    {sl_is_sort : Array (Option Value)}
    {oc_is_sort dc_is_sort pm_is_sort cd_is_sort ct_is_sort : Value}
    {kV_is_sort : Value}
    {a_is_strength : Addr}
    {od_is_strength an_is_strength : Option Addr}
    {sl_is_strength : Array (Option Value)}
    {oc_is_strength dc_is_strength pm_is_strength cd_is_strength ct_is_strength : Value}
    {kV_is_strength : Value}
    {a_is_size : Addr}
    {od_is_size an_is_size : Option Addr}
    {sl_is_size : Array (Option Value)}
    {oc_is_size dc_is_size pm_is_size cd_is_size ct_is_size : Value}
    {kV_is_size : Value}
    {a_is_shift : Addr}
    {od_is_shift an_is_shift : Option Addr}
    {sl_is_shift : Array (Option Value)}
    {oc_is_shift dc_is_shift pm_is_shift cd_is_shift ct_is_shift : Value}
    {kV_is_shift : Value}
    {a_is_room : Addr}
    {od_is_room an_is_room : Option Addr}
    {sl_is_room : Array (Option Value)}
    {oc_is_room dc_is_room pm_is_room cd_is_room ct_is_room : Value}
    {kV_is_room : Value}
    {a_is_moment : Addr}
    {od_is_moment an_is_moment : Option Addr}
    {sl_is_moment : Array (Option Value)}
    {oc_is_moment dc_is_moment pm_is_moment cd_is_moment ct_is_moment : Value}
    {kV_is_moment : Value}
    {a_is_step : Addr}
    {od_is_step an_is_step : Option Addr}
    {sl_is_step : Array (Option Value)}
    {oc_is_step dc_is_step pm_is_step cd_is_step ct_is_step : Value}
    {kV_is_step : Value}
    {a_hour_of : Addr}
    {od_hour_of an_hour_of : Option Addr}
    {sl_hour_of : Array (Option Value)}
    {oc_hour_of dc_hour_of pm_hour_of cd_hour_of ct_hour_of : Value}
    {kV_hour_of : Value}
    {a_Wane___init__ : Addr}
    {od_Wane___init__ an_Wane___init__ : Option Addr}
    {sl_Wane___init__ : Array (Option Value)}
    {oc_Wane___init__ dc_Wane___init__ pm_Wane___init__ cd_Wane___init__ ct_Wane___init__ : Value}
    {D_Wane___init__ : Addr}
    {a_Wane_head : Addr}
    {od_Wane_head an_Wane_head : Option Addr}
    {sl_Wane_head : Array (Option Value)}
    {oc_Wane_head dc_Wane_head pm_Wane_head cd_Wane_head ct_Wane_head : Value}
    {kV_Wane_head : Value}
    {a_Wane_tail : Addr}
    {od_Wane_tail an_Wane_tail : Option Addr}
    {sl_Wane_tail : Array (Option Value)}
    {oc_Wane_tail dc_Wane_tail pm_Wane_tail cd_Wane_tail ct_Wane_tail : Value}
    {kV_Wane_tail : Value}
    {a_Wane_cap : Addr}
    {od_Wane_cap an_Wane_cap : Option Addr}
    {sl_Wane_cap : Array (Option Value)}
    {oc_Wane_cap dc_Wane_cap pm_Wane_cap cd_Wane_cap ct_Wane_cap : Value}
    {kV_Wane_cap : Value}
    {a_Wane_lift : Addr}
    {od_Wane_lift an_Wane_lift : Option Addr}
    {sl_Wane_lift : Array (Option Value)}
    {oc_Wane_lift dc_Wane_lift pm_Wane_lift cd_Wane_lift ct_Wane_lift : Value}
    {kV_Wane_lift : Value}
    {a_Wane_is_anew : Addr}
    {od_Wane_is_anew an_Wane_is_anew : Option Addr}
    {sl_Wane_is_anew : Array (Option Value)}
    {oc_Wane_is_anew dc_Wane_is_anew pm_Wane_is_anew cd_Wane_is_anew ct_Wane_is_anew : Value}
    {kV_Wane_is_anew : Value}
    {a_Wane_step : Addr}
    {od_Wane_step an_Wane_step : Option Addr}
    {sl_Wane_step : Array (Option Value)}
    {oc_Wane_step dc_Wane_step pm_Wane_step cd_Wane_step ct_Wane_step : Value}
    {kV_Wane_step : Value}
    {a_Wane_phase : Addr}
    {od_Wane_phase an_Wane_phase : Option Addr}
    {sl_Wane_phase : Array (Option Value)}
    {oc_Wane_phase dc_Wane_phase pm_Wane_phase cd_Wane_phase ct_Wane_phase : Value}
    {kV_Wane_phase : Value}
    {a_Wane_text : Addr}
    {od_Wane_text an_Wane_text : Option Addr}
    {sl_Wane_text : Array (Option Value)}
    {oc_Wane_text dc_Wane_text pm_Wane_text cd_Wane_text ct_Wane_text : Value}
    {kV_Wane_text : Value}
    {a_Wane_step_behind : Addr}
    {od_Wane_step_behind an_Wane_step_behind : Option Addr}
    {sl_Wane_step_behind : Array (Option Value)}
    {oc_Wane_step_behind dc_Wane_step_behind pm_Wane_step_behind cd_Wane_step_behind ct_Wane_step_behind : Value}
    {kV_Wane_step_behind : Value}
    {a_Wane_phase_behind : Addr}
    {od_Wane_phase_behind an_Wane_phase_behind : Option Addr}
    {sl_Wane_phase_behind : Array (Option Value)}
    {oc_Wane_phase_behind dc_Wane_phase_behind pm_Wane_phase_behind cd_Wane_phase_behind ct_Wane_phase_behind : Value}
    {kV_Wane_phase_behind : Value}
    {a_is_wane : Addr}
    {od_is_wane an_is_wane : Option Addr}
    {sl_is_wane : Array (Option Value)}
    {oc_is_wane dc_is_wane pm_is_wane cd_is_wane ct_is_wane : Value}
    {kV_is_wane : Value}
    {a_is_level : Addr}
    {od_is_level an_is_level : Option Addr}
    {sl_is_level : Array (Option Value)}
    {oc_is_level dc_is_level pm_is_level cd_is_level ct_is_level : Value}
    {kV_is_level : Value}
    {a__is_head : Addr}
    {od__is_head an__is_head : Option Addr}
    {sl__is_head : Array (Option Value)}
    {oc__is_head dc__is_head pm__is_head cd__is_head ct__is_head : Value}
    {kV__is_head : Value}
    {a__is_tail : Addr}
    {od__is_tail an__is_tail : Option Addr}
    {sl__is_tail : Array (Option Value)}
    {oc__is_tail dc__is_tail pm__is_tail cd__is_tail ct__is_tail : Value}
    {kV__is_tail : Value}
    {a__are_steps : Addr}
    {od__are_steps an__are_steps : Option Addr}
    {sl__are_steps : Array (Option Value)}
    {oc__are_steps dc__are_steps pm__are_steps cd__are_steps ct__are_steps : Value}
    {kV__are_steps : Value}
    {a__step_word : Addr}
    {od__step_word an__step_word : Option Addr}
    {sl__step_word : Array (Option Value)}
    {oc__step_word dc__step_word pm__step_word cd__step_word ct__step_word : Value}
    {kV__step_word : Value}
    {a_behind_turn : Addr}
    {od_behind_turn an_behind_turn : Option Addr}
    {sl_behind_turn : Array (Option Value)}
    {oc_behind_turn dc_behind_turn pm_behind_turn cd_behind_turn ct_behind_turn : Value}
    {kV_behind_turn : Value}
    {a_behind_asking : Addr}
    {od_behind_asking an_behind_asking : Option Addr}
    {sl_behind_asking : Array (Option Value)}
    {oc_behind_asking dc_behind_asking pm_behind_asking cd_behind_asking ct_behind_asking : Value}
    {kV_behind_asking : Value}
    {a_Story___init__ : Addr}
    {od_Story___init__ an_Story___init__ : Option Addr}
    {sl_Story___init__ : Array (Option Value)}
    {oc_Story___init__ dc_Story___init__ pm_Story___init__ cd_Story___init__ ct_Story___init__ : Value}
    {kV_Story___init__ : Value}
    {a_Story_doubled : Addr}
    {od_Story_doubled an_Story_doubled : Option Addr}
    {sl_Story_doubled : Array (Option Value)}
    {oc_Story_doubled dc_Story_doubled pm_Story_doubled cd_Story_doubled ct_Story_doubled : Value}
    {kV_Story_doubled : Value}
    {a_Story_write : Addr}
    {od_Story_write an_Story_write : Option Addr}
    {sl_Story_write : Array (Option Value)}
    {oc_Story_write dc_Story_write pm_Story_write cd_Story_write ct_Story_write : Value}
    {kV_Story_write : Value}
    {a_Story_listed : Addr}
    {od_Story_listed an_Story_listed : Option Addr}
    {sl_Story_listed : Array (Option Value)}
    {oc_Story_listed dc_Story_listed pm_Story_listed cd_Story_listed ct_Story_listed : Value}
    {kV_Story_listed : Value}
    {a_Thing___init__ : Addr}
    {od_Thing___init__ an_Thing___init__ : Option Addr}
    {sl_Thing___init__ : Array (Option Value)}
    {oc_Thing___init__ dc_Thing___init__ pm_Thing___init__ cd_Thing___init__ ct_Thing___init__ : Value}
    {kV_Thing___init__ : Value}
    {a_Thing_doubled : Addr}
    {od_Thing_doubled an_Thing_doubled : Option Addr}
    {sl_Thing_doubled : Array (Option Value)}
    {oc_Thing_doubled dc_Thing_doubled pm_Thing_doubled cd_Thing_doubled ct_Thing_doubled : Value}
    {kV_Thing_doubled : Value}
    {a_Thing_phase : Addr}
    {od_Thing_phase an_Thing_phase : Option Addr}
    {sl_Thing_phase : Array (Option Value)}
    {oc_Thing_phase dc_Thing_phase pm_Thing_phase cd_Thing_phase ct_Thing_phase : Value}
    {kV_Thing_phase : Value}
    {a_Shelf___init__ : Addr}
    {od_Shelf___init__ an_Shelf___init__ : Option Addr}
    {sl_Shelf___init__ : Array (Option Value)}
    {oc_Shelf___init__ dc_Shelf___init__ pm_Shelf___init__ cd_Shelf___init__ ct_Shelf___init__ : Value}
    {kV_Shelf___init__ : Value}
    {a_Shelf_doubled : Addr}
    {od_Shelf_doubled an_Shelf_doubled : Option Addr}
    {sl_Shelf_doubled : Array (Option Value)}
    {oc_Shelf_doubled dc_Shelf_doubled pm_Shelf_doubled cd_Shelf_doubled ct_Shelf_doubled : Value}
    {kV_Shelf_doubled : Value}
    {a_Shelf_by_names : Addr}
    {od_Shelf_by_names an_Shelf_by_names : Option Addr}
    {sl_Shelf_by_names : Array (Option Value)}
    {oc_Shelf_by_names dc_Shelf_by_names pm_Shelf_by_names cd_Shelf_by_names ct_Shelf_by_names : Value}
    {kV_Shelf_by_names : Value}
    {a_Shelf_in_room : Addr}
    {od_Shelf_in_room an_Shelf_in_room : Option Addr}
    {sl_Shelf_in_room : Array (Option Value)}
    {oc_Shelf_in_room dc_Shelf_in_room pm_Shelf_in_room cd_Shelf_in_room ct_Shelf_in_room : Value}
    {kV_Shelf_in_room : Value}
    {a_Shelf_sum_in : Addr}
    {od_Shelf_sum_in an_Shelf_sum_in : Option Addr}
    {sl_Shelf_sum_in : Array (Option Value)}
    {oc_Shelf_sum_in dc_Shelf_sum_in pm_Shelf_sum_in cd_Shelf_sum_in ct_Shelf_sum_in : Value}
    {kV_Shelf_sum_in : Value}
    {a_Shelf_states : Addr}
    {od_Shelf_states an_Shelf_states : Option Addr}
    {sl_Shelf_states : Array (Option Value)}
    {oc_Shelf_states dc_Shelf_states pm_Shelf_states cd_Shelf_states ct_Shelf_states : Value}
    {kV_Shelf_states : Value}
    {a_Shelf_trace_of : Addr}
    {od_Shelf_trace_of an_Shelf_trace_of : Option Addr}
    {sl_Shelf_trace_of : Array (Option Value)}
    {oc_Shelf_trace_of dc_Shelf_trace_of pm_Shelf_trace_of cd_Shelf_trace_of ct_Shelf_trace_of : Value}
    {kV_Shelf_trace_of : Value}
    {a_Shelf_add_row : Addr}
    {od_Shelf_add_row an_Shelf_add_row : Option Addr}
    {sl_Shelf_add_row : Array (Option Value)}
    {oc_Shelf_add_row dc_Shelf_add_row pm_Shelf_add_row cd_Shelf_add_row ct_Shelf_add_row : Value}
    {kV_Shelf_add_row : Value}
    {a_Shelf_put_in : Addr}
    {od_Shelf_put_in an_Shelf_put_in : Option Addr}
    {sl_Shelf_put_in : Array (Option Value)}
    {oc_Shelf_put_in dc_Shelf_put_in pm_Shelf_put_in cd_Shelf_put_in ct_Shelf_put_in : Value}
    {kV_Shelf_put_in : Value}
    {a_Shelf_take_out : Addr}
    {od_Shelf_take_out an_Shelf_take_out : Option Addr}
    {sl_Shelf_take_out : Array (Option Value)}
    {oc_Shelf_take_out dc_Shelf_take_out pm_Shelf_take_out cd_Shelf_take_out ct_Shelf_take_out : Value}
    {kV_Shelf_take_out : Value}
    {a_Shelf_lose : Addr}
    {od_Shelf_lose an_Shelf_lose : Option Addr}
    {sl_Shelf_lose : Array (Option Value)}
    {oc_Shelf_lose dc_Shelf_lose pm_Shelf_lose cd_Shelf_lose ct_Shelf_lose : Value}
    {kV_Shelf_lose : Value}
    {a_Shelf_ask_for : Addr}
    {od_Shelf_ask_for an_Shelf_ask_for : Option Addr}
    {sl_Shelf_ask_for : Array (Option Value)}
    {oc_Shelf_ask_for dc_Shelf_ask_for pm_Shelf_ask_for cd_Shelf_ask_for ct_Shelf_ask_for : Value}
    {kV_Shelf_ask_for : Value}
    {a_Shelf_stir_beside : Addr}
    {od_Shelf_stir_beside an_Shelf_stir_beside : Option Addr}
    {sl_Shelf_stir_beside : Array (Option Value)}
    {oc_Shelf_stir_beside dc_Shelf_stir_beside pm_Shelf_stir_beside cd_Shelf_stir_beside ct_Shelf_stir_beside : Value}
    {kV_Shelf_stir_beside : Value}
    {a_Shelf_crowd : Addr}
    {od_Shelf_crowd an_Shelf_crowd : Option Addr}
    {sl_Shelf_crowd : Array (Option Value)}
    {oc_Shelf_crowd dc_Shelf_crowd pm_Shelf_crowd cd_Shelf_crowd ct_Shelf_crowd : Value}
    {kV_Shelf_crowd : Value}
    {a_Shelf_move_on : Addr}
    {od_Shelf_move_on an_Shelf_move_on : Option Addr}
    {sl_Shelf_move_on : Array (Option Value)}
    {oc_Shelf_move_on dc_Shelf_move_on pm_Shelf_move_on cd_Shelf_move_on ct_Shelf_move_on : Value}
    {kV_Shelf_move_on : Value}
    {a_Shelf_turn : Addr}
    {od_Shelf_turn an_Shelf_turn : Option Addr}
    {sl_Shelf_turn : Array (Option Value)}
    {oc_Shelf_turn dc_Shelf_turn pm_Shelf_turn cd_Shelf_turn ct_Shelf_turn : Value}
    {kV_Shelf_turn : Value}
    {a_Shelf_wane_all : Addr}
    {od_Shelf_wane_all an_Shelf_wane_all : Option Addr}
    {sl_Shelf_wane_all : Array (Option Value)}
    {oc_Shelf_wane_all dc_Shelf_wane_all pm_Shelf_wane_all cd_Shelf_wane_all ct_Shelf_wane_all : Value}
    {kV_Shelf_wane_all : Value}
    {a_Shelf_ask_for_weak : Addr}
    {od_Shelf_ask_for_weak an_Shelf_ask_for_weak : Option Addr}
    {sl_Shelf_ask_for_weak : Array (Option Value)}
    {oc_Shelf_ask_for_weak dc_Shelf_ask_for_weak pm_Shelf_ask_for_weak cd_Shelf_ask_for_weak ct_Shelf_ask_for_weak : Value}
    {kV_Shelf_ask_for_weak : Value}
    {a_Shelf_turns : Addr}
    {od_Shelf_turns an_Shelf_turns : Option Addr}
    {sl_Shelf_turns : Array (Option Value)}
    {oc_Shelf_turns dc_Shelf_turns pm_Shelf_turns cd_Shelf_turns ct_Shelf_turns : Value}
    {kV_Shelf_turns : Value}
    {a_weakest : Addr}
    {od_weakest an_weakest : Option Addr}
    {sl_weakest : Array (Option Value)}
    {oc_weakest dc_weakest pm_weakest cd_weakest ct_weakest : Value}
    {kV_weakest : Value}
    {a_Store___init__ : Addr}
    {od_Store___init__ an_Store___init__ : Option Addr}
    {sl_Store___init__ : Array (Option Value)}
    {oc_Store___init__ dc_Store___init__ pm_Store___init__ cd_Store___init__ ct_Store___init__ : Value}
    {D_Store___init__ : Addr}
    {w_Store___init___grain : Tok}
    {w_Store___init___fade : Tok}
    {a_Store_put : Addr}
    {od_Store_put an_Store_put : Option Addr}
    {sl_Store_put : Array (Option Value)}
    {oc_Store_put dc_Store_put pm_Store_put cd_Store_put ct_Store_put : Value}
    {kV_Store_put : Value}
    {a_Store_ask : Addr}
    {od_Store_ask an_Store_ask : Option Addr}
    {sl_Store_ask : Array (Option Value)}
    {oc_Store_ask dc_Store_ask pm_Store_ask cd_Store_ask ct_Store_ask : Value}
    {kV_Store_ask : Value}
    {a_Store_take : Addr}
    {od_Store_take an_Store_take : Option Addr}
    {sl_Store_take : Array (Option Value)}
    {oc_Store_take dc_Store_take pm_Store_take cd_Store_take ct_Store_take : Value}
    {kV_Store_take : Value}
    {a_Store_mend : Addr}
    {od_Store_mend an_Store_mend : Option Addr}
    {sl_Store_mend : Array (Option Value)}
    {oc_Store_mend dc_Store_mend pm_Store_mend cd_Store_mend ct_Store_mend : Value}
    {kV_Store_mend : Value}
    {a_Store_pass_on : Addr}
    {od_Store_pass_on an_Store_pass_on : Option Addr}
    {sl_Store_pass_on : Array (Option Value)}
    {oc_Store_pass_on dc_Store_pass_on pm_Store_pass_on cd_Store_pass_on ct_Store_pass_on : Value}
    {kV_Store_pass_on : Value}
    {a_Store_hire : Addr}
    {od_Store_hire an_Store_hire : Option Addr}
    {sl_Store_hire : Array (Option Value)}
    {oc_Store_hire dc_Store_hire pm_Store_hire cd_Store_hire ct_Store_hire : Value}
    {kV_Store_hire : Value}
    {a_Store_dismiss : Addr}
    {od_Store_dismiss an_Store_dismiss : Option Addr}
    {sl_Store_dismiss : Array (Option Value)}
    {oc_Store_dismiss dc_Store_dismiss pm_Store_dismiss cd_Store_dismiss ct_Store_dismiss : Value}
    {kV_Store_dismiss : Value}
    {a_Store_now : Addr}
    {od_Store_now an_Store_now : Option Addr}
    {sl_Store_now : Array (Option Value)}
    {oc_Store_now dc_Store_now pm_Store_now cd_Store_now ct_Store_now : Value}
    {kV_Store_now : Value}
    {a_Store_rooms : Addr}
    {od_Store_rooms an_Store_rooms : Option Addr}
    {sl_Store_rooms : Array (Option Value)}
    {oc_Store_rooms dc_Store_rooms pm_Store_rooms cd_Store_rooms ct_Store_rooms : Value}
    {kV_Store_rooms : Value}
    {a_Store_stirs : Addr}
    {od_Store_stirs an_Store_stirs : Option Addr}
    {sl_Store_stirs : Array (Option Value)}
    {oc_Store_stirs dc_Store_stirs pm_Store_stirs cd_Store_stirs ct_Store_stirs : Value}
    {kV_Store_stirs : Value}
    {a_Store_grain : Addr}
    {od_Store_grain an_Store_grain : Option Addr}
    {sl_Store_grain : Array (Option Value)}
    {oc_Store_grain dc_Store_grain pm_Store_grain cd_Store_grain ct_Store_grain : Value}
    {kV_Store_grain : Value}
    {a_Store_fade : Addr}
    {od_Store_fade an_Store_fade : Option Addr}
    {sl_Store_fade : Array (Option Value)}
    {oc_Store_fade dc_Store_fade pm_Store_fade cd_Store_fade ct_Store_fade : Value}
    {kV_Store_fade : Value}
    {a_Store_there : Addr}
    {od_Store_there an_Store_there : Option Addr}
    {sl_Store_there : Array (Option Value)}
    {oc_Store_there dc_Store_there pm_Store_there cd_Store_there ct_Store_there : Value}
    {kV_Store_there : Value}
    {a_Store_thing : Addr}
    {od_Store_thing an_Store_thing : Option Addr}
    {sl_Store_thing : Array (Option Value)}
    {oc_Store_thing dc_Store_thing pm_Store_thing cd_Store_thing ct_Store_thing : Value}
    {kV_Store_thing : Value}
    {a_Store_wane_of : Addr}
    {od_Store_wane_of an_Store_wane_of : Option Addr}
    {sl_Store_wane_of : Array (Option Value)}
    {oc_Store_wane_of dc_Store_wane_of pm_Store_wane_of cd_Store_wane_of ct_Store_wane_of : Value}
    {kV_Store_wane_of : Value}
    {a_Store_total : Addr}
    {od_Store_total an_Store_total : Option Addr}
    {sl_Store_total : Array (Option Value)}
    {oc_Store_total dc_Store_total pm_Store_total cd_Store_total ct_Store_total : Value}
    {kV_Store_total : Value}
    {a_Store_trace : Addr}
    {od_Store_trace an_Store_trace : Option Addr}
    {sl_Store_trace : Array (Option Value)}
    {oc_Store_trace dc_Store_trace pm_Store_trace cd_Store_trace ct_Store_trace : Value}
    {kV_Store_trace : Value}
    {a_Store_askers : Addr}
    {od_Store_askers an_Store_askers : Option Addr}
    {sl_Store_askers : Array (Option Value)}
    {oc_Store_askers dc_Store_askers pm_Store_askers cd_Store_askers ct_Store_askers : Value}
    {kV_Store_askers : Value}
    {a_Store_mender : Addr}
    {od_Store_mender an_Store_mender : Option Addr}
    {sl_Store_mender : Array (Option Value)}
    {oc_Store_mender dc_Store_mender pm_Store_mender cd_Store_mender ct_Store_mender : Value}
    {kV_Store_mender : Value}
    {a_Store_state : Addr}
    {od_Store_state an_Store_state : Option Addr}
    {sl_Store_state : Array (Option Value)}
    {oc_Store_state dc_Store_state pm_Store_state cd_Store_state ct_Store_state : Value}
    {kV_Store_state : Value}
    {a_Store_story : Addr}
    {od_Store_story an_Store_story : Option Addr}
    {sl_Store_story : Array (Option Value)}
    {oc_Store_story dc_Store_story pm_Store_story cd_Store_story ct_Store_story : Value}
    {kV_Store_story : Value}
    {a_Store_copied : Addr}
    {od_Store_copied an_Store_copied : Option Addr}
    {sl_Store_copied : Array (Option Value)}
    {oc_Store_copied dc_Store_copied pm_Store_copied cd_Store_copied ct_Store_copied : Value}
    {kV_Store_copied : Value}
    {a_Store__refuse_gone : Addr}
    {od_Store__refuse_gone an_Store__refuse_gone : Option Addr}
    {sl_Store__refuse_gone : Array (Option Value)}
    {oc_Store__refuse_gone dc_Store__refuse_gone pm_Store__refuse_gone cd_Store__refuse_gone ct_Store__refuse_gone : Value}
    {kV_Store__refuse_gone : Value}
    {a_put_fits : Addr}
    {od_put_fits an_put_fits : Option Addr}
    {sl_put_fits : Array (Option Value)}
    {oc_put_fits dc_put_fits pm_put_fits cd_put_fits ct_put_fits : Value}
    {kV_put_fits : Value}
    {a_are_rooms : Addr}
    {od_are_rooms an_are_rooms : Option Addr}
    {sl_are_rooms : Array (Option Value)}
    {oc_are_rooms dc_are_rooms pm_are_rooms cd_are_rooms ct_are_rooms : Value}
    {kV_are_rooms : Value}
    {a_are_stirs : Addr}
    {od_are_stirs an_are_stirs : Option Addr}
    {sl_are_stirs : Array (Option Value)}
    {oc_are_stirs dc_are_stirs pm_are_stirs cd_are_stirs ct_are_stirs : Value}
    {kV_are_stirs : Value}
    {a__law_bag : Addr}
    {od__law_bag an__law_bag : Option Addr}
    {sl__law_bag : Array (Option Value)}
    {oc__law_bag dc__law_bag pm__law_bag cd__law_bag ct__law_bag : Value}
    {kV__law_bag : Value}
    {a__law_take : Addr}
    {od__law_take an__law_take : Option Addr}
    {sl__law_take : Array (Option Value)}
    {oc__law_take dc__law_take pm__law_take cd__law_take ct__law_take : Value}
    {kV__law_take : Value}
    {a__law_names : Addr}
    {od__law_names an__law_names : Option Addr}
    {sl__law_names : Array (Option Value)}
    {oc__law_names dc__law_names pm__law_names cd__law_names ct__law_names : Value}
    {kV__law_names : Value}
    {a__law_stirs : Addr}
    {od__law_stirs an__law_stirs : Option Addr}
    {sl__law_stirs : Array (Option Value)}
    {oc__law_stirs dc__law_stirs pm__law_stirs cd__law_stirs ct__law_stirs : Value}
    {kV__law_stirs : Value}
    {a__law_rooms : Addr}
    {od__law_rooms an__law_rooms : Option Addr}
    {sl__law_rooms : Array (Option Value)}
    {oc__law_rooms dc__law_rooms pm__law_rooms cd__law_rooms ct__law_rooms : Value}
    {kV__law_rooms : Value}
    {a__law_alike : Addr}
    {od__law_alike an__law_alike : Option Addr}
    {sl__law_alike : Array (Option Value)}
    {oc__law_alike dc__law_alike pm__law_alike cd__law_alike ct__law_alike : Value}
    {kV__law_alike : Value}
    {a__law_made : Addr}
    {od__law_made an__law_made : Option Addr}
    {sl__law_made : Array (Option Value)}
    {oc__law_made dc__law_made pm__law_made cd__law_made ct__law_made : Value}
    {kV__law_made : Value}
    {a__law_right : Addr}
    {od__law_right an__law_right : Option Addr}
    {sl__law_right : Array (Option Value)}
    {oc__law_right dc__law_right pm__law_right cd__law_right ct__law_right : Value}
    {kV__law_right : Value}
    {a__law_refused : Addr}
    {od__law_refused an__law_refused : Option Addr}
    {sl__law_refused : Array (Option Value)}
    {oc__law_refused dc__law_refused pm__law_refused cd__law_refused ct__law_refused : Value}
    {kV__law_refused : Value}
    {a__law_spoilt : Addr}
    {od__law_spoilt an__law_spoilt : Option Addr}
    {sl__law_spoilt : Array (Option Value)}
    {oc__law_spoilt dc__law_spoilt pm__law_spoilt cd__law_spoilt ct__law_spoilt : Value}
    {kV__law_spoilt : Value}
    {a__law_case : Addr}
    {od__law_case an__law_case : Option Addr}
    {sl__law_case : Array (Option Value)}
    {oc__law_case dc__law_case pm__law_case cd__law_case ct__law_case : Value}
    {kV__law_case : Value}
    {a__law_store : Addr}
    {od__law_store an__law_store : Option Addr}
    {sl__law_store : Array (Option Value)}
    {oc__law_store dc__law_store pm__law_store cd__law_store ct__law_store : Value}
    {kV__law_store : Value}
    {a_law : Addr}
    {od_law an_law : Option Addr}
    {sl_law : Array (Option Value)}
    {oc_law dc_law pm_law cd_law ct_law : Value}
    {kV_law : Value}
    (n_ValueError : PySem.W.nsIn K mainGlobals "ValueError" = some none)
    (n_abs : PySem.W.nsIn K mainGlobals "abs" = some none)
    (n_all : PySem.W.nsIn K mainGlobals "all" = some none)
    (n_bool : PySem.W.nsIn K mainGlobals "bool" = some none)
    (n_dict : PySem.W.nsIn K mainGlobals "dict" = some none)
    (n_enumerate : PySem.W.nsIn K mainGlobals "enumerate" = some none)
    (n_int : PySem.W.nsIn K mainGlobals "int" = some none)
    (n_isinstance : PySem.W.nsIn K mainGlobals "isinstance" = some none)
    (n_len : PySem.W.nsIn K mainGlobals "len" = some none)
    (n_list : PySem.W.nsIn K mainGlobals "list" = some none)
    (n_max : PySem.W.nsIn K mainGlobals "max" = some none)
    (n_min : PySem.W.nsIn K mainGlobals "min" = some none)
    (n_range : PySem.W.nsIn K mainGlobals "range" = some none)
    (n_repr : PySem.W.nsIn K mainGlobals "repr" = some none)
    (n_sorted : PySem.W.nsIn K mainGlobals "sorted" = some none)
    (n_str : PySem.W.nsIn K mainGlobals "str" = some none)
    (n_sum : PySem.W.nsIn K mainGlobals "sum" = some none)
    (n_tuple : PySem.W.nsIn K mainGlobals "tuple" = some none)
    (c_ANEW : PySem.W.nsIn K mainGlobals "ANEW" = some (some (.str "anew" t_ANEW)))
    (c_BAR : PySem.W.nsIn K mainGlobals "BAR" = some (some (.str "|" t_BAR)))
    (c_BILLION : PySem.W.nsIn K mainGlobals "BILLION" = some (some (.int 1000000000 t_BILLION)))
    (c_CROWDED : PySem.W.nsIn K mainGlobals "CROWDED" = some (some (.str "crowded" t_CROWDED)))
    (c_DAY : PySem.W.nsIn K mainGlobals "DAY" = some (some (.int 24 t_DAY)))
    (c_FADED : PySem.W.nsIn K mainGlobals "FADED" = some (some (.str "faded" t_FADED)))
    (c_LETTERS : PySem.W.nsIn K mainGlobals "LETTERS" = some (some (.str "abcdefghijklmnopqrstuvwxyz" t_LETTERS)))
    (c_MOST_BY : PySem.W.nsIn K mainGlobals "MOST_BY" = some (some (.int 9 t_MOST_BY)))
    (c_MOST_HEAD : PySem.W.nsIn K mainGlobals "MOST_HEAD" = some (some (.int 24 t_MOST_HEAD)))
    (c_MOST_LETTERS : PySem.W.nsIn K mainGlobals "MOST_LETTERS" = some (some (.int 8 t_MOST_LETTERS)))
    (c_MOST_MOMENT : PySem.W.nsIn K mainGlobals "MOST_MOMENT" = some (some (.int 1000000000000000000000000000000 t_MOST_MOMENT)))
    (c_MOST_ROOM : PySem.W.nsIn K mainGlobals "MOST_ROOM" = some (some (.int 1000000000000 t_MOST_ROOM)))
    (c_MOST_ROOMS : PySem.W.nsIn K mainGlobals "MOST_ROOMS" = some (some (.int 4 t_MOST_ROOMS)))
    (c_MOST_SORT : PySem.W.nsIn K mainGlobals "MOST_SORT" = some (some (.int 9 t_MOST_SORT)))
    (c_MOST_THINGS : PySem.W.nsIn K mainGlobals "MOST_THINGS" = some (some (.int 8 t_MOST_THINGS)))
    (c_MOVED : PySem.W.nsIn K mainGlobals "MOVED" = some (some (.str "moved" t_MOVED)))
    (c_PRESSED : PySem.W.nsIn K mainGlobals "PRESSED" = some (some (.str "pressed" t_PRESSED)))
    (c_PUT : PySem.W.nsIn K mainGlobals "PUT" = some (some (.str "put" t_PUT)))
    (c_SORTS : PySem.W.nsIn K mainGlobals "SORTS" = some (some (.int 10 t_SORTS)))
    (c_TAILS : PySem.W.nsIn K mainGlobals "TAILS" = some (some (.ref a_TAILS)))
    (l_TAILS : K.lookup a_TAILS = some { cls := .type "tuple", dict := e_TAILS, data := .seq #[.int 1 y_TAILS_0, .int 2 y_TAILS_1, .int 3 y_TAILS_2, .int 4 y_TAILS_3, .int 6 y_TAILS_4, .int 8 y_TAILS_5, .int 12 y_TAILS_6, .int 24 y_TAILS_7] z_TAILS, slots := sl_TAILS })
    (c_TAKEN : PySem.W.nsIn K mainGlobals "TAKEN" = some (some (.str "taken" t_TAKEN)))
    (c_WaneError : PySem.W.nsIn K mainGlobals "WaneError" = some (some (.ref C_WaneError)))
    (xl_WaneError : K.lookup C_WaneError = some (excClassObj nm_WaneError qq_WaneError C_WaneError NN_WaneError bs_WaneError [.type "ValueError", .type "Exception", .type "BaseException", .type "object"] true sn_WaneError sb_WaneError ab_WaneError co_WaneError dd_WaneError k0_WaneError k1_WaneError k2_WaneError k3_WaneError k5_WaneError "ValueError.__new__"))
    (xs_WaneError : PySem.W.findIn K (.ref C_WaneError) "__setattr__" = some (some (.builtin "object.__setattr__")))
    (xe_WaneError : PySem.W.subIn K (.ref C_WaneError) (.type "BaseException") = some true)
    (xt_WaneError : PySem.W.typeIn K (.ref C_WaneError) = some (.type "type"))
    (xk_WaneError : PySem.W.keepIn K (.ref C_WaneError) = true)
    (xa_WaneError : PySem.W.findIn K (.ref C_WaneError) "__getattribute__" = some (some (.builtin "BaseException.__getattribute__")))
    (xg_WaneError : PySem.W.findIn K (.ref C_WaneError) "__getattr__" = some none)
    (xh_WaneError : PySem.W.hasDictIn K C_WaneError = true)
    (xc_WaneError : PySem.W.findIn K (.ref C_WaneError) "__class__" = some (some (.builtin "object.__class__")))
    (xn_WaneError : PySem.W.specialIn K (.builtin "object.__class__") "__get__" = some (some (.builtin "getset_descriptor.__get__")))
    (xo_WaneError : PySem.W.takesIn K (.builtin "object.__class__") = some true)
    (xm_WaneError : PySem.W.mroIn K C_WaneError (.type "object") = some true)
    (xx_WaneError : PySem.W.subIn K (.ref C_WaneError) (.ref C_WaneError) = some true)
    (xv_WaneError : PySem.W.subIn K (.ref C_WaneError) (.type "ValueError") = some true)
    (c_Wrong : PySem.W.nsIn K mainGlobals "Wrong" = some (some (.ref C_Wrong)))
    (xl_Wrong : K.lookup C_Wrong = some (excClassObj nm_Wrong qq_Wrong C_Wrong NN_Wrong bs_Wrong [.ref C_WaneError, .type "ValueError", .type "Exception", .type "BaseException", .type "object"] true sn_Wrong sb_Wrong ab_Wrong co_Wrong dd_Wrong k0_Wrong k1_Wrong k2_Wrong k3_Wrong k5_Wrong "ValueError.__new__"))
    (xs_Wrong : PySem.W.findIn K (.ref C_Wrong) "__setattr__" = some (some (.builtin "object.__setattr__")))
    (xe_Wrong : PySem.W.subIn K (.ref C_Wrong) (.type "BaseException") = some true)
    (xt_Wrong : PySem.W.typeIn K (.ref C_Wrong) = some (.type "type"))
    (xk_Wrong : PySem.W.keepIn K (.ref C_Wrong) = true)
    (xa_Wrong : PySem.W.findIn K (.ref C_Wrong) "__getattribute__" = some (some (.builtin "BaseException.__getattribute__")))
    (xg_Wrong : PySem.W.findIn K (.ref C_Wrong) "__getattr__" = some none)
    (xh_Wrong : PySem.W.hasDictIn K C_Wrong = true)
    (xc_Wrong : PySem.W.findIn K (.ref C_Wrong) "__class__" = some (some (.builtin "object.__class__")))
    (xn_Wrong : PySem.W.specialIn K (.builtin "object.__class__") "__get__" = some (some (.builtin "getset_descriptor.__get__")))
    (xo_Wrong : PySem.W.takesIn K (.builtin "object.__class__") = some true)
    (xm_Wrong : PySem.W.mroIn K C_Wrong (.type "object") = some true)
    (xx_Wrong : PySem.W.subIn K (.ref C_Wrong) (.ref C_Wrong) = some true)
    (xv_Wrong : PySem.W.subIn K (.ref C_Wrong) (.type "ValueError") = some true)
    (c_TooMany : PySem.W.nsIn K mainGlobals "TooMany" = some (some (.ref C_TooMany)))
    (xl_TooMany : K.lookup C_TooMany = some (excClassObj nm_TooMany qq_TooMany C_TooMany NN_TooMany bs_TooMany [.ref C_WaneError, .type "ValueError", .type "Exception", .type "BaseException", .type "object"] true sn_TooMany sb_TooMany ab_TooMany co_TooMany dd_TooMany k0_TooMany k1_TooMany k2_TooMany k3_TooMany k5_TooMany "ValueError.__new__"))
    (xs_TooMany : PySem.W.findIn K (.ref C_TooMany) "__setattr__" = some (some (.builtin "object.__setattr__")))
    (xe_TooMany : PySem.W.subIn K (.ref C_TooMany) (.type "BaseException") = some true)
    (xt_TooMany : PySem.W.typeIn K (.ref C_TooMany) = some (.type "type"))
    (xk_TooMany : PySem.W.keepIn K (.ref C_TooMany) = true)
    (xa_TooMany : PySem.W.findIn K (.ref C_TooMany) "__getattribute__" = some (some (.builtin "BaseException.__getattribute__")))
    (xg_TooMany : PySem.W.findIn K (.ref C_TooMany) "__getattr__" = some none)
    (xh_TooMany : PySem.W.hasDictIn K C_TooMany = true)
    (xc_TooMany : PySem.W.findIn K (.ref C_TooMany) "__class__" = some (some (.builtin "object.__class__")))
    (xn_TooMany : PySem.W.specialIn K (.builtin "object.__class__") "__get__" = some (some (.builtin "getset_descriptor.__get__")))
    (xo_TooMany : PySem.W.takesIn K (.builtin "object.__class__") = some true)
    (xm_TooMany : PySem.W.mroIn K C_TooMany (.type "object") = some true)
    (xx_TooMany : PySem.W.subIn K (.ref C_TooMany) (.ref C_TooMany) = some true)
    (xv_TooMany : PySem.W.subIn K (.ref C_TooMany) (.type "ValueError") = some true)
    (c_There : PySem.W.nsIn K mainGlobals "There" = some (some (.ref C_There)))
    (xl_There : K.lookup C_There = some (excClassObj nm_There qq_There C_There NN_There bs_There [.ref C_WaneError, .type "ValueError", .type "Exception", .type "BaseException", .type "object"] true sn_There sb_There ab_There co_There dd_There k0_There k1_There k2_There k3_There k5_There "ValueError.__new__"))
    (xs_There : PySem.W.findIn K (.ref C_There) "__setattr__" = some (some (.builtin "object.__setattr__")))
    (xe_There : PySem.W.subIn K (.ref C_There) (.type "BaseException") = some true)
    (xt_There : PySem.W.typeIn K (.ref C_There) = some (.type "type"))
    (xk_There : PySem.W.keepIn K (.ref C_There) = true)
    (xa_There : PySem.W.findIn K (.ref C_There) "__getattribute__" = some (some (.builtin "BaseException.__getattribute__")))
    (xg_There : PySem.W.findIn K (.ref C_There) "__getattr__" = some none)
    (xh_There : PySem.W.hasDictIn K C_There = true)
    (xc_There : PySem.W.findIn K (.ref C_There) "__class__" = some (some (.builtin "object.__class__")))
    (xn_There : PySem.W.specialIn K (.builtin "object.__class__") "__get__" = some (some (.builtin "getset_descriptor.__get__")))
    (xo_There : PySem.W.takesIn K (.builtin "object.__class__") = some true)
    (xm_There : PySem.W.mroIn K C_There (.type "object") = some true)
    (xx_There : PySem.W.subIn K (.ref C_There) (.ref C_There) = some true)
    (xv_There : PySem.W.subIn K (.ref C_There) (.type "ValueError") = some true)
    (c_Gone : PySem.W.nsIn K mainGlobals "Gone" = some (some (.ref C_Gone)))
    (xl_Gone : K.lookup C_Gone = some (excClassObj nm_Gone qq_Gone C_Gone NN_Gone bs_Gone [.ref C_WaneError, .type "ValueError", .type "Exception", .type "BaseException", .type "object"] true sn_Gone sb_Gone ab_Gone co_Gone dd_Gone k0_Gone k1_Gone k2_Gone k3_Gone k5_Gone "ValueError.__new__"))
    (xs_Gone : PySem.W.findIn K (.ref C_Gone) "__setattr__" = some (some (.builtin "object.__setattr__")))
    (xe_Gone : PySem.W.subIn K (.ref C_Gone) (.type "BaseException") = some true)
    (xt_Gone : PySem.W.typeIn K (.ref C_Gone) = some (.type "type"))
    (xk_Gone : PySem.W.keepIn K (.ref C_Gone) = true)
    (xa_Gone : PySem.W.findIn K (.ref C_Gone) "__getattribute__" = some (some (.builtin "BaseException.__getattribute__")))
    (xg_Gone : PySem.W.findIn K (.ref C_Gone) "__getattr__" = some none)
    (xh_Gone : PySem.W.hasDictIn K C_Gone = true)
    (xc_Gone : PySem.W.findIn K (.ref C_Gone) "__class__" = some (some (.builtin "object.__class__")))
    (xn_Gone : PySem.W.specialIn K (.builtin "object.__class__") "__get__" = some (some (.builtin "getset_descriptor.__get__")))
    (xo_Gone : PySem.W.takesIn K (.builtin "object.__class__") = some true)
    (xm_Gone : PySem.W.mroIn K C_Gone (.type "object") = some true)
    (xx_Gone : PySem.W.subIn K (.ref C_Gone) (.ref C_Gone) = some true)
    (xv_Gone : PySem.W.subIn K (.ref C_Gone) (.type "ValueError") = some true)
    (c_Wane : PySem.W.nsIn K mainGlobals "Wane" = some (some (.ref C_Wane)))
    (pg_Wane : PySem.W.plainGet K C_Wane Str.empty = true)
    (hd_Wane : PySem.W.hasDictIn K C_Wane = true)
    (po_Wane : PySem.W.plainOver K C_Wane = true)
    (sa_Wane : PySem.W.findIn K (.ref C_Wane) "__setattr__" = some (some (.builtin "object.__setattr__")))
    (ic1_Wane : PySem.W.findIn K (.ref C_Wane) "__class__" = some (some (.builtin "object.__class__")))
    (ic2_Wane : PySem.W.specialIn K (.builtin "object.__class__") "__get__" = some (some (.builtin "getset_descriptor.__get__")))
    (ic3_Wane : PySem.W.takesIn K (.builtin "object.__class__") = some true)
    (ic4_Wane : PySem.W.mroIn K C_Wane (.type "object") = some true)
    (ty_Wane : PySem.W.typeIn K (.ref C_Wane) = some (.type "type"))
    (na_Wane__anew : PySem.W.findIn K (.ref C_Wane) "_anew" = some none)
    (na_Wane__cap : PySem.W.findIn K (.ref C_Wane) "_cap" = some none)
    (na_Wane__head : PySem.W.findIn K (.ref C_Wane) "_head" = some none)
    (na_Wane__lift : PySem.W.findIn K (.ref C_Wane) "_lift" = some none)
    (na_Wane__steps : PySem.W.findIn K (.ref C_Wane) "_steps" = some none)
    (na_Wane__tail : PySem.W.findIn K (.ref C_Wane) "_tail" = some none)
    (c_Story : PySem.W.nsIn K mainGlobals "Story" = some (some (.ref C_Story)))
    (pg_Story : PySem.W.plainGet K C_Story Str.empty = true)
    (hd_Story : PySem.W.hasDictIn K C_Story = true)
    (po_Story : PySem.W.plainOver K C_Story = true)
    (sa_Story : PySem.W.findIn K (.ref C_Story) "__setattr__" = some (some (.builtin "object.__setattr__")))
    (ic1_Story : PySem.W.findIn K (.ref C_Story) "__class__" = some (some (.builtin "object.__class__")))
    (ic2_Story : PySem.W.specialIn K (.builtin "object.__class__") "__get__" = some (some (.builtin "getset_descriptor.__get__")))
    (ic3_Story : PySem.W.takesIn K (.builtin "object.__class__") = some true)
    (ic4_Story : PySem.W.mroIn K C_Story (.type "object") = some true)
    (ty_Story : PySem.W.typeIn K (.ref C_Story) = some (.type "type"))
    (na_Story_length : PySem.W.findIn K (.ref C_Story) "length" = some none)
    (na_Story_shared : PySem.W.findIn K (.ref C_Story) "shared" = some none)
    (c_Thing : PySem.W.nsIn K mainGlobals "Thing" = some (some (.ref C_Thing)))
    (pg_Thing : PySem.W.plainGet K C_Thing Str.empty = true)
    (hd_Thing : PySem.W.hasDictIn K C_Thing = true)
    (po_Thing : PySem.W.plainOver K C_Thing = true)
    (sa_Thing : PySem.W.findIn K (.ref C_Thing) "__setattr__" = some (some (.builtin "object.__setattr__")))
    (ic1_Thing : PySem.W.findIn K (.ref C_Thing) "__class__" = some (some (.builtin "object.__class__")))
    (ic2_Thing : PySem.W.specialIn K (.builtin "object.__class__") "__get__" = some (some (.builtin "getset_descriptor.__get__")))
    (ic3_Thing : PySem.W.takesIn K (.builtin "object.__class__") = some true)
    (ic4_Thing : PySem.W.mroIn K C_Thing (.type "object") = some true)
    (ty_Thing : PySem.W.typeIn K (.ref C_Thing) = some (.type "type"))
    (na_Thing_asked : PySem.W.findIn K (.ref C_Thing) "asked" = some none)
    (na_Thing_group : PySem.W.findIn K (.ref C_Thing) "group" = some none)
    (na_Thing_name : PySem.W.findIn K (.ref C_Thing) "name" = some none)
    (na_Thing_room : PySem.W.findIn K (.ref C_Thing) "room" = some none)
    (na_Thing_since : PySem.W.findIn K (.ref C_Thing) "since" = some none)
    (na_Thing_strength : PySem.W.findIn K (.ref C_Thing) "strength" = some none)
    (na_Thing_wane : PySem.W.findIn K (.ref C_Thing) "wane" = some none)
    (c_Shelf : PySem.W.nsIn K mainGlobals "Shelf" = some (some (.ref C_Shelf)))
    (pg_Shelf : PySem.W.plainGet K C_Shelf Str.empty = true)
    (hd_Shelf : PySem.W.hasDictIn K C_Shelf = true)
    (po_Shelf : PySem.W.plainOver K C_Shelf = true)
    (sa_Shelf : PySem.W.findIn K (.ref C_Shelf) "__setattr__" = some (some (.builtin "object.__setattr__")))
    (ic1_Shelf : PySem.W.findIn K (.ref C_Shelf) "__class__" = some (some (.builtin "object.__class__")))
    (ic2_Shelf : PySem.W.specialIn K (.builtin "object.__class__") "__get__" = some (some (.builtin "getset_descriptor.__get__")))
    (ic3_Shelf : PySem.W.takesIn K (.builtin "object.__class__") = some true)
    (ic4_Shelf : PySem.W.mroIn K C_Shelf (.type "object") = some true)
    (ty_Shelf : PySem.W.typeIn K (.ref C_Shelf) = some (.type "type"))
    (na_Shelf_hired : PySem.W.findIn K (.ref C_Shelf) "hired" = some none)
    (na_Shelf_limits : PySem.W.findIn K (.ref C_Shelf) "limits" = some none)
    (na_Shelf_mark : PySem.W.findIn K (.ref C_Shelf) "mark" = some none)
    (na_Shelf_moment : PySem.W.findIn K (.ref C_Shelf) "moment" = some none)
    (na_Shelf_per_asking : PySem.W.findIn K (.ref C_Shelf) "per_asking" = some none)
    (na_Shelf_per_turn : PySem.W.findIn K (.ref C_Shelf) "per_turn" = some none)
    (na_Shelf_plans : PySem.W.findIn K (.ref C_Shelf) "plans" = some none)
    (na_Shelf_rows : PySem.W.findIn K (.ref C_Shelf) "rows" = some none)
    (na_Shelf_shifts : PySem.W.findIn K (.ref C_Shelf) "shifts" = some none)
    (na_Shelf_things : PySem.W.findIn K (.ref C_Shelf) "things" = some none)
    (na_Shelf_traces : PySem.W.findIn K (.ref C_Shelf) "traces" = some none)
    (c_Store : PySem.W.nsIn K mainGlobals "Store" = some (some (.ref C_Store)))
    (pg_Store : PySem.W.plainGet K C_Store Str.empty = true)
    (hd_Store : PySem.W.hasDictIn K C_Store = true)
    (po_Store : PySem.W.plainOver K C_Store = true)
    (sa_Store : PySem.W.findIn K (.ref C_Store) "__setattr__" = some (some (.builtin "object.__setattr__")))
    (ic1_Store : PySem.W.findIn K (.ref C_Store) "__class__" = some (some (.builtin "object.__class__")))
    (ic2_Store : PySem.W.specialIn K (.builtin "object.__class__") "__get__" = some (some (.builtin "getset_descriptor.__get__")))
    (ic3_Store : PySem.W.takesIn K (.builtin "object.__class__") = some true)
    (ic4_Store : PySem.W.mroIn K C_Store (.type "object") = some true)
    (ty_Store : PySem.W.typeIn K (.ref C_Store) = some (.type "type"))
    (na_Store_shelf : PySem.W.findIn K (.ref C_Store) "shelf" = some none)
    (m__wall : PySem.W.nsIn K mainGlobals "_wall" = some (some (.ref a__wall)))
    (l__wall : K.lookup a__wall = some ⟨oc__wall, od__wall, .func (PySem.W.fnOf "_wall" "_wall" (defArgs s__wall) (defBody s__wall) (defScope s__wall) .none kV__wall dc__wall pm__wall an__wall cd__wall ct__wall), sl__wall⟩)
    (h__wall : PySem.W.codeIn K cd__wall "_wall" = true)
    (k__wall : PySem.W.keepIn K (.ref a__wall) = true)
    (m_Wrong___init__ : PySem.W.findIn K (.ref C_Wrong) "__init__" = some (some (.ref a_Wrong___init__)))
    (l_Wrong___init__ : K.lookup a_Wrong___init__ = some ⟨oc_Wrong___init__, od_Wrong___init__, .func (PySem.W.fnOf "__init__" "Wrong.__init__" (defArgs s_Wrong___init__) (defBody s_Wrong___init__) (defScope s_Wrong___init__) .none kV_Wrong___init__ dc_Wrong___init__ pm_Wrong___init__ an_Wrong___init__ cd_Wrong___init__ ct_Wrong___init__), sl_Wrong___init__⟩)
    (h_Wrong___init__ : PySem.W.codeIn K cd_Wrong___init__ "Wrong.__init__" = true)
    (k_Wrong___init__ : PySem.W.keepIn K (.ref a_Wrong___init__) = true)
    (m_TooMany___init__ : PySem.W.findIn K (.ref C_TooMany) "__init__" = some (some (.ref a_TooMany___init__)))
    (l_TooMany___init__ : K.lookup a_TooMany___init__ = some ⟨oc_TooMany___init__, od_TooMany___init__, .func (PySem.W.fnOf "__init__" "TooMany.__init__" (defArgs s_TooMany___init__) (defBody s_TooMany___init__) (defScope s_TooMany___init__) .none kV_TooMany___init__ dc_TooMany___init__ pm_TooMany___init__ an_TooMany___init__ cd_TooMany___init__ ct_TooMany___init__), sl_TooMany___init__⟩)
    (h_TooMany___init__ : PySem.W.codeIn K cd_TooMany___init__ "TooMany.__init__" = true)
    (k_TooMany___init__ : PySem.W.keepIn K (.ref a_TooMany___init__) = true)
    (m_There___init__ : PySem.W.findIn K (.ref C_There) "__init__" = some (some (.ref a_There___init__)))
    (l_There___init__ : K.lookup a_There___init__ = some ⟨oc_There___init__, od_There___init__, .func (PySem.W.fnOf "__init__" "There.__init__" (defArgs s_There___init__) (defBody s_There___init__) (defScope s_There___init__) .none kV_There___init__ dc_There___init__ pm_There___init__ an_There___init__ cd_There___init__ ct_There___init__), sl_There___init__⟩)
    (h_There___init__ : PySem.W.codeIn K cd_There___init__ "There.__init__" = true)
    (k_There___init__ : PySem.W.keepIn K (.ref a_There___init__) = true)
    (m_Gone___init__ : PySem.W.findIn K (.ref C_Gone) "__init__" = some (some (.ref a_Gone___init__)))
    (l_Gone___init__ : K.lookup a_Gone___init__ = some ⟨oc_Gone___init__, od_Gone___init__, .func (PySem.W.fnOf "__init__" "Gone.__init__" (defArgs s_Gone___init__) (defBody s_Gone___init__) (defScope s_Gone___init__) .none kV_Gone___init__ dc_Gone___init__ pm_Gone___init__ an_Gone___init__ cd_Gone___init__ ct_Gone___init__), sl_Gone___init__⟩)
    (h_Gone___init__ : PySem.W.codeIn K cd_Gone___init__ "Gone.__init__" = true)
    (k_Gone___init__ : PySem.W.keepIn K (.ref a_Gone___init__) = true)
    (m_refuse_wrong : PySem.W.nsIn K mainGlobals "refuse_wrong" = some (some (.ref a_refuse_wrong)))
    (l_refuse_wrong : K.lookup a_refuse_wrong = some ⟨oc_refuse_wrong, od_refuse_wrong, .func (PySem.W.fnOf "refuse_wrong" "refuse_wrong" (defArgs s_refuse_wrong) (defBody s_refuse_wrong) (defScope s_refuse_wrong) .none kV_refuse_wrong dc_refuse_wrong pm_refuse_wrong an_refuse_wrong cd_refuse_wrong ct_refuse_wrong), sl_refuse_wrong⟩)
    (h_refuse_wrong : PySem.W.codeIn K cd_refuse_wrong "refuse_wrong" = true)
    (k_refuse_wrong : PySem.W.keepIn K (.ref a_refuse_wrong) = true)
    (m_is_whole : PySem.W.nsIn K mainGlobals "is_whole" = some (some (.ref a_is_whole)))
    (l_is_whole : K.lookup a_is_whole = some ⟨oc_is_whole, od_is_whole, .func (PySem.W.fnOf "is_whole" "is_whole" (defArgs s_is_whole) (defBody s_is_whole) (defScope s_is_whole) .none kV_is_whole dc_is_whole pm_is_whole an_is_whole cd_is_whole ct_is_whole), sl_is_whole⟩)
    (h_is_whole : PySem.W.codeIn K cd_is_whole "is_whole" = true)
    (k_is_whole : PySem.W.keepIn K (.ref a_is_whole) = true)
    (m_is_within : PySem.W.nsIn K mainGlobals "is_within" = some (some (.ref a_is_within)))
    (l_is_within : K.lookup a_is_within = some ⟨oc_is_within, od_is_within, .func (PySem.W.fnOf "is_within" "is_within" (defArgs s_is_within) (defBody s_is_within) (defScope s_is_within) .none kV_is_within dc_is_within pm_is_within an_is_within cd_is_within ct_is_within), sl_is_within⟩)
    (h_is_within : PySem.W.codeIn K cd_is_within "is_within" = true)
    (k_is_within : PySem.W.keepIn K (.ref a_is_within) = true)
    (m_is_name : PySem.W.nsIn K mainGlobals "is_name" = some (some (.ref a_is_name)))
    (l_is_name : K.lookup a_is_name = some ⟨oc_is_name, od_is_name, .func (PySem.W.fnOf "is_name" "is_name" (defArgs s_is_name) (defBody s_is_name) (defScope s_is_name) .none kV_is_name dc_is_name pm_is_name an_is_name cd_is_name ct_is_name), sl_is_name⟩)
    (h_is_name : PySem.W.codeIn K cd_is_name "is_name" = true)
    (k_is_name : PySem.W.keepIn K (.ref a_is_name) = true)
    (m_is_sort : PySem.W.nsIn K mainGlobals "is_sort" = some (some (.ref a_is_sort)))
    (l_is_sort : K.lookup a_is_sort = some ⟨oc_is_sort, od_is_sort, .func (PySem.W.fnOf "is_sort" "is_sort" (defArgs s_is_sort) (defBody s_is_sort) (defScope s_is_sort) .none kV_is_sort dc_is_sort pm_is_sort an_is_sort cd_is_sort ct_is_sort), sl_is_sort⟩)
    (h_is_sort : PySem.W.codeIn K cd_is_sort "is_sort" = true)
    (k_is_sort : PySem.W.keepIn K (.ref a_is_sort) = true)
    (m_is_strength : PySem.W.nsIn K mainGlobals "is_strength" = some (some (.ref a_is_strength)))
    (l_is_strength : K.lookup a_is_strength = some ⟨oc_is_strength, od_is_strength, .func (PySem.W.fnOf "is_strength" "is_strength" (defArgs s_is_strength) (defBody s_is_strength) (defScope s_is_strength) .none kV_is_strength dc_is_strength pm_is_strength an_is_strength cd_is_strength ct_is_strength), sl_is_strength⟩)
    (h_is_strength : PySem.W.codeIn K cd_is_strength "is_strength" = true)
    (k_is_strength : PySem.W.keepIn K (.ref a_is_strength) = true)
    (m_is_size : PySem.W.nsIn K mainGlobals "is_size" = some (some (.ref a_is_size)))
    (l_is_size : K.lookup a_is_size = some ⟨oc_is_size, od_is_size, .func (PySem.W.fnOf "is_size" "is_size" (defArgs s_is_size) (defBody s_is_size) (defScope s_is_size) .none kV_is_size dc_is_size pm_is_size an_is_size cd_is_size ct_is_size), sl_is_size⟩)
    (h_is_size : PySem.W.codeIn K cd_is_size "is_size" = true)
    (k_is_size : PySem.W.keepIn K (.ref a_is_size) = true)
    (m_is_shift : PySem.W.nsIn K mainGlobals "is_shift" = some (some (.ref a_is_shift)))
    (l_is_shift : K.lookup a_is_shift = some ⟨oc_is_shift, od_is_shift, .func (PySem.W.fnOf "is_shift" "is_shift" (defArgs s_is_shift) (defBody s_is_shift) (defScope s_is_shift) .none kV_is_shift dc_is_shift pm_is_shift an_is_shift cd_is_shift ct_is_shift), sl_is_shift⟩)
    (h_is_shift : PySem.W.codeIn K cd_is_shift "is_shift" = true)
    (k_is_shift : PySem.W.keepIn K (.ref a_is_shift) = true)
    (m_is_room : PySem.W.nsIn K mainGlobals "is_room" = some (some (.ref a_is_room)))
    (l_is_room : K.lookup a_is_room = some ⟨oc_is_room, od_is_room, .func (PySem.W.fnOf "is_room" "is_room" (defArgs s_is_room) (defBody s_is_room) (defScope s_is_room) .none kV_is_room dc_is_room pm_is_room an_is_room cd_is_room ct_is_room), sl_is_room⟩)
    (h_is_room : PySem.W.codeIn K cd_is_room "is_room" = true)
    (k_is_room : PySem.W.keepIn K (.ref a_is_room) = true)
    (m_is_moment : PySem.W.nsIn K mainGlobals "is_moment" = some (some (.ref a_is_moment)))
    (l_is_moment : K.lookup a_is_moment = some ⟨oc_is_moment, od_is_moment, .func (PySem.W.fnOf "is_moment" "is_moment" (defArgs s_is_moment) (defBody s_is_moment) (defScope s_is_moment) .none kV_is_moment dc_is_moment pm_is_moment an_is_moment cd_is_moment ct_is_moment), sl_is_moment⟩)
    (h_is_moment : PySem.W.codeIn K cd_is_moment "is_moment" = true)
    (k_is_moment : PySem.W.keepIn K (.ref a_is_moment) = true)
    (m_is_step : PySem.W.nsIn K mainGlobals "is_step" = some (some (.ref a_is_step)))
    (l_is_step : K.lookup a_is_step = some ⟨oc_is_step, od_is_step, .func (PySem.W.fnOf "is_step" "is_step" (defArgs s_is_step) (defBody s_is_step) (defScope s_is_step) .none kV_is_step dc_is_step pm_is_step an_is_step cd_is_step ct_is_step), sl_is_step⟩)
    (h_is_step : PySem.W.codeIn K cd_is_step "is_step" = true)
    (k_is_step : PySem.W.keepIn K (.ref a_is_step) = true)
    (m_hour_of : PySem.W.nsIn K mainGlobals "hour_of" = some (some (.ref a_hour_of)))
    (l_hour_of : K.lookup a_hour_of = some ⟨oc_hour_of, od_hour_of, .func (PySem.W.fnOf "hour_of" "hour_of" (defArgs s_hour_of) (defBody s_hour_of) (defScope s_hour_of) .none kV_hour_of dc_hour_of pm_hour_of an_hour_of cd_hour_of ct_hour_of), sl_hour_of⟩)
    (h_hour_of : PySem.W.codeIn K cd_hour_of "hour_of" = true)
    (k_hour_of : PySem.W.keepIn K (.ref a_hour_of) = true)
    (m_Wane___init__ : PySem.W.findIn K (.ref C_Wane) "__init__" = some (some (.ref a_Wane___init__)))
    (l_Wane___init__ : K.lookup a_Wane___init__ = some ⟨oc_Wane___init__, od_Wane___init__, .func (PySem.W.fnOf "__init__" "Wane.__init__" (defArgs s_Wane___init__) (defBody s_Wane___init__) (defScope s_Wane___init__) .none (.ref D_Wane___init__) dc_Wane___init__ pm_Wane___init__ an_Wane___init__ cd_Wane___init__ ct_Wane___init__), sl_Wane___init__⟩)
    (h_Wane___init__ : PySem.W.codeIn K cd_Wane___init__ "Wane.__init__" = true)
    (k_Wane___init__ : PySem.W.keepIn K (.ref a_Wane___init__) = true)
    (kw_Wane___init___anew : PySem.W.nsIn K D_Wane___init__ "anew" = some (some (.bool true)))
    (i_Wane___init__ : PySem.W.isFn K (.ref a_Wane___init__) = true)
    (mk_Wane : PySem.W.makesIn K C_Wane = true)
    (kc_Wane : PySem.W.keepIn K (.ref C_Wane) = true)
    (m_Wane_head : PySem.W.findIn K (.ref C_Wane) "head" = some (some (.ref a_Wane_head)))
    (l_Wane_head : K.lookup a_Wane_head = some ⟨oc_Wane_head, od_Wane_head, .func (PySem.W.fnOf "head" "Wane.head" (defArgs s_Wane_head) (defBody s_Wane_head) (defScope s_Wane_head) .none kV_Wane_head dc_Wane_head pm_Wane_head an_Wane_head cd_Wane_head ct_Wane_head), sl_Wane_head⟩)
    (h_Wane_head : PySem.W.codeIn K cd_Wane_head "Wane.head" = true)
    (k_Wane_head : PySem.W.keepIn K (.ref a_Wane_head) = true)
    (i_Wane_head : PySem.W.isFn K (.ref a_Wane_head) = true)
    (m_Wane_tail : PySem.W.findIn K (.ref C_Wane) "tail" = some (some (.ref a_Wane_tail)))
    (l_Wane_tail : K.lookup a_Wane_tail = some ⟨oc_Wane_tail, od_Wane_tail, .func (PySem.W.fnOf "tail" "Wane.tail" (defArgs s_Wane_tail) (defBody s_Wane_tail) (defScope s_Wane_tail) .none kV_Wane_tail dc_Wane_tail pm_Wane_tail an_Wane_tail cd_Wane_tail ct_Wane_tail), sl_Wane_tail⟩)
    (h_Wane_tail : PySem.W.codeIn K cd_Wane_tail "Wane.tail" = true)
    (k_Wane_tail : PySem.W.keepIn K (.ref a_Wane_tail) = true)
    (i_Wane_tail : PySem.W.isFn K (.ref a_Wane_tail) = true)
    (m_Wane_cap : PySem.W.findIn K (.ref C_Wane) "cap" = some (some (.ref a_Wane_cap)))
    (l_Wane_cap : K.lookup a_Wane_cap = some ⟨oc_Wane_cap, od_Wane_cap, .func (PySem.W.fnOf "cap" "Wane.cap" (defArgs s_Wane_cap) (defBody s_Wane_cap) (defScope s_Wane_cap) .none kV_Wane_cap dc_Wane_cap pm_Wane_cap an_Wane_cap cd_Wane_cap ct_Wane_cap), sl_Wane_cap⟩)
    (h_Wane_cap : PySem.W.codeIn K cd_Wane_cap "Wane.cap" = true)
    (k_Wane_cap : PySem.W.keepIn K (.ref a_Wane_cap) = true)
    (i_Wane_cap : PySem.W.isFn K (.ref a_Wane_cap) = true)
    (m_Wane_lift : PySem.W.findIn K (.ref C_Wane) "lift" = some (some (.ref a_Wane_lift)))
    (l_Wane_lift : K.lookup a_Wane_lift = some ⟨oc_Wane_lift, od_Wane_lift, .func (PySem.W.fnOf "lift" "Wane.lift" (defArgs s_Wane_lift) (defBody s_Wane_lift) (defScope s_Wane_lift) .none kV_Wane_lift dc_Wane_lift pm_Wane_lift an_Wane_lift cd_Wane_lift ct_Wane_lift), sl_Wane_lift⟩)
    (h_Wane_lift : PySem.W.codeIn K cd_Wane_lift "Wane.lift" = true)
    (k_Wane_lift : PySem.W.keepIn K (.ref a_Wane_lift) = true)
    (i_Wane_lift : PySem.W.isFn K (.ref a_Wane_lift) = true)
    (m_Wane_is_anew : PySem.W.findIn K (.ref C_Wane) "is_anew" = some (some (.ref a_Wane_is_anew)))
    (l_Wane_is_anew : K.lookup a_Wane_is_anew = some ⟨oc_Wane_is_anew, od_Wane_is_anew, .func (PySem.W.fnOf "is_anew" "Wane.is_anew" (defArgs s_Wane_is_anew) (defBody s_Wane_is_anew) (defScope s_Wane_is_anew) .none kV_Wane_is_anew dc_Wane_is_anew pm_Wane_is_anew an_Wane_is_anew cd_Wane_is_anew ct_Wane_is_anew), sl_Wane_is_anew⟩)
    (h_Wane_is_anew : PySem.W.codeIn K cd_Wane_is_anew "Wane.is_anew" = true)
    (k_Wane_is_anew : PySem.W.keepIn K (.ref a_Wane_is_anew) = true)
    (i_Wane_is_anew : PySem.W.isFn K (.ref a_Wane_is_anew) = true)
    (m_Wane_step : PySem.W.findIn K (.ref C_Wane) "step" = some (some (.ref a_Wane_step)))
    (l_Wane_step : K.lookup a_Wane_step = some ⟨oc_Wane_step, od_Wane_step, .func (PySem.W.fnOf "step" "Wane.step" (defArgs s_Wane_step) (defBody s_Wane_step) (defScope s_Wane_step) .none kV_Wane_step dc_Wane_step pm_Wane_step an_Wane_step cd_Wane_step ct_Wane_step), sl_Wane_step⟩)
    (h_Wane_step : PySem.W.codeIn K cd_Wane_step "Wane.step" = true)
    (k_Wane_step : PySem.W.keepIn K (.ref a_Wane_step) = true)
    (i_Wane_step : PySem.W.isFn K (.ref a_Wane_step) = true)
    (m_Wane_phase : PySem.W.findIn K (.ref C_Wane) "phase" = some (some (.ref a_Wane_phase)))
    (l_Wane_phase : K.lookup a_Wane_phase = some ⟨oc_Wane_phase, od_Wane_phase, .func (PySem.W.fnOf "phase" "Wane.phase" (defArgs s_Wane_phase) (defBody s_Wane_phase) (defScope s_Wane_phase) .none kV_Wane_phase dc_Wane_phase pm_Wane_phase an_Wane_phase cd_Wane_phase ct_Wane_phase), sl_Wane_phase⟩)
    (h_Wane_phase : PySem.W.codeIn K cd_Wane_phase "Wane.phase" = true)
    (k_Wane_phase : PySem.W.keepIn K (.ref a_Wane_phase) = true)
    (i_Wane_phase : PySem.W.isFn K (.ref a_Wane_phase) = true)
    (m_Wane_text : PySem.W.findIn K (.ref C_Wane) "text" = some (some (.ref a_Wane_text)))
    (l_Wane_text : K.lookup a_Wane_text = some ⟨oc_Wane_text, od_Wane_text, .func (PySem.W.fnOf "text" "Wane.text" (defArgs s_Wane_text) (defBody s_Wane_text) (defScope s_Wane_text) .none kV_Wane_text dc_Wane_text pm_Wane_text an_Wane_text cd_Wane_text ct_Wane_text), sl_Wane_text⟩)
    (h_Wane_text : PySem.W.codeIn K cd_Wane_text "Wane.text" = true)
    (k_Wane_text : PySem.W.keepIn K (.ref a_Wane_text) = true)
    (i_Wane_text : PySem.W.isFn K (.ref a_Wane_text) = true)
    (m_Wane_step_behind : PySem.W.findIn K (.ref C_Wane) "step_behind" = some (some (.ref a_Wane_step_behind)))
    (l_Wane_step_behind : K.lookup a_Wane_step_behind = some ⟨oc_Wane_step_behind, od_Wane_step_behind, .func (PySem.W.fnOf "step_behind" "Wane.step_behind" (defArgs s_Wane_step_behind) (defBody s_Wane_step_behind) (defScope s_Wane_step_behind) .none kV_Wane_step_behind dc_Wane_step_behind pm_Wane_step_behind an_Wane_step_behind cd_Wane_step_behind ct_Wane_step_behind), sl_Wane_step_behind⟩)
    (h_Wane_step_behind : PySem.W.codeIn K cd_Wane_step_behind "Wane.step_behind" = true)
    (k_Wane_step_behind : PySem.W.keepIn K (.ref a_Wane_step_behind) = true)
    (i_Wane_step_behind : PySem.W.isFn K (.ref a_Wane_step_behind) = true)
    (m_Wane_phase_behind : PySem.W.findIn K (.ref C_Wane) "phase_behind" = some (some (.ref a_Wane_phase_behind)))
    (l_Wane_phase_behind : K.lookup a_Wane_phase_behind = some ⟨oc_Wane_phase_behind, od_Wane_phase_behind, .func (PySem.W.fnOf "phase_behind" "Wane.phase_behind" (defArgs s_Wane_phase_behind) (defBody s_Wane_phase_behind) (defScope s_Wane_phase_behind) .none kV_Wane_phase_behind dc_Wane_phase_behind pm_Wane_phase_behind an_Wane_phase_behind cd_Wane_phase_behind ct_Wane_phase_behind), sl_Wane_phase_behind⟩)
    (h_Wane_phase_behind : PySem.W.codeIn K cd_Wane_phase_behind "Wane.phase_behind" = true)
    (k_Wane_phase_behind : PySem.W.keepIn K (.ref a_Wane_phase_behind) = true)
    (i_Wane_phase_behind : PySem.W.isFn K (.ref a_Wane_phase_behind) = true)
    (m_is_wane : PySem.W.nsIn K mainGlobals "is_wane" = some (some (.ref a_is_wane)))
    (l_is_wane : K.lookup a_is_wane = some ⟨oc_is_wane, od_is_wane, .func (PySem.W.fnOf "is_wane" "is_wane" (defArgs s_is_wane) (defBody s_is_wane) (defScope s_is_wane) .none kV_is_wane dc_is_wane pm_is_wane an_is_wane cd_is_wane ct_is_wane), sl_is_wane⟩)
    (h_is_wane : PySem.W.codeIn K cd_is_wane "is_wane" = true)
    (k_is_wane : PySem.W.keepIn K (.ref a_is_wane) = true)
    (m_is_level : PySem.W.nsIn K mainGlobals "is_level" = some (some (.ref a_is_level)))
    (l_is_level : K.lookup a_is_level = some ⟨oc_is_level, od_is_level, .func (PySem.W.fnOf "is_level" "is_level" (defArgs s_is_level) (defBody s_is_level) (defScope s_is_level) .none kV_is_level dc_is_level pm_is_level an_is_level cd_is_level ct_is_level), sl_is_level⟩)
    (h_is_level : PySem.W.codeIn K cd_is_level "is_level" = true)
    (k_is_level : PySem.W.keepIn K (.ref a_is_level) = true)
    (m__is_head : PySem.W.nsIn K mainGlobals "_is_head" = some (some (.ref a__is_head)))
    (l__is_head : K.lookup a__is_head = some ⟨oc__is_head, od__is_head, .func (PySem.W.fnOf "_is_head" "_is_head" (defArgs s__is_head) (defBody s__is_head) (defScope s__is_head) .none kV__is_head dc__is_head pm__is_head an__is_head cd__is_head ct__is_head), sl__is_head⟩)
    (h__is_head : PySem.W.codeIn K cd__is_head "_is_head" = true)
    (k__is_head : PySem.W.keepIn K (.ref a__is_head) = true)
    (m__is_tail : PySem.W.nsIn K mainGlobals "_is_tail" = some (some (.ref a__is_tail)))
    (l__is_tail : K.lookup a__is_tail = some ⟨oc__is_tail, od__is_tail, .func (PySem.W.fnOf "_is_tail" "_is_tail" (defArgs s__is_tail) (defBody s__is_tail) (defScope s__is_tail) .none kV__is_tail dc__is_tail pm__is_tail an__is_tail cd__is_tail ct__is_tail), sl__is_tail⟩)
    (h__is_tail : PySem.W.codeIn K cd__is_tail "_is_tail" = true)
    (k__is_tail : PySem.W.keepIn K (.ref a__is_tail) = true)
    (m__are_steps : PySem.W.nsIn K mainGlobals "_are_steps" = some (some (.ref a__are_steps)))
    (l__are_steps : K.lookup a__are_steps = some ⟨oc__are_steps, od__are_steps, .func (PySem.W.fnOf "_are_steps" "_are_steps" (defArgs s__are_steps) (defBody s__are_steps) (defScope s__are_steps) .none kV__are_steps dc__are_steps pm__are_steps an__are_steps cd__are_steps ct__are_steps), sl__are_steps⟩)
    (h__are_steps : PySem.W.codeIn K cd__are_steps "_are_steps" = true)
    (k__are_steps : PySem.W.keepIn K (.ref a__are_steps) = true)
    (m__step_word : PySem.W.nsIn K mainGlobals "_step_word" = some (some (.ref a__step_word)))
    (l__step_word : K.lookup a__step_word = some ⟨oc__step_word, od__step_word, .func (PySem.W.fnOf "_step_word" "_step_word" (defArgs s__step_word) (defBody s__step_word) (defScope s__step_word) .none kV__step_word dc__step_word pm__step_word an__step_word cd__step_word ct__step_word), sl__step_word⟩)
    (h__step_word : PySem.W.codeIn K cd__step_word "_step_word" = true)
    (k__step_word : PySem.W.keepIn K (.ref a__step_word) = true)
    (m_behind_turn : PySem.W.nsIn K mainGlobals "behind_turn" = some (some (.ref a_behind_turn)))
    (l_behind_turn : K.lookup a_behind_turn = some ⟨oc_behind_turn, od_behind_turn, .func (PySem.W.fnOf "behind_turn" "behind_turn" (defArgs s_behind_turn) (defBody s_behind_turn) (defScope s_behind_turn) .none kV_behind_turn dc_behind_turn pm_behind_turn an_behind_turn cd_behind_turn ct_behind_turn), sl_behind_turn⟩)
    (h_behind_turn : PySem.W.codeIn K cd_behind_turn "behind_turn" = true)
    (k_behind_turn : PySem.W.keepIn K (.ref a_behind_turn) = true)
    (m_behind_asking : PySem.W.nsIn K mainGlobals "behind_asking" = some (some (.ref a_behind_asking)))
    (l_behind_asking : K.lookup a_behind_asking = some ⟨oc_behind_asking, od_behind_asking, .func (PySem.W.fnOf "behind_asking" "behind_asking" (defArgs s_behind_asking) (defBody s_behind_asking) (defScope s_behind_asking) .none kV_behind_asking dc_behind_asking pm_behind_asking an_behind_asking cd_behind_asking ct_behind_asking), sl_behind_asking⟩)
    (h_behind_asking : PySem.W.codeIn K cd_behind_asking "behind_asking" = true)
    (k_behind_asking : PySem.W.keepIn K (.ref a_behind_asking) = true)
    (m_Story___init__ : PySem.W.findIn K (.ref C_Story) "__init__" = some (some (.ref a_Story___init__)))
    (l_Story___init__ : K.lookup a_Story___init__ = some ⟨oc_Story___init__, od_Story___init__, .func (PySem.W.fnOf "__init__" "Story.__init__" (defArgs s_Story___init__) (defBody s_Story___init__) (defScope s_Story___init__) .none kV_Story___init__ dc_Story___init__ pm_Story___init__ an_Story___init__ cd_Story___init__ ct_Story___init__), sl_Story___init__⟩)
    (h_Story___init__ : PySem.W.codeIn K cd_Story___init__ "Story.__init__" = true)
    (k_Story___init__ : PySem.W.keepIn K (.ref a_Story___init__) = true)
    (i_Story___init__ : PySem.W.isFn K (.ref a_Story___init__) = true)
    (mk_Story : PySem.W.makesIn K C_Story = true)
    (kc_Story : PySem.W.keepIn K (.ref C_Story) = true)
    (m_Story_doubled : PySem.W.findIn K (.ref C_Story) "doubled" = some (some (.ref a_Story_doubled)))
    (l_Story_doubled : K.lookup a_Story_doubled = some ⟨oc_Story_doubled, od_Story_doubled, .func (PySem.W.fnOf "doubled" "Story.doubled" (defArgs s_Story_doubled) (defBody s_Story_doubled) (defScope s_Story_doubled) .none kV_Story_doubled dc_Story_doubled pm_Story_doubled an_Story_doubled cd_Story_doubled ct_Story_doubled), sl_Story_doubled⟩)
    (h_Story_doubled : PySem.W.codeIn K cd_Story_doubled "Story.doubled" = true)
    (k_Story_doubled : PySem.W.keepIn K (.ref a_Story_doubled) = true)
    (i_Story_doubled : PySem.W.isFn K (.ref a_Story_doubled) = true)
    (m_Story_write : PySem.W.findIn K (.ref C_Story) "write" = some (some (.ref a_Story_write)))
    (l_Story_write : K.lookup a_Story_write = some ⟨oc_Story_write, od_Story_write, .func (PySem.W.fnOf "write" "Story.write" (defArgs s_Story_write) (defBody s_Story_write) (defScope s_Story_write) .none kV_Story_write dc_Story_write pm_Story_write an_Story_write cd_Story_write ct_Story_write), sl_Story_write⟩)
    (h_Story_write : PySem.W.codeIn K cd_Story_write "Story.write" = true)
    (k_Story_write : PySem.W.keepIn K (.ref a_Story_write) = true)
    (i_Story_write : PySem.W.isFn K (.ref a_Story_write) = true)
    (m_Story_listed : PySem.W.findIn K (.ref C_Story) "listed" = some (some (.ref a_Story_listed)))
    (l_Story_listed : K.lookup a_Story_listed = some ⟨oc_Story_listed, od_Story_listed, .func (PySem.W.fnOf "listed" "Story.listed" (defArgs s_Story_listed) (defBody s_Story_listed) (defScope s_Story_listed) .none kV_Story_listed dc_Story_listed pm_Story_listed an_Story_listed cd_Story_listed ct_Story_listed), sl_Story_listed⟩)
    (h_Story_listed : PySem.W.codeIn K cd_Story_listed "Story.listed" = true)
    (k_Story_listed : PySem.W.keepIn K (.ref a_Story_listed) = true)
    (i_Story_listed : PySem.W.isFn K (.ref a_Story_listed) = true)
    (m_Thing___init__ : PySem.W.findIn K (.ref C_Thing) "__init__" = some (some (.ref a_Thing___init__)))
    (l_Thing___init__ : K.lookup a_Thing___init__ = some ⟨oc_Thing___init__, od_Thing___init__, .func (PySem.W.fnOf "__init__" "Thing.__init__" (defArgs s_Thing___init__) (defBody s_Thing___init__) (defScope s_Thing___init__) .none kV_Thing___init__ dc_Thing___init__ pm_Thing___init__ an_Thing___init__ cd_Thing___init__ ct_Thing___init__), sl_Thing___init__⟩)
    (h_Thing___init__ : PySem.W.codeIn K cd_Thing___init__ "Thing.__init__" = true)
    (k_Thing___init__ : PySem.W.keepIn K (.ref a_Thing___init__) = true)
    (i_Thing___init__ : PySem.W.isFn K (.ref a_Thing___init__) = true)
    (mk_Thing : PySem.W.makesIn K C_Thing = true)
    (kc_Thing : PySem.W.keepIn K (.ref C_Thing) = true)
    (m_Thing_doubled : PySem.W.findIn K (.ref C_Thing) "doubled" = some (some (.ref a_Thing_doubled)))
    (l_Thing_doubled : K.lookup a_Thing_doubled = some ⟨oc_Thing_doubled, od_Thing_doubled, .func (PySem.W.fnOf "doubled" "Thing.doubled" (defArgs s_Thing_doubled) (defBody s_Thing_doubled) (defScope s_Thing_doubled) .none kV_Thing_doubled dc_Thing_doubled pm_Thing_doubled an_Thing_doubled cd_Thing_doubled ct_Thing_doubled), sl_Thing_doubled⟩)
    (h_Thing_doubled : PySem.W.codeIn K cd_Thing_doubled "Thing.doubled" = true)
    (k_Thing_doubled : PySem.W.keepIn K (.ref a_Thing_doubled) = true)
    (i_Thing_doubled : PySem.W.isFn K (.ref a_Thing_doubled) = true)
    (m_Thing_phase : PySem.W.findIn K (.ref C_Thing) "phase" = some (some (.ref a_Thing_phase)))
    (l_Thing_phase : K.lookup a_Thing_phase = some ⟨oc_Thing_phase, od_Thing_phase, .func (PySem.W.fnOf "phase" "Thing.phase" (defArgs s_Thing_phase) (defBody s_Thing_phase) (defScope s_Thing_phase) .none kV_Thing_phase dc_Thing_phase pm_Thing_phase an_Thing_phase cd_Thing_phase ct_Thing_phase), sl_Thing_phase⟩)
    (h_Thing_phase : PySem.W.codeIn K cd_Thing_phase "Thing.phase" = true)
    (k_Thing_phase : PySem.W.keepIn K (.ref a_Thing_phase) = true)
    (i_Thing_phase : PySem.W.isFn K (.ref a_Thing_phase) = true)
    (m_Shelf___init__ : PySem.W.findIn K (.ref C_Shelf) "__init__" = some (some (.ref a_Shelf___init__)))
    (l_Shelf___init__ : K.lookup a_Shelf___init__ = some ⟨oc_Shelf___init__, od_Shelf___init__, .func (PySem.W.fnOf "__init__" "Shelf.__init__" (defArgs s_Shelf___init__) (defBody s_Shelf___init__) (defScope s_Shelf___init__) .none kV_Shelf___init__ dc_Shelf___init__ pm_Shelf___init__ an_Shelf___init__ cd_Shelf___init__ ct_Shelf___init__), sl_Shelf___init__⟩)
    (h_Shelf___init__ : PySem.W.codeIn K cd_Shelf___init__ "Shelf.__init__" = true)
    (k_Shelf___init__ : PySem.W.keepIn K (.ref a_Shelf___init__) = true)
    (i_Shelf___init__ : PySem.W.isFn K (.ref a_Shelf___init__) = true)
    (mk_Shelf : PySem.W.makesIn K C_Shelf = true)
    (kc_Shelf : PySem.W.keepIn K (.ref C_Shelf) = true)
    (m_Shelf_doubled : PySem.W.findIn K (.ref C_Shelf) "doubled" = some (some (.ref a_Shelf_doubled)))
    (l_Shelf_doubled : K.lookup a_Shelf_doubled = some ⟨oc_Shelf_doubled, od_Shelf_doubled, .func (PySem.W.fnOf "doubled" "Shelf.doubled" (defArgs s_Shelf_doubled) (defBody s_Shelf_doubled) (defScope s_Shelf_doubled) .none kV_Shelf_doubled dc_Shelf_doubled pm_Shelf_doubled an_Shelf_doubled cd_Shelf_doubled ct_Shelf_doubled), sl_Shelf_doubled⟩)
    (h_Shelf_doubled : PySem.W.codeIn K cd_Shelf_doubled "Shelf.doubled" = true)
    (k_Shelf_doubled : PySem.W.keepIn K (.ref a_Shelf_doubled) = true)
    (i_Shelf_doubled : PySem.W.isFn K (.ref a_Shelf_doubled) = true)
    (m_Shelf_by_names : PySem.W.findIn K (.ref C_Shelf) "by_names" = some (some (.ref a_Shelf_by_names)))
    (l_Shelf_by_names : K.lookup a_Shelf_by_names = some ⟨oc_Shelf_by_names, od_Shelf_by_names, .func (PySem.W.fnOf "by_names" "Shelf.by_names" (defArgs s_Shelf_by_names) (defBody s_Shelf_by_names) (defScope s_Shelf_by_names) .none kV_Shelf_by_names dc_Shelf_by_names pm_Shelf_by_names an_Shelf_by_names cd_Shelf_by_names ct_Shelf_by_names), sl_Shelf_by_names⟩)
    (h_Shelf_by_names : PySem.W.codeIn K cd_Shelf_by_names "Shelf.by_names" = true)
    (k_Shelf_by_names : PySem.W.keepIn K (.ref a_Shelf_by_names) = true)
    (i_Shelf_by_names : PySem.W.isFn K (.ref a_Shelf_by_names) = true)
    (m_Shelf_in_room : PySem.W.findIn K (.ref C_Shelf) "in_room" = some (some (.ref a_Shelf_in_room)))
    (l_Shelf_in_room : K.lookup a_Shelf_in_room = some ⟨oc_Shelf_in_room, od_Shelf_in_room, .func (PySem.W.fnOf "in_room" "Shelf.in_room" (defArgs s_Shelf_in_room) (defBody s_Shelf_in_room) (defScope s_Shelf_in_room) .none kV_Shelf_in_room dc_Shelf_in_room pm_Shelf_in_room an_Shelf_in_room cd_Shelf_in_room ct_Shelf_in_room), sl_Shelf_in_room⟩)
    (h_Shelf_in_room : PySem.W.codeIn K cd_Shelf_in_room "Shelf.in_room" = true)
    (k_Shelf_in_room : PySem.W.keepIn K (.ref a_Shelf_in_room) = true)
    (i_Shelf_in_room : PySem.W.isFn K (.ref a_Shelf_in_room) = true)
    (m_Shelf_sum_in : PySem.W.findIn K (.ref C_Shelf) "sum_in" = some (some (.ref a_Shelf_sum_in)))
    (l_Shelf_sum_in : K.lookup a_Shelf_sum_in = some ⟨oc_Shelf_sum_in, od_Shelf_sum_in, .func (PySem.W.fnOf "sum_in" "Shelf.sum_in" (defArgs s_Shelf_sum_in) (defBody s_Shelf_sum_in) (defScope s_Shelf_sum_in) .none kV_Shelf_sum_in dc_Shelf_sum_in pm_Shelf_sum_in an_Shelf_sum_in cd_Shelf_sum_in ct_Shelf_sum_in), sl_Shelf_sum_in⟩)
    (h_Shelf_sum_in : PySem.W.codeIn K cd_Shelf_sum_in "Shelf.sum_in" = true)
    (k_Shelf_sum_in : PySem.W.keepIn K (.ref a_Shelf_sum_in) = true)
    (i_Shelf_sum_in : PySem.W.isFn K (.ref a_Shelf_sum_in) = true)
    (m_Shelf_states : PySem.W.findIn K (.ref C_Shelf) "states" = some (some (.ref a_Shelf_states)))
    (l_Shelf_states : K.lookup a_Shelf_states = some ⟨oc_Shelf_states, od_Shelf_states, .func (PySem.W.fnOf "states" "Shelf.states" (defArgs s_Shelf_states) (defBody s_Shelf_states) (defScope s_Shelf_states) .none kV_Shelf_states dc_Shelf_states pm_Shelf_states an_Shelf_states cd_Shelf_states ct_Shelf_states), sl_Shelf_states⟩)
    (h_Shelf_states : PySem.W.codeIn K cd_Shelf_states "Shelf.states" = true)
    (k_Shelf_states : PySem.W.keepIn K (.ref a_Shelf_states) = true)
    (i_Shelf_states : PySem.W.isFn K (.ref a_Shelf_states) = true)
    (m_Shelf_trace_of : PySem.W.findIn K (.ref C_Shelf) "trace_of" = some (some (.ref a_Shelf_trace_of)))
    (l_Shelf_trace_of : K.lookup a_Shelf_trace_of = some ⟨oc_Shelf_trace_of, od_Shelf_trace_of, .func (PySem.W.fnOf "trace_of" "Shelf.trace_of" (defArgs s_Shelf_trace_of) (defBody s_Shelf_trace_of) (defScope s_Shelf_trace_of) .none kV_Shelf_trace_of dc_Shelf_trace_of pm_Shelf_trace_of an_Shelf_trace_of cd_Shelf_trace_of ct_Shelf_trace_of), sl_Shelf_trace_of⟩)
    (h_Shelf_trace_of : PySem.W.codeIn K cd_Shelf_trace_of "Shelf.trace_of" = true)
    (k_Shelf_trace_of : PySem.W.keepIn K (.ref a_Shelf_trace_of) = true)
    (i_Shelf_trace_of : PySem.W.isFn K (.ref a_Shelf_trace_of) = true)
    (m_Shelf_add_row : PySem.W.findIn K (.ref C_Shelf) "add_row" = some (some (.ref a_Shelf_add_row)))
    (l_Shelf_add_row : K.lookup a_Shelf_add_row = some ⟨oc_Shelf_add_row, od_Shelf_add_row, .func (PySem.W.fnOf "add_row" "Shelf.add_row" (defArgs s_Shelf_add_row) (defBody s_Shelf_add_row) (defScope s_Shelf_add_row) .none kV_Shelf_add_row dc_Shelf_add_row pm_Shelf_add_row an_Shelf_add_row cd_Shelf_add_row ct_Shelf_add_row), sl_Shelf_add_row⟩)
    (h_Shelf_add_row : PySem.W.codeIn K cd_Shelf_add_row "Shelf.add_row" = true)
    (k_Shelf_add_row : PySem.W.keepIn K (.ref a_Shelf_add_row) = true)
    (i_Shelf_add_row : PySem.W.isFn K (.ref a_Shelf_add_row) = true)
    (m_Shelf_put_in : PySem.W.findIn K (.ref C_Shelf) "put_in" = some (some (.ref a_Shelf_put_in)))
    (l_Shelf_put_in : K.lookup a_Shelf_put_in = some ⟨oc_Shelf_put_in, od_Shelf_put_in, .func (PySem.W.fnOf "put_in" "Shelf.put_in" (defArgs s_Shelf_put_in) (defBody s_Shelf_put_in) (defScope s_Shelf_put_in) .none kV_Shelf_put_in dc_Shelf_put_in pm_Shelf_put_in an_Shelf_put_in cd_Shelf_put_in ct_Shelf_put_in), sl_Shelf_put_in⟩)
    (h_Shelf_put_in : PySem.W.codeIn K cd_Shelf_put_in "Shelf.put_in" = true)
    (k_Shelf_put_in : PySem.W.keepIn K (.ref a_Shelf_put_in) = true)
    (i_Shelf_put_in : PySem.W.isFn K (.ref a_Shelf_put_in) = true)
    (m_Shelf_take_out : PySem.W.findIn K (.ref C_Shelf) "take_out" = some (some (.ref a_Shelf_take_out)))
    (l_Shelf_take_out : K.lookup a_Shelf_take_out = some ⟨oc_Shelf_take_out, od_Shelf_take_out, .func (PySem.W.fnOf "take_out" "Shelf.take_out" (defArgs s_Shelf_take_out) (defBody s_Shelf_take_out) (defScope s_Shelf_take_out) .none kV_Shelf_take_out dc_Shelf_take_out pm_Shelf_take_out an_Shelf_take_out cd_Shelf_take_out ct_Shelf_take_out), sl_Shelf_take_out⟩)
    (h_Shelf_take_out : PySem.W.codeIn K cd_Shelf_take_out "Shelf.take_out" = true)
    (k_Shelf_take_out : PySem.W.keepIn K (.ref a_Shelf_take_out) = true)
    (i_Shelf_take_out : PySem.W.isFn K (.ref a_Shelf_take_out) = true)
    (m_Shelf_lose : PySem.W.findIn K (.ref C_Shelf) "lose" = some (some (.ref a_Shelf_lose)))
    (l_Shelf_lose : K.lookup a_Shelf_lose = some ⟨oc_Shelf_lose, od_Shelf_lose, .func (PySem.W.fnOf "lose" "Shelf.lose" (defArgs s_Shelf_lose) (defBody s_Shelf_lose) (defScope s_Shelf_lose) .none kV_Shelf_lose dc_Shelf_lose pm_Shelf_lose an_Shelf_lose cd_Shelf_lose ct_Shelf_lose), sl_Shelf_lose⟩)
    (h_Shelf_lose : PySem.W.codeIn K cd_Shelf_lose "Shelf.lose" = true)
    (k_Shelf_lose : PySem.W.keepIn K (.ref a_Shelf_lose) = true)
    (i_Shelf_lose : PySem.W.isFn K (.ref a_Shelf_lose) = true)
    (m_Shelf_ask_for : PySem.W.findIn K (.ref C_Shelf) "ask_for" = some (some (.ref a_Shelf_ask_for)))
    (l_Shelf_ask_for : K.lookup a_Shelf_ask_for = some ⟨oc_Shelf_ask_for, od_Shelf_ask_for, .func (PySem.W.fnOf "ask_for" "Shelf.ask_for" (defArgs s_Shelf_ask_for) (defBody s_Shelf_ask_for) (defScope s_Shelf_ask_for) .none kV_Shelf_ask_for dc_Shelf_ask_for pm_Shelf_ask_for an_Shelf_ask_for cd_Shelf_ask_for ct_Shelf_ask_for), sl_Shelf_ask_for⟩)
    (h_Shelf_ask_for : PySem.W.codeIn K cd_Shelf_ask_for "Shelf.ask_for" = true)
    (k_Shelf_ask_for : PySem.W.keepIn K (.ref a_Shelf_ask_for) = true)
    (i_Shelf_ask_for : PySem.W.isFn K (.ref a_Shelf_ask_for) = true)
    (m_Shelf_stir_beside : PySem.W.findIn K (.ref C_Shelf) "stir_beside" = some (some (.ref a_Shelf_stir_beside)))
    (l_Shelf_stir_beside : K.lookup a_Shelf_stir_beside = some ⟨oc_Shelf_stir_beside, od_Shelf_stir_beside, .func (PySem.W.fnOf "stir_beside" "Shelf.stir_beside" (defArgs s_Shelf_stir_beside) (defBody s_Shelf_stir_beside) (defScope s_Shelf_stir_beside) .none kV_Shelf_stir_beside dc_Shelf_stir_beside pm_Shelf_stir_beside an_Shelf_stir_beside cd_Shelf_stir_beside ct_Shelf_stir_beside), sl_Shelf_stir_beside⟩)
    (h_Shelf_stir_beside : PySem.W.codeIn K cd_Shelf_stir_beside "Shelf.stir_beside" = true)
    (k_Shelf_stir_beside : PySem.W.keepIn K (.ref a_Shelf_stir_beside) = true)
    (i_Shelf_stir_beside : PySem.W.isFn K (.ref a_Shelf_stir_beside) = true)
    (m_Shelf_crowd : PySem.W.findIn K (.ref C_Shelf) "crowd" = some (some (.ref a_Shelf_crowd)))
    (l_Shelf_crowd : K.lookup a_Shelf_crowd = some ⟨oc_Shelf_crowd, od_Shelf_crowd, .func (PySem.W.fnOf "crowd" "Shelf.crowd" (defArgs s_Shelf_crowd) (defBody s_Shelf_crowd) (defScope s_Shelf_crowd) .none kV_Shelf_crowd dc_Shelf_crowd pm_Shelf_crowd an_Shelf_crowd cd_Shelf_crowd ct_Shelf_crowd), sl_Shelf_crowd⟩)
    (h_Shelf_crowd : PySem.W.codeIn K cd_Shelf_crowd "Shelf.crowd" = true)
    (k_Shelf_crowd : PySem.W.keepIn K (.ref a_Shelf_crowd) = true)
    (i_Shelf_crowd : PySem.W.isFn K (.ref a_Shelf_crowd) = true)
    (m_Shelf_move_on : PySem.W.findIn K (.ref C_Shelf) "move_on" = some (some (.ref a_Shelf_move_on)))
    (l_Shelf_move_on : K.lookup a_Shelf_move_on = some ⟨oc_Shelf_move_on, od_Shelf_move_on, .func (PySem.W.fnOf "move_on" "Shelf.move_on" (defArgs s_Shelf_move_on) (defBody s_Shelf_move_on) (defScope s_Shelf_move_on) .none kV_Shelf_move_on dc_Shelf_move_on pm_Shelf_move_on an_Shelf_move_on cd_Shelf_move_on ct_Shelf_move_on), sl_Shelf_move_on⟩)
    (h_Shelf_move_on : PySem.W.codeIn K cd_Shelf_move_on "Shelf.move_on" = true)
    (k_Shelf_move_on : PySem.W.keepIn K (.ref a_Shelf_move_on) = true)
    (i_Shelf_move_on : PySem.W.isFn K (.ref a_Shelf_move_on) = true)
    (m_Shelf_turn : PySem.W.findIn K (.ref C_Shelf) "turn" = some (some (.ref a_Shelf_turn)))
    (l_Shelf_turn : K.lookup a_Shelf_turn = some ⟨oc_Shelf_turn, od_Shelf_turn, .func (PySem.W.fnOf "turn" "Shelf.turn" (defArgs s_Shelf_turn) (defBody s_Shelf_turn) (defScope s_Shelf_turn) .none kV_Shelf_turn dc_Shelf_turn pm_Shelf_turn an_Shelf_turn cd_Shelf_turn ct_Shelf_turn), sl_Shelf_turn⟩)
    (h_Shelf_turn : PySem.W.codeIn K cd_Shelf_turn "Shelf.turn" = true)
    (k_Shelf_turn : PySem.W.keepIn K (.ref a_Shelf_turn) = true)
    (i_Shelf_turn : PySem.W.isFn K (.ref a_Shelf_turn) = true)
    (m_Shelf_wane_all : PySem.W.findIn K (.ref C_Shelf) "wane_all" = some (some (.ref a_Shelf_wane_all)))
    (l_Shelf_wane_all : K.lookup a_Shelf_wane_all = some ⟨oc_Shelf_wane_all, od_Shelf_wane_all, .func (PySem.W.fnOf "wane_all" "Shelf.wane_all" (defArgs s_Shelf_wane_all) (defBody s_Shelf_wane_all) (defScope s_Shelf_wane_all) .none kV_Shelf_wane_all dc_Shelf_wane_all pm_Shelf_wane_all an_Shelf_wane_all cd_Shelf_wane_all ct_Shelf_wane_all), sl_Shelf_wane_all⟩)
    (h_Shelf_wane_all : PySem.W.codeIn K cd_Shelf_wane_all "Shelf.wane_all" = true)
    (k_Shelf_wane_all : PySem.W.keepIn K (.ref a_Shelf_wane_all) = true)
    (i_Shelf_wane_all : PySem.W.isFn K (.ref a_Shelf_wane_all) = true)
    (m_Shelf_ask_for_weak : PySem.W.findIn K (.ref C_Shelf) "ask_for_weak" = some (some (.ref a_Shelf_ask_for_weak)))
    (l_Shelf_ask_for_weak : K.lookup a_Shelf_ask_for_weak = some ⟨oc_Shelf_ask_for_weak, od_Shelf_ask_for_weak, .func (PySem.W.fnOf "ask_for_weak" "Shelf.ask_for_weak" (defArgs s_Shelf_ask_for_weak) (defBody s_Shelf_ask_for_weak) (defScope s_Shelf_ask_for_weak) .none kV_Shelf_ask_for_weak dc_Shelf_ask_for_weak pm_Shelf_ask_for_weak an_Shelf_ask_for_weak cd_Shelf_ask_for_weak ct_Shelf_ask_for_weak), sl_Shelf_ask_for_weak⟩)
    (h_Shelf_ask_for_weak : PySem.W.codeIn K cd_Shelf_ask_for_weak "Shelf.ask_for_weak" = true)
    (k_Shelf_ask_for_weak : PySem.W.keepIn K (.ref a_Shelf_ask_for_weak) = true)
    (i_Shelf_ask_for_weak : PySem.W.isFn K (.ref a_Shelf_ask_for_weak) = true)
    (m_Shelf_turns : PySem.W.findIn K (.ref C_Shelf) "turns" = some (some (.ref a_Shelf_turns)))
    (l_Shelf_turns : K.lookup a_Shelf_turns = some ⟨oc_Shelf_turns, od_Shelf_turns, .func (PySem.W.fnOf "turns" "Shelf.turns" (defArgs s_Shelf_turns) (defBody s_Shelf_turns) (defScope s_Shelf_turns) .none kV_Shelf_turns dc_Shelf_turns pm_Shelf_turns an_Shelf_turns cd_Shelf_turns ct_Shelf_turns), sl_Shelf_turns⟩)
    (h_Shelf_turns : PySem.W.codeIn K cd_Shelf_turns "Shelf.turns" = true)
    (k_Shelf_turns : PySem.W.keepIn K (.ref a_Shelf_turns) = true)
    (i_Shelf_turns : PySem.W.isFn K (.ref a_Shelf_turns) = true)
    (m_weakest : PySem.W.nsIn K mainGlobals "weakest" = some (some (.ref a_weakest)))
    (l_weakest : K.lookup a_weakest = some ⟨oc_weakest, od_weakest, .func (PySem.W.fnOf "weakest" "weakest" (defArgs s_weakest) (defBody s_weakest) (defScope s_weakest) .none kV_weakest dc_weakest pm_weakest an_weakest cd_weakest ct_weakest), sl_weakest⟩)
    (h_weakest : PySem.W.codeIn K cd_weakest "weakest" = true)
    (k_weakest : PySem.W.keepIn K (.ref a_weakest) = true)
    (m_Store___init__ : PySem.W.findIn K (.ref C_Store) "__init__" = some (some (.ref a_Store___init__)))
    (l_Store___init__ : K.lookup a_Store___init__ = some ⟨oc_Store___init__, od_Store___init__, .func (PySem.W.fnOf "__init__" "Store.__init__" (defArgs s_Store___init__) (defBody s_Store___init__) (defScope s_Store___init__) .none (.ref D_Store___init__) dc_Store___init__ pm_Store___init__ an_Store___init__ cd_Store___init__ ct_Store___init__), sl_Store___init__⟩)
    (h_Store___init__ : PySem.W.codeIn K cd_Store___init__ "Store.__init__" = true)
    (k_Store___init__ : PySem.W.keepIn K (.ref a_Store___init__) = true)
    (kw_Store___init___stirs : PySem.W.nsIn K D_Store___init__ "stirs" = some (some Value.none))
    (kw_Store___init___grain : PySem.W.nsIn K D_Store___init__ "grain" = some (some (.int 0 w_Store___init___grain)))
    (kw_Store___init___fade : PySem.W.nsIn K D_Store___init__ "fade" = some (some (.int 1 w_Store___init___fade)))
    (i_Store___init__ : PySem.W.isFn K (.ref a_Store___init__) = true)
    (mk_Store : PySem.W.makesIn K C_Store = true)
    (kc_Store : PySem.W.keepIn K (.ref C_Store) = true)
    (m_Store_put : PySem.W.findIn K (.ref C_Store) "put" = some (some (.ref a_Store_put)))
    (l_Store_put : K.lookup a_Store_put = some ⟨oc_Store_put, od_Store_put, .func (PySem.W.fnOf "put" "Store.put" (defArgs s_Store_put) (defBody s_Store_put) (defScope s_Store_put) .none kV_Store_put dc_Store_put pm_Store_put an_Store_put cd_Store_put ct_Store_put), sl_Store_put⟩)
    (h_Store_put : PySem.W.codeIn K cd_Store_put "Store.put" = true)
    (k_Store_put : PySem.W.keepIn K (.ref a_Store_put) = true)
    (i_Store_put : PySem.W.isFn K (.ref a_Store_put) = true)
    (m_Store_ask : PySem.W.findIn K (.ref C_Store) "ask" = some (some (.ref a_Store_ask)))
    (l_Store_ask : K.lookup a_Store_ask = some ⟨oc_Store_ask, od_Store_ask, .func (PySem.W.fnOf "ask" "Store.ask" (defArgs s_Store_ask) (defBody s_Store_ask) (defScope s_Store_ask) .none kV_Store_ask dc_Store_ask pm_Store_ask an_Store_ask cd_Store_ask ct_Store_ask), sl_Store_ask⟩)
    (h_Store_ask : PySem.W.codeIn K cd_Store_ask "Store.ask" = true)
    (k_Store_ask : PySem.W.keepIn K (.ref a_Store_ask) = true)
    (i_Store_ask : PySem.W.isFn K (.ref a_Store_ask) = true)
    (m_Store_take : PySem.W.findIn K (.ref C_Store) "take" = some (some (.ref a_Store_take)))
    (l_Store_take : K.lookup a_Store_take = some ⟨oc_Store_take, od_Store_take, .func (PySem.W.fnOf "take" "Store.take" (defArgs s_Store_take) (defBody s_Store_take) (defScope s_Store_take) .none kV_Store_take dc_Store_take pm_Store_take an_Store_take cd_Store_take ct_Store_take), sl_Store_take⟩)
    (h_Store_take : PySem.W.codeIn K cd_Store_take "Store.take" = true)
    (k_Store_take : PySem.W.keepIn K (.ref a_Store_take) = true)
    (i_Store_take : PySem.W.isFn K (.ref a_Store_take) = true)
    (m_Store_mend : PySem.W.findIn K (.ref C_Store) "mend" = some (some (.ref a_Store_mend)))
    (l_Store_mend : K.lookup a_Store_mend = some ⟨oc_Store_mend, od_Store_mend, .func (PySem.W.fnOf "mend" "Store.mend" (defArgs s_Store_mend) (defBody s_Store_mend) (defScope s_Store_mend) .none kV_Store_mend dc_Store_mend pm_Store_mend an_Store_mend cd_Store_mend ct_Store_mend), sl_Store_mend⟩)
    (h_Store_mend : PySem.W.codeIn K cd_Store_mend "Store.mend" = true)
    (k_Store_mend : PySem.W.keepIn K (.ref a_Store_mend) = true)
    (i_Store_mend : PySem.W.isFn K (.ref a_Store_mend) = true)
    (m_Store_pass_on : PySem.W.findIn K (.ref C_Store) "pass_on" = some (some (.ref a_Store_pass_on)))
    (l_Store_pass_on : K.lookup a_Store_pass_on = some ⟨oc_Store_pass_on, od_Store_pass_on, .func (PySem.W.fnOf "pass_on" "Store.pass_on" (defArgs s_Store_pass_on) (defBody s_Store_pass_on) (defScope s_Store_pass_on) .none kV_Store_pass_on dc_Store_pass_on pm_Store_pass_on an_Store_pass_on cd_Store_pass_on ct_Store_pass_on), sl_Store_pass_on⟩)
    (h_Store_pass_on : PySem.W.codeIn K cd_Store_pass_on "Store.pass_on" = true)
    (k_Store_pass_on : PySem.W.keepIn K (.ref a_Store_pass_on) = true)
    (i_Store_pass_on : PySem.W.isFn K (.ref a_Store_pass_on) = true)
    (m_Store_hire : PySem.W.findIn K (.ref C_Store) "hire" = some (some (.ref a_Store_hire)))
    (l_Store_hire : K.lookup a_Store_hire = some ⟨oc_Store_hire, od_Store_hire, .func (PySem.W.fnOf "hire" "Store.hire" (defArgs s_Store_hire) (defBody s_Store_hire) (defScope s_Store_hire) .none kV_Store_hire dc_Store_hire pm_Store_hire an_Store_hire cd_Store_hire ct_Store_hire), sl_Store_hire⟩)
    (h_Store_hire : PySem.W.codeIn K cd_Store_hire "Store.hire" = true)
    (k_Store_hire : PySem.W.keepIn K (.ref a_Store_hire) = true)
    (i_Store_hire : PySem.W.isFn K (.ref a_Store_hire) = true)
    (m_Store_dismiss : PySem.W.findIn K (.ref C_Store) "dismiss" = some (some (.ref a_Store_dismiss)))
    (l_Store_dismiss : K.lookup a_Store_dismiss = some ⟨oc_Store_dismiss, od_Store_dismiss, .func (PySem.W.fnOf "dismiss" "Store.dismiss" (defArgs s_Store_dismiss) (defBody s_Store_dismiss) (defScope s_Store_dismiss) .none kV_Store_dismiss dc_Store_dismiss pm_Store_dismiss an_Store_dismiss cd_Store_dismiss ct_Store_dismiss), sl_Store_dismiss⟩)
    (h_Store_dismiss : PySem.W.codeIn K cd_Store_dismiss "Store.dismiss" = true)
    (k_Store_dismiss : PySem.W.keepIn K (.ref a_Store_dismiss) = true)
    (i_Store_dismiss : PySem.W.isFn K (.ref a_Store_dismiss) = true)
    (m_Store_now : PySem.W.findIn K (.ref C_Store) "now" = some (some (.ref a_Store_now)))
    (l_Store_now : K.lookup a_Store_now = some ⟨oc_Store_now, od_Store_now, .func (PySem.W.fnOf "now" "Store.now" (defArgs s_Store_now) (defBody s_Store_now) (defScope s_Store_now) .none kV_Store_now dc_Store_now pm_Store_now an_Store_now cd_Store_now ct_Store_now), sl_Store_now⟩)
    (h_Store_now : PySem.W.codeIn K cd_Store_now "Store.now" = true)
    (k_Store_now : PySem.W.keepIn K (.ref a_Store_now) = true)
    (i_Store_now : PySem.W.isFn K (.ref a_Store_now) = true)
    (m_Store_rooms : PySem.W.findIn K (.ref C_Store) "rooms" = some (some (.ref a_Store_rooms)))
    (l_Store_rooms : K.lookup a_Store_rooms = some ⟨oc_Store_rooms, od_Store_rooms, .func (PySem.W.fnOf "rooms" "Store.rooms" (defArgs s_Store_rooms) (defBody s_Store_rooms) (defScope s_Store_rooms) .none kV_Store_rooms dc_Store_rooms pm_Store_rooms an_Store_rooms cd_Store_rooms ct_Store_rooms), sl_Store_rooms⟩)
    (h_Store_rooms : PySem.W.codeIn K cd_Store_rooms "Store.rooms" = true)
    (k_Store_rooms : PySem.W.keepIn K (.ref a_Store_rooms) = true)
    (i_Store_rooms : PySem.W.isFn K (.ref a_Store_rooms) = true)
    (m_Store_stirs : PySem.W.findIn K (.ref C_Store) "stirs" = some (some (.ref a_Store_stirs)))
    (l_Store_stirs : K.lookup a_Store_stirs = some ⟨oc_Store_stirs, od_Store_stirs, .func (PySem.W.fnOf "stirs" "Store.stirs" (defArgs s_Store_stirs) (defBody s_Store_stirs) (defScope s_Store_stirs) .none kV_Store_stirs dc_Store_stirs pm_Store_stirs an_Store_stirs cd_Store_stirs ct_Store_stirs), sl_Store_stirs⟩)
    (h_Store_stirs : PySem.W.codeIn K cd_Store_stirs "Store.stirs" = true)
    (k_Store_stirs : PySem.W.keepIn K (.ref a_Store_stirs) = true)
    (i_Store_stirs : PySem.W.isFn K (.ref a_Store_stirs) = true)
    (m_Store_grain : PySem.W.findIn K (.ref C_Store) "grain" = some (some (.ref a_Store_grain)))
    (l_Store_grain : K.lookup a_Store_grain = some ⟨oc_Store_grain, od_Store_grain, .func (PySem.W.fnOf "grain" "Store.grain" (defArgs s_Store_grain) (defBody s_Store_grain) (defScope s_Store_grain) .none kV_Store_grain dc_Store_grain pm_Store_grain an_Store_grain cd_Store_grain ct_Store_grain), sl_Store_grain⟩)
    (h_Store_grain : PySem.W.codeIn K cd_Store_grain "Store.grain" = true)
    (k_Store_grain : PySem.W.keepIn K (.ref a_Store_grain) = true)
    (i_Store_grain : PySem.W.isFn K (.ref a_Store_grain) = true)
    (m_Store_fade : PySem.W.findIn K (.ref C_Store) "fade" = some (some (.ref a_Store_fade)))
    (l_Store_fade : K.lookup a_Store_fade = some ⟨oc_Store_fade, od_Store_fade, .func (PySem.W.fnOf "fade" "Store.fade" (defArgs s_Store_fade) (defBody s_Store_fade) (defScope s_Store_fade) .none kV_Store_fade dc_Store_fade pm_Store_fade an_Store_fade cd_Store_fade ct_Store_fade), sl_Store_fade⟩)
    (h_Store_fade : PySem.W.codeIn K cd_Store_fade "Store.fade" = true)
    (k_Store_fade : PySem.W.keepIn K (.ref a_Store_fade) = true)
    (i_Store_fade : PySem.W.isFn K (.ref a_Store_fade) = true)
    (m_Store_there : PySem.W.findIn K (.ref C_Store) "there" = some (some (.ref a_Store_there)))
    (l_Store_there : K.lookup a_Store_there = some ⟨oc_Store_there, od_Store_there, .func (PySem.W.fnOf "there" "Store.there" (defArgs s_Store_there) (defBody s_Store_there) (defScope s_Store_there) .none kV_Store_there dc_Store_there pm_Store_there an_Store_there cd_Store_there ct_Store_there), sl_Store_there⟩)
    (h_Store_there : PySem.W.codeIn K cd_Store_there "Store.there" = true)
    (k_Store_there : PySem.W.keepIn K (.ref a_Store_there) = true)
    (i_Store_there : PySem.W.isFn K (.ref a_Store_there) = true)
    (m_Store_thing : PySem.W.findIn K (.ref C_Store) "thing" = some (some (.ref a_Store_thing)))
    (l_Store_thing : K.lookup a_Store_thing = some ⟨oc_Store_thing, od_Store_thing, .func (PySem.W.fnOf "thing" "Store.thing" (defArgs s_Store_thing) (defBody s_Store_thing) (defScope s_Store_thing) .none kV_Store_thing dc_Store_thing pm_Store_thing an_Store_thing cd_Store_thing ct_Store_thing), sl_Store_thing⟩)
    (h_Store_thing : PySem.W.codeIn K cd_Store_thing "Store.thing" = true)
    (k_Store_thing : PySem.W.keepIn K (.ref a_Store_thing) = true)
    (i_Store_thing : PySem.W.isFn K (.ref a_Store_thing) = true)
    (m_Store_wane_of : PySem.W.findIn K (.ref C_Store) "wane_of" = some (some (.ref a_Store_wane_of)))
    (l_Store_wane_of : K.lookup a_Store_wane_of = some ⟨oc_Store_wane_of, od_Store_wane_of, .func (PySem.W.fnOf "wane_of" "Store.wane_of" (defArgs s_Store_wane_of) (defBody s_Store_wane_of) (defScope s_Store_wane_of) .none kV_Store_wane_of dc_Store_wane_of pm_Store_wane_of an_Store_wane_of cd_Store_wane_of ct_Store_wane_of), sl_Store_wane_of⟩)
    (h_Store_wane_of : PySem.W.codeIn K cd_Store_wane_of "Store.wane_of" = true)
    (k_Store_wane_of : PySem.W.keepIn K (.ref a_Store_wane_of) = true)
    (i_Store_wane_of : PySem.W.isFn K (.ref a_Store_wane_of) = true)
    (m_Store_total : PySem.W.findIn K (.ref C_Store) "total" = some (some (.ref a_Store_total)))
    (l_Store_total : K.lookup a_Store_total = some ⟨oc_Store_total, od_Store_total, .func (PySem.W.fnOf "total" "Store.total" (defArgs s_Store_total) (defBody s_Store_total) (defScope s_Store_total) .none kV_Store_total dc_Store_total pm_Store_total an_Store_total cd_Store_total ct_Store_total), sl_Store_total⟩)
    (h_Store_total : PySem.W.codeIn K cd_Store_total "Store.total" = true)
    (k_Store_total : PySem.W.keepIn K (.ref a_Store_total) = true)
    (i_Store_total : PySem.W.isFn K (.ref a_Store_total) = true)
    (m_Store_trace : PySem.W.findIn K (.ref C_Store) "trace" = some (some (.ref a_Store_trace)))
    (l_Store_trace : K.lookup a_Store_trace = some ⟨oc_Store_trace, od_Store_trace, .func (PySem.W.fnOf "trace" "Store.trace" (defArgs s_Store_trace) (defBody s_Store_trace) (defScope s_Store_trace) .none kV_Store_trace dc_Store_trace pm_Store_trace an_Store_trace cd_Store_trace ct_Store_trace), sl_Store_trace⟩)
    (h_Store_trace : PySem.W.codeIn K cd_Store_trace "Store.trace" = true)
    (k_Store_trace : PySem.W.keepIn K (.ref a_Store_trace) = true)
    (i_Store_trace : PySem.W.isFn K (.ref a_Store_trace) = true)
    (m_Store_askers : PySem.W.findIn K (.ref C_Store) "askers" = some (some (.ref a_Store_askers)))
    (l_Store_askers : K.lookup a_Store_askers = some ⟨oc_Store_askers, od_Store_askers, .func (PySem.W.fnOf "askers" "Store.askers" (defArgs s_Store_askers) (defBody s_Store_askers) (defScope s_Store_askers) .none kV_Store_askers dc_Store_askers pm_Store_askers an_Store_askers cd_Store_askers ct_Store_askers), sl_Store_askers⟩)
    (h_Store_askers : PySem.W.codeIn K cd_Store_askers "Store.askers" = true)
    (k_Store_askers : PySem.W.keepIn K (.ref a_Store_askers) = true)
    (i_Store_askers : PySem.W.isFn K (.ref a_Store_askers) = true)
    (m_Store_mender : PySem.W.findIn K (.ref C_Store) "mender" = some (some (.ref a_Store_mender)))
    (l_Store_mender : K.lookup a_Store_mender = some ⟨oc_Store_mender, od_Store_mender, .func (PySem.W.fnOf "mender" "Store.mender" (defArgs s_Store_mender) (defBody s_Store_mender) (defScope s_Store_mender) .none kV_Store_mender dc_Store_mender pm_Store_mender an_Store_mender cd_Store_mender ct_Store_mender), sl_Store_mender⟩)
    (h_Store_mender : PySem.W.codeIn K cd_Store_mender "Store.mender" = true)
    (k_Store_mender : PySem.W.keepIn K (.ref a_Store_mender) = true)
    (i_Store_mender : PySem.W.isFn K (.ref a_Store_mender) = true)
    (m_Store_state : PySem.W.findIn K (.ref C_Store) "state" = some (some (.ref a_Store_state)))
    (l_Store_state : K.lookup a_Store_state = some ⟨oc_Store_state, od_Store_state, .func (PySem.W.fnOf "state" "Store.state" (defArgs s_Store_state) (defBody s_Store_state) (defScope s_Store_state) .none kV_Store_state dc_Store_state pm_Store_state an_Store_state cd_Store_state ct_Store_state), sl_Store_state⟩)
    (h_Store_state : PySem.W.codeIn K cd_Store_state "Store.state" = true)
    (k_Store_state : PySem.W.keepIn K (.ref a_Store_state) = true)
    (i_Store_state : PySem.W.isFn K (.ref a_Store_state) = true)
    (m_Store_story : PySem.W.findIn K (.ref C_Store) "story" = some (some (.ref a_Store_story)))
    (l_Store_story : K.lookup a_Store_story = some ⟨oc_Store_story, od_Store_story, .func (PySem.W.fnOf "story" "Store.story" (defArgs s_Store_story) (defBody s_Store_story) (defScope s_Store_story) .none kV_Store_story dc_Store_story pm_Store_story an_Store_story cd_Store_story ct_Store_story), sl_Store_story⟩)
    (h_Store_story : PySem.W.codeIn K cd_Store_story "Store.story" = true)
    (k_Store_story : PySem.W.keepIn K (.ref a_Store_story) = true)
    (i_Store_story : PySem.W.isFn K (.ref a_Store_story) = true)
    (m_Store_copied : PySem.W.findIn K (.ref C_Store) "copied" = some (some (.ref a_Store_copied)))
    (l_Store_copied : K.lookup a_Store_copied = some ⟨oc_Store_copied, od_Store_copied, .func (PySem.W.fnOf "copied" "Store.copied" (defArgs s_Store_copied) (defBody s_Store_copied) (defScope s_Store_copied) .none kV_Store_copied dc_Store_copied pm_Store_copied an_Store_copied cd_Store_copied ct_Store_copied), sl_Store_copied⟩)
    (h_Store_copied : PySem.W.codeIn K cd_Store_copied "Store.copied" = true)
    (k_Store_copied : PySem.W.keepIn K (.ref a_Store_copied) = true)
    (i_Store_copied : PySem.W.isFn K (.ref a_Store_copied) = true)
    (m_Store__refuse_gone : PySem.W.findIn K (.ref C_Store) "_refuse_gone" = some (some (.ref a_Store__refuse_gone)))
    (l_Store__refuse_gone : K.lookup a_Store__refuse_gone = some ⟨oc_Store__refuse_gone, od_Store__refuse_gone, .func (PySem.W.fnOf "_refuse_gone" "Store._refuse_gone" (defArgs s_Store__refuse_gone) (defBody s_Store__refuse_gone) (defScope s_Store__refuse_gone) .none kV_Store__refuse_gone dc_Store__refuse_gone pm_Store__refuse_gone an_Store__refuse_gone cd_Store__refuse_gone ct_Store__refuse_gone), sl_Store__refuse_gone⟩)
    (h_Store__refuse_gone : PySem.W.codeIn K cd_Store__refuse_gone "Store._refuse_gone" = true)
    (k_Store__refuse_gone : PySem.W.keepIn K (.ref a_Store__refuse_gone) = true)
    (i_Store__refuse_gone : PySem.W.isFn K (.ref a_Store__refuse_gone) = true)
    (m_put_fits : PySem.W.nsIn K mainGlobals "put_fits" = some (some (.ref a_put_fits)))
    (l_put_fits : K.lookup a_put_fits = some ⟨oc_put_fits, od_put_fits, .func (PySem.W.fnOf "put_fits" "put_fits" (defArgs s_put_fits) (defBody s_put_fits) (defScope s_put_fits) .none kV_put_fits dc_put_fits pm_put_fits an_put_fits cd_put_fits ct_put_fits), sl_put_fits⟩)
    (h_put_fits : PySem.W.codeIn K cd_put_fits "put_fits" = true)
    (k_put_fits : PySem.W.keepIn K (.ref a_put_fits) = true)
    (m_are_rooms : PySem.W.nsIn K mainGlobals "are_rooms" = some (some (.ref a_are_rooms)))
    (l_are_rooms : K.lookup a_are_rooms = some ⟨oc_are_rooms, od_are_rooms, .func (PySem.W.fnOf "are_rooms" "are_rooms" (defArgs s_are_rooms) (defBody s_are_rooms) (defScope s_are_rooms) .none kV_are_rooms dc_are_rooms pm_are_rooms an_are_rooms cd_are_rooms ct_are_rooms), sl_are_rooms⟩)
    (h_are_rooms : PySem.W.codeIn K cd_are_rooms "are_rooms" = true)
    (k_are_rooms : PySem.W.keepIn K (.ref a_are_rooms) = true)
    (m_are_stirs : PySem.W.nsIn K mainGlobals "are_stirs" = some (some (.ref a_are_stirs)))
    (l_are_stirs : K.lookup a_are_stirs = some ⟨oc_are_stirs, od_are_stirs, .func (PySem.W.fnOf "are_stirs" "are_stirs" (defArgs s_are_stirs) (defBody s_are_stirs) (defScope s_are_stirs) .none kV_are_stirs dc_are_stirs pm_are_stirs an_are_stirs cd_are_stirs ct_are_stirs), sl_are_stirs⟩)
    (h_are_stirs : PySem.W.codeIn K cd_are_stirs "are_stirs" = true)
    (k_are_stirs : PySem.W.keepIn K (.ref a_are_stirs) = true)
    (m__law_bag : PySem.W.nsIn K mainGlobals "_law_bag" = some (some (.ref a__law_bag)))
    (l__law_bag : K.lookup a__law_bag = some ⟨oc__law_bag, od__law_bag, .func (PySem.W.fnOf "_law_bag" "_law_bag" (defArgs s__law_bag) (defBody s__law_bag) (defScope s__law_bag) .none kV__law_bag dc__law_bag pm__law_bag an__law_bag cd__law_bag ct__law_bag), sl__law_bag⟩)
    (h__law_bag : PySem.W.codeIn K cd__law_bag "_law_bag" = true)
    (k__law_bag : PySem.W.keepIn K (.ref a__law_bag) = true)
    (m__law_take : PySem.W.nsIn K mainGlobals "_law_take" = some (some (.ref a__law_take)))
    (l__law_take : K.lookup a__law_take = some ⟨oc__law_take, od__law_take, .func (PySem.W.fnOf "_law_take" "_law_take" (defArgs s__law_take) (defBody s__law_take) (defScope s__law_take) .none kV__law_take dc__law_take pm__law_take an__law_take cd__law_take ct__law_take), sl__law_take⟩)
    (h__law_take : PySem.W.codeIn K cd__law_take "_law_take" = true)
    (k__law_take : PySem.W.keepIn K (.ref a__law_take) = true)
    (m__law_names : PySem.W.nsIn K mainGlobals "_law_names" = some (some (.ref a__law_names)))
    (l__law_names : K.lookup a__law_names = some ⟨oc__law_names, od__law_names, .func (PySem.W.fnOf "_law_names" "_law_names" (defArgs s__law_names) (defBody s__law_names) (defScope s__law_names) .none kV__law_names dc__law_names pm__law_names an__law_names cd__law_names ct__law_names), sl__law_names⟩)
    (h__law_names : PySem.W.codeIn K cd__law_names "_law_names" = true)
    (k__law_names : PySem.W.keepIn K (.ref a__law_names) = true)
    (m__law_stirs : PySem.W.nsIn K mainGlobals "_law_stirs" = some (some (.ref a__law_stirs)))
    (l__law_stirs : K.lookup a__law_stirs = some ⟨oc__law_stirs, od__law_stirs, .func (PySem.W.fnOf "_law_stirs" "_law_stirs" (defArgs s__law_stirs) (defBody s__law_stirs) (defScope s__law_stirs) .none kV__law_stirs dc__law_stirs pm__law_stirs an__law_stirs cd__law_stirs ct__law_stirs), sl__law_stirs⟩)
    (h__law_stirs : PySem.W.codeIn K cd__law_stirs "_law_stirs" = true)
    (k__law_stirs : PySem.W.keepIn K (.ref a__law_stirs) = true)
    (m__law_rooms : PySem.W.nsIn K mainGlobals "_law_rooms" = some (some (.ref a__law_rooms)))
    (l__law_rooms : K.lookup a__law_rooms = some ⟨oc__law_rooms, od__law_rooms, .func (PySem.W.fnOf "_law_rooms" "_law_rooms" (defArgs s__law_rooms) (defBody s__law_rooms) (defScope s__law_rooms) .none kV__law_rooms dc__law_rooms pm__law_rooms an__law_rooms cd__law_rooms ct__law_rooms), sl__law_rooms⟩)
    (h__law_rooms : PySem.W.codeIn K cd__law_rooms "_law_rooms" = true)
    (k__law_rooms : PySem.W.keepIn K (.ref a__law_rooms) = true)
    (m__law_alike : PySem.W.nsIn K mainGlobals "_law_alike" = some (some (.ref a__law_alike)))
    (l__law_alike : K.lookup a__law_alike = some ⟨oc__law_alike, od__law_alike, .func (PySem.W.fnOf "_law_alike" "_law_alike" (defArgs s__law_alike) (defBody s__law_alike) (defScope s__law_alike) .none kV__law_alike dc__law_alike pm__law_alike an__law_alike cd__law_alike ct__law_alike), sl__law_alike⟩)
    (h__law_alike : PySem.W.codeIn K cd__law_alike "_law_alike" = true)
    (k__law_alike : PySem.W.keepIn K (.ref a__law_alike) = true)
    (m__law_made : PySem.W.nsIn K mainGlobals "_law_made" = some (some (.ref a__law_made)))
    (l__law_made : K.lookup a__law_made = some ⟨oc__law_made, od__law_made, .func (PySem.W.fnOf "_law_made" "_law_made" (defArgs s__law_made) (defBody s__law_made) (defScope s__law_made) .none kV__law_made dc__law_made pm__law_made an__law_made cd__law_made ct__law_made), sl__law_made⟩)
    (h__law_made : PySem.W.codeIn K cd__law_made "_law_made" = true)
    (k__law_made : PySem.W.keepIn K (.ref a__law_made) = true)
    (m__law_right : PySem.W.nsIn K mainGlobals "_law_right" = some (some (.ref a__law_right)))
    (l__law_right : K.lookup a__law_right = some ⟨oc__law_right, od__law_right, .func (PySem.W.fnOf "_law_right" "_law_right" (defArgs s__law_right) (defBody s__law_right) (defScope s__law_right) .none kV__law_right dc__law_right pm__law_right an__law_right cd__law_right ct__law_right), sl__law_right⟩)
    (h__law_right : PySem.W.codeIn K cd__law_right "_law_right" = true)
    (k__law_right : PySem.W.keepIn K (.ref a__law_right) = true)
    (m__law_refused : PySem.W.nsIn K mainGlobals "_law_refused" = some (some (.ref a__law_refused)))
    (l__law_refused : K.lookup a__law_refused = some ⟨oc__law_refused, od__law_refused, .func (PySem.W.fnOf "_law_refused" "_law_refused" (defArgs s__law_refused) (defBody s__law_refused) (defScope s__law_refused) .none kV__law_refused dc__law_refused pm__law_refused an__law_refused cd__law_refused ct__law_refused), sl__law_refused⟩)
    (h__law_refused : PySem.W.codeIn K cd__law_refused "_law_refused" = true)
    (k__law_refused : PySem.W.keepIn K (.ref a__law_refused) = true)
    (m__law_spoilt : PySem.W.nsIn K mainGlobals "_law_spoilt" = some (some (.ref a__law_spoilt)))
    (l__law_spoilt : K.lookup a__law_spoilt = some ⟨oc__law_spoilt, od__law_spoilt, .func (PySem.W.fnOf "_law_spoilt" "_law_spoilt" (defArgs s__law_spoilt) (defBody s__law_spoilt) (defScope s__law_spoilt) .none kV__law_spoilt dc__law_spoilt pm__law_spoilt an__law_spoilt cd__law_spoilt ct__law_spoilt), sl__law_spoilt⟩)
    (h__law_spoilt : PySem.W.codeIn K cd__law_spoilt "_law_spoilt" = true)
    (k__law_spoilt : PySem.W.keepIn K (.ref a__law_spoilt) = true)
    (m__law_case : PySem.W.nsIn K mainGlobals "_law_case" = some (some (.ref a__law_case)))
    (l__law_case : K.lookup a__law_case = some ⟨oc__law_case, od__law_case, .func (PySem.W.fnOf "_law_case" "_law_case" (defArgs s__law_case) (defBody s__law_case) (defScope s__law_case) .none kV__law_case dc__law_case pm__law_case an__law_case cd__law_case ct__law_case), sl__law_case⟩)
    (h__law_case : PySem.W.codeIn K cd__law_case "_law_case" = true)
    (k__law_case : PySem.W.keepIn K (.ref a__law_case) = true)
    (m__law_store : PySem.W.nsIn K mainGlobals "_law_store" = some (some (.ref a__law_store)))
    (l__law_store : K.lookup a__law_store = some ⟨oc__law_store, od__law_store, .func (PySem.W.fnOf "_law_store" "_law_store" (defArgs s__law_store) (defBody s__law_store) (defScope s__law_store) .none kV__law_store dc__law_store pm__law_store an__law_store cd__law_store ct__law_store), sl__law_store⟩)
    (h__law_store : PySem.W.codeIn K cd__law_store "_law_store" = true)
    (k__law_store : PySem.W.keepIn K (.ref a__law_store) = true)
    (m_law : PySem.W.nsIn K mainGlobals "law" = some (some (.ref a_law)))
    (l_law : K.lookup a_law = some ⟨oc_law, od_law, .func (PySem.W.fnOf "law" "law" (defArgs s_law) (defBody s_law) (defScope s_law) .none kV_law dc_law pm_law an_law cd_law ct_law), sl_law⟩)
    (h_law : PySem.W.codeIn K cd_law "law" = true)
    (k_law : PySem.W.keepIn K (.ref a_law) = true)
    (su_WaneError_Wrong : PySem.W.subIn K (.ref C_WaneError) (.ref C_Wrong) = some false)
    (su_WaneError_TooMany : PySem.W.subIn K (.ref C_WaneError) (.ref C_TooMany) = some false)
    (su_WaneError_There : PySem.W.subIn K (.ref C_WaneError) (.ref C_There) = some false)
    (su_WaneError_Gone : PySem.W.subIn K (.ref C_WaneError) (.ref C_Gone) = some false)
    (ei_WaneError : PySem.W.excIn K C_WaneError [.type "ValueError", .type "Exception", .type "BaseException", .type "object"] "ValueError.__new__" = true)
    (su_Wrong_WaneError : PySem.W.subIn K (.ref C_Wrong) (.ref C_WaneError) = some true)
    (su_Wrong_TooMany : PySem.W.subIn K (.ref C_Wrong) (.ref C_TooMany) = some false)
    (su_Wrong_There : PySem.W.subIn K (.ref C_Wrong) (.ref C_There) = some false)
    (su_Wrong_Gone : PySem.W.subIn K (.ref C_Wrong) (.ref C_Gone) = some false)
    (ot_Wrong : PySem.W.typeIn K (.ref a_Wrong___init__) = some (.type "function"))
    (nf_Wrong : PySem.W.findIn K (.ref C_Wrong) "place" = some none)
    (su_TooMany_WaneError : PySem.W.subIn K (.ref C_TooMany) (.ref C_WaneError) = some true)
    (su_TooMany_Wrong : PySem.W.subIn K (.ref C_TooMany) (.ref C_Wrong) = some false)
    (su_TooMany_There : PySem.W.subIn K (.ref C_TooMany) (.ref C_There) = some false)
    (su_TooMany_Gone : PySem.W.subIn K (.ref C_TooMany) (.ref C_Gone) = some false)
    (ot_TooMany : PySem.W.typeIn K (.ref a_TooMany___init__) = some (.type "function"))
    (nf_TooMany : PySem.W.findIn K (.ref C_TooMany) "most" = some none)
    (su_There_WaneError : PySem.W.subIn K (.ref C_There) (.ref C_WaneError) = some true)
    (su_There_Wrong : PySem.W.subIn K (.ref C_There) (.ref C_Wrong) = some false)
    (su_There_TooMany : PySem.W.subIn K (.ref C_There) (.ref C_TooMany) = some false)
    (su_There_Gone : PySem.W.subIn K (.ref C_There) (.ref C_Gone) = some false)
    (ot_There : PySem.W.typeIn K (.ref a_There___init__) = some (.type "function"))
    (nf_There : PySem.W.findIn K (.ref C_There) "name" = some none)
    (su_Gone_WaneError : PySem.W.subIn K (.ref C_Gone) (.ref C_WaneError) = some true)
    (su_Gone_Wrong : PySem.W.subIn K (.ref C_Gone) (.ref C_Wrong) = some false)
    (su_Gone_TooMany : PySem.W.subIn K (.ref C_Gone) (.ref C_TooMany) = some false)
    (su_Gone_There : PySem.W.subIn K (.ref C_Gone) (.ref C_There) = some false)
    (ot_Gone : PySem.W.typeIn K (.ref a_Gone___init__) = some (.type "function"))
    (nf_Gone : PySem.W.findIn K (.ref C_Gone) "name" = some none) :
    ∃ fd : FuncData, (∀ (s : Shared) (v : Value), BindsTo s fd ⟨[v], []⟩ [("_law_script", v)]) ∧ ∀ base : Heap, K.In base → base.Ns mainGlobals mg → FnG l.prog w K mg base CX0 9 fa fd ["_law_script"] (sp_law K) := by
  have e : a_law = fa := by
    have e := hfa.symm.trans (PySem.W.mg_of X G m_law)
    cases e
    rfl
  subst e
  let W : Wd K mg := {
    n_ValueError := PySem.W.mg_none_of X G n_ValueError,
    n_abs := PySem.W.mg_none_of X G n_abs,
    n_all := PySem.W.mg_none_of X G n_all,
    n_bool := PySem.W.mg_none_of X G n_bool,
    n_dict := PySem.W.mg_none_of X G n_dict,
    n_enumerate := PySem.W.mg_none_of X G n_enumerate,
    n_int := PySem.W.mg_none_of X G n_int,
    n_isinstance := PySem.W.mg_none_of X G n_isinstance,
    n_len := PySem.W.mg_none_of X G n_len,
    n_list := PySem.W.mg_none_of X G n_list,
    n_max := PySem.W.mg_none_of X G n_max,
    n_min := PySem.W.mg_none_of X G n_min,
    n_range := PySem.W.mg_none_of X G n_range,
    n_repr := PySem.W.mg_none_of X G n_repr,
    n_sorted := PySem.W.mg_none_of X G n_sorted,
    n_str := PySem.W.mg_none_of X G n_str,
    n_sum := PySem.W.mg_none_of X G n_sum,
    n_tuple := PySem.W.mg_none_of X G n_tuple,
    t_ANEW := t_ANEW,
    c_ANEW := PySem.W.mg_of X G c_ANEW,
    t_BAR := t_BAR,
    c_BAR := PySem.W.mg_of X G c_BAR,
    t_BILLION := t_BILLION,
    c_BILLION := PySem.W.mg_of X G c_BILLION,
    t_CROWDED := t_CROWDED,
    c_CROWDED := PySem.W.mg_of X G c_CROWDED,
    t_DAY := t_DAY,
    c_DAY := PySem.W.mg_of X G c_DAY,
    t_FADED := t_FADED,
    c_FADED := PySem.W.mg_of X G c_FADED,
    t_LETTERS := t_LETTERS,
    c_LETTERS := PySem.W.mg_of X G c_LETTERS,
    t_MOST_BY := t_MOST_BY,
    c_MOST_BY := PySem.W.mg_of X G c_MOST_BY,
    t_MOST_HEAD := t_MOST_HEAD,
    c_MOST_HEAD := PySem.W.mg_of X G c_MOST_HEAD,
    t_MOST_LETTERS := t_MOST_LETTERS,
    c_MOST_LETTERS := PySem.W.mg_of X G c_MOST_LETTERS,
    t_MOST_MOMENT := t_MOST_MOMENT,
    c_MOST_MOMENT := PySem.W.mg_of X G c_MOST_MOMENT,
    t_MOST_ROOM := t_MOST_ROOM,
    c_MOST_ROOM := PySem.W.mg_of X G c_MOST_ROOM,
    t_MOST_ROOMS := t_MOST_ROOMS,
    c_MOST_ROOMS := PySem.W.mg_of X G c_MOST_ROOMS,
    t_MOST_SORT := t_MOST_SORT,
    c_MOST_SORT := PySem.W.mg_of X G c_MOST_SORT,
    t_MOST_THINGS := t_MOST_THINGS,
    c_MOST_THINGS := PySem.W.mg_of X G c_MOST_THINGS,
    t_MOVED := t_MOVED,
    c_MOVED := PySem.W.mg_of X G c_MOVED,
    t_PRESSED := t_PRESSED,
    c_PRESSED := PySem.W.mg_of X G c_PRESSED,
    t_PUT := t_PUT,
    c_PUT := PySem.W.mg_of X G c_PUT,
    t_SORTS := t_SORTS,
    c_SORTS := PySem.W.mg_of X G c_SORTS,
    a_TAILS := a_TAILS,
    c_TAILS := PySem.W.mg_of X G c_TAILS,
    i_TAILS := ⟨⟨_, _, _, l_TAILS, rfl, rfl, (by show 8 ≤ sizeLine; decide), .cons ⟨_, rfl⟩ (.cons ⟨_, rfl⟩ (.cons ⟨_, rfl⟩ (.cons ⟨_, rfl⟩ (.cons ⟨_, rfl⟩ (.cons ⟨_, rfl⟩ (.cons ⟨_, rfl⟩ (.cons ⟨_, rfl⟩ (.nil))))))))⟩⟩,
    t_TAKEN := t_TAKEN,
    c_TAKEN := PySem.W.mg_of X G c_TAKEN,
    C_WaneError := C_WaneError,
    c_WaneError := PySem.W.mg_of X G c_WaneError,
    x_WaneError := xcls_mk xl_WaneError ve0 xs_WaneError xe_WaneError xt_WaneError xk_WaneError xa_WaneError xg_WaneError xh_WaneError xc_WaneError xn_WaneError xo_WaneError xm_WaneError xx_WaneError,
    sv_WaneError := xv_WaneError,
    C_Wrong := C_Wrong,
    c_Wrong := PySem.W.mg_of X G c_Wrong,
    x_Wrong := xcls_mk xl_Wrong ve1 xs_Wrong xe_Wrong xt_Wrong xk_Wrong xa_Wrong xg_Wrong xh_Wrong xc_Wrong xn_Wrong xo_Wrong xm_Wrong xx_Wrong,
    sv_Wrong := xv_Wrong,
    C_TooMany := C_TooMany,
    c_TooMany := PySem.W.mg_of X G c_TooMany,
    x_TooMany := xcls_mk xl_TooMany ve1 xs_TooMany xe_TooMany xt_TooMany xk_TooMany xa_TooMany xg_TooMany xh_TooMany xc_TooMany xn_TooMany xo_TooMany xm_TooMany xx_TooMany,
    sv_TooMany := xv_TooMany,
    C_There := C_There,
    c_There := PySem.W.mg_of X G c_There,
    x_There := xcls_mk xl_There ve1 xs_There xe_There xt_There xk_There xa_There xg_There xh_There xc_There xn_There xo_There xm_There xx_There,
    sv_There := xv_There,
    C_Gone := C_Gone,
    c_Gone := PySem.W.mg_of X G c_Gone,
    x_Gone := xcls_mk xl_Gone ve1 xs_Gone xe_Gone xt_Gone xk_Gone xa_Gone xg_Gone xh_Gone xc_Gone xn_Gone xo_Gone xm_Gone xx_Gone,
    sv_Gone := xv_Gone,
    C_Wane := C_Wane,
    c_Wane := PySem.W.mg_of X G c_Wane,
    cl_Wane := ⟨pg_Wane, hd_Wane, po_Wane, sa_Wane⟩,
    ic_Wane := ⟨⟨pg_Wane, hd_Wane, po_Wane, sa_Wane⟩, ic1_Wane, ic2_Wane, ic3_Wane, ic4_Wane, kitOne_self⟩,
    ty_Wane := ty_Wane,
    na_Wane__anew := na_Wane__anew,
    na_Wane__cap := na_Wane__cap,
    na_Wane__head := na_Wane__head,
    na_Wane__lift := na_Wane__lift,
    na_Wane__steps := na_Wane__steps,
    na_Wane__tail := na_Wane__tail,
    C_Story := C_Story,
    c_Story := PySem.W.mg_of X G c_Story,
    cl_Story := ⟨pg_Story, hd_Story, po_Story, sa_Story⟩,
    ic_Story := ⟨⟨pg_Story, hd_Story, po_Story, sa_Story⟩, ic1_Story, ic2_Story, ic3_Story, ic4_Story, kitOne_self⟩,
    ty_Story := ty_Story,
    na_Story_length := na_Story_length,
    na_Story_shared := na_Story_shared,
    C_Thing := C_Thing,
    c_Thing := PySem.W.mg_of X G c_Thing,
    cl_Thing := ⟨pg_Thing, hd_Thing, po_Thing, sa_Thing⟩,
    ic_Thing := ⟨⟨pg_Thing, hd_Thing, po_Thing, sa_Thing⟩, ic1_Thing, ic2_Thing, ic3_Thing, ic4_Thing, kitOne_self⟩,
    ty_Thing := ty_Thing,
    na_Thing_asked := na_Thing_asked,
    na_Thing_group := na_Thing_group,
    na_Thing_name := na_Thing_name,
    na_Thing_room := na_Thing_room,
    na_Thing_since := na_Thing_since,
    na_Thing_strength := na_Thing_strength,
    na_Thing_wane := na_Thing_wane,
    C_Shelf := C_Shelf,
    c_Shelf := PySem.W.mg_of X G c_Shelf,
    cl_Shelf := ⟨pg_Shelf, hd_Shelf, po_Shelf, sa_Shelf⟩,
    ic_Shelf := ⟨⟨pg_Shelf, hd_Shelf, po_Shelf, sa_Shelf⟩, ic1_Shelf, ic2_Shelf, ic3_Shelf, ic4_Shelf, kitOne_self⟩,
    ty_Shelf := ty_Shelf,
    na_Shelf_hired := na_Shelf_hired,
    na_Shelf_limits := na_Shelf_limits,
    na_Shelf_mark := na_Shelf_mark,
    na_Shelf_moment := na_Shelf_moment,
    na_Shelf_per_asking := na_Shelf_per_asking,
    na_Shelf_per_turn := na_Shelf_per_turn,
    na_Shelf_plans := na_Shelf_plans,
    na_Shelf_rows := na_Shelf_rows,
    na_Shelf_shifts := na_Shelf_shifts,
    na_Shelf_things := na_Shelf_things,
    na_Shelf_traces := na_Shelf_traces,
    C_Store := C_Store,
    c_Store := PySem.W.mg_of X G c_Store,
    cl_Store := ⟨pg_Store, hd_Store, po_Store, sa_Store⟩,
    ic_Store := ⟨⟨pg_Store, hd_Store, po_Store, sa_Store⟩, ic1_Store, ic2_Store, ic3_Store, ic4_Store, kitOne_self⟩,
    ty_Store := ty_Store,
    na_Store_shelf := na_Store_shelf,
    a__wall := a__wall,
    d__wall := _,
    m__wall := PySem.W.mg_of X G m__wall,
    F__wall := fun_mk (st := s__wall) l__wall h__wall k__wall,
    a_Wrong___init__ := a_Wrong___init__,
    d_Wrong___init__ := _,
    F_Wrong___init__ := fun_mk (st := s_Wrong___init__) l_Wrong___init__ h_Wrong___init__ k_Wrong___init__,
    a_TooMany___init__ := a_TooMany___init__,
    d_TooMany___init__ := _,
    F_TooMany___init__ := fun_mk (st := s_TooMany___init__) l_TooMany___init__ h_TooMany___init__ k_TooMany___init__,
    a_There___init__ := a_There___init__,
    d_There___init__ := _,
    F_There___init__ := fun_mk (st := s_There___init__) l_There___init__ h_There___init__ k_There___init__,
    a_Gone___init__ := a_Gone___init__,
    d_Gone___init__ := _,
    F_Gone___init__ := fun_mk (st := s_Gone___init__) l_Gone___init__ h_Gone___init__ k_Gone___init__,
    a_refuse_wrong := a_refuse_wrong,
    d_refuse_wrong := _,
    m_refuse_wrong := PySem.W.mg_of X G m_refuse_wrong,
    F_refuse_wrong := fun_mk (st := s_refuse_wrong) l_refuse_wrong h_refuse_wrong k_refuse_wrong,
    a_is_whole := a_is_whole,
    d_is_whole := _,
    m_is_whole := PySem.W.mg_of X G m_is_whole,
    F_is_whole := fun_mk (st := s_is_whole) l_is_whole h_is_whole k_is_whole,
    a_is_within := a_is_within,
    d_is_within := _,
    m_is_within := PySem.W.mg_of X G m_is_within,
    F_is_within := fun_mk (st := s_is_within) l_is_within h_is_within k_is_within,
    a_is_name := a_is_name,
    d_is_name := _,
    m_is_name := PySem.W.mg_of X G m_is_name,
    F_is_name := fun_mk (st := s_is_name) l_is_name h_is_name k_is_name,
    a_is_sort := a_is_sort,
    d_is_sort := _,
    m_is_sort := PySem.W.mg_of X G m_is_sort,
    F_is_sort := fun_mk (st := s_is_sort) l_is_sort h_is_sort k_is_sort,
    a_is_strength := a_is_strength,
    d_is_strength := _,
    m_is_strength := PySem.W.mg_of X G m_is_strength,
    F_is_strength := fun_mk (st := s_is_strength) l_is_strength h_is_strength k_is_strength,
    a_is_size := a_is_size,
    d_is_size := _,
    m_is_size := PySem.W.mg_of X G m_is_size,
    F_is_size := fun_mk (st := s_is_size) l_is_size h_is_size k_is_size,
    a_is_shift := a_is_shift,
    d_is_shift := _,
    m_is_shift := PySem.W.mg_of X G m_is_shift,
    F_is_shift := fun_mk (st := s_is_shift) l_is_shift h_is_shift k_is_shift,
    a_is_room := a_is_room,
    d_is_room := _,
    m_is_room := PySem.W.mg_of X G m_is_room,
    F_is_room := fun_mk (st := s_is_room) l_is_room h_is_room k_is_room,
    a_is_moment := a_is_moment,
    d_is_moment := _,
    m_is_moment := PySem.W.mg_of X G m_is_moment,
    F_is_moment := fun_mk (st := s_is_moment) l_is_moment h_is_moment k_is_moment,
    a_is_step := a_is_step,
    d_is_step := _,
    m_is_step := PySem.W.mg_of X G m_is_step,
    F_is_step := fun_mk (st := s_is_step) l_is_step h_is_step k_is_step,
    a_hour_of := a_hour_of,
    d_hour_of := _,
    m_hour_of := PySem.W.mg_of X G m_hour_of,
    F_hour_of := fun_mk (st := s_hour_of) l_hour_of h_hour_of k_hour_of,
    a_Wane___init__ := a_Wane___init__,
    d_Wane___init__ := _,
    D_Wane___init__ := ⟨⟨_, _, _, _, _, _, _, _, _, _, rfl, l_Wane___init__, h_Wane___init__, .inl ⟨rfl, rfl⟩, .inr ⟨_, rfl, fun q hq => by
      rcases List.mem_cons.mp hq with e | hq
      · subst e; exact ⟨_, kw_Wane___init___anew, rfl⟩
      cases hq⟩⟩, k_Wane___init__⟩,
    K_Wane := ⟨mk_Wane, m_Wane___init__, i_Wane___init__, kc_Wane⟩,
    a_Wane_head := a_Wane_head,
    d_Wane_head := _,
    F_Wane_head := fun_mk (st := s_Wane_head) l_Wane_head h_Wane_head k_Wane_head,
    M_Wane_head := ⟨m_Wane_head, i_Wane_head, k_Wane_head⟩,
    a_Wane_tail := a_Wane_tail,
    d_Wane_tail := _,
    F_Wane_tail := fun_mk (st := s_Wane_tail) l_Wane_tail h_Wane_tail k_Wane_tail,
    M_Wane_tail := ⟨m_Wane_tail, i_Wane_tail, k_Wane_tail⟩,
    a_Wane_cap := a_Wane_cap,
    d_Wane_cap := _,
    F_Wane_cap := fun_mk (st := s_Wane_cap) l_Wane_cap h_Wane_cap k_Wane_cap,
    M_Wane_cap := ⟨m_Wane_cap, i_Wane_cap, k_Wane_cap⟩,
    a_Wane_lift := a_Wane_lift,
    d_Wane_lift := _,
    F_Wane_lift := fun_mk (st := s_Wane_lift) l_Wane_lift h_Wane_lift k_Wane_lift,
    M_Wane_lift := ⟨m_Wane_lift, i_Wane_lift, k_Wane_lift⟩,
    a_Wane_is_anew := a_Wane_is_anew,
    d_Wane_is_anew := _,
    F_Wane_is_anew := fun_mk (st := s_Wane_is_anew) l_Wane_is_anew h_Wane_is_anew k_Wane_is_anew,
    M_Wane_is_anew := ⟨m_Wane_is_anew, i_Wane_is_anew, k_Wane_is_anew⟩,
    a_Wane_step := a_Wane_step,
    d_Wane_step := _,
    F_Wane_step := fun_mk (st := s_Wane_step) l_Wane_step h_Wane_step k_Wane_step,
    M_Wane_step := ⟨m_Wane_step, i_Wane_step, k_Wane_step⟩,
    a_Wane_phase := a_Wane_phase,
    d_Wane_phase := _,
    F_Wane_phase := fun_mk (st := s_Wane_phase) l_Wane_phase h_Wane_phase k_Wane_phase,
    M_Wane_phase := ⟨m_Wane_phase, i_Wane_phase, k_Wane_phase⟩,
    a_Wane_text := a_Wane_text,
    d_Wane_text := _,
    F_Wane_text := fun_mk (st := s_Wane_text) l_Wane_text h_Wane_text k_Wane_text,
    M_Wane_text := ⟨m_Wane_text, i_Wane_text, k_Wane_text⟩,
    a_Wane_step_behind := a_Wane_step_behind,
    d_Wane_step_behind := _,
    F_Wane_step_behind := fun_mk (st := s_Wane_step_behind) l_Wane_step_behind h_Wane_step_behind k_Wane_step_behind,
    M_Wane_step_behind := ⟨m_Wane_step_behind, i_Wane_step_behind, k_Wane_step_behind⟩,
    a_Wane_phase_behind := a_Wane_phase_behind,
    d_Wane_phase_behind := _,
    F_Wane_phase_behind := fun_mk (st := s_Wane_phase_behind) l_Wane_phase_behind h_Wane_phase_behind k_Wane_phase_behind,
    M_Wane_phase_behind := ⟨m_Wane_phase_behind, i_Wane_phase_behind, k_Wane_phase_behind⟩,
    a_is_wane := a_is_wane,
    d_is_wane := _,
    m_is_wane := PySem.W.mg_of X G m_is_wane,
    F_is_wane := fun_mk (st := s_is_wane) l_is_wane h_is_wane k_is_wane,
    a_is_level := a_is_level,
    d_is_level := _,
    m_is_level := PySem.W.mg_of X G m_is_level,
    F_is_level := fun_mk (st := s_is_level) l_is_level h_is_level k_is_level,
    a__is_head := a__is_head,
    d__is_head := _,
    m__is_head := PySem.W.mg_of X G m__is_head,
    F__is_head := fun_mk (st := s__is_head) l__is_head h__is_head k__is_head,
    a__is_tail := a__is_tail,
    d__is_tail := _,
    m__is_tail := PySem.W.mg_of X G m__is_tail,
    F__is_tail := fun_mk (st := s__is_tail) l__is_tail h__is_tail k__is_tail,
    a__are_steps := a__are_steps,
    d__are_steps := _,
    m__are_steps := PySem.W.mg_of X G m__are_steps,
    F__are_steps := fun_mk (st := s__are_steps) l__are_steps h__are_steps k__are_steps,
    a__step_word := a__step_word,
    d__step_word := _,
    m__step_word := PySem.W.mg_of X G m__step_word,
    F__step_word := fun_mk (st := s__step_word) l__step_word h__step_word k__step_word,
    a_behind_turn := a_behind_turn,
    d_behind_turn := _,
    m_behind_turn := PySem.W.mg_of X G m_behind_turn,
    F_behind_turn := fun_mk (st := s_behind_turn) l_behind_turn h_behind_turn k_behind_turn,
    a_behind_asking := a_behind_asking,
    d_behind_asking := _,
    m_behind_asking := PySem.W.mg_of X G m_behind_asking,
    F_behind_asking := fun_mk (st := s_behind_asking) l_behind_asking h_behind_asking k_behind_asking,
    a_Story___init__ := a_Story___init__,
    d_Story___init__ := _,
    F_Story___init__ := fun_mk (st := s_Story___init__) l_Story___init__ h_Story___init__ k_Story___init__,
    K_Story := ⟨mk_Story, m_Story___init__, i_Story___init__, kc_Story⟩,
    a_Story_doubled := a_Story_doubled,
    d_Story_doubled := _,
    F_Story_doubled := fun_mk (st := s_Story_doubled) l_Story_doubled h_Story_doubled k_Story_doubled,
    M_Story_doubled := ⟨m_Story_doubled, i_Story_doubled, k_Story_doubled⟩,
    a_Story_write := a_Story_write,
    d_Story_write := _,
    F_Story_write := fun_mk (st := s_Story_write) l_Story_write h_Story_write k_Story_write,
    M_Story_write := ⟨m_Story_write, i_Story_write, k_Story_write⟩,
    a_Story_listed := a_Story_listed,
    d_Story_listed := _,
    F_Story_listed := fun_mk (st := s_Story_listed) l_Story_listed h_Story_listed k_Story_listed,
    M_Story_listed := ⟨m_Story_listed, i_Story_listed, k_Story_listed⟩,
    a_Thing___init__ := a_Thing___init__,
    d_Thing___init__ := _,
    F_Thing___init__ := fun_mk (st := s_Thing___init__) l_Thing___init__ h_Thing___init__ k_Thing___init__,
    K_Thing := ⟨mk_Thing, m_Thing___init__, i_Thing___init__, kc_Thing⟩,
    a_Thing_doubled := a_Thing_doubled,
    d_Thing_doubled := _,
    F_Thing_doubled := fun_mk (st := s_Thing_doubled) l_Thing_doubled h_Thing_doubled k_Thing_doubled,
    M_Thing_doubled := ⟨m_Thing_doubled, i_Thing_doubled, k_Thing_doubled⟩,
    a_Thing_phase := a_Thing_phase,
    d_Thing_phase := _,
    F_Thing_phase := fun_mk (st := s_Thing_phase) l_Thing_phase h_Thing_phase k_Thing_phase,
    M_Thing_phase := ⟨m_Thing_phase, i_Thing_phase, k_Thing_phase⟩,
    a_Shelf___init__ := a_Shelf___init__,
    d_Shelf___init__ := _,
    F_Shelf___init__ := fun_mk (st := s_Shelf___init__) l_Shelf___init__ h_Shelf___init__ k_Shelf___init__,
    K_Shelf := ⟨mk_Shelf, m_Shelf___init__, i_Shelf___init__, kc_Shelf⟩,
    a_Shelf_doubled := a_Shelf_doubled,
    d_Shelf_doubled := _,
    F_Shelf_doubled := fun_mk (st := s_Shelf_doubled) l_Shelf_doubled h_Shelf_doubled k_Shelf_doubled,
    M_Shelf_doubled := ⟨m_Shelf_doubled, i_Shelf_doubled, k_Shelf_doubled⟩,
    a_Shelf_by_names := a_Shelf_by_names,
    d_Shelf_by_names := _,
    F_Shelf_by_names := fun_mk (st := s_Shelf_by_names) l_Shelf_by_names h_Shelf_by_names k_Shelf_by_names,
    M_Shelf_by_names := ⟨m_Shelf_by_names, i_Shelf_by_names, k_Shelf_by_names⟩,
    a_Shelf_in_room := a_Shelf_in_room,
    d_Shelf_in_room := _,
    F_Shelf_in_room := fun_mk (st := s_Shelf_in_room) l_Shelf_in_room h_Shelf_in_room k_Shelf_in_room,
    M_Shelf_in_room := ⟨m_Shelf_in_room, i_Shelf_in_room, k_Shelf_in_room⟩,
    a_Shelf_sum_in := a_Shelf_sum_in,
    d_Shelf_sum_in := _,
    F_Shelf_sum_in := fun_mk (st := s_Shelf_sum_in) l_Shelf_sum_in h_Shelf_sum_in k_Shelf_sum_in,
    M_Shelf_sum_in := ⟨m_Shelf_sum_in, i_Shelf_sum_in, k_Shelf_sum_in⟩,
    a_Shelf_states := a_Shelf_states,
    d_Shelf_states := _,
    F_Shelf_states := fun_mk (st := s_Shelf_states) l_Shelf_states h_Shelf_states k_Shelf_states,
    M_Shelf_states := ⟨m_Shelf_states, i_Shelf_states, k_Shelf_states⟩,
    a_Shelf_trace_of := a_Shelf_trace_of,
    d_Shelf_trace_of := _,
    F_Shelf_trace_of := fun_mk (st := s_Shelf_trace_of) l_Shelf_trace_of h_Shelf_trace_of k_Shelf_trace_of,
    M_Shelf_trace_of := ⟨m_Shelf_trace_of, i_Shelf_trace_of, k_Shelf_trace_of⟩,
    a_Shelf_add_row := a_Shelf_add_row,
    d_Shelf_add_row := _,
    F_Shelf_add_row := fun_mk (st := s_Shelf_add_row) l_Shelf_add_row h_Shelf_add_row k_Shelf_add_row,
    M_Shelf_add_row := ⟨m_Shelf_add_row, i_Shelf_add_row, k_Shelf_add_row⟩,
    a_Shelf_put_in := a_Shelf_put_in,
    d_Shelf_put_in := _,
    F_Shelf_put_in := fun_mk (st := s_Shelf_put_in) l_Shelf_put_in h_Shelf_put_in k_Shelf_put_in,
    M_Shelf_put_in := ⟨m_Shelf_put_in, i_Shelf_put_in, k_Shelf_put_in⟩,
    a_Shelf_take_out := a_Shelf_take_out,
    d_Shelf_take_out := _,
    F_Shelf_take_out := fun_mk (st := s_Shelf_take_out) l_Shelf_take_out h_Shelf_take_out k_Shelf_take_out,
    M_Shelf_take_out := ⟨m_Shelf_take_out, i_Shelf_take_out, k_Shelf_take_out⟩,
    a_Shelf_lose := a_Shelf_lose,
    d_Shelf_lose := _,
    F_Shelf_lose := fun_mk (st := s_Shelf_lose) l_Shelf_lose h_Shelf_lose k_Shelf_lose,
    M_Shelf_lose := ⟨m_Shelf_lose, i_Shelf_lose, k_Shelf_lose⟩,
    a_Shelf_ask_for := a_Shelf_ask_for,
    d_Shelf_ask_for := _,
    F_Shelf_ask_for := fun_mk (st := s_Shelf_ask_for) l_Shelf_ask_for h_Shelf_ask_for k_Shelf_ask_for,
    M_Shelf_ask_for := ⟨m_Shelf_ask_for, i_Shelf_ask_for, k_Shelf_ask_for⟩,
    a_Shelf_stir_beside := a_Shelf_stir_beside,
    d_Shelf_stir_beside := _,
    F_Shelf_stir_beside := fun_mk (st := s_Shelf_stir_beside) l_Shelf_stir_beside h_Shelf_stir_beside k_Shelf_stir_beside,
    M_Shelf_stir_beside := ⟨m_Shelf_stir_beside, i_Shelf_stir_beside, k_Shelf_stir_beside⟩,
    a_Shelf_crowd := a_Shelf_crowd,
    d_Shelf_crowd := _,
    F_Shelf_crowd := fun_mk (st := s_Shelf_crowd) l_Shelf_crowd h_Shelf_crowd k_Shelf_crowd,
    M_Shelf_crowd := ⟨m_Shelf_crowd, i_Shelf_crowd, k_Shelf_crowd⟩,
    a_Shelf_move_on := a_Shelf_move_on,
    d_Shelf_move_on := _,
    F_Shelf_move_on := fun_mk (st := s_Shelf_move_on) l_Shelf_move_on h_Shelf_move_on k_Shelf_move_on,
    M_Shelf_move_on := ⟨m_Shelf_move_on, i_Shelf_move_on, k_Shelf_move_on⟩,
    a_Shelf_turn := a_Shelf_turn,
    d_Shelf_turn := _,
    F_Shelf_turn := fun_mk (st := s_Shelf_turn) l_Shelf_turn h_Shelf_turn k_Shelf_turn,
    M_Shelf_turn := ⟨m_Shelf_turn, i_Shelf_turn, k_Shelf_turn⟩,
    a_Shelf_wane_all := a_Shelf_wane_all,
    d_Shelf_wane_all := _,
    F_Shelf_wane_all := fun_mk (st := s_Shelf_wane_all) l_Shelf_wane_all h_Shelf_wane_all k_Shelf_wane_all,
    M_Shelf_wane_all := ⟨m_Shelf_wane_all, i_Shelf_wane_all, k_Shelf_wane_all⟩,
    a_Shelf_ask_for_weak := a_Shelf_ask_for_weak,
    d_Shelf_ask_for_weak := _,
    F_Shelf_ask_for_weak := fun_mk (st := s_Shelf_ask_for_weak) l_Shelf_ask_for_weak h_Shelf_ask_for_weak k_Shelf_ask_for_weak,
    M_Shelf_ask_for_weak := ⟨m_Shelf_ask_for_weak, i_Shelf_ask_for_weak, k_Shelf_ask_for_weak⟩,
    a_Shelf_turns := a_Shelf_turns,
    d_Shelf_turns := _,
    F_Shelf_turns := fun_mk (st := s_Shelf_turns) l_Shelf_turns h_Shelf_turns k_Shelf_turns,
    M_Shelf_turns := ⟨m_Shelf_turns, i_Shelf_turns, k_Shelf_turns⟩,
    a_weakest := a_weakest,
    d_weakest := _,
    m_weakest := PySem.W.mg_of X G m_weakest,
    F_weakest := fun_mk (st := s_weakest) l_weakest h_weakest k_weakest,
    a_Store___init__ := a_Store___init__,
    d_Store___init__ := _,
    D_Store___init__ := ⟨⟨_, _, _, _, _, _, _, _, _, _, rfl, l_Store___init__, h_Store___init__, .inl ⟨rfl, rfl⟩, .inr ⟨_, rfl, fun q hq => by
      rcases List.mem_cons.mp hq with e | hq
      · subst e; exact ⟨_, kw_Store___init___stirs, rfl⟩
      rcases List.mem_cons.mp hq with e | hq
      · subst e; exact ⟨_, kw_Store___init___grain, ⟨_, rfl⟩⟩
      rcases List.mem_cons.mp hq with e | hq
      · subst e; exact ⟨_, kw_Store___init___fade, ⟨_, rfl⟩⟩
      cases hq⟩⟩, k_Store___init__⟩,
    K_Store := ⟨mk_Store, m_Store___init__, i_Store___init__, kc_Store⟩,
    a_Store_put := a_Store_put,
    d_Store_put := _,
    F_Store_put := fun_mk (st := s_Store_put) l_Store_put h_Store_put k_Store_put,
    M_Store_put := ⟨m_Store_put, i_Store_put, k_Store_put⟩,
    a_Store_ask := a_Store_ask,
    d_Store_ask := _,
    F_Store_ask := fun_mk (st := s_Store_ask) l_Store_ask h_Store_ask k_Store_ask,
    M_Store_ask := ⟨m_Store_ask, i_Store_ask, k_Store_ask⟩,
    a_Store_take := a_Store_take,
    d_Store_take := _,
    F_Store_take := fun_mk (st := s_Store_take) l_Store_take h_Store_take k_Store_take,
    M_Store_take := ⟨m_Store_take, i_Store_take, k_Store_take⟩,
    a_Store_mend := a_Store_mend,
    d_Store_mend := _,
    F_Store_mend := fun_mk (st := s_Store_mend) l_Store_mend h_Store_mend k_Store_mend,
    M_Store_mend := ⟨m_Store_mend, i_Store_mend, k_Store_mend⟩,
    a_Store_pass_on := a_Store_pass_on,
    d_Store_pass_on := _,
    F_Store_pass_on := fun_mk (st := s_Store_pass_on) l_Store_pass_on h_Store_pass_on k_Store_pass_on,
    M_Store_pass_on := ⟨m_Store_pass_on, i_Store_pass_on, k_Store_pass_on⟩,
    a_Store_hire := a_Store_hire,
    d_Store_hire := _,
    F_Store_hire := fun_mk (st := s_Store_hire) l_Store_hire h_Store_hire k_Store_hire,
    M_Store_hire := ⟨m_Store_hire, i_Store_hire, k_Store_hire⟩,
    a_Store_dismiss := a_Store_dismiss,
    d_Store_dismiss := _,
    F_Store_dismiss := fun_mk (st := s_Store_dismiss) l_Store_dismiss h_Store_dismiss k_Store_dismiss,
    M_Store_dismiss := ⟨m_Store_dismiss, i_Store_dismiss, k_Store_dismiss⟩,
    a_Store_now := a_Store_now,
    d_Store_now := _,
    F_Store_now := fun_mk (st := s_Store_now) l_Store_now h_Store_now k_Store_now,
    M_Store_now := ⟨m_Store_now, i_Store_now, k_Store_now⟩,
    a_Store_rooms := a_Store_rooms,
    d_Store_rooms := _,
    F_Store_rooms := fun_mk (st := s_Store_rooms) l_Store_rooms h_Store_rooms k_Store_rooms,
    M_Store_rooms := ⟨m_Store_rooms, i_Store_rooms, k_Store_rooms⟩,
    a_Store_stirs := a_Store_stirs,
    d_Store_stirs := _,
    F_Store_stirs := fun_mk (st := s_Store_stirs) l_Store_stirs h_Store_stirs k_Store_stirs,
    M_Store_stirs := ⟨m_Store_stirs, i_Store_stirs, k_Store_stirs⟩,
    a_Store_grain := a_Store_grain,
    d_Store_grain := _,
    F_Store_grain := fun_mk (st := s_Store_grain) l_Store_grain h_Store_grain k_Store_grain,
    M_Store_grain := ⟨m_Store_grain, i_Store_grain, k_Store_grain⟩,
    a_Store_fade := a_Store_fade,
    d_Store_fade := _,
    F_Store_fade := fun_mk (st := s_Store_fade) l_Store_fade h_Store_fade k_Store_fade,
    M_Store_fade := ⟨m_Store_fade, i_Store_fade, k_Store_fade⟩,
    a_Store_there := a_Store_there,
    d_Store_there := _,
    F_Store_there := fun_mk (st := s_Store_there) l_Store_there h_Store_there k_Store_there,
    M_Store_there := ⟨m_Store_there, i_Store_there, k_Store_there⟩,
    a_Store_thing := a_Store_thing,
    d_Store_thing := _,
    F_Store_thing := fun_mk (st := s_Store_thing) l_Store_thing h_Store_thing k_Store_thing,
    M_Store_thing := ⟨m_Store_thing, i_Store_thing, k_Store_thing⟩,
    a_Store_wane_of := a_Store_wane_of,
    d_Store_wane_of := _,
    F_Store_wane_of := fun_mk (st := s_Store_wane_of) l_Store_wane_of h_Store_wane_of k_Store_wane_of,
    M_Store_wane_of := ⟨m_Store_wane_of, i_Store_wane_of, k_Store_wane_of⟩,
    a_Store_total := a_Store_total,
    d_Store_total := _,
    F_Store_total := fun_mk (st := s_Store_total) l_Store_total h_Store_total k_Store_total,
    M_Store_total := ⟨m_Store_total, i_Store_total, k_Store_total⟩,
    a_Store_trace := a_Store_trace,
    d_Store_trace := _,
    F_Store_trace := fun_mk (st := s_Store_trace) l_Store_trace h_Store_trace k_Store_trace,
    M_Store_trace := ⟨m_Store_trace, i_Store_trace, k_Store_trace⟩,
    a_Store_askers := a_Store_askers,
    d_Store_askers := _,
    F_Store_askers := fun_mk (st := s_Store_askers) l_Store_askers h_Store_askers k_Store_askers,
    M_Store_askers := ⟨m_Store_askers, i_Store_askers, k_Store_askers⟩,
    a_Store_mender := a_Store_mender,
    d_Store_mender := _,
    F_Store_mender := fun_mk (st := s_Store_mender) l_Store_mender h_Store_mender k_Store_mender,
    M_Store_mender := ⟨m_Store_mender, i_Store_mender, k_Store_mender⟩,
    a_Store_state := a_Store_state,
    d_Store_state := _,
    F_Store_state := fun_mk (st := s_Store_state) l_Store_state h_Store_state k_Store_state,
    M_Store_state := ⟨m_Store_state, i_Store_state, k_Store_state⟩,
    a_Store_story := a_Store_story,
    d_Store_story := _,
    F_Store_story := fun_mk (st := s_Store_story) l_Store_story h_Store_story k_Store_story,
    M_Store_story := ⟨m_Store_story, i_Store_story, k_Store_story⟩,
    a_Store_copied := a_Store_copied,
    d_Store_copied := _,
    F_Store_copied := fun_mk (st := s_Store_copied) l_Store_copied h_Store_copied k_Store_copied,
    M_Store_copied := ⟨m_Store_copied, i_Store_copied, k_Store_copied⟩,
    a_Store__refuse_gone := a_Store__refuse_gone,
    d_Store__refuse_gone := _,
    F_Store__refuse_gone := fun_mk (st := s_Store__refuse_gone) l_Store__refuse_gone h_Store__refuse_gone k_Store__refuse_gone,
    M_Store__refuse_gone := ⟨m_Store__refuse_gone, i_Store__refuse_gone, k_Store__refuse_gone⟩,
    a_put_fits := a_put_fits,
    d_put_fits := _,
    m_put_fits := PySem.W.mg_of X G m_put_fits,
    F_put_fits := fun_mk (st := s_put_fits) l_put_fits h_put_fits k_put_fits,
    a_are_rooms := a_are_rooms,
    d_are_rooms := _,
    m_are_rooms := PySem.W.mg_of X G m_are_rooms,
    F_are_rooms := fun_mk (st := s_are_rooms) l_are_rooms h_are_rooms k_are_rooms,
    a_are_stirs := a_are_stirs,
    d_are_stirs := _,
    m_are_stirs := PySem.W.mg_of X G m_are_stirs,
    F_are_stirs := fun_mk (st := s_are_stirs) l_are_stirs h_are_stirs k_are_stirs,
    a__law_bag := a__law_bag,
    d__law_bag := _,
    m__law_bag := PySem.W.mg_of X G m__law_bag,
    F__law_bag := fun_mk (st := s__law_bag) l__law_bag h__law_bag k__law_bag,
    a__law_take := a__law_take,
    d__law_take := _,
    m__law_take := PySem.W.mg_of X G m__law_take,
    F__law_take := fun_mk (st := s__law_take) l__law_take h__law_take k__law_take,
    a__law_names := a__law_names,
    d__law_names := _,
    m__law_names := PySem.W.mg_of X G m__law_names,
    F__law_names := fun_mk (st := s__law_names) l__law_names h__law_names k__law_names,
    a__law_stirs := a__law_stirs,
    d__law_stirs := _,
    m__law_stirs := PySem.W.mg_of X G m__law_stirs,
    F__law_stirs := fun_mk (st := s__law_stirs) l__law_stirs h__law_stirs k__law_stirs,
    a__law_rooms := a__law_rooms,
    d__law_rooms := _,
    m__law_rooms := PySem.W.mg_of X G m__law_rooms,
    F__law_rooms := fun_mk (st := s__law_rooms) l__law_rooms h__law_rooms k__law_rooms,
    a__law_alike := a__law_alike,
    d__law_alike := _,
    m__law_alike := PySem.W.mg_of X G m__law_alike,
    F__law_alike := fun_mk (st := s__law_alike) l__law_alike h__law_alike k__law_alike,
    a__law_made := a__law_made,
    d__law_made := _,
    m__law_made := PySem.W.mg_of X G m__law_made,
    F__law_made := fun_mk (st := s__law_made) l__law_made h__law_made k__law_made,
    a__law_right := a__law_right,
    d__law_right := _,
    m__law_right := PySem.W.mg_of X G m__law_right,
    F__law_right := fun_mk (st := s__law_right) l__law_right h__law_right k__law_right,
    a__law_refused := a__law_refused,
    d__law_refused := _,
    m__law_refused := PySem.W.mg_of X G m__law_refused,
    F__law_refused := fun_mk (st := s__law_refused) l__law_refused h__law_refused k__law_refused,
    a__law_spoilt := a__law_spoilt,
    d__law_spoilt := _,
    m__law_spoilt := PySem.W.mg_of X G m__law_spoilt,
    F__law_spoilt := fun_mk (st := s__law_spoilt) l__law_spoilt h__law_spoilt k__law_spoilt,
    a__law_case := a__law_case,
    d__law_case := _,
    m__law_case := PySem.W.mg_of X G m__law_case,
    F__law_case := fun_mk (st := s__law_case) l__law_case h__law_case k__law_case,
    a__law_store := a__law_store,
    d__law_store := _,
    m__law_store := PySem.W.mg_of X G m__law_store,
    F__law_store := fun_mk (st := s__law_store) l__law_store h__law_store k__law_store,
    a_law := a_law,
    d_law := _,
    m_law := PySem.W.mg_of X G m_law,
    F_law := fun_mk (st := s_law) l_law h_law k_law,
    su_WaneError_Wrong := su_WaneError_Wrong,
    su_WaneError_TooMany := su_WaneError_TooMany,
    su_WaneError_There := su_WaneError_There,
    su_WaneError_Gone := su_WaneError_Gone,
    ei_WaneError := ei_WaneError,
    su_Wrong_WaneError := su_Wrong_WaneError,
    su_Wrong_TooMany := su_Wrong_TooMany,
    su_Wrong_There := su_Wrong_There,
    su_Wrong_Gone := su_Wrong_Gone,
    oi_Wrong := m_Wrong___init__,
    ot_Wrong := ot_Wrong,
    nf_Wrong := nf_Wrong,
    su_TooMany_WaneError := su_TooMany_WaneError,
    su_TooMany_Wrong := su_TooMany_Wrong,
    su_TooMany_There := su_TooMany_There,
    su_TooMany_Gone := su_TooMany_Gone,
    oi_TooMany := m_TooMany___init__,
    ot_TooMany := ot_TooMany,
    nf_TooMany := nf_TooMany,
    su_There_WaneError := su_There_WaneError,
    su_There_Wrong := su_There_Wrong,
    su_There_TooMany := su_There_TooMany,
    su_There_Gone := su_There_Gone,
    oi_There := m_There___init__,
    ot_There := ot_There,
    nf_There := nf_There,
    su_Gone_WaneError := su_Gone_WaneError,
    su_Gone_Wrong := su_Gone_Wrong,
    su_Gone_TooMany := su_Gone_TooMany,
    su_Gone_There := su_Gone_There,
    oi_Gone := m_Gone___init__,
    ot_Gone := ot_Gone,
    nf_Gone := nf_Gone }
  exact ⟨_, fun s v => .of_eq rfl, fun base _ _ => ok_law W⟩
end Pf
open PySem PySem.W PyProof.Rows
set_option maxRecDepth 100000 in
set_option maxHeartbeats 0 in
theorem PySem.Challenge.cw_wanehold_k40_stores_made_holds : PySem.Challenge.rw_wanehold_k40_stores_made.Holds := by
  w_on; o_law; k_head; (case hw => w_witness2)
  k_fill
  first
  | refine Vf.walk_ofG (l := PySem.Challenge.rw_wanehold_k40_stores_made) (n := 63) (k := 9) (x := "_law_script") (sp := Pf.sp_law) rfl (by decide) rfl ⟨rfl, by decide, by decide⟩ (fun w h Y => PySem.W.kIn_of Y) (fun _ _ a ns hl hS => ⟨a, ns, rfl, hS, hl, fun _ => rfl⟩) ?F
  | refine Vf.walk_ofG (l := PySem.Challenge.rw_wanehold_k40_stores_made) (n := 63) (k := 9) (x := "_law_script") (sp := Pf.sp_law) rfl (by decide) rfl ⟨rfl, by decide, by decide⟩ (fun w h Y => PySem.W.km_in_of Y) (fun _ _ a ns hl hS => ⟨a, ns, rfl, hS, hl, fun _ => rfl⟩) ?F
  case F =>
    intro w mg fa h KX G hmg
    refine' Pf.all_mk KX G hmg ?n_ValueError ?n_abs ?n_all ?n_bool ?n_dict ?n_enumerate ?n_int ?n_isinstance ?n_len ?n_list ?n_max ?n_min ?n_range ?n_repr ?n_sorted ?n_str ?n_sum ?n_tuple ?c_ANEW ?c_BAR ?c_BILLION ?c_CROWDED ?c_DAY ?c_FADED ?c_LETTERS ?c_MOST_BY ?c_MOST_HEAD ?c_MOST_LETTERS ?c_MOST_MOMENT ?c_MOST_ROOM ?c_MOST_ROOMS ?c_MOST_SORT ?c_MOST_THINGS ?c_MOVED ?c_PRESSED ?c_PUT ?c_SORTS ?c_TAILS ?l_TAILS ?c_TAKEN ?c_WaneError ?xl_WaneError ?xs_WaneError ?xe_WaneError ?xt_WaneError ?xk_WaneError ?xa_WaneError ?xg_WaneError ?xh_WaneError ?xc_WaneError ?xn_WaneError ?xo_WaneError ?xm_WaneError ?xx_WaneError ?xv_WaneError ?c_Wrong ?xl_Wrong ?xs_Wrong ?xe_Wrong ?xt_Wrong ?xk_Wrong ?xa_Wrong ?xg_Wrong ?xh_Wrong ?xc_Wrong ?xn_Wrong ?xo_Wrong ?xm_Wrong ?xx_Wrong ?xv_Wrong ?c_TooMany ?xl_TooMany ?xs_TooMany ?xe_TooMany ?xt_TooMany ?xk_TooMany ?xa_TooMany ?xg_TooMany ?xh_TooMany ?xc_TooMany ?xn_TooMany ?xo_TooMany ?xm_TooMany ?xx_TooMany ?xv_TooMany ?c_There ?xl_There ?xs_There ?xe_There ?xt_There ?xk_There ?xa_There ?xg_There ?xh_There ?xc_There ?xn_There ?xo_There ?xm_There ?xx_There ?xv_There ?c_Gone ?xl_Gone ?xs_Gone ?xe_Gone ?xt_Gone ?xk_Gone ?xa_Gone ?xg_Gone ?xh_Gone ?xc_Gone ?xn_Gone ?xo_Gone ?xm_Gone ?xx_Gone ?xv_Gone ?c_Wane ?pg_Wane ?hd_Wane ?po_Wane ?sa_Wane ?ic1_Wane ?ic2_Wane ?ic3_Wane ?ic4_Wane ?ty_Wane ?na_Wane__anew ?na_Wane__cap ?na_Wane__head ?na_Wane__lift ?na_Wane__steps ?na_Wane__tail ?c_Story ?pg_Story ?hd_Story ?po_Story ?sa_Story ?ic1_Story ?ic2_Story ?ic3_Story ?ic4_Story ?ty_Story ?na_Story_length ?na_Story_shared ?c_Thing ?pg_Thing ?hd_Thing ?po_Thing ?sa_Thing ?ic1_Thing ?ic2_Thing ?ic3_Thing ?ic4_Thing ?ty_Thing ?na_Thing_asked ?na_Thing_group ?na_Thing_name ?na_Thing_room ?na_Thing_since ?na_Thing_strength ?na_Thing_wane ?c_Shelf ?pg_Shelf ?hd_Shelf ?po_Shelf ?sa_Shelf ?ic1_Shelf ?ic2_Shelf ?ic3_Shelf ?ic4_Shelf ?ty_Shelf ?na_Shelf_hired ?na_Shelf_limits ?na_Shelf_mark ?na_Shelf_moment ?na_Shelf_per_asking ?na_Shelf_per_turn ?na_Shelf_plans ?na_Shelf_rows ?na_Shelf_shifts ?na_Shelf_things ?na_Shelf_traces ?c_Store ?pg_Store ?hd_Store ?po_Store ?sa_Store ?ic1_Store ?ic2_Store ?ic3_Store ?ic4_Store ?ty_Store ?na_Store_shelf ?m__wall ?l__wall ?h__wall ?k__wall ?m_Wrong___init__ ?l_Wrong___init__ ?h_Wrong___init__ ?k_Wrong___init__ ?m_TooMany___init__ ?l_TooMany___init__ ?h_TooMany___init__ ?k_TooMany___init__ ?m_There___init__ ?l_There___init__ ?h_There___init__ ?k_There___init__ ?m_Gone___init__ ?l_Gone___init__ ?h_Gone___init__ ?k_Gone___init__ ?m_refuse_wrong ?l_refuse_wrong ?h_refuse_wrong ?k_refuse_wrong ?m_is_whole ?l_is_whole ?h_is_whole ?k_is_whole ?m_is_within ?l_is_within ?h_is_within ?k_is_within ?m_is_name ?l_is_name ?h_is_name ?k_is_name ?m_is_sort ?l_is_sort ?h_is_sort ?k_is_sort ?m_is_strength ?l_is_strength ?h_is_strength ?k_is_strength ?m_is_size ?l_is_size ?h_is_size ?k_is_size ?m_is_shift ?l_is_shift ?h_is_shift ?k_is_shift ?m_is_room ?l_is_room ?h_is_room ?k_is_room ?m_is_moment ?l_is_moment ?h_is_moment ?k_is_moment ?m_is_step ?l_is_step ?h_is_step ?k_is_step ?m_hour_of ?l_hour_of ?h_hour_of ?k_hour_of ?m_Wane___init__ ?l_Wane___init__ ?h_Wane___init__ ?k_Wane___init__ ?kw_Wane___init___anew ?i_Wane___init__ ?mk_Wane ?kc_Wane ?m_Wane_head ?l_Wane_head ?h_Wane_head ?k_Wane_head ?i_Wane_head ?m_Wane_tail ?l_Wane_tail ?h_Wane_tail ?k_Wane_tail ?i_Wane_tail ?m_Wane_cap ?l_Wane_cap ?h_Wane_cap ?k_Wane_cap ?i_Wane_cap ?m_Wane_lift ?l_Wane_lift ?h_Wane_lift ?k_Wane_lift ?i_Wane_lift ?m_Wane_is_anew ?l_Wane_is_anew ?h_Wane_is_anew ?k_Wane_is_anew ?i_Wane_is_anew ?m_Wane_step ?l_Wane_step ?h_Wane_step ?k_Wane_step ?i_Wane_step ?m_Wane_phase ?l_Wane_phase ?h_Wane_phase ?k_Wane_phase ?i_Wane_phase ?m_Wane_text ?l_Wane_text ?h_Wane_text ?k_Wane_text ?i_Wane_text ?m_Wane_step_behind ?l_Wane_step_behind ?h_Wane_step_behind ?k_Wane_step_behind ?i_Wane_step_behind ?m_Wane_phase_behind ?l_Wane_phase_behind ?h_Wane_phase_behind ?k_Wane_phase_behind ?i_Wane_phase_behind ?m_is_wane ?l_is_wane ?h_is_wane ?k_is_wane ?m_is_level ?l_is_level ?h_is_level ?k_is_level ?m__is_head ?l__is_head ?h__is_head ?k__is_head ?m__is_tail ?l__is_tail ?h__is_tail ?k__is_tail ?m__are_steps ?l__are_steps ?h__are_steps ?k__are_steps ?m__step_word ?l__step_word ?h__step_word ?k__step_word ?m_behind_turn ?l_behind_turn ?h_behind_turn ?k_behind_turn ?m_behind_asking ?l_behind_asking ?h_behind_asking ?k_behind_asking ?m_Story___init__ ?l_Story___init__ ?h_Story___init__ ?k_Story___init__ ?i_Story___init__ ?mk_Story ?kc_Story ?m_Story_doubled ?l_Story_doubled ?h_Story_doubled ?k_Story_doubled ?i_Story_doubled ?m_Story_write ?l_Story_write ?h_Story_write ?k_Story_write ?i_Story_write ?m_Story_listed ?l_Story_listed ?h_Story_listed ?k_Story_listed ?i_Story_listed ?m_Thing___init__ ?l_Thing___init__ ?h_Thing___init__ ?k_Thing___init__ ?i_Thing___init__ ?mk_Thing ?kc_Thing ?m_Thing_doubled ?l_Thing_doubled ?h_Thing_doubled ?k_Thing_doubled ?i_Thing_doubled ?m_Thing_phase ?l_Thing_phase ?h_Thing_phase ?k_Thing_phase ?i_Thing_phase ?m_Shelf___init__ ?l_Shelf___init__ ?h_Shelf___init__ ?k_Shelf___init__ ?i_Shelf___init__ ?mk_Shelf ?kc_Shelf ?m_Shelf_doubled ?l_Shelf_doubled ?h_Shelf_doubled ?k_Shelf_doubled ?i_Shelf_doubled ?m_Shelf_by_names ?l_Shelf_by_names ?h_Shelf_by_names ?k_Shelf_by_names ?i_Shelf_by_names ?m_Shelf_in_room ?l_Shelf_in_room ?h_Shelf_in_room ?k_Shelf_in_room ?i_Shelf_in_room ?m_Shelf_sum_in ?l_Shelf_sum_in ?h_Shelf_sum_in ?k_Shelf_sum_in ?i_Shelf_sum_in ?m_Shelf_states ?l_Shelf_states ?h_Shelf_states ?k_Shelf_states ?i_Shelf_states ?m_Shelf_trace_of ?l_Shelf_trace_of ?h_Shelf_trace_of ?k_Shelf_trace_of ?i_Shelf_trace_of ?m_Shelf_add_row ?l_Shelf_add_row ?h_Shelf_add_row ?k_Shelf_add_row ?i_Shelf_add_row ?m_Shelf_put_in ?l_Shelf_put_in ?h_Shelf_put_in ?k_Shelf_put_in ?i_Shelf_put_in ?m_Shelf_take_out ?l_Shelf_take_out ?h_Shelf_take_out ?k_Shelf_take_out ?i_Shelf_take_out ?m_Shelf_lose ?l_Shelf_lose ?h_Shelf_lose ?k_Shelf_lose ?i_Shelf_lose ?m_Shelf_ask_for ?l_Shelf_ask_for ?h_Shelf_ask_for ?k_Shelf_ask_for ?i_Shelf_ask_for ?m_Shelf_stir_beside ?l_Shelf_stir_beside ?h_Shelf_stir_beside ?k_Shelf_stir_beside ?i_Shelf_stir_beside ?m_Shelf_crowd ?l_Shelf_crowd ?h_Shelf_crowd ?k_Shelf_crowd ?i_Shelf_crowd ?m_Shelf_move_on ?l_Shelf_move_on ?h_Shelf_move_on ?k_Shelf_move_on ?i_Shelf_move_on ?m_Shelf_turn ?l_Shelf_turn ?h_Shelf_turn ?k_Shelf_turn ?i_Shelf_turn ?m_Shelf_wane_all ?l_Shelf_wane_all ?h_Shelf_wane_all ?k_Shelf_wane_all ?i_Shelf_wane_all ?m_Shelf_ask_for_weak ?l_Shelf_ask_for_weak ?h_Shelf_ask_for_weak ?k_Shelf_ask_for_weak ?i_Shelf_ask_for_weak ?m_Shelf_turns ?l_Shelf_turns ?h_Shelf_turns ?k_Shelf_turns ?i_Shelf_turns ?m_weakest ?l_weakest ?h_weakest ?k_weakest ?m_Store___init__ ?l_Store___init__ ?h_Store___init__ ?k_Store___init__ ?kw_Store___init___stirs ?kw_Store___init___grain ?kw_Store___init___fade ?i_Store___init__ ?mk_Store ?kc_Store ?m_Store_put ?l_Store_put ?h_Store_put ?k_Store_put ?i_Store_put ?m_Store_ask ?l_Store_ask ?h_Store_ask ?k_Store_ask ?i_Store_ask ?m_Store_take ?l_Store_take ?h_Store_take ?k_Store_take ?i_Store_take ?m_Store_mend ?l_Store_mend ?h_Store_mend ?k_Store_mend ?i_Store_mend ?m_Store_pass_on ?l_Store_pass_on ?h_Store_pass_on ?k_Store_pass_on ?i_Store_pass_on ?m_Store_hire ?l_Store_hire ?h_Store_hire ?k_Store_hire ?i_Store_hire ?m_Store_dismiss ?l_Store_dismiss ?h_Store_dismiss ?k_Store_dismiss ?i_Store_dismiss ?m_Store_now ?l_Store_now ?h_Store_now ?k_Store_now ?i_Store_now ?m_Store_rooms ?l_Store_rooms ?h_Store_rooms ?k_Store_rooms ?i_Store_rooms ?m_Store_stirs ?l_Store_stirs ?h_Store_stirs ?k_Store_stirs ?i_Store_stirs ?m_Store_grain ?l_Store_grain ?h_Store_grain ?k_Store_grain ?i_Store_grain ?m_Store_fade ?l_Store_fade ?h_Store_fade ?k_Store_fade ?i_Store_fade ?m_Store_there ?l_Store_there ?h_Store_there ?k_Store_there ?i_Store_there ?m_Store_thing ?l_Store_thing ?h_Store_thing ?k_Store_thing ?i_Store_thing ?m_Store_wane_of ?l_Store_wane_of ?h_Store_wane_of ?k_Store_wane_of ?i_Store_wane_of ?m_Store_total ?l_Store_total ?h_Store_total ?k_Store_total ?i_Store_total ?m_Store_trace ?l_Store_trace ?h_Store_trace ?k_Store_trace ?i_Store_trace ?m_Store_askers ?l_Store_askers ?h_Store_askers ?k_Store_askers ?i_Store_askers ?m_Store_mender ?l_Store_mender ?h_Store_mender ?k_Store_mender ?i_Store_mender ?m_Store_state ?l_Store_state ?h_Store_state ?k_Store_state ?i_Store_state ?m_Store_story ?l_Store_story ?h_Store_story ?k_Store_story ?i_Store_story ?m_Store_copied ?l_Store_copied ?h_Store_copied ?k_Store_copied ?i_Store_copied ?m_Store__refuse_gone ?l_Store__refuse_gone ?h_Store__refuse_gone ?k_Store__refuse_gone ?i_Store__refuse_gone ?m_put_fits ?l_put_fits ?h_put_fits ?k_put_fits ?m_are_rooms ?l_are_rooms ?h_are_rooms ?k_are_rooms ?m_are_stirs ?l_are_stirs ?h_are_stirs ?k_are_stirs ?m__law_bag ?l__law_bag ?h__law_bag ?k__law_bag ?m__law_take ?l__law_take ?h__law_take ?k__law_take ?m__law_names ?l__law_names ?h__law_names ?k__law_names ?m__law_stirs ?l__law_stirs ?h__law_stirs ?k__law_stirs ?m__law_rooms ?l__law_rooms ?h__law_rooms ?k__law_rooms ?m__law_alike ?l__law_alike ?h__law_alike ?k__law_alike ?m__law_made ?l__law_made ?h__law_made ?k__law_made ?m__law_right ?l__law_right ?h__law_right ?k__law_right ?m__law_refused ?l__law_refused ?h__law_refused ?k__law_refused ?m__law_spoilt ?l__law_spoilt ?h__law_spoilt ?k__law_spoilt ?m__law_case ?l__law_case ?h__law_case ?k__law_case ?m__law_store ?l__law_store ?h__law_store ?k__law_store ?m_law ?l_law ?h_law ?k_law ?su_WaneError_Wrong ?su_WaneError_TooMany ?su_WaneError_There ?su_WaneError_Gone ?ei_WaneError ?su_Wrong_WaneError ?su_Wrong_TooMany ?su_Wrong_There ?su_Wrong_Gone ?ot_Wrong ?nf_Wrong ?su_TooMany_WaneError ?su_TooMany_Wrong ?su_TooMany_There ?su_TooMany_Gone ?ot_TooMany ?nf_TooMany ?su_There_WaneError ?su_There_Wrong ?su_There_TooMany ?su_There_Gone ?ot_There ?nf_There ?su_Gone_WaneError ?su_Gone_Wrong ?su_Gone_TooMany ?su_Gone_There ?ot_Gone ?nf_Gone
    (case n_ValueError => k_is)
    (case n_abs => k_is)
    (case n_all => k_is)
    (case n_bool => k_is)
    (case n_dict => k_is)
    (case n_enumerate => k_is)
    (case n_int => k_is)
    (case n_isinstance => k_is)
    (case n_len => k_is)
    (case n_list => k_is)
    (case n_max => k_is)
    (case n_min => k_is)
    (case n_range => k_is)
    (case n_repr => k_is)
    (case n_sorted => k_is)
    (case n_str => k_is)
    (case n_sum => k_is)
    (case n_tuple => k_is)
    (case c_ANEW => k_is)
    (case c_BAR => k_is)
    (case c_BILLION => k_is)
    (case c_CROWDED => k_is)
    (case c_DAY => k_is)
    (case c_FADED => k_is)
    (case c_LETTERS => k_is)
    (case c_MOST_BY => k_is)
    (case c_MOST_HEAD => k_is)
    (case c_MOST_LETTERS => k_is)
    (case c_MOST_MOMENT => k_is)
    (case c_MOST_ROOM => k_is)
    (case c_MOST_ROOMS => k_is)
    (case c_MOST_SORT => k_is)
    (case c_MOST_THINGS => k_is)
    (case c_MOVED => k_is)
    (case c_PRESSED => k_is)
    (case c_PUT => k_is)
    (case c_SORTS => k_is)
    (case c_TAILS => k_is)
    (case l_TAILS => k_is)
    (case c_TAKEN => k_is)
    (case c_WaneError => k_is)
    (case xl_WaneError => k_is)
    (case xs_WaneError => k_is)
    (case xe_WaneError => k_is)
    (case xt_WaneError => k_is)
    (case xk_WaneError => k_is)
    (case xa_WaneError => k_is)
    (case xg_WaneError => k_is)
    (case xh_WaneError => k_is)
    (case xc_WaneError => k_is)
    (case xn_WaneError => k_is)
    (case xo_WaneError => k_is)
    (case xm_WaneError => k_is)
    (case xx_WaneError => k_is)
    (case xv_WaneError => k_is)
    (case c_Wrong => k_is)
    (case xl_Wrong => k_is)
    (case xs_Wrong => k_is)
    (case xe_Wrong => k_is)
    (case xt_Wrong => k_is)
    (case xk_Wrong => k_is)
    (case xa_Wrong => k_is)
    (case xg_Wrong => k_is)
    (case xh_Wrong => k_is)
    (case xc_Wrong => k_is)
    (case xn_Wrong => k_is)
    (case xo_Wrong => k_is)
    (case xm_Wrong => k_is)
    (case xx_Wrong => k_is)
    (case xv_Wrong => k_is)
    (case c_TooMany => k_is)
    (case xl_TooMany => k_is)
    (case xs_TooMany => k_is)
    (case xe_TooMany => k_is)
    (case xt_TooMany => k_is)
    (case xk_TooMany => k_is)
    (case xa_TooMany => k_is)
    (case xg_TooMany => k_is)
    (case xh_TooMany => k_is)
    (case xc_TooMany => k_is)
    (case xn_TooMany => k_is)
    (case xo_TooMany => k_is)
    (case xm_TooMany => k_is)
    (case xx_TooMany => k_is)
    (case xv_TooMany => k_is)
    (case c_There => k_is)
    (case xl_There => k_is)
    (case xs_There => k_is)
    (case xe_There => k_is)
    (case xt_There => k_is)
    (case xk_There => k_is)
    (case xa_There => k_is)
    (case xg_There => k_is)
    (case xh_There => k_is)
    (case xc_There => k_is)
    (case xn_There => k_is)
    (case xo_There => k_is)
    (case xm_There => k_is)
    (case xx_There => k_is)
    (case xv_There => k_is)
    (case c_Gone => k_is)
    (case xl_Gone => k_is)
    (case xs_Gone => k_is)
    (case xe_Gone => k_is)
    (case xt_Gone => k_is)
    (case xk_Gone => k_is)
    (case xa_Gone => k_is)
    (case xg_Gone => k_is)
    (case xh_Gone => k_is)
    (case xc_Gone => k_is)
    (case xn_Gone => k_is)
    (case xo_Gone => k_is)
    (case xm_Gone => k_is)
    (case xx_Gone => k_is)
    (case xv_Gone => k_is)
    (case c_Wane => k_is)
    (case pg_Wane => k_is)
    (case hd_Wane => k_is)
    (case po_Wane => k_is)
    (case sa_Wane => k_is)
    (case ic1_Wane => k_is)
    (case ic2_Wane => k_is)
    (case ic3_Wane => k_is)
    (case ic4_Wane => k_is)
    (case ty_Wane => k_is)
    (case na_Wane__anew => k_is)
    (case na_Wane__cap => k_is)
    (case na_Wane__head => k_is)
    (case na_Wane__lift => k_is)
    (case na_Wane__steps => k_is)
    (case na_Wane__tail => k_is)
    (case c_Story => k_is)
    (case pg_Story => k_is)
    (case hd_Story => k_is)
    (case po_Story => k_is)
    (case sa_Story => k_is)
    (case ic1_Story => k_is)
    (case ic2_Story => k_is)
    (case ic3_Story => k_is)
    (case ic4_Story => k_is)
    (case ty_Story => k_is)
    (case na_Story_length => k_is)
    (case na_Story_shared => k_is)
    (case c_Thing => k_is)
    (case pg_Thing => k_is)
    (case hd_Thing => k_is)
    (case po_Thing => k_is)
    (case sa_Thing => k_is)
    (case ic1_Thing => k_is)
    (case ic2_Thing => k_is)
    (case ic3_Thing => k_is)
    (case ic4_Thing => k_is)
    (case ty_Thing => k_is)
    (case na_Thing_asked => k_is)
    (case na_Thing_group => k_is)
    (case na_Thing_name => k_is)
    (case na_Thing_room => k_is)
    (case na_Thing_since => k_is)
    (case na_Thing_strength => k_is)
    (case na_Thing_wane => k_is)
    (case c_Shelf => k_is)
    (case pg_Shelf => k_is)
    (case hd_Shelf => k_is)
    (case po_Shelf => k_is)
    (case sa_Shelf => k_is)
    (case ic1_Shelf => k_is)
    (case ic2_Shelf => k_is)
    (case ic3_Shelf => k_is)
    (case ic4_Shelf => k_is)
    (case ty_Shelf => k_is)
    (case na_Shelf_hired => k_is)
    (case na_Shelf_limits => k_is)
    (case na_Shelf_mark => k_is)
    (case na_Shelf_moment => k_is)
    (case na_Shelf_per_asking => k_is)
    (case na_Shelf_per_turn => k_is)
    (case na_Shelf_plans => k_is)
    (case na_Shelf_rows => k_is)
    (case na_Shelf_shifts => k_is)
    (case na_Shelf_things => k_is)
    (case na_Shelf_traces => k_is)
    (case c_Store => k_is)
    (case pg_Store => k_is)
    (case hd_Store => k_is)
    (case po_Store => k_is)
    (case sa_Store => k_is)
    (case ic1_Store => k_is)
    (case ic2_Store => k_is)
    (case ic3_Store => k_is)
    (case ic4_Store => k_is)
    (case ty_Store => k_is)
    (case na_Store_shelf => k_is)
    (case m__wall => k_is)
    (case l__wall => k_is)
    (case h__wall => k_is)
    (case k__wall => k_is)
    (case m_Wrong___init__ => k_is)
    (case l_Wrong___init__ => k_is)
    (case h_Wrong___init__ => k_is)
    (case k_Wrong___init__ => k_is)
    (case m_TooMany___init__ => k_is)
    (case l_TooMany___init__ => k_is)
    (case h_TooMany___init__ => k_is)
    (case k_TooMany___init__ => k_is)
    (case m_There___init__ => k_is)
    (case l_There___init__ => k_is)
    (case h_There___init__ => k_is)
    (case k_There___init__ => k_is)
    (case m_Gone___init__ => k_is)
    (case l_Gone___init__ => k_is)
    (case h_Gone___init__ => k_is)
    (case k_Gone___init__ => k_is)
    (case m_refuse_wrong => k_is)
    (case l_refuse_wrong => k_is)
    (case h_refuse_wrong => k_is)
    (case k_refuse_wrong => k_is)
    (case m_is_whole => k_is)
    (case l_is_whole => k_is)
    (case h_is_whole => k_is)
    (case k_is_whole => k_is)
    (case m_is_within => k_is)
    (case l_is_within => k_is)
    (case h_is_within => k_is)
    (case k_is_within => k_is)
    (case m_is_name => k_is)
    (case l_is_name => k_is)
    (case h_is_name => k_is)
    (case k_is_name => k_is)
    (case m_is_sort => k_is)
    (case l_is_sort => k_is)
    (case h_is_sort => k_is)
    (case k_is_sort => k_is)
    (case m_is_strength => k_is)
    (case l_is_strength => k_is)
    (case h_is_strength => k_is)
    (case k_is_strength => k_is)
    (case m_is_size => k_is)
    (case l_is_size => k_is)
    (case h_is_size => k_is)
    (case k_is_size => k_is)
    (case m_is_shift => k_is)
    (case l_is_shift => k_is)
    (case h_is_shift => k_is)
    (case k_is_shift => k_is)
    (case m_is_room => k_is)
    (case l_is_room => k_is)
    (case h_is_room => k_is)
    (case k_is_room => k_is)
    (case m_is_moment => k_is)
    (case l_is_moment => k_is)
    (case h_is_moment => k_is)
    (case k_is_moment => k_is)
    (case m_is_step => k_is)
    (case l_is_step => k_is)
    (case h_is_step => k_is)
    (case k_is_step => k_is)
    (case m_hour_of => k_is)
    (case l_hour_of => k_is)
    (case h_hour_of => k_is)
    (case k_hour_of => k_is)
    (case m_Wane___init__ => k_is)
    (case l_Wane___init__ => k_is)
    (case h_Wane___init__ => k_is)
    (case k_Wane___init__ => k_is)
    (case kw_Wane___init___anew => k_is)
    (case i_Wane___init__ => k_is)
    (case mk_Wane => k_is)
    (case kc_Wane => k_is)
    (case m_Wane_head => k_is)
    (case l_Wane_head => k_is)
    (case h_Wane_head => k_is)
    (case k_Wane_head => k_is)
    (case i_Wane_head => k_is)
    (case m_Wane_tail => k_is)
    (case l_Wane_tail => k_is)
    (case h_Wane_tail => k_is)
    (case k_Wane_tail => k_is)
    (case i_Wane_tail => k_is)
    (case m_Wane_cap => k_is)
    (case l_Wane_cap => k_is)
    (case h_Wane_cap => k_is)
    (case k_Wane_cap => k_is)
    (case i_Wane_cap => k_is)
    (case m_Wane_lift => k_is)
    (case l_Wane_lift => k_is)
    (case h_Wane_lift => k_is)
    (case k_Wane_lift => k_is)
    (case i_Wane_lift => k_is)
    (case m_Wane_is_anew => k_is)
    (case l_Wane_is_anew => k_is)
    (case h_Wane_is_anew => k_is)
    (case k_Wane_is_anew => k_is)
    (case i_Wane_is_anew => k_is)
    (case m_Wane_step => k_is)
    (case l_Wane_step => k_is)
    (case h_Wane_step => k_is)
    (case k_Wane_step => k_is)
    (case i_Wane_step => k_is)
    (case m_Wane_phase => k_is)
    (case l_Wane_phase => k_is)
    (case h_Wane_phase => k_is)
    (case k_Wane_phase => k_is)
    (case i_Wane_phase => k_is)
    (case m_Wane_text => k_is)
    (case l_Wane_text => k_is)
    (case h_Wane_text => k_is)
    (case k_Wane_text => k_is)
    (case i_Wane_text => k_is)
    (case m_Wane_step_behind => k_is)
    (case l_Wane_step_behind => k_is)
    (case h_Wane_step_behind => k_is)
    (case k_Wane_step_behind => k_is)
    (case i_Wane_step_behind => k_is)
    (case m_Wane_phase_behind => k_is)
    (case l_Wane_phase_behind => k_is)
    (case h_Wane_phase_behind => k_is)
    (case k_Wane_phase_behind => k_is)
    (case i_Wane_phase_behind => k_is)
    (case m_is_wane => k_is)
    (case l_is_wane => k_is)
    (case h_is_wane => k_is)
    (case k_is_wane => k_is)
    (case m_is_level => k_is)
    (case l_is_level => k_is)
    (case h_is_level => k_is)
    (case k_is_level => k_is)
    (case m__is_head => k_is)
    (case l__is_head => k_is)
    (case h__is_head => k_is)
    (case k__is_head => k_is)
    (case m__is_tail => k_is)
    (case l__is_tail => k_is)
    (case h__is_tail => k_is)
    (case k__is_tail => k_is)
    (case m__are_steps => k_is)
    (case l__are_steps => k_is)
    (case h__are_steps => k_is)
    (case k__are_steps => k_is)
    (case m__step_word => k_is)
    (case l__step_word => k_is)
    (case h__step_word => k_is)
    (case k__step_word => k_is)
    (case m_behind_turn => k_is)
    (case l_behind_turn => k_is)
    (case h_behind_turn => k_is)
    (case k_behind_turn => k_is)
    (case m_behind_asking => k_is)
    (case l_behind_asking => k_is)
    (case h_behind_asking => k_is)
    (case k_behind_asking => k_is)
    (case m_Story___init__ => k_is)
    (case l_Story___init__ => k_is)
    (case h_Story___init__ => k_is)
    (case k_Story___init__ => k_is)
    (case i_Story___init__ => k_is)
    (case mk_Story => k_is)
    (case kc_Story => k_is)
    (case m_Story_doubled => k_is)
    (case l_Story_doubled => k_is)
    (case h_Story_doubled => k_is)
    (case k_Story_doubled => k_is)
    (case i_Story_doubled => k_is)
    (case m_Story_write => k_is)
    (case l_Story_write => k_is)
    (case h_Story_write => k_is)
    (case k_Story_write => k_is)
    (case i_Story_write => k_is)
    (case m_Story_listed => k_is)
    (case l_Story_listed => k_is)
    (case h_Story_listed => k_is)
    (case k_Story_listed => k_is)
    (case i_Story_listed => k_is)
    (case m_Thing___init__ => k_is)
    (case l_Thing___init__ => k_is)
    (case h_Thing___init__ => k_is)
    (case k_Thing___init__ => k_is)
    (case i_Thing___init__ => k_is)
    (case mk_Thing => k_is)
    (case kc_Thing => k_is)
    (case m_Thing_doubled => k_is)
    (case l_Thing_doubled => k_is)
    (case h_Thing_doubled => k_is)
    (case k_Thing_doubled => k_is)
    (case i_Thing_doubled => k_is)
    (case m_Thing_phase => k_is)
    (case l_Thing_phase => k_is)
    (case h_Thing_phase => k_is)
    (case k_Thing_phase => k_is)
    (case i_Thing_phase => k_is)
    (case m_Shelf___init__ => k_is)
    (case l_Shelf___init__ => k_is)
    (case h_Shelf___init__ => k_is)
    (case k_Shelf___init__ => k_is)
    (case i_Shelf___init__ => k_is)
    (case mk_Shelf => k_is)
    (case kc_Shelf => k_is)
    (case m_Shelf_doubled => k_is)
    (case l_Shelf_doubled => k_is)
    (case h_Shelf_doubled => k_is)
    (case k_Shelf_doubled => k_is)
    (case i_Shelf_doubled => k_is)
    (case m_Shelf_by_names => k_is)
    (case l_Shelf_by_names => k_is)
    (case h_Shelf_by_names => k_is)
    (case k_Shelf_by_names => k_is)
    (case i_Shelf_by_names => k_is)
    (case m_Shelf_in_room => k_is)
    (case l_Shelf_in_room => k_is)
    (case h_Shelf_in_room => k_is)
    (case k_Shelf_in_room => k_is)
    (case i_Shelf_in_room => k_is)
    (case m_Shelf_sum_in => k_is)
    (case l_Shelf_sum_in => k_is)
    (case h_Shelf_sum_in => k_is)
    (case k_Shelf_sum_in => k_is)
    (case i_Shelf_sum_in => k_is)
    (case m_Shelf_states => k_is)
    (case l_Shelf_states => k_is)
    (case h_Shelf_states => k_is)
    (case k_Shelf_states => k_is)
    (case i_Shelf_states => k_is)
    (case m_Shelf_trace_of => k_is)
    (case l_Shelf_trace_of => k_is)
    (case h_Shelf_trace_of => k_is)
    (case k_Shelf_trace_of => k_is)
    (case i_Shelf_trace_of => k_is)
    (case m_Shelf_add_row => k_is)
    (case l_Shelf_add_row => k_is)
    (case h_Shelf_add_row => k_is)
    (case k_Shelf_add_row => k_is)
    (case i_Shelf_add_row => k_is)
    (case m_Shelf_put_in => k_is)
    (case l_Shelf_put_in => k_is)
    (case h_Shelf_put_in => k_is)
    (case k_Shelf_put_in => k_is)
    (case i_Shelf_put_in => k_is)
    (case m_Shelf_take_out => k_is)
    (case l_Shelf_take_out => k_is)
    (case h_Shelf_take_out => k_is)
    (case k_Shelf_take_out => k_is)
    (case i_Shelf_take_out => k_is)
    (case m_Shelf_lose => k_is)
    (case l_Shelf_lose => k_is)
    (case h_Shelf_lose => k_is)
    (case k_Shelf_lose => k_is)
    (case i_Shelf_lose => k_is)
    (case m_Shelf_ask_for => k_is)
    (case l_Shelf_ask_for => k_is)
    (case h_Shelf_ask_for => k_is)
    (case k_Shelf_ask_for => k_is)
    (case i_Shelf_ask_for => k_is)
    (case m_Shelf_stir_beside => k_is)
    (case l_Shelf_stir_beside => k_is)
    (case h_Shelf_stir_beside => k_is)
    (case k_Shelf_stir_beside => k_is)
    (case i_Shelf_stir_beside => k_is)
    (case m_Shelf_crowd => k_is)
    (case l_Shelf_crowd => k_is)
    (case h_Shelf_crowd => k_is)
    (case k_Shelf_crowd => k_is)
    (case i_Shelf_crowd => k_is)
    (case m_Shelf_move_on => k_is)
    (case l_Shelf_move_on => k_is)
    (case h_Shelf_move_on => k_is)
    (case k_Shelf_move_on => k_is)
    (case i_Shelf_move_on => k_is)
    (case m_Shelf_turn => k_is)
    (case l_Shelf_turn => k_is)
    (case h_Shelf_turn => k_is)
    (case k_Shelf_turn => k_is)
    (case i_Shelf_turn => k_is)
    (case m_Shelf_wane_all => k_is)
    (case l_Shelf_wane_all => k_is)
    (case h_Shelf_wane_all => k_is)
    (case k_Shelf_wane_all => k_is)
    (case i_Shelf_wane_all => k_is)
    (case m_Shelf_ask_for_weak => k_is)
    (case l_Shelf_ask_for_weak => k_is)
    (case h_Shelf_ask_for_weak => k_is)
    (case k_Shelf_ask_for_weak => k_is)
    (case i_Shelf_ask_for_weak => k_is)
    (case m_Shelf_turns => k_is)
    (case l_Shelf_turns => k_is)
    (case h_Shelf_turns => k_is)
    (case k_Shelf_turns => k_is)
    (case i_Shelf_turns => k_is)
    (case m_weakest => k_is)
    (case l_weakest => k_is)
    (case h_weakest => k_is)
    (case k_weakest => k_is)
    (case m_Store___init__ => k_is)
    (case l_Store___init__ => k_is)
    (case h_Store___init__ => k_is)
    (case k_Store___init__ => k_is)
    (case kw_Store___init___stirs => k_is)
    (case kw_Store___init___grain => k_is)
    (case kw_Store___init___fade => k_is)
    (case i_Store___init__ => k_is)
    (case mk_Store => k_is)
    (case kc_Store => k_is)
    (case m_Store_put => k_is)
    (case l_Store_put => k_is)
    (case h_Store_put => k_is)
    (case k_Store_put => k_is)
    (case i_Store_put => k_is)
    (case m_Store_ask => k_is)
    (case l_Store_ask => k_is)
    (case h_Store_ask => k_is)
    (case k_Store_ask => k_is)
    (case i_Store_ask => k_is)
    (case m_Store_take => k_is)
    (case l_Store_take => k_is)
    (case h_Store_take => k_is)
    (case k_Store_take => k_is)
    (case i_Store_take => k_is)
    (case m_Store_mend => k_is)
    (case l_Store_mend => k_is)
    (case h_Store_mend => k_is)
    (case k_Store_mend => k_is)
    (case i_Store_mend => k_is)
    (case m_Store_pass_on => k_is)
    (case l_Store_pass_on => k_is)
    (case h_Store_pass_on => k_is)
    (case k_Store_pass_on => k_is)
    (case i_Store_pass_on => k_is)
    (case m_Store_hire => k_is)
    (case l_Store_hire => k_is)
    (case h_Store_hire => k_is)
    (case k_Store_hire => k_is)
    (case i_Store_hire => k_is)
    (case m_Store_dismiss => k_is)
    (case l_Store_dismiss => k_is)
    (case h_Store_dismiss => k_is)
    (case k_Store_dismiss => k_is)
    (case i_Store_dismiss => k_is)
    (case m_Store_now => k_is)
    (case l_Store_now => k_is)
    (case h_Store_now => k_is)
    (case k_Store_now => k_is)
    (case i_Store_now => k_is)
    (case m_Store_rooms => k_is)
    (case l_Store_rooms => k_is)
    (case h_Store_rooms => k_is)
    (case k_Store_rooms => k_is)
    (case i_Store_rooms => k_is)
    (case m_Store_stirs => k_is)
    (case l_Store_stirs => k_is)
    (case h_Store_stirs => k_is)
    (case k_Store_stirs => k_is)
    (case i_Store_stirs => k_is)
    (case m_Store_grain => k_is)
    (case l_Store_grain => k_is)
    (case h_Store_grain => k_is)
    (case k_Store_grain => k_is)
    (case i_Store_grain => k_is)
    (case m_Store_fade => k_is)
    (case l_Store_fade => k_is)
    (case h_Store_fade => k_is)
    (case k_Store_fade => k_is)
    (case i_Store_fade => k_is)
    (case m_Store_there => k_is)
    (case l_Store_there => k_is)
    (case h_Store_there => k_is)
    (case k_Store_there => k_is)
    (case i_Store_there => k_is)
    (case m_Store_thing => k_is)
    (case l_Store_thing => k_is)
    (case h_Store_thing => k_is)
    (case k_Store_thing => k_is)
    (case i_Store_thing => k_is)
    (case m_Store_wane_of => k_is)
    (case l_Store_wane_of => k_is)
    (case h_Store_wane_of => k_is)
    (case k_Store_wane_of => k_is)
    (case i_Store_wane_of => k_is)
    (case m_Store_total => k_is)
    (case l_Store_total => k_is)
    (case h_Store_total => k_is)
    (case k_Store_total => k_is)
    (case i_Store_total => k_is)
    (case m_Store_trace => k_is)
    (case l_Store_trace => k_is)
    (case h_Store_trace => k_is)
    (case k_Store_trace => k_is)
    (case i_Store_trace => k_is)
    (case m_Store_askers => k_is)
    (case l_Store_askers => k_is)
    (case h_Store_askers => k_is)
    (case k_Store_askers => k_is)
    (case i_Store_askers => k_is)
    (case m_Store_mender => k_is)
    (case l_Store_mender => k_is)
    (case h_Store_mender => k_is)
    (case k_Store_mender => k_is)
    (case i_Store_mender => k_is)
    (case m_Store_state => k_is)
    (case l_Store_state => k_is)
    (case h_Store_state => k_is)
    (case k_Store_state => k_is)
    (case i_Store_state => k_is)
    (case m_Store_story => k_is)
    (case l_Store_story => k_is)
    (case h_Store_story => k_is)
    (case k_Store_story => k_is)
    (case i_Store_story => k_is)
    (case m_Store_copied => k_is)
    (case l_Store_copied => k_is)
    (case h_Store_copied => k_is)
    (case k_Store_copied => k_is)
    (case i_Store_copied => k_is)
    (case m_Store__refuse_gone => k_is)
    (case l_Store__refuse_gone => k_is)
    (case h_Store__refuse_gone => k_is)
    (case k_Store__refuse_gone => k_is)
    (case i_Store__refuse_gone => k_is)
    (case m_put_fits => k_is)
    (case l_put_fits => k_is)
    (case h_put_fits => k_is)
    (case k_put_fits => k_is)
    (case m_are_rooms => k_is)
    (case l_are_rooms => k_is)
    (case h_are_rooms => k_is)
    (case k_are_rooms => k_is)
    (case m_are_stirs => k_is)
    (case l_are_stirs => k_is)
    (case h_are_stirs => k_is)
    (case k_are_stirs => k_is)
    (case m__law_bag => k_is)
    (case l__law_bag => k_is)
    (case h__law_bag => k_is)
    (case k__law_bag => k_is)
    (case m__law_take => k_is)
    (case l__law_take => k_is)
    (case h__law_take => k_is)
    (case k__law_take => k_is)
    (case m__law_names => k_is)
    (case l__law_names => k_is)
    (case h__law_names => k_is)
    (case k__law_names => k_is)
    (case m__law_stirs => k_is)
    (case l__law_stirs => k_is)
    (case h__law_stirs => k_is)
    (case k__law_stirs => k_is)
    (case m__law_rooms => k_is)
    (case l__law_rooms => k_is)
    (case h__law_rooms => k_is)
    (case k__law_rooms => k_is)
    (case m__law_alike => k_is)
    (case l__law_alike => k_is)
    (case h__law_alike => k_is)
    (case k__law_alike => k_is)
    (case m__law_made => k_is)
    (case l__law_made => k_is)
    (case h__law_made => k_is)
    (case k__law_made => k_is)
    (case m__law_right => k_is)
    (case l__law_right => k_is)
    (case h__law_right => k_is)
    (case k__law_right => k_is)
    (case m__law_refused => k_is)
    (case l__law_refused => k_is)
    (case h__law_refused => k_is)
    (case k__law_refused => k_is)
    (case m__law_spoilt => k_is)
    (case l__law_spoilt => k_is)
    (case h__law_spoilt => k_is)
    (case k__law_spoilt => k_is)
    (case m__law_case => k_is)
    (case l__law_case => k_is)
    (case h__law_case => k_is)
    (case k__law_case => k_is)
    (case m__law_store => k_is)
    (case l__law_store => k_is)
    (case h__law_store => k_is)
    (case k__law_store => k_is)
    (case m_law => k_is)
    (case l_law => k_is)
    (case h_law => k_is)
    (case k_law => k_is)
    (case su_WaneError_Wrong => k_is)
    (case su_WaneError_TooMany => k_is)
    (case su_WaneError_There => k_is)
    (case su_WaneError_Gone => k_is)
    (case ei_WaneError => k_exc)
    (case su_Wrong_WaneError => k_is)
    (case su_Wrong_TooMany => k_is)
    (case su_Wrong_There => k_is)
    (case su_Wrong_Gone => k_is)
    (case ot_Wrong => k_is)
    (case nf_Wrong => k_is)
    (case su_TooMany_WaneError => k_is)
    (case su_TooMany_Wrong => k_is)
    (case su_TooMany_There => k_is)
    (case su_TooMany_Gone => k_is)
    (case ot_TooMany => k_is)
    (case nf_TooMany => k_is)
    (case su_There_WaneError => k_is)
    (case su_There_Wrong => k_is)
    (case su_There_TooMany => k_is)
    (case su_There_Gone => k_is)
    (case ot_There => k_is)
    (case nf_There => k_is)
    (case su_Gone_WaneError => k_is)
    (case su_Gone_Wrong => k_is)
    (case su_Gone_TooMany => k_is)
    (case su_Gone_There => k_is)
    (case ot_Gone => k_is)
    (case nf_Gone => k_is)
