import PyProof.Rows.All
import Wide.All
import OpenK.AllK
import Wide.FinOn
import HandS.ForMost
import HandS.IsInst
import HandS.TupAny
import HandS.TupMul
import HandS.Conv
import PyProof.NeKinds
import PyProof.ReprLen
import HandS.Exc
import HandS.ExcInit
import HandS.ExcField
import HandS.ExcIs
import HandS.ExcOwn
import KE.KExcInit
import KE.KExcIs
import HandS.ExcValue
import HandS.Dict
import PyProof.ExcBaseAll.LookupError
import HandS.DeepEq
import HandS.ClsMeth
import PySem.Challenge.RW_pairedaway_k00_errors_made_by_hand
set_option Elab.async false
set_option maxRecDepth 100000
set_option maxHeartbeats 4000000
/-! Own layer for laws that call repr: promises of defs that run where no repr is under way, data with empty dicts, repr's rule. -/
namespace GL
open PySem PySem.Spec PyProof.Rows L2

/-- a def's promise, claimed only where no guard of repr stands around -/
structure Fg (P : Program) (w : World) (K : PySem.W.Frag) (mg : Str → Option Value) (base : Heap) (CX : CXT) (k : Nat) (f : Addr) (fd : FuncData) (ps : List Str) (sp : Sp) : Prop where
  ln : ∀ vs H Q E, sp vs H Q E → vs.length = ps.length
  go : ∀ (A : Around) (outer : List Env) (s : Shared) (H : Hp) (args : Args) (us : List Value) (vs : List V) (Q : VK) (E : XK), A.guards = some [] → Room k A → Env0 P w K mg base A outer s H →
    BindsTo s fd args (ps.zip us) → Vals vs us → sp vs H Q E → codeAny (model P w) A (.call (.ref f) args) (CR CX outer P w H s Q E) s

theorem Fg.of {P : Program} {w : World} {K : PySem.W.Frag} {mg : Str → Option Value} {base : Heap} {CX : CXT} {k : Nat} {f : Addr} {fd : FuncData} {ps : List Str} {sp : Sp} (F : FnOk P w K mg base CX k f fd ps sp) : Fg P w K mg base CX k f fd ps sp :=
  ⟨F.len, fun A outer s H args us vs Q E _ => F.run A outer s H args us vs Q E⟩

theorem guards_deeper {A : Around} {env : Env} (h : A.guards = some []) : (A.deeper env).guards = some [] := by
  simp [Around.deeper, h]

section
variable {P : Program} {w : World} {K : PySem.W.Frag} {mg : Str → Option Value} {base : Heap}
/-- the rule for such a def: as for any other, with the fact about guards at hand -/
theorem ok_g {x qual : Str} {st : Stmt} {f : Addr} {fd : FuncData} {N ps : List Str} {k : Nat} {sp : Sp} (F : Fun K x qual st f fd) (S : FnScope N ps (defScope st)) (ln : ∀ vs H Q E, sp vs H Q E → vs.length = ps.length)
    (bd : ∀ (cdv : Value) (A : Around) (outer : List Env) (s : Shared) (H : Hp) (vs : List V) (Q : VK) (E : XK), (A.deeper (envOfC qual (defScope st) s.heap.objs.size f cdv)).guards = some [] → Room k (A.deeper (envOfC qual (defScope st) s.heap.objs.size f cdv)) → sp vs H Q E →
      ∃ t, PSs (cxOf CX0 P w K mg base N qual (defScope st) f cdv A outer s H E).nox (defBody st) t ∧ t { nx := fun _ H' => Q .non H', rt := Q } (start N vs) H) : Fg P w K mg base CX0 (k + 1) f fd ps sp := by
  obtain ⟨oc, od, kV, doc, pm, an, cdv, ct, osl, rfl, lk, hcd⟩ := F.ex
  refine ⟨ln, fun A outer s H args us vs Q E hg hr e0 hb r hsp => ?_⟩
  have lv := ln _ _ _ _ hsp
  have KI : K.In s.heap := e0.mod.kin.keeps fun b o q => (e0.bs b o q).1
  have NL : s.heap.NoLimit := e0.mod.nolimit.keeps fun b o q => (e0.bs b o q).1
  have kinds : ∀ y ∈ ps.zip us, (defScope st).names.lookup y.1 = some .local ∨ ((defScope st).names.lookup y.1 = some .cell ∧ ((cellsFrom (s.heap.objs.size + 1) (defScope st).names []).lookup y.1).isSome = true) := by
    rintro ⟨n, v⟩ hy
    cases S.par n (List.of_mem_zip hy).1 with
    | inl q => exact .inl q
    | inr q => exact .inr ⟨q, PySem.W.cellsFrom_some _ _ _ (.inl q)⟩
  refine codeAny_call_function hr.depth (KI _ _ lk) rfl S.co S.gen rfl (PySem.W.codeRec_of KI hcd) (hb _ _ _ _ (wpAny_newFunctionEnv_cells S.kind kinds fun env he s1 x => ?_))
  cases he
  obtain ⟨t, ht, hq⟩ := bd cdv A outer s H vs Q E (guards_deeper hg) (hr.deeper _) hsp
  refine ⟨NL.keeps x.toInCall.keep, codeAny_func (wpAny_mono (ht.nox.run [] s1 (start N vs) H _ (inv_start S hr.hd e0 lv r x) hq) (fun fl s' hs => ?_) fun e s' hs => hs)⟩
  have fin : ∀ {τ : L2.St} {G : Hp} {v : V} {u : Value}, Inv (cxOf CX0 P w K mg base N qual (defScope st) f cdv A outer s H E) [] τ G s' → RelV v u → Q v G → CE outer P w H s Q u s' :=
    fun {τ G v u} J rv q => ⟨v, G, J.os, J.bare, J.base, J.hok, rv, q⟩
  match fl, hs with
  | .ret u, ⟨v, τ, G, J, rv, q⟩ => exact fin J rv q
  | .next, ⟨τ, G, J, q⟩ => exact fin (v := V.non) (u := Value.none) J rfl q
  | .brk, ⟨_, _, _, q⟩ => exact q.elim
  | .cont, ⟨_, _, _, q⟩ => exact q.elim
end

section
variable {X : Cx} {CX : CXT} {k : Nat} {f : Addr} {fd : FuncData} {ps : List Str} {sp : Sp} {E : XK} {x : Str} {p pos : Pos} {e : Expr} {es : List Expr} {t : TA}
/-- f(e, ..) of such a def, without defaults -/
theorem pe_callg (hg : X.A.guards = some []) (F : Fg X.prog X.w X.K X.mg X.base CX k f fd ps sp) (hr : Room k X.A) (gl : Gl X x) (hm : X.mg x = some (.ref f)) (kp : PySem.W.keepIn X.K (.ref f) = true) (hb : Binds X.K fd ps []) (hx : Passes CX X E)
    (ha : PA X (e :: es) t) (hdb : (x == ("__debug__" : Str)) = false := by decide) (se : starEach (e :: es) X.env = (false, eval e X.env) :: starEach es X.env := by rfl) (pl : (backTo pos (starEach es X.env)).any (·.1) = false := by rfl) :
    PE X (.Call (.Name x p) (e :: es) [] pos) (tCall sp [] E t) := by
  refine ⟨fun pins s σ H Q I h => wpAny_Call_Name_kw (ld_glob I gl hm ?_ hdb)⟩
  refine PySem.W.callWith_K (h₀ := X.base) I.ok.mod.kin kp (thn (ha.run pos pins s σ H _ I h) fun us s1 ⟨vs, G, J, r, q⟩ => ⟨J.kIn, ?_⟩) se pl
  replace q : sp vs G Q E := by simpa using q
  have ll : (us ++ ([] : List Value)).length = ps.length := by rw [List.append_nil, ← r.length]; exact F.ln _ _ _ _ q
  have bb := hb s1 us J.kIn ll
  rw [List.append_nil] at bb
  refine wpAny_call (codeAny_mono (F.go X.A X.stack s1 G ⟨us, []⟩ us vs Q E hg hr J.env0 bb r q) fun res s' hq => ?_)
  match res, hq with
  | .error e, hq => exact hx pins σ G s1 e s' J hq
  | .ok (.ret u), hq => exact J.after hq
  | .ok .next, hq => exact hq.elim
  | .ok .brk, hq => exact hq.elim
  | .ok .cont, hq => exact hq.elim
end

/-! ### data, empty dicts among them -/
mutual
inductive Dt (K : PySem.W.Frag) (H : Hp) : V → PyData → Prop
  | non : Dt K H .non .none
  | bl (b : Bool) : Dt K H (.bl b) (.bool b)
  | int (i : Int) : Dt K H (.int i) (.int i)
  | str (x : Str) : Dt K H (.str x) (.str x)
  | lst {a : Addr} {vs : List V} {ds : List PyData} : H a = some (.lst vs) → DtAll K H vs ds → Dt K H (.ref a) (.list ds)
  | tup {a : Addr} {vs : List V} {ds : List PyData} : H a = some (.tup vs) → DtAll K H vs ds → Dt K H (.ref a) (.tuple ds)
  | dic {a : Addr} : H a = some (.dK []) → Dt K H (.ref a) (.dict [])
inductive DtAll (K : PySem.W.Frag) (H : Hp) : List V → List PyData → Prop
  | nil : DtAll K H [] []
  | cons {v : V} {vs : List V} {d : PyData} {ds : List PyData} : Dt K H v d → DtAll K H vs ds → DtAll K H (v :: vs) (d :: ds)
end
section
variable {K : PySem.W.Frag} {H H' : Hp}
mutual
theorem Dt.same (e : Same H H') : ∀ {d : PyData} {v : V}, Dt K H v d → Dt K H' v d
  | _, _, .non => .non
  | _, _, .bl b => .bl b
  | _, _, .int i => .int i
  | _, _, .str x => .str x
  | _, _, .lst h a => .lst (e _ _ h) (DtAll.same e a)
  | _, _, .tup h a => .tup (e _ _ h) (DtAll.same e a)
  | _, _, .dic h => .dic (e _ _ h)
theorem DtAll.same (e : Same H H') : ∀ {ds : List PyData} {vs : List V}, DtAll K H vs ds → DtAll K H' vs ds
  | _, _, .nil => .nil
  | _, _, .cons h a => .cons (Dt.same e h) (DtAll.same e a)
end
theorem DtAll.length {ds : List PyData} : ∀ {vs : List V}, DtAll K H vs ds → vs.length = ds.length := by
  induction ds with
  | nil => intro vs h; cases h; rfl
  | cons d ds ih => intro vs h; cases h with | cons h1 h2 => simp [ih h2]
theorem DtAll.append : ∀ {ds es : List PyData} {vs us : List V}, DtAll K H vs ds → DtAll K H us es → DtAll K H (vs ++ us) (ds ++ es)
  | _, _, _, _, .nil, h => h
  | _, _, _, _, .cons a b, h => .cons a (DtAll.append b h)
theorem DtAll.take : ∀ {ds : List PyData} {vs : List V} (n : Nat), DtAll K H vs ds → DtAll K H (vs.take n) (ds.take n)
  | _, _, 0, _ => .nil
  | _, _, _ + 1, .nil => .nil
  | _, _, n + 1, .cons a b => .cons a (DtAll.take n b)
theorem DtAll.drop : ∀ {ds : List PyData} {vs : List V} (n : Nat), DtAll K H vs ds → DtAll K H (vs.drop n) (ds.drop n)
  | _, _, 0, h => h
  | _, _, _ + 1, .nil => .nil
  | _, _, n + 1, .cons _ b => DtAll.drop n b
theorem DtAll.get : ∀ {ds : List PyData} {vs : List V} {i : Nat} {v : V}, DtAll K H vs ds → vs[i]? = some v → ∃ d, ds[i]? = some d ∧ Dt K H v d
  | _, _, i, _, .nil, h => by simp at h
  | _, _, 0, _, .cons a _, h => by simp at h; subst h; exact ⟨_, rfl, a⟩
  | _, _, i + 1, v, .cons _ b, h => by
    obtain ⟨d, h1, h2⟩ := DtAll.get (i := i) (v := v) b (by simpa using h)
    exact ⟨d, by simpa using h1, h2⟩
end

section
variable {X : Cx} {pins : List (Addr × Obj)} {σ : L2.St} {H : Hp} {s : Shared}
/-- what repr's rules of the library ask of a value -/
structure Shows (prog : Program) (w : World) (h : Heap) (u : Value) (d : PyData) : Prop where
  ex : ∃ as bs, Reads h u d as ∧ ReadAtMost h d.depth bs ∧ ReprK prog w bs h d.depth u d.shown
structure ShowsAll (prog : Program) (w : World) (h : Heap) (us : List Value) (ds : List PyData) : Prop where
  ex : ∃ as bs, ReadsAll h us ds as ∧ ReadAtMost h (PyData.depthAll ds) bs ∧ ReprAllK prog w bs h (PyData.depthAll ds) us (PyData.shownAll ds)
theorem dic_at (I : Inv X pins σ H s) {a : Addr} (h : H a = some (.dK [])) : (a == sysModules) = false ∧ ∃ o es ep, s.heap.get? a = some o ∧ o.cls = .type "dict" ∧ o.data = .dict es ep ∧ es.toList = [] := by
  obtain ⟨_, ne, vs, kv, o, es, ep, h1, h2, h3, _, h5, _⟩ := (show ObjOk X.prog X.w H s.heap a (.dK []) from I.hok a _ h)
  cases kv
  refine ⟨ne, o, es, ep, h1, h2.1, h3, ?_⟩
  cases q : es.toList with
  | nil => rfl
  | cons y ys => rw [q] at h5; cases h5
theorem lst_at (I : Inv X pins σ H s) {a : Addr} {vs : List V} (h : H a = some (.lst vs)) : ∃ its n, Vals vs its ∧ s.heap.get? a = some { cls := .type "list", data := .seq its.toArray n } := by
  obtain ⟨_, its, n, r, e⟩ := (show ObjOk X.prog X.w H s.heap a (.lst vs) from I.hok a _ h)
  exact ⟨its, n, r, e⟩
theorem tup_at (I : Inv X pins σ H s) {a : Addr} {vs : List V} (h : H a = some (.tup vs)) : ∃ its o n, Vals vs its ∧ s.heap.get? a = some o ∧ o.cls = .type "tuple" ∧ o.data = .seq its.toArray n := by
  obtain ⟨_, its, r, o, h1, h2, n, h3⟩ := (show ObjOk X.prog X.w H s.heap a (.tup vs) from I.hok a _ h)
  exact ⟨its, o, n, r, h1, h2, h3⟩
mutual
theorem Dt.shows (I : Inv X pins σ H s) : ∀ (d : PyData) (v : V) (u : Value), Dt X.K H v d → RelV v u → d.showable = true → d.shown.length ≤ sizeLine → Shows X.prog X.w s.heap u d
  | .none, _, _, h, r, _, _ => by
    cases h; cases r
    exact ⟨_, [], .none, (fun _ q => nomatch q), by simp only [PyData.shown]; exact .of_is ReprIs.none _ _ _⟩
  | .bool b, _, _, h, r, _, _ => by
    cases h; cases r
    exact ⟨_, [], .bool b, (fun _ q => nomatch q), by simp only [PyData.shown]; exact .of_is (ReprIs.bool b) _ _ _⟩
  | .int i, _, _, h, r, hs, _ => by
    cases h
    obtain ⟨t, rfl⟩ := r
    exact ⟨_, [], .int i t, (fun _ q => nomatch q), by simp only [PyData.shown]; exact .of_is (ReprIs.int t (by simpa [PyData.showable] using hs)) _ _ _⟩
  | .str x, _, _, h, r, _, hz => by
    cases h
    obtain ⟨t, rfl⟩ := r
    exact ⟨_, [], .str x t, (fun _ q => nomatch q), by simp only [PyData.shown]; exact .of_is (ReprIs.str x t (by simpa only [PyData.shown] using hz)) _ _ _⟩
  | .list ds, _, _, h, r, hs, hz => by
    cases h with
    | @lst a vs _ hl ha =>
      cases r
      have hz' : (listText (PyData.shownAll ds)).length ≤ sizeLine := by simpa only [PyData.shown] using hz
      obtain ⟨its, n, rv, e⟩ := lst_at I hl
      obtain ⟨as, bs, r4, rb, rk⟩ := (Dt.showsAll I ds vs its ha rv (by simpa [PyData.showable] using hs) (fun t ht => Nat.le_trans (listText_mem_le ht) hz')).ex
      have rr : Reads s.heap (.ref a) (.list ds) (a :: as) := .list e rfl rfl r4
      have nm : a ∉ bs := not_mem_of_deeper rr (by simp only [PyData.depth]; omega) rb
      refine ⟨_, a :: bs, rr, ReadAtMost.cons rr (by simp only [PyData.depth]; omega) rb, ?_⟩
      simp only [PyData.depth, PyData.shown]
      cases its with
      | nil =>
        cases r4
        simp only [PyData.shownAll, listText_nil]
        exact ReprK.listEmpty e rfl rfl
      | cons y ys => exact ReprK.list e rfl rfl nm (by simpa using rk.length_eq) (fun i z q => rk.item i z (by simpa using q))
  | .tuple ds, _, _, h, r, hs, hz => by
    cases h with
    | @tup a vs _ hl ha =>
      cases r
      have hz' : (tupleText (PyData.shownAll ds)).length ≤ sizeLine := by simpa only [PyData.shown] using hz
      obtain ⟨its, o, n, rv, e1, e2, e3⟩ := tup_at I hl
      obtain ⟨as, bs, r4, rb, rk⟩ := (Dt.showsAll I ds vs its ha rv (by simpa [PyData.showable] using hs) (fun t ht => Nat.le_trans (tupleText_mem_le ht) hz')).ex
      have rr : Reads s.heap (.ref a) (.tuple ds) as := .tuple e1 e2 e3 r4
      have nm : a ∉ bs := not_mem_of_deeper rr (by simp only [PyData.depth]; omega) rb
      refine ⟨_, a :: bs, rr, ReadAtMost.cons rr (by simp only [PyData.depth]; omega) rb, ?_⟩
      simp only [PyData.depth, PyData.shown]
      exact ReprK.tuple e1 e2 e3 nm rk
  | .dict _, _, _, h, r, _, _ => by
    cases h with
    | @dic a hd =>
      cases r
      obtain ⟨ne, o, es, ep, e1, e2, e3, e4⟩ := dic_at I hd
      have rr : Reads s.heap (.ref a) (.dict []) (a :: [] ++ []) := .dict e1 e2 e3 (by rw [e4]; exact .nil) (by rw [e4]; exact .nil)
      refine ⟨_, [a], rr, ReadAtMost.cons (n := 0) rr (Nat.zero_le _) (fun _ q => nomatch q), ?_⟩
      simp only [PyData.depth, PyData.shown, PyData.shownKv]
      exact ReprK.dict (d := 0) e1 e2 e3 ne (fun q => nomatch q) (by rw [e4]; exact .nil)
theorem Dt.showsAll (I : Inv X pins σ H s) : ∀ (ds : List PyData) (vs : List V) (us : List Value), DtAll X.K H vs ds → Vals vs us → PyData.showableAll ds = true → (∀ t ∈ PyData.shownAll ds, t.length ≤ sizeLine) → ShowsAll X.prog X.w s.heap us ds
  | [], _, _, h, r, _, _ => by
    cases h; cases r
    exact ⟨_, [], .nil, (fun _ q => nomatch q), by simp only [PyData.shownAll]; exact .nil⟩
  | d :: ds, _, _, h, r, hs, hz => by
    cases h with
    | cons h1 h2 =>
      cases r with
      | cons r1 r2 =>
        have hs' : d.showable = true ∧ PyData.showableAll ds = true := by simpa [PyData.showableAll] using hs
        obtain ⟨as, bs, a1, a2, a3⟩ := (Dt.shows I d _ _ h1 r1 hs'.1 (hz _ (by simp only [PyData.shownAll]; exact List.mem_cons_self ..))).ex
        obtain ⟨cs, es, c1, c2, c3⟩ := (Dt.showsAll I ds _ _ h2 r2 hs'.2 (fun t ht => hz t (by simp only [PyData.shownAll]; exact List.mem_cons_of_mem _ ht))).ex
        refine ⟨_, bs ++ es, .cons a1 c1, ?_, ?_⟩
        · simp only [PyData.depthAll]
          exact (a2.mono (Nat.le_max_left _ _)).append (c2.mono (Nat.le_max_right _ _))
        · simp only [PyData.depthAll, PyData.shownAll]
          exact .cons ((a3.more fun b hb => List.mem_append_left _ hb).level_le (Nat.le_max_left _ _)) (c3.more_le (fun b hb => List.mem_append_right _ hb) (Nat.le_max_right _ _))
end
end

/-- repr of data -/
def rReprD (K : PySem.W.Frag) : List V → Hp → VK → Prop := fun xs H Q => ∃ v d, xs = [v] ∧ Dt K H v d ∧ d.showable = true ∧ d.depth ≤ 60 ∧ d.shown.length ≤ sizeLine ∧ Q (.str d.shown) H
theorem call_reprD {X : Cx} (hg : X.A.guards = some []) (hu : X.A.units + 64 < cLine) : CallR X (.builtin "repr") (rReprD X.K) := by
  intro pins s σ H xs us Q I r h
  obtain ⟨v, d, rfl, hd, hs, hdep, hz, q⟩ := h
  obtain ⟨u, rfl, ru⟩ := vals1 r
  have keep : ∀ b o, s.heap.get? b = some o → s.heap.get? b = some o := fun _ _ e => e
  have fin : ∀ (h' : Heap) (t : Tok) (tk : Nat), (∀ b o, s.heap.get? b = some o → h'.get? b = some o) → EP X pins σ Q (.str d.shown t) { s with heap := h', toks := tk } :=
    fun h' t tk k => ⟨.str d.shown, H, I.kept k, ⟨t, rfl⟩, q⟩
  cases hd with
  | non => cases ru; simp only [PyData.shown] at fin; exact PySem.P.repr_of_none (fin _ _ _ keep)
  | bl b => cases ru; simp only [PyData.shown] at fin; exact PySem.P.repr_of_bool (fin _ _ _ keep)
  | int i => obtain ⟨t, rfl⟩ := ru; simp only [PyData.shown] at fin; exact PySem.P.repr_of_int (by simpa [PyData.showable] using hs) (fin _ _ _ keep)
  | str x => obtain ⟨t, rfl⟩ := ru; simp only [PyData.shown] at fin; exact PySem.P.repr_of_str (fin _ _ _ keep) (by simpa only [PyData.shown] using hz)
  | @lst a vs ds hl ha =>
    cases ru
    simp only [PyData.depth] at hdep
    simp only [PyData.shown] at fin
    have hz' : (listText (PyData.shownAll ds)).length ≤ sizeLine := by simpa only [PyData.shown] using hz
    obtain ⟨its, n, rv, e⟩ := lst_at I hl
    obtain ⟨as, bs, r4, rb, rk⟩ := (Dt.showsAll I ds vs its ha rv (by simpa [PyData.showable] using hs) (fun t ht => Nat.le_trans (listText_mem_le ht) hz')).ex
    have rr : Reads s.heap (.ref a) (.list ds) (a :: as) := .list e rfl rfl r4
    have nm : a ∉ bs := not_mem_of_deeper rr (by simp only [PyData.depth]; omega) rb
    refine call_repr_slot (T := "list") (by omega) ⟨_, e, rfl⟩ F.slot_list_repr.toG ?_
    cases its with
    | nil =>
      cases r4
      simp only [PyData.shownAll, listText_nil] at fin
      exact call_list_repr_empty ⟨_, e, rfl⟩ e rfl ⟨_, _, rfl, fin _ _ _ keep⟩
    | cons y ys =>
      exact call_list_reprK e rfl rfl nm (by simpa using rk.length_eq) (fun i z q => rk.item i z (by simpa using q)) (A := X.A.in1) hg (fun b _ => Clear.nil b) (by show X.A.units + 1 + _ < cLine; omega) keep (fun h' t tk k => ⟨_, _, rfl, fin h' t tk k⟩) hz'
  | @tup a vs ds hl ha =>
    cases ru
    simp only [PyData.depth] at hdep
    simp only [PyData.shown] at fin
    have hz' : (tupleText (PyData.shownAll ds)).length ≤ sizeLine := by simpa only [PyData.shown] using hz
    obtain ⟨its, o, n, rv, e1, e2, e3⟩ := tup_at I hl
    obtain ⟨as, bs, r4, rb, rk⟩ := (Dt.showsAll I ds vs its ha rv (by simpa [PyData.showable] using hs) (fun t ht => Nat.le_trans (tupleText_mem_le ht) hz')).ex
    have rr : Reads s.heap (.ref a) (.tuple ds) as := .tuple e1 e2 e3 r4
    have nm : a ∉ bs := not_mem_of_deeper rr (by simp only [PyData.depth]; omega) rb
    refine call_repr_slot (T := "tuple") (by omega) ⟨_, e1, e2⟩ F.slot_tuple_repr ?_
    exact call_tuple_reprK e1 e2 e3 nm rk (A := X.A.in1) hg (fun b _ => Clear.nil b) (by show X.A.units + 1 + _ < cLine; omega) keep (fun h' t tk k => ⟨_, _, rfl, fin h' t tk k⟩) hz'
  | @dic a hdk =>
    cases ru
    simp only [PyData.shown, PyData.shownKv] at fin
    obtain ⟨ne, o, es, ep, e1, e2, e3, e4⟩ := dic_at I hdk
    refine call_repr_slot (T := "dict") (by omega) ⟨_, e1, e2⟩ F.slot_dict_repr ?_
    exact call_dict_reprK (ps := []) (d := 0) (as := []) e1 e2 e3 ne (fun q => nomatch q) (by rw [e4]; exact .nil) (A := X.A.in1) hg (fun b _ => Clear.nil b) (by show X.A.units + 1 + _ < cLine; omega) keep (fun h' t tk k => ⟨_, _, rfl, fin h' t tk k⟩) (by simp only [PyData.shown, PyData.shownKv] at hz; exact hz)
end GL
/-! The end of a law whose def is promised where no guard of repr stands. -/
namespace GL
open PySem PySem.Spec PyProof.Rows L2 PySem.W

section
variable {P : Program} {w : World} {K : PySem.W.Frag} {mg mb : Str → Option Value} {k : Nat} {fa a : Addr} {fd : FuncData} {x : Str} {sp : Sp} {s₁ : Shared} {vs : List Value} {ns : List Int}
theorem nil_no {b : Addr} : b ∉ ([] : List Addr) := fun z => nomatch z
/-- the law's call, from one abstract heap in which the script alone may be tracked -/
theorem law_core (KI : K.In s₁.heap) (g1 : s₁.heap.Ns mainGlobals mg) (g2 : s₁.heap.Ns builtinsNs mb) (g3 : ∀ y : Str, y ≠ "__name__" → mb y = bootBuiltins y) (nl : s₁.heap.NoLimit) (hg : s₁.gens = #[])
    (ha : s₁.heap.get? a = some { cls := .type "list", data := .seq vs.toArray }) (hr : Room k callerA)
    (F : ∀ base : Heap, K.In base → base.Ns mainGlobals mg → Fg P w K mg base CX0 k fa fd [x] sp) (bd : ∀ (s : Shared) (u : Value), BindsTo s fd ⟨[u], []⟩ [(x, u)])
    (H : Hp) (on : Only H) (hq : sp [.ref a] H (fun v _ => v = .bl true) fun _ _ _ => False) (ok : HOk P w H s₁.heap) (one : ∀ b, H b ≠ none → b = a) (nk : H a ≠ none → K.lookup a = none) :
    codeAny (model P w) callerA (.call (.ref fa) ⟨[.ref a], []⟩) (fun r s' => r = .ok (.ret (.bool true)) ∧ OldK s₁.heap s'.heap ∧ s'.os = s₁.os ∧ AllBare s'.gens) s₁ := by
  have out : ∀ {b : Addr} {o : Obj}, s₁.heap.get? b = some o → (b = a → H a = none) → (hidT s₁.heap H).get? b = some o := fun {b o} e n => hidT_get e (by
    by_cases z : H b = none
    · exact z
    · have zz := one b z
      rw [zz]; exact n zz)
  have dct : ∀ {b : Addr} {o : Obj} {es : Array DictEntry} {ep : Nat}, s₁.heap.get? b = some o → o.data = .dict es ep → b ≠ a := fun {b o es ep} e d z => by
    rw [z, ha] at e
    cases e
    exact nomatch (show Data.seq vs.toArray _ = Data.dict es ep from d)
  have nsK : ∀ {b : Addr} {m : Str → Option Value}, s₁.heap.Ns b m → (hidT s₁.heap H).Ns b m := fun {b m} q => by
    obtain ⟨o, es, ep, e, d, r⟩ := q
    exact ⟨o, es, ep, out e (fun z => absurd z (dct e d)), d, r⟩
  have KB : K.In (hidT s₁.heap H) := fun b o e => out (KI b o e) fun z => by
    by_cases y : H a = none
    · exact y
    · rw [z, nk y] at e; cases e
  have md : Mod K mg (hidT s₁.heap H) := ⟨KB, nsK g1, ⟨mb, nsK g2, g3⟩, let ⟨mc, c1, c2⟩ := nl; ⟨mc, nsK c1, c2⟩⟩
  have ev : Env0 P w K mg (hidT s₁.heap H) callerA [] s₁ H := ⟨rfl, md, fun _ _ e => of_hidT e, Nat.le_of_eq (hidT_size _ _), trivial, fun b z => absurd z nil_no, ok, .of_eq hg⟩
  refine codeAny_mono ((F _ KB (nsK g1)).go callerA [] s₁ H ⟨[.ref a], []⟩ [.ref a] [.ref a] _ _ rfl hr ev (bd s₁ (.ref a)) (.cons rfl .nil) hq) fun r s' h => ?_
  match r, h with
  | .error e, h => exact h.elim
  | .ok .next, h => exact h.elim
  | .ok .brk, h => exact h.elim
  | .ok .cont, h => exact h.elim
  | .ok (.ret u), ⟨v, G, os, br, un, okG, rv, q⟩ =>
    cases (show v = .bl true from q)
    cases (show u = Value.bool true from rv)
    refine ⟨rfl, OldK.of_keep fun b o e => ?_, os, br⟩
    rcases on b with z | ⟨ob, xs, z⟩
    · exact un.keep b o e z nil_no nil_no
    · have e1 := (ok b _ z).1
      have e2 := (okG b _ (un.frzs b ob _ z)).1
      rw [e] at e1
      cases e1
      exact e2

theorem law_end (KI : K.In s₁.heap) (g1 : s₁.heap.Ns mainGlobals mg) (g2 : s₁.heap.Ns builtinsNs mb) (g3 : ∀ y : Str, y ≠ "__name__" → mb y = bootBuiltins y) (nl : s₁.heap.NoLimit) (hg : s₁.gens = #[])
    (ha : s₁.heap.get? a = some { cls := .type "list", data := .seq vs.toArray }) (hi : IntsAre vs ns) (hz : ns.length ≤ sizeLine) (hr : Room k callerA)
    (F : ∀ base : Heap, K.In base → base.Ns mainGlobals mg → Fg P w K mg base CX0 k fa fd [x] sp) (bd : ∀ (s : Shared) (u : Value), BindsTo s fd ⟨[u], []⟩ [(x, u)])
    (hsp : ∀ H : Hp, Only H → SqL K H a (ns.map V.int) → sp [.ref a] H (fun v _ => v = .bl true) fun _ _ _ => False) :
    codeAny (model P w) callerA (.call (.ref fa) ⟨[.ref a], []⟩) (fun r s' => r = .ok (.ret (.bool true)) ∧ OldK s₁.heap s'.heap ∧ s'.os = s₁.os ∧ AllBare s'.gens) s₁ := by
  have rv := vals_ints hi
  have ll : vs.length = ns.length := hi.length
  cases hk : K.lookup a with
  | some o =>
    have e := KI a o hk
    rw [ha] at e
    cases e
    have no : ∀ {b : Addr} {u : HO}, ((fun _ => none) : Hp) b ≠ some u := fun {b u} z => nomatch (show (none : Option HO) = some u from z)
    exact law_core KI g1 g2 g3 nl hg ha hr F bd (fun _ => none) (fun _ => .inl rfl) (hsp _ (fun _ => .inl rfl) (.inr ⟨_, vs.toArray, _, hk, rfl, rfl, rfl, by rw [List.size_toArray, ll]; exact hz, by simpa using rv⟩))
      (fun b u z => absurd z (no (b := b))) (fun b z => absurd rfl z) (fun z => absurd rfl z)
  | none =>
    have g : ∃ G : Hp, G a = some (.frz { cls := .type "list", data := .seq vs.toArray } (.lst (ns.map V.int))) ∧ ∀ b, b ≠ a → G b = none := ⟨fun b => if b = a then _ else none, if_pos rfl, fun b n => if_neg n⟩
    obtain ⟨G, y1, y2⟩ := g
    have on : Only G := fun b => by
      by_cases e : b = a
      · exact .inr ⟨_, _, e ▸ y1⟩
      · exact .inl (y2 b e)
    refine law_core KI g1 g2 g3 nl hg ha hr F bd G on (hsp G on (.inl (.inr ⟨_, y1⟩))) (fun b u z => ?_) (fun b z => ?_) fun _ => hk
    · by_cases e : b = a
      · subst e
        rw [y1] at z
        cases z
        exact ⟨ha, by rw [List.length_map]; exact hz, vs, _, rv, ha⟩
      · rw [y2 b e] at z; cases z
    · exact Classical.byContradiction fun e => z (y2 b e)
end

/-- the goal that the head leaves -/
theorem walk_g {l : PySem.W.OpenLaw} {n k : Nat} {q : Program} {loose : List Str} {XP : (Str → Option Value) → Heap → Prop} {YP : World → Heap → Prop} {d : DefRec} {K : Params → PySem.W.Frag} {sp : PySem.W.Frag → Sp} {x : Str}
    (hn : l.most = some n) (n2 : n ≤ sizeLine) (nd : d.params.defaults = []) (hr : Room k callerA) (hY : ∀ (w : World) (h : Heap), YP w h → (K w.params).In h)
    (F : ∀ (w : World) (mg : Str → Option Value) (fa : Addr) (h : Heap), (K w.params).In h → h.Ns mainGlobals mg → mg d.name = some (.ref fa) →
      ∃ fd : FuncData, (∀ (s : Shared) (u : Value), BindsTo s fd ⟨[u], []⟩ [(x, u)]) ∧ ∀ base : Heap, (K w.params).In base → base.Ns mainGlobals mg → Fg l.prog w (K w.params) mg base CX0 k fa fd [x] (sp (K w.params)))
    (hsp : ∀ (K : PySem.W.Frag) (H : Hp) (a : Addr) (ns : List Int), ns.length ≤ n → Only H → SqL K H a (ns.map V.int) → sp K [.ref a] H (fun v _ => v = .bl true) fun _ _ _ => False) :
    PySem.W.WalkO q loose XP YP l.row.toRowW d [] (fun f vs => PySem.call f vs) := by
  refine Att.attach_call hn nd fun w s₀ s₁ mg mb fa o pm cd doc a vs ns G Y ho hd hcd hmg hobj hints hlen hg => ?_
  have KI := hY w _ Y
  obtain ⟨fd, hb, hF⟩ := F w mg fa _ KI G.T.g hmg
  exact law_end KI G.T.g G.T.b G.T.builtins G.T.nolimit hg hobj hints (Nat.le_trans hlen n2) hr hF hb fun H on hS => hsp _ H a ns hlen on hS
end GL
namespace KC
open PySem L2 GL
theorem same_new {H : Hp} {p : Addr} (h : H p = none) (o : HO) : Same H (upd H p o) := fun b u q => by rw [upd_ne (ne_of_none q h)]; exact q
theorem same_grow {H H1 : Hp} {p : Addr} (h : H p = none) (e : Same H H1) (o : HO) : Same H (upd H1 p o) := fun b u q => by rw [upd_ne (ne_of_none q h)]; exact e b u q
structure Dfn (P : Program) (w : World) (K : PySem.W.Frag) (mg : Str → Option Value) (base : Heap) (name : Str) (k : Nat) (f : Addr) (fd : FuncData) (ps : List Str) (sp : Sp) : Prop where
  ok : FnOk P w K mg base CX0 k f fd ps sp
  b : L2.Binds K fd ps []
  m : mg name = some (.ref f)
  kp : PySem.W.keepIn K (.ref f) = true
/-- a def promised where no guard of repr stands -/
structure Gfn (P : Program) (w : World) (K : PySem.W.Frag) (mg : Str → Option Value) (base : Heap) (name : Str) (k : Nat) (f : Addr) (fd : FuncData) (ps : List Str) (sp : Sp) : Prop where
  ok : Fg P w K mg base CX0 k f fd ps sp
  b : L2.Binds K fd ps []
  m : mg name = some (.ref f)
  kp : PySem.W.keepIn K (.ref f) = true
/-- len of a list or tuple, the written part by its name -/
def rLenS (K : PySem.W.Frag) : List V → Hp → VK → Prop := fun xs H Q => ∃ (p : Addr) (ys : List V), xs = [.ref p] ∧ (SqL K H p ys ∨ SqT K H p ys) ∧ Q (.int ys.length) H
theorem call_lenS {X : Cx} : CallR X (.builtin "len") (rLenS X.K) := call_len_seq
/-! ### how long a value is when it is shown -/
mutual
def wt : PyData → Nat
  | .none => 4
  | .bool _ => 5
  | .int i => (PyData.int i).shown.length
  | .str x => (PyData.str x).shown.length
  | .list ds => wts ds + 3
  | .tuple ds => wts ds + 3
  | .dict _ => 2
def wts : List PyData → Nat
  | [] => 0
  | d :: ds => wt d + 2 + wts ds
end
theorem len_wts : ∀ ds : List PyData, ds.length ≤ wts ds
  | [] => Nat.le_refl _
  | d :: ds => by have := len_wts ds; simp only [wts, List.length_cons]; omega
theorem mem_wts {d : PyData} : ∀ {ds : List PyData}, d ∈ ds → wt d ≤ wts ds
  | e :: ds, h => by
    simp only [wts]
    rcases List.mem_cons.mp h with rfl | h
    · omega
    · have := mem_wts h; omega
/-! ### the deck: a list of a list of numbers and of how many were drawn -/
/-- the heap without the deck's two lists -/
def Hd (d c : Addr) (H : Hp) : Hp := fun b => if b = d ∨ b = c then none else H b
theorem hd_some {d c b : Addr} {H : Hp} {o : HO} (h : Hd d c H b = some o) : H b = some o ∧ b ≠ d ∧ b ≠ c := by
  unfold Hd at h
  by_cases e : b = d ∨ b = c
  · rw [if_pos e] at h; cases h
  · rw [if_neg e] at h; exact ⟨h, fun z => e (.inl z), fun z => e (.inr z)⟩
theorem hd_of {d c b : Addr} {H : Hp} {o : HO} (h : H b = some o) (n1 : b ≠ d) (n2 : b ≠ c) : Hd d c H b = some o := by
  unfold Hd
  rw [if_neg fun e => e.elim n1 n2]; exact h
theorem hd_sub {d c : Addr} {H : Hp} : Same (Hd d c H) H := fun _ _ h => (hd_some h).1
theorem hd_new {d c p : Addr} {H : Hp} (h : H p = none) (o : HO) : Same (Hd d c H) (Hd d c (upd H p o)) := fun b u q => by
  obtain ⟨q1, q2, q3⟩ := hd_some q
  exact hd_of (same_new h o b u q1) q2 q3
theorem hd_put {d c p : Addr} {H : Hp} (h : p = d ∨ p = c) (o : HO) : Same (Hd d c H) (Hd d c (upd H p o)) := fun b u q => by
  obtain ⟨q1, q2, q3⟩ := hd_some q
  refine hd_of ?_ q2 q3
  rw [upd_ne (fun e => h.elim (fun z => q2 (e.trans z)) fun z => q3 (e.trans z))]; exact q1
theorem hd_same {d c : Addr} {H H' : Hp} (h : Same H H') : Same (Hd d c H) (Hd d c H') := fun b u q => by
  obtain ⟨q1, q2, q3⟩ := hd_some q
  exact hd_of (h b u q1) q2 q3

/-- the deck at d, its cells at c, with at most m numbers drawn -/
structure Deck (H : Hp) (d c : Addr) (m : Nat) : Prop where
  ne : d ≠ c
  ex : ∃ (L : List Int) (n : Nat), H d = some (.lst [.ref c, .int n]) ∧ H c = some (.lst (L.map V.int)) ∧ L.length ≤ 63 ∧ (∀ x ∈ L, 0 ≤ x) ∧ n ≤ m
theorem Deck.same {H H' : Hp} {d c : Addr} {m : Nat} (D : Deck H d c m) (s : Same H H') : Deck H' d c m := by
  obtain ⟨L, n, h1, h2, h3⟩ := D.ex
  exact ⟨D.ne, L, n, s _ _ h1, s _ _ h2, h3⟩
theorem Deck.mono {H : Hp} {d c : Addr} {m k : Nat} (D : Deck H d c m) (h : m ≤ k) : Deck H d c k := by
  obtain ⟨L, n, h1, h2, h3, h4, h5⟩ := D.ex
  exact ⟨D.ne, L, n, h1, h2, h3, h4, Nat.le_trans h5 h⟩
theorem Deck.new {H : Hp} {d c : Addr} {m : Nat} (D : Deck H d c m) {p : Addr} (h : H p = none) (o : HO) : Deck (upd H p o) d c m := D.same (same_new h o)

def spDeck (K : PySem.W.Frag) : Sp := fun vs H Q _ => ∃ (a : Addr) (ns : List Int), vs = [.ref a] ∧ SqL K H a (ns.map V.int) ∧ ns.length ≤ 63 ∧ ∀ d c H', Same H H' → H d = none → H c = none → Deck H' d c 0 → Q (.ref d) H'
def spDraw : Sp := fun vs H Q _ => ∃ (d c : Addr) (many : Int) (m : Nat), vs = [.ref d, .int many] ∧ Deck H d c m ∧ m ≤ 1000000000 ∧ 0 < many ∧ many < 1073741824 ∧
  ∀ (r : Int) (H' : Hp), 0 ≤ r → r < many → Deck H' d c (m + 1) → Same (Hd d c H) (Hd d c H') → Q (.int r) H'
def spOne : Sp := fun vs H Q _ => ∃ (d c a : Addr) (xs : List V) (m : Nat), vs = [.ref d, .ref a] ∧ Deck H d c m ∧ m ≤ 1000000000 ∧ Hd d c H a = some (.lst xs) ∧ 0 < xs.length ∧ xs.length ≤ 100000 ∧
  ∀ (v : V) (H' : Hp), v ∈ xs → Deck H' d c (m + 1) → Same (Hd d c H) (Hd d c H') → Q v H'

def rAbs : List V → Hp → VK → Prop := fun xs H Q => ∃ i : Int, xs = [.int i] ∧ Q (.int (if i < 0 then -i else i)) H
theorem call_absS {X : Cx} : CallR X (.builtin "abs") rAbs := call_abs
theorem cut_mem {xs : List V} {lo hi : Option Int} {x : V} (h : x ∈ cutV xs lo hi) : x ∈ xs := List.mem_of_mem_drop (List.mem_of_mem_take h)

/-! ### machines that are drawn -/
def emp : Hp := fun _ => none
theorem emp_same {H : Hp} : Same emp H := fun _ _ h => nomatch (show (none : Option HO) = some _ from h)
/-- one more thing hidden -/
def Hr (R : Addr) (H : Hp) : Hp := fun b => if b = R then none else H b
theorem hr_some {R b : Addr} {H : Hp} {o : HO} (h : Hr R H b = some o) : H b = some o ∧ b ≠ R := by
  unfold Hr at h
  by_cases e : b = R
  · rw [if_pos e] at h; cases h
  · rw [if_neg e] at h; exact ⟨h, e⟩
theorem hr_of {R b : Addr} {H : Hp} {o : HO} (h : H b = some o) (n : b ≠ R) : Hr R H b = some o := by
  unfold Hr; rw [if_neg n]; exact h
theorem hr_sub {R : Addr} {H : Hp} : Same (Hr R H) H := fun _ _ h => (hr_some h).1
theorem hr_same {R : Addr} {H H' : Hp} (s : Same H H') : Same (Hr R H) (Hr R H') := fun b o h => hr_of (s _ _ (hr_some h).1) (hr_some h).2
theorem hr_put {R d c : Addr} {G : Hp} {o : HO} : Same (Hr R (Hd d c G)) (Hr R (Hd d c (upd G R o))) := fun b u h => by
  obtain ⟨h1, h2⟩ := hr_some h
  obtain ⟨h3, h4, h5⟩ := hd_some h1
  exact hr_of (hd_of (by rw [upd_ne h2]; exact h3) h4 h5) h2
theorem hd_none {d c p : Addr} {H : Hp} (n : H p = none) : Hd d c H p = none := by
  unfold Hd
  split
  · rfl
  · exact n
theorem hd_grow {d c p : Addr} {H G : Hp} (n : Hd d c H p = none) (s : Same (Hd d c H) (Hd d c G)) (o : HO) : Same (Hd d c H) (Hd d c (upd G p o)) := fun b u h => by
  obtain ⟨_, h2, h3⟩ := hd_some h
  exact hd_of (by rw [upd_ne (ne_of_none h n)]; exact (hd_some (s _ _ h)).1) h2 h3
theorem Deck.put {H : Hp} {d c p : Addr} {m : Nat} (D : Deck H d c m) (n1 : p ≠ d) (n2 : p ≠ c) (o : HO) : Deck (upd H p o) d c m := by
  obtain ⟨L, n, h1, h2, h3⟩ := D.ex
  exact ⟨D.ne, L, n, by rw [upd_ne n1.symm]; exact h1, by rw [upd_ne n2.symm]; exact h2, h3⟩
theorem Deck.free {H : Hp} {d c p : Addr} {m : Nat} (D : Deck H d c m) (n : H p = none) : p ≠ d ∧ p ≠ c := by
  obtain ⟨L, k, h1, h2, h3⟩ := D.ex
  exact ⟨(ne_of_none h1 n).symm, (ne_of_none h2 n).symm⟩

def IsRow (l n : Nat) (r : PyData) : Prop := ∃ xs, r = .tuple xs ∧ xs.length = l ∧ ∀ x ∈ xs, x = .none ∨ ∃ i : Int, x = .int i ∧ 0 ≤ i ∧ i < n
def IsMach (l n : Nat) (md : PyData) : Prop := ∃ (rs : List PyData) (bs : List Bool), md = .tuple [.int l, .tuple rs, .tuple (bs.map .bool)] ∧ rs.length = n ∧ bs.length = n ∧ ∀ r ∈ rs, IsRow l n r
def spMach (K : PySem.W.Frag) : Sp := fun vs H Q _ => ∃ (d c : Addr) (l n m : Nat), vs = [.ref d, .int l, .int n] ∧ Deck H d c m ∧ m ≤ 900000000 ∧ 1 ≤ l ∧ l ≤ 4 ∧ 1 ≤ n ∧ n ≤ 400 ∧
  ∀ (p : Addr) (md : PyData) (H' : Hp), IsMach l n md → Dt K (Hd d c H') (.ref p) md → Deck H' d c (m + 4000) → Same (Hd d c H) (Hd d c H') → Q (.ref p) H'
theorem bools_dt {K : PySem.W.Frag} {H : Hp} : ∀ bs : List Bool, DtAll K H (bs.map V.bl) (bs.map .bool)
  | [] => .nil
  | b :: bs => .cons (.bl b) (bools_dt bs)

/-! ### a list against an empty one, a tuple against an empty one -/
def rNe0 : R2 := fun x y H Q => ∃ (a b : Addr) (xs : List V), x = .ref a ∧ y = .ref b ∧ H a = some (.lst xs) ∧ H b = some (.lst []) ∧ Q (.bl (!xs.isEmpty)) H
def rEq0 : R2 := fun x y H Q => ∃ (a b : Addr) (xs : List V), x = .ref a ∧ y = .ref b ∧ H a = some (.tup xs) ∧ H b = some (.tup []) ∧ Q (.bl xs.isEmpty) H
theorem op_ne0 {X : Cx} (hu : X.A.units < cLine) : OpR X (compareOp .NotEq) rNe0 := by
  intro pins s σ H x y v u Q I rx ry h
  obtain ⟨a, b, xs, rfl, rfl, ha, hb, q⟩ := h
  cases rx
  cases ry
  obtain ⟨its, n, rv, e⟩ := lst_at I ha
  obtain ⟨its2, n2, rv2, e2⟩ := lst_at I hb
  cases rv2
  have l1 : s.heap.IsList a its.toArray := ⟨_, e, rfl, n, rfl⟩
  have l2 : s.heap.IsList b ([] : List Value).toArray := ⟨_, e2, rfl, n2, rfl⟩
  cases its with
  | nil =>
    cases rv
    exact SeqAt.RcNeAt.lists (e := fun _ => true) l1 l2 rfl hu (fun j h1 _ => absurd h1 (Nat.not_lt_zero j)) X.prog X.w _ _ ⟨.bl false, H, I, rfl, q⟩
  | cons y ys =>
    cases rv with
    | cons r1 r2 => exact SeqAt.RcNeAt.lists_lengths l1 l2 rfl hu X.prog X.w _ _ ⟨.bl true, H, I, rfl, q⟩
theorem op_eq0 {X : Cx} (hu : X.A.units < cLine) : OpR X (compareOp .Eq) rEq0 := by
  intro pins s σ H x y v u Q I rx ry h
  obtain ⟨a, b, xs, rfl, rfl, ha, hb, q⟩ := h
  cases rx
  cases ry
  obtain ⟨its, o, n, rv, e, ec, ed⟩ := tup_at I ha
  obtain ⟨its2, o2, n2, rv2, e2, ec2, ed2⟩ := tup_at I hb
  cases rv2
  have l1 : s.heap.IsTuple a its.toArray := ⟨_, e, ec, n, ed⟩
  have l2 : s.heap.IsTuple b ([] : List Value).toArray := ⟨_, e2, ec2, n2, ed2⟩
  cases its with
  | nil =>
    cases rv
    exact SeqAt.RcAt.tuples (e := fun _ => true) l1 l2 hu (fun j h1 _ => absurd h1 (Nat.not_lt_zero j)) X.prog X.w _ _ ⟨.bl true, H, I, rfl, q⟩
  | cons y ys =>
    cases rv with
    | cons r1 r2 => exact SeqAt.RcAt.tuples (e := fun _ => true) l1 l2 hu (fun j _ h2 => absurd h2 (Nat.not_lt_zero j)) X.prog X.w _ _ ⟨.bl false, H, I, rfl, q⟩

/-! ### what can be shown -/
mutual
theorem shown_wt {K : PySem.W.Frag} {H : Hp} : ∀ (d : PyData) (v : V), Dt K H v d → d.shown.length ≤ wt d
  | .none, _, _ => by decide +kernel
  | .bool b, _, _ => by cases b <;> decide +kernel
  | .int _, _, _ => Nat.le_refl _
  | .str _, _, _ => Nat.le_refl _
  | .list ds, _, h => by
    cases h with
    | lst _ ha =>
      have h1 := listText_len_le (PyData.shownAll ds)
      have h2 := shownAll_wt ds _ ha
      simp only [PyData.shown, wt]
      omega
  | .tuple ds, _, h => by
    cases h with
    | tup _ ha =>
      have h1 := tupleText_len_le (PyData.shownAll ds)
      have h2 := shownAll_wt ds _ ha
      simp only [PyData.shown, wt]
      omega
  | .dict _, _, h => by
    cases h with
    | dic _ =>
      simp only [PyData.shown, PyData.shownKv, wt]
      decide +kernel
theorem shownAll_wt {K : PySem.W.Frag} {H : Hp} : ∀ (ds : List PyData) (vs : List V), DtAll K H vs ds → ((PyData.shownAll ds).map (·.length)).sum + 2 * (PyData.shownAll ds).length ≤ wts ds
  | [], _, _ => by simp [PyData.shownAll, wts]
  | d :: ds, _, h => by
    cases h with
    | cons h1 h2 =>
      have e1 := shown_wt d _ h1
      have e2 := shownAll_wt ds _ h2
      simp only [PyData.shownAll, wts, List.map_cons, List.sum_cons, List.length_cons]
      omega
end
/-- small, shallow, with ints that can be shown -/
structure Fit (n k : Nat) (d : PyData) : Prop where
  w : wt d ≤ n
  k : d.depth ≤ k
  s : d.showable = true
structure FitAll (n k : Nat) (ds : List PyData) : Prop where
  w : wts ds ≤ n
  k : PyData.depthAll ds ≤ k
  s : PyData.showableAll ds = true
theorem Fit.mono {n k m j : Nat} {d : PyData} (h : Fit n k d) (a : n ≤ m) (b : k ≤ j) : Fit m j d := ⟨Nat.le_trans h.w a, Nat.le_trans h.k b, h.s⟩
theorem Fit.tup {n k : Nat} {ds : List PyData} (h : FitAll n k ds) : Fit (n + 3) (k + 1) (.tuple ds) := ⟨by simp only [wt]; have := h.w; omega, by simp only [PyData.depth]; have := h.k; omega, by simp only [PyData.showable]; exact h.s⟩
theorem Fit.lst {n k : Nat} {ds : List PyData} (h : FitAll n k ds) : Fit (n + 3) (k + 1) (.list ds) := ⟨by simp only [wt]; have := h.w; omega, by simp only [PyData.depth]; have := h.k; omega, by simp only [PyData.showable]; exact h.s⟩
theorem FitAll.nil {k : Nat} : FitAll 0 k [] := ⟨by simp only [wts]; exact Nat.le_refl 0, by simp only [PyData.depthAll]; exact Nat.zero_le _, by simp only [PyData.showableAll]⟩
theorem FitAll.cons {n m k : Nat} {d : PyData} {ds : List PyData} (a : Fit n k d) (b : FitAll m k ds) : FitAll (n + 2 + m) k (d :: ds) :=
  ⟨by simp only [wts]; have := a.w; have := b.w; omega, by simp only [PyData.depthAll]; exact Nat.max_le.mpr ⟨a.k, b.k⟩, by simp only [PyData.showableAll, a.s, b.s, Bool.and_self]⟩
theorem FitAll.mono {n k m j : Nat} {ds : List PyData} (h : FitAll n k ds) (a : n ≤ m) (b : k ≤ j) : FitAll m j ds := ⟨Nat.le_trans h.w a, Nat.le_trans h.k b, h.s⟩
theorem FitAll.append {n m k : Nat} : ∀ {ds es : List PyData}, FitAll n k ds → FitAll m k es → FitAll (n + m) k (ds ++ es)
  | [], es, _, b => b.mono (Nat.le_add_left _ _) (Nat.le_refl _)
  | d :: ds, es, a, b => by
    have w := a.w
    have kk := a.k
    have ss := a.s
    simp only [wts] at w
    simp only [PyData.depthAll] at kk
    simp only [PyData.showableAll, Bool.and_eq_true] at ss
    have r : FitAll (wts ds + m) k (ds ++ es) := FitAll.append ⟨Nat.le_refl _, Nat.le_trans (Nat.le_max_right _ _) kk, ss.2⟩ b
    exact (FitAll.cons (n := wt d) ⟨Nat.le_refl _, Nat.le_trans (Nat.le_max_left _ _) kk, ss.1⟩ r).mono (by omega) (Nat.le_refl _)
theorem FitAll.take {n k : Nat} : ∀ {ds : List PyData} (i : Nat), FitAll n k ds → FitAll n k (ds.take i)
  | ds, 0, _ => by rw [List.take_zero]; exact FitAll.nil.mono (Nat.zero_le _) (Nat.le_refl _)
  | [], i + 1, a => a
  | d :: ds, i + 1, a => by
    have w := a.w
    have kk := a.k
    have ss := a.s
    simp only [wts] at w
    simp only [PyData.depthAll] at kk
    simp only [PyData.showableAll, Bool.and_eq_true] at ss
    have r : FitAll (wts ds) k (ds.take i) := FitAll.take i ⟨Nat.le_refl _, Nat.le_trans (Nat.le_max_right _ _) kk, ss.2⟩
    exact (FitAll.cons (n := wt d) ⟨Nat.le_refl _, Nat.le_trans (Nat.le_max_left _ _) kk, ss.1⟩ r).mono (by omega) (Nat.le_refl _)
theorem FitAll.drop {n k : Nat} : ∀ {ds : List PyData} (i : Nat), FitAll n k ds → FitAll n k (ds.drop i)
  | ds, 0, a => a
  | [], i + 1, a => a
  | d :: ds, i + 1, a => by
    have w := a.w
    have kk := a.k
    have ss := a.s
    simp only [wts] at w
    simp only [PyData.depthAll] at kk
    simp only [PyData.showableAll, Bool.and_eq_true] at ss
    have r : FitAll (wts ds) k (ds.drop i) := FitAll.drop i ⟨Nat.le_refl _, Nat.le_trans (Nat.le_max_right _ _) kk, ss.2⟩
    exact r.mono (by omega) (Nat.le_refl _)
theorem FitAll.mem {n k : Nat} {d : PyData} : ∀ {ds : List PyData}, FitAll n k ds → d ∈ ds → Fit n k d
  | e :: ds, a, h => by
    have w := a.w
    have kk := a.k
    have ss := a.s
    simp only [wts] at w
    simp only [PyData.depthAll] at kk
    simp only [PyData.showableAll, Bool.and_eq_true] at ss
    rcases List.mem_cons.mp h with rfl | h
    · exact ⟨by omega, Nat.le_trans (Nat.le_max_left _ _) kk, ss.1⟩
    · exact FitAll.mem (ds := ds) ⟨by omega, Nat.le_trans (Nat.le_max_right _ _) kk, ss.2⟩ h
theorem Fit.all {n k : Nat} {ds : List PyData} (h : Fit n k (.tuple ds)) : FitAll n k ds ∧ PyData.depthAll ds + 1 ≤ k := by
  have w := h.w
  have kk := h.k
  have ss := h.s
  simp only [wt] at w
  simp only [PyData.depth] at kk
  simp only [PyData.showable] at ss
  exact ⟨⟨by omega, by omega, ss⟩, kk⟩
theorem fit_int {i : Int} {n : Nat} (h : i.natAbs < 10 ^ 41) (hn : 42 ≤ n) {k : Nat} : Fit n k (.int i) := by
  have e := int_text_length_le10 (k := 41) (by decide) h
  have l : wt (.int i) = (toString i).length := by simp only [wt, PyData.shown]; exact ofString_length _
  refine ⟨by rw [l]; omega, by simp only [PyData.depth]; exact Nat.zero_le _, ?_⟩
  simp only [PyData.showable, decide_eq_true_eq]
  have h2 : i.natAbs < 2 ^ 1920 := Nat.lt_trans h (by decide +kernel)
  by_cases z : i.natAbs = 0
  · rw [z]; decide
  · exact (Nat.log2_lt z).mpr h2
theorem fit_non {n k : Nat} (h : 5 ≤ n) : Fit n k .none := ⟨by simp only [wt]; omega, by simp only [PyData.depth]; exact Nat.zero_le _, by simp only [PyData.showable]⟩
theorem fit_bl {n k : Nat} {b : Bool} (h : 5 ≤ n) : Fit n k (.bool b) := ⟨by simp only [wt]; omega, by simp only [PyData.depth]; exact Nat.zero_le _, by simp only [PyData.showable]⟩
theorem fit_dic {n k : Nat} (h : 2 ≤ n) (hk : 1 ≤ k) : Fit n k (.dict []) := ⟨by simp only [wt]; omega, by simp only [PyData.depth, PyData.depthKv]; omega, by simp only [PyData.showable, PyData.showableKv]⟩
theorem fit_str {n k m : Nat} {x : Str} (e : (PyData.str x).shown.length ≤ m) (h : m ≤ n) : Fit n k (.str x) := ⟨by simp only [wt]; omega, by simp only [PyData.depth]; exact Nat.zero_le _, by simp only [PyData.showable]⟩
theorem fit_mach {l n : Nat} {md : PyData} (h : IsMach l n md) (hl : l ≤ 4) (hn : n ≤ 400) : Fit (188 * n + 60) 3 md := by
  obtain ⟨rs, bs, rfl, h1, h2, h3⟩ := h
  have row : ∀ xs : List PyData, (∀ x ∈ xs, x = .none ∨ ∃ i : Int, x = .int i ∧ 0 ≤ i ∧ i < n) → FitAll (44 * xs.length) 0 xs := by
    intro xs
    induction xs with
    | nil => intro _; exact FitAll.nil
    | cons x xs ih =>
      intro hx
      have a : Fit 42 0 x := by
        rcases hx x List.mem_cons_self with rfl | ⟨i, rfl, i0, i1⟩
        · exact fit_non (by decide)
        · exact fit_int (by have : i.natAbs < 400 := by omega
                            omega) (by decide)
      exact (FitAll.cons a (ih fun y hy => hx y (List.mem_cons_of_mem _ hy))).mono (by rw [List.length_cons]; omega) (Nat.le_refl _)
  have rows : ∀ rs : List PyData, (∀ r ∈ rs, IsRow l n r) → FitAll (181 * rs.length) 1 rs := by
    intro rs
    induction rs with
    | nil => intro _; exact FitAll.nil
    | cons r rs ih =>
      intro hr
      obtain ⟨xs, rfl, x1, x2⟩ := hr r List.mem_cons_self
      have a := Fit.tup (row xs x2)
      exact (FitAll.cons a (ih fun y hy => hr y (List.mem_cons_of_mem _ hy))).mono (by rw [List.length_cons, x1]; omega) (Nat.le_refl _)
  have bools : ∀ bs : List Bool, FitAll (7 * bs.length) 1 (bs.map PyData.bool) := by
    intro bs
    induction bs with
    | nil => exact FitAll.nil
    | cons b bs ih => exact (FitAll.cons (n := 5) (fit_bl (by decide)) ih).mono (by rw [List.length_cons]; omega) (Nat.le_refl _)
  have r1 := rows rs h3
  rw [h1] at r1
  have r2 := bools bs
  rw [h2] at r2
  have il : (l : Int).natAbs < 10 ^ 41 := Nat.lt_of_lt_of_le (show (l : Int).natAbs < 5 by omega) (by decide +kernel)
  exact (Fit.tup (FitAll.cons (fit_int (n := 42) il (by decide)) (FitAll.cons (Fit.tup r1) (FitAll.cons (Fit.tup r2) FitAll.nil)))).mono (by omega) (Nat.le_refl _)

/-! ### slices and sums of tuples, one way each -/
def rSlD : V → Option Int → Option Int → Hp → VK → Prop := fun x lo hi H Q => ∃ (a : Addr) (xs : List V), x = .ref a ∧ H a = some (.tup xs) ∧ ∀ (b : Addr) (G : Hp), Same H G → G b = some (.tup (cutV xs lo hi)) → Q (.ref b) G
theorem cut_whole {xs : List V} {lo hi : Option Int} (h : HT.sIx xs.length 0 lo = 0 ∧ HT.sIx xs.length xs.length hi = xs.length) : cutV xs lo hi = xs := by
  unfold cutV
  rw [h.1, h.2, List.drop_zero, Nat.sub_zero, List.take_length]
theorem sl_tupD {X : Cx} : SlR X rSlD := by
  intro pins s σ H x v vl vu lo hi sl Q I rx hs pl pu h
  obtain ⟨a, xs, rfl, ha, q⟩ := h
  exact sl_tupA pins s σ H _ v vl vu lo hi sl Q I rx hs pl pu ⟨a, xs, rfl, .inl (.inl ha), fun hw => q a H (Same.refl H) (by rw [cut_whole hw]; exact ha), fun _ p np => q p _ (same_new np _) upd_same⟩
def rCatD : R2 := fun x y H Q => ∃ (a b : Addr) (xs ys : List V), x = .ref a ∧ y = .ref b ∧ H a = some (.tup xs) ∧ H b = some (.tup ys) ∧ xs.length + ys.length ≤ sizeLine ∧ ∀ (p : Addr) (G : Hp), Same H G → G p = some (.tup (xs ++ ys)) → Q (.ref p) G
theorem op_catD {X : Cx} : OpR X (binaryOp .Add) rCatD := by
  intro pins s σ H x y v u Q I rx ry h
  obtain ⟨a, b, xs, ys, rfl, rfl, ha, hb, hz, q⟩ := h
  refine op_catA pins s σ H _ _ v u Q I rx ry ⟨a, b, xs, ys, rfl, rfl, .inl (.inl ha), .inl (.inl hb), hz, fun e => ?_, fun _ e => ?_, fun _ _ p np => q p _ (same_new np _) upd_same⟩
  · subst e; exact q b H (Same.refl H) hb
  · subst e; exact q a H (Same.refl H) (by rw [List.append_nil]; exact ha)
theorem cut_dt {K : PySem.W.Frag} {H : Hp} {vs : List V} {ds : List PyData} (lo hi : Option Int) (h : DtAll K H vs ds) : ∃ es, DtAll K H (cutV vs lo hi) es ∧ ∀ n k, FitAll n k ds → FitAll n k es :=
  ⟨_, (h.drop _).take _, fun _ _ f => (f.drop _).take _⟩
theorem Deck.tup {H : Hp} {d c b : Addr} {m : Nat} {xs : List V} (D : Deck H d c m) (h : H b = some (.tup xs)) : Hd d c H b = some (.tup xs) := by
  obtain ⟨L, n, h1, h2, _⟩ := D.ex
  exact hd_of h (ne_of h h1 fun z => nomatch z) (ne_of h h2 fun z => nomatch z)

/-- where the top has left a def -/
structure DF (K : PySem.W.Frag) (x : Str) (st : Stmt) (f : Addr) (fd : FuncData) : Prop where
  ns : PySem.W.nsIn K mainGlobals x = some (some (.ref f))
  fn : Fun K x x st f fd
theorem df {K : PySem.W.Frag} {x : Str} {st : Stmt} {f : Addr} {oc : Value} {od an : Option Addr} {osl : Array (Option Value)} {kV doc pm cdv ct : Value} (a : PySem.W.nsIn K mainGlobals x = some (some (.ref f)))
    (l : K.lookup f = some ⟨oc, od, .func (PySem.W.fnOf x x (defArgs st) (defBody st) (defScope st) .none kV doc pm an cdv ct), osl⟩) (c : PySem.W.codeIn K cdv x = true) (k : PySem.W.keepIn K (.ref f) = true) :
    DF K x st f (PySem.W.fnOf x x (defArgs st) (defBody st) (defScope st) .none kV doc pm an cdv ct) := ⟨a, fun_mk l c k⟩
/-- the names that the deck's defs use -/
structure TxC (mg : Str → Option Value) : Prop where
  int : mg "int" = none
  tuple : mg "tuple" = none
  len : mg "len" = none
  abs : mg "abs" = none
  range : mg "range" = none
end KC
/-! Exceptions of own classes held as values: made with and without an own __init__, their classes asked, their fields read; over any built-in base. No row. -/
namespace GX
open PySem PySem.Spec PyProof.Rows L2 PySem.W PySem.Calls PySem.HandSPX
/-- the class at C: over a built-in base with the mro tl -/
structure XC (K : Frag) (C : Addr) (tl : List Value) (newId : String) : Prop where
  cls : ∃ nm q N bs bm sn sub ab col dd k0 k1 k2 k3 k5, K.lookup C = some (excClassObj nm q C N bs bm true sn sub ab col dd k0 k1 k2 k3 k5 newId) ∧ excTail tl bm = true
  sa : findIn K (.ref C) "__setattr__" = some (some (.builtin "object.__setattr__"))
  kC : keepIn K (.ref C) = true
section
variable {prog : Program} {w : World} {A : Around} {E : Value → Shared → Prop} {R : Result → Shared → Prop} {hp : Heap} {g : Array GenState} {d : Drawn} {t : Nat} {os : OsState}
open Builtin Builtin.ObjectAttr
/-- a first field laid on an exception, whatever its base -/
theorem osaG {K : W.Frag} {name : Str} {tk : Tok} {v : Value} {x C : Addr} {fv : Array Value} {cd : ClassData} (X : K.In hp) (hx : hp.get? x = some { cls := .ref C, data := .fields fv }) (hcd : W.clsIn K C = some cd) (n0 : cd.mro.isEmpty = false) (ho : cd.mro.contains (.type "object") = true)
    (pass : ∀ self : Value, refuseLoop self "__setattr__" cd.mro = pure ()) (hh : cd.hasDict = true) (ha : W.findIn K (.ref C) name = some none)
    (hq : ∀ h' tk' dx, (∀ b o, b ≠ x → hp.get? b = some o → h'.get? b = some o) → hp.objs.size ≤ dx → dx ≠ x → h'.get? x = some { cls := .ref C, dict := some dx, data := .fields fv } → h'.Ns1 dx (fun y => if y = name then some v else none) →
      R (.ok (.ret .none)) ⟨h', g, d, tk', os⟩) : codeAny (model prog w) A (.call (.builtin "object.__setattr__") ⟨[.ref x, .str name tk, v], []⟩) R ⟨hp, g, d, t, os⟩ := by
  have J : W.InstAt hp x { cls := .ref C, data := .fields fv } C none := ⟨hx, rfl, rfl, trivial⟩
  have xs : x ≠ hp.objs.size := Nat.ne_of_lt (Heap.lt_size hx)
  have sb : W.Looks (model prog w) hp (isInstance (.ref x) (.type "object")) true := J.type.andThen (W.looks_mroIn X (by
    unfold W.mroIn
    rw [hcd, Option.bind_some, if_neg (by rw [n0]; decide), ho]))
  have Z := F.store_object
  refine codeAny_call_builtin Z.slot.plain Z.entry (@W.check_slot (model prog w) _ _ ⟨hp, g, d, t, os⟩ "object.__setattr__" "object" "__setattr__" (.ref x) [.str name tk, v] [] _ Z.kind Z.split sb
    (Z.args (.ref x) (.str name tk) v) ?_)
  have L1 : W.Looks (model prog w) hp (mroOf (.ref C)) cd.mro := (W.looks_clsIn X hcd).andThen .now
  have L2 : W.Looks (model prog w) hp (storeTaker? none) none := .now
  have L3 : W.Looks (model prog w) hp (classData C) cd := W.looks_clsIn X hcd
  rw [W.osa_eq, refuse_eq]
  refine wpAny_bind (wpAny_bind (J.type.at (wpAny_bind (L1.at ?_))))
  rw [pass]
  refine wpAny_pure (wpAny_bind (J.type.at (wpAny_bind ((W.looks_findIn X ha).at (wpAny_bind (L2.at ?_))))))
  show wpAny _ _ (storeInOwnDict (.ref x) (.ref C) (.str name tk) name v false) _ _ _
  obtain ⟨nm, bs, mro, ns, qn, hd, sn, sb', ab, col, del⟩ := cd
  dsimp only at hh
  subst hh
  unfold storeInOwnDict ownDictForStores
  repeat (first | with_reducible refine store_in_new ?_ ?_ | with_reducible refine wpAny_loadPart_at hx ?_ | with_reducible refine L3.at ?_ | wp_step)
  · exact ⟨_, #[], _, (Heap.get?_update_ne _ _ _ _ xs.symm).trans (Heap.get?_push_at rfl rfl), rfl, (fun e he => absurd he (by simp)), fun _ => rfl⟩
  · intro h' tk' hn' hs
    have hx1 : (hp.push { cls := .type "dict", data := .dict #[] }).get? x = some { cls := .ref C, data := .fields fv } := Heap.get?_push_of_some _ hx
    exact hq h' tk' hp.objs.size (fun b o hb e => (hs.2 b (Nat.ne_of_lt (Heap.lt_size e))).trans ((Heap.get?_update_ne _ _ _ _ hb).trans (Heap.get?_push_of_some _ e))) (Nat.le_refl _) xs.symm
      ((hs.2 x xs).trans (Heap.get?_update_self _ hx1 rfl)) hn'
end
section
variable {X : Cx} {pins : List (Addr × Obj)} {σ : L2.St} {H : Hp} {s : Shared} {a C : Addr} {f : Str} {y : V} {u : Value} {Q : Unit → Shared → Prop} {E : Value → Shared → Prop} {A : Around} {tl : List Value} {B newId initId : String}
theorem ostG (T : XC X.K C tl newId) (S : StoreFacts B tl "object.__setattr__" "object") (I : Inv X pins σ H s) (e : H a = some (exo a C none)) (no : findIn X.K (.ref C) f = some none) (ry : RelV y u)
    (h : ∀ dx s', H dx = none → dx ≠ a → Inv X pins σ (upd (upd H dx (exd dx [(f, y)])) a (exo a C (some dx))) s' → Q () s') : wpAny (model X.prog X.w) A (setAttr (.ref a) f u) Q E s := by
  obtain ⟨nm, q, N, bs, bm, sn, sub, ab, col, dd, k0, k1, k2, k3, k5, hC, hb⟩ := T.cls
  have hc : clsIn X.K C = some { name := nm, bases := bs, mro := .ref C :: bm, ns := N, qualname := q, hasDict := true, slotNames := sn, subclasses := sub, abstract := ab, collection := col, hasDel := false } := by unfold clsIn; rw [hC] <;> rfl
  obtain ⟨t1, ho⟩ := exo_at I.hok e
  obtain ⟨hp, g, d, t, os⟩ := s
  refine set_plain I.kIn (ox := { cls := .ref C, dict := none, data := .fields #[.ref t1, .none, .none, .none, .bool false, .none] }) (od := none) ⟨ho, rfl, rfl, trivial⟩ T.sa ?_
  have hob : (Value.ref C :: bm).contains (.type "object") = true := by
    rw [List.contains_cons, excTail_contains "object" bm hb, S.hasOwner, Bool.or_true]
  refine osaG I.kIn ho hc rfl hob (fun self => by rw [refuseLoop_ref]; exact excTail_pass self (S.passes self) bm hb) rfl no (fun h' tk' dx k dn dne hx hn => ?_)
  have nH : H dx = none := I.hok.fresh dn
  have nb : ∀ {b : Addr} {o : Obj}, hp.get? b = some o → b ≠ dx := fun z => Nat.ne_of_lt (Nat.lt_of_lt_of_le (Heap.lt_size z) dn)
  have na : ∀ {b : Addr}, H b = none → b ≠ a := fun {b} n z => by rw [z, e] at n; cases n
  have U : Un X.fs [] H (upd (upd H dx (exd dx [(f, y)])) a (exo a C (some dx))) hp h' := by
    refine ⟨fun b o z n _ _ => k b o (na n) z, fun b o z n _ _ => ⟨o.slots, k b o (na n) z⟩, fun b o z n _ => by rw [upd_ne (na n), upd_ne (nb z)]; exact n, fun b o z _ => ?_, fun b xs z => ?_, fun b o v z => ?_, fun b ps z => ⟨#[], ?_⟩⟩
    · by_cases hb : b = a
      · exact ⟨_, by rw [hb]; exact hx⟩
      · exact ⟨o, k b o hb z⟩
    · rw [upd_ne (at_ne e z exo_tup), upd_ne (ne_of_none z nH)]; exact z
    · rw [upd_ne (at_ne e z exo_frz), upd_ne (ne_of_none z nH)]; exact z
    · rw [upd_ne (at_ne e z exo_tbl), upd_ne (ne_of_none z nH), z]; simp
  refine h dx _ nH dne (I.un (t' := tk') U fun b o z => ?_)
  by_cases h1 : b = a
  · subst h1
    rw [upd_same] at z
    cases z
    exact exo_ok hx
  rw [upd_ne h1] at z
  by_cases h2 : b = dx
  · subst h2
    rw [upd_same] at z
    cases z
    exact exd_ok hn (relO_put (fs := []) ry fun g => True.intro)
  rw [upd_ne h2] at z
  refine (I.hok b o z).stay (fun c v hc z' => k c v ?_ z') (fun c hc => ?_) (fun c xs hc => ?_)
  · rcases hc with hc | hc
    · rw [hc]; exact h1
    · exact at_ne e hc exo_own
  · rw [upd_ne (at_ne e hc exo_own), upd_ne (ne_of_none hc nH)]; exact hc
  · rw [upd_ne (at_ne e hc exo_tup), upd_ne (ne_of_none hc nH)]; exact hc
end
/-- self.f = e, on an exception that has no field yet -/
def tOstG (K : Frag) (tl : List Value) (newId : String) (f : Str) (to te : TE) : TS := fun D σ H => te σ H fun y H1 => to σ H1 fun x H2 => ∃ a C : Addr, x = .ref a ∧ XC K C tl newId ∧ findIn K (.ref C) f = some none ∧ H2 a = some (exo a C none) ∧
  ∀ dx, H2 dx = none → dx ≠ a → D.nx σ (upd (upd H2 dx (exd dx [(f, y)])) a (exo a C (some dx)))
section
variable {X : Cx} {o e : Expr} {es : List Expr} {to te : TE} {ta : TA} {f : Str} {p p' p1 p2 pos : Pos} {tl : List Value} {B newId initId : String}
theorem ps_ostG (S : StoreFacts B tl "object.__setattr__" "object") (ho : PE X o to) (he : PE X e te) (hs : swapsWith e (some (.Attribute o f p')) pos.line X.env = pure false := by rfl) : PS X (.Assign [.Attribute o f p'] e pos) (tOstG X.K tl newId f to te) := by
  refine ⟨fun pins s σ H D I h => plainObj_wpAny_Assign_Attribute (thn (he.run pins s σ H _ I h) fun v s1 ⟨y, H1, I1, r1, q1⟩ => thn (ho.run pins s1 σ H1 _ I1 q1) fun u s2 ⟨x, H2, I2, r2, a, C, ex, T, no, ea, q⟩ => ?_) hs⟩
  subst ex
  obtain rfl : u = Value.ref a := r2
  exact ostG T S I2 ea no r1 fun dx s' n ne J => ⟨σ, _, J, q dx n ne⟩
/-- C(e, ..) as a value, C with an own __init__ that keeps sp -/
def tExV (C : Addr) (sp : Sp) (ta : TA) : TE := fun σ H Q => ta σ H fun vs H1 => vs.length ≤ 1000 ∧ ∀ a, H1 a = none → sp (.ref a :: vs) (upd H1 a (exo a C none)) (fun v H2 => v = .non ∧ Q (.ref a) H2) (fun _ _ _ => False)
theorem pe_exV {CX : CXT} {x : Str} {C fI : Addr} {k : Nat} {fd : FuncData} {ps : List Str} {sp : Sp} (T : XC X.K C tl newId) (FB : ExcBaseFacts B newId initId tl) (iC : findIn X.K (.ref C) "__init__" = some (some (.ref fI))) (tI : typeIn X.K (.ref fI) = some (.type "function"))
    (F1 : FnOk X.prog X.w X.K X.mg X.base CX k fI fd ps sp) (hr : Room (k + 1) X.A) (hb : L2.Binds X.K fd ps []) (hx : L2.Passes CX X (fun _ _ _ => False)) (hg : L2.Gl X x) (hm : X.mg x = some (.ref C)) (ha : PA X (e :: es) ta)
    (hdb : (x == ("__debug__" : Str)) = false := by decide) (he : starEach (e :: es) X.env = (false, eval e X.env) :: starEach es X.env := by rfl) (hpl : (backTo pos (starEach es X.env)).any (·.1) = false := by rfl) :
    PE X (.Call (.Name x p) (e :: es) [] pos) (tExV C sp ta) := by
  refine ⟨fun pins s σ H Q I h => ?_⟩
  obtain ⟨nm, q, N, bs, bm, sn, sub, ab, col, dd, k0, k1, k2, k3, k5, hC, hbm⟩ := T.cls
  refine wpAny_Call_Name_kw (ld_glob I hg hm ?_ hdb)
  refine PySem.W.callWith_K (h₀ := X.base) I.ok.mod.kin T.kC (thn (ha.run pos pins s σ H _ I h) fun us s1 ⟨vs, H1, I1, r1, hz, q1⟩ => ⟨I1.kIn, show wpAny _ _ (call (.ref C) us) _ _ _ from ?_⟩) he hpl
  obtain ⟨hp, g, dr, tk, os⟩ := s1
  have sz : hp.objs.size ≤ hp.objs.size + 1 := Nat.le_succ _
  have n1 : H1 (hp.objs.size + 1) = none := I1.hok.fresh sz
  have hq := q1 (hp.objs.size + 1) n1
  have kk : ∀ b o, hp.get? b = some o → ((hp.push (PySem.W.kdv_tup us)).push (PySem.HandSPX.excO C hp.objs.size)).get? b = some o := fun b o z => Heap.get?_push_of_some _ (Heap.get?_push_of_some _ z)
  have hget : ((hp.push (PySem.W.kdv_tup us)).push (PySem.HandSPX.excO C hp.objs.size)).get? (hp.objs.size + 1) = some (PySem.HandSPX.excO C hp.objs.size) := by heap_get
  have I2 : Inv X pins σ (upd H1 (hp.objs.size + 1) (exo (hp.objs.size + 1) C none)) ⟨(hp.push (PySem.W.kdv_tup us)).push (PySem.HandSPX.excO C hp.objs.size), g, dr, tk, os⟩ := I1.laid (t' := tk) kk sz (exo_ok hget)
  have r2 : Vals (V.ref (hp.objs.size + 1) :: vs) (Value.ref (hp.objs.size + 1) :: us) := .cons rfl r1
  have hl : (Value.ref (hp.objs.size + 1) :: us ++ []).length = ps.length := by
    rw [List.append_nil, ← r2.length]
    exact F1.len _ _ _ _ hq
  have b := hb _ (Value.ref (hp.objs.size + 1) :: us) I2.kIn hl
  rw [List.append_nil] at b
  refine wpAny_call (PySem.HandSPX.call_own FB (fun Y => excTail_contains Y bm hbm) (I1.kIn _ _ hC) (looks_findIn I1.kIn iC) (fun self => bind_fn I1.kIn self tI) (by rw [← Paired.length r1, sizeLine_eq]; omega)
    (codeAny_mono (F1.run _ X.stack _ _ ⟨Value.ref (hp.objs.size + 1) :: us, []⟩ _ _ _ (fun _ _ _ => False) (hr.make C us []) (I2.env0.make C us []) b r2 hq) fun r s' hq' => ?_))
  cases r with
  | error er => exact hx pins σ _ _ er s' I2 hq'
  | ok fl =>
    cases fl with
    | ret u =>
      obtain ⟨v, H2, os2, bare2, un, hok2, rv, ev, q2⟩ := hq'
      subst ev
      obtain ⟨h2, g2, d2, t2, os'⟩ := s'
      refine ⟨rv, .ref (hp.objs.size + 1), H2, ?_, rfl, q2⟩
      have nha : ∀ {b : Addr} {o : Obj}, hp.get? b = some o → b ≠ hp.objs.size + 1 := fun z => Nat.ne_of_lt (Nat.lt_succ_of_lt (Heap.lt_size z))
      have up : ∀ {b : Addr}, b ≠ hp.objs.size + 1 → H1 b = none → upd H1 (hp.objs.size + 1) (exo (hp.objs.size + 1) C none) b = none := fun hb n => by rw [upd_ne hb]; exact n
      have U : Un (frs X.stack) [] H1 H2 hp h2 := ⟨fun b o z n hf hx => un.keep b o (kk b o z) (up (nha z) n) hf hx, fun b o z n hf hx => un.slot b o (kk b o z) (up (nha z) n) hf hx, fun b o z n hx => un.free b o (kk b o z) (up (nha z) n) hx,
        fun b o z hx => un.there b o (kk b o z) hx, fun b xs z => un.tups b xs (by rw [upd_ne (ne_of_none z n1)]; exact z), fun b o v z => un.frzs b o v (by rw [upd_ne (ne_of_none z n1)]; exact z), fun b ps z => un.tbls b ps (by rw [upd_ne (ne_of_none z n1)]; exact z)⟩
      exact I1.call' (ch := []) os2 U hok2 bare2 (fun b z => absurd z (by simp))
    | next => exact False.elim hq'
    | brk => exact False.elim hq'
    | cont => exact False.elim hq'
end
end GX
/-! The same, going on: C() without an own __init__; isinstance of such a value; its fields. No row. -/
namespace GX
open PySem PySem.Spec PyProof.Rows L2 PySem.W PySem.Calls PySem.HandSPX
section
variable {X : Cx} {x : Str} {C : Addr} {p pos : Pos} {tl : List Value} {B newId initId : String}
/-- C() as a value -/
theorem pe_ex0V (F : ExcBaseFacts B newId initId tl) (q : excIn X.K C tl newId = true) (hm : X.mg x = some (.ref C)) (kC : keepIn X.K (.ref C) = true) (hg : L2.Gl X x) (hdb : (x == ("__debug__" : Str)) = false := by decide) :
    PE X (.Call (.Name x p) [] [] pos) (fun _ H Q => ∀ a, H a = none → Q (.ref a) (upd H a (exo a C none))) := by
  refine ⟨fun pins s σ H Q I h => ?_⟩
  refine wpAny_Call_Name_kw (ld_glob I hg hm ?_ hdb)
  refine PySem.W.callWith_K0 I.kIn kC ?_
  obtain ⟨bm, N, nm, qn, bs, hdct, sn, sub, ab, col, dd, k0, k1, k2, k3, k5, mN, hC, hN, hni, T⟩ := exc_obj I.kIn q
  obtain ⟨hp, g, d, tk, os⟩ := s
  refine wpAny_call_exc_subT (rest := []) F T hC hN hni (fun h' a mk => ?_) (Nat.zero_le _)
  have n1 : H a = none := I.hok.gone mk.new
  obtain ⟨t, ht, _, _⟩ := mk.there
  exact ⟨.ref a, upd H a (exo a C none), I.laidN mk.keeps mk.new n1 (exo_ok ht), rfl, h a n1⟩
end
section
variable {X : Cx} {pins : List (Addr × Obj)} {σ : L2.St} {H : Hp} {s : Shared} {a C : Addr}
/-- an exception that is tracked, as the library's rules look at it -/
theorem exo_inst (I : Inv X pins σ H s) {d : Option Addr} (e : H a = some (exo a C d)) (hd : ∀ dx, d = some dx → ∃ fs, H dx = some (exd dx fs)) : ∃ ox od, InstAt s.heap a ox C od := by
  obtain ⟨t1, ho⟩ := exo_at I.hok e
  cases d with
  | none => exact ⟨_, none, ho, rfl, rfl, trivial⟩
  | some dx =>
    obtain ⟨fs, e2⟩ := hd dx rfl
    obtain ⟨mA, hn, _⟩ := exd_at I.hok e2
    obtain ⟨od, h1, _⟩ := lookIn_ns hn
    exact ⟨_, some od, ho, rfl, rfl, h1⟩
end
/-- an exception that is held: its class, its dict if it has one -/
def ExAt (H : Hp) (a C : Addr) : Prop := ∃ d : Option Addr, H a = some (exo a C d) ∧ ∀ dx, d = some dx → ∃ fs, H dx = some (exd dx fs)
theorem ExAt.same {H H' : Hp} {a C : Addr} (h : ExAt H a C) (s : Same H H') : ExAt H' a C := let ⟨d, h1, h2⟩ := h; ⟨d, s _ _ h1, fun dx e => let ⟨fs, z⟩ := h2 dx e; ⟨fs, s _ _ z⟩⟩
/-- isinstance(e, c) -/
def rIsX (K : Frag) : List V → Hp → VK → Prop := fun xs H Q => ∃ (a C : Addr) (c : V) (u : Value) (b : Bool), xs = [.ref a, c] ∧ ClsV c u ∧ ExcC K C ∧ ExAt H a C ∧ kitOne K (.ref C) u = some b ∧ Q (.bl b) H
section
variable {X : Cx}
theorem call_isX : CallR X (.builtin "isinstance") (rIsX X.K) := by
  intro pins s σ H xs us Q I r h
  obtain ⟨a, C, c, u, b, rfl, k, T, ⟨d, e1, e2⟩, e, q⟩ := h
  obtain ⟨u1, u2, rfl, r1, r2⟩ := vals2 r
  have z := k.eq r2
  subst z
  obtain rfl : u1 = Value.ref a := r1
  obtain ⟨ox, od, J⟩ := exo_inst I e1 e2
  have hc : (clsIn X.K C).isSome = true := by
    have := T.hd
    unfold hasDictIn at this
    cases h : clsIn X.K C with
    | none => rw [h] at this; cases this
    | some _ => rfl
  exact kia_one (kitx_exc hc T.hg T.hk T.hs T.ha T.hn T.ht T.hm) I.kIn J e (fun z => nomatch z) fun tk => ⟨.bl b, H, I.tok tk, rfl, q⟩
/-- e.f, e an exception that is tracked -/
def tXfV (K : Frag) (f : Str) (te : TE) : TE := fun σ H Q => te σ H fun x H1 => ∃ (a C dx : Addr) (fs : List (Str × V)) (v : V), x = .ref a ∧ XfC K C ∧ findIn K (.ref C) f = some none ∧ H1 a = some (exo a C (some dx)) ∧ H1 dx = some (exd dx fs) ∧ fs.lookup f = some v ∧ Q v H1
theorem pe_xfV {e : Expr} {te : TE} {pos : Pos} {n : Str} (he : PE X e te) (hb : attributeBase e n X.env (eval e X.env) = eval e X.env := by rfl) : PE X (.Attribute e n pos) (tXfV X.K n te) := by
  refine ⟨fun pins s σ H Q I h => attr_of hb (thn (he.run pins s σ H _ I h) fun u s1 ⟨x, H1, I1, rx, a, C, dx, fs, v, ex, T, no, e1, e2, l, q⟩ => ?_)⟩
  subst ex
  obtain rfl : u = Value.ref a := rx
  obtain ⟨t1, ho⟩ := exo_at I1.hok e1
  obtain ⟨mA, hn, hr⟩ := exd_at I1.hok e2
  obtain ⟨od, h1, h2⟩ := lookIn_ns hn
  obtain ⟨u, hu, ru⟩ := RelO.some_of (v := v) (o := mA n) (by rw [← l]; exact hr n)
  have J : InstAt s1.heap a { cls := .ref C, dict := some dx, data := .fields #[.ref t1, .none, .none, .none, .bool false, .none] } C (some od) := ⟨ho, rfl, rfl, h1⟩
  exact HandSPX.exc_get I1.kIn J T.ga T.gg T.exC (findObj_own T.hdC no rfl (by rw [h2, hu])) (handed_of ru) ⟨v, H1, I1.tok _, ru, q⟩
end
end GX
/-! repr of data, or of a dict of one text with a number. No row. -/
namespace GX
open PySem PySem.Spec PyProof.Rows L2 GL
/-- the text that repr gives -/
def Rp (K : PySem.W.Frag) (H : Hp) (v : V) (t : Str) : Prop :=
  (∃ d, Dt K H v d ∧ d.showable = true ∧ d.depth ≤ 60 ∧ d.shown.length ≤ sizeLine ∧ t = d.shown) ∨ ∃ (a : Addr) (k : Str) (i : Int), v = .ref a ∧ H a = some (.dK [(.inr k, .int i)]) ∧ (PyData.int i).showable = true ∧ (PyData.str k).shown.length ≤ 100 ∧ t.length ≤ 1000 ∧
    t = dictText [((PyData.str k).shown ++ ": " ++ (PyData.int i).shown)]
theorem Rp.same {K : PySem.W.Frag} {H H' : Hp} {v : V} {t : Str} (s : Same H H') : Rp K H v t → Rp K H' v t
  | .inl ⟨d, h, r⟩ => .inl ⟨d, h.same s, r⟩
  | .inr ⟨a, k, i, e, h, r⟩ => .inr ⟨a, k, i, e, s _ _ h, r⟩
def rReprX (K : PySem.W.Frag) : List V → Hp → VK → Prop := fun xs H Q => ∃ v t, xs = [v] ∧ Rp K H v t ∧ Q (.str t) H
theorem call_reprX {X : Cx} (hg : X.A.guards = some []) (hu : X.A.units + 64 < cLine) : CallR X (.builtin "repr") (rReprX X.K) := by
  intro pins s σ H xs us Q I r h
  obtain ⟨v, t, rfl, hp, q⟩ := h
  rcases hp with ⟨d, hd, h1, h2, h3, rfl⟩ | ⟨a, k, i, rfl, ha, hi, hk, ht, rfl⟩
  · exact call_reprD hg hu pins s σ H _ us Q I r ⟨v, d, rfl, hd, h1, h2, h3, q⟩
  obtain ⟨u, rfl, ru⟩ := vals1 r
  cases ru
  obtain ⟨_, ne, vs, kv, o, es, ep, e1, e2, e3, e4, e5, _⟩ := (show ObjOk X.prog X.w H s.heap a (.dK [(.inr k, .int i)]) from I.hok a _ ha)
  cases kv with
  | @cons p pv _ _ h1 h2 =>
  cases h2
  obtain ⟨pk, pw⟩ := pv
  obtain ⟨rfl, t1, rfl⟩ : Sum.inr k = pk ∧ ∃ t1, pw = Value.int i t1 := h1
  cases q5 : es.toList with
  | nil => rw [q5] at e5; cases e5
  | cons en er =>
  rw [q5] at e5
  cases e5 with
  | cons k1 k2 k3 =>
  cases k3
  have k1' : keyIs (.inr k) en.key = true := k1
  have hkey : ∃ t2, en.key = Value.str k t2 := by
    rcases keyIs_shape k1' with ⟨j, t2, z, _⟩ | ⟨x, t2, z, z2⟩
    · cases z
    · cases z
      exact ⟨t2, z2⟩
  obtain ⟨t2, hkey⟩ := hkey
  have hval : en.val = Value.int i t1 := k2
  have kl : (PyData.str k).shown.length ≤ sizeLine := Nat.le_trans hk (by decide)
  have ek : ReprK X.prog X.w [] s.heap 0 en.key (PyData.str k).shown := by
    rw [hkey]
    simp only [PyData.shown]
    exact .of_is (ReprIs.str k t2 (by simpa only [PyData.shown] using kl)) _ _ _
  have ev : ReprK X.prog X.w [] s.heap 0 en.val (PyData.int i).shown := by
    rw [hval]
    simp only [PyData.shown]
    exact .of_is (ReprIs.int t1 (by simpa [PyData.showable] using hi)) _ _ _
  refine call_repr_slot (T := "dict") (by omega) ⟨_, e1, e2.1⟩ F.slot_dict_repr ?_
  exact call_dict_reprK (d := 0) (as := []) e1 e2.1 e3 ne (fun q => nomatch q) (by rw [q5]; exact .cons ek ev .nil) (A := X.A.in1) hg (fun b _ => Clear.nil b) (by show X.A.units + 1 + _ < cLine; omega) (fun _ _ e => e)
    (fun h' t tk k' => ⟨_, _, rfl, ⟨.str _, H, I.kept k', ⟨t, rfl⟩, q⟩⟩) (Nat.le_trans ht (by decide))
end GX
namespace K00
open PySem L2 GL KC
def top (i : Nat) : Stmt := PySem.Challenge.pw_pairedaway_k00_errors_made_by_hand.main.body.getD i (.Pass ⟨0, 0, 0, 0⟩)
abbrev sDeck : Stmt := top 77
abbrev sDraw : Stmt := top 78
abbrev sOne : Stmt := top 79
section
variable {P : Program} {w : World} {K : PySem.W.Frag} {mg : Str → Option Value} {base : Heap}
theorem scDeck : FnScope ["_law_script", "_law_cell"] ["_law_script"] (defScope sDeck) := ⟨rfl, rfl, rfl, by decide +kernel, rfl, by decide +kernel, by decide +kernel⟩
theorem ok_deck {f : Addr} {fd : FuncData} (F : Fun K "_law_deck" "_law_deck" sDeck f fd) (T : TxC mg) : FnOk P w K mg base CX0 1 f fd ["_law_script"] (spDeck K) := by
  refine F.ok scDeck (fun vs H Q E h => ?_) (fun cdv A outer s H vs Q E hr h => ?_)
  · obtain ⟨a, ns, rfl, _⟩ := h
    rfl
  obtain ⟨a, ns, rfl, hS, hl, q⟩ := h
  refine ⟨_, pss_one (ps_ret (pe_lst (pa_cons (pe_lc (own := [("_law_cell", 1)]) (g := gName 1) (tt := tYes) rfl scDeck.nd (pi_list (pe_slice sl_list (pv 0) po_none (po_some pe_int)))
      (blkOk_by (own := [("_law_cell", 1)]) (N := ["_law_script", "_law_cell"]) (sc := defScope sDeck) (by decide +kernel)) (fun _ _ _ _ _ => pg_name (i := 1) scDeck.nd rfl (Or.inl rfl)) (fun _ _ _ _ _ => pts_nil)
      (fun _ _ _ _ _ => pe_callB call_absS (by rfl) T.abs (by decide +kernel) (pa_cons (pv 1) pa_nil))) (pa_cons pe_int pa_nil)))), ?_⟩
  refine ⟨_, rfl, _, rfl, a, _, rfl, hS, fun p np => ?_⟩
  have isI : ∀ x ∈ cutV (ns.map V.int) none (some 63), ∃ i : Int, x = .int i := fun x hx => by
    obtain ⟨i, _, e⟩ := List.mem_map.mp (cut_mem hx)
    exact ⟨i, e.symm⟩
  have ll : (cutV (ns.map V.int) none (some 63)).length ≤ 63 := by
    have := cutV_length (ns.map V.int) none (some 63)
    rw [List.length_map] at this
    omega
  generalize cutV (ns.map V.int) none (some 63) = xs at isI ll
  have sp : Same H (upd H p (.lst xs)) := same_new np _
  refine ⟨p, rfl, ⟨_, .inl (.inl upd_same)⟩, fun L nL => lc_list (K := K) (a := p) (xs := xs) (fun i G => Same (upd H p (.lst xs)) G ∧ ∃ ys : List Int, G L = some (.lst (ys.map V.int)) ∧ ys.length = i ∧ ∀ y ∈ ys, 0 ≤ y)
    ⟨same_new nL _, [], upd_same, rfl, fun y z => nomatch z⟩ (fun i G _ h => .inl (.inl (h.1 _ _ upd_same))) (fun i x G hx h => ?_) fun G h => ?_⟩
  · obtain ⟨s1, ys, y1, y2, y3⟩ := h
    obtain ⟨z, rfl⟩ := isI x (List.mem_of_getElem? hx)
    have il : i < xs.length := (List.getElem?_eq_some_iff.mp hx).1
    refine ⟨rfl, _, rfl, z, rfl, _, y1, by rw [List.length_map, y2]; show i < 2 ^ 24; omega, same_grow nL s1 _, ys ++ [if z < 0 then -z else z], by rw [upd_same, List.map_append]; rfl, by rw [List.length_append, y2]; rfl, ?_⟩
    intro y hy
    rcases List.mem_append.mp hy with hy | hy
    · exact y3 y hy
    · rw [List.mem_singleton.mp hy]
      split <;> omega
  · obtain ⟨s1, ys, y1, y2, y3⟩ := h
    refine ⟨by show 2 ≤ 2 ^ 24; decide, fun d nd => ?_⟩
    have sG : Same H G := sp.trans s1
    have ndL : d ≠ L := fun e => by rw [e, y1] at nd; cases nd
    have nHL : H L = none := sp.free nL
    refine q d L _ (sG.trans (same_new nd _)) (sG.free nd) nHL ⟨ndL, ys, 0, upd_same, by rw [upd_ne ndL.symm]; exact y1, by omega, y3, Nat.le_refl _⟩
theorem scDraw : FnScope ["_law_deck_here", "_law_many", "_law_cell", "_law_at", "_law_mixed"] ["_law_deck_here", "_law_many"] (defScope sDraw) := ⟨rfl, rfl, rfl, by decide +kernel, rfl, by decide +kernel, by decide +kernel⟩
theorem ok_draw {f : Addr} {fd : FuncData} (F : Fun K "_law_draw" "_law_draw" sDraw f fd) (T : TxC mg) : FnOk P w K mg base CX0 1 f fd ["_law_deck_here", "_law_many"] spDraw := by
  refine F.ok scDraw (fun vs H Q E h => ?_) (fun cdv A outer s H vs Q E hr h => ?_)
  · obtain ⟨d, c, many, m, rfl, _⟩ := h
    rfl
  obtain ⟨d, c, many, m, rfl, D, hm, p1, p2, q⟩ := h
  refine ⟨_, pss_cons (ps_asg (pe_op op_add (pe_ix ix_list (pv 0) pe_int (fun _ _ => rfl)) pe_int) (pg_sub (pv 0) pe_int set_list))
    (pss_cons (ps_asg (pe_tup (pa_cons pe_int (pa_cons (pe_un un_neg pe_int) pa_nil))) (pg_tup (by rfl) (pgs_cons (pg_name (i := 2) scDraw.nd rfl (Or.inl rfl)) (pgs_cons (pg_name (i := 3) scDraw.nd rfl (Or.inl rfl)) pgs_nil))))
    (pss_cons (ps_if (pt_cmpR op_gt (pe_callB call_len_seq (by rfl) T.len PySem.boot_len (pa_cons (pe_ix ix_list (pv 0) pe_int (fun _ _ => rfl)) pa_nil)) pe_int (nomark _))
      (pss_cons (ps_set (i := 3) scDraw.nd rfl (Or.inl rfl) (pe_op op_mod (pe_callTy call_int1 (by rfl) T.int (by decide +kernel) (pa_cons (pe_ix ix_list (pv 0) pe_int (fun _ _ => rfl)) pa_nil)) (pe_callB call_len_seq (by rfl) T.len PySem.boot_len (pa_cons (pe_ix ix_list (pv 0) pe_int (fun _ _ => rfl)) pa_nil))))
      (pss_one (ps_set (i := 2) scDraw.nd rfl (Or.inl rfl) (pe_ix ix_list (pe_ix ix_list (pv 0) pe_int (fun _ _ => rfl)) (pv 3) (fun _ _ => rfl))))) pss_nil)
    (pss_cons (ps_if (pt_cmpR op_ge (pv 2) (pe_op op_pow pe_int pe_int) (nomark _))
      (pss_cons (ps_asg (pe_op op_fdiv (pe_callTy call_int1 (by rfl) T.int (by decide +kernel) (pa_cons (pv 2) pa_nil)) (pv 1)) (pg_sub (pe_ix ix_list (pv 0) pe_int (fun _ _ => rfl)) (pv 3) set_list))
      (pss_one (ps_ret (pe_op op_mod (pe_callTy call_int1 (by rfl) T.int (by decide +kernel) (pa_cons (pv 2) pa_nil)) (pv 1))))) pss_nil)
    (pss_cons (ps_set (i := 4) scDraw.nd rfl (Or.inl rfl) (pe_op op_add (pe_op op_add (pe_op op_mod (pe_callTy call_int1 (by rfl) T.int (by decide +kernel) (pa_cons (pv 2) pa_nil)) pe_int) (pe_op op_mul pe_int (pe_ix ix_list (pv 0) pe_int (fun _ _ => rfl)))) pe_int))
    (pss_one (ps_ret (pe_op op_mod (pe_callTy call_int1 (by rfl) T.int (by decide +kernel) (pa_cons (pe_op op_mod (pe_callTy call_int1 (by rfl) T.int (by decide +kernel) (pa_cons (pe_op op_pow (pv 4) pe_int) pa_nil)) pe_int) pa_nil)) (pv 1)))))))), ?_⟩
  obtain ⟨ne, L, n, h1, h2, h3, h4, h5⟩ := D
  -- the count goes up
  refine ⟨_, rfl, d, _, 1, .int n, rfl, rfl, .inl (.inl h1), rfl, _, _, rfl, rfl, _, rfl, d, _, 1, 1, rfl, rfl, h1, rfl, ?_⟩
  have e1 : (List.set [V.ref c, V.int n] 1 (V.int ((n : Int) + 1))) = [.ref c, .int ((n + 1 : Nat) : Int)] := rfl
  rw [e1]
  have g1 : upd H d (.lst [.ref c, .int ((n + 1 : Nat) : Int)]) d = some (.lst [.ref c, .int ((n + 1 : Nat) : Int)]) := upd_same
  have g2 : upd H d (.lst [.ref c, .int ((n + 1 : Nat) : Int)]) c = some (.lst (L.map V.int)) := by rw [upd_ne ne.symm]; exact h2
  have sH : Same (Hd d c H) (Hd d c (upd H d (.lst [.ref c, .int ((n + 1 : Nat) : Int)]))) := hd_put (.inl rfl) _
  generalize upd H d (.lst [.ref c, .int ((n + 1 : Nat) : Int)]) = H1 at g1 g2 sH
  have D1 : Deck H1 d c (m + 1) := ⟨ne, L, n + 1, g1, g2, h3, h4, Nat.succ_le_succ h5⟩
  -- the cell and its place
  refine ⟨_, rfl, by show 2 ≤ 2 ^ 24; decide, fun p np => ?_⟩
  replace sH := sH.trans (hd_new np (.tup [V.int 0, V.int (-1)]))
  have gt : upd H1 p (.tup [V.int 0, V.int (-1)]) p = some (.tup [V.int 0, V.int (-1)]) := upd_same
  replace g1 := same_new np (.tup [V.int 0, V.int (-1)]) _ _ g1
  replace g2 := same_new np (.tup [V.int 0, V.int (-1)]) _ _ g2
  replace D1 := D1.new np (.tup [V.int 0, V.int (-1)])
  generalize upd H1 p (.tup [V.int 0, V.int (-1)]) = H2 at sH gt g1 g2 D1
  refine ⟨p, _, rfl, .inl (.inl gt), rfl, _, _, rfl, _, _, rfl, rfl, ?_⟩
  refine ⟨_, rfl, d, _, 0, _, rfl, rfl, .inl (.inl g1), rfl, c, _, rfl, .inl (.inl (.inl g2)), _, _, rfl, rfl, _, rfl, ?_⟩
  have hL : ((L.map V.int).length : Int) = (L.length : Int) := by rw [List.length_map]
  refine ite2 (fun c0 => ?_) (fun c0 => ?_)
  · have lp : 0 < L.length := by have := of_decide_eq_true c0; rw [hL] at this; omega
    have k0 : 0 ≤ ((n + 1 : Nat) : Int) % ((L.map V.int).length : Int) := Int.emod_nonneg _ (by rw [hL]; omega)
    have k1 : ((n + 1 : Nat) : Int) % ((L.map V.int).length : Int) < (L.length : Int) := by
      have := Int.emod_lt_of_pos ((n + 1 : Nat) : Int) (b := ((L.map V.int).length : Int)) (by rw [hL]; omega)
      rw [hL] at this ⊢
      exact this
    have hk : ∀ z : Int, (10 : Int) ^ (18 : Int).toNat ≤ z → ∃ j, ixN (L.map V.int).length (((n + 1 : Nat) : Int) % ((L.map V.int).length : Int)) = some j ∧ j < L.length := fun _ _ => ⟨_, by unfold ixN; rw [if_pos k0, if_pos (by omega)], by omega⟩
    obtain ⟨j0, ej⟩ : ∃ j : Nat, ((n + 1 : Nat) : Int) % ((L.map V.int).length : Int) = (j : Int) := ⟨_, (Int.toNat_of_nonneg k0).symm⟩
    have jl : j0 < L.length := by rw [ej] at k1; omega
    obtain ⟨z, hz0⟩ : ∃ z, L[j0]? = some z := ⟨_, List.getElem?_eq_getElem jl⟩
    have hz : 0 ≤ z := h4 _ (List.mem_of_getElem? hz0)
    replace hk := hk z
    refine ⟨_, rfl, d, _, 1, _, rfl, rfl, .inl (.inl g1), rfl, .inl ⟨_, rfl, ?_⟩⟩
    refine ⟨_, rfl, d, _, 0, _, rfl, rfl, .inl (.inl g1), rfl, c, _, rfl, .inl (.inl (.inl g2)), _, _, rfl, rfl, (by rw [hL]; show (0 : Int) < L.length; omega), ?_⟩
    refine ⟨_, rfl, d, _, 0, _, rfl, rfl, .inl (.inl g1), rfl, _, rfl, c, _, _, _, rfl, rfl, .inl (.inl g2), at_of ej (by rw [List.getElem?_map, hz0]; rfl), ?_⟩
    refine ⟨_, rfl, _, _, rfl, rfl, ⟨by decide, by decide, by decide⟩, _, _, rfl, rfl, _, rfl, ite2 (fun c1 => ?_) (fun c1 => ?_)⟩
    · obtain ⟨j, hj, hj2⟩ := hk (of_decide_eq_true c1)
      refine ⟨_, rfl, .inl ⟨_, rfl, _, rfl, _, _, rfl, rfl, ⟨p1, p2⟩, _, rfl, d, _, 0, _, rfl, rfl, .inl (.inl g1), rfl, _, rfl, c, _, _, j, rfl, rfl, g2, hj, ?_⟩⟩
      refine ⟨_, rfl, .inl ⟨_, rfl, _, rfl, _, _, rfl, rfl, p1, ?_⟩⟩
      refine q _ _ (Int.emod_nonneg _ (by omega)) (Int.emod_lt_of_pos _ p1) ⟨ne, L.set j (z / many), n + 1, ?_, ?_, ?_, ?_, Nat.succ_le_succ h5⟩ (sH.trans (hd_put (.inr rfl) _))
      · rw [upd_ne ne]; exact g1
      · rw [upd_same, List.map_set]
      · rw [List.length_set]; exact h3
      · intro x hx
        rcases List.mem_or_eq_of_mem_set hx with hx | hx
        · exact h4 x hx
        · rw [hx]; exact Int.ediv_nonneg hz (by omega)
    · have b1 : 0 ≤ z % 2147483563 := Int.emod_nonneg _ (by decide)
      have b2 : z % 2147483563 < 2147483563 := Int.emod_lt_of_pos _ (by decide)
      refine ⟨_, rfl, .inl ⟨_, rfl, _, _, rfl, rfl, by show (0 : Int) < 2147483563; decide, _, rfl, d, _, 1, _, rfl, rfl, .inl (.inl g1), rfl, _, _, rfl, rfl, .inl ⟨by decide, by decide⟩, _, _, rfl, rfl, _, _, rfl, rfl, ?_⟩⟩
      refine ⟨_, rfl, _, _, rfl, rfl, ⟨by decide, by decide, ?_⟩, .inl ⟨_, rfl, _, _, rfl, rfl, by show (0 : Int) < 2147483629; decide, .inl ⟨_, rfl, _, rfl, _, _, rfl, rfl, p1, ?_⟩⟩⟩
      · show (z % 2147483563 + 8117 * ((n + 1 : Nat) : Int) + 3).natAbs < 2 ^ 64
        omega
      · exact q _ _ (Int.emod_nonneg _ (by omega)) (Int.emod_lt_of_pos _ p1) D1 sH
  · have hz : (0 : Int) ≤ 0 := Int.le_refl 0
    have hk : (10 : Int) ^ (18 : Int).toNat ≤ 0 → ∃ j, ixN (L.map V.int).length (-1) = some j ∧ j < L.length := fun h => absurd h (by decide)
    refine ⟨_, rfl, _, _, rfl, rfl, ⟨by decide, by decide, by decide⟩, _, _, rfl, rfl, _, rfl, ite2 (fun c1 => ?_) (fun c1 => ?_)⟩
    · obtain ⟨j, hj, hj2⟩ := hk (of_decide_eq_true c1)
      refine ⟨_, rfl, .inl ⟨_, rfl, _, rfl, _, _, rfl, rfl, ⟨p1, p2⟩, _, rfl, d, _, 0, _, rfl, rfl, .inl (.inl g1), rfl, _, rfl, c, _, _, j, rfl, rfl, g2, hj, ?_⟩⟩
      refine ⟨_, rfl, .inl ⟨_, rfl, _, rfl, _, _, rfl, rfl, p1, ?_⟩⟩
      refine q _ _ (Int.emod_nonneg _ (by omega)) (Int.emod_lt_of_pos _ p1) ⟨ne, L.set j ((0 : Int) / many), n + 1, ?_, ?_, ?_, ?_, Nat.succ_le_succ h5⟩ (sH.trans (hd_put (.inr rfl) _))
      · rw [upd_ne ne]; exact g1
      · rw [upd_same, List.map_set]
      · rw [List.length_set]; exact h3
      · intro x hx
        rcases List.mem_or_eq_of_mem_set hx with hx | hx
        · exact h4 x hx
        · rw [hx]; exact Int.ediv_nonneg hz (by omega)
    · have b1 : 0 ≤ (0 : Int) % 2147483563 := Int.emod_nonneg _ (by decide)
      have b2 : (0 : Int) % 2147483563 < 2147483563 := Int.emod_lt_of_pos _ (by decide)
      refine ⟨_, rfl, .inl ⟨_, rfl, _, _, rfl, rfl, by show (0 : Int) < 2147483563; decide, _, rfl, d, _, 1, _, rfl, rfl, .inl (.inl g1), rfl, _, _, rfl, rfl, .inl ⟨by decide, by decide⟩, _, _, rfl, rfl, _, _, rfl, rfl, ?_⟩⟩
      refine ⟨_, rfl, _, _, rfl, rfl, ⟨by decide, by decide, ?_⟩, .inl ⟨_, rfl, _, _, rfl, rfl, by show (0 : Int) < 2147483629; decide, .inl ⟨_, rfl, _, rfl, _, _, rfl, rfl, p1, ?_⟩⟩⟩
      · show ((0 : Int) % 2147483563 + 8117 * ((n + 1 : Nat) : Int) + 3).natAbs < 2 ^ 64
        omega
      · exact q _ _ (Int.emod_nonneg _ (by omega)) (Int.emod_lt_of_pos _ p1) D1 sH
end
section
variable {P : Program} {w : World} {K : PySem.W.Frag} {mg : Str → Option Value} {base : Heap}
theorem scOne : FnScope ["_law_deck_here", "_law_items"] ["_law_deck_here", "_law_items"] (defScope sOne) := ⟨rfl, rfl, rfl, by decide +kernel, rfl, by decide +kernel, by decide +kernel⟩
theorem ok_one {f fD : Addr} {fd fdD : FuncData} (F : Fun K "_law_one" "_law_one" sOne f fd) (T : TxC mg) (W : Dfn P w K mg base "_law_draw" 1 fD fdD ["_law_deck_here", "_law_many"] spDraw) :
    FnOk P w K mg base CX0 2 f fd ["_law_deck_here", "_law_items"] spOne := by
  refine F.ok scOne (fun vs H Q E h => ?_) (fun cdv A outer s H vs Q E hr h => ?_)
  · obtain ⟨d, c, a, xs, m, rfl, _⟩ := h
    rfl
  obtain ⟨d, c, a, xs, m, rfl, D, hm, ha, x0, x1, q⟩ := h
  refine ⟨_, pss_one (ps_ret (pe_ix ix_list (pv 1) (pe_call W.ok hr rfl W.m W.kp W.b .nil pass0 (pa_cons (pv 0) (pa_cons (pe_callB call_len_seq (by rfl) T.len PySem.boot_len (pa_cons (pv 1) pa_nil)) pa_nil))) (fun _ _ => rfl))), ?_⟩
  refine ⟨_, rfl, _, rfl, _, rfl, a, xs, rfl, .inl (.inl (.inl (hd_sub _ _ ha))), d, c, xs.length, m, rfl, D, hm, by omega, by omega, fun r G r0 r1 D2 s2 => ?_⟩
  obtain ⟨j, rfl⟩ : ∃ j : Nat, r = (j : Int) := ⟨r.toNat, by omega⟩
  have jl : j < xs.length := by omega
  obtain ⟨v, hv⟩ : ∃ v, xs[j]? = some v := ⟨_, List.getElem?_eq_getElem jl⟩
  exact ⟨a, xs, _, v, rfl, rfl, .inl (.inl (hd_sub _ _ (s2 _ _ ha))), atI_nat hv, q v G (List.mem_of_getElem? hv) D2 s2⟩
end
end K00
namespace K00
open PySem L2 GL KC GX
def cDef (s : Stmt) : Stmt := match s with
  | .ClassDef _ _ _ b _ _ _ _ _ _ _ => b.getD 0 s
  | s => s
abbrev vE : List Value := [.type "ValueError", .type "Exception", .type "BaseException", .type "object"]
abbrev lE : List Value := [.type "LookupError", .type "Exception", .type "BaseException", .type "object"]
def spInit (C : Addr) (f : Str) : Sp := fun vs H Q _ => ∃ (a : Addr) (y : V), vs = [.ref a, y] ∧ H a = some (exo a C none) ∧ ∀ dx, H dx = none → dx ≠ a → Q .non (upd (upd H dx (exd dx [(f, y)])) a (exo a C (some dx)))
section
variable {P : Program} {w : World} {K : PySem.W.Frag} {mg : Str → Option Value} {base : Heap}
abbrev sI0 : Stmt := cDef (top 3)
theorem scI0 : FnScope ["self", "line"] ["self", "line"] (defScope sI0) := ⟨rfl, rfl, rfl, by decide +kernel, rfl, by decide +kernel, by decide +kernel⟩
theorem ok_init0 {f C : Addr} {fd : FuncData} (F : Fun K "__init__" "BadText.__init__" sI0 f fd) (T : XC K C vE "ValueError.__new__") (no : PySem.W.findIn K (.ref C) "line" = some none) : FnOk P w K mg base CX0 1 f fd ["self", "line"] (spInit C "line") := by
  refine F.ok scI0 (fun vs H Q E h => ?_) (fun cdv A outer s H vs Q E hr h => ?_)
  · obtain ⟨a, y, rfl, _⟩ := h
    rfl
  obtain ⟨a, y, rfl, e, q⟩ := h
  exact ⟨_, pss_one (ps_ostG (newId := "ValueError.__new__") PySem.F.store_ValueError (pv 0) (pv 1)), _, rfl, _, rfl, a, C, rfl, T, no, e, q⟩
abbrev sI1 : Stmt := cDef (top 4)
theorem scI1 : FnScope ["self", "error"] ["self", "error"] (defScope sI1) := ⟨rfl, rfl, rfl, by decide +kernel, rfl, by decide +kernel, by decide +kernel⟩
theorem ok_init1 {f C : Addr} {fd : FuncData} (F : Fun K "__init__" "BadScheme.__init__" sI1 f fd) (T : XC K C vE "ValueError.__new__") (no : PySem.W.findIn K (.ref C) "error" = some none) : FnOk P w K mg base CX0 1 f fd ["self", "error"] (spInit C "error") := by
  refine F.ok scI1 (fun vs H Q E h => ?_) (fun cdv A outer s H vs Q E hr h => ?_)
  · obtain ⟨a, y, rfl, _⟩ := h
    rfl
  obtain ⟨a, y, rfl, e, q⟩ := h
  exact ⟨_, pss_one (ps_ostG (newId := "ValueError.__new__") PySem.F.store_ValueError (pv 0) (pv 1)), _, rfl, _, rfl, a, C, rfl, T, no, e, q⟩
abbrev sI2 : Stmt := cDef (top 5)
theorem scI2 : FnScope ["self", "error"] ["self", "error"] (defScope sI2) := ⟨rfl, rfl, rfl, by decide +kernel, rfl, by decide +kernel, by decide +kernel⟩
theorem ok_init2 {f C : Addr} {fd : FuncData} (F : Fun K "__init__" "BadRule.__init__" sI2 f fd) (T : XC K C vE "ValueError.__new__") (no : PySem.W.findIn K (.ref C) "error" = some none) : FnOk P w K mg base CX0 1 f fd ["self", "error"] (spInit C "error") := by
  refine F.ok scI2 (fun vs H Q E h => ?_) (fun cdv A outer s H vs Q E hr h => ?_)
  · obtain ⟨a, y, rfl, _⟩ := h
    rfl
  obtain ⟨a, y, rfl, e, q⟩ := h
  exact ⟨_, pss_one (ps_ostG (newId := "ValueError.__new__") PySem.F.store_ValueError (pv 0) (pv 1)), _, rfl, _, rfl, a, C, rfl, T, no, e, q⟩
abbrev sI3 : Stmt := cDef (top 6)
theorem scI3 : FnScope ["self", "word"] ["self", "word"] (defScope sI3) := ⟨rfl, rfl, rfl, by decide +kernel, rfl, by decide +kernel, by decide +kernel⟩
theorem ok_init3 {f C : Addr} {fd : FuncData} (F : Fun K "__init__" "BadWord.__init__" sI3 f fd) (T : XC K C vE "ValueError.__new__") (no : PySem.W.findIn K (.ref C) "word" = some none) : FnOk P w K mg base CX0 1 f fd ["self", "word"] (spInit C "word") := by
  refine F.ok scI3 (fun vs H Q E h => ?_) (fun cdv A outer s H vs Q E hr h => ?_)
  · obtain ⟨a, y, rfl, _⟩ := h
    rfl
  obtain ⟨a, y, rfl, e, q⟩ := h
  exact ⟨_, pss_one (ps_ostG (newId := "ValueError.__new__") PySem.F.store_ValueError (pv 0) (pv 1)), _, rfl, _, rfl, a, C, rfl, T, no, e, q⟩
abbrev sI4 : Stmt := cDef (top 7)
theorem scI4 : FnScope ["self", "length"] ["self", "length"] (defScope sI4) := ⟨rfl, rfl, rfl, by decide +kernel, rfl, by decide +kernel, by decide +kernel⟩
theorem ok_init4 {f C : Addr} {fd : FuncData} (F : Fun K "__init__" "BadLength.__init__" sI4 f fd) (T : XC K C vE "ValueError.__new__") (no : PySem.W.findIn K (.ref C) "length" = some none) : FnOk P w K mg base CX0 1 f fd ["self", "length"] (spInit C "length") := by
  refine F.ok scI4 (fun vs H Q E h => ?_) (fun cdv A outer s H vs Q E hr h => ?_)
  · obtain ⟨a, y, rfl, _⟩ := h
    rfl
  obtain ⟨a, y, rfl, e, q⟩ := h
  exact ⟨_, pss_one (ps_ostG (newId := "ValueError.__new__") PySem.F.store_ValueError (pv 0) (pv 1)), _, rfl, _, rfl, a, C, rfl, T, no, e, q⟩
abbrev sI5 : Stmt := cDef (top 8)
theorem scI5 : FnScope ["self", "which"] ["self", "which"] (defScope sI5) := ⟨rfl, rfl, rfl, by decide +kernel, rfl, by decide +kernel, by decide +kernel⟩
theorem ok_init5 {f C : Addr} {fd : FuncData} (F : Fun K "__init__" "NotRight.__init__" sI5 f fd) (T : XC K C vE "ValueError.__new__") (no : PySem.W.findIn K (.ref C) "which" = some none) : FnOk P w K mg base CX0 1 f fd ["self", "which"] (spInit C "which") := by
  refine F.ok scI5 (fun vs H Q E h => ?_) (fun cdv A outer s H vs Q E hr h => ?_)
  · obtain ⟨a, y, rfl, _⟩ := h
    rfl
  obtain ⟨a, y, rfl, e, q⟩ := h
  exact ⟨_, pss_one (ps_ostG (newId := "ValueError.__new__") PySem.F.store_ValueError (pv 0) (pv 1)), _, rfl, _, rfl, a, C, rfl, T, no, e, q⟩
abbrev sI6 : Stmt := cDef (top 9)
theorem scI6 : FnScope ["self", "word"] ["self", "word"] (defScope sI6) := ⟨rfl, rfl, rfl, by decide +kernel, rfl, by decide +kernel, by decide +kernel⟩
theorem ok_init6 {f C : Addr} {fd : FuncData} (F : Fun K "__init__" "NotLeft.__init__" sI6 f fd) (T : XC K C vE "ValueError.__new__") (no : PySem.W.findIn K (.ref C) "word" = some none) : FnOk P w K mg base CX0 1 f fd ["self", "word"] (spInit C "word") := by
  refine F.ok scI6 (fun vs H Q E h => ?_) (fun cdv A outer s H vs Q E hr h => ?_)
  · obtain ⟨a, y, rfl, _⟩ := h
    rfl
  obtain ⟨a, y, rfl, e, q⟩ := h
  exact ⟨_, pss_one (ps_ostG (newId := "ValueError.__new__") PySem.F.store_ValueError (pv 0) (pv 1)), _, rfl, _, rfl, a, C, rfl, T, no, e, q⟩
abbrev sI7 : Stmt := cDef (top 12)
theorem scI7 : FnScope ["self", "fault"] ["self", "fault"] (defScope sI7) := ⟨rfl, rfl, rfl, by decide +kernel, rfl, by decide +kernel, by decide +kernel⟩
theorem ok_init7 {f C : Addr} {fd : FuncData} (F : Fun K "__init__" "Faulty.__init__" sI7 f fd) (T : XC K C vE "ValueError.__new__") (no : PySem.W.findIn K (.ref C) "fault" = some none) : FnOk P w K mg base CX0 1 f fd ["self", "fault"] (spInit C "fault") := by
  refine F.ok scI7 (fun vs H Q E h => ?_) (fun cdv A outer s H vs Q E hr h => ?_)
  · obtain ⟨a, y, rfl, _⟩ := h
    rfl
  obtain ⟨a, y, rfl, e, q⟩ := h
  exact ⟨_, pss_one (ps_ostG (newId := "ValueError.__new__") PySem.F.store_ValueError (pv 0) (pv 1)), _, rfl, _, rfl, a, C, rfl, T, no, e, q⟩
abbrev sI13 : Stmt := cDef (top 18)
theorem scI13 : FnScope ["self", "index"] ["self", "index"] (defScope sI13) := ⟨rfl, rfl, rfl, by decide +kernel, rfl, by decide +kernel, by decide +kernel⟩
theorem ok_init13 {f C : Addr} {fd : FuncData} (F : Fun K "__init__" "BadEdit.__init__" sI13 f fd) (T : XC K C vE "ValueError.__new__") (no : PySem.W.findIn K (.ref C) "index" = some none) : FnOk P w K mg base CX0 1 f fd ["self", "index"] (spInit C "index") := by
  refine F.ok scI13 (fun vs H Q E h => ?_) (fun cdv A outer s H vs Q E hr h => ?_)
  · obtain ⟨a, y, rfl, _⟩ := h
    rfl
  obtain ⟨a, y, rfl, e, q⟩ := h
  exact ⟨_, pss_one (ps_ostG (newId := "ValueError.__new__") PySem.F.store_ValueError (pv 0) (pv 1)), _, rfl, _, rfl, a, C, rfl, T, no, e, q⟩
abbrev sI14 : Stmt := cDef (top 19)
theorem scI14 : FnScope ["self", "index"] ["self", "index"] (defScope sI14) := ⟨rfl, rfl, rfl, by decide +kernel, rfl, by decide +kernel, by decide +kernel⟩
theorem ok_init14 {f C : Addr} {fd : FuncData} (F : Fun K "__init__" "Rejected.__init__" sI14 f fd) (T : XC K C vE "ValueError.__new__") (no : PySem.W.findIn K (.ref C) "index" = some none) : FnOk P w K mg base CX0 1 f fd ["self", "index"] (spInit C "index") := by
  refine F.ok scI14 (fun vs H Q E h => ?_) (fun cdv A outer s H vs Q E hr h => ?_)
  · obtain ⟨a, y, rfl, _⟩ := h
    rfl
  obtain ⟨a, y, rfl, e, q⟩ := h
  exact ⟨_, pss_one (ps_ostG (newId := "ValueError.__new__") PySem.F.store_ValueError (pv 0) (pv 1)), _, rfl, _, rfl, a, C, rfl, T, no, e, q⟩
abbrev sI17 : Stmt := cDef (top 20)
theorem scI17 : FnScope ["self", "index"] ["self", "index"] (defScope sI17) := ⟨rfl, rfl, rfl, by decide +kernel, rfl, by decide +kernel, by decide +kernel⟩
theorem ok_init17 {f C : Addr} {fd : FuncData} (F : Fun K "__init__" "NoPair.__init__" sI17 f fd) (T : XC K C lE "LookupError.__new__") (no : PySem.W.findIn K (.ref C) "index" = some none) : FnOk P w K mg base CX0 1 f fd ["self", "index"] (spInit C "index") := by
  refine F.ok scI17 (fun vs H Q E h => ?_) (fun cdv A outer s H vs Q E hr h => ?_)
  · obtain ⟨a, y, rfl, _⟩ := h
    rfl
  obtain ⟨a, y, rfl, e, q⟩ := h
  exact ⟨_, pss_one (ps_ostG (newId := "LookupError.__new__") PySem.F.store_LookupError (pv 0) (pv 1)), _, rfl, _, rfl, a, C, rfl, T, no, e, q⟩
abbrev sI18 : Stmt := cDef (top 21)
theorem scI18 : FnScope ["self", "version"] ["self", "version"] (defScope sI18) := ⟨rfl, rfl, rfl, by decide +kernel, rfl, by decide +kernel, by decide +kernel⟩
theorem ok_init18 {f C : Addr} {fd : FuncData} (F : Fun K "__init__" "NoVersion.__init__" sI18 f fd) (T : XC K C lE "LookupError.__new__") (no : PySem.W.findIn K (.ref C) "version" = some none) : FnOk P w K mg base CX0 1 f fd ["self", "version"] (spInit C "version") := by
  refine F.ok scI18 (fun vs H Q E h => ?_) (fun cdv A outer s H vs Q E hr h => ?_)
  · obtain ⟨a, y, rfl, _⟩ := h
    rfl
  obtain ⟨a, y, rfl, e, q⟩ := h
  exact ⟨_, pss_one (ps_ostG (newId := "LookupError.__new__") PySem.F.store_LookupError (pv 0) (pv 1)), _, rfl, _, rfl, a, C, rfl, T, no, e, q⟩
end
end K00
namespace K00
open PySem L2 GL KC GX
abbrev sValue : Stmt := top 80
abbrev sKinds : Stmt := top 81
abbrev sKr : Stmt := top 82
abbrev sFr : Stmt := top 83
structure Txt (K : PySem.W.Frag) (mg : Str → Option Value) (cs : Nat → Addr) : Prop where
  c : TxC mg
  isi : mg "isinstance" = none
  repr : mg "repr" = none
  str : mg "str" = none
  le : mg "LookupError" = none
  ve : mg "ValueError" = none
  m0 : mg "BadText" = some (.ref (cs 0))
  m1 : mg "BadScheme" = some (.ref (cs 1))
  m2 : mg "BadRule" = some (.ref (cs 2))
  m3 : mg "BadWord" = some (.ref (cs 3))
  m4 : mg "BadLength" = some (.ref (cs 4))
  m5 : mg "NotRight" = some (.ref (cs 5))
  m6 : mg "NotLeft" = some (.ref (cs 6))
  m7 : mg "Faulty" = some (.ref (cs 7))
  m8 : mg "Busy" = some (.ref (cs 8))
  m9 : mg "TooManyEdits" = some (.ref (cs 9))
  m10 : mg "NothingToUndo" = some (.ref (cs 10))
  m11 : mg "NothingToRedo" = some (.ref (cs 11))
  m12 : mg "BadEdits" = some (.ref (cs 12))
  m13 : mg "BadEdit" = some (.ref (cs 13))
  m14 : mg "Rejected" = some (.ref (cs 14))
  m15 : mg "TooFar" = some (.ref (cs 15))
  m16 : mg "TooGreat" = some (.ref (cs 16))
  m17 : mg "NoPair" = some (.ref (cs 17))
  m18 : mg "NoVersion" = some (.ref (cs 18))
  m19 : mg "PairError" = some (.ref (cs 19))
  ec : ∀ i, i < 20 → ExcC K (cs i)
  tab : ∀ i, i < 20 → ∀ j, j < 17 → PySem.W.kitOne K (.ref (cs i)) (.ref (cs j)) = some (decide (i = j))
  pe : ∀ i, i < 20 → PySem.W.kitOne K (.ref (cs i)) (.ref (cs 19)) = some (decide (i < 17 ∨ i = 19))
  np : PySem.W.kitOne K (.ref (cs 17)) (.ref (cs 18)) = some false
  nv : PySem.W.kitOne K (.ref (cs 18)) (.ref (cs 17)) = some false
  tve : ∀ i, i < 20 → PySem.W.kitOne K (.ref (cs i)) (.type "ValueError") = some (decide (i < 17 ∨ i = 19))
  tle : ∀ i, i < 20 → PySem.W.kitOne K (.ref (cs i)) (.type "LookupError") = some (decide (i = 17 ∨ i = 18))
/-- what `_law_kinds` tells of the class with the number i -/
def kindRow (i : Nat) : List Bool := (List.range 17).map fun j => decide (i = j)
def spKinds (cs : Nat → Addr) : Sp := fun vs H Q _ => ∃ (a : Addr) (i : Nat), vs = [.ref a] ∧ i < 20 ∧ ExAt H a (cs i) ∧ ∀ L G, Same H G → G L = some (.lst ((kindRow i).map V.bl)) → Q (.ref L) G
section
variable {P : Program} {w : World} {K : PySem.W.Frag} {mg : Str → Option Value} {base : Heap} {cs : Nat → Addr}
theorem scKs : FnScope ["_law_e", "_law_found"] ["_law_e"] (defScope sKinds) := ⟨rfl, rfl, rfl, by decide +kernel, rfl, by decide +kernel, by decide +kernel⟩
theorem ok_kinds {f : Addr} {fd : FuncData} (F : Fun K "_law_kinds" "_law_kinds" sKinds f fd) (T : Txt K mg cs) : FnOk P w K mg base CX0 1 f fd ["_law_e"] (spKinds cs) := by
  refine F.ok scKs (fun vs H Q E h => ?_) (fun cdv A outer s H vs Q E hr h => ?_)
  · obtain ⟨a, i, rfl, _⟩ := h
    rfl
  obtain ⟨a, i, rfl, hi, hE, q⟩ := h
  refine ⟨_, (pss_cons (ps_set (i := 1) scKs.nd rfl (Or.inl rfl) (pe_lst (pa_cons (pe_callB (show CallR _ _ (rIsX K) from call_isX) (by rfl) T.isi (by decide +kernel) (pa_cons (pv 0) (pa_cons (pe_glob (v := .ref (cs 0)) rfl T.m0 rfl) pa_nil)))
        (pa_cons (pe_callB (show CallR _ _ (rIsX K) from call_isX) (by rfl) T.isi (by decide +kernel) (pa_cons (pv 0) (pa_cons (pe_glob (v := .ref (cs 1)) rfl T.m1 rfl) pa_nil)))
        (pa_cons (pe_callB (show CallR _ _ (rIsX K) from call_isX) (by rfl) T.isi (by decide +kernel) (pa_cons (pv 0) (pa_cons (pe_glob (v := .ref (cs 2)) rfl T.m2 rfl) pa_nil)))
        (pa_cons (pe_callB (show CallR _ _ (rIsX K) from call_isX) (by rfl) T.isi (by decide +kernel) (pa_cons (pv 0) (pa_cons (pe_glob (v := .ref (cs 3)) rfl T.m3 rfl) pa_nil)))
        pa_nil))))))
      (pss_cons (ps_set (i := 1) scKs.nd rfl (Or.inl rfl) (pe_op op_cat (pv 1) (pe_lst (pa_cons (pe_callB (show CallR _ _ (rIsX K) from call_isX) (by rfl) T.isi (by decide +kernel) (pa_cons (pv 0) (pa_cons (pe_glob (v := .ref (cs 4)) rfl T.m4 rfl) pa_nil)))
        (pa_cons (pe_callB (show CallR _ _ (rIsX K) from call_isX) (by rfl) T.isi (by decide +kernel) (pa_cons (pv 0) (pa_cons (pe_glob (v := .ref (cs 5)) rfl T.m5 rfl) pa_nil)))
        (pa_cons (pe_callB (show CallR _ _ (rIsX K) from call_isX) (by rfl) T.isi (by decide +kernel) (pa_cons (pv 0) (pa_cons (pe_glob (v := .ref (cs 6)) rfl T.m6 rfl) pa_nil)))
        pa_nil))))))
      (pss_cons (ps_set (i := 1) scKs.nd rfl (Or.inl rfl) (pe_op op_cat (pv 1) (pe_lst (pa_cons (pe_callB (show CallR _ _ (rIsX K) from call_isX) (by rfl) T.isi (by decide +kernel) (pa_cons (pv 0) (pa_cons (pe_glob (v := .ref (cs 7)) rfl T.m7 rfl) pa_nil)))
        (pa_cons (pe_callB (show CallR _ _ (rIsX K) from call_isX) (by rfl) T.isi (by decide +kernel) (pa_cons (pv 0) (pa_cons (pe_glob (v := .ref (cs 8)) rfl T.m8 rfl) pa_nil)))
        (pa_cons (pe_callB (show CallR _ _ (rIsX K) from call_isX) (by rfl) T.isi (by decide +kernel) (pa_cons (pv 0) (pa_cons (pe_glob (v := .ref (cs 9)) rfl T.m9 rfl) pa_nil)))
        pa_nil))))))
      (pss_cons (ps_set (i := 1) scKs.nd rfl (Or.inl rfl) (pe_op op_cat (pv 1) (pe_lst (pa_cons (pe_callB (show CallR _ _ (rIsX K) from call_isX) (by rfl) T.isi (by decide +kernel) (pa_cons (pv 0) (pa_cons (pe_glob (v := .ref (cs 10)) rfl T.m10 rfl) pa_nil)))
        (pa_cons (pe_callB (show CallR _ _ (rIsX K) from call_isX) (by rfl) T.isi (by decide +kernel) (pa_cons (pv 0) (pa_cons (pe_glob (v := .ref (cs 11)) rfl T.m11 rfl) pa_nil)))
        (pa_cons (pe_callB (show CallR _ _ (rIsX K) from call_isX) (by rfl) T.isi (by decide +kernel) (pa_cons (pv 0) (pa_cons (pe_glob (v := .ref (cs 12)) rfl T.m12 rfl) pa_nil)))
        pa_nil))))))
      (pss_cons (ps_set (i := 1) scKs.nd rfl (Or.inl rfl) (pe_op op_cat (pv 1) (pe_lst (pa_cons (pe_callB (show CallR _ _ (rIsX K) from call_isX) (by rfl) T.isi (by decide +kernel) (pa_cons (pv 0) (pa_cons (pe_glob (v := .ref (cs 13)) rfl T.m13 rfl) pa_nil)))
        (pa_cons (pe_callB (show CallR _ _ (rIsX K) from call_isX) (by rfl) T.isi (by decide +kernel) (pa_cons (pv 0) (pa_cons (pe_glob (v := .ref (cs 14)) rfl T.m14 rfl) pa_nil)))
        (pa_cons (pe_callB (show CallR _ _ (rIsX K) from call_isX) (by rfl) T.isi (by decide +kernel) (pa_cons (pv 0) (pa_cons (pe_glob (v := .ref (cs 15)) rfl T.m15 rfl) pa_nil)))
        pa_nil))))))
      (pss_one (ps_ret (pe_op op_cat (pv 1) (pe_lst (pa_cons (pe_callB (show CallR _ _ (rIsX K) from call_isX) (by rfl) T.isi (by decide +kernel) (pa_cons (pv 0) (pa_cons (pe_glob (v := .ref (cs 16)) rfl T.m16 rfl) pa_nil)))
        pa_nil)))))))))), ?_⟩
  have s0 : Same H H := Same.refl H
  refine ⟨_, rfl, a, cs i, .ref (cs 0), .ref (cs 0), _, rfl, .own _, T.ec i hi, hE, T.tab i hi 0 (by decide), 
    _, rfl, a, cs i, .ref (cs 1), .ref (cs 1), _, rfl, .own _, T.ec i hi, hE, T.tab i hi 1 (by decide), 
    _, rfl, a, cs i, .ref (cs 2), .ref (cs 2), _, rfl, .own _, T.ec i hi, hE, T.tab i hi 2 (by decide), 
    _, rfl, a, cs i, .ref (cs 3), .ref (cs 3), _, rfl, .own _, T.ec i hi, hE, T.tab i hi 3 (by decide), by show 4 ≤ 2 ^ 24; decide, fun l1 n1 => ?_⟩
  have s1 := s0.trans (same_new n1 (.lst [V.bl (decide (i = 0)), V.bl (decide (i = 1)), V.bl (decide (i = 2)), V.bl (decide (i = 3))]))
  replace hE := hE.same (same_new n1 (.lst [V.bl (decide (i = 0)), V.bl (decide (i = 1)), V.bl (decide (i = 2)), V.bl (decide (i = 3))]))
  have g1 : upd H l1 (.lst [V.bl (decide (i = 0)), V.bl (decide (i = 1)), V.bl (decide (i = 2)), V.bl (decide (i = 3))]) l1 = some (.lst [V.bl (decide (i = 0)), V.bl (decide (i = 1)), V.bl (decide (i = 2)), V.bl (decide (i = 3))]) := upd_same
  generalize upd H l1 (.lst [V.bl (decide (i = 0)), V.bl (decide (i = 1)), V.bl (decide (i = 2)), V.bl (decide (i = 3))]) = H1 at s1 hE g1 
  refine ⟨_, rfl, _, rfl, a, cs i, .ref (cs 4), .ref (cs 4), _, rfl, .own _, T.ec i hi, hE, T.tab i hi 4 (by decide), 
    _, rfl, a, cs i, .ref (cs 5), .ref (cs 5), _, rfl, .own _, T.ec i hi, hE, T.tab i hi 5 (by decide), 
    _, rfl, a, cs i, .ref (cs 6), .ref (cs 6), _, rfl, .own _, T.ec i hi, hE, T.tab i hi 6 (by decide), by show 3 ≤ 2 ^ 24; decide, fun l2 n2 => ?_⟩
  have s2 := s1.trans (same_new n2 (.lst [V.bl (decide (i = 4)), V.bl (decide (i = 5)), V.bl (decide (i = 6))]))
  replace hE := hE.same (same_new n2 (.lst [V.bl (decide (i = 4)), V.bl (decide (i = 5)), V.bl (decide (i = 6))]))
  have g2 : upd H1 l2 (.lst [V.bl (decide (i = 4)), V.bl (decide (i = 5)), V.bl (decide (i = 6))]) l2 = some (.lst [V.bl (decide (i = 4)), V.bl (decide (i = 5)), V.bl (decide (i = 6))]) := upd_same
  replace g1 := same_new n2 (.lst [V.bl (decide (i = 4)), V.bl (decide (i = 5)), V.bl (decide (i = 6))]) _ _ g1
  generalize upd H1 l2 (.lst [V.bl (decide (i = 4)), V.bl (decide (i = 5)), V.bl (decide (i = 6))]) = H2 at s2 hE g2 g1
  refine ⟨l1, l2, _, _, rfl, rfl, g1, g2, by show 7 ≤ 2 ^ 24; decide, fun l3 n3 => ?_⟩
  have s3 := s2.trans (same_new n3 (.lst ([V.bl (decide (i = 0)), V.bl (decide (i = 1)), V.bl (decide (i = 2)), V.bl (decide (i = 3))] ++ [V.bl (decide (i = 4)), V.bl (decide (i = 5)), V.bl (decide (i = 6))])))
  replace hE := hE.same (same_new n3 (.lst ([V.bl (decide (i = 0)), V.bl (decide (i = 1)), V.bl (decide (i = 2)), V.bl (decide (i = 3))] ++ [V.bl (decide (i = 4)), V.bl (decide (i = 5)), V.bl (decide (i = 6))])))
  have g3 : upd H2 l3 (.lst ([V.bl (decide (i = 0)), V.bl (decide (i = 1)), V.bl (decide (i = 2)), V.bl (decide (i = 3))] ++ [V.bl (decide (i = 4)), V.bl (decide (i = 5)), V.bl (decide (i = 6))])) l3 = some (.lst [V.bl (decide (i = 0)), V.bl (decide (i = 1)), V.bl (decide (i = 2)), V.bl (decide (i = 3)), V.bl (decide (i = 4)), V.bl (decide (i = 5)), V.bl (decide (i = 6))]) := upd_same
  generalize upd H2 l3 (.lst ([V.bl (decide (i = 0)), V.bl (decide (i = 1)), V.bl (decide (i = 2)), V.bl (decide (i = 3))] ++ [V.bl (decide (i = 4)), V.bl (decide (i = 5)), V.bl (decide (i = 6))])) = H3 at s3 hE g3
  refine ⟨_, rfl, _, rfl, a, cs i, .ref (cs 7), .ref (cs 7), _, rfl, .own _, T.ec i hi, hE, T.tab i hi 7 (by decide), 
    _, rfl, a, cs i, .ref (cs 8), .ref (cs 8), _, rfl, .own _, T.ec i hi, hE, T.tab i hi 8 (by decide), 
    _, rfl, a, cs i, .ref (cs 9), .ref (cs 9), _, rfl, .own _, T.ec i hi, hE, T.tab i hi 9 (by decide), by show 3 ≤ 2 ^ 24; decide, fun l4 n4 => ?_⟩
  have s4 := s3.trans (same_new n4 (.lst [V.bl (decide (i = 7)), V.bl (decide (i = 8)), V.bl (decide (i = 9))]))
  replace hE := hE.same (same_new n4 (.lst [V.bl (decide (i = 7)), V.bl (decide (i = 8)), V.bl (decide (i = 9))]))
  have g4 : upd H3 l4 (.lst [V.bl (decide (i = 7)), V.bl (decide (i = 8)), V.bl (decide (i = 9))]) l4 = some (.lst [V.bl (decide (i = 7)), V.bl (decide (i = 8)), V.bl (decide (i = 9))]) := upd_same
  replace g3 := same_new n4 (.lst [V.bl (decide (i = 7)), V.bl (decide (i = 8)), V.bl (decide (i = 9))]) _ _ g3
  generalize upd H3 l4 (.lst [V.bl (decide (i = 7)), V.bl (decide (i = 8)), V.bl (decide (i = 9))]) = H4 at s4 hE g4 g3
  refine ⟨l3, l4, _, _, rfl, rfl, g3, g4, by show 10 ≤ 2 ^ 24; decide, fun l5 n5 => ?_⟩
  have s5 := s4.trans (same_new n5 (.lst ([V.bl (decide (i = 0)), V.bl (decide (i = 1)), V.bl (decide (i = 2)), V.bl (decide (i = 3)), V.bl (decide (i = 4)), V.bl (decide (i = 5)), V.bl (decide (i = 6))] ++ [V.bl (decide (i = 7)), V.bl (decide (i = 8)), V.bl (decide (i = 9))])))
  replace hE := hE.same (same_new n5 (.lst ([V.bl (decide (i = 0)), V.bl (decide (i = 1)), V.bl (decide (i = 2)), V.bl (decide (i = 3)), V.bl (decide (i = 4)), V.bl (decide (i = 5)), V.bl (decide (i = 6))] ++ [V.bl (decide (i = 7)), V.bl (decide (i = 8)), V.bl (decide (i = 9))])))
  have g5 : upd H4 l5 (.lst ([V.bl (decide (i = 0)), V.bl (decide (i = 1)), V.bl (decide (i = 2)), V.bl (decide (i = 3)), V.bl (decide (i = 4)), V.bl (decide (i = 5)), V.bl (decide (i = 6))] ++ [V.bl (decide (i = 7)), V.bl (decide (i = 8)), V.bl (decide (i = 9))])) l5 = some (.lst [V.bl (decide (i = 0)), V.bl (decide (i = 1)), V.bl (decide (i = 2)), V.bl (decide (i = 3)), V.bl (decide (i = 4)), V.bl (decide (i = 5)), V.bl (decide (i = 6)), V.bl (decide (i = 7)), V.bl (decide (i = 8)), V.bl (decide (i = 9))]) := upd_same
  generalize upd H4 l5 (.lst ([V.bl (decide (i = 0)), V.bl (decide (i = 1)), V.bl (decide (i = 2)), V.bl (decide (i = 3)), V.bl (decide (i = 4)), V.bl (decide (i = 5)), V.bl (decide (i = 6))] ++ [V.bl (decide (i = 7)), V.bl (decide (i = 8)), V.bl (decide (i = 9))])) = H5 at s5 hE g5
  refine ⟨_, rfl, _, rfl, a, cs i, .ref (cs 10), .ref (cs 10), _, rfl, .own _, T.ec i hi, hE, T.tab i hi 10 (by decide), 
    _, rfl, a, cs i, .ref (cs 11), .ref (cs 11), _, rfl, .own _, T.ec i hi, hE, T.tab i hi 11 (by decide), 
    _, rfl, a, cs i, .ref (cs 12), .ref (cs 12), _, rfl, .own _, T.ec i hi, hE, T.tab i hi 12 (by decide), by show 3 ≤ 2 ^ 24; decide, fun l6 n6 => ?_⟩
  have s6 := s5.trans (same_new n6 (.lst [V.bl (decide (i = 10)), V.bl (decide (i = 11)), V.bl (decide (i = 12))]))
  replace hE := hE.same (same_new n6 (.lst [V.bl (decide (i = 10)), V.bl (decide (i = 11)), V.bl (decide (i = 12))]))
  have g6 : upd H5 l6 (.lst [V.bl (decide (i = 10)), V.bl (decide (i = 11)), V.bl (decide (i = 12))]) l6 = some (.lst [V.bl (decide (i = 10)), V.bl (decide (i = 11)), V.bl (decide (i = 12))]) := upd_same
  replace g5 := same_new n6 (.lst [V.bl (decide (i = 10)), V.bl (decide (i = 11)), V.bl (decide (i = 12))]) _ _ g5
  generalize upd H5 l6 (.lst [V.bl (decide (i = 10)), V.bl (decide (i = 11)), V.bl (decide (i = 12))]) = H6 at s6 hE g6 g5
  refine ⟨l5, l6, _, _, rfl, rfl, g5, g6, by show 13 ≤ 2 ^ 24; decide, fun l7 n7 => ?_⟩
  have s7 := s6.trans (same_new n7 (.lst ([V.bl (decide (i = 0)), V.bl (decide (i = 1)), V.bl (decide (i = 2)), V.bl (decide (i = 3)), V.bl (decide (i = 4)), V.bl (decide (i = 5)), V.bl (decide (i = 6)), V.bl (decide (i = 7)), V.bl (decide (i = 8)), V.bl (decide (i = 9))] ++ [V.bl (decide (i = 10)), V.bl (decide (i = 11)), V.bl (decide (i = 12))])))
  replace hE := hE.same (same_new n7 (.lst ([V.bl (decide (i = 0)), V.bl (decide (i = 1)), V.bl (decide (i = 2)), V.bl (decide (i = 3)), V.bl (decide (i = 4)), V.bl (decide (i = 5)), V.bl (decide (i = 6)), V.bl (decide (i = 7)), V.bl (decide (i = 8)), V.bl (decide (i = 9))] ++ [V.bl (decide (i = 10)), V.bl (decide (i = 11)), V.bl (decide (i = 12))])))
  have g7 : upd H6 l7 (.lst ([V.bl (decide (i = 0)), V.bl (decide (i = 1)), V.bl (decide (i = 2)), V.bl (decide (i = 3)), V.bl (decide (i = 4)), V.bl (decide (i = 5)), V.bl (decide (i = 6)), V.bl (decide (i = 7)), V.bl (decide (i = 8)), V.bl (decide (i = 9))] ++ [V.bl (decide (i = 10)), V.bl (decide (i = 11)), V.bl (decide (i = 12))])) l7 = some (.lst [V.bl (decide (i = 0)), V.bl (decide (i = 1)), V.bl (decide (i = 2)), V.bl (decide (i = 3)), V.bl (decide (i = 4)), V.bl (decide (i = 5)), V.bl (decide (i = 6)), V.bl (decide (i = 7)), V.bl (decide (i = 8)), V.bl (decide (i = 9)), V.bl (decide (i = 10)), V.bl (decide (i = 11)), V.bl (decide (i = 12))]) := upd_same
  generalize upd H6 l7 (.lst ([V.bl (decide (i = 0)), V.bl (decide (i = 1)), V.bl (decide (i = 2)), V.bl (decide (i = 3)), V.bl (decide (i = 4)), V.bl (decide (i = 5)), V.bl (decide (i = 6)), V.bl (decide (i = 7)), V.bl (decide (i = 8)), V.bl (decide (i = 9))] ++ [V.bl (decide (i = 10)), V.bl (decide (i = 11)), V.bl (decide (i = 12))])) = H7 at s7 hE g7
  refine ⟨_, rfl, _, rfl, a, cs i, .ref (cs 13), .ref (cs 13), _, rfl, .own _, T.ec i hi, hE, T.tab i hi 13 (by decide), 
    _, rfl, a, cs i, .ref (cs 14), .ref (cs 14), _, rfl, .own _, T.ec i hi, hE, T.tab i hi 14 (by decide), 
    _, rfl, a, cs i, .ref (cs 15), .ref (cs 15), _, rfl, .own _, T.ec i hi, hE, T.tab i hi 15 (by decide), by show 3 ≤ 2 ^ 24; decide, fun l8 n8 => ?_⟩
  have s8 := s7.trans (same_new n8 (.lst [V.bl (decide (i = 13)), V.bl (decide (i = 14)), V.bl (decide (i = 15))]))
  replace hE := hE.same (same_new n8 (.lst [V.bl (decide (i = 13)), V.bl (decide (i = 14)), V.bl (decide (i = 15))]))
  have g8 : upd H7 l8 (.lst [V.bl (decide (i = 13)), V.bl (decide (i = 14)), V.bl (decide (i = 15))]) l8 = some (.lst [V.bl (decide (i = 13)), V.bl (decide (i = 14)), V.bl (decide (i = 15))]) := upd_same
  replace g7 := same_new n8 (.lst [V.bl (decide (i = 13)), V.bl (decide (i = 14)), V.bl (decide (i = 15))]) _ _ g7
  generalize upd H7 l8 (.lst [V.bl (decide (i = 13)), V.bl (decide (i = 14)), V.bl (decide (i = 15))]) = H8 at s8 hE g8 g7
  refine ⟨l7, l8, _, _, rfl, rfl, g7, g8, by show 16 ≤ 2 ^ 24; decide, fun l9 n9 => ?_⟩
  have s9 := s8.trans (same_new n9 (.lst ([V.bl (decide (i = 0)), V.bl (decide (i = 1)), V.bl (decide (i = 2)), V.bl (decide (i = 3)), V.bl (decide (i = 4)), V.bl (decide (i = 5)), V.bl (decide (i = 6)), V.bl (decide (i = 7)), V.bl (decide (i = 8)), V.bl (decide (i = 9)), V.bl (decide (i = 10)), V.bl (decide (i = 11)), V.bl (decide (i = 12))] ++ [V.bl (decide (i = 13)), V.bl (decide (i = 14)), V.bl (decide (i = 15))])))
  replace hE := hE.same (same_new n9 (.lst ([V.bl (decide (i = 0)), V.bl (decide (i = 1)), V.bl (decide (i = 2)), V.bl (decide (i = 3)), V.bl (decide (i = 4)), V.bl (decide (i = 5)), V.bl (decide (i = 6)), V.bl (decide (i = 7)), V.bl (decide (i = 8)), V.bl (decide (i = 9)), V.bl (decide (i = 10)), V.bl (decide (i = 11)), V.bl (decide (i = 12))] ++ [V.bl (decide (i = 13)), V.bl (decide (i = 14)), V.bl (decide (i = 15))])))
  have g9 : upd H8 l9 (.lst ([V.bl (decide (i = 0)), V.bl (decide (i = 1)), V.bl (decide (i = 2)), V.bl (decide (i = 3)), V.bl (decide (i = 4)), V.bl (decide (i = 5)), V.bl (decide (i = 6)), V.bl (decide (i = 7)), V.bl (decide (i = 8)), V.bl (decide (i = 9)), V.bl (decide (i = 10)), V.bl (decide (i = 11)), V.bl (decide (i = 12))] ++ [V.bl (decide (i = 13)), V.bl (decide (i = 14)), V.bl (decide (i = 15))])) l9 = some (.lst [V.bl (decide (i = 0)), V.bl (decide (i = 1)), V.bl (decide (i = 2)), V.bl (decide (i = 3)), V.bl (decide (i = 4)), V.bl (decide (i = 5)), V.bl (decide (i = 6)), V.bl (decide (i = 7)), V.bl (decide (i = 8)), V.bl (decide (i = 9)), V.bl (decide (i = 10)), V.bl (decide (i = 11)), V.bl (decide (i = 12)), V.bl (decide (i = 13)), V.bl (decide (i = 14)), V.bl (decide (i = 15))]) := upd_same
  generalize upd H8 l9 (.lst ([V.bl (decide (i = 0)), V.bl (decide (i = 1)), V.bl (decide (i = 2)), V.bl (decide (i = 3)), V.bl (decide (i = 4)), V.bl (decide (i = 5)), V.bl (decide (i = 6)), V.bl (decide (i = 7)), V.bl (decide (i = 8)), V.bl (decide (i = 9)), V.bl (decide (i = 10)), V.bl (decide (i = 11)), V.bl (decide (i = 12))] ++ [V.bl (decide (i = 13)), V.bl (decide (i = 14)), V.bl (decide (i = 15))])) = H9 at s9 hE g9
  refine ⟨_, rfl, _, rfl, a, cs i, .ref (cs 16), .ref (cs 16), _, rfl, .own _, T.ec i hi, hE, T.tab i hi 16 (by decide), by show 1 ≤ 2 ^ 24; decide, fun l10 n10 => ?_⟩
  have s10 := s9.trans (same_new n10 (.lst [V.bl (decide (i = 16))]))
  replace hE := hE.same (same_new n10 (.lst [V.bl (decide (i = 16))]))
  have g10 : upd H9 l10 (.lst [V.bl (decide (i = 16))]) l10 = some (.lst [V.bl (decide (i = 16))]) := upd_same
  replace g9 := same_new n10 (.lst [V.bl (decide (i = 16))]) _ _ g9
  generalize upd H9 l10 (.lst [V.bl (decide (i = 16))]) = H10 at s10 hE g10 g9
  refine ⟨l9, l10, _, _, rfl, rfl, g9, g10, by show 17 ≤ 2 ^ 24; decide, fun l11 n11 => ?_⟩
  have s11 := s10.trans (same_new n11 (.lst ([V.bl (decide (i = 0)), V.bl (decide (i = 1)), V.bl (decide (i = 2)), V.bl (decide (i = 3)), V.bl (decide (i = 4)), V.bl (decide (i = 5)), V.bl (decide (i = 6)), V.bl (decide (i = 7)), V.bl (decide (i = 8)), V.bl (decide (i = 9)), V.bl (decide (i = 10)), V.bl (decide (i = 11)), V.bl (decide (i = 12)), V.bl (decide (i = 13)), V.bl (decide (i = 14)), V.bl (decide (i = 15))] ++ [V.bl (decide (i = 16))])))
  replace hE := hE.same (same_new n11 (.lst ([V.bl (decide (i = 0)), V.bl (decide (i = 1)), V.bl (decide (i = 2)), V.bl (decide (i = 3)), V.bl (decide (i = 4)), V.bl (decide (i = 5)), V.bl (decide (i = 6)), V.bl (decide (i = 7)), V.bl (decide (i = 8)), V.bl (decide (i = 9)), V.bl (decide (i = 10)), V.bl (decide (i = 11)), V.bl (decide (i = 12)), V.bl (decide (i = 13)), V.bl (decide (i = 14)), V.bl (decide (i = 15))] ++ [V.bl (decide (i = 16))])))
  have g11 : upd H10 l11 (.lst ([V.bl (decide (i = 0)), V.bl (decide (i = 1)), V.bl (decide (i = 2)), V.bl (decide (i = 3)), V.bl (decide (i = 4)), V.bl (decide (i = 5)), V.bl (decide (i = 6)), V.bl (decide (i = 7)), V.bl (decide (i = 8)), V.bl (decide (i = 9)), V.bl (decide (i = 10)), V.bl (decide (i = 11)), V.bl (decide (i = 12)), V.bl (decide (i = 13)), V.bl (decide (i = 14)), V.bl (decide (i = 15))] ++ [V.bl (decide (i = 16))])) l11 = some (.lst [V.bl (decide (i = 0)), V.bl (decide (i = 1)), V.bl (decide (i = 2)), V.bl (decide (i = 3)), V.bl (decide (i = 4)), V.bl (decide (i = 5)), V.bl (decide (i = 6)), V.bl (decide (i = 7)), V.bl (decide (i = 8)), V.bl (decide (i = 9)), V.bl (decide (i = 10)), V.bl (decide (i = 11)), V.bl (decide (i = 12)), V.bl (decide (i = 13)), V.bl (decide (i = 14)), V.bl (decide (i = 15)), V.bl (decide (i = 16))]) := upd_same
  generalize upd H10 l11 (.lst ([V.bl (decide (i = 0)), V.bl (decide (i = 1)), V.bl (decide (i = 2)), V.bl (decide (i = 3)), V.bl (decide (i = 4)), V.bl (decide (i = 5)), V.bl (decide (i = 6)), V.bl (decide (i = 7)), V.bl (decide (i = 8)), V.bl (decide (i = 9)), V.bl (decide (i = 10)), V.bl (decide (i = 11)), V.bl (decide (i = 12)), V.bl (decide (i = 13)), V.bl (decide (i = 14)), V.bl (decide (i = 15))] ++ [V.bl (decide (i = 16))])) = H11 at s11 hE g11
  exact q _ _ s11 g11
end
end K00
namespace K00
open PySem L2 GL KC GX
theorem ofS_lt (s : String) : ∀ c ∈ (Str.ofString s).cps.toList, c < 16 ^ 8 := by
  intro c hc
  rw [Str.ofString_eq_toList] at hc
  obtain ⟨x, _, rfl⟩ := List.mem_map.mp hc
  exact x.val.toNat_lt
theorem shown_le {K : PySem.W.Frag} {H : Hp} {d : PyData} {v : V} {n k : Nat} (h : Dt K H v d) (f : Fit n k d) (hn : n ≤ 1000000) : d.shown.length ≤ sizeLine := by
  have a := shown_wt d v h
  have b := f.w
  show _ ≤ 2 ^ 24
  omega
theorem log_small {n : Nat} (h : n < 10 ^ 10) : n.log2 < 1920 := by
  by_cases z : n = 0
  · rw [z]; decide
  · exact (Nat.log2_lt z).mpr (Nat.lt_of_lt_of_le h (by decide +kernel))
theorem hd_keep {d c : Addr} {G : Hp} {p : Addr} {o : HO} (h : Hd d c G p = some o) : Hd d c G p = some o := h
theorem dict_len {i : Int} (h : i.natAbs < 10 ^ 41) : (dictText [((PyData.str "a").shown ++ ": " ++ (PyData.int i).shown)]).length ≤ 1000 := by
  have e1 := int_text_length_le10 (k := 41) (by decide) h
  have e2 : ((PyData.int i).shown).length = (toString i).length := by simp only [PyData.shown]; exact ofString_length _
  have e3 : (PyData.str "a").shown.length = 3 := by decide +kernel
  unfold dictText
  have e4 : ∀ x : Str, Str.join ", " [x] = x := fun x => by rfl
  rw [e4]
  rw [Str.length_append, Str.length_append, Str.length_append, Str.length_append, e2, e3]
  have e5 : ("{" : Str).length = 1 := by decide +kernel
  have e6 : ("}" : Str).length = 1 := by decide +kernel
  have e7 : (": " : Str).length = 2 := by decide +kernel
  omega
/-- a value that repr shows -/
def Al (K : PySem.W.Frag) (d c : Addr) (G : Hp) (v : V) : Prop := ∃ t, Rp K (Hd d c G) v t
theorem Al.same {K : PySem.W.Frag} {d c : Addr} {G G' : Hp} {v : V} (h : Al K d c G v) (s : Same (Hd d c G) (Hd d c G')) : Al K d c G' v := let ⟨t, h1⟩ := h; ⟨t, h1.same s⟩
theorem al_dt {K : PySem.W.Frag} {d c : Addr} {G : Hp} {v : V} {x : PyData} (h : Dt K (Hd d c G) v x) (f : Fit 1000 10 x) : Al K d c G v := ⟨_, .inl ⟨x, h, f.s, Nat.le_trans f.k (by decide), shown_le (K := K) h f (by decide), rfl⟩⟩
def AlAll (K : PySem.W.Frag) (d c : Addr) (G : Hp) (vs : List V) : Prop := ∀ v ∈ vs, Al K d c G v
theorem AlAll.same {K : PySem.W.Frag} {d c : Addr} {G G' : Hp} {vs : List V} (h : AlAll K d c G vs) (s : Same (Hd d c G) (Hd d c G')) : AlAll K d c G' vs := fun v hv => (h v hv).same s
theorem AlAll.cons {K : PySem.W.Frag} {d c : Addr} {G : Hp} {v : V} {vs : List V} (a : Al K d c G v) (h : AlAll K d c G vs) : AlAll K d c G (v :: vs) := fun u hu => by
  rcases List.mem_cons.mp hu with rfl | hu
  · exact a
  · exact h u hu
theorem AlAll.app {K : PySem.W.Frag} {d c : Addr} {G : Hp} {vs us : List V} (a : AlAll K d c G vs) (h : AlAll K d c G us) : AlAll K d c G (vs ++ us) := fun u hu => by
  rcases List.mem_append.mp hu with hu | hu
  · exact a u hu
  · exact h u hu
def spValue (K : PySem.W.Frag) : Sp := fun vs H Q _ => ∃ (d c : Addr) (m : Nat), vs = [.ref d] ∧ Deck H d c m ∧ m ≤ 900000000 ∧ ∀ (v : V) (G : Hp), Al K d c G v → Deck G d c (m + 2) → Same (Hd d c H) (Hd d c G) → Q v G
section
variable {P : Program} {w : World} {K : PySem.W.Frag} {mg : Str → Option Value} {base : Heap} {cs : Nat → Addr}
theorem scVa : FnScope ["_law_deck_here", "_law_many", "_law_values"] ["_law_deck_here"] (defScope sValue) := ⟨rfl, rfl, rfl, by decide +kernel, rfl, by decide +kernel, by decide +kernel⟩
theorem ok_value {f fD fO : Addr} {fd fdD fdO : FuncData} (F : Fun K "_law_value" "_law_value" sValue f fd) (T : Txt K mg cs) (W : Dfn P w K mg base "_law_draw" 1 fD fdD ["_law_deck_here", "_law_many"] spDraw)
    (O : Dfn P w K mg base "_law_one" 2 fO fdO ["_law_deck_here", "_law_items"] spOne) : FnOk P w K mg base CX0 3 f fd ["_law_deck_here"] (spValue K) := by
  refine F.ok scVa (fun vs H Q E h => ?_) (fun cdv A outer s H vs Q E hr h => ?_)
  · obtain ⟨d, c, m, rfl, _⟩ := h
    rfl
  obtain ⟨d, c, m, rfl, D, hm, q⟩ := h
  have hr1 : Room 1 _ := hr.mono (by decide)
  refine ⟨_, pss_cons (ps_set (i := 1) scVa.nd rfl (Or.inl rfl) (pe_op op_sub (pe_call W.ok hr1 rfl W.m W.kp W.b .nil pass0 (pa_cons (pv 0) (pa_cons (pe_op op_pow pe_int pe_int) pa_nil))) (pe_op op_mul pe_int (pe_op op_pow pe_int pe_int))))
    (pss_cons (ps_set (i := 2) scVa.nd rfl (Or.inl rfl) (pe_lst (pa_cons pe_non (pa_cons pe_bl (pa_cons pe_bl (pa_cons pe_int (pa_cons pe_int (pa_cons (pv 1) (pa_cons (pe_callTy call_str_int (by rfl) T.str (by decide +kernel) (pa_cons (pv 1) pa_nil)) (pa_cons pe_str (pa_cons (pe_tup pa_nil) (pa_cons (pe_tup (pa_cons (pv 1) pa_nil)) (pa_cons (pe_lst (pa_cons (pv 1) pa_nil)) (pa_cons (pe_tup (pa_cons pe_non (pa_cons pe_str pa_nil))) (pa_cons (pe_tup (pa_cons (pe_tup (pa_cons pe_int pa_nil)) (pa_cons pe_bl pa_nil))) (pa_cons pe_dnewK pa_nil))))))))))))))))
    (pss_one (ps_ret (pe_call O.ok hr rfl O.m O.kp O.b .nil pass0 (pa_cons (pv 0) (pa_cons (pe_op op_cat (pv 2) (pe_lst (pa_cons (pe_disp (pps_cons pe_str (pv 1) pps_nil) (by rfl) (by rfl) (by decide) (by decide)) (pa_cons (pe_tup (pa_cons pe_str (pa_cons pe_str pa_nil))) (pa_cons (pe_tup (pa_cons (pe_tup (pa_cons pe_int (pa_cons pe_int pa_nil))) (pa_cons (pe_tup (pa_cons pe_int (pa_cons (pv 1) pa_nil))) pa_nil))) pa_nil))))) pa_nil)))))), ?_⟩
  have step : ∀ (G : Hp) (p : Addr) (o : HO) (j : Nat), G p = none → Deck G d c j → Same (Hd d c H) (Hd d c G) → Deck (upd G p o) d c j ∧ Same (Hd d c H) (Hd d c (upd G p o)) ∧ Same (Hd d c G) (Hd d c (upd G p o)) ∧ Hd d c (upd G p o) p = some o := fun G p o j n DG sG =>
    ⟨DG.new n o, sG.trans (hd_new n o), hd_new n o, hd_of upd_same (DG.free n).1 (DG.free n).2⟩
  have S : ∀ x : Str, (PyData.str x).shown.length ≤ 20 → Fit 42 0 (.str x) := fun x h => fit_str (m := 20) h (by decide)
  refine ⟨_, rfl, _, _, rfl, rfl, ⟨by decide, by decide, by decide⟩, d, c, _, m, rfl, D, by omega, by decide +kernel, by decide +kernel, fun r G1 r0 r1 D1 s1 => ?_⟩
  refine ⟨_, _, rfl, rfl, ⟨by decide, by decide, by decide⟩, _, _, rfl, rfl, ?_, _, _, rfl, rfl, ?_⟩
  · exact .inl ⟨by decide, by decide⟩
  have hb : (r - 5 * 10 ^ (8 : Int).toNat).natAbs < 10 ^ 10 := by
    have e1 : (10 : Int) ^ (8 : Int).toNat = 100000000 := by decide +kernel
    have e2 : (10 : Int) ^ (9 : Int).toNat = 1000000000 := by decide +kernel
    rw [e2] at r1
    rw [e1]
    show _ < 10000000000
    omega
  dsimp only
  generalize r - 5 * 10 ^ (8 : Int).toNat = many at hb
  have hm41 : many.natAbs < 10 ^ 41 := Nat.lt_of_lt_of_le hb (by decide +kernel)
  have hlog : many.natAbs.log2 < 1920 := log_small hb
  have hst : Fit 500 0 (.str (Str.ofString (toString many))) := by
    have h1 := int_text_length_le10 (k := 41) (by decide) hm41
    have h2 : (Str.ofString (toString many)).length = (toString many).length := ofString_length _
    refine fit_str (m := 432) ?_ (by decide)
    rw [PyData.shown_str]
    exact Nat.le_trans (StrLaws.reprText_len _ (ofS_lt _)) (by omega)
  have FI : Fit 42 0 (.int many) := fit_int hm41 (by decide)
  clear D
  have A0 : AlAll K d c G1 [] := fun v hv => nomatch hv
  refine ⟨_, rfl, _, rfl, many, rfl, hlog, by show 0 ≤ 2 ^ 24; decide, fun p2 n2 => ?_⟩
  obtain ⟨E2, t2, e2, g2⟩ := step _ _ (.tup []) (m + 1) n2 D1 s1
  generalize upd G1 p2 (.tup []) = H2 at E2 t2 e2 g2
  have A2 := A0.same e2
  replace A2 := AlAll.cons (al_dt (.tup g2 .nil) ((Fit.tup (FitAll.nil (k := 0))).mono (by decide) (by decide))) A2
  refine ⟨_, rfl, by show 1 ≤ 2 ^ 24; decide, fun p3 n3 => ?_⟩
  obtain ⟨E3, t3, e3, g3⟩ := step _ _ (.tup [V.int many]) (m + 1) n3 E2 t2
  generalize upd H2 p3 (.tup [V.int many]) = H3 at E3 t3 e3 g3
  have A3 := A2.same e3
  replace A3 := AlAll.cons (al_dt (.tup g3 (.cons (.int _) .nil)) ((Fit.tup (FitAll.cons FI (FitAll.nil (k := 0)))).mono (by decide) (by decide))) A3
  refine ⟨_, rfl, by show 1 ≤ 2 ^ 24; decide, fun p4 n4 => ?_⟩
  obtain ⟨E4, t4, e4, g4⟩ := step _ _ (.lst [V.int many]) (m + 1) n4 E3 t3
  generalize upd H3 p4 (.lst [V.int many]) = H4 at E4 t4 e4 g4
  have A4 := A3.same e4
  replace A4 := AlAll.cons (al_dt (.lst g4 (.cons (.int _) .nil)) ((Fit.lst (FitAll.cons FI (FitAll.nil (k := 0)))).mono (by decide) (by decide))) A4
  refine ⟨by show 2 ≤ 2 ^ 24; decide, fun p5 n5 => ?_⟩
  obtain ⟨E5, t5, e5, g5⟩ := step _ _ (.tup [V.non, V.str "places"]) (m + 1) n5 E4 t4
  generalize upd H4 p5 (.tup [V.non, V.str "places"]) = H5 at E5 t5 e5 g5
  have A5 := A4.same e5
  replace A5 := AlAll.cons (al_dt (.tup g5 (.cons .non (.cons (.str _) .nil))) ((Fit.tup (FitAll.cons (fit_non (n := 42) (k := 0) (by decide)) (FitAll.cons (S _ (by decide +kernel)) (FitAll.nil (k := 0))))).mono (by decide) (by decide))) A5
  refine ⟨by show 1 ≤ 2 ^ 24; decide, fun p6 n6 => ?_⟩
  obtain ⟨E6, t6, e6, g6⟩ := step _ _ (.tup [V.int 1]) (m + 1) n6 E5 t5
  generalize upd H5 p6 (.tup [V.int 1]) = H6 at E6 t6 e6 g6
  have A6 := A5.same e6
  have r1 := g6
  refine ⟨by show 2 ≤ 2 ^ 24; decide, fun p7 n7 => ?_⟩
  obtain ⟨E7, t7, e7, g7⟩ := step _ _ (.tup [V.ref p6, V.bl true]) (m + 1) n7 E6 t6
  generalize upd H6 p7 (.tup [V.ref p6, V.bl true]) = H7 at E7 t7 e7 g7
  replace r1 := e7 _ _ r1
  have A7 := A6.same e7
  replace A7 := AlAll.cons (al_dt (.tup g7 (.cons (.tup r1 (.cons (.int _) .nil)) (.cons (.bl _) .nil))) ((Fit.tup (FitAll.cons (Fit.tup (FitAll.cons (fit_int (n := 42) (k := 0) (by decide +kernel) (by decide)) (FitAll.nil (k := 0)))) (FitAll.cons (fit_bl (n := 42) (k := 1) (by decide)) FitAll.nil))).mono (by decide) (by decide))) A7
  intro p8 n8
  obtain ⟨E8, t8, e8, g8⟩ := step _ _ (.dK []) (m + 1) n8 E7 t7
  generalize upd H7 p8 (.dK []) = H8 at E8 t8 e8 g8
  have A8 := A7.same e8
  replace A8 := AlAll.cons (al_dt (.dic g8) (fit_dic (by decide) (by decide))) A8
  have Ba : AlAll K d c H8 [V.non, V.bl true, V.bl false, V.int 0, V.int 1, V.int many, V.str (Str.ofString (toString many)), V.str "", V.ref p2, V.ref p3, V.ref p4, V.ref p5, V.ref p7, V.ref p8] := by
    unfold AlAll
    simp only [List.forall_mem_cons]
    exact ⟨al_dt .non (fit_non (by decide)), al_dt (.bl _) (fit_bl (by decide)), al_dt (.bl _) (fit_bl (by decide)), al_dt (.int _) (fit_int (by decide +kernel) (by decide)), al_dt (.int _) (fit_int (by decide +kernel) (by decide)), al_dt (.int _) (FI.mono (by decide) (by decide)), al_dt (.str _) (hst.mono (by decide) (by decide)), al_dt (.str _) ((S _ (by decide +kernel)).mono (by decide) (by decide)), A8 _ (by simp), A8 _ (by simp), A8 _ (by simp), A8 _ (by simp), A8 _ (by simp), A8 _ (by simp), fun _ h => nomatch h⟩
  refine ⟨by show 14 ≤ 2 ^ 24; decide, fun la nla => ?_⟩
  obtain ⟨E9, t9, e9, fa⟩ := step _ _ (.lst [V.non, V.bl true, V.bl false, V.int 0, V.int 1, V.int many, V.str (Str.ofString (toString many)), V.str "", V.ref p2, V.ref p3, V.ref p4, V.ref p5, V.ref p7, V.ref p8]) (m + 1) nla E8 t8
  replace Ba := Ba.same e9
  generalize upd H8 la (.lst [V.non, V.bl true, V.bl false, V.int 0, V.int 1, V.int many, V.str (Str.ofString (toString many)), V.str "", V.ref p2, V.ref p3, V.ref p4, V.ref p5, V.ref p7, V.ref p8]) = H9 at E9 t9 e9 fa Ba 
  have wa : ([V.non, V.bl true, V.bl false, V.int 0, V.int 1, V.int many, V.str (Str.ofString (toString many)), V.str "", V.ref p2, V.ref p3, V.ref p4, V.ref p5, V.ref p7, V.ref p8] : List V).length = 14 := rfl
  generalize [V.non, V.bl true, V.bl false, V.int 0, V.int 1, V.int many, V.str (Str.ofString (toString many)), V.str "", V.ref p2, V.ref p3, V.ref p4, V.ref p5, V.ref p7, V.ref p8] = xa at fa Ba wa
  have Z9 : AlAll K d c H9 [] := fun v hv => nomatch hv
  refine ⟨_, rfl, _, rfl, fun p10 n10 => ?_⟩
  refine ⟨_, rfl, upd_same, [(.inr "a", .int many)], rfl, by show 1 ≤ 15; decide, ?_⟩
  rw [upd_upd]
  have em : mergeK [] [((.inr "a" : Key), V.int many)] = [(.inr "a", .int many)] := by rfl
  rw [em]
  obtain ⟨E10, t10, e10, g10⟩ := step _ _ (.dK [(.inr "a", .int many)]) (m + 1) n10 E9 t9
  generalize upd H9 p10 (.dK [(.inr "a", .int many)]) = H10 at E10 t10 e10 g10
  replace fa := e10 _ _ fa
  replace Ba := Ba.same e10
  have A10 := Z9.same e10
  replace A10 := AlAll.cons (⟨_, .inr ⟨_, "a", many, rfl, hd_keep g10, FI.s, by decide +kernel, dict_len hm41, rfl⟩⟩) A10
  refine ⟨by show 2 ≤ 2 ^ 24; decide, fun p11 n11 => ?_⟩
  obtain ⟨E11, t11, e11, g11⟩ := step _ _ (.tup [V.str "pay", V.str "n"]) (m + 1) n11 E10 t10
  generalize upd H10 p11 (.tup [V.str "pay", V.str "n"]) = H11 at E11 t11 e11 g11
  replace fa := e11 _ _ fa
  replace Ba := Ba.same e11
  have A11 := A10.same e11
  replace A11 := AlAll.cons (al_dt (.tup g11 (.cons (.str _) (.cons (.str _) .nil))) ((Fit.tup (FitAll.cons (S _ (by decide +kernel)) (FitAll.cons (S _ (by decide +kernel)) (FitAll.nil (k := 0))))).mono (by decide) (by decide))) A11
  refine ⟨by show 2 ≤ 2 ^ 24; decide, fun p12 n12 => ?_⟩
  obtain ⟨E12, t12, e12, g12⟩ := step _ _ (.tup [V.int 0, V.int 1]) (m + 1) n12 E11 t11
  generalize upd H11 p12 (.tup [V.int 0, V.int 1]) = H12 at E12 t12 e12 g12
  replace fa := e12 _ _ fa
  replace Ba := Ba.same e12
  have A12 := A11.same e12
  have r1 := g12
  refine ⟨_, rfl, by show 2 ≤ 2 ^ 24; decide, fun p13 n13 => ?_⟩
  obtain ⟨E13, t13, e13, g13⟩ := step _ _ (.tup [V.int 1, V.int many]) (m + 1) n13 E12 t12
  generalize upd H12 p13 (.tup [V.int 1, V.int many]) = H13 at E13 t13 e13 g13
  replace fa := e13 _ _ fa
  replace Ba := Ba.same e13
  replace r1 := e13 _ _ r1
  have A13 := A12.same e13
  have r2 := g13
  refine ⟨by show 2 ≤ 2 ^ 24; decide, fun p14 n14 => ?_⟩
  obtain ⟨E14, t14, e14, g14⟩ := step _ _ (.tup [V.ref p12, V.ref p13]) (m + 1) n14 E13 t13
  generalize upd H13 p14 (.tup [V.ref p12, V.ref p13]) = H14 at E14 t14 e14 g14
  replace fa := e14 _ _ fa
  replace Ba := Ba.same e14
  replace r1 := e14 _ _ r1
  replace r2 := e14 _ _ r2
  have A14 := A13.same e14
  replace A14 := AlAll.cons (al_dt (.tup g14 (.cons (.tup r1 (.cons (.int _) (.cons (.int _) .nil))) (.cons (.tup r2 (.cons (.int _) (.cons (.int _) .nil))) .nil))) ((Fit.tup (FitAll.cons (Fit.tup (FitAll.cons (fit_int (n := 42) (k := 0) (by decide +kernel) (by decide)) (FitAll.cons (fit_int (n := 42) (k := 0) (by decide +kernel) (by decide)) (FitAll.nil (k := 0))))) (FitAll.cons (Fit.tup (FitAll.cons (fit_int (n := 42) (k := 0) (by decide +kernel) (by decide)) (FitAll.cons FI (FitAll.nil (k := 0))))) FitAll.nil))).mono (by decide) (by decide))) A14
  have Bb : AlAll K d c H14 [V.ref p10, V.ref p11, V.ref p14] := by
    unfold AlAll
    simp only [List.forall_mem_cons]
    exact ⟨A14 _ (by simp), A14 _ (by simp), A14 _ (by simp), fun _ h => nomatch h⟩
  refine ⟨by show 3 ≤ 2 ^ 24; decide, fun lb nlb => ?_⟩
  obtain ⟨E15, t15, e15, fb⟩ := step _ _ (.lst [V.ref p10, V.ref p11, V.ref p14]) (m + 1) nlb E14 t14
  replace Bb := Bb.same e15
  replace fa := e15 _ _ fa
  replace Ba := Ba.same e15
  generalize upd H14 lb (.lst [V.ref p10, V.ref p11, V.ref p14]) = H15 at E15 t15 e15 fb Bb fa Ba
  have wb : ([V.ref p10, V.ref p11, V.ref p14] : List V).length = 3 := rfl
  generalize [V.ref p10, V.ref p11, V.ref p14] = xb at fb Bb wb
  have Z15 : AlAll K d c H15 [] := fun v hv => nomatch hv
  refine ⟨la, lb, _, _, rfl, rfl, hd_sub _ _ fa, hd_sub _ _ fb, by rw [wa, wb]; decide, fun lc nlc => ?_⟩
  obtain ⟨Ec, tc, ec, fc⟩ := step _ _ (.lst (xa ++ xb)) (m + 1) nlc E15 t15
  have Bc := (Ba.app Bb).same ec
  have wc : (xa ++ xb).length = 17 := by rw [List.length_append, wa, wb]
  exact ⟨d, c, lc, _, _, rfl, Ec, by omega, fc, by omega, by omega, fun v G hv DG sG => q v G ((Bc v hv).same sG) DG (tc.trans sG)⟩
end
end K00
namespace K00
open PySem L2 GL KC GX
/-- what making an error of a class with an own __init__ asks -/
structure Ini (P : Program) (w : World) (K : PySem.W.Frag) (mg : Str → Option Value) (base : Heap) (C fI : Addr) (fd : FuncData) (f : Str) (tl : List Value) (nw : String) : Prop where
  T : XC K C tl nw
  iC : PySem.W.findIn K (.ref C) "__init__" = some (some (.ref fI))
  tI : PySem.W.typeIn K (.ref fI) = some (.type "function")
  ok : FnOk P w K mg base CX0 1 fI fd ["self", f] (spInit C f)
  b : L2.Binds K fd ["self", f] []
  no : PySem.W.findIn K (.ref C) f = some none
/-- the heap behind such a making -/
theorem ex_new {H : Hp} {e dx C : Addr} {f : Str} {y : V} (ne : H e = none) (nd : upd H e (exo e C none) dx = none) (de : dx ≠ e) :
    Same H (upd (upd (upd H e (exo e C none)) dx (exd dx [(f, y)])) e (exo e C (some dx))) ∧ ExAt (upd (upd (upd H e (exo e C none)) dx (exd dx [(f, y)])) e (exo e C (some dx))) e C ∧
      upd (upd (upd H e (exo e C none)) dx (exd dx [(f, y)])) e (exo e C (some dx)) e = some (exo e C (some dx)) ∧ upd (upd (upd H e (exo e C none)) dx (exd dx [(f, y)])) e (exo e C (some dx)) dx = some (exd dx [(f, y)]) := by
  have h1 : upd (upd (upd H e (exo e C none)) dx (exd dx [(f, y)])) e (exo e C (some dx)) dx = some (exd dx [(f, y)]) := by rw [upd_ne de, upd_same]
  have nH : H dx = none := by rw [upd_ne de] at nd; exact nd
  refine ⟨fun b u q => ?_, ⟨_, upd_same, fun d z => ?_⟩, upd_same, h1⟩
  · rw [upd_ne (ne_of_none q ne), upd_ne (ne_of_none q nH), upd_ne (ne_of_none q ne)]; exact q
  · cases z
    exact ⟨_, h1⟩
theorem ex_new0 {H : Hp} {e C : Addr} (ne : H e = none) : Same H (upd H e (exo e C none)) ∧ ExAt (upd H e (exo e C none)) e C := ⟨same_new ne _, none, upd_same, fun _ z => nomatch z⟩
theorem row_eqv : ∀ k, k < 17 → PyData.eqv (.list ((kindRow k).map .bool)) (.list ((kindRow k).map .bool)) = true ∧ SeqAt.shaped (.list ((kindRow k).map .bool)) = true := by decide +kernel
theorem row_no : ∀ k, 17 ≤ k → k < 20 → inV (.bl true) ((kindRow k).map V.bl) = false ∧ ((kindRow k).map V.bl).all flatV = true := by
  have h : ∀ k, k < 20 → 17 ≤ k → inV (.bl true) ((kindRow k).map V.bl) = false ∧ ((kindRow k).map V.bl).all flatV = true := by decide +kernel
  exact fun k a b => h k b a
theorem bools_dp {K : PySem.W.Frag} {H : Hp} : ∀ bs : List Bool, DpAll K H (bs.map V.bl) (bs.map .bool)
  | [] => .nil
  | b :: bs => .cons (.bl b) (bools_dp bs)
abbrev NKr : List Str := ["_law_a", "_law_some", "_law_k", "_law_e", "_law_j"]
def spTrue : Sp := fun vs H Q _ => ∃ v : V, vs = [v] ∧ ∀ G, Same H G → Q (.bl true) G
section
variable {P : Program} {w : World} {K : PySem.W.Frag} {mg : Str → Option Value} {base : Heap} {cs : Nat → Addr}
theorem scKr : FnScope ["_law_a", "_law_some", "_law_k", "_law_e", "_law_j"] ["_law_a"] (defScope sKr) := ⟨rfl, rfl, rfl, by decide +kernel, rfl, by decide +kernel, by decide +kernel⟩
theorem ok_kr {f fK f0 f1 f2 f3 f4 f5 f6 f7 f13 f14 f17 f18 : Addr} {fd fdK d0 d1 d2 d3 d4 d5 d6 d7 d13 d14 d17 d18 : FuncData} (F : Fun K "_law_kinds_right" "_law_kinds_right" sKr f fd) (T : Txt K mg cs) (KD : Dfn P w K mg base "_law_kinds" 1 fK fdK ["_law_e"] (spKinds cs))
    (I0 : Ini P w K mg base (cs 0) f0 d0 "line" vE "ValueError.__new__")
    (I1 : Ini P w K mg base (cs 1) f1 d1 "error" vE "ValueError.__new__")
    (I2 : Ini P w K mg base (cs 2) f2 d2 "error" vE "ValueError.__new__")
    (I3 : Ini P w K mg base (cs 3) f3 d3 "word" vE "ValueError.__new__")
    (I4 : Ini P w K mg base (cs 4) f4 d4 "length" vE "ValueError.__new__")
    (I5 : Ini P w K mg base (cs 5) f5 d5 "which" vE "ValueError.__new__")
    (I6 : Ini P w K mg base (cs 6) f6 d6 "word" vE "ValueError.__new__")
    (I7 : Ini P w K mg base (cs 7) f7 d7 "fault" vE "ValueError.__new__")
    (I13 : Ini P w K mg base (cs 13) f13 d13 "index" vE "ValueError.__new__")
    (I14 : Ini P w K mg base (cs 14) f14 d14 "index" vE "ValueError.__new__")
    (I17 : Ini P w K mg base (cs 17) f17 d17 "index" lE "LookupError.__new__")
    (I18 : Ini P w K mg base (cs 18) f18 d18 "version" lE "LookupError.__new__")
    (q8 : PySem.W.excIn K (cs 8) vE "ValueError.__new__" = true) (k8 : PySem.W.keepIn K (.ref (cs 8)) = true)
    (q9 : PySem.W.excIn K (cs 9) vE "ValueError.__new__" = true) (k9 : PySem.W.keepIn K (.ref (cs 9)) = true)
    (q10 : PySem.W.excIn K (cs 10) vE "ValueError.__new__" = true) (k10 : PySem.W.keepIn K (.ref (cs 10)) = true)
    (q11 : PySem.W.excIn K (cs 11) vE "ValueError.__new__" = true) (k11 : PySem.W.keepIn K (.ref (cs 11)) = true)
    (q12 : PySem.W.excIn K (cs 12) vE "ValueError.__new__" = true) (k12 : PySem.W.keepIn K (.ref (cs 12)) = true)
    (q15 : PySem.W.excIn K (cs 15) vE "ValueError.__new__" = true) (k15 : PySem.W.keepIn K (.ref (cs 15)) = true)
    (q16 : PySem.W.excIn K (cs 16) vE "ValueError.__new__" = true) (k16 : PySem.W.keepIn K (.ref (cs 16)) = true)
    (q19 : PySem.W.excIn K (cs 19) vE "ValueError.__new__" = true) (k19 : PySem.W.keepIn K (.ref (cs 19)) = true) : FnOk P w K mg base CX0 3 f fd ["_law_a"] spTrue := by
  refine F.ok scKr (fun vs H Q E h => ?_) (fun cdv A outer s H vs Q E hr h => ?_)
  · obtain ⟨v, rfl, _⟩ := h
    rfl
  obtain ⟨v, rfl, q⟩ := h
  have hr1 : Room 1 _ := hr.mono (by decide)
  refine ⟨_, (pss_cons (ps_set (i := 1) scKr.nd rfl (Or.inl rfl) (pe_lst (pa_cons (pe_exV I0.T PySem.F.excBase_ValueError I0.iC I0.tI I0.ok hr I0.b pass0 rfl T.m0 (pa_cons (pv 0) pa_nil))
        (pa_cons (pe_exV I1.T PySem.F.excBase_ValueError I1.iC I1.tI I1.ok hr I1.b pass0 rfl T.m1 (pa_cons (pv 0) pa_nil))
        (pa_cons (pe_exV I2.T PySem.F.excBase_ValueError I2.iC I2.tI I2.ok hr I2.b pass0 rfl T.m2 (pa_cons (pv 0) pa_nil))
        (pa_cons (pe_exV I3.T PySem.F.excBase_ValueError I3.iC I3.tI I3.ok hr I3.b pass0 rfl T.m3 (pa_cons (pv 0) pa_nil))
        (pa_cons (pe_exV I4.T PySem.F.excBase_ValueError I4.iC I4.tI I4.ok hr I4.b pass0 rfl T.m4 (pa_cons (pv 0) pa_nil))
        (pa_cons (pe_exV I5.T PySem.F.excBase_ValueError I5.iC I5.tI I5.ok hr I5.b pass0 rfl T.m5 (pa_cons (pv 0) pa_nil))
        (pa_cons (pe_exV I6.T PySem.F.excBase_ValueError I6.iC I6.tI I6.ok hr I6.b pass0 rfl T.m6 (pa_cons (pv 0) pa_nil))
        (pa_cons (pe_exV I7.T PySem.F.excBase_ValueError I7.iC I7.tI I7.ok hr I7.b pass0 rfl T.m7 (pa_cons (pv 0) pa_nil))
        pa_nil))))))))))
      (pss_cons (ps_set (i := 1) scKr.nd rfl (Or.inl rfl) (pe_op op_cat (pv 1) (pe_lst (pa_cons (pe_ex0V PySem.F.excBase_ValueError q8 T.m8 k8 rfl)
        (pa_cons (pe_ex0V PySem.F.excBase_ValueError q9 T.m9 k9 rfl)
        (pa_cons (pe_ex0V PySem.F.excBase_ValueError q10 T.m10 k10 rfl)
        (pa_cons (pe_ex0V PySem.F.excBase_ValueError q11 T.m11 k11 rfl)
        (pa_cons (pe_ex0V PySem.F.excBase_ValueError q12 T.m12 k12 rfl)
        (pa_cons (pe_exV I13.T PySem.F.excBase_ValueError I13.iC I13.tI I13.ok hr I13.b pass0 rfl T.m13 (pa_cons (pv 0) pa_nil))
        (pa_cons (pe_exV I14.T PySem.F.excBase_ValueError I14.iC I14.tI I14.ok hr I14.b pass0 rfl T.m14 (pa_cons (pv 0) pa_nil))
        pa_nil))))))))))
      (pss_cons (ps_set (i := 1) scKr.nd rfl (Or.inl rfl) (pe_op op_cat (pv 1) (pe_lst (pa_cons (pe_ex0V PySem.F.excBase_ValueError q15 T.m15 k15 rfl)
        (pa_cons (pe_ex0V PySem.F.excBase_ValueError q16 T.m16 k16 rfl)
        pa_nil)))))
      (pss_cons (ps_for PassesOwn.never rfl (pi_range1 rfl T.c.range (pa_cons pe_int pa_nil)) (pg_name (i := 2) scKr.nd rfl (Or.inr rfl)) (pss_cons (ps_if (PW.pt (pw_or (pt_cmpR (op_neD hr.units) (pe_call KD.ok hr1 rfl KD.m KD.kp KD.b .nil pass0 (pa_cons (pe_ix ix_list (pv 1) (pv 2) (fun _ _ => rfl)) pa_nil)) (pe_lc (own := [("_law_j", 4)]) (g := gName 4) (tt := tYes) rfl scKr.nd (pi_range1 rfl T.c.range (pa_cons pe_int pa_nil))
          (blkOk_by (own := [("_law_j", 4)]) (N := NKr) (sc := defScope sKr) (by decide +kernel)) (fun _ _ _ _ _ => pg_name (i := 4) scKr.nd rfl (Or.inl rfl)) (fun _ _ _ _ _ => pts_nil) (fun _ _ _ _ _ => pe_cmpR op_eq (pv 4) (pv 2) (nomark _))) (nomark _)) (pw_or1 (pt_val (pe_callB (show CallR _ _ (rIsX K) from call_isX) (by rfl) T.isi (by decide +kernel) (pa_cons (pe_ix ix_list (pv 1) (pv 2) (fun _ _ => rfl)) (pa_cons (pe_bltn (v := .ty "LookupError") (by rfl) T.le (by decide +kernel) rfl) pa_nil))))))) (pss_one (ps_ret pe_bl)) pss_nil)
      (pss_one (ps_if (PW.pt (pw_or (pt_not (pt_val (pe_callB (show CallR _ _ (rIsX K) from call_isX) (by rfl) T.isi (by decide +kernel) (pa_cons (pe_ix ix_list (pv 1) (pv 2) (fun _ _ => rfl)) (pa_cons (pe_glob (v := .ref (cs 19)) rfl T.m19 rfl) pa_nil))))) (pw_or1 (pt_not (pt_val (pe_callB (show CallR _ _ (rIsX K) from call_isX) (by rfl) T.isi (by decide +kernel) (pa_cons (pe_ix ix_list (pv 1) (pv 2) (fun _ _ => rfl)) (pa_cons (pe_bltn (v := .ty "ValueError") (by rfl) T.ve (by decide +kernel) rfl) pa_nil)))))))) (pss_one (ps_ret pe_bl)) pss_nil))))
      (pss_cons (ps_for PassesOwn.never rfl (pi_list (pe_lst (pa_cons (pe_exV I17.T PySem.F.excBase_LookupError I17.iC I17.tI I17.ok hr I17.b pass0 rfl T.m17 (pa_cons (pv 0) pa_nil))
        (pa_cons (pe_exV I18.T PySem.F.excBase_LookupError I18.iC I18.tI I18.ok hr I18.b pass0 rfl T.m18 (pa_cons (pv 0) pa_nil))
        (pa_cons (pe_ex0V PySem.F.excBase_ValueError q19 T.m19 k19 rfl)
        pa_nil))))) (pg_name (i := 3) scKr.nd rfl (Or.inl rfl)) (pss_one (ps_if (pt_cmpR op_in_seq pe_bl (pe_call KD.ok hr1 rfl KD.m KD.kp KD.b .nil pass0 (pa_cons (pv 3) pa_nil)) (by rfl)) (pss_one (ps_ret pe_bl)) pss_nil)))
      (pss_cons (ps_for PassesOwn.never rfl (pi_list (pe_lst (pa_cons (pe_exV I17.T PySem.F.excBase_LookupError I17.iC I17.tI I17.ok hr I17.b pass0 rfl T.m17 (pa_cons (pv 0) pa_nil))
        (pa_cons (pe_exV I18.T PySem.F.excBase_LookupError I18.iC I18.tI I18.ok hr I18.b pass0 rfl T.m18 (pa_cons (pv 0) pa_nil))
        pa_nil)))) (pg_name (i := 3) scKr.nd rfl (Or.inl rfl)) (pss_one (ps_if (PW.pt (pw_or (pt_not (pt_val (pe_callB (show CallR _ _ (rIsX K) from call_isX) (by rfl) T.isi (by decide +kernel) (pa_cons (pv 3) (pa_cons (pe_bltn (v := .ty "LookupError") (by rfl) T.le (by decide +kernel) rfl) pa_nil))))) (pw_or (pt_val (pe_callB (show CallR _ _ (rIsX K) from call_isX) (by rfl) T.isi (by decide +kernel) (pa_cons (pv 3) (pa_cons (pe_bltn (v := .ty "ValueError") (by rfl) T.ve (by decide +kernel) rfl) pa_nil)))) (pw_or1 (pt_val (pe_callB (show CallR _ _ (rIsX K) from call_isX) (by rfl) T.isi (by decide +kernel) (pa_cons (pv 3) (pa_cons (pe_glob (v := .ref (cs 19)) rfl T.m19 rfl) pa_nil)))))))) (pss_one (ps_ret pe_bl)) pss_nil)))
      (pss_cons (ps_if (PW.pt (pw_or (pt_val (pe_callB (show CallR _ _ (rIsX K) from call_isX) (by rfl) T.isi (by decide +kernel) (pa_cons (pe_ex0V PySem.F.excBase_ValueError q19 T.m19 k19 rfl) (pa_cons (pe_bltn (v := .ty "LookupError") (by rfl) T.le (by decide +kernel) rfl) pa_nil)))) (pw_or1 (pt_not (pt_val (pe_callB (show CallR _ _ (rIsX K) from call_isX) (by rfl) T.isi (by decide +kernel) (pa_cons (pe_ex0V PySem.F.excBase_ValueError q19 T.m19 k19 rfl) (pa_cons (pe_bltn (v := .ty "ValueError") (by rfl) T.ve (by decide +kernel) rfl) pa_nil)))))))) (pss_one (ps_ret pe_bl)) pss_nil)
      (pss_one (ps_ret (pe_and (pe_not (pe_callB (show CallR _ _ (rIsX K) from call_isX) (by rfl) T.isi (by decide +kernel) (pa_cons (pe_exV I17.T PySem.F.excBase_LookupError I17.iC I17.tI I17.ok hr I17.b pass0 rfl T.m17 (pa_cons (pv 0) pa_nil)) (pa_cons (pe_glob (v := .ref (cs 18)) rfl T.m18 rfl) pa_nil)))) (pe_one (pe_not (pe_callB (show CallR _ _ (rIsX K) from call_isX) (by rfl) T.isi (by decide +kernel) (pa_cons (pe_exV I18.T PySem.F.excBase_LookupError I18.iC I18.tI I18.ok hr I18.b pass0 rfl T.m18 (pa_cons (pv 0) pa_nil)) (pa_cons (pe_glob (v := .ref (cs 17)) rfl T.m17 rfl) pa_nil))))))))))))))), ?_⟩
  have s0 : Same H H := Same.refl H
  refine ⟨_, rfl, by show 1 ≤ 1000; decide, fun e1 ne1 => ⟨e1, v, rfl, upd_same, fun dx ndx nde => ⟨rfl, ?_⟩⟩⟩
  obtain ⟨y1, x0, _, _⟩ := ex_new (C := cs 0) (f := "line") (y := v) ne1 ndx nde
  have s1 := s0.trans y1
  generalize upd (upd (upd H e1 (exo e1 (cs 0) none)) dx (exd dx [("line", v)])) e1 (exo e1 (cs 0) (some dx)) = H1 at s1 x0  y1
  refine ⟨_, rfl, by show 1 ≤ 1000; decide, fun e2 ne2 => ⟨e2, v, rfl, upd_same, fun dx ndx nde => ⟨rfl, ?_⟩⟩⟩
  obtain ⟨y2, x1, _, _⟩ := ex_new (C := cs 1) (f := "error") (y := v) ne2 ndx nde
  replace x0 := x0.same y2
  have s2 := s1.trans y2
  generalize upd (upd (upd H1 e2 (exo e2 (cs 1) none)) dx (exd dx [("error", v)])) e2 (exo e2 (cs 1) (some dx)) = H2 at s2 x1 x0 y2
  refine ⟨_, rfl, by show 1 ≤ 1000; decide, fun e3 ne3 => ⟨e3, v, rfl, upd_same, fun dx ndx nde => ⟨rfl, ?_⟩⟩⟩
  obtain ⟨y3, x2, _, _⟩ := ex_new (C := cs 2) (f := "error") (y := v) ne3 ndx nde
  replace x0 := x0.same y3
  replace x1 := x1.same y3
  have s3 := s2.trans y3
  generalize upd (upd (upd H2 e3 (exo e3 (cs 2) none)) dx (exd dx [("error", v)])) e3 (exo e3 (cs 2) (some dx)) = H3 at s3 x2 x0 x1 y3
  refine ⟨_, rfl, by show 1 ≤ 1000; decide, fun e4 ne4 => ⟨e4, v, rfl, upd_same, fun dx ndx nde => ⟨rfl, ?_⟩⟩⟩
  obtain ⟨y4, x3, _, _⟩ := ex_new (C := cs 3) (f := "word") (y := v) ne4 ndx nde
  replace x0 := x0.same y4
  replace x1 := x1.same y4
  replace x2 := x2.same y4
  have s4 := s3.trans y4
  generalize upd (upd (upd H3 e4 (exo e4 (cs 3) none)) dx (exd dx [("word", v)])) e4 (exo e4 (cs 3) (some dx)) = H4 at s4 x3 x0 x1 x2 y4
  refine ⟨_, rfl, by show 1 ≤ 1000; decide, fun e5 ne5 => ⟨e5, v, rfl, upd_same, fun dx ndx nde => ⟨rfl, ?_⟩⟩⟩
  obtain ⟨y5, x4, _, _⟩ := ex_new (C := cs 4) (f := "length") (y := v) ne5 ndx nde
  replace x0 := x0.same y5
  replace x1 := x1.same y5
  replace x2 := x2.same y5
  replace x3 := x3.same y5
  have s5 := s4.trans y5
  generalize upd (upd (upd H4 e5 (exo e5 (cs 4) none)) dx (exd dx [("length", v)])) e5 (exo e5 (cs 4) (some dx)) = H5 at s5 x4 x0 x1 x2 x3 y5
  refine ⟨_, rfl, by show 1 ≤ 1000; decide, fun e6 ne6 => ⟨e6, v, rfl, upd_same, fun dx ndx nde => ⟨rfl, ?_⟩⟩⟩
  obtain ⟨y6, x5, _, _⟩ := ex_new (C := cs 5) (f := "which") (y := v) ne6 ndx nde
  replace x0 := x0.same y6
  replace x1 := x1.same y6
  replace x2 := x2.same y6
  replace x3 := x3.same y6
  replace x4 := x4.same y6
  have s6 := s5.trans y6
  generalize upd (upd (upd H5 e6 (exo e6 (cs 5) none)) dx (exd dx [("which", v)])) e6 (exo e6 (cs 5) (some dx)) = H6 at s6 x5 x0 x1 x2 x3 x4 y6
  refine ⟨_, rfl, by show 1 ≤ 1000; decide, fun e7 ne7 => ⟨e7, v, rfl, upd_same, fun dx ndx nde => ⟨rfl, ?_⟩⟩⟩
  obtain ⟨y7, x6, _, _⟩ := ex_new (C := cs 6) (f := "word") (y := v) ne7 ndx nde
  replace x0 := x0.same y7
  replace x1 := x1.same y7
  replace x2 := x2.same y7
  replace x3 := x3.same y7
  replace x4 := x4.same y7
  replace x5 := x5.same y7
  have s7 := s6.trans y7
  generalize upd (upd (upd H6 e7 (exo e7 (cs 6) none)) dx (exd dx [("word", v)])) e7 (exo e7 (cs 6) (some dx)) = H7 at s7 x6 x0 x1 x2 x3 x4 x5 y7
  refine ⟨_, rfl, by show 1 ≤ 1000; decide, fun e8 ne8 => ⟨e8, v, rfl, upd_same, fun dx ndx nde => ⟨rfl, ?_⟩⟩⟩
  obtain ⟨y8, x7, _, _⟩ := ex_new (C := cs 7) (f := "fault") (y := v) ne8 ndx nde
  replace x0 := x0.same y8
  replace x1 := x1.same y8
  replace x2 := x2.same y8
  replace x3 := x3.same y8
  replace x4 := x4.same y8
  replace x5 := x5.same y8
  replace x6 := x6.same y8
  have s8 := s7.trans y8
  generalize upd (upd (upd H7 e8 (exo e8 (cs 7) none)) dx (exd dx [("fault", v)])) e8 (exo e8 (cs 7) (some dx)) = H8 at s8 x7 x0 x1 x2 x3 x4 x5 x6 y8
  refine ⟨by show 8 ≤ 2 ^ 24; decide, fun l9 n9 => ?_⟩
  have y9 := same_new n9 (.lst [V.ref e1, V.ref e2, V.ref e3, V.ref e4, V.ref e5, V.ref e6, V.ref e7, V.ref e8])
  replace x0 := x0.same y9
  replace x1 := x1.same y9
  replace x2 := x2.same y9
  replace x3 := x3.same y9
  replace x4 := x4.same y9
  replace x5 := x5.same y9
  replace x6 := x6.same y9
  replace x7 := x7.same y9
  have s9 := s8.trans y9
  have g0 : upd H8 l9 (.lst [V.ref e1, V.ref e2, V.ref e3, V.ref e4, V.ref e5, V.ref e6, V.ref e7, V.ref e8]) l9 = some (.lst [V.ref e1, V.ref e2, V.ref e3, V.ref e4, V.ref e5, V.ref e6, V.ref e7, V.ref e8]) := upd_same
  generalize upd H8 l9 (.lst [V.ref e1, V.ref e2, V.ref e3, V.ref e4, V.ref e5, V.ref e6, V.ref e7, V.ref e8]) = H9 at s9 g0 x0 x1 x2 x3 x4 x5 x6 x7 y9
  refine ⟨_, rfl, ?_⟩
  intro e10 ne10
  obtain ⟨y10, x8⟩ := ex_new0 (C := cs 8) ne10
  replace x0 := x0.same y10
  replace x1 := x1.same y10
  replace x2 := x2.same y10
  replace x3 := x3.same y10
  replace x4 := x4.same y10
  replace x5 := x5.same y10
  replace x6 := x6.same y10
  replace x7 := x7.same y10
  replace g0 := y10 _ _ g0
  have s10 := s9.trans y10
  generalize upd H9 e10 (exo e10 (cs 8) none) = H10 at s10 x8 x0 x1 x2 x3 x4 x5 x6 x7 g0 y10
  intro e11 ne11
  obtain ⟨y11, x9⟩ := ex_new0 (C := cs 9) ne11
  replace x0 := x0.same y11
  replace x1 := x1.same y11
  replace x2 := x2.same y11
  replace x3 := x3.same y11
  replace x4 := x4.same y11
  replace x5 := x5.same y11
  replace x6 := x6.same y11
  replace x7 := x7.same y11
  replace g0 := y11 _ _ g0
  replace x8 := x8.same y11
  have s11 := s10.trans y11
  generalize upd H10 e11 (exo e11 (cs 9) none) = H11 at s11 x9 x0 x1 x2 x3 x4 x5 x6 x7 g0 x8 y11
  intro e12 ne12
  obtain ⟨y12, x10⟩ := ex_new0 (C := cs 10) ne12
  replace x0 := x0.same y12
  replace x1 := x1.same y12
  replace x2 := x2.same y12
  replace x3 := x3.same y12
  replace x4 := x4.same y12
  replace x5 := x5.same y12
  replace x6 := x6.same y12
  replace x7 := x7.same y12
  replace g0 := y12 _ _ g0
  replace x8 := x8.same y12
  replace x9 := x9.same y12
  have s12 := s11.trans y12
  generalize upd H11 e12 (exo e12 (cs 10) none) = H12 at s12 x10 x0 x1 x2 x3 x4 x5 x6 x7 g0 x8 x9 y12
  intro e13 ne13
  obtain ⟨y13, x11⟩ := ex_new0 (C := cs 11) ne13
  replace x0 := x0.same y13
  replace x1 := x1.same y13
  replace x2 := x2.same y13
  replace x3 := x3.same y13
  replace x4 := x4.same y13
  replace x5 := x5.same y13
  replace x6 := x6.same y13
  replace x7 := x7.same y13
  replace g0 := y13 _ _ g0
  replace x8 := x8.same y13
  replace x9 := x9.same y13
  replace x10 := x10.same y13
  have s13 := s12.trans y13
  generalize upd H12 e13 (exo e13 (cs 11) none) = H13 at s13 x11 x0 x1 x2 x3 x4 x5 x6 x7 g0 x8 x9 x10 y13
  intro e14 ne14
  obtain ⟨y14, x12⟩ := ex_new0 (C := cs 12) ne14
  replace x0 := x0.same y14
  replace x1 := x1.same y14
  replace x2 := x2.same y14
  replace x3 := x3.same y14
  replace x4 := x4.same y14
  replace x5 := x5.same y14
  replace x6 := x6.same y14
  replace x7 := x7.same y14
  replace g0 := y14 _ _ g0
  replace x8 := x8.same y14
  replace x9 := x9.same y14
  replace x10 := x10.same y14
  replace x11 := x11.same y14
  have s14 := s13.trans y14
  generalize upd H13 e14 (exo e14 (cs 12) none) = H14 at s14 x12 x0 x1 x2 x3 x4 x5 x6 x7 g0 x8 x9 x10 x11 y14
  refine ⟨_, rfl, by show 1 ≤ 1000; decide, fun e15 ne15 => ⟨e15, v, rfl, upd_same, fun dx ndx nde => ⟨rfl, ?_⟩⟩⟩
  obtain ⟨y15, x13, _, _⟩ := ex_new (C := cs 13) (f := "index") (y := v) ne15 ndx nde
  replace x0 := x0.same y15
  replace x1 := x1.same y15
  replace x2 := x2.same y15
  replace x3 := x3.same y15
  replace x4 := x4.same y15
  replace x5 := x5.same y15
  replace x6 := x6.same y15
  replace x7 := x7.same y15
  replace g0 := y15 _ _ g0
  replace x8 := x8.same y15
  replace x9 := x9.same y15
  replace x10 := x10.same y15
  replace x11 := x11.same y15
  replace x12 := x12.same y15
  have s15 := s14.trans y15
  generalize upd (upd (upd H14 e15 (exo e15 (cs 13) none)) dx (exd dx [("index", v)])) e15 (exo e15 (cs 13) (some dx)) = H15 at s15 x13 x0 x1 x2 x3 x4 x5 x6 x7 g0 x8 x9 x10 x11 x12 y15
  refine ⟨_, rfl, by show 1 ≤ 1000; decide, fun e16 ne16 => ⟨e16, v, rfl, upd_same, fun dx ndx nde => ⟨rfl, ?_⟩⟩⟩
  obtain ⟨y16, x14, _, _⟩ := ex_new (C := cs 14) (f := "index") (y := v) ne16 ndx nde
  replace x0 := x0.same y16
  replace x1 := x1.same y16
  replace x2 := x2.same y16
  replace x3 := x3.same y16
  replace x4 := x4.same y16
  replace x5 := x5.same y16
  replace x6 := x6.same y16
  replace x7 := x7.same y16
  replace g0 := y16 _ _ g0
  replace x8 := x8.same y16
  replace x9 := x9.same y16
  replace x10 := x10.same y16
  replace x11 := x11.same y16
  replace x12 := x12.same y16
  replace x13 := x13.same y16
  have s16 := s15.trans y16
  generalize upd (upd (upd H15 e16 (exo e16 (cs 14) none)) dx (exd dx [("index", v)])) e16 (exo e16 (cs 14) (some dx)) = H16 at s16 x14 x0 x1 x2 x3 x4 x5 x6 x7 g0 x8 x9 x10 x11 x12 x13 y16
  refine ⟨by show 7 ≤ 2 ^ 24; decide, fun l17 n17 => ?_⟩
  have y17 := same_new n17 (.lst [V.ref e10, V.ref e11, V.ref e12, V.ref e13, V.ref e14, V.ref e15, V.ref e16])
  replace x0 := x0.same y17
  replace x1 := x1.same y17
  replace x2 := x2.same y17
  replace x3 := x3.same y17
  replace x4 := x4.same y17
  replace x5 := x5.same y17
  replace x6 := x6.same y17
  replace x7 := x7.same y17
  replace g0 := y17 _ _ g0
  replace x8 := x8.same y17
  replace x9 := x9.same y17
  replace x10 := x10.same y17
  replace x11 := x11.same y17
  replace x12 := x12.same y17
  replace x13 := x13.same y17
  replace x14 := x14.same y17
  have s17 := s16.trans y17
  have gb0 : upd H16 l17 (.lst [V.ref e10, V.ref e11, V.ref e12, V.ref e13, V.ref e14, V.ref e15, V.ref e16]) l17 = some (.lst [V.ref e10, V.ref e11, V.ref e12, V.ref e13, V.ref e14, V.ref e15, V.ref e16]) := upd_same
  generalize upd H16 l17 (.lst [V.ref e10, V.ref e11, V.ref e12, V.ref e13, V.ref e14, V.ref e15, V.ref e16]) = H17 at s17 gb0 x0 x1 x2 x3 x4 x5 x6 x7 g0 x8 x9 x10 x11 x12 x13 x14 y17
  refine ⟨l9, l17, _, _, rfl, rfl, g0, gb0, by show 15 ≤ 2 ^ 24; decide, fun l18 n18 => ?_⟩
  have y18 := same_new n18 (.lst ([V.ref e1, V.ref e2, V.ref e3, V.ref e4, V.ref e5, V.ref e6, V.ref e7, V.ref e8] ++ [V.ref e10, V.ref e11, V.ref e12, V.ref e13, V.ref e14, V.ref e15, V.ref e16]))
  replace x0 := x0.same y18
  replace x1 := x1.same y18
  replace x2 := x2.same y18
  replace x3 := x3.same y18
  replace x4 := x4.same y18
  replace x5 := x5.same y18
  replace x6 := x6.same y18
  replace x7 := x7.same y18
  replace x8 := x8.same y18
  replace x9 := x9.same y18
  replace x10 := x10.same y18
  replace x11 := x11.same y18
  replace x12 := x12.same y18
  replace x13 := x13.same y18
  replace x14 := x14.same y18
  have s18 := s17.trans y18
  have gc0 : upd H17 l18 (.lst ([V.ref e1, V.ref e2, V.ref e3, V.ref e4, V.ref e5, V.ref e6, V.ref e7, V.ref e8] ++ [V.ref e10, V.ref e11, V.ref e12, V.ref e13, V.ref e14, V.ref e15, V.ref e16])) l18 = some (.lst [V.ref e1, V.ref e2, V.ref e3, V.ref e4, V.ref e5, V.ref e6, V.ref e7, V.ref e8, V.ref e10, V.ref e11, V.ref e12, V.ref e13, V.ref e14, V.ref e15, V.ref e16]) := upd_same
  generalize upd H17 l18 (.lst ([V.ref e1, V.ref e2, V.ref e3, V.ref e4, V.ref e5, V.ref e6, V.ref e7, V.ref e8] ++ [V.ref e10, V.ref e11, V.ref e12, V.ref e13, V.ref e14, V.ref e15, V.ref e16])) = H18 at s18 gc0 x0 x1 x2 x3 x4 x5 x6 x7 x8 x9 x10 x11 x12 x13 x14 y18
  refine ⟨_, rfl, ?_⟩
  intro e19 ne19
  obtain ⟨y19, x15⟩ := ex_new0 (C := cs 15) ne19
  replace x0 := x0.same y19
  replace x1 := x1.same y19
  replace x2 := x2.same y19
  replace x3 := x3.same y19
  replace x4 := x4.same y19
  replace x5 := x5.same y19
  replace x6 := x6.same y19
  replace x7 := x7.same y19
  replace x8 := x8.same y19
  replace x9 := x9.same y19
  replace x10 := x10.same y19
  replace x11 := x11.same y19
  replace x12 := x12.same y19
  replace x13 := x13.same y19
  replace x14 := x14.same y19
  replace gc0 := y19 _ _ gc0
  have s19 := s18.trans y19
  generalize upd H18 e19 (exo e19 (cs 15) none) = H19 at s19 x15 x0 x1 x2 x3 x4 x5 x6 x7 x8 x9 x10 x11 x12 x13 x14 gc0 y19
  intro e20 ne20
  obtain ⟨y20, x16⟩ := ex_new0 (C := cs 16) ne20
  replace x0 := x0.same y20
  replace x1 := x1.same y20
  replace x2 := x2.same y20
  replace x3 := x3.same y20
  replace x4 := x4.same y20
  replace x5 := x5.same y20
  replace x6 := x6.same y20
  replace x7 := x7.same y20
  replace x8 := x8.same y20
  replace x9 := x9.same y20
  replace x10 := x10.same y20
  replace x11 := x11.same y20
  replace x12 := x12.same y20
  replace x13 := x13.same y20
  replace x14 := x14.same y20
  replace gc0 := y20 _ _ gc0
  replace x15 := x15.same y20
  have s20 := s19.trans y20
  generalize upd H19 e20 (exo e20 (cs 16) none) = H20 at s20 x16 x0 x1 x2 x3 x4 x5 x6 x7 x8 x9 x10 x11 x12 x13 x14 gc0 x15 y20
  refine ⟨by show 2 ≤ 2 ^ 24; decide, fun l21 n21 => ?_⟩
  have y21 := same_new n21 (.lst [V.ref e19, V.ref e20])
  replace x0 := x0.same y21
  replace x1 := x1.same y21
  replace x2 := x2.same y21
  replace x3 := x3.same y21
  replace x4 := x4.same y21
  replace x5 := x5.same y21
  replace x6 := x6.same y21
  replace x7 := x7.same y21
  replace x8 := x8.same y21
  replace x9 := x9.same y21
  replace x10 := x10.same y21
  replace x11 := x11.same y21
  replace x12 := x12.same y21
  replace x13 := x13.same y21
  replace x14 := x14.same y21
  replace gc0 := y21 _ _ gc0
  replace x15 := x15.same y21
  replace x16 := x16.same y21
  have s21 := s20.trans y21
  have gb1 : upd H20 l21 (.lst [V.ref e19, V.ref e20]) l21 = some (.lst [V.ref e19, V.ref e20]) := upd_same
  generalize upd H20 l21 (.lst [V.ref e19, V.ref e20]) = H21 at s21 gb1 x0 x1 x2 x3 x4 x5 x6 x7 x8 x9 x10 x11 x12 x13 x14 gc0 x15 x16 y21
  refine ⟨l18, l21, _, _, rfl, rfl, gc0, gb1, by show 17 ≤ 2 ^ 24; decide, fun l22 n22 => ?_⟩
  have y22 := same_new n22 (.lst ([V.ref e1, V.ref e2, V.ref e3, V.ref e4, V.ref e5, V.ref e6, V.ref e7, V.ref e8, V.ref e10, V.ref e11, V.ref e12, V.ref e13, V.ref e14, V.ref e15, V.ref e16] ++ [V.ref e19, V.ref e20]))
  replace x0 := x0.same y22
  replace x1 := x1.same y22
  replace x2 := x2.same y22
  replace x3 := x3.same y22
  replace x4 := x4.same y22
  replace x5 := x5.same y22
  replace x6 := x6.same y22
  replace x7 := x7.same y22
  replace x8 := x8.same y22
  replace x9 := x9.same y22
  replace x10 := x10.same y22
  replace x11 := x11.same y22
  replace x12 := x12.same y22
  replace x13 := x13.same y22
  replace x14 := x14.same y22
  replace x15 := x15.same y22
  replace x16 := x16.same y22
  have s22 := s21.trans y22
  have gc1 : upd H21 l22 (.lst ([V.ref e1, V.ref e2, V.ref e3, V.ref e4, V.ref e5, V.ref e6, V.ref e7, V.ref e8, V.ref e10, V.ref e11, V.ref e12, V.ref e13, V.ref e14, V.ref e15, V.ref e16] ++ [V.ref e19, V.ref e20])) l22 = some (.lst [V.ref e1, V.ref e2, V.ref e3, V.ref e4, V.ref e5, V.ref e6, V.ref e7, V.ref e8, V.ref e10, V.ref e11, V.ref e12, V.ref e13, V.ref e14, V.ref e15, V.ref e16, V.ref e19, V.ref e20]) := upd_same
  generalize upd H21 l22 (.lst ([V.ref e1, V.ref e2, V.ref e3, V.ref e4, V.ref e5, V.ref e6, V.ref e7, V.ref e8, V.ref e10, V.ref e11, V.ref e12, V.ref e13, V.ref e14, V.ref e15, V.ref e16] ++ [V.ref e19, V.ref e20])) = H22 at s22 gc1 x0 x1 x2 x3 x4 x5 x6 x7 x8 x9 x10 x11 x12 x13 x14 x15 x16 y22
  have al : ∀ k, k < 17 → ∃ e, ([V.ref e1, V.ref e2, V.ref e3, V.ref e4, V.ref e5, V.ref e6, V.ref e7, V.ref e8, V.ref e10, V.ref e11, V.ref e12, V.ref e13, V.ref e14, V.ref e15, V.ref e16, V.ref e19, V.ref e20] : List V)[k]? = some (V.ref e) ∧ ExAt H22 e (cs k) := fun k hk => match k, hk with
    | 0, _ => ⟨_, rfl, x0⟩
    | 1, _ => ⟨_, rfl, x1⟩
    | 2, _ => ⟨_, rfl, x2⟩
    | 3, _ => ⟨_, rfl, x3⟩
    | 4, _ => ⟨_, rfl, x4⟩
    | 5, _ => ⟨_, rfl, x5⟩
    | 6, _ => ⟨_, rfl, x6⟩
    | 7, _ => ⟨_, rfl, x7⟩
    | 8, _ => ⟨_, rfl, x8⟩
    | 9, _ => ⟨_, rfl, x9⟩
    | 10, _ => ⟨_, rfl, x10⟩
    | 11, _ => ⟨_, rfl, x11⟩
    | 12, _ => ⟨_, rfl, x12⟩
    | 13, _ => ⟨_, rfl, x13⟩
    | 14, _ => ⟨_, rfl, x14⟩
    | 15, _ => ⟨_, rfl, x15⟩
    | 16, _ => ⟨_, rfl, x16⟩
    | n + 17, h => absurd h (by omega)
  generalize [V.ref e1, V.ref e2, V.ref e3, V.ref e4, V.ref e5, V.ref e6, V.ref e7, V.ref e8, V.ref e10, V.ref e11, V.ref e12, V.ref e13, V.ref e14, V.ref e15, V.ref e16, V.ref e19, V.ref e20] = xs at gc1 al
  clear x0 x1 x2 x3 x4 x5 x6 x7 x8 x9 x10 x11 x12 x13 x14 x15 x16
  refine ⟨17, rfl, by decide, by decide, for_range (lo := 0) (n := 17) (fun i σ G => ∃ k2 : Option V, σ = [some v, some (.ref l22), k2, none, none] ∧ Same H22 G) ⟨none, rfl, Same.refl _⟩ ?_ ?_⟩
  · rintro k σ G hk ⟨k2, rfl, sG⟩
    obtain ⟨e, e1, hE⟩ := al k hk
    replace hE := hE.same sG
    have ai : atI xs (0 + (k : Int)) = some (V.ref e) := by rw [Int.zero_add]; exact atI_nat e1
    have gx := sG _ _ gc1
    refine ⟨_, rfl, _, rfl, l22, xs, _, _, rfl, rfl, .inl (.inl gx), ai, e, k, rfl, by omega, hE, fun L1 G1 s1 g1 => ?_⟩
    refine ⟨17, rfl, by decide, by decide, fun L nL => lc_range (lo := 0) (n := 17) (fun j G' => Same G1 G' ∧ G' L = some (.lst (((List.range j).map fun q => decide (k = q)).map V.bl))) ⟨same_new nL _, by rw [upd_same]; rfl⟩ ?_ ?_⟩
    · rintro j G' hj ⟨s2, g2⟩
      refine ⟨rfl, _, rfl, _, rfl, rfl, _, g2, by rw [List.length_map, List.length_map, List.length_range]; show j < 2 ^ 24; omega, same_grow nL s2 _, ?_⟩
      have ed : decide (V.int (0 + (j : Int)) = V.int (0 + (k : Int))) = decide (k = j) := by
        by_cases c : k = j
        · rw [c]; simp
        · have c' : ¬ (V.int (0 + (j : Int)) = V.int (0 + (k : Int))) := fun z => c (by have := V.int.inj z; omega)
          rw [decide_eq_false c', decide_eq_false c]
      rw [upd_same, ed, List.range_succ, List.map_append, List.map_append]
      rfl
    rintro G2 ⟨s2, g2⟩
    obtain ⟨rv, rs⟩ := row_eqv k hk
    refine ⟨.list ((kindRow k).map .bool), .list ((kindRow k).map .bool), .lst (.inl (.inl (s2 _ _ g1))) (bools_dp _), .lst (.inl (.inl g2)) (bools_dp _), rs, rs, _, rfl, ?_⟩
    rw [rv]
    refine iteF ?_
    replace hE := (hE.same s1).same s2
    have gx2 := s2 _ _ (s1 _ _ gx)
    refine ⟨_, rfl, _, rfl, l22, xs, _, _, rfl, rfl, .inl (.inl gx2), ai, e, cs k, .ty "LookupError", .type "LookupError", _, rfl, .ty _, T.ec k (by omega), hE, T.tle k (by omega), _, rfl, ?_⟩
    refine ite2 (fun c => absurd (of_decide_eq_true c) (by omega)) (fun _ => ?_)
    refine ⟨_, rfl, _, rfl, l22, xs, _, _, rfl, rfl, .inl (.inl gx2), ai, e, cs k, .ref (cs 19), .ref (cs 19), _, rfl, .own _, T.ec k (by omega), hE, T.pe k (by omega), _, rfl, ?_⟩
    rw [decide_eq_true (show k < 17 ∨ k = 19 by omega)]
    refine iteF ?_
    refine ⟨_, rfl, _, rfl, l22, xs, _, _, rfl, rfl, .inl (.inl gx2), ai, e, cs k, .ty "ValueError", .type "ValueError", _, rfl, .ty _, T.ec k (by omega), hE, T.tve k (by omega), _, rfl, ?_⟩
    rw [decide_eq_true (show k < 17 ∨ k = 19 by omega)]
    refine iteF ?_
    exact ⟨_, rfl, sG.trans (s1.trans s2)⟩
  rintro σ G ⟨k2, rfl, sG⟩
  have t0 := s22.trans sG
  clear al gc1
  refine ⟨_, rfl, by show 1 ≤ 1000; decide, fun e23 ne23 => ⟨e23, v, rfl, upd_same, fun dx ndx nde => ⟨rfl, ?_⟩⟩⟩
  obtain ⟨y23, x17, _, _⟩ := ex_new (C := cs 17) (f := "index") (y := v) ne23 ndx nde
  have s23 := t0.trans y23
  generalize upd (upd (upd G e23 (exo e23 (cs 17) none)) dx (exd dx [("index", v)])) e23 (exo e23 (cs 17) (some dx)) = H23 at s23 x17  y23
  refine ⟨_, rfl, by show 1 ≤ 1000; decide, fun e24 ne24 => ⟨e24, v, rfl, upd_same, fun dx ndx nde => ⟨rfl, ?_⟩⟩⟩
  obtain ⟨y24, x18, _, _⟩ := ex_new (C := cs 18) (f := "version") (y := v) ne24 ndx nde
  replace x17 := x17.same y24
  have s24 := s23.trans y24
  generalize upd (upd (upd H23 e24 (exo e24 (cs 18) none)) dx (exd dx [("version", v)])) e24 (exo e24 (cs 18) (some dx)) = H24 at s24 x18 x17 y24
  intro e25 ne25
  obtain ⟨y25, x19⟩ := ex_new0 (C := cs 19) ne25
  replace x17 := x17.same y25
  replace x18 := x18.same y25
  have s25 := s24.trans y25
  generalize upd H24 e25 (exo e25 (cs 19) none) = H25 at s25 x19 x17 x18 y25
  refine ⟨by show 3 ≤ 2 ^ 24; decide, fun l26 n26 => ?_⟩
  have y26 := same_new n26 (.lst [V.ref e23, V.ref e24, V.ref e25])
  replace x17 := x17.same y26
  replace x18 := x18.same y26
  replace x19 := x19.same y26
  have s26 := s25.trans y26
  have gla : upd H25 l26 (.lst [V.ref e23, V.ref e24, V.ref e25]) l26 = some (.lst [V.ref e23, V.ref e24, V.ref e25]) := upd_same
  generalize upd H25 l26 (.lst [V.ref e23, V.ref e24, V.ref e25]) = H26 at s26 gla x17 x18 x19 y26
  have ala : ∀ y ∈ ([V.ref e23, V.ref e24, V.ref e25] : List V), ∃ e i, y = .ref e ∧ 17 ≤ i ∧ i < 20 ∧ ExAt H26 e (cs i) := by
    simp only [List.forall_mem_cons]
    exact ⟨⟨_, 17, rfl, by decide, by decide, x17⟩, ⟨_, 18, rfl, by decide, by decide, x18⟩, ⟨_, 19, rfl, by decide, by decide, x19⟩, fun _ h => nomatch h⟩
  generalize [V.ref e23, V.ref e24, V.ref e25] = xsa at gla ala
  clear x17 x18 x19
  refine ⟨l26, rfl, ⟨_, .inl (.inl gla)⟩, for_list (K := K) (a := l26) (xs := xsa) (fun j σ G => ∃ k3 : Option V, σ = [some v, some (.ref l22), k2, k3, none] ∧ Same H26 G) ⟨_, rfl, Same.refl _⟩ (fun j σ G _ h => let ⟨_, _, s⟩ := h; .inl (.inl (s _ _ gla))) ?_ ?_⟩
  · rintro j y σ G hy ⟨k3, rfl, sG⟩
    obtain ⟨e, i, rfl, i1, i2, hE⟩ := ala y (List.mem_of_getElem? hy)
    replace hE := hE.same sG
    refine ⟨_, rfl, e, i, rfl, i2, hE, fun L1 G1 s1 g1 => ?_⟩
    obtain ⟨rv, rs⟩ := row_no i i1 i2
    refine ⟨L1, _, rfl, .inl (.inl (.inl g1)), rfl, rs, _, rfl, ?_⟩
    refine ite2 (fun c => ?_) (fun _ => ⟨_, rfl, sG.trans s1⟩)
    have c' : inV (.bl true) ((kindRow i).map V.bl) = true := c
    rw [rv] at c'
    cases c'
  rintro σ Ga ⟨k3a, rfl, sGa⟩
  have ta := s26.trans sGa
  clear gla ala
  refine ⟨_, rfl, by show 1 ≤ 1000; decide, fun e27 ne27 => ⟨e27, v, rfl, upd_same, fun dx ndx nde => ⟨rfl, ?_⟩⟩⟩
  obtain ⟨y27, x17, _, _⟩ := ex_new (C := cs 17) (f := "index") (y := v) ne27 ndx nde
  have s27 := ta.trans y27
  generalize upd (upd (upd Ga e27 (exo e27 (cs 17) none)) dx (exd dx [("index", v)])) e27 (exo e27 (cs 17) (some dx)) = H27 at s27 x17  y27
  refine ⟨_, rfl, by show 1 ≤ 1000; decide, fun e28 ne28 => ⟨e28, v, rfl, upd_same, fun dx ndx nde => ⟨rfl, ?_⟩⟩⟩
  obtain ⟨y28, x18, _, _⟩ := ex_new (C := cs 18) (f := "version") (y := v) ne28 ndx nde
  replace x17 := x17.same y28
  have s28 := s27.trans y28
  generalize upd (upd (upd H27 e28 (exo e28 (cs 18) none)) dx (exd dx [("version", v)])) e28 (exo e28 (cs 18) (some dx)) = H28 at s28 x18 x17 y28
  refine ⟨by show 2 ≤ 2 ^ 24; decide, fun l29 n29 => ?_⟩
  have y29 := same_new n29 (.lst [V.ref e27, V.ref e28])
  replace x17 := x17.same y29
  replace x18 := x18.same y29
  have s29 := s28.trans y29
  have glb : upd H28 l29 (.lst [V.ref e27, V.ref e28]) l29 = some (.lst [V.ref e27, V.ref e28]) := upd_same
  generalize upd H28 l29 (.lst [V.ref e27, V.ref e28]) = H29 at s29 glb x17 x18 y29
  have alb : ∀ y ∈ ([V.ref e27, V.ref e28] : List V), ∃ e i, y = .ref e ∧ 17 ≤ i ∧ i < 19 ∧ ExAt H29 e (cs i) := by
    simp only [List.forall_mem_cons]
    exact ⟨⟨_, 17, rfl, by decide, by decide, x17⟩, ⟨_, 18, rfl, by decide, by decide, x18⟩, fun _ h => nomatch h⟩
  generalize [V.ref e27, V.ref e28] = xsb at glb alb
  clear x17 x18
  refine ⟨l29, rfl, ⟨_, .inl (.inl glb)⟩, for_list (K := K) (a := l29) (xs := xsb) (fun j σ G => ∃ k3 : Option V, σ = [some v, some (.ref l22), k2, k3, none] ∧ Same H29 G) ⟨_, rfl, Same.refl _⟩ (fun j σ G _ h => let ⟨_, _, s⟩ := h; .inl (.inl (s _ _ glb))) ?_ ?_⟩
  · rintro j y σ G hy ⟨k3, rfl, sG⟩
    obtain ⟨e, i, rfl, i1, i2, hE⟩ := alb y (List.mem_of_getElem? hy)
    replace hE := hE.same sG
    refine ⟨_, rfl, e, cs i, .ty "LookupError", .type "LookupError", _, rfl, .ty _, T.ec i (by omega), hE, T.tle i (by omega), _, rfl, ?_⟩
    rw [decide_eq_true (show i = 17 ∨ i = 18 by omega)]
    refine iteF ?_
    refine ⟨_, rfl, e, cs i, .ty "ValueError", .type "ValueError", _, rfl, .ty _, T.ec i (by omega), hE, T.tve i (by omega), _, rfl, ?_⟩
    rw [decide_eq_false (show ¬ (i < 17 ∨ i = 19) by omega)]
    refine iteF ?_
    refine ⟨_, rfl, e, cs i, .ref (cs 19), .ref (cs 19), _, rfl, .own _, T.ec i (by omega), hE, T.pe i (by omega), _, rfl, ?_⟩
    rw [decide_eq_false (show ¬ (i < 17 ∨ i = 19) by omega)]
    refine iteF ?_
    exact ⟨_, rfl, sG⟩
  rintro σ Gb ⟨k3b, rfl, sGb⟩
  have tb := s29.trans sGb
  clear glb alb
  intro e30 ne30
  obtain ⟨y30, x19⟩ := ex_new0 (C := cs 19) ne30
  have s30 := tb.trans y30
  generalize upd Gb e30 (exo e30 (cs 19) none) = H30 at s30 x19  y30
  refine ⟨e30, cs 19, .ty "LookupError", .type "LookupError", _, rfl, .ty _, T.ec 19 (by decide), x19, T.tle 19 (by decide), _, rfl, ?_⟩
  refine ite2 (fun c => absurd (of_decide_eq_true c) (by decide)) (fun _ => ?_)
  intro e31 ne31
  obtain ⟨y31, z19⟩ := ex_new0 (C := cs 19) ne31
  replace x19 := x19.same y31
  have s31 := s30.trans y31
  generalize upd H30 e31 (exo e31 (cs 19) none) = H31 at s31 z19 x19 y31
  refine ⟨e31, cs 19, .ty "ValueError", .type "ValueError", _, rfl, .ty _, T.ec 19 (by decide), z19, T.tve 19 (by decide), _, rfl, ?_⟩
  rw [decide_eq_true (show 19 < 17 ∨ 19 = 19 by decide)]
  refine iteF ?_
  refine ⟨_, rfl, by show 1 ≤ 1000; decide, fun e32 ne32 => ⟨e32, v, rfl, upd_same, fun dx ndx nde => ⟨rfl, ?_⟩⟩⟩
  obtain ⟨y32, x17, _, _⟩ := ex_new (C := cs 17) (f := "index") (y := v) ne32 ndx nde
  replace x19 := x19.same y32
  replace z19 := z19.same y32
  have s32 := s31.trans y32
  generalize upd (upd (upd H31 e32 (exo e32 (cs 17) none)) dx (exd dx [("index", v)])) e32 (exo e32 (cs 17) (some dx)) = H32 at s32 x17 x19 z19 y32
  refine ⟨e32, cs 17, .ref (cs 18), .ref (cs 18), _, rfl, .own _, T.ec 17 (by decide), x17, T.np, ?_⟩
  refine ⟨_, rfl, _, rfl, ?_⟩
  refine iteT ?_
  refine ⟨_, rfl, by show 1 ≤ 1000; decide, fun e33 ne33 => ⟨e33, v, rfl, upd_same, fun dx ndx nde => ⟨rfl, ?_⟩⟩⟩
  obtain ⟨y33, x18, _, _⟩ := ex_new (C := cs 18) (f := "version") (y := v) ne33 ndx nde
  replace x19 := x19.same y33
  replace z19 := z19.same y33
  replace x17 := x17.same y33
  have s33 := s32.trans y33
  generalize upd (upd (upd H32 e33 (exo e33 (cs 18) none)) dx (exd dx [("version", v)])) e33 (exo e33 (cs 18) (some dx)) = H33 at s33 x18 x19 z19 x17 y33
  refine ⟨e33, cs 18, .ref (cs 17), .ref (cs 17), _, rfl, .own _, T.ec 18 (by decide), x18, T.nv, ?_⟩
  exact ⟨_, rfl, q _ s33⟩
end
end K00
namespace K00
open PySem L2 GL KC GX
def spFields (K : PySem.W.Frag) : Sp := fun vs H Q _ => ∃ (v : V) (t : Str), vs = [v] ∧ Rp K H v t ∧ ∀ G, Same H G → Q (.bl true) G
theorem xf_of {K : PySem.W.Frag} {C : Addr} (E : ExcC K C) : XfC K C := ⟨E.hg, E.hk, E.hs, E.hd⟩
theorem pair_same {K : PySem.W.Frag} {H : Hp} (t : Str) : ∀ n : Nat, Paired (EqV K H 1) ((List.replicate n t).map V.str) ((List.replicate n t).map V.str)
  | 0 => .nil
  | n + 1 => .cons (.inl ⟨rfl, rfl⟩) (pair_same t n)
abbrev NFr : List Str := ["_law_a", "_law_found", "_law_one_here"]
section
variable {P : Program} {w : World} {K : PySem.W.Frag} {mg : Str → Option Value} {base : Heap} {cs : Nat → Addr}
theorem scFr : FnScope ["_law_a", "_law_found", "_law_one_here"] ["_law_a"] (defScope sFr) := ⟨rfl, rfl, rfl, by decide +kernel, rfl, by decide +kernel, by decide +kernel⟩
theorem ok_fr {f f0 f1 f2 f3 f4 f5 f6 f7 f13 f14 f17 f18 : Addr} {fd d0 d1 d2 d3 d4 d5 d6 d7 d13 d14 d17 d18 : FuncData} (F : Fun K "_law_fields_right" "_law_fields_right" sFr f fd) (T : Txt K mg cs)
    (I0 : Ini P w K mg base (cs 0) f0 d0 "line" vE "ValueError.__new__")
    (I1 : Ini P w K mg base (cs 1) f1 d1 "error" vE "ValueError.__new__")
    (I2 : Ini P w K mg base (cs 2) f2 d2 "error" vE "ValueError.__new__")
    (I3 : Ini P w K mg base (cs 3) f3 d3 "word" vE "ValueError.__new__")
    (I4 : Ini P w K mg base (cs 4) f4 d4 "length" vE "ValueError.__new__")
    (I5 : Ini P w K mg base (cs 5) f5 d5 "which" vE "ValueError.__new__")
    (I6 : Ini P w K mg base (cs 6) f6 d6 "word" vE "ValueError.__new__")
    (I7 : Ini P w K mg base (cs 7) f7 d7 "fault" vE "ValueError.__new__")
    (I13 : Ini P w K mg base (cs 13) f13 d13 "index" vE "ValueError.__new__")
    (I14 : Ini P w K mg base (cs 14) f14 d14 "index" vE "ValueError.__new__")
    (I17 : Ini P w K mg base (cs 17) f17 d17 "index" lE "LookupError.__new__")
    (I18 : Ini P w K mg base (cs 18) f18 d18 "version" lE "LookupError.__new__") : Fg P w K mg base CX0 3 f fd ["_law_a"] (spFields K) := by
  refine ok_g F scFr (fun vs H Q E h => ?_) (fun cdv A outer s H vs Q E hg hr h => ?_)
  · obtain ⟨v, t, rfl, _⟩ := h
    rfl
  obtain ⟨v, t, rfl, hv, q⟩ := h
  refine ⟨_, (pss_cons (ps_set (i := 1) scFr.nd rfl (Or.inl rfl) (pe_lst (pa_cons (pe_xfV (pe_exV I0.T PySem.F.excBase_ValueError I0.iC I0.tI I0.ok hr I0.b pass0 rfl T.m0 (pa_cons (pv 0) pa_nil)))
        (pa_cons (pe_xfV (pe_exV I1.T PySem.F.excBase_ValueError I1.iC I1.tI I1.ok hr I1.b pass0 rfl T.m1 (pa_cons (pv 0) pa_nil)))
        (pa_cons (pe_xfV (pe_exV I2.T PySem.F.excBase_ValueError I2.iC I2.tI I2.ok hr I2.b pass0 rfl T.m2 (pa_cons (pv 0) pa_nil)))
        (pa_cons (pe_xfV (pe_exV I3.T PySem.F.excBase_ValueError I3.iC I3.tI I3.ok hr I3.b pass0 rfl T.m3 (pa_cons (pv 0) pa_nil)))
        (pa_cons (pe_xfV (pe_exV I4.T PySem.F.excBase_ValueError I4.iC I4.tI I4.ok hr I4.b pass0 rfl T.m4 (pa_cons (pv 0) pa_nil)))
        pa_nil)))))))
      (pss_cons (ps_set (i := 1) scFr.nd rfl (Or.inl rfl) (pe_op op_cat (pv 1) (pe_lst (pa_cons (pe_xfV (pe_exV I5.T PySem.F.excBase_ValueError I5.iC I5.tI I5.ok hr I5.b pass0 rfl T.m5 (pa_cons (pv 0) pa_nil)))
        (pa_cons (pe_xfV (pe_exV I6.T PySem.F.excBase_ValueError I6.iC I6.tI I6.ok hr I6.b pass0 rfl T.m6 (pa_cons (pv 0) pa_nil)))
        (pa_cons (pe_xfV (pe_exV I7.T PySem.F.excBase_ValueError I7.iC I7.tI I7.ok hr I7.b pass0 rfl T.m7 (pa_cons (pv 0) pa_nil)))
        (pa_cons (pe_xfV (pe_exV I13.T PySem.F.excBase_ValueError I13.iC I13.tI I13.ok hr I13.b pass0 rfl T.m13 (pa_cons (pv 0) pa_nil)))
        (pa_cons (pe_xfV (pe_exV I14.T PySem.F.excBase_ValueError I14.iC I14.tI I14.ok hr I14.b pass0 rfl T.m14 (pa_cons (pv 0) pa_nil)))
        pa_nil))))))))
      (pss_cons (ps_set (i := 1) scFr.nd rfl (Or.inl rfl) (pe_op op_cat (pv 1) (pe_lst (pa_cons (pe_xfV (pe_exV I17.T PySem.F.excBase_LookupError I17.iC I17.tI I17.ok hr I17.b pass0 rfl T.m17 (pa_cons (pv 0) pa_nil)))
        (pa_cons (pe_xfV (pe_exV I18.T PySem.F.excBase_LookupError I18.iC I18.tI I18.ok hr I18.b pass0 rfl T.m18 (pa_cons (pv 0) pa_nil)))
        pa_nil)))))
      (pss_one (ps_ret (pe_cmpR (op_eqV hr.units) (pe_lc (own := [("_law_one_here", 2)]) (g := gName 2) (tt := tYes) rfl scFr.nd (pi_list (pv 1))
        (blkOk_by (own := [("_law_one_here", 2)]) (N := NFr) (sc := defScope sFr) (by decide +kernel)) (fun _ _ _ _ _ => pg_name (i := 2) scFr.nd rfl (Or.inl rfl)) (fun _ _ _ _ _ => pts_nil)
        (fun _ _ _ _ _ => pe_callB (show CallR _ _ (rReprX K) from call_reprX hg hr.units) (by rfl) T.repr (by decide +kernel) (pa_cons (pv 2) pa_nil))) (pe_op op_rep (pe_lst (pa_cons (pe_callB (call_reprX hg hr.units) (by rfl) T.repr (by decide +kernel) (pa_cons (pv 0) pa_nil)) pa_nil)) (pe_callB call_len_seq (by rfl) T.c.len PySem.boot_len (pa_cons (pv 1) pa_nil))) (nomark _))))))), ?_⟩
  have s0 : Same H H := Same.refl H
  refine ⟨_, rfl, by show 1 ≤ 1000; decide, fun e1 ne1 => ⟨e1, v, rfl, upd_same, fun dx1 ndx nde => ⟨rfl, ?_⟩⟩⟩
  obtain ⟨y1, _, a1, b1⟩ := ex_new (C := cs 0) (f := "line") (y := v) ne1 ndx nde
  have s1 := s0.trans y1
  generalize upd (upd (upd H e1 (exo e1 (cs 0) none)) dx1 (exd dx1 [("line", v)])) e1 (exo e1 (cs 0) (some dx1)) = H1 at s1 a1 b1 y1 
  refine ⟨e1, cs 0, dx1, _, v, rfl, xf_of (T.ec 0 (by decide)), I0.no, a1, b1, by simp [List.lookup], ?_⟩
  clear a1 b1 y1
  refine ⟨_, rfl, by show 1 ≤ 1000; decide, fun e2 ne2 => ⟨e2, v, rfl, upd_same, fun dx2 ndx nde => ⟨rfl, ?_⟩⟩⟩
  obtain ⟨y2, _, a2, b2⟩ := ex_new (C := cs 1) (f := "error") (y := v) ne2 ndx nde
  have s2 := s1.trans y2
  generalize upd (upd (upd H1 e2 (exo e2 (cs 1) none)) dx2 (exd dx2 [("error", v)])) e2 (exo e2 (cs 1) (some dx2)) = H2 at s2 a2 b2 y2 
  refine ⟨e2, cs 1, dx2, _, v, rfl, xf_of (T.ec 1 (by decide)), I1.no, a2, b2, by simp [List.lookup], ?_⟩
  clear a2 b2 y2
  refine ⟨_, rfl, by show 1 ≤ 1000; decide, fun e3 ne3 => ⟨e3, v, rfl, upd_same, fun dx3 ndx nde => ⟨rfl, ?_⟩⟩⟩
  obtain ⟨y3, _, a3, b3⟩ := ex_new (C := cs 2) (f := "error") (y := v) ne3 ndx nde
  have s3 := s2.trans y3
  generalize upd (upd (upd H2 e3 (exo e3 (cs 2) none)) dx3 (exd dx3 [("error", v)])) e3 (exo e3 (cs 2) (some dx3)) = H3 at s3 a3 b3 y3 
  refine ⟨e3, cs 2, dx3, _, v, rfl, xf_of (T.ec 2 (by decide)), I2.no, a3, b3, by simp [List.lookup], ?_⟩
  clear a3 b3 y3
  refine ⟨_, rfl, by show 1 ≤ 1000; decide, fun e4 ne4 => ⟨e4, v, rfl, upd_same, fun dx4 ndx nde => ⟨rfl, ?_⟩⟩⟩
  obtain ⟨y4, _, a4, b4⟩ := ex_new (C := cs 3) (f := "word") (y := v) ne4 ndx nde
  have s4 := s3.trans y4
  generalize upd (upd (upd H3 e4 (exo e4 (cs 3) none)) dx4 (exd dx4 [("word", v)])) e4 (exo e4 (cs 3) (some dx4)) = H4 at s4 a4 b4 y4 
  refine ⟨e4, cs 3, dx4, _, v, rfl, xf_of (T.ec 3 (by decide)), I3.no, a4, b4, by simp [List.lookup], ?_⟩
  clear a4 b4 y4
  refine ⟨_, rfl, by show 1 ≤ 1000; decide, fun e5 ne5 => ⟨e5, v, rfl, upd_same, fun dx5 ndx nde => ⟨rfl, ?_⟩⟩⟩
  obtain ⟨y5, _, a5, b5⟩ := ex_new (C := cs 4) (f := "length") (y := v) ne5 ndx nde
  have s5 := s4.trans y5
  generalize upd (upd (upd H4 e5 (exo e5 (cs 4) none)) dx5 (exd dx5 [("length", v)])) e5 (exo e5 (cs 4) (some dx5)) = H5 at s5 a5 b5 y5 
  refine ⟨e5, cs 4, dx5, _, v, rfl, xf_of (T.ec 4 (by decide)), I4.no, a5, b5, by simp [List.lookup], ?_⟩
  clear a5 b5 y5
  refine ⟨by show 5 ≤ 2 ^ 24; decide, fun l6 n6 => ?_⟩
  have y6 := same_new n6 (.lst [v, v, v, v, v])
  have s6 := s5.trans y6
  have g0 : upd H5 l6 (.lst [v, v, v, v, v]) l6 = some (.lst [v, v, v, v, v]) := upd_same
  generalize upd H5 l6 (.lst [v, v, v, v, v]) = H6 at s6 g0  y6
  refine ⟨_, rfl, _, rfl, by show 1 ≤ 1000; decide, fun e7 ne7 => ⟨e7, v, rfl, upd_same, fun dx7 ndx nde => ⟨rfl, ?_⟩⟩⟩
  obtain ⟨y7, _, a7, b7⟩ := ex_new (C := cs 5) (f := "which") (y := v) ne7 ndx nde
  have s7 := s6.trans y7
  generalize upd (upd (upd H6 e7 (exo e7 (cs 5) none)) dx7 (exd dx7 [("which", v)])) e7 (exo e7 (cs 5) (some dx7)) = H7 at s7 a7 b7 y7 g0
  replace g0 := y7 _ _ g0
  refine ⟨e7, cs 5, dx7, _, v, rfl, xf_of (T.ec 5 (by decide)), I5.no, a7, b7, by simp [List.lookup], ?_⟩
  clear a7 b7 y7
  refine ⟨_, rfl, by show 1 ≤ 1000; decide, fun e8 ne8 => ⟨e8, v, rfl, upd_same, fun dx8 ndx nde => ⟨rfl, ?_⟩⟩⟩
  obtain ⟨y8, _, a8, b8⟩ := ex_new (C := cs 6) (f := "word") (y := v) ne8 ndx nde
  have s8 := s7.trans y8
  generalize upd (upd (upd H7 e8 (exo e8 (cs 6) none)) dx8 (exd dx8 [("word", v)])) e8 (exo e8 (cs 6) (some dx8)) = H8 at s8 a8 b8 y8 g0
  replace g0 := y8 _ _ g0
  refine ⟨e8, cs 6, dx8, _, v, rfl, xf_of (T.ec 6 (by decide)), I6.no, a8, b8, by simp [List.lookup], ?_⟩
  clear a8 b8 y8
  refine ⟨_, rfl, by show 1 ≤ 1000; decide, fun e9 ne9 => ⟨e9, v, rfl, upd_same, fun dx9 ndx nde => ⟨rfl, ?_⟩⟩⟩
  obtain ⟨y9, _, a9, b9⟩ := ex_new (C := cs 7) (f := "fault") (y := v) ne9 ndx nde
  have s9 := s8.trans y9
  generalize upd (upd (upd H8 e9 (exo e9 (cs 7) none)) dx9 (exd dx9 [("fault", v)])) e9 (exo e9 (cs 7) (some dx9)) = H9 at s9 a9 b9 y9 g0
  replace g0 := y9 _ _ g0
  refine ⟨e9, cs 7, dx9, _, v, rfl, xf_of (T.ec 7 (by decide)), I7.no, a9, b9, by simp [List.lookup], ?_⟩
  clear a9 b9 y9
  refine ⟨_, rfl, by show 1 ≤ 1000; decide, fun e10 ne10 => ⟨e10, v, rfl, upd_same, fun dx10 ndx nde => ⟨rfl, ?_⟩⟩⟩
  obtain ⟨y10, _, a10, b10⟩ := ex_new (C := cs 13) (f := "index") (y := v) ne10 ndx nde
  have s10 := s9.trans y10
  generalize upd (upd (upd H9 e10 (exo e10 (cs 13) none)) dx10 (exd dx10 [("index", v)])) e10 (exo e10 (cs 13) (some dx10)) = H10 at s10 a10 b10 y10 g0
  replace g0 := y10 _ _ g0
  refine ⟨e10, cs 13, dx10, _, v, rfl, xf_of (T.ec 13 (by decide)), I13.no, a10, b10, by simp [List.lookup], ?_⟩
  clear a10 b10 y10
  refine ⟨_, rfl, by show 1 ≤ 1000; decide, fun e11 ne11 => ⟨e11, v, rfl, upd_same, fun dx11 ndx nde => ⟨rfl, ?_⟩⟩⟩
  obtain ⟨y11, _, a11, b11⟩ := ex_new (C := cs 14) (f := "index") (y := v) ne11 ndx nde
  have s11 := s10.trans y11
  generalize upd (upd (upd H10 e11 (exo e11 (cs 14) none)) dx11 (exd dx11 [("index", v)])) e11 (exo e11 (cs 14) (some dx11)) = H11 at s11 a11 b11 y11 g0
  replace g0 := y11 _ _ g0
  refine ⟨e11, cs 14, dx11, _, v, rfl, xf_of (T.ec 14 (by decide)), I14.no, a11, b11, by simp [List.lookup], ?_⟩
  clear a11 b11 y11
  refine ⟨by show 5 ≤ 2 ^ 24; decide, fun l12 n12 => ?_⟩
  have y12 := same_new n12 (.lst [v, v, v, v, v])
  have s12 := s11.trans y12
  have gb0 : upd H11 l12 (.lst [v, v, v, v, v]) l12 = some (.lst [v, v, v, v, v]) := upd_same
  replace g0 := y12 _ _ g0
  generalize upd H11 l12 (.lst [v, v, v, v, v]) = H12 at s12 gb0 g0 y12
  refine ⟨l6, l12, _, _, rfl, rfl, g0, gb0, by show 10 ≤ 2 ^ 24; decide, fun l13 n13 => ?_⟩
  have s13 := s12.trans (same_new n13 (.lst ([v, v, v, v, v] ++ [v, v, v, v, v])))
  have gc0 : upd H12 l13 (.lst ([v, v, v, v, v] ++ [v, v, v, v, v])) l13 = some (.lst [v, v, v, v, v, v, v, v, v, v]) := upd_same
  generalize upd H12 l13 (.lst ([v, v, v, v, v] ++ [v, v, v, v, v])) = H13 at s13 gc0
  clear g0 gb0
  refine ⟨_, rfl, _, rfl, by show 1 ≤ 1000; decide, fun e14 ne14 => ⟨e14, v, rfl, upd_same, fun dx14 ndx nde => ⟨rfl, ?_⟩⟩⟩
  obtain ⟨y14, _, a14, b14⟩ := ex_new (C := cs 17) (f := "index") (y := v) ne14 ndx nde
  have s14 := s13.trans y14
  generalize upd (upd (upd H13 e14 (exo e14 (cs 17) none)) dx14 (exd dx14 [("index", v)])) e14 (exo e14 (cs 17) (some dx14)) = H14 at s14 a14 b14 y14 gc0
  replace gc0 := y14 _ _ gc0
  refine ⟨e14, cs 17, dx14, _, v, rfl, xf_of (T.ec 17 (by decide)), I17.no, a14, b14, by simp [List.lookup], ?_⟩
  clear a14 b14 y14
  refine ⟨_, rfl, by show 1 ≤ 1000; decide, fun e15 ne15 => ⟨e15, v, rfl, upd_same, fun dx15 ndx nde => ⟨rfl, ?_⟩⟩⟩
  obtain ⟨y15, _, a15, b15⟩ := ex_new (C := cs 18) (f := "version") (y := v) ne15 ndx nde
  have s15 := s14.trans y15
  generalize upd (upd (upd H14 e15 (exo e15 (cs 18) none)) dx15 (exd dx15 [("version", v)])) e15 (exo e15 (cs 18) (some dx15)) = H15 at s15 a15 b15 y15 gc0
  replace gc0 := y15 _ _ gc0
  refine ⟨e15, cs 18, dx15, _, v, rfl, xf_of (T.ec 18 (by decide)), I18.no, a15, b15, by simp [List.lookup], ?_⟩
  clear a15 b15 y15
  refine ⟨by show 2 ≤ 2 ^ 24; decide, fun l16 n16 => ?_⟩
  have y16 := same_new n16 (.lst [v, v])
  have s16 := s15.trans y16
  have gb1 : upd H15 l16 (.lst [v, v]) l16 = some (.lst [v, v]) := upd_same
  replace gc0 := y16 _ _ gc0
  generalize upd H15 l16 (.lst [v, v]) = H16 at s16 gb1 gc0 y16
  refine ⟨l13, l16, _, _, rfl, rfl, gc0, gb1, by show 12 ≤ 2 ^ 24; decide, fun l17 n17 => ?_⟩
  have s17 := s16.trans (same_new n17 (.lst ([v, v, v, v, v, v, v, v, v, v] ++ [v, v])))
  have gc1 : upd H16 l17 (.lst ([v, v, v, v, v, v, v, v, v, v] ++ [v, v])) l17 = some (.lst [v, v, v, v, v, v, v, v, v, v, v, v]) := upd_same
  generalize upd H16 l17 (.lst ([v, v, v, v, v, v, v, v, v, v] ++ [v, v])) = H17 at s17 gc1
  clear gc0 gb1
  have ex : ([v, v, v, v, v, v, v, v, v, v, v, v] : List V) = List.replicate 12 v := rfl
  rw [ex] at gc1
  have hv' := hv.same s17
  refine ⟨_, rfl, l17, rfl, ⟨_, .inl (.inl gc1)⟩, fun L nL => lc_list (K := K) (a := l17) (xs := List.replicate 12 v) (fun j G' => Same H17 G' ∧ G' L = some (.lst ((List.replicate j t).map V.str))) ⟨same_new nL _, by rw [upd_same]; rfl⟩ (fun j G' _ h => .inl (.inl (h.1 _ _ gc1))) ?_ ?_⟩
  · rintro j x G' hx ⟨s2, g2⟩
    have xe : x = v := List.eq_of_mem_replicate (List.mem_of_getElem? hx)
    subst xe
    have jl : j < 12 := by
      have := (List.getElem?_eq_some_iff.mp hx).1
      rw [List.length_replicate] at this
      exact this
    refine ⟨rfl, _, rfl, x, t, rfl, hv'.same s2, _, g2, by rw [List.length_map, List.length_replicate]; show j < 2 ^ 24; omega, same_grow nL s2 _, ?_⟩
    rw [upd_same, List.replicate_succ', List.map_append]
    rfl
  rintro G2 ⟨s2, g2⟩
  rw [List.length_replicate] at g2
  have gf := s2 _ _ gc1
  refine ⟨_, rfl, v, t, rfl, hv'.same s2, by show 1 ≤ 2 ^ 24; decide, fun l0 n0 => ?_⟩
  have s3 := same_new n0 (.lst [V.str t])
  have g3 : upd G2 l0 (.lst [V.str t]) l0 = some (.lst [V.str t]) := upd_same
  have gf3 := s3 _ _ gf
  have gL3 := s3 _ _ g2
  generalize upd G2 l0 (.lst [V.str t]) = G3 at s3 g3 gf3 gL3
  refine ⟨_, rfl, l17, _, rfl, .inl (.inl (.inl gf3)), l0, 12, _, rfl, rfl, g3, by decide, by decide, by show 1 * 12 ≤ 2 ^ 24; decide, fun l1 n1 => ?_⟩
  have s4 := same_new n1 (.lst (List.replicate 12 [V.str t]).flatten)
  have g4 : upd G3 l1 (.lst (List.replicate 12 [V.str t]).flatten) l1 = some (.lst ((List.replicate 12 t).map V.str)) := upd_same
  refine ⟨1, by decide, .inl ⟨L, l1, _, _, rfl, rfl, .inl (.inl (s4 _ _ gL3)), .inl (.inl g4), pair_same t 12⟩, ?_⟩
  exact q _ (s17.trans (s2.trans (s3.trans s4)))
end
end K00
namespace K00
open PySem L2 GL KC GX
abbrev sLaw : Stmt := top 85
def boundsL : List Int := [4, 8, 400, 6, 3, 400, 10000, 60, 20, 60, 60]
def spBounds : Sp := fun vs H Q _ => vs = [] ∧ ∀ L G, Same H G → G L = some (.lst (boundsL.map V.int)) → Q (.ref L) G
def spLaw (K : PySem.W.Frag) : Sp := fun vs H Q _ => ∃ (a : Addr) (ns : List Int), vs = [.ref a] ∧ SqL K H a (ns.map V.int) ∧ ns.length ≤ 63 ∧ ∀ H', Q (.bl true) H'
/-- a def promised where no guard of repr stands -/
structure Gfn (P : Program) (w : World) (K : PySem.W.Frag) (mg : Str → Option Value) (base : Heap) (name : Str) (k : Nat) (f : Addr) (fd : FuncData) (ps : List Str) (sp : Sp) : Prop where
  ok : Fg P w K mg base CX0 k f fd ps sp
  b : L2.Binds K fd ps []
  m : mg name = some (.ref f)
  kp : PySem.W.keepIn K (.ref f) = true
theorem dt_ints {K : PySem.W.Frag} {H : Hp} : ∀ zs : List Int, DtAll K H (zs.map V.int) (zs.map PyData.int)
  | [] => .nil
  | z :: zs => .cons (.int z) (dt_ints zs)
theorem exo_lst {e C : Addr} {d : Option Addr} {xs : List V} : exo e C d ≠ .lst xs := fun z => by
  have z' : HO.ext _ = HO.lst xs := z
  cases z'
theorem exd_lst {e : Addr} {fs : List (Str × V)} {xs : List V} : exd e fs ≠ .lst xs := fun z => by
  have z' : HO.ext _ = HO.lst xs := z
  cases z'
section
variable {P : Program} {w : World} {K : PySem.W.Frag} {mg : Str → Option Value} {base : Heap} {cs : Nat → Addr}
theorem scL : FnScope ["_law_script", "_law_deck_here", "_law_turn", "_law_a", "_law_value_here", "_law_error"] ["_law_script"] (defScope sLaw) := ⟨rfl, rfl, rfl, by decide +kernel, rfl, by decide +kernel, by decide +kernel⟩
theorem ok_law {f fK fV fR fF fB f3 : Addr} {fd fdK fdV fdR fdF fdB d3 : FuncData} {kb : Nat} (F : Fun K "law" "law" sLaw f fd) (T : Txt K mg cs)
    (DK : Dfn P w K mg base "_law_deck" 1 fK fdK ["_law_script"] (spDeck K)) (VA : Dfn P w K mg base "_law_value" 3 fV fdV ["_law_deck_here"] (spValue K)) (KR : Dfn P w K mg base "_law_kinds_right" 3 fR fdR ["_law_a"] spTrue)
    (FR : Gfn P w K mg base "_law_fields_right" 3 fF fdF ["_law_a"] (spFields K)) (BO : Dfn P w K mg base "_law_bounds" 3 fB fdB [] spBounds) (I3 : Ini P w K mg base (cs 3) f3 d3 "word" vE "ValueError.__new__") : Fg P w K mg base CX0 4 f fd ["_law_script"] (spLaw K) := by
  refine ok_g F scL (fun vs H Q E h => ?_) (fun cdv A outer s H vs Q E hg hr h => ?_)
  · obtain ⟨a, ns, rfl, _⟩ := h
    rfl
  obtain ⟨a, ns, rfl, hS, hl, q⟩ := h
  have hr1 : Room 1 _ := hr.mono (by decide)
  have hr2 : Room 2 _ := hr.mono (by decide)
  refine ⟨_, pss_cons (ps_set (i := 1) scL.nd rfl (Or.inl rfl) (pe_call DK.ok hr1 rfl DK.m DK.kp DK.b .nil pass0 (pa_cons (pv 0) pa_nil)))
    (pss_cons (ps_for PassesOwn.never rfl (pi_range1 rfl T.c.range (pa_cons pe_int pa_nil)) (pg_name (i := 2) scL.nd rfl (Or.inl rfl))
      (pss_cons (ps_set (i := 3) scL.nd rfl (Or.inl rfl) (pe_call VA.ok hr rfl VA.m VA.kp VA.b .nil pass0 (pa_cons (pv 1) pa_nil)))
      (pss_one (ps_if (PW.pt (pw_or (pt_not (pt_val (pe_call KR.ok hr rfl KR.m KR.kp KR.b .nil pass0 (pa_cons (pv 3) pa_nil)))) (pw_or1 (pt_not (pt_val (pe_callg hg FR.ok hr rfl FR.m FR.kp FR.b pass0 (pa_cons (pv 3) pa_nil))))))) (pss_one (ps_ret pe_bl)) pss_nil))))
    (pss_cons (ps_set (i := 4) scL.nd rfl (Or.inl rfl) (pe_lst (pa_cons pe_int pa_nil)))
    (pss_cons (ps_set (i := 5) scL.nd rfl (Or.inl rfl) (pe_exV I3.T PySem.F.excBase_ValueError I3.iC I3.tI I3.ok hr2 I3.b pass0 rfl T.m3 (pa_cons (pv 4) pa_nil)))
    (pss_cons (ps_expr (pe_bm PySem.F.plainAttrs_list PySem.F.slot_list_append PySem.F.type_list_append mt_append (pv 4) (pa_cons pe_int pa_nil)))
    (pss_cons (ps_if (pt_cmpR (op_neD hr.units) (pe_xfV (pv 5)) (pe_lst (pa_cons pe_int (pa_cons pe_int pa_nil))) (nomark _)) (pss_one (ps_ret pe_bl)) pss_nil)
    (pss_one (ps_ret (pe_cmpR op_eq (pe_callB (call_reprD hg hr.units) (by rfl) T.repr (by decide +kernel) (pa_cons (pe_call0 BO.ok hr rfl BO.m BO.kp BO.b .nil pass0) pa_nil))
      (pe_callB (call_reprD hg hr.units) (by rfl) T.repr (by decide +kernel) (pa_cons (pe_lst (pa_cons pe_int (pa_cons pe_int (pa_cons pe_int (pa_cons pe_int (pa_cons pe_int (pa_cons pe_int (pa_cons pe_int (pa_cons pe_int (pa_cons pe_int (pa_cons pe_int (pa_cons pe_int pa_nil)))))))))))) pa_nil)) (nomark _))))))))), ?_⟩
  refine ⟨_, rfl, a, ns, rfl, hS, hl, fun d c G0 s0 nd nc D0 => ?_⟩
  refine ⟨4, rfl, by decide, by decide, for_range (lo := 0) (n := 4) (fun i σ G => ∃ (k2 k3 : Option V), σ = [some (.ref a), some (.ref d), k2, k3, none, none] ∧ Deck G d c (i * 10)) ⟨none, none, rfl, D0⟩ ?_ ?_⟩
  · rintro i σ G hi ⟨k2, k3, rfl, DG⟩
    refine ⟨_, rfl, d, c, _, rfl, DG, by omega, fun v G1 ⟨t, hv⟩ D1 s1 => ?_⟩
    have hv' : Rp K G1 v t := hv.same hd_sub
    refine ⟨_, rfl, v, rfl, fun G2 s2 => ⟨_, rfl, iteF ?_⟩⟩
    refine ⟨_, rfl, v, t, rfl, hv'.same s2, fun G3 s3 => ⟨_, rfl, iteF ?_⟩⟩
    exact ⟨_, _, rfl, (D1.same (s2.trans s3)).mono (by omega)⟩
  rintro σ G ⟨k2, k3, rfl, DG⟩
  refine ⟨by show 1 ≤ 2 ^ 24; decide, fun l nl => ?_⟩
  have gl : upd G l (.lst [V.int 7]) l = some (.lst [V.int 7]) := upd_same
  generalize upd G l (.lst [V.int 7]) = G1 at gl
  refine ⟨_, rfl, by show 1 ≤ 1000; decide, fun e ne => ⟨e, .ref l, rfl, upd_same, fun dx ndx nde => ⟨rfl, ?_⟩⟩⟩
  obtain ⟨y, _, he, hd⟩ := ex_new (C := cs 3) (f := "word") (y := V.ref l) ne ndx nde
  replace gl := y _ _ gl
  generalize upd (upd (upd G1 e (exo e (cs 3) none)) dx (exd dx [("word", V.ref l)])) e (exo e (cs 3) (some dx)) = G2 at gl he hd
  refine ⟨_, rfl, .inl ⟨rfl, _, .inl (.inl gl)⟩, l, [V.int 7], V.int 8, rfl, rfl, gl, by decide, ?_⟩
  have gl2 : upd G2 l (.lst ([V.int 7] ++ [V.int 8])) l = some (.lst [V.int 7, V.int 8]) := upd_same
  have he2 : upd G2 l (.lst ([V.int 7] ++ [V.int 8])) e = some (exo e (cs 3) (some dx)) := by rw [upd_ne (ne_of he gl exo_lst)]; exact he
  have hd2 : upd G2 l (.lst ([V.int 7] ++ [V.int 8])) dx = some (exd dx [("word", V.ref l)]) := by rw [upd_ne (ne_of hd gl exd_lst)]; exact hd
  generalize upd G2 l (.lst ([V.int 7] ++ [V.int 8])) = G3 at gl2 he2 hd2
  refine ⟨_, rfl, e, cs 3, dx, _, .ref l, rfl, xf_of (T.ec 3 (by decide)), I3.no, he2, hd2, by simp [List.lookup], ?_⟩
  refine ⟨by show 2 ≤ 2 ^ 24; decide, fun l2 n2 => ?_⟩
  have s3 := same_new n2 (.lst [V.int 7, V.int 8])
  refine ⟨.list [.int 7, .int 8], .list [.int 7, .int 8], .lst (.inl (.inl (s3 _ _ gl2))) (.cons (.int 7) (.cons (.int 8) .nil)), .lst (.inl (.inl upd_same)) (.cons (.int 7) (.cons (.int 8) .nil)), by decide +kernel, by decide +kernel, _, rfl, ?_⟩
  rw [show PyData.eqv (.list [.int 7, .int 8]) (.list [.int 7, .int 8]) = true by decide +kernel]
  refine iteF ?_
  refine ⟨rfl, fun L G4 s4 g4 => ?_⟩
  refine ⟨_, .list (boundsL.map .int), rfl, .lst g4 (dt_ints boundsL), by decide +kernel, by decide +kernel, by decide +kernel, by show 11 ≤ 2 ^ 24; decide, fun l3 n3 => ?_⟩
  refine ⟨_, .list (boundsL.map .int), rfl, .lst (upd_same (o := .lst (boundsL.map V.int))) (dt_ints boundsL), by decide +kernel, by decide +kernel, by decide +kernel, rfl, ?_⟩
  show Q (.bl (decide (V.str (PyData.list (boundsL.map .int)).shown = V.str (PyData.list (boundsL.map .int)).shown))) _
  rw [decide_eq_true rfl]
  exact q _
end
end K00
namespace K00
open PySem L2 GL KC GX
abbrev sBounds : Stmt := top 84
def crB (K : PySem.W.Frag) (C : Addr) : Bool := PySem.W.readsIn K C (.type "type") && decide (PySem.W.specialIn K (.ref C) "__getattribute__" = some (some (.builtin "type.__getattribute__")))
theorem crB_ok {K : PySem.W.Frag} {C : Addr} (h : crB K C = true) : ClX.CRead K C (.type "type") := by
  unfold crB at h
  simp only [Bool.and_eq_true, decide_eq_true_eq] at h
  exact ⟨h.1, h.2⟩
section
variable {P : Program} {w : World} {K : PySem.W.Frag} {mg : Str → Option Value} {base : Heap}
theorem scB : FnScope ["_law_found"] [] (defScope sBounds) := ⟨rfl, rfl, rfl, by decide +kernel, rfl, by decide +kernel, by decide +kernel⟩
theorem ok_bounds {f : Addr} {fd : FuncData} (F : Fun K "_law_bounds" "_law_bounds" sBounds f fd) {t0 t1 t2 t3 t4 t5 t6 t7 t8 tb tr : Tok} {cB cR : Addr}
    (m0 : mg "MAX_LETTERS" = some (.int 4 t0)) (m1 : mg "MAX_STATES" = some (.int 8 t1)) (m2 : mg "MAX_ROWS" = some (.int 400 t2)) (m3 : mg "MAX_PAIRS" = some (.int 6 t3)) (m4 : mg "MAX_WINDOW" = some (.int 3 t4))
    (m5 : mg "MAX_LENGTH" = some (.int 400 t5)) (m6 : mg "MAX_STEPS" = some (.int 10000 t6)) (m7 : mg "MAX_EDITS" = some (.int 60 t7)) (m8 : mg "BATCH" = some (.int 20 t8))
    (mB : mg "Bench" = some (.ref cB)) (mR : mg "RightBench" = some (.ref cR)) (rB : ClX.CRead K cB (.type "type")) (rR : ClX.CRead K cR (.type "type"))
    (vB : PySem.W.findCls K (.ref cB) (.type "type") "MOST_EDITS" = some (.val (.int 60 tb))) (vR : PySem.W.findCls K (.ref cR) (.type "type") "MOST_EDITS" = some (.val (.int 60 tr))) :
    FnOk P w K mg base CX0 3 f fd [] spBounds := by
  refine F.ok scB (fun vs H Q E h => ?_) (fun cdv A outer s H vs Q E hr h => ?_)
  · obtain ⟨rfl, _⟩ := h
    rfl
  obtain ⟨rfl, q⟩ := h
  refine ⟨_, pss_cons (ps_set (i := 0) scB.nd rfl (Or.inl rfl) (pe_lst (pa_cons (pe_glob (v := .int 4) rfl m0 ⟨_, rfl⟩) (pa_cons (pe_glob (v := .int 8) rfl m1 ⟨_, rfl⟩) (pa_cons (pe_glob (v := .int 400) rfl m2 ⟨_, rfl⟩)
      (pa_cons (pe_glob (v := .int 6) rfl m3 ⟨_, rfl⟩) (pa_cons (pe_glob (v := .int 3) rfl m4 ⟨_, rfl⟩) (pa_cons (pe_glob (v := .int 400) rfl m5 ⟨_, rfl⟩) (pa_cons (pe_glob (v := .int 10000) rfl m6 ⟨_, rfl⟩)
      (pa_cons (pe_glob (v := .int 60) rfl m7 ⟨_, rfl⟩) (pa_cons (pe_glob (v := .int 20) rfl m8 ⟨_, rfl⟩) pa_nil)))))))))))
    (pss_one (ps_ret (pe_op op_cat (pv 0) (pe_lst (pa_cons (ClX.pe_cval (pe_glob (v := .ref cB) rfl mB rfl)) (pa_cons (ClX.pe_cval (pe_glob (v := .ref cR) rfl mR rfl)) pa_nil)))))), ?_⟩
  refine ⟨by show 9 ≤ 2 ^ 24; decide, fun a na => ?_⟩
  refine ⟨_, rfl, cB, _, .int 60, _, rfl, rB, ⟨vB, ⟨_, rfl⟩⟩, cR, _, .int 60, _, rfl, rR, ⟨vR, ⟨_, rfl⟩⟩, by show 2 ≤ 2 ^ 24; decide, fun b nb => ?_⟩
  refine ⟨a, b, _, _, rfl, rfl, same_new nb _ _ _ upd_same, upd_same, by show 11 ≤ 2 ^ 24; decide, fun p np => ?_⟩
  exact q p _ (((same_new na _).trans (same_new nb _)).trans (same_new np _)) upd_same
end
theorem bounds_mk {l : PySem.W.OpenLaw} {w : World} {K : PySem.W.Frag} {h : Heap} {mg : Str → Option Value} (X : K.In h) (G : h.Ns mainGlobals mg) {f39 cB cR : Addr} {d39 : FuncData} {t0 t1 t2 t3 t4 t5 t6 t7 t8 tb tr : Tok}
    (n0 : PySem.W.nsIn K mainGlobals "MAX_LETTERS" = some (some (.int 4 t0))) (n1 : PySem.W.nsIn K mainGlobals "MAX_STATES" = some (some (.int 8 t1))) (n2 : PySem.W.nsIn K mainGlobals "MAX_ROWS" = some (some (.int 400 t2)))
    (n3 : PySem.W.nsIn K mainGlobals "MAX_PAIRS" = some (some (.int 6 t3))) (n4 : PySem.W.nsIn K mainGlobals "MAX_WINDOW" = some (some (.int 3 t4))) (n5 : PySem.W.nsIn K mainGlobals "MAX_LENGTH" = some (some (.int 400 t5)))
    (n6 : PySem.W.nsIn K mainGlobals "MAX_STEPS" = some (some (.int 10000 t6))) (n7 : PySem.W.nsIn K mainGlobals "MAX_EDITS" = some (some (.int 60 t7))) (n8 : PySem.W.nsIn K mainGlobals "BATCH" = some (some (.int 20 t8)))
    (nB : PySem.W.nsIn K mainGlobals "Bench" = some (some (.ref cB))) (nR : PySem.W.nsIn K mainGlobals "RightBench" = some (some (.ref cR))) (rB : crB K cB = true) (rR : crB K cR = true)
    (vB : PySem.W.findCls K (.ref cB) (.type "type") "MOST_EDITS" = some (.val (.int 60 tb))) (vR : PySem.W.findCls K (.ref cR) (.type "type") "MOST_EDITS" = some (.val (.int 60 tr)))
    (F39 : DF K "_law_bounds" sBounds f39 d39) : ∀ base : Heap, K.In base → base.Ns mainGlobals mg → Dfn l.prog w K mg base "_law_bounds" 3 f39 d39 [] spBounds := fun base hb1 hb2 =>
  ⟨ok_bounds F39.fn (PySem.W.mg_of X G n0) (PySem.W.mg_of X G n1) (PySem.W.mg_of X G n2) (PySem.W.mg_of X G n3) (PySem.W.mg_of X G n4) (PySem.W.mg_of X G n5) (PySem.W.mg_of X G n6) (PySem.W.mg_of X G n7) (PySem.W.mg_of X G n8)
    (PySem.W.mg_of X G nB) (PySem.W.mg_of X G nR) (crB_ok rB) (crB_ok rR) vB vR, F39.fn.binds fun _ _ _ _ _ _ us hl => match us, hl with | [], _ => rfl, PySem.W.mg_of X G F39.ns, F39.fn.kp⟩
end K00
namespace K00
open PySem L2 GL KC GX
open PySem.W (findIn subIn hasDictIn specialIn takesIn mroIn kitOne typeIn keepIn)
def ecB (K : PySem.W.Frag) (C : Addr) : Bool := decide (findIn K (.ref C) "__getattribute__" = some (some (.builtin "BaseException.__getattribute__"))) && decide (findIn K (.ref C) "__getattr__" = some none) && decide (subIn K (.ref C) (.type "BaseException") = some true) &&
  hasDictIn K C && decide (findIn K (.ref C) "__class__" = some (some (.builtin "object.__class__"))) && decide (specialIn K (.builtin "object.__class__") "__get__" = some (some (.builtin "getset_descriptor.__get__"))) && decide (takesIn K (.builtin "object.__class__") = some true) &&
  decide (mroIn K C (.type "object") = some true)
theorem ecB_ok {K : PySem.W.Frag} {C : Addr} (h : ecB K C = true) : ExcC K C := by
  unfold ecB at h
  simp only [Bool.and_eq_true, decide_eq_true_eq] at h
  obtain ⟨⟨⟨⟨⟨⟨⟨h1, h2⟩, h3⟩, h4⟩, h5⟩, h6⟩, h7⟩, h8⟩ := h
  exact ⟨h1, h2, h3, h4, h5, h6, h7, h8⟩
def at_ (L : List Addr) (i : Nat) : Addr := L.getD i 0
def tabB (K : PySem.W.Frag) (L : List Addr) : Bool := (List.range 20).all fun i => ecB K (at_ L i) && ((List.range 17).all fun j => decide (kitOne K (.ref (at_ L i)) (.ref (at_ L j)) = some (decide (i = j)))) &&
  decide (kitOne K (.ref (at_ L i)) (.ref (at_ L 19)) = some (decide (i < 17 ∨ i = 19))) && decide (kitOne K (.ref (at_ L i)) (.type "ValueError") = some (decide (i < 17 ∨ i = 19))) && decide (kitOne K (.ref (at_ L i)) (.type "LookupError") = some (decide (i = 17 ∨ i = 18)))
def iniB (K : PySem.W.Frag) (C fI : Addr) (f : Str) : Bool := decide (findIn K (.ref C) "__setattr__" = some (some (.builtin "object.__setattr__"))) && keepIn K (.ref C) && decide (typeIn K (.ref fI) = some (.type "function")) && decide (findIn K (.ref C) f = some none) && keepIn K (.ref fI)
theorem iniB_ok {K : PySem.W.Frag} {C fI : Addr} {f : Str} (h : iniB K C fI f = true) : findIn K (.ref C) "__setattr__" = some (some (.builtin "object.__setattr__")) ∧ keepIn K (.ref C) = true ∧ typeIn K (.ref fI) = some (.type "function") ∧ findIn K (.ref C) f = some none ∧ keepIn K (.ref fI) = true := by
  unfold iniB at h
  simp only [Bool.and_eq_true, decide_eq_true_eq] at h
  obtain ⟨⟨⟨⟨h1, h2⟩, h3⟩, h4⟩, h5⟩ := h
  exact ⟨h1, h2, h3, h4, h5⟩
theorem tab_get {K : PySem.W.Frag} {L : List Addr} (h : tabB K L = true) (i : Nat) (hi : i < 20) : ExcC K (at_ L i) ∧ (∀ j, j < 17 → kitOne K (.ref (at_ L i)) (.ref (at_ L j)) = some (decide (i = j))) ∧ kitOne K (.ref (at_ L i)) (.ref (at_ L 19)) = some (decide (i < 17 ∨ i = 19)) ∧
    kitOne K (.ref (at_ L i)) (.type "ValueError") = some (decide (i < 17 ∨ i = 19)) ∧ kitOne K (.ref (at_ L i)) (.type "LookupError") = some (decide (i = 17 ∨ i = 18)) := by
  have z := List.all_eq_true.mp h i (List.mem_range.mpr hi)
  simp only [Bool.and_eq_true, decide_eq_true_eq] at z
  obtain ⟨⟨⟨⟨z1, z2⟩, z3⟩, z4⟩, z5⟩ := z
  exact ⟨ecB_ok z1, fun j hj => of_decide_eq_true (List.all_eq_true.mp z2 j (List.mem_range.mpr hj)), z3, z4, z5⟩

theorem all_mk {l : PySem.W.OpenLaw} {w : World} {K : PySem.W.Frag} {h : Heap} {mg : Str → Option Value} {fa : Addr} (X : K.In h) (G : h.Ns mainGlobals mg) (hfa : mg "law" = some (.ref fa))
    {f32 f33 f34 f35 f36 f37 f38 f40 f39 : Addr} {d32 d33 d34 d35 d36 d37 d38 d40 d39 : FuncData} {c0 c1 c2 c3 c4 c5 c6 c7 c8 c9 c10 c11 c12 c13 c14 c15 c16 c17 c18 c19 : Addr} {g0 g1 g2 g3 g4 g5 g6 g7 g13 g14 g17 g18 : Addr}
    {nm0 q_0 : Str} {N0 : Addr} {bs0 : List Value} {sn0 : List Str} {sub0 : List Value} {ab0 : Bool} {col0 : Option Bool} {dd0 : Option Addr} {m0_0 m1_0 m2_0 m3_0 m5_0 : Option Value} {oc0 : Value} {od0 an0 : Option Addr} {osl0 : Array (Option Value)} {kV0 doc0 pm0 cdv0 ct0 : Value}
    {nm1 q_1 : Str} {N1 : Addr} {bs1 : List Value} {sn1 : List Str} {sub1 : List Value} {ab1 : Bool} {col1 : Option Bool} {dd1 : Option Addr} {m0_1 m1_1 m2_1 m3_1 m5_1 : Option Value} {oc1 : Value} {od1 an1 : Option Addr} {osl1 : Array (Option Value)} {kV1 doc1 pm1 cdv1 ct1 : Value}
    {nm2 q_2 : Str} {N2 : Addr} {bs2 : List Value} {sn2 : List Str} {sub2 : List Value} {ab2 : Bool} {col2 : Option Bool} {dd2 : Option Addr} {m0_2 m1_2 m2_2 m3_2 m5_2 : Option Value} {oc2 : Value} {od2 an2 : Option Addr} {osl2 : Array (Option Value)} {kV2 doc2 pm2 cdv2 ct2 : Value}
    {nm3 q_3 : Str} {N3 : Addr} {bs3 : List Value} {sn3 : List Str} {sub3 : List Value} {ab3 : Bool} {col3 : Option Bool} {dd3 : Option Addr} {m0_3 m1_3 m2_3 m3_3 m5_3 : Option Value} {oc3 : Value} {od3 an3 : Option Addr} {osl3 : Array (Option Value)} {kV3 doc3 pm3 cdv3 ct3 : Value}
    {nm4 q_4 : Str} {N4 : Addr} {bs4 : List Value} {sn4 : List Str} {sub4 : List Value} {ab4 : Bool} {col4 : Option Bool} {dd4 : Option Addr} {m0_4 m1_4 m2_4 m3_4 m5_4 : Option Value} {oc4 : Value} {od4 an4 : Option Addr} {osl4 : Array (Option Value)} {kV4 doc4 pm4 cdv4 ct4 : Value}
    {nm5 q_5 : Str} {N5 : Addr} {bs5 : List Value} {sn5 : List Str} {sub5 : List Value} {ab5 : Bool} {col5 : Option Bool} {dd5 : Option Addr} {m0_5 m1_5 m2_5 m3_5 m5_5 : Option Value} {oc5 : Value} {od5 an5 : Option Addr} {osl5 : Array (Option Value)} {kV5 doc5 pm5 cdv5 ct5 : Value}
    {nm6 q_6 : Str} {N6 : Addr} {bs6 : List Value} {sn6 : List Str} {sub6 : List Value} {ab6 : Bool} {col6 : Option Bool} {dd6 : Option Addr} {m0_6 m1_6 m2_6 m3_6 m5_6 : Option Value} {oc6 : Value} {od6 an6 : Option Addr} {osl6 : Array (Option Value)} {kV6 doc6 pm6 cdv6 ct6 : Value}
    {nm7 q_7 : Str} {N7 : Addr} {bs7 : List Value} {sn7 : List Str} {sub7 : List Value} {ab7 : Bool} {col7 : Option Bool} {dd7 : Option Addr} {m0_7 m1_7 m2_7 m3_7 m5_7 : Option Value} {oc7 : Value} {od7 an7 : Option Addr} {osl7 : Array (Option Value)} {kV7 doc7 pm7 cdv7 ct7 : Value}
    {nm13 q_13 : Str} {N13 : Addr} {bs13 : List Value} {sn13 : List Str} {sub13 : List Value} {ab13 : Bool} {col13 : Option Bool} {dd13 : Option Addr} {m0_13 m1_13 m2_13 m3_13 m5_13 : Option Value} {oc13 : Value} {od13 an13 : Option Addr} {osl13 : Array (Option Value)} {kV13 doc13 pm13 cdv13 ct13 : Value}
    {nm14 q_14 : Str} {N14 : Addr} {bs14 : List Value} {sn14 : List Str} {sub14 : List Value} {ab14 : Bool} {col14 : Option Bool} {dd14 : Option Addr} {m0_14 m1_14 m2_14 m3_14 m5_14 : Option Value} {oc14 : Value} {od14 an14 : Option Addr} {osl14 : Array (Option Value)} {kV14 doc14 pm14 cdv14 ct14 : Value}
    {nm17 q_17 : Str} {N17 : Addr} {bs17 : List Value} {sn17 : List Str} {sub17 : List Value} {ab17 : Bool} {col17 : Option Bool} {dd17 : Option Addr} {m0_17 m1_17 m2_17 m3_17 m5_17 : Option Value} {oc17 : Value} {od17 an17 : Option Addr} {osl17 : Array (Option Value)} {kV17 doc17 pm17 cdv17 ct17 : Value}
    {nm18 q_18 : Str} {N18 : Addr} {bs18 : List Value} {sn18 : List Str} {sub18 : List Value} {ab18 : Bool} {col18 : Option Bool} {dd18 : Option Addr} {m0_18 m1_18 m2_18 m3_18 m5_18 : Option Value} {oc18 : Value} {od18 an18 : Option Addr} {osl18 : Array (Option Value)} {kV18 doc18 pm18 cdv18 ct18 : Value}
    (C0 : PySem.W.nsIn K mainGlobals "BadText" = some (some (.ref c0)))
    (C1 : PySem.W.nsIn K mainGlobals "BadScheme" = some (some (.ref c1)))
    (C2 : PySem.W.nsIn K mainGlobals "BadRule" = some (some (.ref c2)))
    (C3 : PySem.W.nsIn K mainGlobals "BadWord" = some (some (.ref c3)))
    (C4 : PySem.W.nsIn K mainGlobals "BadLength" = some (some (.ref c4)))
    (C5 : PySem.W.nsIn K mainGlobals "NotRight" = some (some (.ref c5)))
    (C6 : PySem.W.nsIn K mainGlobals "NotLeft" = some (some (.ref c6)))
    (C7 : PySem.W.nsIn K mainGlobals "Faulty" = some (some (.ref c7)))
    (C8 : PySem.W.nsIn K mainGlobals "Busy" = some (some (.ref c8)))
    (C9 : PySem.W.nsIn K mainGlobals "TooManyEdits" = some (some (.ref c9)))
    (C10 : PySem.W.nsIn K mainGlobals "NothingToUndo" = some (some (.ref c10)))
    (C11 : PySem.W.nsIn K mainGlobals "NothingToRedo" = some (some (.ref c11)))
    (C12 : PySem.W.nsIn K mainGlobals "BadEdits" = some (some (.ref c12)))
    (C13 : PySem.W.nsIn K mainGlobals "BadEdit" = some (some (.ref c13)))
    (C14 : PySem.W.nsIn K mainGlobals "Rejected" = some (some (.ref c14)))
    (C15 : PySem.W.nsIn K mainGlobals "TooFar" = some (some (.ref c15)))
    (C16 : PySem.W.nsIn K mainGlobals "TooGreat" = some (some (.ref c16)))
    (C17 : PySem.W.nsIn K mainGlobals "NoPair" = some (some (.ref c17)))
    (C18 : PySem.W.nsIn K mainGlobals "NoVersion" = some (some (.ref c18)))
    (C19 : PySem.W.nsIn K mainGlobals "PairError" = some (some (.ref c19)))
    (tb : tabB K [c0, c1, c2, c3, c4, c5, c6, c7, c8, c9, c10, c11, c12, c13, c14, c15, c16, c17, c18, c19] = true) (np : kitOne K (.ref c17) (.ref c18) = some false) (nv : kitOne K (.ref c18) (.ref c17) = some false)
    (iC0 : PySem.W.findIn K (.ref c0) "__init__" = some (some (.ref g0))) (xL0 : K.lookup c0 = some (excClassObj nm0 q_0 c0 N0 bs0 (.ref c19 :: vE) true sn0 sub0 ab0 col0 dd0 m0_0 m1_0 m2_0 m3_0 m5_0 "ValueError.__new__"))
    (ib0 : iniB K c0 g0 "line" = true) (l0 : K.lookup g0 = some ⟨oc0, od0, .func (PySem.W.fnOf "__init__" "BadText.__init__" (defArgs sI0) (defBody sI0) (defScope sI0) .none kV0 doc0 pm0 an0 cdv0 ct0), osl0⟩) (cd0 : PySem.W.codeIn K cdv0 "BadText.__init__" = true)
    (iC1 : PySem.W.findIn K (.ref c1) "__init__" = some (some (.ref g1))) (xL1 : K.lookup c1 = some (excClassObj nm1 q_1 c1 N1 bs1 (.ref c19 :: vE) true sn1 sub1 ab1 col1 dd1 m0_1 m1_1 m2_1 m3_1 m5_1 "ValueError.__new__"))
    (ib1 : iniB K c1 g1 "error" = true) (l1 : K.lookup g1 = some ⟨oc1, od1, .func (PySem.W.fnOf "__init__" "BadScheme.__init__" (defArgs sI1) (defBody sI1) (defScope sI1) .none kV1 doc1 pm1 an1 cdv1 ct1), osl1⟩) (cd1 : PySem.W.codeIn K cdv1 "BadScheme.__init__" = true)
    (iC2 : PySem.W.findIn K (.ref c2) "__init__" = some (some (.ref g2))) (xL2 : K.lookup c2 = some (excClassObj nm2 q_2 c2 N2 bs2 (.ref c19 :: vE) true sn2 sub2 ab2 col2 dd2 m0_2 m1_2 m2_2 m3_2 m5_2 "ValueError.__new__"))
    (ib2 : iniB K c2 g2 "error" = true) (l2 : K.lookup g2 = some ⟨oc2, od2, .func (PySem.W.fnOf "__init__" "BadRule.__init__" (defArgs sI2) (defBody sI2) (defScope sI2) .none kV2 doc2 pm2 an2 cdv2 ct2), osl2⟩) (cd2 : PySem.W.codeIn K cdv2 "BadRule.__init__" = true)
    (iC3 : PySem.W.findIn K (.ref c3) "__init__" = some (some (.ref g3))) (xL3 : K.lookup c3 = some (excClassObj nm3 q_3 c3 N3 bs3 (.ref c19 :: vE) true sn3 sub3 ab3 col3 dd3 m0_3 m1_3 m2_3 m3_3 m5_3 "ValueError.__new__"))
    (ib3 : iniB K c3 g3 "word" = true) (l3 : K.lookup g3 = some ⟨oc3, od3, .func (PySem.W.fnOf "__init__" "BadWord.__init__" (defArgs sI3) (defBody sI3) (defScope sI3) .none kV3 doc3 pm3 an3 cdv3 ct3), osl3⟩) (cd3 : PySem.W.codeIn K cdv3 "BadWord.__init__" = true)
    (iC4 : PySem.W.findIn K (.ref c4) "__init__" = some (some (.ref g4))) (xL4 : K.lookup c4 = some (excClassObj nm4 q_4 c4 N4 bs4 (.ref c19 :: vE) true sn4 sub4 ab4 col4 dd4 m0_4 m1_4 m2_4 m3_4 m5_4 "ValueError.__new__"))
    (ib4 : iniB K c4 g4 "length" = true) (l4 : K.lookup g4 = some ⟨oc4, od4, .func (PySem.W.fnOf "__init__" "BadLength.__init__" (defArgs sI4) (defBody sI4) (defScope sI4) .none kV4 doc4 pm4 an4 cdv4 ct4), osl4⟩) (cd4 : PySem.W.codeIn K cdv4 "BadLength.__init__" = true)
    (iC5 : PySem.W.findIn K (.ref c5) "__init__" = some (some (.ref g5))) (xL5 : K.lookup c5 = some (excClassObj nm5 q_5 c5 N5 bs5 (.ref c19 :: vE) true sn5 sub5 ab5 col5 dd5 m0_5 m1_5 m2_5 m3_5 m5_5 "ValueError.__new__"))
    (ib5 : iniB K c5 g5 "which" = true) (l5 : K.lookup g5 = some ⟨oc5, od5, .func (PySem.W.fnOf "__init__" "NotRight.__init__" (defArgs sI5) (defBody sI5) (defScope sI5) .none kV5 doc5 pm5 an5 cdv5 ct5), osl5⟩) (cd5 : PySem.W.codeIn K cdv5 "NotRight.__init__" = true)
    (iC6 : PySem.W.findIn K (.ref c6) "__init__" = some (some (.ref g6))) (xL6 : K.lookup c6 = some (excClassObj nm6 q_6 c6 N6 bs6 (.ref c19 :: vE) true sn6 sub6 ab6 col6 dd6 m0_6 m1_6 m2_6 m3_6 m5_6 "ValueError.__new__"))
    (ib6 : iniB K c6 g6 "word" = true) (l6 : K.lookup g6 = some ⟨oc6, od6, .func (PySem.W.fnOf "__init__" "NotLeft.__init__" (defArgs sI6) (defBody sI6) (defScope sI6) .none kV6 doc6 pm6 an6 cdv6 ct6), osl6⟩) (cd6 : PySem.W.codeIn K cdv6 "NotLeft.__init__" = true)
    (iC7 : PySem.W.findIn K (.ref c7) "__init__" = some (some (.ref g7))) (xL7 : K.lookup c7 = some (excClassObj nm7 q_7 c7 N7 bs7 (.ref c19 :: vE) true sn7 sub7 ab7 col7 dd7 m0_7 m1_7 m2_7 m3_7 m5_7 "ValueError.__new__"))
    (ib7 : iniB K c7 g7 "fault" = true) (l7 : K.lookup g7 = some ⟨oc7, od7, .func (PySem.W.fnOf "__init__" "Faulty.__init__" (defArgs sI7) (defBody sI7) (defScope sI7) .none kV7 doc7 pm7 an7 cdv7 ct7), osl7⟩) (cd7 : PySem.W.codeIn K cdv7 "Faulty.__init__" = true)
    (iC13 : PySem.W.findIn K (.ref c13) "__init__" = some (some (.ref g13))) (xL13 : K.lookup c13 = some (excClassObj nm13 q_13 c13 N13 bs13 (.ref c19 :: vE) true sn13 sub13 ab13 col13 dd13 m0_13 m1_13 m2_13 m3_13 m5_13 "ValueError.__new__"))
    (ib13 : iniB K c13 g13 "index" = true) (l13 : K.lookup g13 = some ⟨oc13, od13, .func (PySem.W.fnOf "__init__" "BadEdit.__init__" (defArgs sI13) (defBody sI13) (defScope sI13) .none kV13 doc13 pm13 an13 cdv13 ct13), osl13⟩) (cd13 : PySem.W.codeIn K cdv13 "BadEdit.__init__" = true)
    (iC14 : PySem.W.findIn K (.ref c14) "__init__" = some (some (.ref g14))) (xL14 : K.lookup c14 = some (excClassObj nm14 q_14 c14 N14 bs14 (.ref c19 :: vE) true sn14 sub14 ab14 col14 dd14 m0_14 m1_14 m2_14 m3_14 m5_14 "ValueError.__new__"))
    (ib14 : iniB K c14 g14 "index" = true) (l14 : K.lookup g14 = some ⟨oc14, od14, .func (PySem.W.fnOf "__init__" "Rejected.__init__" (defArgs sI14) (defBody sI14) (defScope sI14) .none kV14 doc14 pm14 an14 cdv14 ct14), osl14⟩) (cd14 : PySem.W.codeIn K cdv14 "Rejected.__init__" = true)
    (iC17 : PySem.W.findIn K (.ref c17) "__init__" = some (some (.ref g17))) (xL17 : K.lookup c17 = some (excClassObj nm17 q_17 c17 N17 bs17 lE true sn17 sub17 ab17 col17 dd17 m0_17 m1_17 m2_17 m3_17 m5_17 "LookupError.__new__"))
    (ib17 : iniB K c17 g17 "index" = true) (l17 : K.lookup g17 = some ⟨oc17, od17, .func (PySem.W.fnOf "__init__" "NoPair.__init__" (defArgs sI17) (defBody sI17) (defScope sI17) .none kV17 doc17 pm17 an17 cdv17 ct17), osl17⟩) (cd17 : PySem.W.codeIn K cdv17 "NoPair.__init__" = true)
    (iC18 : PySem.W.findIn K (.ref c18) "__init__" = some (some (.ref g18))) (xL18 : K.lookup c18 = some (excClassObj nm18 q_18 c18 N18 bs18 lE true sn18 sub18 ab18 col18 dd18 m0_18 m1_18 m2_18 m3_18 m5_18 "LookupError.__new__"))
    (ib18 : iniB K c18 g18 "version" = true) (l18 : K.lookup g18 = some ⟨oc18, od18, .func (PySem.W.fnOf "__init__" "NoVersion.__init__" (defArgs sI18) (defBody sI18) (defScope sI18) .none kV18 doc18 pm18 an18 cdv18 ct18), osl18⟩) (cd18 : PySem.W.codeIn K cdv18 "NoVersion.__init__" = true)
    (q8 : PySem.W.excIn K c8 vE "ValueError.__new__" = true) (k8 : PySem.W.keepIn K (.ref c8) = true)
    (q9 : PySem.W.excIn K c9 vE "ValueError.__new__" = true) (k9 : PySem.W.keepIn K (.ref c9) = true)
    (q10 : PySem.W.excIn K c10 vE "ValueError.__new__" = true) (k10 : PySem.W.keepIn K (.ref c10) = true)
    (q11 : PySem.W.excIn K c11 vE "ValueError.__new__" = true) (k11 : PySem.W.keepIn K (.ref c11) = true)
    (q12 : PySem.W.excIn K c12 vE "ValueError.__new__" = true) (k12 : PySem.W.keepIn K (.ref c12) = true)
    (q15 : PySem.W.excIn K c15 vE "ValueError.__new__" = true) (k15 : PySem.W.keepIn K (.ref c15) = true)
    (q16 : PySem.W.excIn K c16 vE "ValueError.__new__" = true) (k16 : PySem.W.keepIn K (.ref c16) = true)
    (q19 : PySem.W.excIn K c19 vE "ValueError.__new__" = true) (k19 : PySem.W.keepIn K (.ref c19) = true)
    (F32 : DF K "_law_deck" sDeck f32 d32) (F33 : DF K "_law_draw" sDraw f33 d33) (F34 : DF K "_law_one" sOne f34 d34) (F35 : DF K "_law_value" sValue f35 d35) (F36 : DF K "_law_kinds" sKinds f36 d36) (F37 : DF K "_law_kinds_right" sKr f37 d37) (F38 : DF K "_law_fields_right" sFr f38 d38) (F40 : DF K "law" sLaw f40 d40)
    (z0 : PySem.W.nsIn K mainGlobals "int" = some none) (z1 : PySem.W.nsIn K mainGlobals "tuple" = some none) (z2 : PySem.W.nsIn K mainGlobals "len" = some none) (z3 : PySem.W.nsIn K mainGlobals "abs" = some none) (z4 : PySem.W.nsIn K mainGlobals "range" = some none) (z5 : PySem.W.nsIn K mainGlobals "isinstance" = some none) (z6 : PySem.W.nsIn K mainGlobals "repr" = some none) (z7 : PySem.W.nsIn K mainGlobals "str" = some none) (z8 : PySem.W.nsIn K mainGlobals "LookupError" = some none) (z9 : PySem.W.nsIn K mainGlobals "ValueError" = some none)
    (F39 : DF K "_law_bounds" (top 84) f39 d39)
    (BO : ∀ base : Heap, K.In base → base.Ns mainGlobals mg → Dfn l.prog w K mg base "_law_bounds" 3 f39 d39 [] spBounds) :
    ∃ fd : FuncData, (∀ (s : Shared) (v : Value), BindsTo s fd ⟨[v], []⟩ [("_law_script", v)]) ∧ ∀ base : Heap, K.In base → base.Ns mainGlobals mg → Fg l.prog w K mg base CX0 4 fa fd ["_law_script"] (spLaw K) := by
  have e := hfa.symm.trans (PySem.W.mg_of X G F40.ns)
  cases e
  have C : TxC mg := ⟨PySem.W.mg_none_of X G z0, PySem.W.mg_none_of X G z1, PySem.W.mg_none_of X G z2, PySem.W.mg_none_of X G z3, PySem.W.mg_none_of X G z4⟩
  obtain ⟨cs, hcs⟩ : ∃ cs : Nat → Addr, cs = at_ [c0, c1, c2, c3, c4, c5, c6, c7, c8, c9, c10, c11, c12, c13, c14, c15, c16, c17, c18, c19] := ⟨_, rfl⟩
  have tg := fun i hi => tab_get tb i hi
  rw [← hcs] at tg
  have e0 : c0 = cs 0 := by rw [hcs]; rfl
  have e1 : c1 = cs 1 := by rw [hcs]; rfl
  have e2 : c2 = cs 2 := by rw [hcs]; rfl
  have e3 : c3 = cs 3 := by rw [hcs]; rfl
  have e4 : c4 = cs 4 := by rw [hcs]; rfl
  have e5 : c5 = cs 5 := by rw [hcs]; rfl
  have e6 : c6 = cs 6 := by rw [hcs]; rfl
  have e7 : c7 = cs 7 := by rw [hcs]; rfl
  have e8 : c8 = cs 8 := by rw [hcs]; rfl
  have e9 : c9 = cs 9 := by rw [hcs]; rfl
  have e10 : c10 = cs 10 := by rw [hcs]; rfl
  have e11 : c11 = cs 11 := by rw [hcs]; rfl
  have e12 : c12 = cs 12 := by rw [hcs]; rfl
  have e13 : c13 = cs 13 := by rw [hcs]; rfl
  have e14 : c14 = cs 14 := by rw [hcs]; rfl
  have e15 : c15 = cs 15 := by rw [hcs]; rfl
  have e16 : c16 = cs 16 := by rw [hcs]; rfl
  have e17 : c17 = cs 17 := by rw [hcs]; rfl
  have e18 : c18 = cs 18 := by rw [hcs]; rfl
  have e19 : c19 = cs 19 := by rw [hcs]; rfl
  clear hcs tb
  subst e0 e1 e2 e3 e4 e5 e6 e7 e8 e9 e10 e11 e12 e13 e14 e15 e16 e17 e18 e19
  have T : Txt K mg cs := ⟨C, PySem.W.mg_none_of X G z5, PySem.W.mg_none_of X G z6, PySem.W.mg_none_of X G z7, PySem.W.mg_none_of X G z8, PySem.W.mg_none_of X G z9, PySem.W.mg_of X G C0, PySem.W.mg_of X G C1, PySem.W.mg_of X G C2, PySem.W.mg_of X G C3, PySem.W.mg_of X G C4, PySem.W.mg_of X G C5, PySem.W.mg_of X G C6, PySem.W.mg_of X G C7, PySem.W.mg_of X G C8, PySem.W.mg_of X G C9, PySem.W.mg_of X G C10, PySem.W.mg_of X G C11, PySem.W.mg_of X G C12, PySem.W.mg_of X G C13, PySem.W.mg_of X G C14, PySem.W.mg_of X G C15, PySem.W.mg_of X G C16, PySem.W.mg_of X G C17, PySem.W.mg_of X G C18, PySem.W.mg_of X G C19, fun i hi => (tg i hi).1, fun i hi j hj => (tg i hi).2.1 j hj, fun i hi => (tg i hi).2.2.1, np, nv, fun i hi => (tg i hi).2.2.2.1, fun i hi => (tg i hi).2.2.2.2⟩
  refine ⟨d40, fun s v => ?_, fun base hb1 hb2 => ?_⟩
  · obtain ⟨oc, od, kV, doc, pm, an, cdv, ct, osl, rfl, _, _⟩ := F40.fn.ex
    exact .of_eq rfl
  obtain ⟨sa0, kC0, tI0, no0, kf0⟩ := iniB_ok ib0
  have X0 : XC K (cs 0) vE "ValueError.__new__" := ⟨⟨_, _, _, _, _, _, _, _, _, _, _, _, _, _, _, xL0, by rfl⟩, sa0, kC0⟩
  have Fi0 : Fun K "__init__" "BadText.__init__" sI0 g0 _ := fun_mk l0 cd0 kf0
  have I0 : Ini l.prog w K mg base (cs 0) g0 _ "line" vE "ValueError.__new__" := ⟨X0, iC0, tI0, ok_init0 Fi0 X0 no0, Fi0.binds fun _ _ _ _ _ _ us hl => match us, hl with | [_, _], _ => rfl, no0⟩
  obtain ⟨sa1, kC1, tI1, no1, kf1⟩ := iniB_ok ib1
  have X1 : XC K (cs 1) vE "ValueError.__new__" := ⟨⟨_, _, _, _, _, _, _, _, _, _, _, _, _, _, _, xL1, by rfl⟩, sa1, kC1⟩
  have Fi1 : Fun K "__init__" "BadScheme.__init__" sI1 g1 _ := fun_mk l1 cd1 kf1
  have I1 : Ini l.prog w K mg base (cs 1) g1 _ "error" vE "ValueError.__new__" := ⟨X1, iC1, tI1, ok_init1 Fi1 X1 no1, Fi1.binds fun _ _ _ _ _ _ us hl => match us, hl with | [_, _], _ => rfl, no1⟩
  obtain ⟨sa2, kC2, tI2, no2, kf2⟩ := iniB_ok ib2
  have X2 : XC K (cs 2) vE "ValueError.__new__" := ⟨⟨_, _, _, _, _, _, _, _, _, _, _, _, _, _, _, xL2, by rfl⟩, sa2, kC2⟩
  have Fi2 : Fun K "__init__" "BadRule.__init__" sI2 g2 _ := fun_mk l2 cd2 kf2
  have I2 : Ini l.prog w K mg base (cs 2) g2 _ "error" vE "ValueError.__new__" := ⟨X2, iC2, tI2, ok_init2 Fi2 X2 no2, Fi2.binds fun _ _ _ _ _ _ us hl => match us, hl with | [_, _], _ => rfl, no2⟩
  obtain ⟨sa3, kC3, tI3, no3, kf3⟩ := iniB_ok ib3
  have X3 : XC K (cs 3) vE "ValueError.__new__" := ⟨⟨_, _, _, _, _, _, _, _, _, _, _, _, _, _, _, xL3, by rfl⟩, sa3, kC3⟩
  have Fi3 : Fun K "__init__" "BadWord.__init__" sI3 g3 _ := fun_mk l3 cd3 kf3
  have I3 : Ini l.prog w K mg base (cs 3) g3 _ "word" vE "ValueError.__new__" := ⟨X3, iC3, tI3, ok_init3 Fi3 X3 no3, Fi3.binds fun _ _ _ _ _ _ us hl => match us, hl with | [_, _], _ => rfl, no3⟩
  obtain ⟨sa4, kC4, tI4, no4, kf4⟩ := iniB_ok ib4
  have X4 : XC K (cs 4) vE "ValueError.__new__" := ⟨⟨_, _, _, _, _, _, _, _, _, _, _, _, _, _, _, xL4, by rfl⟩, sa4, kC4⟩
  have Fi4 : Fun K "__init__" "BadLength.__init__" sI4 g4 _ := fun_mk l4 cd4 kf4
  have I4 : Ini l.prog w K mg base (cs 4) g4 _ "length" vE "ValueError.__new__" := ⟨X4, iC4, tI4, ok_init4 Fi4 X4 no4, Fi4.binds fun _ _ _ _ _ _ us hl => match us, hl with | [_, _], _ => rfl, no4⟩
  obtain ⟨sa5, kC5, tI5, no5, kf5⟩ := iniB_ok ib5
  have X5 : XC K (cs 5) vE "ValueError.__new__" := ⟨⟨_, _, _, _, _, _, _, _, _, _, _, _, _, _, _, xL5, by rfl⟩, sa5, kC5⟩
  have Fi5 : Fun K "__init__" "NotRight.__init__" sI5 g5 _ := fun_mk l5 cd5 kf5
  have I5 : Ini l.prog w K mg base (cs 5) g5 _ "which" vE "ValueError.__new__" := ⟨X5, iC5, tI5, ok_init5 Fi5 X5 no5, Fi5.binds fun _ _ _ _ _ _ us hl => match us, hl with | [_, _], _ => rfl, no5⟩
  obtain ⟨sa6, kC6, tI6, no6, kf6⟩ := iniB_ok ib6
  have X6 : XC K (cs 6) vE "ValueError.__new__" := ⟨⟨_, _, _, _, _, _, _, _, _, _, _, _, _, _, _, xL6, by rfl⟩, sa6, kC6⟩
  have Fi6 : Fun K "__init__" "NotLeft.__init__" sI6 g6 _ := fun_mk l6 cd6 kf6
  have I6 : Ini l.prog w K mg base (cs 6) g6 _ "word" vE "ValueError.__new__" := ⟨X6, iC6, tI6, ok_init6 Fi6 X6 no6, Fi6.binds fun _ _ _ _ _ _ us hl => match us, hl with | [_, _], _ => rfl, no6⟩
  obtain ⟨sa7, kC7, tI7, no7, kf7⟩ := iniB_ok ib7
  have X7 : XC K (cs 7) vE "ValueError.__new__" := ⟨⟨_, _, _, _, _, _, _, _, _, _, _, _, _, _, _, xL7, by rfl⟩, sa7, kC7⟩
  have Fi7 : Fun K "__init__" "Faulty.__init__" sI7 g7 _ := fun_mk l7 cd7 kf7
  have I7 : Ini l.prog w K mg base (cs 7) g7 _ "fault" vE "ValueError.__new__" := ⟨X7, iC7, tI7, ok_init7 Fi7 X7 no7, Fi7.binds fun _ _ _ _ _ _ us hl => match us, hl with | [_, _], _ => rfl, no7⟩
  obtain ⟨sa13, kC13, tI13, no13, kf13⟩ := iniB_ok ib13
  have X13 : XC K (cs 13) vE "ValueError.__new__" := ⟨⟨_, _, _, _, _, _, _, _, _, _, _, _, _, _, _, xL13, by rfl⟩, sa13, kC13⟩
  have Fi13 : Fun K "__init__" "BadEdit.__init__" sI13 g13 _ := fun_mk l13 cd13 kf13
  have I13 : Ini l.prog w K mg base (cs 13) g13 _ "index" vE "ValueError.__new__" := ⟨X13, iC13, tI13, ok_init13 Fi13 X13 no13, Fi13.binds fun _ _ _ _ _ _ us hl => match us, hl with | [_, _], _ => rfl, no13⟩
  obtain ⟨sa14, kC14, tI14, no14, kf14⟩ := iniB_ok ib14
  have X14 : XC K (cs 14) vE "ValueError.__new__" := ⟨⟨_, _, _, _, _, _, _, _, _, _, _, _, _, _, _, xL14, by rfl⟩, sa14, kC14⟩
  have Fi14 : Fun K "__init__" "Rejected.__init__" sI14 g14 _ := fun_mk l14 cd14 kf14
  have I14 : Ini l.prog w K mg base (cs 14) g14 _ "index" vE "ValueError.__new__" := ⟨X14, iC14, tI14, ok_init14 Fi14 X14 no14, Fi14.binds fun _ _ _ _ _ _ us hl => match us, hl with | [_, _], _ => rfl, no14⟩
  obtain ⟨sa17, kC17, tI17, no17, kf17⟩ := iniB_ok ib17
  have X17 : XC K (cs 17) lE "LookupError.__new__" := ⟨⟨_, _, _, _, _, _, _, _, _, _, _, _, _, _, _, xL17, by rfl⟩, sa17, kC17⟩
  have Fi17 : Fun K "__init__" "NoPair.__init__" sI17 g17 _ := fun_mk l17 cd17 kf17
  have I17 : Ini l.prog w K mg base (cs 17) g17 _ "index" lE "LookupError.__new__" := ⟨X17, iC17, tI17, ok_init17 Fi17 X17 no17, Fi17.binds fun _ _ _ _ _ _ us hl => match us, hl with | [_, _], _ => rfl, no17⟩
  obtain ⟨sa18, kC18, tI18, no18, kf18⟩ := iniB_ok ib18
  have X18 : XC K (cs 18) lE "LookupError.__new__" := ⟨⟨_, _, _, _, _, _, _, _, _, _, _, _, _, _, _, xL18, by rfl⟩, sa18, kC18⟩
  have Fi18 : Fun K "__init__" "NoVersion.__init__" sI18 g18 _ := fun_mk l18 cd18 kf18
  have I18 : Ini l.prog w K mg base (cs 18) g18 _ "version" lE "LookupError.__new__" := ⟨X18, iC18, tI18, ok_init18 Fi18 X18 no18, Fi18.binds fun _ _ _ _ _ _ us hl => match us, hl with | [_, _], _ => rfl, no18⟩
  have B32 : L2.Binds K d32 ["_law_script"] [] := F32.fn.binds fun _ _ _ _ _ _ us hl => match us, hl with | [_], _ => rfl
  have D32 : Dfn l.prog w K mg base "_law_deck" 1 f32 d32 ["_law_script"] (spDeck K) := ⟨ok_deck F32.fn C, B32, PySem.W.mg_of X G F32.ns, F32.fn.kp⟩
  have B33 : L2.Binds K d33 ["_law_deck_here", "_law_many"] [] := F33.fn.binds fun _ _ _ _ _ _ us hl => match us, hl with | [_, _], _ => rfl
  have D33 : Dfn l.prog w K mg base "_law_draw" 1 f33 d33 ["_law_deck_here", "_law_many"] spDraw := ⟨ok_draw F33.fn C, B33, PySem.W.mg_of X G F33.ns, F33.fn.kp⟩
  have B34 : L2.Binds K d34 ["_law_deck_here", "_law_items"] [] := F34.fn.binds fun _ _ _ _ _ _ us hl => match us, hl with | [_, _], _ => rfl
  have D34 : Dfn l.prog w K mg base "_law_one" 2 f34 d34 ["_law_deck_here", "_law_items"] spOne := ⟨ok_one F34.fn C D33, B34, PySem.W.mg_of X G F34.ns, F34.fn.kp⟩
  have B35 : L2.Binds K d35 ["_law_deck_here"] [] := F35.fn.binds fun _ _ _ _ _ _ us hl => match us, hl with | [_], _ => rfl
  have D35 : Dfn l.prog w K mg base "_law_value" 3 f35 d35 ["_law_deck_here"] (spValue K) := ⟨ok_value F35.fn T D33 D34, B35, PySem.W.mg_of X G F35.ns, F35.fn.kp⟩
  have B36 : L2.Binds K d36 ["_law_e"] [] := F36.fn.binds fun _ _ _ _ _ _ us hl => match us, hl with | [_], _ => rfl
  have D36 : Dfn l.prog w K mg base "_law_kinds" 1 f36 d36 ["_law_e"] (spKinds cs) := ⟨ok_kinds F36.fn T, B36, PySem.W.mg_of X G F36.ns, F36.fn.kp⟩
  have B37 : L2.Binds K d37 ["_law_a"] [] := F37.fn.binds fun _ _ _ _ _ _ us hl => match us, hl with | [_], _ => rfl
  have D37 : Dfn l.prog w K mg base "_law_kinds_right" 3 f37 d37 ["_law_a"] spTrue := ⟨ok_kr F37.fn T D36 I0 I1 I2 I3 I4 I5 I6 I7 I13 I14 I17 I18 q8 k8 q9 k9 q10 k10 q11 k11 q12 k12 q15 k15 q16 k16 q19 k19, B37, PySem.W.mg_of X G F37.ns, F37.fn.kp⟩
  have B38 : L2.Binds K d38 ["_law_a"] [] := F38.fn.binds fun _ _ _ _ _ _ us hl => match us, hl with | [_], _ => rfl
  have D38 : Gfn l.prog w K mg base "_law_fields_right" 3 f38 d38 ["_law_a"] (spFields K) := ⟨ok_fr F38.fn T I0 I1 I2 I3 I4 I5 I6 I7 I13 I14 I17 I18, B38, PySem.W.mg_of X G F38.ns, F38.fn.kp⟩
  exact ok_law (kb := 0) F40.fn T D32 D35 D37 D38 (BO base hb1 hb2) I3
end K00
open PySem PySem.W PyProof.Rows
/-! The two greatest states of the top (the last tree and the heap behind it) get no twin: these two names are taken, so that the compiled file stays below its limit. -/
theorem PySem.W.Fast.tw7994948120596190842 : True := True.intro
theorem PySem.W.Fast.tw5399407520273148670 : True := True.intro
set_option maxRecDepth 100000 in
set_option maxHeartbeats 0 in
theorem PySem.Challenge.cw_pairedaway_k00_errors_made_by_hand_holds : PySem.Challenge.rw_pairedaway_k00_errors_made_by_hand.Holds := by
  w_on; o_law; k_head; (case hw => w_witness2)
  k_fill
  refine GL.walk_g (l := PySem.Challenge.rw_pairedaway_k00_errors_made_by_hand) (n := 63) (k := 4) (x := "_law_script") (sp := K00.spLaw) rfl (by decide) rfl ⟨rfl, by decide, by decide⟩ (fun w h Y => PySem.W.kIn_of Y) ?F (fun K H a ns hl _ hS => ⟨a, ns, rfl, hS, hl, fun _ => rfl⟩)
  case F =>
    intro w mg fa h KX G hmg
    refine' K00.all_mk KX G hmg ?C0 ?C1 ?C2 ?C3 ?C4 ?C5 ?C6 ?C7 ?C8 ?C9 ?C10 ?C11 ?C12 ?C13 ?C14 ?C15 ?C16 ?C17 ?C18 ?C19 ?tb ?np ?nv ?iC0 ?xL0 ?ib0 ?l0 ?cd0 ?iC1 ?xL1 ?ib1 ?l1 ?cd1 ?iC2 ?xL2 ?ib2 ?l2 ?cd2 ?iC3 ?xL3 ?ib3 ?l3 ?cd3 ?iC4 ?xL4 ?ib4 ?l4 ?cd4 ?iC5 ?xL5 ?ib5 ?l5 ?cd5 ?iC6 ?xL6 ?ib6 ?l6 ?cd6 ?iC7 ?xL7 ?ib7 ?l7 ?cd7 ?iC13 ?xL13 ?ib13 ?l13 ?cd13 ?iC14 ?xL14 ?ib14 ?l14 ?cd14 ?iC17 ?xL17 ?ib17 ?l17 ?cd17 ?iC18 ?xL18 ?ib18 ?l18 ?cd18 ?q8 ?k8 ?q9 ?k9 ?q10 ?k10 ?q11 ?k11 ?q12 ?k12 ?q15 ?k15 ?q16 ?k16 ?q19 ?k19 (KC.df ?a32 ?b32 ?c32 ?d32) (KC.df ?a33 ?b33 ?c33 ?d33) (KC.df ?a34 ?b34 ?c34 ?d34) (KC.df ?a35 ?b35 ?c35 ?d35) (KC.df ?a36 ?b36 ?c36 ?d36) (KC.df ?a37 ?b37 ?c37 ?d37) (KC.df ?a38 ?b38 ?c38 ?d38) (KC.df ?a40 ?b40 ?c40 ?d40) ?z0 ?z1 ?z2 ?z3 ?z4 ?z5 ?z6 ?z7 ?z8 ?z9 (KC.df ?a39 ?b39 ?c39 ?d39) (K00.bounds_mk KX G ?n0 ?n1 ?n2 ?n3 ?n4 ?n5 ?n6 ?n7 ?n8 ?nB ?nR ?rB ?rR ?vB ?vR (KC.df ?a39 ?b39 ?c39 ?d39))
    (case C0 => k_is)
    (case C1 => k_is)
    (case C2 => k_is)
    (case C3 => k_is)
    (case C4 => k_is)
    (case C5 => k_is)
    (case C6 => k_is)
    (case C7 => k_is)
    (case C8 => k_is)
    (case C9 => k_is)
    (case C10 => k_is)
    (case C11 => k_is)
    (case C12 => k_is)
    (case C13 => k_is)
    (case C14 => k_is)
    (case C15 => k_is)
    (case C16 => k_is)
    (case C17 => k_is)
    (case C18 => k_is)
    (case C19 => k_is)
    (case tb => kernel_rfl)
    (case np => kernel_rfl)
    (case nv => kernel_rfl)
    (case iC0 => k_is); (case xL0 => k_is); (case ib0 => kernel_rfl); (case l0 => k_is); (case cd0 => k_is)
    (case iC1 => k_is); (case xL1 => k_is); (case ib1 => kernel_rfl); (case l1 => k_is); (case cd1 => k_is)
    (case iC2 => k_is); (case xL2 => k_is); (case ib2 => kernel_rfl); (case l2 => k_is); (case cd2 => k_is)
    (case iC3 => k_is); (case xL3 => k_is); (case ib3 => kernel_rfl); (case l3 => k_is); (case cd3 => k_is)
    (case iC4 => k_is); (case xL4 => k_is); (case ib4 => kernel_rfl); (case l4 => k_is); (case cd4 => k_is)
    (case iC5 => k_is); (case xL5 => k_is); (case ib5 => kernel_rfl); (case l5 => k_is); (case cd5 => k_is)
    (case iC6 => k_is); (case xL6 => k_is); (case ib6 => kernel_rfl); (case l6 => k_is); (case cd6 => k_is)
    (case iC7 => k_is); (case xL7 => k_is); (case ib7 => kernel_rfl); (case l7 => k_is); (case cd7 => k_is)
    (case iC13 => k_is); (case xL13 => k_is); (case ib13 => kernel_rfl); (case l13 => k_is); (case cd13 => k_is)
    (case iC14 => k_is); (case xL14 => k_is); (case ib14 => kernel_rfl); (case l14 => k_is); (case cd14 => k_is)
    (case iC17 => k_is); (case xL17 => k_is); (case ib17 => kernel_rfl); (case l17 => k_is); (case cd17 => k_is)
    (case iC18 => k_is); (case xL18 => k_is); (case ib18 => kernel_rfl); (case l18 => k_is); (case cd18 => k_is)
    (case q8 => k_exc); (case k8 => k_is)
    (case q9 => k_exc); (case k9 => k_is)
    (case q10 => k_exc); (case k10 => k_is)
    (case q11 => k_exc); (case k11 => k_is)
    (case q12 => k_exc); (case k12 => k_is)
    (case q15 => k_exc); (case k15 => k_is)
    (case q16 => k_exc); (case k16 => k_is)
    (case q19 => k_exc); (case k19 => k_is)
    (case a32 => k_is); (case b32 => k_is); (case c32 => k_is); (case d32 => k_is)
    (case a33 => k_is); (case b33 => k_is); (case c33 => k_is); (case d33 => k_is)
    (case a34 => k_is); (case b34 => k_is); (case c34 => k_is); (case d34 => k_is)
    (case a35 => k_is); (case b35 => k_is); (case c35 => k_is); (case d35 => k_is)
    (case a36 => k_is); (case b36 => k_is); (case c36 => k_is); (case d36 => k_is)
    (case a37 => k_is); (case b37 => k_is); (case c37 => k_is); (case d37 => k_is)
    (case a38 => k_is); (case b38 => k_is); (case c38 => k_is); (case d38 => k_is)
    (case a40 => k_is); (case b40 => k_is); (case c40 => k_is); (case d40 => k_is)
    (case z0 => k_is)
    (case z1 => k_is)
    (case z2 => k_is)
    (case z3 => k_is)
    (case z4 => k_is)
    (case z5 => k_is)
    (case z6 => k_is)
    (case z7 => k_is)
    (case z8 => k_is)
    (case z9 => k_is)
    (case a39 => k_is); (case b39 => k_is); (case c39 => k_is); (case d39 => k_is)
    (case n0 => k_is)
    (case n1 => k_is)
    (case n2 => k_is)
    (case n3 => k_is)
    (case n4 => k_is)
    (case n5 => k_is)
    (case n6 => k_is)
    (case n7 => k_is)
    (case n8 => k_is)
    (case nB => k_is); (case nR => k_is); (case rB => kernel_rfl); (case rR => kernel_rfl); (case vB => k_is); (case vR => k_is)
