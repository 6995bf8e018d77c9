import PyProof.Rows.All
import Wide.All
import OpenK.AllK
import Wide.FinOn
import HandS.ForMost
import HandS.IsInst
import HandS.TupAny
import HandS.TupMul
import HandS.Conv
import PyProof.NeKinds
import PyProof.ReprLen
import KE.GoesEnum
import HandS.Walk
import HandS.Replace
import PyProof.Rows.RegReprOcc
import PyProof.StrOps2
import KE.BitLaws
import PyProof.ListStr
import HandS.More
import HandS.NoneIn
import HandS.Steps
import HandS.Text
import PyProof.EqLayable
import HandS.Exc
import HandS.ExcInit
import HandS.ExcField
import HandS.ExcIs
import HandS.ExcOwn
import KE.KExcInit
import KE.KExcIs
import HandS.ExcValue
import HandS.Style
import PyProof.StrLawsRepr
import HandS.Flow
import PyProof.EqAt
import PyProof.EqKinds
import HandS.Star
import PyProof.ExcBaseAll.LookupError
import HandS.CallLocal
import HandS.WordsExc
import HandS.Defaults
import KE.KOpsOwn
import KE.KRevSl
import HandS.TryMany
import PySem.Challenge.RW_pairedaway_k08_items_and_operators_of_be
set_option Elab.async false
set_option maxRecDepth 100000
set_option maxHeartbeats 4000000
/-! Own layer for laws that call repr: promises of defs that run where no repr is under way, data with empty dicts, repr's rule. -/
namespace GL
open PySem PySem.Spec PyProof.Rows L2

/-- a def's promise, claimed only where no guard of repr stands around -/
structure Fg (P : Program) (w : World) (K : PySem.W.Frag) (mg : Str → Option Value) (base : Heap) (CX : CXT) (k : Nat) (f : Addr) (fd : FuncData) (ps : List Str) (sp : Sp) : Prop where
  ln : ∀ vs H Q E, sp vs H Q E → vs.length = ps.length
  go : ∀ (A : Around) (outer : List Env) (s : Shared) (H : Hp) (args : Args) (us : List Value) (vs : List V) (Q : VK) (E : XK), A.guards = some [] → Room k A → Env0 P w K mg base A outer s H →
    BindsTo s fd args (ps.zip us) → Vals vs us → sp vs H Q E → codeAny (model P w) A (.call (.ref f) args) (CR CX outer P w H s Q E) s

theorem Fg.of {P : Program} {w : World} {K : PySem.W.Frag} {mg : Str → Option Value} {base : Heap} {CX : CXT} {k : Nat} {f : Addr} {fd : FuncData} {ps : List Str} {sp : Sp} (F : FnOk P w K mg base CX k f fd ps sp) : Fg P w K mg base CX k f fd ps sp :=
  ⟨F.len, fun A outer s H args us vs Q E _ => F.run A outer s H args us vs Q E⟩

theorem guards_deeper {A : Around} {env : Env} (h : A.guards = some []) : (A.deeper env).guards = some [] := by
  simp [Around.deeper, h]

section
variable {P : Program} {w : World} {K : PySem.W.Frag} {mg : Str → Option Value} {base : Heap}
/-- the rule for such a def: as for any other, with the fact about guards at hand -/
theorem ok_g {x qual : Str} {st : Stmt} {f : Addr} {fd : FuncData} {N ps : List Str} {k : Nat} {sp : Sp} (F : Fun K x qual st f fd) (S : FnScope N ps (defScope st)) (ln : ∀ vs H Q E, sp vs H Q E → vs.length = ps.length)
    (bd : ∀ (cdv : Value) (A : Around) (outer : List Env) (s : Shared) (H : Hp) (vs : List V) (Q : VK) (E : XK), (A.deeper (envOfC qual (defScope st) s.heap.objs.size f cdv)).guards = some [] → Room k (A.deeper (envOfC qual (defScope st) s.heap.objs.size f cdv)) → sp vs H Q E →
      ∃ t, PSs (cxOf CX0 P w K mg base N qual (defScope st) f cdv A outer s H E).nox (defBody st) t ∧ t { nx := fun _ H' => Q .non H', rt := Q } (start N vs) H) : Fg P w K mg base CX0 (k + 1) f fd ps sp := by
  obtain ⟨oc, od, kV, doc, pm, an, cdv, ct, osl, rfl, lk, hcd⟩ := F.ex
  refine ⟨ln, fun A outer s H args us vs Q E hg hr e0 hb r hsp => ?_⟩
  have lv := ln _ _ _ _ hsp
  have KI : K.In s.heap := e0.mod.kin.keeps fun b o q => (e0.bs b o q).1
  have NL : s.heap.NoLimit := e0.mod.nolimit.keeps fun b o q => (e0.bs b o q).1
  have kinds : ∀ y ∈ ps.zip us, (defScope st).names.lookup y.1 = some .local ∨ ((defScope st).names.lookup y.1 = some .cell ∧ ((cellsFrom (s.heap.objs.size + 1) (defScope st).names []).lookup y.1).isSome = true) := by
    rintro ⟨n, v⟩ hy
    cases S.par n (List.of_mem_zip hy).1 with
    | inl q => exact .inl q
    | inr q => exact .inr ⟨q, PySem.W.cellsFrom_some _ _ _ (.inl q)⟩
  refine codeAny_call_function hr.depth (KI _ _ lk) rfl S.co S.gen rfl (PySem.W.codeRec_of KI hcd) (hb _ _ _ _ (wpAny_newFunctionEnv_cells S.kind kinds fun env he s1 x => ?_))
  cases he
  obtain ⟨t, ht, hq⟩ := bd cdv A outer s H vs Q E (guards_deeper hg) (hr.deeper _) hsp
  refine ⟨NL.keeps x.toInCall.keep, codeAny_func (wpAny_mono (ht.nox.run [] s1 (start N vs) H _ (inv_start S hr.hd e0 lv r x) hq) (fun fl s' hs => ?_) fun e s' hs => hs)⟩
  have fin : ∀ {τ : L2.St} {G : Hp} {v : V} {u : Value}, Inv (cxOf CX0 P w K mg base N qual (defScope st) f cdv A outer s H E) [] τ G s' → RelV v u → Q v G → CE outer P w H s Q u s' :=
    fun {τ G v u} J rv q => ⟨v, G, J.os, J.bare, J.base, J.hok, rv, q⟩
  match fl, hs with
  | .ret u, ⟨v, τ, G, J, rv, q⟩ => exact fin J rv q
  | .next, ⟨τ, G, J, q⟩ => exact fin (v := V.non) (u := Value.none) J rfl q
  | .brk, ⟨_, _, _, q⟩ => exact q.elim
  | .cont, ⟨_, _, _, q⟩ => exact q.elim
end

section
variable {X : Cx} {CX : CXT} {k : Nat} {f : Addr} {fd : FuncData} {ps : List Str} {sp : Sp} {E : XK} {x : Str} {p pos : Pos} {e : Expr} {es : List Expr} {t : TA}
/-- f(e, ..) of such a def, without defaults -/
theorem pe_callg (hg : X.A.guards = some []) (F : Fg X.prog X.w X.K X.mg X.base CX k f fd ps sp) (hr : Room k X.A) (gl : Gl X x) (hm : X.mg x = some (.ref f)) (kp : PySem.W.keepIn X.K (.ref f) = true) (hb : Binds X.K fd ps []) (hx : Passes CX X E)
    (ha : PA X (e :: es) t) (hdb : (x == ("__debug__" : Str)) = false := by decide) (se : starEach (e :: es) X.env = (false, eval e X.env) :: starEach es X.env := by rfl) (pl : (backTo pos (starEach es X.env)).any (·.1) = false := by rfl) :
    PE X (.Call (.Name x p) (e :: es) [] pos) (tCall sp [] E t) := by
  refine ⟨fun pins s σ H Q I h => wpAny_Call_Name_kw (ld_glob I gl hm ?_ hdb)⟩
  refine PySem.W.callWith_K (h₀ := X.base) I.ok.mod.kin kp (thn (ha.run pos pins s σ H _ I h) fun us s1 ⟨vs, G, J, r, q⟩ => ⟨J.kIn, ?_⟩) se pl
  replace q : sp vs G Q E := by simpa using q
  have ll : (us ++ ([] : List Value)).length = ps.length := by rw [List.append_nil, ← r.length]; exact F.ln _ _ _ _ q
  have bb := hb s1 us J.kIn ll
  rw [List.append_nil] at bb
  refine wpAny_call (codeAny_mono (F.go X.A X.stack s1 G ⟨us, []⟩ us vs Q E hg hr J.env0 bb r q) fun res s' hq => ?_)
  match res, hq with
  | .error e, hq => exact hx pins σ G s1 e s' J hq
  | .ok (.ret u), hq => exact J.after hq
  | .ok .next, hq => exact hq.elim
  | .ok .brk, hq => exact hq.elim
  | .ok .cont, hq => exact hq.elim
end

/-! ### data, empty dicts among them -/
mutual
inductive Dt (K : PySem.W.Frag) (H : Hp) : V → PyData → Prop
  | non : Dt K H .non .none
  | bl (b : Bool) : Dt K H (.bl b) (.bool b)
  | int (i : Int) : Dt K H (.int i) (.int i)
  | str (x : Str) : Dt K H (.str x) (.str x)
  | lst {a : Addr} {vs : List V} {ds : List PyData} : H a = some (.lst vs) → DtAll K H vs ds → Dt K H (.ref a) (.list ds)
  | tup {a : Addr} {vs : List V} {ds : List PyData} : H a = some (.tup vs) → DtAll K H vs ds → Dt K H (.ref a) (.tuple ds)
  | dic {a : Addr} : H a = some (.dK []) → Dt K H (.ref a) (.dict [])
inductive DtAll (K : PySem.W.Frag) (H : Hp) : List V → List PyData → Prop
  | nil : DtAll K H [] []
  | cons {v : V} {vs : List V} {d : PyData} {ds : List PyData} : Dt K H v d → DtAll K H vs ds → DtAll K H (v :: vs) (d :: ds)
end
section
variable {K : PySem.W.Frag} {H H' : Hp}
mutual
theorem Dt.same (e : Same H H') : ∀ {d : PyData} {v : V}, Dt K H v d → Dt K H' v d
  | _, _, .non => .non
  | _, _, .bl b => .bl b
  | _, _, .int i => .int i
  | _, _, .str x => .str x
  | _, _, .lst h a => .lst (e _ _ h) (DtAll.same e a)
  | _, _, .tup h a => .tup (e _ _ h) (DtAll.same e a)
  | _, _, .dic h => .dic (e _ _ h)
theorem DtAll.same (e : Same H H') : ∀ {ds : List PyData} {vs : List V}, DtAll K H vs ds → DtAll K H' vs ds
  | _, _, .nil => .nil
  | _, _, .cons h a => .cons (Dt.same e h) (DtAll.same e a)
end
theorem DtAll.length {ds : List PyData} : ∀ {vs : List V}, DtAll K H vs ds → vs.length = ds.length := by
  induction ds with
  | nil => intro vs h; cases h; rfl
  | cons d ds ih => intro vs h; cases h with | cons h1 h2 => simp [ih h2]
theorem DtAll.append : ∀ {ds es : List PyData} {vs us : List V}, DtAll K H vs ds → DtAll K H us es → DtAll K H (vs ++ us) (ds ++ es)
  | _, _, _, _, .nil, h => h
  | _, _, _, _, .cons a b, h => .cons a (DtAll.append b h)
theorem DtAll.take : ∀ {ds : List PyData} {vs : List V} (n : Nat), DtAll K H vs ds → DtAll K H (vs.take n) (ds.take n)
  | _, _, 0, _ => .nil
  | _, _, _ + 1, .nil => .nil
  | _, _, n + 1, .cons a b => .cons a (DtAll.take n b)
theorem DtAll.drop : ∀ {ds : List PyData} {vs : List V} (n : Nat), DtAll K H vs ds → DtAll K H (vs.drop n) (ds.drop n)
  | _, _, 0, h => h
  | _, _, _ + 1, .nil => .nil
  | _, _, n + 1, .cons _ b => DtAll.drop n b
theorem DtAll.get : ∀ {ds : List PyData} {vs : List V} {i : Nat} {v : V}, DtAll K H vs ds → vs[i]? = some v → ∃ d, ds[i]? = some d ∧ Dt K H v d
  | _, _, i, _, .nil, h => by simp at h
  | _, _, 0, _, .cons a _, h => by simp at h; subst h; exact ⟨_, rfl, a⟩
  | _, _, i + 1, v, .cons _ b, h => by
    obtain ⟨d, h1, h2⟩ := DtAll.get (i := i) (v := v) b (by simpa using h)
    exact ⟨d, by simpa using h1, h2⟩
end

section
variable {X : Cx} {pins : List (Addr × Obj)} {σ : L2.St} {H : Hp} {s : Shared}
/-- what repr's rules of the library ask of a value -/
structure Shows (prog : Program) (w : World) (h : Heap) (u : Value) (d : PyData) : Prop where
  ex : ∃ as bs, Reads h u d as ∧ ReadAtMost h d.depth bs ∧ ReprK prog w bs h d.depth u d.shown
structure ShowsAll (prog : Program) (w : World) (h : Heap) (us : List Value) (ds : List PyData) : Prop where
  ex : ∃ as bs, ReadsAll h us ds as ∧ ReadAtMost h (PyData.depthAll ds) bs ∧ ReprAllK prog w bs h (PyData.depthAll ds) us (PyData.shownAll ds)
theorem dic_at (I : Inv X pins σ H s) {a : Addr} (h : H a = some (.dK [])) : (a == sysModules) = false ∧ ∃ o es ep, s.heap.get? a = some o ∧ o.cls = .type "dict" ∧ o.data = .dict es ep ∧ es.toList = [] := by
  obtain ⟨_, ne, vs, kv, o, es, ep, h1, h2, h3, _, h5, _⟩ := (show ObjOk X.prog X.w H s.heap a (.dK []) from I.hok a _ h)
  cases kv
  refine ⟨ne, o, es, ep, h1, h2.1, h3, ?_⟩
  cases q : es.toList with
  | nil => rfl
  | cons y ys => rw [q] at h5; cases h5
theorem lst_at (I : Inv X pins σ H s) {a : Addr} {vs : List V} (h : H a = some (.lst vs)) : ∃ its n, Vals vs its ∧ s.heap.get? a = some { cls := .type "list", data := .seq its.toArray n } := by
  obtain ⟨_, its, n, r, e⟩ := (show ObjOk X.prog X.w H s.heap a (.lst vs) from I.hok a _ h)
  exact ⟨its, n, r, e⟩
theorem tup_at (I : Inv X pins σ H s) {a : Addr} {vs : List V} (h : H a = some (.tup vs)) : ∃ its o n, Vals vs its ∧ s.heap.get? a = some o ∧ o.cls = .type "tuple" ∧ o.data = .seq its.toArray n := by
  obtain ⟨_, its, r, o, h1, h2, n, h3⟩ := (show ObjOk X.prog X.w H s.heap a (.tup vs) from I.hok a _ h)
  exact ⟨its, o, n, r, h1, h2, h3⟩
mutual
theorem Dt.shows (I : Inv X pins σ H s) : ∀ (d : PyData) (v : V) (u : Value), Dt X.K H v d → RelV v u → d.showable = true → d.shown.length ≤ sizeLine → Shows X.prog X.w s.heap u d
  | .none, _, _, h, r, _, _ => by
    cases h; cases r
    exact ⟨_, [], .none, (fun _ q => nomatch q), by simp only [PyData.shown]; exact .of_is ReprIs.none _ _ _⟩
  | .bool b, _, _, h, r, _, _ => by
    cases h; cases r
    exact ⟨_, [], .bool b, (fun _ q => nomatch q), by simp only [PyData.shown]; exact .of_is (ReprIs.bool b) _ _ _⟩
  | .int i, _, _, h, r, hs, _ => by
    cases h
    obtain ⟨t, rfl⟩ := r
    exact ⟨_, [], .int i t, (fun _ q => nomatch q), by simp only [PyData.shown]; exact .of_is (ReprIs.int t (by simpa [PyData.showable] using hs)) _ _ _⟩
  | .str x, _, _, h, r, _, hz => by
    cases h
    obtain ⟨t, rfl⟩ := r
    exact ⟨_, [], .str x t, (fun _ q => nomatch q), by simp only [PyData.shown]; exact .of_is (ReprIs.str x t (by simpa only [PyData.shown] using hz)) _ _ _⟩
  | .list ds, _, _, h, r, hs, hz => by
    cases h with
    | @lst a vs _ hl ha =>
      cases r
      have hz' : (listText (PyData.shownAll ds)).length ≤ sizeLine := by simpa only [PyData.shown] using hz
      obtain ⟨its, n, rv, e⟩ := lst_at I hl
      obtain ⟨as, bs, r4, rb, rk⟩ := (Dt.showsAll I ds vs its ha rv (by simpa [PyData.showable] using hs) (fun t ht => Nat.le_trans (listText_mem_le ht) hz')).ex
      have rr : Reads s.heap (.ref a) (.list ds) (a :: as) := .list e rfl rfl r4
      have nm : a ∉ bs := not_mem_of_deeper rr (by simp only [PyData.depth]; omega) rb
      refine ⟨_, a :: bs, rr, ReadAtMost.cons rr (by simp only [PyData.depth]; omega) rb, ?_⟩
      simp only [PyData.depth, PyData.shown]
      cases its with
      | nil =>
        cases r4
        simp only [PyData.shownAll, listText_nil]
        exact ReprK.listEmpty e rfl rfl
      | cons y ys => exact ReprK.list e rfl rfl nm (by simpa using rk.length_eq) (fun i z q => rk.item i z (by simpa using q))
  | .tuple ds, _, _, h, r, hs, hz => by
    cases h with
    | @tup a vs _ hl ha =>
      cases r
      have hz' : (tupleText (PyData.shownAll ds)).length ≤ sizeLine := by simpa only [PyData.shown] using hz
      obtain ⟨its, o, n, rv, e1, e2, e3⟩ := tup_at I hl
      obtain ⟨as, bs, r4, rb, rk⟩ := (Dt.showsAll I ds vs its ha rv (by simpa [PyData.showable] using hs) (fun t ht => Nat.le_trans (tupleText_mem_le ht) hz')).ex
      have rr : Reads s.heap (.ref a) (.tuple ds) as := .tuple e1 e2 e3 r4
      have nm : a ∉ bs := not_mem_of_deeper rr (by simp only [PyData.depth]; omega) rb
      refine ⟨_, a :: bs, rr, ReadAtMost.cons rr (by simp only [PyData.depth]; omega) rb, ?_⟩
      simp only [PyData.depth, PyData.shown]
      exact ReprK.tuple e1 e2 e3 nm rk
  | .dict _, _, _, h, r, _, _ => by
    cases h with
    | @dic a hd =>
      cases r
      obtain ⟨ne, o, es, ep, e1, e2, e3, e4⟩ := dic_at I hd
      have rr : Reads s.heap (.ref a) (.dict []) (a :: [] ++ []) := .dict e1 e2 e3 (by rw [e4]; exact .nil) (by rw [e4]; exact .nil)
      refine ⟨_, [a], rr, ReadAtMost.cons (n := 0) rr (Nat.zero_le _) (fun _ q => nomatch q), ?_⟩
      simp only [PyData.depth, PyData.shown, PyData.shownKv]
      exact ReprK.dict (d := 0) e1 e2 e3 ne (fun q => nomatch q) (by rw [e4]; exact .nil)
theorem Dt.showsAll (I : Inv X pins σ H s) : ∀ (ds : List PyData) (vs : List V) (us : List Value), DtAll X.K H vs ds → Vals vs us → PyData.showableAll ds = true → (∀ t ∈ PyData.shownAll ds, t.length ≤ sizeLine) → ShowsAll X.prog X.w s.heap us ds
  | [], _, _, h, r, _, _ => by
    cases h; cases r
    exact ⟨_, [], .nil, (fun _ q => nomatch q), by simp only [PyData.shownAll]; exact .nil⟩
  | d :: ds, _, _, h, r, hs, hz => by
    cases h with
    | cons h1 h2 =>
      cases r with
      | cons r1 r2 =>
        have hs' : d.showable = true ∧ PyData.showableAll ds = true := by simpa [PyData.showableAll] using hs
        obtain ⟨as, bs, a1, a2, a3⟩ := (Dt.shows I d _ _ h1 r1 hs'.1 (hz _ (by simp only [PyData.shownAll]; exact List.mem_cons_self ..))).ex
        obtain ⟨cs, es, c1, c2, c3⟩ := (Dt.showsAll I ds _ _ h2 r2 hs'.2 (fun t ht => hz t (by simp only [PyData.shownAll]; exact List.mem_cons_of_mem _ ht))).ex
        refine ⟨_, bs ++ es, .cons a1 c1, ?_, ?_⟩
        · simp only [PyData.depthAll]
          exact (a2.mono (Nat.le_max_left _ _)).append (c2.mono (Nat.le_max_right _ _))
        · simp only [PyData.depthAll, PyData.shownAll]
          exact .cons ((a3.more fun b hb => List.mem_append_left _ hb).level_le (Nat.le_max_left _ _)) (c3.more_le (fun b hb => List.mem_append_right _ hb) (Nat.le_max_right _ _))
end
end

/-- repr of data -/
def rReprD (K : PySem.W.Frag) : List V → Hp → VK → Prop := fun xs H Q => ∃ v d, xs = [v] ∧ Dt K H v d ∧ d.showable = true ∧ d.depth ≤ 60 ∧ d.shown.length ≤ sizeLine ∧ Q (.str d.shown) H
theorem call_reprD {X : Cx} (hg : X.A.guards = some []) (hu : X.A.units + 64 < cLine) : CallR X (.builtin "repr") (rReprD X.K) := by
  intro pins s σ H xs us Q I r h
  obtain ⟨v, d, rfl, hd, hs, hdep, hz, q⟩ := h
  obtain ⟨u, rfl, ru⟩ := vals1 r
  have keep : ∀ b o, s.heap.get? b = some o → s.heap.get? b = some o := fun _ _ e => e
  have fin : ∀ (h' : Heap) (t : Tok) (tk : Nat), (∀ b o, s.heap.get? b = some o → h'.get? b = some o) → EP X pins σ Q (.str d.shown t) { s with heap := h', toks := tk } :=
    fun h' t tk k => ⟨.str d.shown, H, I.kept k, ⟨t, rfl⟩, q⟩
  cases hd with
  | non => cases ru; simp only [PyData.shown] at fin; exact PySem.P.repr_of_none (fin _ _ _ keep)
  | bl b => cases ru; simp only [PyData.shown] at fin; exact PySem.P.repr_of_bool (fin _ _ _ keep)
  | int i => obtain ⟨t, rfl⟩ := ru; simp only [PyData.shown] at fin; exact PySem.P.repr_of_int (by simpa [PyData.showable] using hs) (fin _ _ _ keep)
  | str x => obtain ⟨t, rfl⟩ := ru; simp only [PyData.shown] at fin; exact PySem.P.repr_of_str (fin _ _ _ keep) (by simpa only [PyData.shown] using hz)
  | @lst a vs ds hl ha =>
    cases ru
    simp only [PyData.depth] at hdep
    simp only [PyData.shown] at fin
    have hz' : (listText (PyData.shownAll ds)).length ≤ sizeLine := by simpa only [PyData.shown] using hz
    obtain ⟨its, n, rv, e⟩ := lst_at I hl
    obtain ⟨as, bs, r4, rb, rk⟩ := (Dt.showsAll I ds vs its ha rv (by simpa [PyData.showable] using hs) (fun t ht => Nat.le_trans (listText_mem_le ht) hz')).ex
    have rr : Reads s.heap (.ref a) (.list ds) (a :: as) := .list e rfl rfl r4
    have nm : a ∉ bs := not_mem_of_deeper rr (by simp only [PyData.depth]; omega) rb
    refine call_repr_slot (T := "list") (by omega) ⟨_, e, rfl⟩ F.slot_list_repr.toG ?_
    cases its with
    | nil =>
      cases r4
      simp only [PyData.shownAll, listText_nil] at fin
      exact call_list_repr_empty ⟨_, e, rfl⟩ e rfl ⟨_, _, rfl, fin _ _ _ keep⟩
    | cons y ys =>
      exact call_list_reprK e rfl rfl nm (by simpa using rk.length_eq) (fun i z q => rk.item i z (by simpa using q)) (A := X.A.in1) hg (fun b _ => Clear.nil b) (by show X.A.units + 1 + _ < cLine; omega) keep (fun h' t tk k => ⟨_, _, rfl, fin h' t tk k⟩) hz'
  | @tup a vs ds hl ha =>
    cases ru
    simp only [PyData.depth] at hdep
    simp only [PyData.shown] at fin
    have hz' : (tupleText (PyData.shownAll ds)).length ≤ sizeLine := by simpa only [PyData.shown] using hz
    obtain ⟨its, o, n, rv, e1, e2, e3⟩ := tup_at I hl
    obtain ⟨as, bs, r4, rb, rk⟩ := (Dt.showsAll I ds vs its ha rv (by simpa [PyData.showable] using hs) (fun t ht => Nat.le_trans (tupleText_mem_le ht) hz')).ex
    have rr : Reads s.heap (.ref a) (.tuple ds) as := .tuple e1 e2 e3 r4
    have nm : a ∉ bs := not_mem_of_deeper rr (by simp only [PyData.depth]; omega) rb
    refine call_repr_slot (T := "tuple") (by omega) ⟨_, e1, e2⟩ F.slot_tuple_repr ?_
    exact call_tuple_reprK e1 e2 e3 nm rk (A := X.A.in1) hg (fun b _ => Clear.nil b) (by show X.A.units + 1 + _ < cLine; omega) keep (fun h' t tk k => ⟨_, _, rfl, fin h' t tk k⟩) hz'
  | @dic a hdk =>
    cases ru
    simp only [PyData.shown, PyData.shownKv] at fin
    obtain ⟨ne, o, es, ep, e1, e2, e3, e4⟩ := dic_at I hdk
    refine call_repr_slot (T := "dict") (by omega) ⟨_, e1, e2⟩ F.slot_dict_repr ?_
    exact call_dict_reprK (ps := []) (d := 0) (as := []) e1 e2 e3 ne (fun q => nomatch q) (by rw [e4]; exact .nil) (A := X.A.in1) hg (fun b _ => Clear.nil b) (by show X.A.units + 1 + _ < cLine; omega) keep (fun h' t tk k => ⟨_, _, rfl, fin h' t tk k⟩) (by simp only [PyData.shown, PyData.shownKv] at hz; exact hz)
end GL
/-! The end of a law whose def is promised where no guard of repr stands. -/
namespace GL
open PySem PySem.Spec PyProof.Rows L2 PySem.W

section
variable {P : Program} {w : World} {K : PySem.W.Frag} {mg mb : Str → Option Value} {k : Nat} {fa a : Addr} {fd : FuncData} {x : Str} {sp : Sp} {s₁ : Shared} {vs : List Value} {ns : List Int}
theorem nil_no {b : Addr} : b ∉ ([] : List Addr) := fun z => nomatch z
/-- the law's call, from one abstract heap in which the script alone may be tracked -/
theorem law_core (KI : K.In s₁.heap) (g1 : s₁.heap.Ns mainGlobals mg) (g2 : s₁.heap.Ns builtinsNs mb) (g3 : ∀ y : Str, y ≠ "__name__" → mb y = bootBuiltins y) (nl : s₁.heap.NoLimit) (hg : s₁.gens = #[])
    (ha : s₁.heap.get? a = some { cls := .type "list", data := .seq vs.toArray }) (hr : Room k callerA)
    (F : ∀ base : Heap, K.In base → base.Ns mainGlobals mg → Fg P w K mg base CX0 k fa fd [x] sp) (bd : ∀ (s : Shared) (u : Value), BindsTo s fd ⟨[u], []⟩ [(x, u)])
    (H : Hp) (on : Only H) (hq : sp [.ref a] H (fun v _ => v = .bl true) fun _ _ _ => False) (ok : HOk P w H s₁.heap) (one : ∀ b, H b ≠ none → b = a) (nk : H a ≠ none → K.lookup a = none) :
    codeAny (model P w) callerA (.call (.ref fa) ⟨[.ref a], []⟩) (fun r s' => r = .ok (.ret (.bool true)) ∧ OldK s₁.heap s'.heap ∧ s'.os = s₁.os ∧ AllBare s'.gens) s₁ := by
  have out : ∀ {b : Addr} {o : Obj}, s₁.heap.get? b = some o → (b = a → H a = none) → (hidT s₁.heap H).get? b = some o := fun {b o} e n => hidT_get e (by
    by_cases z : H b = none
    · exact z
    · have zz := one b z
      rw [zz]; exact n zz)
  have dct : ∀ {b : Addr} {o : Obj} {es : Array DictEntry} {ep : Nat}, s₁.heap.get? b = some o → o.data = .dict es ep → b ≠ a := fun {b o es ep} e d z => by
    rw [z, ha] at e
    cases e
    exact nomatch (show Data.seq vs.toArray _ = Data.dict es ep from d)
  have nsK : ∀ {b : Addr} {m : Str → Option Value}, s₁.heap.Ns b m → (hidT s₁.heap H).Ns b m := fun {b m} q => by
    obtain ⟨o, es, ep, e, d, r⟩ := q
    exact ⟨o, es, ep, out e (fun z => absurd z (dct e d)), d, r⟩
  have KB : K.In (hidT s₁.heap H) := fun b o e => out (KI b o e) fun z => by
    by_cases y : H a = none
    · exact y
    · rw [z, nk y] at e; cases e
  have md : Mod K mg (hidT s₁.heap H) := ⟨KB, nsK g1, ⟨mb, nsK g2, g3⟩, let ⟨mc, c1, c2⟩ := nl; ⟨mc, nsK c1, c2⟩⟩
  have ev : Env0 P w K mg (hidT s₁.heap H) callerA [] s₁ H := ⟨rfl, md, fun _ _ e => of_hidT e, Nat.le_of_eq (hidT_size _ _), trivial, fun b z => absurd z nil_no, ok, .of_eq hg⟩
  refine codeAny_mono ((F _ KB (nsK g1)).go callerA [] s₁ H ⟨[.ref a], []⟩ [.ref a] [.ref a] _ _ rfl hr ev (bd s₁ (.ref a)) (.cons rfl .nil) hq) fun r s' h => ?_
  match r, h with
  | .error e, h => exact h.elim
  | .ok .next, h => exact h.elim
  | .ok .brk, h => exact h.elim
  | .ok .cont, h => exact h.elim
  | .ok (.ret u), ⟨v, G, os, br, un, okG, rv, q⟩ =>
    cases (show v = .bl true from q)
    cases (show u = Value.bool true from rv)
    refine ⟨rfl, OldK.of_keep fun b o e => ?_, os, br⟩
    rcases on b with z | ⟨ob, xs, z⟩
    · exact un.keep b o e z nil_no nil_no
    · have e1 := (ok b _ z).1
      have e2 := (okG b _ (un.frzs b ob _ z)).1
      rw [e] at e1
      cases e1
      exact e2

theorem law_end (KI : K.In s₁.heap) (g1 : s₁.heap.Ns mainGlobals mg) (g2 : s₁.heap.Ns builtinsNs mb) (g3 : ∀ y : Str, y ≠ "__name__" → mb y = bootBuiltins y) (nl : s₁.heap.NoLimit) (hg : s₁.gens = #[])
    (ha : s₁.heap.get? a = some { cls := .type "list", data := .seq vs.toArray }) (hi : IntsAre vs ns) (hz : ns.length ≤ sizeLine) (hr : Room k callerA)
    (F : ∀ base : Heap, K.In base → base.Ns mainGlobals mg → Fg P w K mg base CX0 k fa fd [x] sp) (bd : ∀ (s : Shared) (u : Value), BindsTo s fd ⟨[u], []⟩ [(x, u)])
    (hsp : ∀ H : Hp, Only H → SqL K H a (ns.map V.int) → sp [.ref a] H (fun v _ => v = .bl true) fun _ _ _ => False) :
    codeAny (model P w) callerA (.call (.ref fa) ⟨[.ref a], []⟩) (fun r s' => r = .ok (.ret (.bool true)) ∧ OldK s₁.heap s'.heap ∧ s'.os = s₁.os ∧ AllBare s'.gens) s₁ := by
  have rv := vals_ints hi
  have ll : vs.length = ns.length := hi.length
  cases hk : K.lookup a with
  | some o =>
    have e := KI a o hk
    rw [ha] at e
    cases e
    have no : ∀ {b : Addr} {u : HO}, ((fun _ => none) : Hp) b ≠ some u := fun {b u} z => nomatch (show (none : Option HO) = some u from z)
    exact law_core KI g1 g2 g3 nl hg ha hr F bd (fun _ => none) (fun _ => .inl rfl) (hsp _ (fun _ => .inl rfl) (.inr ⟨_, vs.toArray, _, hk, rfl, rfl, rfl, by rw [List.size_toArray, ll]; exact hz, by simpa using rv⟩))
      (fun b u z => absurd z (no (b := b))) (fun b z => absurd rfl z) (fun z => absurd rfl z)
  | none =>
    have g : ∃ G : Hp, G a = some (.frz { cls := .type "list", data := .seq vs.toArray } (.lst (ns.map V.int))) ∧ ∀ b, b ≠ a → G b = none := ⟨fun b => if b = a then _ else none, if_pos rfl, fun b n => if_neg n⟩
    obtain ⟨G, y1, y2⟩ := g
    have on : Only G := fun b => by
      by_cases e : b = a
      · exact .inr ⟨_, _, e ▸ y1⟩
      · exact .inl (y2 b e)
    refine law_core KI g1 g2 g3 nl hg ha hr F bd G on (hsp G on (.inl (.inr ⟨_, y1⟩))) (fun b u z => ?_) (fun b z => ?_) fun _ => hk
    · by_cases e : b = a
      · subst e
        rw [y1] at z
        cases z
        exact ⟨ha, by rw [List.length_map]; exact hz, vs, _, rv, ha⟩
      · rw [y2 b e] at z; cases z
    · exact Classical.byContradiction fun e => z (y2 b e)
end

/-- the goal that the head leaves -/
theorem walk_g {l : PySem.W.OpenLaw} {n k : Nat} {q : Program} {loose : List Str} {XP : (Str → Option Value) → Heap → Prop} {YP : World → Heap → Prop} {d : DefRec} {K : Params → PySem.W.Frag} {sp : PySem.W.Frag → Sp} {x : Str}
    (hn : l.most = some n) (n2 : n ≤ sizeLine) (nd : d.params.defaults = []) (hr : Room k callerA) (hY : ∀ (w : World) (h : Heap), YP w h → (K w.params).In h)
    (F : ∀ (w : World) (mg : Str → Option Value) (fa : Addr) (h : Heap), (K w.params).In h → h.Ns mainGlobals mg → mg d.name = some (.ref fa) →
      ∃ fd : FuncData, (∀ (s : Shared) (u : Value), BindsTo s fd ⟨[u], []⟩ [(x, u)]) ∧ ∀ base : Heap, (K w.params).In base → base.Ns mainGlobals mg → Fg l.prog w (K w.params) mg base CX0 k fa fd [x] (sp (K w.params)))
    (hsp : ∀ (K : PySem.W.Frag) (H : Hp) (a : Addr) (ns : List Int), ns.length ≤ n → Only H → SqL K H a (ns.map V.int) → sp K [.ref a] H (fun v _ => v = .bl true) fun _ _ _ => False) :
    PySem.W.WalkO q loose XP YP l.row.toRowW d [] (fun f vs => PySem.call f vs) := by
  refine Att.attach_call hn nd fun w s₀ s₁ mg mb fa o pm cd doc a vs ns G Y ho hd hcd hmg hobj hints hlen hg => ?_
  have KI := hY w _ Y
  obtain ⟨fd, hb, hF⟩ := F w mg fa _ KI G.T.g hmg
  exact law_end KI G.T.g G.T.b G.T.builtins G.T.nolimit hg hobj hints (Nat.le_trans hlen n2) hr hF hb fun H on hS => hsp _ H a ns hlen on hS
end GL
namespace KC
open PySem L2 GL
theorem same_new {H : Hp} {p : Addr} (h : H p = none) (o : HO) : Same H (upd H p o) := fun b u q => by rw [upd_ne (ne_of_none q h)]; exact q
theorem same_grow {H H1 : Hp} {p : Addr} (h : H p = none) (e : Same H H1) (o : HO) : Same H (upd H1 p o) := fun b u q => by rw [upd_ne (ne_of_none q h)]; exact e b u q
structure Dfn (P : Program) (w : World) (K : PySem.W.Frag) (mg : Str → Option Value) (base : Heap) (name : Str) (k : Nat) (f : Addr) (fd : FuncData) (ps : List Str) (sp : Sp) : Prop where
  ok : FnOk P w K mg base CX0 k f fd ps sp
  b : L2.Binds K fd ps []
  m : mg name = some (.ref f)
  kp : PySem.W.keepIn K (.ref f) = true
/-- a def promised where no guard of repr stands -/
structure Gfn (P : Program) (w : World) (K : PySem.W.Frag) (mg : Str → Option Value) (base : Heap) (name : Str) (k : Nat) (f : Addr) (fd : FuncData) (ps : List Str) (sp : Sp) : Prop where
  ok : Fg P w K mg base CX0 k f fd ps sp
  b : L2.Binds K fd ps []
  m : mg name = some (.ref f)
  kp : PySem.W.keepIn K (.ref f) = true
/-- len of a list or tuple, the written part by its name -/
def rLenS (K : PySem.W.Frag) : List V → Hp → VK → Prop := fun xs H Q => ∃ (p : Addr) (ys : List V), xs = [.ref p] ∧ (SqL K H p ys ∨ SqT K H p ys) ∧ Q (.int ys.length) H
theorem call_lenS {X : Cx} : CallR X (.builtin "len") (rLenS X.K) := call_len_seq
/-! ### how long a value is when it is shown -/
mutual
def wt : PyData → Nat
  | .none => 4
  | .bool _ => 5
  | .int i => (PyData.int i).shown.length
  | .str x => (PyData.str x).shown.length
  | .list ds => wts ds + 3
  | .tuple ds => wts ds + 3
  | .dict _ => 2
def wts : List PyData → Nat
  | [] => 0
  | d :: ds => wt d + 2 + wts ds
end
theorem len_wts : ∀ ds : List PyData, ds.length ≤ wts ds
  | [] => Nat.le_refl _
  | d :: ds => by have := len_wts ds; simp only [wts, List.length_cons]; omega
theorem mem_wts {d : PyData} : ∀ {ds : List PyData}, d ∈ ds → wt d ≤ wts ds
  | e :: ds, h => by
    simp only [wts]
    rcases List.mem_cons.mp h with rfl | h
    · omega
    · have := mem_wts h; omega
/-! ### the deck: a list of a list of numbers and of how many were drawn -/
/-- the heap without the deck's two lists -/
def Hd (d c : Addr) (H : Hp) : Hp := fun b => if b = d ∨ b = c then none else H b
theorem hd_some {d c b : Addr} {H : Hp} {o : HO} (h : Hd d c H b = some o) : H b = some o ∧ b ≠ d ∧ b ≠ c := by
  unfold Hd at h
  by_cases e : b = d ∨ b = c
  · rw [if_pos e] at h; cases h
  · rw [if_neg e] at h; exact ⟨h, fun z => e (.inl z), fun z => e (.inr z)⟩
theorem hd_of {d c b : Addr} {H : Hp} {o : HO} (h : H b = some o) (n1 : b ≠ d) (n2 : b ≠ c) : Hd d c H b = some o := by
  unfold Hd
  rw [if_neg fun e => e.elim n1 n2]; exact h
theorem hd_sub {d c : Addr} {H : Hp} : Same (Hd d c H) H := fun _ _ h => (hd_some h).1
theorem hd_new {d c p : Addr} {H : Hp} (h : H p = none) (o : HO) : Same (Hd d c H) (Hd d c (upd H p o)) := fun b u q => by
  obtain ⟨q1, q2, q3⟩ := hd_some q
  exact hd_of (same_new h o b u q1) q2 q3
theorem hd_put {d c p : Addr} {H : Hp} (h : p = d ∨ p = c) (o : HO) : Same (Hd d c H) (Hd d c (upd H p o)) := fun b u q => by
  obtain ⟨q1, q2, q3⟩ := hd_some q
  refine hd_of ?_ q2 q3
  rw [upd_ne (fun e => h.elim (fun z => q2 (e.trans z)) fun z => q3 (e.trans z))]; exact q1
theorem hd_same {d c : Addr} {H H' : Hp} (h : Same H H') : Same (Hd d c H) (Hd d c H') := fun b u q => by
  obtain ⟨q1, q2, q3⟩ := hd_some q
  exact hd_of (h b u q1) q2 q3

/-- the deck at d, its cells at c, with at most m numbers drawn -/
structure Deck (H : Hp) (d c : Addr) (m : Nat) : Prop where
  ne : d ≠ c
  ex : ∃ (L : List Int) (n : Nat), H d = some (.lst [.ref c, .int n]) ∧ H c = some (.lst (L.map V.int)) ∧ L.length ≤ 63 ∧ (∀ x ∈ L, 0 ≤ x) ∧ n ≤ m
theorem Deck.same {H H' : Hp} {d c : Addr} {m : Nat} (D : Deck H d c m) (s : Same H H') : Deck H' d c m := by
  obtain ⟨L, n, h1, h2, h3⟩ := D.ex
  exact ⟨D.ne, L, n, s _ _ h1, s _ _ h2, h3⟩
theorem Deck.mono {H : Hp} {d c : Addr} {m k : Nat} (D : Deck H d c m) (h : m ≤ k) : Deck H d c k := by
  obtain ⟨L, n, h1, h2, h3, h4, h5⟩ := D.ex
  exact ⟨D.ne, L, n, h1, h2, h3, h4, Nat.le_trans h5 h⟩
theorem Deck.new {H : Hp} {d c : Addr} {m : Nat} (D : Deck H d c m) {p : Addr} (h : H p = none) (o : HO) : Deck (upd H p o) d c m := D.same (same_new h o)

def spDeck (K : PySem.W.Frag) : Sp := fun vs H Q _ => ∃ (a : Addr) (ns : List Int), vs = [.ref a] ∧ SqL K H a (ns.map V.int) ∧ ns.length ≤ 63 ∧ ∀ d c H', Same H H' → H d = none → H c = none → Deck H' d c 0 → Q (.ref d) H'
def spDraw : Sp := fun vs H Q _ => ∃ (d c : Addr) (many : Int) (m : Nat), vs = [.ref d, .int many] ∧ Deck H d c m ∧ m ≤ 1000000000 ∧ 0 < many ∧ many < 1073741824 ∧
  ∀ (r : Int) (H' : Hp), 0 ≤ r → r < many → Deck H' d c (m + 1) → Same (Hd d c H) (Hd d c H') → Q (.int r) H'
def spOne : Sp := fun vs H Q _ => ∃ (d c a : Addr) (xs : List V) (m : Nat), vs = [.ref d, .ref a] ∧ Deck H d c m ∧ m ≤ 1000000000 ∧ Hd d c H a = some (.lst xs) ∧ 0 < xs.length ∧ xs.length ≤ 100000 ∧
  ∀ (v : V) (H' : Hp), v ∈ xs → Deck H' d c (m + 1) → Same (Hd d c H) (Hd d c H') → Q v H'

def rAbs : List V → Hp → VK → Prop := fun xs H Q => ∃ i : Int, xs = [.int i] ∧ Q (.int (if i < 0 then -i else i)) H
theorem call_absS {X : Cx} : CallR X (.builtin "abs") rAbs := call_abs
theorem cut_mem {xs : List V} {lo hi : Option Int} {x : V} (h : x ∈ cutV xs lo hi) : x ∈ xs := List.mem_of_mem_drop (List.mem_of_mem_take h)

/-! ### machines that are drawn -/
def emp : Hp := fun _ => none
theorem emp_same {H : Hp} : Same emp H := fun _ _ h => nomatch (show (none : Option HO) = some _ from h)
/-- one more thing hidden -/
def Hr (R : Addr) (H : Hp) : Hp := fun b => if b = R then none else H b
theorem hr_some {R b : Addr} {H : Hp} {o : HO} (h : Hr R H b = some o) : H b = some o ∧ b ≠ R := by
  unfold Hr at h
  by_cases e : b = R
  · rw [if_pos e] at h; cases h
  · rw [if_neg e] at h; exact ⟨h, e⟩
theorem hr_of {R b : Addr} {H : Hp} {o : HO} (h : H b = some o) (n : b ≠ R) : Hr R H b = some o := by
  unfold Hr; rw [if_neg n]; exact h
theorem hr_sub {R : Addr} {H : Hp} : Same (Hr R H) H := fun _ _ h => (hr_some h).1
theorem hr_same {R : Addr} {H H' : Hp} (s : Same H H') : Same (Hr R H) (Hr R H') := fun b o h => hr_of (s _ _ (hr_some h).1) (hr_some h).2
theorem hr_put {R d c : Addr} {G : Hp} {o : HO} : Same (Hr R (Hd d c G)) (Hr R (Hd d c (upd G R o))) := fun b u h => by
  obtain ⟨h1, h2⟩ := hr_some h
  obtain ⟨h3, h4, h5⟩ := hd_some h1
  exact hr_of (hd_of (by rw [upd_ne h2]; exact h3) h4 h5) h2
theorem hd_none {d c p : Addr} {H : Hp} (n : H p = none) : Hd d c H p = none := by
  unfold Hd
  split
  · rfl
  · exact n
theorem hd_grow {d c p : Addr} {H G : Hp} (n : Hd d c H p = none) (s : Same (Hd d c H) (Hd d c G)) (o : HO) : Same (Hd d c H) (Hd d c (upd G p o)) := fun b u h => by
  obtain ⟨_, h2, h3⟩ := hd_some h
  exact hd_of (by rw [upd_ne (ne_of_none h n)]; exact (hd_some (s _ _ h)).1) h2 h3
theorem Deck.put {H : Hp} {d c p : Addr} {m : Nat} (D : Deck H d c m) (n1 : p ≠ d) (n2 : p ≠ c) (o : HO) : Deck (upd H p o) d c m := by
  obtain ⟨L, n, h1, h2, h3⟩ := D.ex
  exact ⟨D.ne, L, n, by rw [upd_ne n1.symm]; exact h1, by rw [upd_ne n2.symm]; exact h2, h3⟩
theorem Deck.free {H : Hp} {d c p : Addr} {m : Nat} (D : Deck H d c m) (n : H p = none) : p ≠ d ∧ p ≠ c := by
  obtain ⟨L, k, h1, h2, h3⟩ := D.ex
  exact ⟨(ne_of_none h1 n).symm, (ne_of_none h2 n).symm⟩

def IsRow (l n : Nat) (r : PyData) : Prop := ∃ xs, r = .tuple xs ∧ xs.length = l ∧ ∀ x ∈ xs, x = .none ∨ ∃ i : Int, x = .int i ∧ 0 ≤ i ∧ i < n
def IsMach (l n : Nat) (md : PyData) : Prop := ∃ (rs : List PyData) (bs : List Bool), md = .tuple [.int l, .tuple rs, .tuple (bs.map .bool)] ∧ rs.length = n ∧ bs.length = n ∧ ∀ r ∈ rs, IsRow l n r
def spMach (K : PySem.W.Frag) : Sp := fun vs H Q _ => ∃ (d c : Addr) (l n m : Nat), vs = [.ref d, .int l, .int n] ∧ Deck H d c m ∧ m ≤ 900000000 ∧ 1 ≤ l ∧ l ≤ 4 ∧ 1 ≤ n ∧ n ≤ 400 ∧
  ∀ (p : Addr) (md : PyData) (H' : Hp), IsMach l n md → Dt K (Hd d c H') (.ref p) md → Deck H' d c (m + 4000) → Same (Hd d c H) (Hd d c H') → Q (.ref p) H'
theorem bools_dt {K : PySem.W.Frag} {H : Hp} : ∀ bs : List Bool, DtAll K H (bs.map V.bl) (bs.map .bool)
  | [] => .nil
  | b :: bs => .cons (.bl b) (bools_dt bs)

/-! ### a list against an empty one, a tuple against an empty one -/
def rNe0 : R2 := fun x y H Q => ∃ (a b : Addr) (xs : List V), x = .ref a ∧ y = .ref b ∧ H a = some (.lst xs) ∧ H b = some (.lst []) ∧ Q (.bl (!xs.isEmpty)) H
def rEq0 : R2 := fun x y H Q => ∃ (a b : Addr) (xs : List V), x = .ref a ∧ y = .ref b ∧ H a = some (.tup xs) ∧ H b = some (.tup []) ∧ Q (.bl xs.isEmpty) H
theorem op_ne0 {X : Cx} (hu : X.A.units < cLine) : OpR X (compareOp .NotEq) rNe0 := by
  intro pins s σ H x y v u Q I rx ry h
  obtain ⟨a, b, xs, rfl, rfl, ha, hb, q⟩ := h
  cases rx
  cases ry
  obtain ⟨its, n, rv, e⟩ := lst_at I ha
  obtain ⟨its2, n2, rv2, e2⟩ := lst_at I hb
  cases rv2
  have l1 : s.heap.IsList a its.toArray := ⟨_, e, rfl, n, rfl⟩
  have l2 : s.heap.IsList b ([] : List Value).toArray := ⟨_, e2, rfl, n2, rfl⟩
  cases its with
  | nil =>
    cases rv
    exact SeqAt.RcNeAt.lists (e := fun _ => true) l1 l2 rfl hu (fun j h1 _ => absurd h1 (Nat.not_lt_zero j)) X.prog X.w _ _ ⟨.bl false, H, I, rfl, q⟩
  | cons y ys =>
    cases rv with
    | cons r1 r2 => exact SeqAt.RcNeAt.lists_lengths l1 l2 rfl hu X.prog X.w _ _ ⟨.bl true, H, I, rfl, q⟩
theorem op_eq0 {X : Cx} (hu : X.A.units < cLine) : OpR X (compareOp .Eq) rEq0 := by
  intro pins s σ H x y v u Q I rx ry h
  obtain ⟨a, b, xs, rfl, rfl, ha, hb, q⟩ := h
  cases rx
  cases ry
  obtain ⟨its, o, n, rv, e, ec, ed⟩ := tup_at I ha
  obtain ⟨its2, o2, n2, rv2, e2, ec2, ed2⟩ := tup_at I hb
  cases rv2
  have l1 : s.heap.IsTuple a its.toArray := ⟨_, e, ec, n, ed⟩
  have l2 : s.heap.IsTuple b ([] : List Value).toArray := ⟨_, e2, ec2, n2, ed2⟩
  cases its with
  | nil =>
    cases rv
    exact SeqAt.RcAt.tuples (e := fun _ => true) l1 l2 hu (fun j h1 _ => absurd h1 (Nat.not_lt_zero j)) X.prog X.w _ _ ⟨.bl true, H, I, rfl, q⟩
  | cons y ys =>
    cases rv with
    | cons r1 r2 => exact SeqAt.RcAt.tuples (e := fun _ => true) l1 l2 hu (fun j _ h2 => absurd h2 (Nat.not_lt_zero j)) X.prog X.w _ _ ⟨.bl false, H, I, rfl, q⟩

/-! ### what can be shown -/
mutual
theorem shown_wt {K : PySem.W.Frag} {H : Hp} : ∀ (d : PyData) (v : V), Dt K H v d → d.shown.length ≤ wt d
  | .none, _, _ => by decide +kernel
  | .bool b, _, _ => by cases b <;> decide +kernel
  | .int _, _, _ => Nat.le_refl _
  | .str _, _, _ => Nat.le_refl _
  | .list ds, _, h => by
    cases h with
    | lst _ ha =>
      have h1 := listText_len_le (PyData.shownAll ds)
      have h2 := shownAll_wt ds _ ha
      simp only [PyData.shown, wt]
      omega
  | .tuple ds, _, h => by
    cases h with
    | tup _ ha =>
      have h1 := tupleText_len_le (PyData.shownAll ds)
      have h2 := shownAll_wt ds _ ha
      simp only [PyData.shown, wt]
      omega
  | .dict _, _, h => by
    cases h with
    | dic _ =>
      simp only [PyData.shown, PyData.shownKv, wt]
      decide +kernel
theorem shownAll_wt {K : PySem.W.Frag} {H : Hp} : ∀ (ds : List PyData) (vs : List V), DtAll K H vs ds → ((PyData.shownAll ds).map (·.length)).sum + 2 * (PyData.shownAll ds).length ≤ wts ds
  | [], _, _ => by simp [PyData.shownAll, wts]
  | d :: ds, _, h => by
    cases h with
    | cons h1 h2 =>
      have e1 := shown_wt d _ h1
      have e2 := shownAll_wt ds _ h2
      simp only [PyData.shownAll, wts, List.map_cons, List.sum_cons, List.length_cons]
      omega
end
/-- small, shallow, with ints that can be shown -/
structure Fit (n k : Nat) (d : PyData) : Prop where
  w : wt d ≤ n
  k : d.depth ≤ k
  s : d.showable = true
structure FitAll (n k : Nat) (ds : List PyData) : Prop where
  w : wts ds ≤ n
  k : PyData.depthAll ds ≤ k
  s : PyData.showableAll ds = true
theorem Fit.mono {n k m j : Nat} {d : PyData} (h : Fit n k d) (a : n ≤ m) (b : k ≤ j) : Fit m j d := ⟨Nat.le_trans h.w a, Nat.le_trans h.k b, h.s⟩
theorem Fit.tup {n k : Nat} {ds : List PyData} (h : FitAll n k ds) : Fit (n + 3) (k + 1) (.tuple ds) := ⟨by simp only [wt]; have := h.w; omega, by simp only [PyData.depth]; have := h.k; omega, by simp only [PyData.showable]; exact h.s⟩
theorem Fit.lst {n k : Nat} {ds : List PyData} (h : FitAll n k ds) : Fit (n + 3) (k + 1) (.list ds) := ⟨by simp only [wt]; have := h.w; omega, by simp only [PyData.depth]; have := h.k; omega, by simp only [PyData.showable]; exact h.s⟩
theorem FitAll.nil {k : Nat} : FitAll 0 k [] := ⟨by simp only [wts]; exact Nat.le_refl 0, by simp only [PyData.depthAll]; exact Nat.zero_le _, by simp only [PyData.showableAll]⟩
theorem FitAll.cons {n m k : Nat} {d : PyData} {ds : List PyData} (a : Fit n k d) (b : FitAll m k ds) : FitAll (n + 2 + m) k (d :: ds) :=
  ⟨by simp only [wts]; have := a.w; have := b.w; omega, by simp only [PyData.depthAll]; exact Nat.max_le.mpr ⟨a.k, b.k⟩, by simp only [PyData.showableAll, a.s, b.s, Bool.and_self]⟩
theorem FitAll.mono {n k m j : Nat} {ds : List PyData} (h : FitAll n k ds) (a : n ≤ m) (b : k ≤ j) : FitAll m j ds := ⟨Nat.le_trans h.w a, Nat.le_trans h.k b, h.s⟩
theorem FitAll.append {n m k : Nat} : ∀ {ds es : List PyData}, FitAll n k ds → FitAll m k es → FitAll (n + m) k (ds ++ es)
  | [], es, _, b => b.mono (Nat.le_add_left _ _) (Nat.le_refl _)
  | d :: ds, es, a, b => by
    have w := a.w
    have kk := a.k
    have ss := a.s
    simp only [wts] at w
    simp only [PyData.depthAll] at kk
    simp only [PyData.showableAll, Bool.and_eq_true] at ss
    have r : FitAll (wts ds + m) k (ds ++ es) := FitAll.append ⟨Nat.le_refl _, Nat.le_trans (Nat.le_max_right _ _) kk, ss.2⟩ b
    exact (FitAll.cons (n := wt d) ⟨Nat.le_refl _, Nat.le_trans (Nat.le_max_left _ _) kk, ss.1⟩ r).mono (by omega) (Nat.le_refl _)
theorem FitAll.take {n k : Nat} : ∀ {ds : List PyData} (i : Nat), FitAll n k ds → FitAll n k (ds.take i)
  | ds, 0, _ => by rw [List.take_zero]; exact FitAll.nil.mono (Nat.zero_le _) (Nat.le_refl _)
  | [], i + 1, a => a
  | d :: ds, i + 1, a => by
    have w := a.w
    have kk := a.k
    have ss := a.s
    simp only [wts] at w
    simp only [PyData.depthAll] at kk
    simp only [PyData.showableAll, Bool.and_eq_true] at ss
    have r : FitAll (wts ds) k (ds.take i) := FitAll.take i ⟨Nat.le_refl _, Nat.le_trans (Nat.le_max_right _ _) kk, ss.2⟩
    exact (FitAll.cons (n := wt d) ⟨Nat.le_refl _, Nat.le_trans (Nat.le_max_left _ _) kk, ss.1⟩ r).mono (by omega) (Nat.le_refl _)
theorem FitAll.drop {n k : Nat} : ∀ {ds : List PyData} (i : Nat), FitAll n k ds → FitAll n k (ds.drop i)
  | ds, 0, a => a
  | [], i + 1, a => a
  | d :: ds, i + 1, a => by
    have w := a.w
    have kk := a.k
    have ss := a.s
    simp only [wts] at w
    simp only [PyData.depthAll] at kk
    simp only [PyData.showableAll, Bool.and_eq_true] at ss
    have r : FitAll (wts ds) k (ds.drop i) := FitAll.drop i ⟨Nat.le_refl _, Nat.le_trans (Nat.le_max_right _ _) kk, ss.2⟩
    exact r.mono (by omega) (Nat.le_refl _)
theorem FitAll.mem {n k : Nat} {d : PyData} : ∀ {ds : List PyData}, FitAll n k ds → d ∈ ds → Fit n k d
  | e :: ds, a, h => by
    have w := a.w
    have kk := a.k
    have ss := a.s
    simp only [wts] at w
    simp only [PyData.depthAll] at kk
    simp only [PyData.showableAll, Bool.and_eq_true] at ss
    rcases List.mem_cons.mp h with rfl | h
    · exact ⟨by omega, Nat.le_trans (Nat.le_max_left _ _) kk, ss.1⟩
    · exact FitAll.mem (ds := ds) ⟨by omega, Nat.le_trans (Nat.le_max_right _ _) kk, ss.2⟩ h
theorem Fit.all {n k : Nat} {ds : List PyData} (h : Fit n k (.tuple ds)) : FitAll n k ds ∧ PyData.depthAll ds + 1 ≤ k := by
  have w := h.w
  have kk := h.k
  have ss := h.s
  simp only [wt] at w
  simp only [PyData.depth] at kk
  simp only [PyData.showable] at ss
  exact ⟨⟨by omega, by omega, ss⟩, kk⟩
theorem fit_int {i : Int} {n : Nat} (h : i.natAbs < 10 ^ 41) (hn : 42 ≤ n) {k : Nat} : Fit n k (.int i) := by
  have e := int_text_length_le10 (k := 41) (by decide) h
  have l : wt (.int i) = (toString i).length := by simp only [wt, PyData.shown]; exact ofString_length _
  refine ⟨by rw [l]; omega, by simp only [PyData.depth]; exact Nat.zero_le _, ?_⟩
  simp only [PyData.showable, decide_eq_true_eq]
  have h2 : i.natAbs < 2 ^ 1920 := Nat.lt_trans h (by decide +kernel)
  by_cases z : i.natAbs = 0
  · rw [z]; decide
  · exact (Nat.log2_lt z).mpr h2
theorem fit_non {n k : Nat} (h : 5 ≤ n) : Fit n k .none := ⟨by simp only [wt]; omega, by simp only [PyData.depth]; exact Nat.zero_le _, by simp only [PyData.showable]⟩
theorem fit_bl {n k : Nat} {b : Bool} (h : 5 ≤ n) : Fit n k (.bool b) := ⟨by simp only [wt]; omega, by simp only [PyData.depth]; exact Nat.zero_le _, by simp only [PyData.showable]⟩
theorem fit_dic {n k : Nat} (h : 2 ≤ n) (hk : 1 ≤ k) : Fit n k (.dict []) := ⟨by simp only [wt]; omega, by simp only [PyData.depth, PyData.depthKv]; omega, by simp only [PyData.showable, PyData.showableKv]⟩
theorem fit_str {n k m : Nat} {x : Str} (e : (PyData.str x).shown.length ≤ m) (h : m ≤ n) : Fit n k (.str x) := ⟨by simp only [wt]; omega, by simp only [PyData.depth]; exact Nat.zero_le _, by simp only [PyData.showable]⟩
theorem fit_mach {l n : Nat} {md : PyData} (h : IsMach l n md) (hl : l ≤ 4) (hn : n ≤ 400) : Fit (188 * n + 60) 3 md := by
  obtain ⟨rs, bs, rfl, h1, h2, h3⟩ := h
  have row : ∀ xs : List PyData, (∀ x ∈ xs, x = .none ∨ ∃ i : Int, x = .int i ∧ 0 ≤ i ∧ i < n) → FitAll (44 * xs.length) 0 xs := by
    intro xs
    induction xs with
    | nil => intro _; exact FitAll.nil
    | cons x xs ih =>
      intro hx
      have a : Fit 42 0 x := by
        rcases hx x List.mem_cons_self with rfl | ⟨i, rfl, i0, i1⟩
        · exact fit_non (by decide)
        · exact fit_int (by have : i.natAbs < 400 := by omega
                            omega) (by decide)
      exact (FitAll.cons a (ih fun y hy => hx y (List.mem_cons_of_mem _ hy))).mono (by rw [List.length_cons]; omega) (Nat.le_refl _)
  have rows : ∀ rs : List PyData, (∀ r ∈ rs, IsRow l n r) → FitAll (181 * rs.length) 1 rs := by
    intro rs
    induction rs with
    | nil => intro _; exact FitAll.nil
    | cons r rs ih =>
      intro hr
      obtain ⟨xs, rfl, x1, x2⟩ := hr r List.mem_cons_self
      have a := Fit.tup (row xs x2)
      exact (FitAll.cons a (ih fun y hy => hr y (List.mem_cons_of_mem _ hy))).mono (by rw [List.length_cons, x1]; omega) (Nat.le_refl _)
  have bools : ∀ bs : List Bool, FitAll (7 * bs.length) 1 (bs.map PyData.bool) := by
    intro bs
    induction bs with
    | nil => exact FitAll.nil
    | cons b bs ih => exact (FitAll.cons (n := 5) (fit_bl (by decide)) ih).mono (by rw [List.length_cons]; omega) (Nat.le_refl _)
  have r1 := rows rs h3
  rw [h1] at r1
  have r2 := bools bs
  rw [h2] at r2
  have il : (l : Int).natAbs < 10 ^ 41 := Nat.lt_of_lt_of_le (show (l : Int).natAbs < 5 by omega) (by decide +kernel)
  exact (Fit.tup (FitAll.cons (fit_int (n := 42) il (by decide)) (FitAll.cons (Fit.tup r1) (FitAll.cons (Fit.tup r2) FitAll.nil)))).mono (by omega) (Nat.le_refl _)

/-! ### slices and sums of tuples, one way each -/
def rSlD : V → Option Int → Option Int → Hp → VK → Prop := fun x lo hi H Q => ∃ (a : Addr) (xs : List V), x = .ref a ∧ H a = some (.tup xs) ∧ ∀ (b : Addr) (G : Hp), Same H G → G b = some (.tup (cutV xs lo hi)) → Q (.ref b) G
theorem cut_whole {xs : List V} {lo hi : Option Int} (h : HT.sIx xs.length 0 lo = 0 ∧ HT.sIx xs.length xs.length hi = xs.length) : cutV xs lo hi = xs := by
  unfold cutV
  rw [h.1, h.2, List.drop_zero, Nat.sub_zero, List.take_length]
theorem sl_tupD {X : Cx} : SlR X rSlD := by
  intro pins s σ H x v vl vu lo hi sl Q I rx hs pl pu h
  obtain ⟨a, xs, rfl, ha, q⟩ := h
  exact sl_tupA pins s σ H _ v vl vu lo hi sl Q I rx hs pl pu ⟨a, xs, rfl, .inl (.inl ha), fun hw => q a H (Same.refl H) (by rw [cut_whole hw]; exact ha), fun _ p np => q p _ (same_new np _) upd_same⟩
def rCatD : R2 := fun x y H Q => ∃ (a b : Addr) (xs ys : List V), x = .ref a ∧ y = .ref b ∧ H a = some (.tup xs) ∧ H b = some (.tup ys) ∧ xs.length + ys.length ≤ sizeLine ∧ ∀ (p : Addr) (G : Hp), Same H G → G p = some (.tup (xs ++ ys)) → Q (.ref p) G
theorem op_catD {X : Cx} : OpR X (binaryOp .Add) rCatD := by
  intro pins s σ H x y v u Q I rx ry h
  obtain ⟨a, b, xs, ys, rfl, rfl, ha, hb, hz, q⟩ := h
  refine op_catA pins s σ H _ _ v u Q I rx ry ⟨a, b, xs, ys, rfl, rfl, .inl (.inl ha), .inl (.inl hb), hz, fun e => ?_, fun _ e => ?_, fun _ _ p np => q p _ (same_new np _) upd_same⟩
  · subst e; exact q b H (Same.refl H) hb
  · subst e; exact q a H (Same.refl H) (by rw [List.append_nil]; exact ha)
theorem cut_dt {K : PySem.W.Frag} {H : Hp} {vs : List V} {ds : List PyData} (lo hi : Option Int) (h : DtAll K H vs ds) : ∃ es, DtAll K H (cutV vs lo hi) es ∧ ∀ n k, FitAll n k ds → FitAll n k es :=
  ⟨_, (h.drop _).take _, fun _ _ f => (f.drop _).take _⟩
theorem Deck.tup {H : Hp} {d c b : Addr} {m : Nat} {xs : List V} (D : Deck H d c m) (h : H b = some (.tup xs)) : Hd d c H b = some (.tup xs) := by
  obtain ⟨L, n, h1, h2, _⟩ := D.ex
  exact hd_of h (ne_of h h1 fun z => nomatch z) (ne_of h h2 fun z => nomatch z)

/-- where the top has left a def -/
structure DF (K : PySem.W.Frag) (x : Str) (st : Stmt) (f : Addr) (fd : FuncData) : Prop where
  ns : PySem.W.nsIn K mainGlobals x = some (some (.ref f))
  fn : Fun K x x st f fd
theorem df {K : PySem.W.Frag} {x : Str} {st : Stmt} {f : Addr} {oc : Value} {od an : Option Addr} {osl : Array (Option Value)} {kV doc pm cdv ct : Value} (a : PySem.W.nsIn K mainGlobals x = some (some (.ref f)))
    (l : K.lookup f = some ⟨oc, od, .func (PySem.W.fnOf x x (defArgs st) (defBody st) (defScope st) .none kV doc pm an cdv ct), osl⟩) (c : PySem.W.codeIn K cdv x = true) (k : PySem.W.keepIn K (.ref f) = true) :
    DF K x st f (PySem.W.fnOf x x (defArgs st) (defBody st) (defScope st) .none kV doc pm an cdv ct) := ⟨a, fun_mk l c k⟩
/-- the names that the deck's defs use -/
structure TxC (mg : Str → Option Value) : Prop where
  int : mg "int" = none
  tuple : mg "tuple" = none
  len : mg "len" = none
  abs : mg "abs" = none
  range : mg "range" = none
end KC
/-! Own layer: zip of two or three, enumerate, over lists, tuples and texts in any mix; what is walked stands still. -/
namespace GZ
open PySem PySem.Spec PyProof.Rows L2

/-- the kinds of what is walked -/
inductive Kd where
  | lst
  | tup
  | str
def sgs (z : Str) : List V := z.cps.toList.map fun c => V.str ⟨#[c]⟩
/-- v is a list, a tuple, a text of the items xs -/
def Src (K : PySem.W.Frag) (H : Hp) : Kd → V → List V → Prop
  | .lst, v, xs => ∃ a, v = .ref a ∧ SqL K H a xs
  | .tup, v, xs => ∃ a, v = .ref a ∧ SqT K H a xs
  | .str, v, xs => ∃ z, v = .str z ∧ xs = sgs z
/-- the iterator at it, ahead of the item i -/
def StI (h : Heap) : Kd → V → Addr → Nat → Prop
  | .lst, v, it, i => ∃ a, v = .ref a ∧ h.IsListIter it a i
  | .tup, v, it, i => ∃ a, v = .ref a ∧ h.IsTupleIter it a i
  | .str, v, it, i => ∃ z t, v = .str z ∧ h.IsStrIter it (strIterType z) z t i
theorem StI.keep {h h' : Heap} {k : Kd} {v : V} {it : Addr} {i : Nat} (st : StI h k v it i) (q : ∀ o, h.get? it = some o → h'.get? it = some o) : StI h' k v it i := by
  cases k with
  | lst => obtain ⟨a, e, s⟩ := st; exact ⟨a, e, s.at q⟩
  | tup => obtain ⟨a, e, s⟩ := st; exact ⟨a, e, s.at q⟩
  | str => obtain ⟨z, t, e, o, ho, r⟩ := st; exact ⟨z, t, e, o, q o ho, r⟩
theorem StI.obj {h : Heap} {k : Kd} {v : V} {it : Addr} {i : Nat} (st : StI h k v it i) : ∃ o, h.get? it = some o ∧ ∀ v, o.data ≠ .cell v := by
  cases k with
  | lst => obtain ⟨a, e, o, ho, _, d⟩ := st; exact ⟨o, ho, fun v z => by rw [d] at z; cases z⟩
  | tup => obtain ⟨a, e, o, ho, _, d⟩ := st; exact ⟨o, ho, fun v z => by rw [d] at z; cases z⟩
  | str => obtain ⟨z, t, e, o, ho, _, d⟩ := st; exact ⟨o, ho, fun v z => by rw [d] at z; cases z⟩
theorem vals_back {xs : List V} {us : List Value} (r : Vals xs us) {j : Nat} {u : Value} (h : us[j]? = some u) : ∃ y, xs[j]? = some y ∧ RelV y u := by
  have l := r.length
  have jl : j < us.length := (List.getElem?_eq_some_iff.mp h).1
  obtain ⟨y, hy⟩ : ∃ y, xs[j]? = some y := ⟨_, List.getElem?_eq_getElem (by omega)⟩
  obtain ⟨u', h1, h2⟩ := r.get hy
  rw [h] at h1
  cases h1
  exact ⟨y, hy, h2⟩
section
variable {X : Cx} {pins : List (Addr × Obj)} {σ : L2.St} {H : Hp} {s : Shared}
/-- what its iterator draws -/
theorem src_draws (I : Inv X pins σ H s) (hc : X.calm = true) {k : Kd} {v : V} {xs : List V} {it : Addr} {i : Nat} (h : Src X.K H k v xs) (st : StI s.heap k v it i) (ne : ∀ a, v = .ref a → a ≠ it) :
    ∃ (fp : List Addr) (P : Nat → Value → Prop) (St : Nat → Heap → Prop), Draws X.prog X.w X.A.in1 it fp xs.length P St ∧ St i s.heap ∧ it ∈ fp ∧ (∀ b ∈ fp, b = it ∨ v = .ref b) ∧
      (∀ j x, P j x → ∃ y, xs[j]? = some y ∧ RelV y x) ∧ ∀ j h', St j h' → StI h' k v it j := by
  have hh : X.A.in1.handled = none := I.ok.hd hc
  cases k with
  | lst =>
    obtain ⟨a, rfl, hq⟩ := h
    obtain ⟨a', e, st⟩ := st
    cases e
    obtain ⟨its, rv, p, hz⟩ := I.list hq
    have D := Draws.list (prog := X.prog) (w := X.w) (A := X.A.in1) hh it a (ne a rfl) its.toArray
    rw [show its.toArray.size = xs.length by rw [List.size_toArray, rv.length]] at D
    exact ⟨_, _, _, D, ⟨st, p.isList⟩, List.mem_cons_self, fun b hb => by simpa [eq_comm] using hb, fun j x hx => vals_back rv (by simpa using hx), fun j h' q => ⟨a, rfl, q.1⟩⟩
  | tup =>
    obtain ⟨a, rfl, hq⟩ := h
    obtain ⟨a', e, st⟩ := st
    cases e
    obtain ⟨its, rv, p, hz⟩ := I.tuple hq
    have D := Draws.tuple (prog := X.prog) (w := X.w) (A := X.A.in1) hh it a (ne a rfl) its.toArray
    rw [show its.toArray.size = xs.length by rw [List.size_toArray, rv.length]] at D
    exact ⟨_, _, _, D, ⟨st, p⟩, List.mem_cons_self, fun b hb => by simpa [eq_comm] using hb, fun j x hx => vals_back rv (by simpa using hx), fun j h' q => ⟨a, rfl, q.1⟩⟩
  | str =>
    obtain ⟨z, rfl, rfl⟩ := h
    obtain ⟨z', t, e, st⟩ := st
    cases e
    have D := Draws.text (prog := X.prog) (w := X.w) (A := X.A.in1) hh it z t
    rw [show z.cps.size = (sgs z).length by unfold sgs; rw [List.length_map, Array.length_toList]] at D
    refine ⟨_, _, _, D, st, List.mem_cons_self, fun b hb => .inl (by simpa using hb), ?_, fun j h' q => ⟨z, t, rfl, q⟩⟩
    rintro j x ⟨c, u, h1, rfl⟩
    refine ⟨.str ⟨#[c]⟩, ?_, ⟨u, rfl⟩⟩
    unfold sgs
    rw [List.getElem?_map, Array.getElem?_toList, h1]
    rfl
/-- how its iterator begins -/
theorem src_begins (I : Inv X pins σ H s) {k : Kd} {v : V} {u : Value} {xs : List V} (h : Src X.K H k v xs) (r : RelV v u) :
    ∃ (o : Obj) (Hb : Heap → Prop), Begins u o Hb ∧ Hb s.heap ∧ (∀ (it : Addr) (h' : Heap), h'.get? it = some o → StI h' k v it 0) ∧ ∀ a, v = .ref a → a < s.heap.objs.size := by
  cases k with
  | lst =>
    obtain ⟨a, rfl, hq⟩ := h
    cases r
    obtain ⟨its, rv, p, hz⟩ := I.list hq
    exact ⟨_, _, begins_list a its.toArray, p.isList, fun it h' e => ⟨a, rfl, _, e, rfl, rfl⟩, fun b e => by cases e; exact p.lt⟩
  | tup =>
    obtain ⟨a, rfl, hq⟩ := h
    cases r
    obtain ⟨its, rv, p, hz⟩ := I.tuple hq
    have la : a < s.heap.objs.size := by
      obtain ⟨o, ho, _⟩ := id p
      exact Heap.lt_size ho
    exact ⟨_, _, begins_tuple a its.toArray, p, fun it h' e => ⟨a, rfl, _, e, rfl, rfl⟩, fun b e => by cases e; exact la⟩
  | str =>
    obtain ⟨z, rfl, rfl⟩ := h
    obtain ⟨t, rfl⟩ := r
    exact ⟨_, _, begins_text z t, trivial, fun it h' e => ⟨z, t, rfl, _, e, rfl, rfl⟩, fun b e => nomatch e⟩
end

theorem out5 {n a : Nat} (h : a < n) : a ∉ [n + 4, n + 2, n + 3, n, n + 1] := by
  simp only [List.mem_cons, List.not_mem_nil, or_false]
  omega
theorem le5 {n a : Nat} (h : a ∈ [n + 4, n + 2, n + 3, n, n + 1]) : n ≤ a := by
  simp only [List.mem_cons, List.not_mem_nil, or_false] at h
  omega
theorem out6 {n a : Nat} (h : a < n) : a ∉ [n + 5, n + 3, n + 4, n, n + 1, n + 2] := by
  simp only [List.mem_cons, List.not_mem_nil, or_false]
  omega
theorem le6 {n a : Nat} (h : a ∈ [n + 5, n + 3, n + 4, n, n + 1, n + 2]) : n ≤ a := by
  simp only [List.mem_cons, List.not_mem_nil, or_false] at h
  omega
theorem out2 {n a : Nat} (h : a < n) : a ∉ [n + 1, n] := by
  simp only [List.mem_cons, List.not_mem_nil, or_false]
  omega
theorem le2 {n a : Nat} (h : a ∈ [n + 1, n]) : n ≤ a := by
  simp only [List.mem_cons, List.not_mem_nil, or_false] at h
  omega
/-- n turns while G stands; turn i gives a new tuple of what stands in row i -/
def ItN (n : Nat) (G : Hp → Prop) (row : Nat → Option (List V)) : It :=
  ⟨fun i H => G H ∧ i < n, fun i H v H' => ∃ T xs, v = .ref T ∧ H T = none ∧ H' = upd H T (.tup xs) ∧ row i = some xs, fun i H => G H ∧ i = n⟩
theorem walk_N {n : Nat} {G : Hp → Prop} {row : Nat → Option (List V)} : Walk (ItN n G row) n G (fun i H v H' => ∃ T xs, v = .ref T ∧ H T = none ∧ H' = upd H T (.tup xs) ∧ row i = some xs) :=
  ⟨fun _ _ hi q => ⟨q, hi⟩, fun _ q => ⟨q, rfl⟩, fun _ _ _ _ _ _ y => y⟩
/-- such an iterator by the library's walks of tuples -/
theorem turn_N {P : Program} {w : World} {K : PySem.W.Frag} {elts : List Expr} {kk : Nat} {tpos : Pos} {n : Nat} {G : Hp → Prop} {row : Nat → Option (List V)} {fp : List Addr} {z : Addr} {tn : Nat → Heap → Prop} (mem : z ∈ fp)
    (obj : ∀ i h, tn i h → ∀ b ∈ fp, ∃ o, h.get? b = some o ∧ ∀ v, o.data ≠ .cell v) (keep : ∀ i h h', tn i h → (∀ b ∈ fp, ∀ o, h.get? b = some o → h'.get? b = some o) → tn i h')
    (self : ∀ (A : Around) (i : Nat) (s : Shared) (Q : Value → Shared → Prop) (E : Value → Shared → Prop), tn i s.heap → Q (.ref z) s → wpAny (model P w) A (pyIter (.ref z)) Q E s)
    (W : ∀ (X : Cx), X.prog = P → X.w = w → X.K = K → X.calm = true → ∀ (i : Nat) (pins : List (Addr × Obj)) (s : Shared) (σ : L2.St) (H : Hp), Inv X pins σ H s → G H → tn i s.heap →
      ∃ (fpW wr : List Addr) (Pt : Nat → Array Value → Prop) (St : Nat → Heap → Prop) (Mid : Nat → Addr → Heap → Prop), WalksT P w X.A z fpW wr n Pt St Mid ∧ St i s.heap ∧ (∀ b ∈ wr, b ∈ fp) ∧ (∀ j h, St j h → tn j h) ∧
        ∀ j vals, Pt j vals → ∃ xs, row j = some xs ∧ Vals xs vals.toList ∧ xs.length ≤ sizeLine) : Turn P w K (.Tuple elts kk tpos) (ItN n G row) fp z tn where
  mem := mem
  obj := obj
  keep := keep
  self := self
  item := by
    intro X hP hw hK hc i pins s σ H E I hf st hg
    obtain ⟨hG, hi⟩ := hg
    obtain ⟨fpW, wr, Pt, St, Mid, Wk, st0, hwr, hst, hpt⟩ := W X hP hw hK hc i pins s σ H I hG st
    subst hP hw hK
    refine Wk.item i s _ _ hi st0 fun T vals h' tk hP hT hTup mid hk => ⟨_, rfl, Wk.go elts kk tpos i T { s with heap := h', toks := tk } _ _ mid fun h'' st'' hk'' => ?_⟩
    obtain ⟨xs, hr, hv, hl⟩ := hpt i vals hP
    have hap := Wk.apart i T h' mid
    obtain ⟨o, ho, hcl, nn, hd⟩ := hTup
    have new : ObjOk X.prog X.w (upd H T (.tup xs)) h'' T (.tup xs) := ⟨hl, vals.toList, hv, ⟨o, hk'' T o hap ho, hcl, nn, by simpa using hd⟩⟩
    have I1 : Inv X pins σ (upd H T (.tup xs)) { s with heap := h'', toks := tk } :=
      I.turnedNew (ch := fp) (fun b ob hb q => hk'' b ob (fun z => hb (hwr b z)) (hk b ob (fun z => hb (hwr b z)) q)) hf hT new
    refine ⟨.ref T, _, I1, rfl, ⟨T, xs, rfl, I.hok.fresh hT, rfl, hr⟩, hst _ _ st'', fun b hb => ?_⟩
    obtain ⟨ob, hob, _⟩ := obj i s.heap st b hb
    have hlt : b < s.heap.objs.size := Heap.lt_size hob
    rw [upd_ne (Nat.ne_of_lt (Nat.lt_of_lt_of_le hlt hT))]
    exact (hf b hb).1
  done := by
    intro X hP hw hK hc i pins s σ H E I hf st hg
    obtain ⟨hG, hi⟩ := hg
    obtain ⟨fpW, wr, Pt, St, Mid, Wk, st0, hwr, hst, hpt⟩ := W X hP hw hK hc i pins s σ H I hG st
    subst hP hw hK hi
    exact Wk.done s _ _ st0 fun h' tk hk => ⟨rfl, I.turnedL (t' := tk) (ch := fp) (fun b ob hb q => hk b ob (fun z => hb (hwr b z)) q) hf⟩

/-! ### zip of two -/
def row2 (xs ys : List V) (i : Nat) : Option (List V) := match xs[i]?, ys[i]? with
  | some x, some y => some [x, y]
  | _, _ => none
theorem row2_of {xs ys : List V} {i : Nat} {r : List V} (h : row2 xs ys i = some r) : ∃ x y, xs[i]? = some x ∧ ys[i]? = some y ∧ r = [x, y] := by
  unfold row2 at h
  split at h
  · rename_i x y h1 h2
    cases h
    exact ⟨x, y, h1, h2, rfl⟩
  · cases h
def It2 (K : PySem.W.Frag) (k1 : Kd) (v1 : V) (xs : List V) (k2 : Kd) (v2 : V) (ys : List V) : It := ItN (min xs.length ys.length) (fun H => Src K H k1 v1 xs ∧ Src K H k2 v2 ys) (row2 xs ys)
theorem turn_z2 {P : Program} {w : World} {K : PySem.W.Frag} {elts : List Expr} {kk : Nat} {tpos : Pos} {k1 k2 : Kd} {v1 v2 : V} {xs ys : List V} {z TI TO i1 i2 : Addr} (nd : [z, TI, TO, i1, i2].Nodup) (a1 : ∀ a, v1 = .ref a → a ∉ [z, TI, TO, i1, i2]) (a2 : ∀ a, v2 = .ref a → a ∉ [z, TI, TO, i1, i2]) :
    Turn P w K (.Tuple elts kk tpos) (It2 K k1 v1 xs k2 v2 ys) [z, TI, TO, i1, i2] z (fun i h => IsZip h z TI TO .none ∧ IsTupOf2 h TI (.ref i1) (.ref i2) ∧ (∃ x y, IsTupOf2 h TO x y) ∧ StI h k1 v1 i1 i ∧ StI h k2 v2 i2 i) := by
  refine turn_N (by simp) (fun i h st c hc => ?_) (fun i h h' st k => ?_) (fun A i s Q E st q => wpAny_pyIter_zip st.1 q) (fun X hP hw hK hc i pins s σ H I hG st => ?_)
  · obtain ⟨hz, hTI, ⟨x, y, hTO⟩, s1, s2⟩ := st
    have e' : c = z ∨ c = TI ∨ c = TO ∨ c = i1 ∨ c = i2 := by simpa using hc
    rcases e' with q | q | q | q | q
    · rw [q]; exact ⟨_, hz, fun v q => nomatch q⟩
    · rw [q]; exact ⟨_, hTI, fun v q => nomatch q⟩
    · rw [q]; exact ⟨_, hTO, fun v q => nomatch q⟩
    · rw [q]; exact s1.obj
    · rw [q]; exact s2.obj
  · obtain ⟨hz, hTI, ⟨x, y, hTO⟩, s1, s2⟩ := st
    exact ⟨k z (by simp) _ hz, k TI (by simp) _ hTI, ⟨x, y, k TO (by simp) _ hTO⟩, s1.keep fun o q => k i1 (by simp) o q, s2.keep fun o q => k i2 (by simp) o q⟩
  · subst hP hw hK
    obtain ⟨hz, hTI, ⟨x, y, hTO⟩, s1, s2⟩ := st
    simp only [List.nodup_cons, List.mem_cons, List.not_mem_nil, or_false, not_or, not_false_eq_true, List.nodup_nil, and_true] at nd
    simp only [List.mem_cons, List.not_mem_nil, or_false, not_or] at a1 a2
    obtain ⟨⟨n1, n2, n3, n4⟩, ⟨n5, n6, n7⟩, ⟨n8, n9⟩, n10⟩ := nd
    obtain ⟨f1, P1, S1, D1, t1, m1, g1, p1, q1⟩ := src_draws I hc hG.1 s1 (fun a e => (a1 a e).2.2.2.1)
    obtain ⟨f2, P2, S2, D2, t2, m2, g2, p2, q2⟩ := src_draws I hc hG.2 s2 (fun a e => (a2 a e).2.2.2.2)
    have out1 : ∀ b, b ≠ i1 → (b = z ∨ b = TO ∨ b = i2) → b ∉ f1 := fun b ne hb hm => by
      rcases g1 b hm with e | e
      · exact ne e
      · rcases hb with rfl | rfl | rfl
        · exact (a1 _ e).1 rfl
        · exact (a1 _ e).2.2.1 rfl
        · exact (a1 _ e).2.2.2.2 rfl
    have out2 : ∀ b, b ≠ i2 → (b = z ∨ b = TO ∨ b = i1) → b ∉ f2 := fun b ne hb hm => by
      rcases g2 b hm with e | e
      · exact ne e
      · rcases hb with rfl | rfl | rfl
        · exact (a2 _ e).1 rfl
        · exact (a2 _ e).2.2.1 rfl
        · exact (a2 _ e).2.2.2.1 rfl
    have S : ZipSep2 z TI TO i1 i2 f1 f2 := ⟨Ne.symm n1, Ne.symm n2, n5, n6, m1, out1 z n3 (.inl rfl), out1 TO n8 (.inr (.inl rfl)), n7, m2, out2 z n4 (.inl rfl), out2 TO n9 (.inr (.inl rfl)), out2 i1 n10 (.inr (.inr rfl)), out1 i2 (Ne.symm n10) (.inr (.inr rfl))⟩
    refine ⟨_, _, _, _, _, WalksT.zipD2 S D1 D2, ⟨hz, hTI, ⟨x, y, hTO⟩, t1, t2⟩, fun b hb => ?_, fun j h st => ⟨st.1, st.2.1, st.2.2.1, q1 _ _ st.2.2.2.1, q2 _ _ st.2.2.2.2⟩, ?_⟩
    · simp only [List.mem_cons, List.not_mem_nil, or_false] at hb ⊢
      rcases hb with e | e | e | e
      · exact .inl e
      · exact .inr (.inr (.inl e))
      · exact .inr (.inr (.inr (.inl e)))
      · exact .inr (.inr (.inr (.inr e)))
    · rintro j vals ⟨u1, u2, h1, h2, rfl⟩
      obtain ⟨y1, e1, r1⟩ := p1 j u1 h1
      obtain ⟨y2, e2, r2⟩ := p2 j u2 h2
      exact ⟨[y1, y2], by unfold row2; rw [e1, e2], .cons r1 (.cons r2 .nil), by show 2 ≤ 2 ^ 24; decide⟩
def iZ2 (K : PySem.W.Frag) (ta : TA) : TI := fun σ H R => ta σ H fun vs H1 => ∃ (v1 v2 : V) (k1 k2 : Kd) (xs ys : List V), vs = [v1, v2] ∧ Src K H1 k1 v1 xs ∧ Src K H1 k2 v2 ys ∧ R (It2 K k1 v1 xs k2 v2 ys) H1
theorem fresh_fp {X : Cx} {pins : List (Addr × Obj)} {σ : L2.St} {H : Hp} {s : Shared} (I : Inv X pins σ H s) {b : Addr} (h : s.heap.objs.size ≤ b) : FpOk X pins H b := I.fpOk h (I.hok.fresh h)
theorem pi_z2 {X : Cx} {e e2 : Expr} {ta : TA} {p pos tpos : Pos} {elts : List Expr} {kk : Nat} (hg : Gl X "zip") (hm : X.mg "zip" = none) (ha : PA X [e, e2] ta)
    (hs : starEach [e, e2] X.env = (false, eval e X.env) :: starEach [e2] X.env := by rfl) (hpl : (backTo pos (starEach [e2] X.env)).any (·.1) = false := by rfl) :
    PI X (.Tuple elts kk tpos) (.Call (.Name "zip" p) [e, e2] [] pos) (iZ2 X.K ta) := by
  refine ⟨fun pins s σ H R I h => ?_⟩
  refine Call_ (ld_blt I hg hm PyProof.Rows.boot_zip (PyProof.Rows.callWith_type1 (thn (ha.run pos pins s σ H _ I h) fun us s1 ⟨vs, H1, I1, r1, q1⟩ => ?_) hs hpl))
  obtain ⟨v1, v2, k1, k2, xs, ys, ex, hx, hy, q⟩ := q1
  subst ex
  cases r1 with
  | cons r rr =>
    cases rr with
    | cons r' rr =>
      cases rr
      obtain ⟨o1, B1, b1, c1, d1, l1⟩ := src_begins I1 hx r
      obtain ⟨o2, B2, b2, c2, d2, l2⟩ := src_begins I1 hy r'
      refine zip_begins2 b1 b2 c1 c2 fun h' hz hTI hTO g1 g2 hsz hk => wpAny_pyIter_zip hz ?_
      have I2 : Inv X pins σ H1 { s1 with heap := h' } := I1.kept (t' := s1.toks) hk
      have nd : [s1.heap.objs.size + 4, s1.heap.objs.size + 2, s1.heap.objs.size + 3, s1.heap.objs.size, s1.heap.objs.size + 1].Nodup := by simp
      refine ⟨s1.heap.objs.size + 4, [s1.heap.objs.size + 4, s1.heap.objs.size + 2, s1.heap.objs.size + 3, s1.heap.objs.size, s1.heap.objs.size + 1], _, _, H1, rfl, I2, turn_z2 nd (fun a e => out5 (l1 a e)) (fun a e => out5 (l2 a e)), ⟨hz, hTI, ⟨_, _, hTO⟩, d1 _ _ g1, d2 _ _ g2⟩, fun c hcm => fresh_fp I1 (le5 hcm), q⟩

/-! ### zip of three -/
def row3 (xs ys zs : List V) (i : Nat) : Option (List V) := match xs[i]?, ys[i]?, zs[i]? with
  | some x, some y, some z => some [x, y, z]
  | _, _, _ => none
theorem row3_of {xs ys zs : List V} {i : Nat} {r : List V} (h : row3 xs ys zs i = some r) : ∃ x y z, xs[i]? = some x ∧ ys[i]? = some y ∧ zs[i]? = some z ∧ r = [x, y, z] := by
  unfold row3 at h
  split at h
  · rename_i x y z h1 h2 h3
    cases h
    exact ⟨x, y, z, h1, h2, h3, rfl⟩
  · cases h
def It3 (K : PySem.W.Frag) (k1 : Kd) (v1 : V) (xs : List V) (k2 : Kd) (v2 : V) (ys : List V) (k3 : Kd) (v3 : V) (zs : List V) : It :=
  ItN (min (min xs.length ys.length) zs.length) (fun H => Src K H k1 v1 xs ∧ Src K H k2 v2 ys ∧ Src K H k3 v3 zs) (row3 xs ys zs)
theorem turn_z3 {P : Program} {w : World} {K : PySem.W.Frag} {elts : List Expr} {kk : Nat} {tpos : Pos} {k1 k2 k3 : Kd} {v1 v2 v3 : V} {xs ys zs : List V} {z TI TO i1 i2 i3 : Addr} (nd : [z, TI, TO, i1, i2, i3].Nodup) (a1 : ∀ a, v1 = .ref a → a ∉ [z, TI, TO, i1, i2, i3])
    (a2 : ∀ a, v2 = .ref a → a ∉ [z, TI, TO, i1, i2, i3]) (a3 : ∀ a, v3 = .ref a → a ∉ [z, TI, TO, i1, i2, i3]) :
    Turn P w K (.Tuple elts kk tpos) (It3 K k1 v1 xs k2 v2 ys k3 v3 zs) [z, TI, TO, i1, i2, i3] z (fun i h => IsZip h z TI TO .none ∧ IsTupOf3 h TI (.ref i1) (.ref i2) (.ref i3) ∧ (∃ x y u, IsTupOf3 h TO x y u) ∧ StI h k1 v1 i1 i ∧ StI h k2 v2 i2 i ∧ StI h k3 v3 i3 i) := by
  refine turn_N (by simp) (fun i h st c hc => ?_) (fun i h h' st k => ?_) (fun A i s Q E st q => wpAny_pyIter_zip st.1 q) (fun X hP hw hK hc i pins s σ H I hG st => ?_)
  · obtain ⟨hz, hTI, ⟨x, y, u, hTO⟩, s1, s2, s3⟩ := st
    have e' : c = z ∨ c = TI ∨ c = TO ∨ c = i1 ∨ c = i2 ∨ c = i3 := by simpa using hc
    rcases e' with q | q | q | q | q | q
    · rw [q]; exact ⟨_, hz, fun v q => nomatch q⟩
    · rw [q]; exact ⟨_, hTI, fun v q => nomatch q⟩
    · rw [q]; exact ⟨_, hTO, fun v q => nomatch q⟩
    · rw [q]; exact s1.obj
    · rw [q]; exact s2.obj
    · rw [q]; exact s3.obj
  · obtain ⟨hz, hTI, ⟨x, y, u, hTO⟩, s1, s2, s3⟩ := st
    exact ⟨k z (by simp) _ hz, k TI (by simp) _ hTI, ⟨x, y, u, k TO (by simp) _ hTO⟩, s1.keep fun o q => k i1 (by simp) o q, s2.keep fun o q => k i2 (by simp) o q, s3.keep fun o q => k i3 (by simp) o q⟩
  · subst hP hw hK
    obtain ⟨hz, hTI, ⟨x, y, u, hTO⟩, s1, s2, s3⟩ := st
    simp only [List.nodup_cons, List.mem_cons, List.not_mem_nil, or_false, not_or, not_false_eq_true, List.nodup_nil, and_true] at nd
    simp only [List.mem_cons, List.not_mem_nil, or_false, not_or] at a1 a2 a3
    obtain ⟨⟨n1, n2, n3, n4, n5⟩, ⟨n6, n7, n8, n9⟩, ⟨n10, n11, n12⟩, ⟨n13, n14⟩, n15⟩ := nd
    obtain ⟨f1, P1, S1, D1, t1, m1, g1, p1, q1⟩ := src_draws I hc hG.1 s1 (fun a e => (a1 a e).2.2.2.1)
    obtain ⟨f2, P2, S2, D2, t2, m2, g2, p2, q2⟩ := src_draws I hc hG.2.1 s2 (fun a e => (a2 a e).2.2.2.2.1)
    obtain ⟨f3, P3, S3, D3, t3, m3, g3, p3, q3⟩ := src_draws I hc hG.2.2 s3 (fun a e => (a3 a e).2.2.2.2.2)
    have out : ∀ (j b : Addr) (f : List Addr) (v : V), (∀ b ∈ f, b = j ∨ v = .ref b) → (∀ a, v = .ref a → ¬ a = z ∧ ¬ a = TI ∧ ¬ a = TO ∧ ¬ a = i1 ∧ ¬ a = i2 ∧ ¬ a = i3) → b ≠ j → (b = z ∨ b = TO ∨ b = i1 ∨ b = i2 ∨ b = i3) → b ∉ f := fun j b f v g a ne hb hm => by
      rcases g b hm with e | e
      · exact ne e
      · obtain ⟨e1, e2, e3, e4, e5, e6⟩ := a b e
        rcases hb with h | h | h | h | h
        · exact e1 h
        · exact e3 h
        · exact e4 h
        · exact e5 h
        · exact e6 h
    have S : ZipSep3 z TI TO i1 i2 i3 f1 f2 f3 := ⟨Ne.symm n1, Ne.symm n2, n6, n7, m1, out i1 z f1 v1 g1 a1 n3 (by simp), out i1 TO f1 v1 g1 a1 n10 (by simp), n8, m2, out i2 z f2 v2 g2 a2 n4 (by simp), out i2 TO f2 v2 g2 a2 n11 (by simp), n9, m3, out i3 z f3 v3 g3 a3 n5 (by simp), out i3 TO f3 v3 g3 a3 n12 (by simp),
      out i2 i1 f2 v2 g2 a2 n13 (by simp), out i3 i1 f3 v3 g3 a3 n14 (by simp), out i1 i2 f1 v1 g1 a1 (Ne.symm n13) (by simp), out i3 i2 f3 v3 g3 a3 n15 (by simp), out i1 i3 f1 v1 g1 a1 (Ne.symm n14) (by simp), out i2 i3 f2 v2 g2 a2 (Ne.symm n15) (by simp)⟩
    refine ⟨_, _, _, _, _, WalksT.zipD3 S D1 D2 D3, ⟨hz, hTI, ⟨x, y, u, hTO⟩, t1, t2, t3⟩, fun b hb => ?_, fun j h st => ⟨st.1, st.2.1, st.2.2.1, q1 _ _ st.2.2.2.1, q2 _ _ st.2.2.2.2.1, q3 _ _ st.2.2.2.2.2⟩, ?_⟩
    · simp only [List.mem_cons, List.not_mem_nil, or_false] at hb ⊢
      rcases hb with e | e | e | e | e
      · exact .inl e
      · exact .inr (.inr (.inl e))
      · exact .inr (.inr (.inr (.inl e)))
      · exact .inr (.inr (.inr (.inr (.inl e))))
      · exact .inr (.inr (.inr (.inr (.inr e))))
    · rintro j vals ⟨u1, u2, u3, h1, h2, h3, rfl⟩
      obtain ⟨y1, e1, r1⟩ := p1 j u1 h1
      obtain ⟨y2, e2, r2⟩ := p2 j u2 h2
      obtain ⟨y3, e3, r3⟩ := p3 j u3 h3
      exact ⟨[y1, y2, y3], by unfold row3; rw [e1, e2, e3], .cons r1 (.cons r2 (.cons r3 .nil)), by show 3 ≤ 2 ^ 24; decide⟩
def iZ3 (K : PySem.W.Frag) (ta : TA) : TI := fun σ H R => ta σ H fun vs H1 => ∃ (v1 v2 v3 : V) (k1 k2 k3 : Kd) (xs ys zs : List V), vs = [v1, v2, v3] ∧ Src K H1 k1 v1 xs ∧ Src K H1 k2 v2 ys ∧ Src K H1 k3 v3 zs ∧ R (It3 K k1 v1 xs k2 v2 ys k3 v3 zs) H1
theorem pi_z3 {X : Cx} {e e2 e3 : Expr} {ta : TA} {p pos tpos : Pos} {elts : List Expr} {kk : Nat} (hg : Gl X "zip") (hm : X.mg "zip" = none) (ha : PA X [e, e2, e3] ta)
    (hs : starEach [e, e2, e3] X.env = (false, eval e X.env) :: starEach [e2, e3] X.env := by rfl) (hpl : (backTo pos (starEach [e2, e3] X.env)).any (·.1) = false := by rfl) :
    PI X (.Tuple elts kk tpos) (.Call (.Name "zip" p) [e, e2, e3] [] pos) (iZ3 X.K ta) := by
  refine ⟨fun pins s σ H R I h => ?_⟩
  refine Call_ (ld_blt I hg hm PyProof.Rows.boot_zip (PyProof.Rows.callWith_type1 (thn (ha.run pos pins s σ H _ I h) fun us s1 ⟨vs, H1, I1, r1, q1⟩ => ?_) hs hpl))
  obtain ⟨v1, v2, v3, k1, k2, k3, xs, ys, zs, ex, hx, hy, hz0, q⟩ := q1
  subst ex
  cases r1 with
  | cons r rr =>
    cases rr with
    | cons r' rr =>
      cases rr with
      | cons r'' rr =>
        cases rr
        obtain ⟨o1, B1, b1, c1, d1, l1⟩ := src_begins I1 hx r
        obtain ⟨o2, B2, b2, c2, d2, l2⟩ := src_begins I1 hy r'
        obtain ⟨o3, B3, b3, c3, d3, l3⟩ := src_begins I1 hz0 r''
        refine zip_begins3 b1 b2 b3 c1 c2 c3 fun h' hz hTI hTO g1 g2 g3 hsz hk => wpAny_pyIter_zip hz ?_
        have I2 : Inv X pins σ H1 { s1 with heap := h' } := I1.kept (t' := s1.toks) hk
        have nd : [s1.heap.objs.size + 5, s1.heap.objs.size + 3, s1.heap.objs.size + 4, s1.heap.objs.size, s1.heap.objs.size + 1, s1.heap.objs.size + 2].Nodup := by simp
        refine ⟨s1.heap.objs.size + 5, [s1.heap.objs.size + 5, s1.heap.objs.size + 3, s1.heap.objs.size + 4, s1.heap.objs.size, s1.heap.objs.size + 1, s1.heap.objs.size + 2], _, _, H1, rfl, I2, turn_z3 nd (fun a e => out6 (l1 a e)) (fun a e => out6 (l2 a e)) (fun a e => out6 (l3 a e)),
          ⟨hz, hTI, ⟨_, _, _, hTO⟩, d1 _ _ g1, d2 _ _ g2, d3 _ _ g3⟩, fun c hcm => fresh_fp I1 (le6 hcm), q⟩

/-! ### enumerate -/
def rowE (xs : List V) (i : Nat) : Option (List V) := xs[i]?.map fun x => [V.int (i : Nat), x]
theorem rowE_of {xs : List V} {i : Nat} {r : List V} (h : rowE xs i = some r) : ∃ x, xs[i]? = some x ∧ r = [V.int (i : Nat), x] := by
  unfold rowE at h
  cases e : xs[i]? with
  | none => rw [e] at h; cases h
  | some x => rw [e] at h; cases h; exact ⟨x, rfl, rfl⟩
def ItE (K : PySem.W.Frag) (k1 : Kd) (v1 : V) (xs : List V) : It := ItN xs.length (fun H => Src K H k1 v1 xs) (rowE xs)
theorem turn_e {P : Program} {w : World} {K : PySem.W.Frag} {elts : List Expr} {kk : Nat} {tpos : Pos} {k1 : Kd} {v1 : V} {xs : List V} {e it : Addr} (nd : e ≠ it) (a1 : ∀ a, v1 = .ref a → a ∉ [e, it]) :
    Turn P w K (.Tuple elts kk tpos) (ItE K k1 v1 xs) [e, it] e (fun i h => (∃ old, IsEnum h e it (0 + ((i : Nat) : Int)) old) ∧ StI h k1 v1 it i) := by
  refine turn_N (by simp) (fun i h st c hc => ?_) (fun i h h' st k => ?_) (fun A i s Q E st q => let ⟨⟨_, he⟩, _⟩ := st; wpAny_pyIter_enum he q) (fun X hP hw hK hc i pins s σ H I hG st => ?_)
  · obtain ⟨⟨old, he⟩, s1⟩ := st
    have e' : c = e ∨ c = it := by simpa using hc
    rcases e' with q | q
    · rw [q]; exact ⟨_, he, fun v q => nomatch q⟩
    · rw [q]; exact s1.obj
  · obtain ⟨⟨old, he⟩, s1⟩ := st
    exact ⟨⟨old, k e (by simp) _ he⟩, s1.keep fun o q => k it (by simp) o q⟩
  · subst hP hw hK
    obtain ⟨⟨old, he⟩, s1⟩ := st
    simp only [List.mem_cons, List.not_mem_nil, or_false, not_or] at a1
    obtain ⟨f1, P1, S1, D1, t1, m1, g1, p1, q1⟩ := src_draws I hc hG s1 (fun a e => (a1 a e).2)
    have hef : e ∉ f1 := fun hm => by
      rcases g1 e hm with z | z
      · exact nd z
      · exact (a1 _ z).1 rfl
    refine ⟨_, _, _, _, _, WalksT.enumFrom 0 D1 e nd hef m1, ⟨⟨old, he⟩, t1⟩, fun b hb => hb, fun j h st => ⟨st.1, q1 _ _ st.2⟩, ?_⟩
    rintro j vals ⟨t, u1, h1, rfl⟩
    obtain ⟨y1, e1, r1⟩ := p1 j u1 h1
    refine ⟨[.int (j : Nat), y1], by unfold rowE; rw [e1]; rfl, .cons ⟨t, ?_⟩ (.cons r1 .nil), by show 2 ≤ 2 ^ 24; decide⟩
    show Value.int (0 + (j : Int)) t = Value.int (j : Int) t
    rw [Int.zero_add]
set_option maxHeartbeats 4000000 in
theorem meets_enumerate_newB1 {v : Value} {o : Obj} {H : Heap → Prop} (B : Begins v o H) :
    Meets (Builtin.«enumerate.__new__» ⟨[.type "enumerate", v], []⟩) (fun _ R s => H s.heap ∧
      R (.ok (.ret (.ref (s.heap.push o).objs.size))) { s with heap := (s.heap.push o).push { cls := .type "enumerate", data := .fields #[.none, .bool false, .ref s.heap.objs.size, rawInt 0, .none, .none] } }) :=
  .of_wp fun prog w A R s h => by
    obtain ⟨hp, g, d, tk, os⟩ := s; obtain ⟨h1, h⟩ := h
    have hsub := sub_enumerate
    have q1 : ∀ {A' : Around} {E : Value → Shared → Prop} {Q : Value → Shared → Prop}, Q (.ref hp.objs.size) ⟨hp.push o, g, d, tk, os⟩ → wpAny (model prog w) A' (pyIter v) Q E ⟨hp, g, d, tk, os⟩ :=
      fun q => B.iter prog w _ _ ⟨hp, g, d, tk, os⟩ _ h1 q
    wp_walk using q1
    refine wpAny_stack_any fun st => wpAny_pure ?_
    split
    · rename_i c _ _ _ _ _
      cases (c == Value.type "enumerate")
      · wp_walk using q1
        exact ⟨_, rfl, h⟩
      · wp_walk using q1
        exact ⟨_, rfl, h⟩
    · wp_walk using q1
      exact ⟨_, rfl, h⟩
theorem enum_begins1 {prog : Program} {w : World} {A : Around} {E : Value → Shared → Prop} {s : Shared} {v : Value} {o : Obj} {H : Heap → Prop} {Q : Value → Shared → Prop} (B : Begins v o H) (h1 : H s.heap)
    (h : ∀ h', IsEnum h' (s.heap.objs.size + 1) s.heap.objs.size 0 .none → h'.get? s.heap.objs.size = some o → h'.objs.size = s.heap.objs.size + 2 →
      (∀ b o, s.heap.get? b = some o → h'.get? b = some o) → Q (.ref (s.heap.objs.size + 1)) { s with heap := h' }) :
    wpAny (model prog w) A (call (.type "enumerate") [v]) Q E s := by
  refine callType_new F.called_enumerate (by decide) (F.typeCall_enumerate_1 _) (F.newCall_enumerate_1 _) (fun obj => F.args_object_init_2 obj _) F.entry_enumerate_new
    (meets_enumerate_newB1 B) ⟨h1, ?_⟩
  have hz : (s.heap.push o).objs.size = s.heap.objs.size + 1 := Heap.size_push ..
  show _ ∧ _
  rw [hz]
  have he : IsEnum ((s.heap.push o).push { cls := .type "enumerate", data := .fields #[.none, .bool false, .ref s.heap.objs.size, rawInt 0, .none, .none] }) (s.heap.objs.size + 1) s.heap.objs.size 0 .none := by
    have := Heap.get?_push_size (s.heap.push o) (o := { cls := .type "enumerate", data := .fields #[.none, .bool false, .ref s.heap.objs.size, rawInt 0, .none, .none] }) rfl
    rw [hz] at this; exact this
  refine ⟨⟨_, he, rfl⟩, h _ he (Heap.get?_push_of_some _ (Heap.get?_push_size _ B.free)) (by rw [Heap.size_push, hz]) fun b o x => Heap.get?_push_of_some _ (Heap.get?_push_of_some _ x)⟩
def iE (K : PySem.W.Frag) (ta : TA) : TI := fun σ H R => ta σ H fun vs H1 => ∃ (v1 : V) (k1 : Kd) (xs : List V), vs = [v1] ∧ Src K H1 k1 v1 xs ∧ R (ItE K k1 v1 xs) H1
theorem pi_e {X : Cx} {e : Expr} {ta : TA} {p pos tpos : Pos} {elts : List Expr} {kk : Nat} (hg : Gl X "enumerate") (hm : X.mg "enumerate" = none) (ha : PA X [e] ta) (hs : starEach [e] X.env = [(false, eval e X.env)] := by rfl) :
    PI X (.Tuple elts kk tpos) (.Call (.Name "enumerate" p) [e] [] pos) (iE X.K ta) := by
  refine ⟨fun pins s σ H R I h => ?_⟩
  refine Call_ (ld_blt I hg hm boot_enumerate (PyProof.Rows.callWith_type1 (thn (ha.run pos pins s σ H _ I h) fun us s1 ⟨vs, H1, I1, r1, q1⟩ => ?_) hs rfl))
  obtain ⟨v1, k1, xs, ex, hx, q⟩ := q1
  subst ex
  cases r1 with
  | cons r rr =>
    cases rr
    obtain ⟨o1, B1, b1, c1, d1, l1⟩ := src_begins I1 hx r
    refine enum_begins1 b1 c1 fun h' he g1 hsz hk => wpAny_pyIter_enum he ?_
    have I2 : Inv X pins σ H1 { s1 with heap := h' } := I1.kept (t' := s1.toks) hk
    refine ⟨s1.heap.objs.size + 1, [s1.heap.objs.size + 1, s1.heap.objs.size], _, _, H1, rfl, I2, turn_e (Nat.succ_ne_self _) (fun a e => out2 (l1 a e)), ⟨⟨.none, by rw [show (0 : Int) + ((0 : Nat) : Int) = 0 from rfl]; exact he⟩, d1 _ _ g1⟩, fun c hcm => fresh_fp I1 (le2 hcm), q⟩
end GZ
/-! Words and signs as texts; a text times a number, a tuple once. No row. -/
namespace KW
open PySem PySem.Spec PyProof.Rows L2 GL KC GZ
def sg (j : Nat) : Str := ⟨#[97 + j]⟩
def wS (w : List Nat) : Str := ⟨(w.map (97 + ·)).toArray⟩
theorem wS_nil : wS [] = ("" : Str) := by decide +kernel
theorem wS_len (w : List Nat) : (wS w).length = w.length := by
  show ((w.map (97 + ·)).toArray).size = _
  simp
theorem wS_size (w : List Nat) : (wS w).cps.size = w.length := wS_len w
theorem wS_list (w : List Nat) : (wS w).cps.toList = w.map (97 + ·) := rfl
theorem wS_at {w : List Nat} {i c : Nat} (h : (wS w).cps[i]? = some c) : ∃ j, w[i]? = some j ∧ c = 97 + j := by
  have h' : (w.map (97 + ·))[i]? = some c := by simpa [wS] using h
  rw [List.getElem?_map] at h'
  cases e : w[i]? with
  | none => rw [e] at h'; cases h'
  | some j => rw [e] at h'; exact ⟨j, rfl, (Option.some.inj h').symm⟩
theorem wS_app (w u : List Nat) : wS w ++ wS u = wS (w ++ u) := by
  have e : ∀ a b : Str, a ++ b = ⟨a.cps ++ b.cps⟩ := fun _ _ => rfl
  rw [e]
  simp [wS]
theorem sg_wS (j : Nat) : sg j = wS [j] := rfl
theorem occ_at : ∀ j, j < 4 → Builtin.Str.occurrences ("abcd" : Str) (sg j) 0 ("abcd" : Str).length 1 = [j] := by
  intro j hj
  rcases j with _ | _ | _ | _ | j
  · decide +kernel
  · decide +kernel
  · decide +kernel
  · decide +kernel
  · omega
theorem cut_abcd : ∀ l : Nat, 1 ≤ l → l ≤ 4 → cutS ("abcd" : Str) none (some (l : Int)) = wS (List.range l) := by
  intro l h1 h4
  rcases l with _ | _ | _ | _ | _ | l
  · omega
  · decide +kernel
  · decide +kernel
  · decide +kernel
  · decide +kernel
  · omega
/-- texts of one sign each, joined -/
theorem join_c : ∀ cs : List Nat, Txt.join ("" : Str) (cs.map fun c => (⟨#[c]⟩ : Str)) = ⟨cs.toArray⟩ := by
  intro w
  rw [TL.join_eq]
  have e0 : ∀ a : Str, a ++ ("" : Str) = a := by
    intro a
    show (⟨a.cps ++ #[]⟩ : Str) = a
    simp
  induction w with
  | nil => rfl
  | cons j w ih =>
    cases w with
    | nil => rfl
    | cons k w =>
      show (⟨#[j]⟩ : Str) ++ ("" : Str) ++ Str.join ("" : Str) ((k :: w).map fun c => (⟨#[c]⟩ : Str)) = _
      rw [ih, e0]
      show (⟨#[j] ++ (k :: w).toArray⟩ : Str) = _
      simp
theorem len_c : ∀ us : List Nat, ((us.map fun c => (⟨#[c]⟩ : Str)).map (·.length)).sum = us.length := by
  intro us
  induction us with
  | nil => rfl
  | cons y ys ih =>
    rw [List.map_cons, List.map_cons, List.sum_cons, ih, List.length_cons]
    show 1 + ys.length = ys.length + 1
    omega
/-- signs: true is minus -/
def sc (b : Bool) : Nat := if b then 45 else 43
def sS (bs : List Bool) : Str := ⟨(bs.map sc).toArray⟩
theorem sS_len (bs : List Bool) : (sS bs).length = bs.length := by
  show ((bs.map sc).toArray).size = _
  simp
theorem sgs_sS (bs : List Bool) : sgs (sS bs) = bs.map fun b => V.str ⟨#[sc b]⟩ := by
  unfold sgs sS
  simp
theorem sgs_abcd : sgs ("abcd" : Str) = [V.str (sg 0), V.str (sg 1), V.str (sg 2), V.str (sg 3)] := by rfl
theorem sgs_abcd_at {i : Nat} {x : V} (h : (sgs ("abcd" : Str))[i]? = some x) : x = .str (sg i) ∧ i < 4 := by
  rw [sgs_abcd] at h
  rcases i with _ | _ | _ | _ | i
  · cases h; exact ⟨rfl, by decide⟩
  · cases h; exact ⟨rfl, by decide⟩
  · cases h; exact ⟨rfl, by decide⟩
  · cases h; exact ⟨rfl, by decide⟩
  · cases h
theorem sc_minus (b : Bool) : decide (V.str ⟨#[sc b]⟩ = V.str ("-" : Str)) = b := by cases b <;> decide +kernel
theorem count_wS (w : List Nat) (j : Nat) : Txt.count (wS w) (sg j) = ((w.count j : Nat) : Int) := by
  unfold sg
  rw [count_cnt, wS_list]
  induction w with
  | nil => rfl
  | cons a w ih =>
    rw [List.map_cons, cnt_cons, ih, List.count_cons]
    by_cases h : a = j
    · subst h
      simp
      omega
    · have h2 : ¬ 97 + a = 97 + j := by omega
      rw [if_neg h2]
      simp [h]
/-! ### one of the signs of a text -/
def spOneT : Sp := fun vs H Q _ => ∃ (d c : Addr) (z : Str) (m : Nat), vs = [.ref d, .str z] ∧ Deck H d c m ∧ m ≤ 1000000000 ∧ 0 < z.length ∧ z.length ≤ 1000 ∧
  ∀ (k : Nat) (G : Hp), k ∈ z.cps.toList → Deck G d c (m + 1) → Same (Hd d c H) (Hd d c G) → Q (.str ⟨#[k]⟩) G
def spWord : Sp := fun vs H Q _ => ∃ (d c : Addr) (l most m : Nat), vs = [.ref d, .int l, .int most] ∧ Deck H d c m ∧ m ≤ 900000000 ∧ 1 ≤ l ∧ l ≤ 4 ∧ most ≤ 1000 ∧
  ∀ (w : List Nat) (G : Hp), (∀ j ∈ w, j < l) → w.length ≤ most → Deck G d c (m + 1002) → Same (Hd d c H) (Hd d c G) → Q (.str (wS w)) G
def spSigns : Sp := fun vs H Q _ => ∃ (d c : Addr) (l m : Nat), vs = [.ref d, .int l] ∧ Deck H d c m ∧ m ≤ 900000000 ∧ l ≤ 4 ∧
  ∀ (bs : List Bool) (G : Hp), bs.length = l → Deck G d c (m + 4) → Same (Hd d c H) (Hd d c G) → Q (.str (sS bs)) G
theorem bs_of : ∀ cs : List Nat, (∀ c ∈ cs, c = 43 ∨ c = 45) → ∃ bs : List Bool, cs = bs.map sc
  | [], _ => ⟨[], rfl⟩
  | c :: cs, h => by
    obtain ⟨bs, e⟩ := bs_of cs fun x hx => h x (List.mem_cons_of_mem _ hx)
    rcases h c List.mem_cons_self with rfl | rfl
    · exact ⟨false :: bs, by rw [e]; rfl⟩
    · exact ⟨true :: bs, by rw [e]; rfl⟩
theorem ws_of : ∀ (l : Nat) (cs : List Nat), (∀ c ∈ cs, c ∈ (wS (List.range l)).cps.toList) → ∃ w : List Nat, cs = w.map (97 + ·) ∧ ∀ j ∈ w, j < l
  | _, [], _ => ⟨[], rfl, fun _ h => nomatch h⟩
  | l, c :: cs, h => by
    obtain ⟨w, e, hw⟩ := ws_of l cs fun x hx => h x (List.mem_cons_of_mem _ hx)
    have hc := h c List.mem_cons_self
    rw [wS_list] at hc
    obtain ⟨j, hj, ej⟩ := List.mem_map.mp hc
    refine ⟨j :: w, by rw [e, ← ej]; rfl, fun k hk => ?_⟩
    rcases List.mem_cons.mp hk with rfl | hk
    · exact List.mem_range.mp hj
    · exact hw k hk
/-! ### the sign and the weight of a word -/
def sgn (bs : List Bool) : List Nat → Int
  | [] => 1
  | j :: w => (if bs.getD j false then -1 else 1) * sgn bs w
theorem sgn_app (bs : List Bool) : ∀ u v : List Nat, sgn bs (u ++ v) = sgn bs u * sgn bs v
  | [], v => by show sgn bs v = 1 * sgn bs v; omega
  | j :: u, v => by
    show _ * sgn bs (u ++ v) = _ * sgn bs u * sgn bs v
    rw [sgn_app bs u v, Int.mul_assoc]
theorem sgn_one (bs : List Bool) (j : Nat) : sgn bs [j] = if bs.getD j false then -1 else 1 := Int.mul_one _
theorem sgn_odd (bs : List Bool) : ∀ w : List Nat, sgn bs w = if (w.countP fun j => bs.getD j false) % 2 = 1 then -1 else 1
  | [] => rfl
  | j :: w => by
    show _ * sgn bs w = _
    rw [sgn_odd bs w, List.countP_cons]
    cases bs.getD j false with
    | false => simp
    | true =>
      simp only [if_true]
      split <;> split <;> omega
theorem sgn_pm (bs : List Bool) (w : List Nat) : sgn bs w = 1 ∨ sgn bs w = -1 := by
  rw [sgn_odd]
  split
  · exact .inr rfl
  · exact .inl rfl
theorem sgn_plus (l : Nat) : ∀ w : List Nat, sgn (List.replicate l false) w = 1
  | [] => rfl
  | j :: w => by
    show _ * sgn _ w = _
    rw [sgn_plus l w]
    have e : (List.replicate l false).getD j false = false := by
      rw [List.getD_eq_getElem?_getD]
      cases h : (List.replicate l false)[j]? with
      | none => rfl
      | some b => exact List.eq_of_mem_replicate (List.mem_of_getElem? h)
    rw [e]
    rfl
theorem sum_counts (w : List Nat) : ∀ L : List Nat, L.Nodup → (L.map fun j => ((w.count j : Nat) : Int)).sum = ((w.countP fun j => decide (j ∈ L) : Nat) : Int)
  | [], _ => by simp
  | a :: L, nd => by
    have nd' := List.nodup_cons.mp nd
    rw [List.map_cons, List.sum_cons, sum_counts w L nd'.2]
    have : ∀ w : List Nat, (w.countP fun j => decide (j ∈ a :: L)) = w.count a + w.countP fun j => decide (j ∈ L) := by
      intro w
      induction w with
      | nil => rfl
      | cons x w ih =>
        rw [List.countP_cons, List.count_cons, List.countP_cons, ih]
        by_cases h : x = a
        · subst h
          simp [nd'.1]
          omega
        · simp [h]
          omega
    rw [this w]
    omega
def minus (bs : List Bool) (l : Nat) : List Nat := (List.range l).filter fun j => bs.getD j false
theorem minus_sum (bs : List Bool) (l : Nat) (w : List Nat) (h : ∀ j ∈ w, j < l) : ((minus bs l).map fun j => ((w.count j : Nat) : Int)).sum = ((w.countP fun j => bs.getD j false : Nat) : Int) := by
  rw [sum_counts w (minus bs l) (List.nodup_range.filter _)]
  congr 1
  apply List.countP_congr
  intro j hj
  simp [minus, h j hj]
def wsum (ws : List Int) (w : List Nat) : Int := ((List.range ws.length).map fun j => ((w.count j : Nat) : Int) * ws.getD j 0).sum
theorem sum_add {α : Type} (f g : α → Int) : ∀ L : List α, (L.map fun j => f j + g j).sum = (L.map f).sum + (L.map g).sum
  | [] => rfl
  | a :: L => by
    rw [List.map_cons, List.sum_cons, sum_add f g L, List.map_cons, List.sum_cons, List.map_cons, List.sum_cons]
    omega
theorem wsum_app (ws : List Int) (u v : List Nat) : wsum ws (u ++ v) = wsum ws u + wsum ws v := by
  unfold wsum
  rw [← sum_add]
  congr 1
  refine List.map_congr_left fun j _ => ?_
  rw [List.count_append, ← Int.add_mul]
  congr 1
theorem sum_bound (f : Nat → Int) (b : Nat) (h : ∀ j, (f j).natAbs ≤ b) : ∀ L : List Nat, ((L.map f).sum).natAbs ≤ L.length * b
  | [] => by simp
  | a :: L => by
    rw [List.map_cons, List.sum_cons, List.length_cons, Nat.add_mul]
    have := sum_bound f b h L
    have := h a
    omega
theorem wsum_le (ws : List Int) (w : List Nat) (hl : ws.length ≤ 4) (hw : w.length ≤ 1000) (h : ∀ x ∈ ws, x.natAbs ≤ 99) : (wsum ws w).natAbs ≤ 400000 := by
  have := sum_bound (fun j => ((w.count j : Nat) : Int) * ws.getD j 0) 99000 (fun j => ?_) (List.range ws.length)
  · rw [List.length_range] at this
    unfold wsum
    omega
  · have c := List.count_le_length (a := j) (l := w)
    have g : (ws.getD j 0).natAbs ≤ 99 := by
      rw [List.getD_eq_getElem?_getD]
      cases e : ws[j]? with
      | none => exact Nat.zero_le _
      | some x => exact h x (List.mem_of_getElem? e)
    show (((w.count j : Nat) : Int) * ws.getD j 0).natAbs ≤ 99000
    rw [Int.natAbs_mul, Int.natAbs_natCast]
    exact Nat.le_trans (Nat.mul_le_mul (Nat.le_trans c hw) g) (by decide)
theorem wsum_nought (l : Nat) (w : List Nat) : wsum (List.replicate l 0) w = 0 := by
  unfold wsum
  have : ∀ L : List Nat, (L.map fun j => ((w.count j : Nat) : Int) * (List.replicate l (0 : Int)).getD j 0).sum = 0 := by
    intro L
    induction L with
    | nil => rfl
    | cons a L ih =>
      rw [List.map_cons, List.sum_cons, ih]
      have e : (List.replicate l (0 : Int)).getD a 0 = 0 := by
        rw [List.getD_eq_getElem?_getD]
        cases h : (List.replicate l (0 : Int))[a]? with
        | none => rfl
        | some b => exact List.eq_of_mem_replicate (List.mem_of_getElem? h)
      rw [e, Int.mul_zero]
      rfl
  exact this _
/-! ### a text times a number, a tuple once -/
def rMulS : R2 := fun x y H Q => ∃ (c : Nat) (n : Nat), x = .str ⟨#[c]⟩ ∧ y = .int (n : Int) ∧ 1 ≤ n ∧ n ≤ 100000 ∧ Q (.str ⟨(List.replicate n c).toArray⟩) H
theorem rep_c (c : Nat) : ∀ (n : Nat) (acc : List Nat), (List.replicate n #[c]).foldl (· ++ ·) acc.toArray = (acc ++ List.replicate n c).toArray
  | 0, acc => by simp
  | n + 1, acc => by
    rw [List.replicate_succ, List.foldl_cons]
    have e : acc.toArray ++ #[c] = (acc ++ [c]).toArray := by simp
    rw [e, rep_c c n]
    rw [List.replicate_succ, List.append_assoc]
    rfl
theorem op_mulS {X : Cx} : OpR X (binaryOp .Mult) rMulS := by
  intro pins s σ H x y v u Q I rx ry h
  obtain ⟨c, n, rfl, rfl, h1, h2, q⟩ := h
  obtain ⟨t, rfl⟩ := rx
  obtain ⟨t', rfl⟩ := ry
  have e1 : ¬ ((n : Int) < 1) := by omega
  have l1 : (⟨#[c]⟩ : Str).length = 1 := rfl
  refine P.mul_str (x := ⟨#[c]⟩) (n := (n : Int)) (t := t) (u := t') ?_ (fun _ _ => ?_) (fun _ _ => ?_) ?_
  · rw [decide_eq_false (by omega), decide_eq_false (by omega)]; rfl
  · rw [l1]
    have : (1 : Int) ≤ (2 ^ 63 - 1) / (n : Int) := by
      rw [Int.le_ediv_iff_mul_le (by omega)]
      omega
    show ¬ (((1 : Nat) : Int) > _)
    omega
  · show decide _ = false
    rw [l1, Int.toNat_natCast, sizeLine_eq]
    exact decide_eq_false (by omega)
  · rw [if_neg e1]
    by_cases e2 : n = 1
    · subst e2
      rw [if_pos (by rfl)]
      exact ⟨.str ⟨#[c]⟩, H, I, ⟨_, rfl⟩, q⟩
    · have e3 : (((n : Int) == 1) || ((⟨#[c]⟩ : Str).length == 0)) = false := by
        rw [l1]
        have : ((n : Int) == 1) = false := beq_eq_false_iff_ne.mpr (by omega)
        rw [this]
        rfl
      rw [e3, if_neg Bool.false_ne_true, Int.toNat_natCast]
      have e4 := rep_c c n []
      rw [List.nil_append] at e4
      rw [e4]
      refine ⟨?_, .str ⟨(List.replicate n c).toArray⟩, H, I.tok _, ⟨_, rfl⟩, q⟩
      show ((List.replicate n c).toArray).size ≤ sizeLine
      rw [List.size_toArray, List.length_replicate, sizeLine_eq]
      omega
theorem tuple_mul1 (l : Addr) (items : Array Value) (n : Nat) (dd : Option Addr) (sl : Array (Option Value)) (u : Tok) :
    Meets (Builtin.«tuple.__mul__» ⟨[.ref l, .int 1 u], []⟩) (fun _ R s => s.heap.get? l = some { cls := .type "tuple", dict := dd, data := .seq items n, slots := sl } ∧ R (.ok (.ret (Value.ref l))) s) :=
  .of_wp fun prog w A R s h => by
    obtain ⟨hp, g, d, tk, os⟩ := s
    obtain ⟨hl, h⟩ := h
    have f1 := AutoSeq1.idx_int
    have c1 : (items.isEmpty || (1 : Int) == 1) = true := by rw [Bool.or_eq_true]; exact .inr rfl
    wp_walk using AutoSeq1.wpAny_loadPart' hl
    repeat (first
      | (refine wpAny_ite_false (decide_eq_false (by decide)) ?_; wp_walk using AutoSeq1.wpAny_loadPart' hl)
      | (refine wpAny_ite_true (decide_eq_true c1) ?_; wp_walk using AutoSeq1.wpAny_loadPart' hl))
    exact ⟨_, rfl, h⟩
def rRepT1 (K : PySem.W.Frag) : R2 := fun x y H Q => ∃ (l : Addr) (k : Nat) (xs : List V), x = .ref l ∧ y = .int (k : Int) ∧ SqT K H l xs ∧ xs ≠ [] ∧ 1 ≤ k ∧ k ≤ 1000 ∧ xs.length ≤ 1000 ∧ (k = 1 → Q (.ref l) H) ∧ ∀ p, H p = none → Q (.ref p) (upd H p (.tup (List.replicate k xs).flatten))
theorem op_repT1 {X : Cx} : OpR X (binaryOp .Mult) (rRepT1 X.K) := by
  intro pins s σ H x y v u Q I rx ry h
  obtain ⟨l, k, xs, rfl, rfl, hT, hne, h1, h2, hz, q1, q⟩ := h
  by_cases e : k = 1
  · subst e
    cases rx
    obtain ⟨t, rfl⟩ := ry
    obtain ⟨its, r, ⟨⟨cls, dd, data, sl⟩, ho, hc, n, hd⟩, hs⟩ := I.tuple hT
    simp only at hc hd
    subst hc hd
    exact wpAny_binaryOp_repeat_ref (T := "tuple") (U := "int") (by decide) ⟨_, ho, rfl⟩ (fun s' => typeIs_int s' ((1 : Nat) : Int) t) noFill_tuple_mul F.fills_int_mul F.slot_int_rmul repeat_tuple F.slot_int_index.lookup
      (call_meets F.slot_int_rmul (typeIs_int s ((1 : Nat) : Int) t) F.entry_int_rmul (F.args_int_rmul_2 _ _) (int_rmul_tuple ((1 : Nat) : Int) t l its.toArray n dd sl)
        ⟨ho, rfl, ⟨_, ho, rfl⟩, call_meets F.slot_tuple_mul ⟨_, ho, rfl⟩ F.entry_tuple_mul (F.args_tuple_mul_2 _ _) (tuple_mul1 l its.toArray n dd sl t) ⟨ho, .ref l, H, I, rfl, q1 rfl⟩⟩)
  · exact op_repT pins s σ H _ _ v u Q I rx ry ⟨l, k, xs, rfl, rfl, hT, hne, by omega, by omega, hz, fun p np => by rw [Int.toNat_natCast]; exact q p np⟩
end KW
/-! Rules: pairs of words; a rule as an object; what changes a word. No row. -/
namespace KR
open PySem PySem.Spec PyProof.Rows L2 GL KC GZ KW
abbrev Pr := List Nat × List Nat
def pD (p : Pr) : PyData := .tuple [.str (wS p.1), .str (wS p.2)]
def rD (rs : List Pr) : PyData := .tuple (rs.map pD)
structure Rul (l : Nat) (rs : List Pr) : Prop where
  len : rs.length ≤ 6
  ok : ∀ p ∈ rs, 1 ≤ p.1.length ∧ p.1.length ≤ 3 ∧ p.2.length = p.1.length ∧ p.1 ≠ p.2 ∧ (∀ j ∈ p.1, j < l) ∧ ∀ j ∈ p.2, j < l
structure RuleAt (H : Hp) (a : Addr) (rs : List Pr) : Prop where
  ex : ∃ ts : List Addr, H a = some (.tup (ts.map V.ref)) ∧ ts.length = rs.length ∧ ∀ (i : Nat) (p : Pr), rs[i]? = some p → ∃ t : Addr, ts[i]? = some t ∧ H t = some (.tup [.str (wS p.1), .str (wS p.2)])
theorem RuleAt.same {H H' : Hp} {a : Addr} {rs : List Pr} (R : RuleAt H a rs) (s : Same H H') : RuleAt H' a rs := by
  obtain ⟨ts, h1, h2, h3⟩ := R.ex
  exact ⟨ts, s _ _ h1, h2, fun i p e => let ⟨t, a, b⟩ := h3 i p e; ⟨t, a, s _ _ b⟩⟩
theorem pairs_dt {K : PySem.W.Frag} {H : Hp} : ∀ {ts : List Addr} {rs : List Pr}, ts.length = rs.length → (∀ (i : Nat) (p : Pr), rs[i]? = some p → ∃ t : Addr, ts[i]? = some t ∧ H t = some (.tup [.str (wS p.1), .str (wS p.2)])) → DtAll K H (ts.map V.ref) (rs.map pD)
  | [], [], _, _ => .nil
  | t :: ts, p :: rs, hl, h => by
    obtain ⟨t', h1, h2⟩ := h 0 p rfl
    cases h1
    refine .cons (.tup h2 (.cons (.str _) (.cons (.str _) .nil))) (pairs_dt (by simpa using hl) fun i q hq => ?_)
    obtain ⟨t2, a, b⟩ := h (i + 1) q (by simpa using hq)
    exact ⟨t2, by simpa using a, b⟩
theorem RuleAt.dt {K : PySem.W.Frag} {H : Hp} {a : Addr} {rs : List Pr} (R : RuleAt H a rs) : Dt K H (.ref a) (rD rs) := by
  obtain ⟨ts, h1, h2, h3⟩ := R.ex
  exact .tup h1 (pairs_dt h2 h3)
theorem word_shown (w : List Nat) (hw : ∀ j ∈ w, j < 4) : (PyData.str (wS w)).shown.length ≤ 10 * w.length + 2 := by
  rw [PyData.shown_str]
  have h := StrLaws.reprText_len (wS w) (fun c hc => by
    rw [wS_list] at hc
    obtain ⟨j, hj, e⟩ := List.mem_map.mp hc
    have := hw j hj
    omega)
  rw [wS_len] at h
  exact h
theorem fit_word {w : List Nat} {n k : Nat} (hw : ∀ j ∈ w, j < 4) (hn : 10 * w.length + 2 ≤ n) : Fit n k (.str (wS w)) := fit_str (word_shown w hw) hn
theorem Rul.fit {l : Nat} {rs : List Pr} (R : Rul l rs) (l4 : l ≤ 4) : Fit 1000 2 (rD rs) := by
  have one : ∀ p ∈ rs, Fit 71 1 (pD p) := fun p hp => by
    obtain ⟨h1, h2, h3, _, h5, h6⟩ := R.ok p hp
    exact (Fit.tup (FitAll.cons (fit_word (n := 32) (k := 0) (fun j hj => Nat.lt_of_lt_of_le (h5 j hj) l4) (by omega)) (FitAll.cons (fit_word (n := 32) (fun j hj => Nat.lt_of_lt_of_le (h6 j hj) l4) (by omega)) FitAll.nil))).mono (by omega) (Nat.le_refl _)
  have all : ∀ qs : List Pr, (∀ p ∈ qs, Fit 71 1 (pD p)) → FitAll (73 * qs.length) 1 (qs.map pD) := by
    intro qs
    induction qs with
    | nil => intro _; exact FitAll.nil
    | cons p qs ih =>
      intro h
      exact (FitAll.cons (h p List.mem_cons_self) (ih fun q hq => h q (List.mem_cons_of_mem _ hq))).mono (by rw [List.length_cons]; omega) (Nat.le_refl _)
  exact (Fit.tup (all rs one)).mono (by have := R.len; omega) (Nat.le_refl _)
def spRule : Sp := fun vs H Q _ => ∃ (d c : Addr) (l m : Nat), vs = [.ref d, .int l] ∧ Deck H d c m ∧ m ≤ 900000000 ∧ 1 ≤ l ∧ l ≤ 4 ∧
  ∀ (a : Addr) (rs : List Pr) (G : Hp), Rul l rs → RuleAt (Hd d c G) a rs → Deck G d c (m + 100) → Same (Hd d c H) (Hd d c G) → Q (.ref a) G

/-! ### what changes a word -/
/-- a stands in w at k -/
def At (w a : List Nat) (k : Nat) : Prop := (w.drop k).take a.length = a
theorem At.le {w a : List Nat} {k : Nat} (h : At w a k) (ha : 1 ≤ a.length) : k + a.length ≤ w.length := by
  have := congrArg List.length h
  rw [List.length_take, List.length_drop] at this
  omega
/-- the partner of the word of the pair that stands at k -/
def Hit (w : List Nat) (p : Pr) (k : Nat) (b : List Nat) : Prop := (At w p.1 k ∧ b = p.2) ∨ (At w p.2 k ∧ b = p.1)
def sw (p : Pr) : Pr := (p.2, p.1)
theorem Hit.sw {w : List Nat} {p : Pr} {k : Nat} {b : List Nat} : Hit w (sw p) k b ↔ Hit w p k b := Or.comm
/-- the change of a word -/
structure IsChg (rs : List Pr) (w : List Nat) (x : Nat × Nat × List Nat) : Prop where
  hit : ∃ p, rs[x.2.1]? = some p ∧ Hit w p x.1 x.2.2
  low : ∀ (k i : Nat) (p : Pr) (b : List Nat), rs[i]? = some p → Hit w p k b → x.1 < k ∨ (x.1 = k ∧ x.2.1 ≤ i)
def NoChg (rs : List Pr) (w : List Nat) : Prop := ∀ (k i : Nat) (p : Pr) (b : List Nat), rs[i]? = some p → ¬ Hit w p k b
theorem hit_one {l : Nat} {rs : List Pr} (R : Rul l rs) {w : List Nat} {i k : Nat} {p : Pr} {b b' : List Nat} (hp : rs[i]? = some p) (h : Hit w p k b) (h' : Hit w p k b') : b = b' := by
  obtain ⟨h1, _, h3, h4, _⟩ := R.ok p (List.mem_of_getElem? hp)
  have no : ¬ (At w p.1 k ∧ At w p.2 k) := fun ⟨a1, a2⟩ => h4 (by
    unfold At at a1 a2
    rw [h3] at a2
    exact a1.symm.trans a2)
  rcases h with ⟨a, rfl⟩ | ⟨a, rfl⟩ <;> rcases h' with ⟨a', rfl⟩ | ⟨a', rfl⟩
  · rfl
  · exact absurd ⟨a, a'⟩ no
  · exact absurd ⟨a', a⟩ no
  · rfl
theorem IsChg.one {l : Nat} {rs : List Pr} (R : Rul l rs) {w : List Nat} {x y : Nat × Nat × List Nat} (h : IsChg rs w x) (h' : IsChg rs w y) : x = y := by
  obtain ⟨p, p1, p2⟩ := h.hit
  obtain ⟨q, q1, q2⟩ := h'.hit
  have a := h.low _ _ _ _ q1 q2
  have b := h'.low _ _ _ _ p1 p2
  have e1 : x.1 = y.1 := by omega
  have e2 : x.2.1 = y.2.1 := by omega
  rw [← e2, p1] at q1
  cases q1
  rw [← e1] at q2
  have e3 := hit_one R p1 p2 q2
  obtain ⟨x1, x2, x3⟩ := x
  obtain ⟨y1, y2, y3⟩ := y
  simp only at e1 e2 e3
  rw [e1, e2, e3]
open Classical in
noncomputable def chg (rs : List Pr) (w : List Nat) : Option (Nat × Nat × List Nat) := if h : ∃ x, IsChg rs w x then some h.choose else none
theorem chg_some {l : Nat} {rs : List Pr} (R : Rul l rs) {w : List Nat} {x : Nat × Nat × List Nat} (h : IsChg rs w x) : chg rs w = some x := by
  unfold chg
  have e : ∃ x, IsChg rs w x := ⟨x, h⟩
  rw [dif_pos e]
  exact congrArg some (IsChg.one R e.choose_spec h)
theorem chg_none {rs : List Pr} {w : List Nat} (h : NoChg rs w) : chg rs w = none := by
  unfold chg
  have e : ¬ ∃ x, IsChg rs w x := fun ⟨x, hx⟩ => by
    obtain ⟨p, p1, p2⟩ := hx.hit
    exact h _ _ _ _ p1 p2
  rw [dif_neg e]
theorem chg_is {rs : List Pr} {w : List Nat} {x : Nat × Nat × List Nat} (h : chg rs w = some x) : IsChg rs w x := by
  unfold chg at h
  by_cases e : ∃ x, IsChg rs w x
  · rw [dif_pos e] at h
    cases h
    exact e.choose_spec
  · rw [dif_neg e] at h
    cases h
theorem chg_sw {l : Nat} {rs : List Pr} (R : Rul l rs) (R' : Rul l (rs.map sw)) (w : List Nat) : chg (rs.map sw) w = chg rs w := by
  have at' : ∀ {i : Nat} {p : Pr}, (rs.map sw)[i]? = some p → ∃ q, rs[i]? = some q ∧ p = sw q := fun {i p} h => by
    rw [List.getElem?_map] at h
    cases e : rs[i]? with
    | none => rw [e] at h; cases h
    | some q => rw [e] at h; exact ⟨q, rfl, (Option.some.inj h).symm⟩
  cases e : chg rs w with
  | some x =>
    obtain ⟨⟨p, p1, p2⟩, lo⟩ := chg_is e
    refine chg_some R' ⟨⟨sw p, by rw [List.getElem?_map, p1]; rfl, Hit.sw.mpr p2⟩, fun k i q b hq hb => ?_⟩
    obtain ⟨q', q1, rfl⟩ := at' hq
    exact lo k i q' b q1 (Hit.sw.mp hb)
  | none =>
    cases e' : chg (rs.map sw) w with
    | none => rfl
    | some x =>
      obtain ⟨⟨p, p1, p2⟩, lo⟩ := chg_is e'
      obtain ⟨q', q1, rfl⟩ := at' p1
      have := chg_some R (x := x) ⟨⟨q', q1, Hit.sw.mp p2⟩, fun k i q b hq hb => lo k i (sw q) b (by rw [List.getElem?_map, hq]; rfl) (Hit.sw.mpr hb)⟩
      rw [e] at this
      cases this
theorem Rul.sw {l : Nat} {rs : List Pr} (R : Rul l rs) : Rul l (rs.map sw) := by
  refine ⟨by rw [List.length_map]; exact R.len, fun p hp => ?_⟩
  obtain ⟨q, hq, rfl⟩ := List.mem_map.mp hp
  obtain ⟨h1, h2, h3, h4, h5, h6⟩ := R.ok q hq
  exact ⟨by show 1 ≤ q.2.length; omega, by show q.2.length ≤ 3; omega, h3.symm, fun e => h4 e.symm, h6, h5⟩
/-- the word that comes -/
def come (w : List Nat) (x : Nat × Nat × List Nat) : List Nat := w.take x.1 ++ x.2.2 ++ w.drop (x.1 + x.2.2.length)
/-- the value that tells it -/
def Res (w : List Nat) : Option (Nat × Nat × List Nat) → V → Hp → Prop
  | none, v, _ => v = .non
  | some x, v, G => ∃ t : Addr, v = .ref t ∧ G t = some (.tup [.int x.1, .int x.2.1, .str (wS (come w x))])
def spChg : Sp := fun vs H Q _ => ∃ (a : Addr) (l : Nat) (rs : List Pr) (w : List Nat), vs = [.ref a, .str (wS w)] ∧ RuleAt H a rs ∧ Rul l rs ∧ w.length ≤ 1000 ∧ ∀ (v : V) (G : Hp), Same H G → Res w (chg rs w) v G → Q v G
def resD (w : List Nat) : Option (Nat × Nat × List Nat) → PyData
  | none => .none
  | some x => .tuple [.int x.1, .int x.2.1, .str (wS (come w x))]
theorem Res.dt {K : PySem.W.Frag} {w : List Nat} {o : Option (Nat × Nat × List Nat)} {v : V} {G : Hp} (h : Res w o v G) : Dt K G v (resD w o) := by
  cases o with
  | none =>
    have e : v = .non := h
    rw [e]
    exact .non
  | some x =>
    obtain ⟨t, rfl, g⟩ := h
    exact .tup g (.cons (.int _) (.cons (.int _) (.cons (.str _) .nil)))

/-! ### texts -/
theorem add_inj : ∀ x y : List Nat, x.map (97 + ·) = y.map (97 + ·) → x = y
  | [], [], _ => rfl
  | [], b :: y, h => nomatch h
  | a :: x, [], h => nomatch h
  | a :: x, b :: y, h => by
    rw [List.map_cons, List.map_cons] at h
    injection h with h1 h2
    have e : a = b := by omega
    rw [e, add_inj x y h2]
theorem find_wS (w a : List Nat) (ha : 1 ≤ a.length) : (Txt.find (wS w) (wS a) = -1 ∧ ∀ k, ¬ At w a k) ∨ ∃ k : Nat, Txt.find (wS w) (wS a) = (k : Int) ∧ At w a k ∧ ∀ j, j < k → ¬ At w a j := by
  have iff : ∀ k, StrLaws.At (wS w) (wS a) (wS w).length k ↔ At w a k := fun k => by
    have e : Builtin.Str.subAt (wS w) (wS a) k = true ↔ At w a k := by
      unfold Builtin.Str.subAt At
      rw [wS_len]
      show ((((w.map (97 + ·)).toArray).extract k (k + a.length)) == ((a.map (97 + ·)).toArray)) = true ↔ _
      rw [beq_iff_eq, ← Array.toList_inj]
      simp only [List.extract_toArray, List.extract_eq_take_drop, Nat.add_sub_cancel_left, ← List.map_drop, ← List.map_take]
      exact ⟨fun h => add_inj _ _ h, fun h => by rw [h]⟩
    constructor
    · intro h
      exact e.mp h.2
    · intro h
      refine ⟨?_, e.mpr h⟩
      rw [wS_len, wS_len]
      exact h.le ha
  unfold Txt.find
  rcases StrLaws.occ_head (wS w) (wS a) 1 (Nat.le_refl 1) with ⟨h1, h2⟩ | ⟨i, r, h1, h2, h3⟩
  · rw [h1]
    exact .inl ⟨rfl, fun k hk => h2 k ((iff k).mpr hk)⟩
  · rw [h1]
    exact .inr ⟨i, rfl, (iff i).mp h2, fun j hj hk => h3 j hj ((iff j).mpr hk)⟩
theorem cutS_eq (u : List Nat) (lo hi : Option Int) : cutS (wS u) lo hi = wS ((u.drop (HT.sIx u.length 0 lo)).take (HT.sIx u.length u.length hi - HT.sIx u.length 0 lo)) := by
  unfold cutS
  show (⟨_⟩ : Str) = ⟨_⟩
  rw [wS_len]
  congr 1
  congr 1
  show ((((u.map (97 + ·)).toArray).toList.drop _).take _) = _
  rw [List.map_take, List.map_drop]
theorem sIx_nat (n d k : Nat) : HT.sIx n d (some (k : Int)) = min k n := by
  unfold HT.sIx
  simp
  omega
theorem cut_take (u : List Nat) (k : Nat) : cutS (wS u) none (some (k : Int)) = wS (u.take k) := by
  rw [cutS_eq, sIx_nat]
  show wS ((u.drop 0).take (min k u.length - 0)) = _
  rw [List.drop_zero, Nat.sub_zero, show u.take (min k u.length) = u.take k from List.take_eq_take_iff.mpr (by omega)]
theorem cut_drop (u : List Nat) (k : Nat) : cutS (wS u) (some (k : Int)) none = wS (u.drop k) := by
  rw [cutS_eq, sIx_nat]
  show wS ((u.drop (min k u.length)).take (u.length - min k u.length)) = _
  congr 1
  by_cases h : k ≤ u.length
  · rw [Nat.min_eq_left h, List.take_of_length_le (by rw [List.length_drop]; exact Nat.le_refl _)]
  · have e : min k u.length = u.length := by omega
    rw [e, List.drop_of_length_le (Nat.le_refl _), List.drop_of_length_le (by omega), List.take_nil]
theorem cut_mid (u : List Nat) (k n : Nat) : cutS (wS u) (some (k : Int)) (some ((k + n : Nat) : Int)) = wS ((u.drop k).take n) := by
  rw [cutS_eq, sIx_nat, sIx_nat]
  congr 1
  by_cases h : k ≤ u.length
  · rw [Nat.min_eq_left h]
    exact List.take_eq_take_iff.mpr (by rw [List.length_drop]; omega)
  · have e : min k u.length = u.length := by omega
    have e2 : min (k + n) u.length = u.length := by omega
    rw [e, e2, List.drop_of_length_le (Nat.le_refl _), List.drop_of_length_le (by omega), List.take_nil, List.take_nil]
end KR
/-! What rule_error tells, over data; list(text), list.extend(tuple), list == []. No row. -/
namespace KX
open PySem PySem.Spec PyProof.Rows L2 GL KC GZ KW KR

/-! ### list(text) -/
def rListX : List V → Hp → VK → Prop := fun xs H Q => ∃ z : Str, xs = [.str z] ∧ z.length ≤ sizeLine ∧ ∀ q, H q = none → Q (.ref q) (upd H q (.lst (sgs z)))
theorem call_listX {X : Cx} (hc : X.calm = true) : CallR X (.type "list") rListX := by
  intro pins s σ H xs us Q I r h
  obtain ⟨z, rfl, hz, q⟩ := h
  obtain ⟨u, rfl, rx⟩ := vals1 r
  obtain ⟨t, rfl⟩ := rx
  refine call_list_str (I.ok.hd hc) z t (fun h' tk acc c' hk e hi => ?_) hz
  refine ⟨.ref s.heap.objs.size, upd H s.heap.objs.size (.lst (sgs z)), I.laid hk (Nat.le_refl _) ⟨by unfold sgs; rw [List.length_map, Array.length_toList]; exact hz, acc.toList, c', ?_, by rw [Array.toArray_toList]; exact e⟩, rfl, q _ (I.hok.fresh (Nat.le_refl _))⟩
  refine vals_of_idx _ _ (by unfold sgs; rw [List.length_map, Array.length_toList, Array.length_toList]; exact hi.1) fun j u hj => ?_
  obtain ⟨c, t', hc, rfl⟩ := hi.2 j u (by rw [← Array.getElem?_toList]; exact hj)
  refine ⟨.str ⟨#[c]⟩, ?_, ⟨_, rfl⟩⟩
  unfold sgs
  rw [List.getElem?_map, Array.getElem?_toList, hc]
  rfl

/-! ### l.extend(t), t a tuple -/
theorem extend_tup (l : Addr) (items : Array Value) (n : Nat) (b : Addr) (items2 : Array Value) (n2 : Nat) (dd : Option Addr) (sl : Array (Option Value)) (hs0 : ¬(!items.isEmpty && Builtin.List.listTooLong (items.size + items2.size)) = true) (hs1 : items.size ≤ sizeLine) (hs2 : items.size + items2.size ≤ sizeLine + 1) :
    Meets (Builtin.«list.extend» ⟨[.ref l, .ref b], []⟩) (fun _ R s => s.heap.get? l = some { cls := .type "list", dict := none, data := .seq items n, slots := #[] } ∧ s.heap.get? b = some { cls := .type "tuple", dict := dd, data := .seq items2 n2, slots := sl } ∧ R (.ok (.ret Value.none)) { s with heap := s.heap.update l (Obj.mapSeq fun x => x ++ items2), toks := s.toks }) :=
  .of_wp fun prog w A R s h => by
    obtain ⟨hp, g, d, tk, os⟩ := s; obtain ⟨hl, hb, h⟩ := h; have f1 := AutoSeq1.idx_int; have f2 := AutoSeq1.sub_tuple_tuple; have f3 := AutoSeq1.sub_list_list; have f4 := AutoSeq1.sub_tuple_list; have f5 := AutoSeq1.sub_list_tuple;
    have hz' : (items ++ items2).size ≤ sizeLine + 1 := by rw [Array.size_append]; exact hs2
    wp_walk using (wpAny_updateSeq hl rfl (hz := hs1) (_hz' := hz')), AutoSeq1.wpAny_loadPart' hl, AutoSeq1.wpAny_loadPart' hb; exact ⟨_, rfl, h⟩
def rExtT (K : PySem.W.Frag) : V → List V → Hp → VK → Prop := fun x vs H Q => ∃ l b xs zs, x = .ref l ∧ vs = [.ref b] ∧ H l = some (.lst xs) ∧ H b = some (.tup zs) ∧ xs.length + zs.length ≤ sizeLine ∧ Q .non (upd H l (.lst (xs ++ zs)))
theorem mt_extendT {X : Cx} : MtM X "list.extend" (rExtT X.K) := by
  intro pins s σ H x vs v us Q I rx rv h
  obtain ⟨l, b, xs, zs, rfl, rfl, hH, hB, hz, q⟩ := h
  cases rx
  obtain ⟨u, rfl, ru⟩ := rv.one
  cases ru
  obtain ⟨z, its, n, r, hl, e⟩ := I.lstM hH
  obtain ⟨its2, o2, n2, r2, e2, c2, d2⟩ := tup_at I hB
  have hl2 := r2.length
  obtain ⟨cls, dict, data, slots⟩ := o2
  cases c2
  cases d2
  have hsz : its.toArray.size + its2.toArray.size ≤ sizeLine := by rw [List.size_toArray, List.size_toArray]; omega
  have hlong : ¬ (!its.toArray.isEmpty && Builtin.List.listTooLong (its.toArray.size + its2.toArray.size)) = true := by
    rw [notLongL hsz, Bool.and_false]
    exact Bool.false_ne_true
  refine call_meets F.slot_list_extend ⟨_, e, rfl⟩ F.entry_list_extend (F.args_list_extend_2 _ _)
    (extend_tup l its.toArray n b its2.toArray n2 _ _ hlong (by rw [List.size_toArray]; omega) (by omega)) ⟨e, e2, ?_⟩
  refine ⟨.non, _, I.lset (its' := its ++ its2) hH e (by simp) (r.append r2) ?_, rfl, q⟩
  rw [List.length_append]
  omega

/-! ### a list against an empty one -/
def rEqL0 : R2 := fun x y H Q => ∃ (a b : Addr) (xs : List V), x = .ref a ∧ y = .ref b ∧ H a = some (.lst xs) ∧ H b = some (.lst []) ∧ Q (.bl xs.isEmpty) H
theorem op_eqL0 {X : Cx} (hu : X.A.units < cLine) : OpR X (compareOp .Eq) rEqL0 := by
  intro pins s σ H x y v u Q I rx ry h
  obtain ⟨a, b, xs, rfl, rfl, ha, hb, q⟩ := h
  cases rx
  cases ry
  obtain ⟨its, n, rv, e⟩ := lst_at I ha
  obtain ⟨its2, n2, rv2, e2⟩ := lst_at I hb
  cases rv2
  have l1 : s.heap.IsList a its.toArray := ⟨_, e, rfl, n, rfl⟩
  have l2 : s.heap.IsList b ([] : List Value).toArray := ⟨_, e2, rfl, n2, rfl⟩
  cases its with
  | nil =>
    cases rv
    exact SeqAt.RcAt.lists (e := fun _ => true) l1 l2 rfl hu (fun j h1 _ => absurd h1 (Nat.not_lt_zero j)) X.prog X.w _ _ ⟨.bl true, H, I, rfl, q⟩
  | cons y ys =>
    cases rv with
    | cons r1 r2 => exact SeqAt.RcAt.lists_lengths l1 l2 rfl hu X.prog X.w _ _ ⟨.bl false, H, I, rfl, q⟩

/-! ### isinstance over data -/
def isTup : PyData → Bool
  | .tuple _ => true
  | _ => false
def isStr : PyData → Bool
  | .str _ => true
  | _ => false
theorem kf_NoneType_tuple : kitB "NoneType" "tuple" = some false := by decide +kernel
theorem kf_bool_tuple : kitB "bool" "tuple" = some false := by decide +kernel
theorem kf_int_tuple : kitB "int" "tuple" = some false := by decide +kernel
theorem kf_str_tuple : kitB "str" "tuple" = some false := by decide +kernel
theorem kf_list_tuple : kitB "list" "tuple" = some false := by decide +kernel
theorem kf_tuple_tuple : kitB "tuple" "tuple" = some true := by decide +kernel
theorem kf_dict_tuple : kitB "dict" "tuple" = some false := by decide +kernel
theorem kf_NoneType_str : kitB "NoneType" "str" = some false := by decide +kernel
theorem kf_bool_str : kitB "bool" "str" = some false := by decide +kernel
theorem kf_int_str : kitB "int" "str" = some false := by decide +kernel
theorem kf_str_str : kitB "str" "str" = some true := by decide +kernel
theorem kf_list_str : kitB "list" "str" = some false := by decide +kernel
theorem kf_tuple_str : kitB "tuple" "str" = some false := by decide +kernel
theorem kf_dict_str : kitB "dict" "str" = some false := by decide +kernel
section
variable {K : PySem.W.Frag} {H : Hp} {v : V} {d : PyData}
theorem is_tuple (h : Dt K H v d) : ∃ t, TyX K H v t ∧ PySem.W.kitOne K t (.type "tuple") = some (isTup d) := by
  cases h with
  | non => exact ⟨_, .base .non, kit_ty kf_NoneType_tuple⟩
  | bl b => exact ⟨_, .base (.bl b), kit_ty kf_bool_tuple⟩
  | int i => exact ⟨_, .base (.int i), kit_ty kf_int_tuple⟩
  | str x => exact ⟨_, .base (.str x), kit_ty kf_str_tuple⟩
  | lst e _ => exact ⟨_, .base (.lst e), kit_ty kf_list_tuple⟩
  | tup e _ => exact ⟨_, .base (.tup e), kit_ty kf_tuple_tuple⟩
  | dic e => exact ⟨_, .base (.dK e), kit_ty kf_dict_tuple⟩
theorem is_str (h : Dt K H v d) : ∃ t, TyX K H v t ∧ PySem.W.kitOne K t (.type "str") = some (isStr d) := by
  cases h with
  | non => exact ⟨_, .base .non, kit_ty kf_NoneType_str⟩
  | bl b => exact ⟨_, .base (.bl b), kit_ty kf_bool_str⟩
  | int i => exact ⟨_, .base (.int i), kit_ty kf_int_str⟩
  | str x => exact ⟨_, .base (.str x), kit_ty kf_str_str⟩
  | lst e _ => exact ⟨_, .base (.lst e), kit_ty kf_list_str⟩
  | tup e _ => exact ⟨_, .base (.tup e), kit_ty kf_tuple_str⟩
  | dic e => exact ⟨_, .base (.dK e), kit_ty kf_dict_str⟩
end

/-! ### what rule_error tells -/
def Small (d : PyData) : Prop := wt d ≤ 1000000
theorem Small.len {ds : List PyData} (h : Small (.tuple ds)) : ds.length ≤ 1000000 := by
  have := len_wts ds
  have h' : wts ds + 3 ≤ 1000000 := by simpa only [Small, wt] using h
  omega
theorem Small.mem {d : PyData} {ds : List PyData} (h : Small (.tuple ds)) (m : d ∈ ds) : Small d := by
  have := mem_wts m
  have h' : wts ds + 3 ≤ 1000000 := by simpa only [Small, wt] using h
  show wt d ≤ 1000000
  omega
theorem reprChar_ge (q c : Nat) : 1 ≤ (Builtin.Str.reprChar q c).length := by
  unfold Builtin.Str.reprChar
  dsimp only
  repeat' split
  all_goals simp only [List.length_append, List.length_cons, List.length_nil] <;> omega
theorem foldl_repr_more (q : Nat) : ∀ (l : List Nat) (acc : Array Nat), acc.size + l.length ≤ (l.foldl (fun out c => out ++ (Builtin.Str.reprChar q c).toArray) acc).size
  | [], acc => Nat.le_refl _
  | c :: r, acc => by
    have ih := foldl_repr_more q r (acc ++ (Builtin.Str.reprChar q c).toArray)
    have h := reprChar_ge q c
    simp only [List.foldl_cons, List.length_cons]
    simp only [Array.size_append, List.size_toArray] at ih
    omega
theorem Small.str {x : Str} (h : Small (.str x)) : x.length ≤ 1000000 := by
  have h' : (PyData.str x).shown.length ≤ 1000000 := by simpa only [Small, wt] using h
  rw [PyData.shown_str] at h'
  refine Nat.le_trans ?_ h'
  unfold reprText
  show _ ≤ ((x.cps.foldl (fun out c => out ++ (Builtin.Str.reprChar (reprQuote x) c).toArray) #[reprQuote x]).push (reprQuote x)).size
  rw [Array.size_push, ← Array.foldl_toList]
  have := foldl_repr_more (reprQuote x) x.cps.toList #[reprQuote x]
  have e : x.cps.toList.length = x.length := by simp [Str.length]
  rw [e] at this
  omega
/-- the letters -/
def ab (l : Nat) : Str := wS (List.range l)
def inA (l : Nat) (c : Nat) : Bool := decide (c ∈ (ab l).cps.toList)
def okP (l : Nat) (x : Str) : Bool := decide (1 ≤ x.length) && decide (x.length ≤ 3) && x.cps.toList.all (inA l)
def pieceD (l : Nat) : PyData → Option Str
  | .str x => if okP l x then some x else none
  | _ => none
def pairD (l : Nat) : PyData → Option (Str × Str)
  | .tuple [a, b] => match pieceD l a, pieceD l b with
    | some x, some y => if x.length = y.length ∧ x ≠ y then some (x, y) else none
    | _, _ => none
  | _ => none
def walkE (l : Nat) : Nat → List Str → List PyData → Option Nat
  | _, _, [] => none
  | i, tk, d :: ds => match pairD l d with
    | none => some i
    | some (x, y) => if x ∈ tk ∨ y ∈ tk then some i else walkE l (i + 1) (tk ++ [x, y]) ds
def errD (l : Nat) : PyData → PyData
  | .tuple ds => match walkE l 0 [] ds with
    | some i => .tuple [.int i, .str "pair"]
    | none => if 6 < ds.length then .tuple [.none, .str "many"] else .none
  | _ => .tuple [.none, .str "rule"]
theorem piece_str {l : Nat} {d : PyData} {x : Str} (h : pieceD l d = some x) : d = .str x ∧ okP l x = true := by
  cases d with
  | str y =>
    simp only [pieceD] at h
    split at h
    · cases h; exact ⟨rfl, by assumption⟩
    · cases h
  | _ => simp [pieceD] at h
theorem pair_two {l : Nat} {d : PyData} {x y : Str} (h : pairD l d = some (x, y)) : d = .tuple [.str x, .str y] ∧ x.length = y.length ∧ x ≠ y ∧ okP l x = true ∧ okP l y = true := by
  unfold pairD at h
  split at h
  · split at h
    · rename_i a b x' y' e1 e2
      split at h
      · rename_i c
        cases h
        obtain ⟨rfl, o1⟩ := piece_str e1
        obtain ⟨rfl, o2⟩ := piece_str e2
        exact ⟨rfl, c.1, c.2, o1, o2⟩
      · cases h
    · cases h
  · cases h
theorem pair_no {l : Nat} {ds : List PyData} (h : ds.length ≠ 2) : pairD l (.tuple ds) = none := by
  unfold pairD
  split
  · rename_i e
    cases e
    exact absurd rfl h
  · rfl
theorem inV_strs (x : Str) (tk : List Str) : inV (.str x) (tk.map V.str) = decide (x ∈ tk) := by
  unfold inV
  induction tk with
  | nil => rfl
  | cons y ys ih =>
    rw [List.map_cons, List.any_cons, ih]
    have e : eqV (.str y) (.str x) = decide (x = y) := by
      by_cases c : x = y
      · subst c; simp [eqV]
      · have c' : y ≠ x := fun z => c z.symm
        simp [eqV, c, c']
    rw [e]
    simp [Bool.decide_or]
theorem flat_strs (tk : List Str) : (tk.map V.str).all flatV = true := by
  rw [List.all_eq_true]; intro x hx; obtain ⟨y, _, rfl⟩ := List.mem_map.mp hx; rfl
def spPiece (K : PySem.W.Frag) : Sp := fun vs H Q _ => ∃ (l : Nat) (v : V) (d : PyData), vs = [.int l, v] ∧ Dt K H v d ∧ Small d ∧ 1 ≤ l ∧ l ≤ 4 ∧ ∀ G, Same H G → Q (.bl (pieceD l d).isSome) G
def spLPiece (K : PySem.W.Frag) : Sp := fun vs H Q _ => ∃ (l : Nat) (v : V) (d : PyData), vs = [v, .int l] ∧ Dt K H v d ∧ Small d ∧ 1 ≤ l ∧ l ≤ 4 ∧ ∀ G, Same H G → Q (.bl (pieceD l d).isSome) G
def spPair (K : PySem.W.Frag) : Sp := fun vs H Q _ => ∃ (l : Nat) (v : V) (d : PyData), vs = [.int l, v] ∧ Dt K H v d ∧ Small d ∧ 1 ≤ l ∧ l ≤ 4 ∧ ∀ G, Same H G → Q (.bl (pairD l d).isSome) G
def spRErr (K : PySem.W.Frag) : Sp := fun vs H Q _ => ∃ (l : Nat) (v : V) (d : PyData), vs = [.int l, v] ∧ Dt K H v d ∧ Small d ∧ 1 ≤ l ∧ l ≤ 4 ∧ ∀ v' G, Same H G → Dt K G v' (errD l d) → Q v' G
end KX
/-! Data over the heap as GLayer's, with any dict of the program's. -/
namespace GU
open PySem PySem.Spec PyProof.Rows L2 GL
mutual
inductive Du (K : PySem.W.Frag) (H : Hp) : V → PyData → Prop
  | non : Du K H .non .none
  | bl (b : Bool) : Du K H (.bl b) (.bool b)
  | int (i : Int) : Du K H (.int i) (.int i)
  | str (x : Str) : Du K H (.str x) (.str x)
  | lst {a : Addr} {vs : List V} {ds : List PyData} : H a = some (.lst vs) → DuAll K H vs ds → Du K H (.ref a) (.list ds)
  | tup {a : Addr} {vs : List V} {ds : List PyData} : H a = some (.tup vs) → DuAll K H vs ds → Du K H (.ref a) (.tuple ds)
  | dic {a : Addr} {kvs : List (Key × V)} : H a = some (.dK kvs) → Du K H (.ref a) (.dict [])
inductive DuAll (K : PySem.W.Frag) (H : Hp) : List V → List PyData → Prop
  | nil : DuAll K H [] []
  | cons {v : V} {vs : List V} {d : PyData} {ds : List PyData} : Du K H v d → DuAll K H vs ds → DuAll K H (v :: vs) (d :: ds)
end
section
variable {K : PySem.W.Frag} {H H' : Hp}
mutual
theorem Du.same (e : Same H H') : ∀ {d : PyData} {v : V}, Du K H v d → Du K H' v d
  | _, _, .non => .non
  | _, _, .bl b => .bl b
  | _, _, .int i => .int i
  | _, _, .str x => .str x
  | _, _, .lst h a => .lst (e _ _ h) (DuAll.same e a)
  | _, _, .tup h a => .tup (e _ _ h) (DuAll.same e a)
  | _, _, .dic h => .dic (e _ _ h)
theorem DuAll.same (e : Same H H') : ∀ {ds : List PyData} {vs : List V}, DuAll K H vs ds → DuAll K H' vs ds
  | _, _, .nil => .nil
  | _, _, .cons h a => .cons (Du.same e h) (DuAll.same e a)
end
theorem DuAll.length {ds : List PyData} : ∀ {vs : List V}, DuAll K H vs ds → vs.length = ds.length := by
  induction ds with
  | nil => intro vs h; cases h; rfl
  | cons d ds ih => intro vs h; cases h with | cons h1 h2 => simp [ih h2]
theorem DuAll.append : ∀ {ds es : List PyData} {vs us : List V}, DuAll K H vs ds → DuAll K H us es → DuAll K H (vs ++ us) (ds ++ es)
  | _, _, _, _, .nil, h => h
  | _, _, _, _, .cons a b, h => .cons a (DuAll.append b h)
theorem DuAll.take : ∀ {ds : List PyData} {vs : List V} (n : Nat), DuAll K H vs ds → DuAll K H (vs.take n) (ds.take n)
  | _, _, 0, _ => .nil
  | _, _, _ + 1, .nil => .nil
  | _, _, n + 1, .cons a b => .cons a (DuAll.take n b)
theorem DuAll.drop : ∀ {ds : List PyData} {vs : List V} (n : Nat), DuAll K H vs ds → DuAll K H (vs.drop n) (ds.drop n)
  | _, _, 0, h => h
  | _, _, _ + 1, .nil => .nil
  | _, _, n + 1, .cons _ b => DuAll.drop n b
theorem DuAll.get : ∀ {ds : List PyData} {vs : List V} {i : Nat} {v : V}, DuAll K H vs ds → vs[i]? = some v → ∃ d, ds[i]? = some d ∧ Du K H v d
  | _, _, i, _, .nil, h => by simp at h
  | _, _, 0, _, .cons a _, h => by simp at h; subst h; exact ⟨_, rfl, a⟩
  | _, _, i + 1, v, .cons _ b, h => by
    obtain ⟨d, h1, h2⟩ := DuAll.get (i := i) (v := v) b (by simpa using h)
    exact ⟨d, by simpa using h1, h2⟩
end

end GU
/-! What machine_error, rule_error, scheme_error tell, over data with any dict. -/
namespace KU
open PySem L2 GL KC GZ KW KR GU
open KX (Small pieceD pairD walkE errD okP inA ab)
open KX.Small (len mem str)
/-! ### what a machine is, over data -/
def isTup : PyData → Bool
  | .tuple _ => true
  | _ => false
def isStr : PyData → Bool
  | .str _ => true
  | _ => false
def isInt : PyData → Bool
  | .int _ => true
  | .bool _ => true
  | _ => false
def isBl : PyData → Bool
  | .bool _ => true
  | _ => false
def isNon : PyData → Bool
  | .none => true
  | _ => false
/-- an integer from lo to hi -/
def inR (lo hi : Int) : PyData → Bool
  | .int i => decide (lo ≤ i) && decide (i ≤ hi)
  | _ => false
def rowOk (letters states : Int) : PyData → Bool
  | .tuple ds => decide ((ds.length : Int) = letters) && ds.all fun d => isNon d || inR 0 (states - 1) d
  | _ => false
def rowsOk (letters : Int) : PyData → Bool
  | .tuple ds => decide (1 ≤ ds.length) && decide (ds.length ≤ 400) && ds.all (rowOk letters ds.length)
  | _ => false
def endsOk (states : Int) : PyData → Bool
  | .tuple ds => decide ((ds.length : Int) = states) && ds.all isBl
  | _ => false
def len0 : PyData → Int
  | .tuple ds => ds.length
  | _ => 0
def err : PyData → V
  | .tuple [l, r, e] => match l with
    | .int n => if inR 1 4 (.int n) then (if rowsOk n r then (if endsOk (len0 r) e then .non else .str "ends") else .str "rows") else .str "letters"
    | _ => .str "letters"
  | _ => .str "machine"

theorem kf_NoneType_tuple : kitB "NoneType" "tuple" = some false := by decide +kernel
theorem kf_bool_tuple : kitB "bool" "tuple" = some false := by decide +kernel
theorem kf_int_tuple : kitB "int" "tuple" = some false := by decide +kernel
theorem kf_str_tuple : kitB "str" "tuple" = some false := by decide +kernel
theorem kf_list_tuple : kitB "list" "tuple" = some false := by decide +kernel
theorem kf_tuple_tuple : kitB "tuple" "tuple" = some true := by decide +kernel
theorem kf_dict_tuple : kitB "dict" "tuple" = some false := by decide +kernel
theorem kf_NoneType_int : kitB "NoneType" "int" = some false := by decide +kernel
theorem kf_bool_int : kitB "bool" "int" = some true := by decide +kernel
theorem kf_int_int : kitB "int" "int" = some true := by decide +kernel
theorem kf_str_int : kitB "str" "int" = some false := by decide +kernel
theorem kf_list_int : kitB "list" "int" = some false := by decide +kernel
theorem kf_tuple_int : kitB "tuple" "int" = some false := by decide +kernel
theorem kf_dict_int : kitB "dict" "int" = some false := by decide +kernel
theorem kf_NoneType_bool : kitB "NoneType" "bool" = some false := by decide +kernel
theorem kf_bool_bool : kitB "bool" "bool" = some true := by decide +kernel
theorem kf_int_bool : kitB "int" "bool" = some false := by decide +kernel
theorem kf_str_bool : kitB "str" "bool" = some false := by decide +kernel
theorem kf_list_bool : kitB "list" "bool" = some false := by decide +kernel
theorem kf_tuple_bool : kitB "tuple" "bool" = some false := by decide +kernel
theorem kf_dict_bool : kitB "dict" "bool" = some false := by decide +kernel
theorem kf_NoneType_str : kitB "NoneType" "str" = some false := by decide +kernel
theorem kf_bool_str : kitB "bool" "str" = some false := by decide +kernel
theorem kf_int_str : kitB "int" "str" = some false := by decide +kernel
theorem kf_str_str : kitB "str" "str" = some true := by decide +kernel
theorem kf_list_str : kitB "list" "str" = some false := by decide +kernel
theorem kf_tuple_str : kitB "tuple" "str" = some false := by decide +kernel
theorem kf_dict_str : kitB "dict" "str" = some false := by decide +kernel
section
variable {K : PySem.W.Frag} {H : Hp} {v : V} {d : PyData} {Q : VK}
theorem is_tuple (h : Du K H v d) : ∃ t, TyX K H v t ∧ PySem.W.kitOne K t (.type "tuple") = some (isTup d) := by
  cases h with
  | non => exact ⟨_, .base .non, kit_ty kf_NoneType_tuple⟩
  | bl b => exact ⟨_, .base (.bl b), kit_ty kf_bool_tuple⟩
  | int i => exact ⟨_, .base (.int i), kit_ty kf_int_tuple⟩
  | str x => exact ⟨_, .base (.str x), kit_ty kf_str_tuple⟩
  | lst e _ => exact ⟨_, .base (.lst e), kit_ty kf_list_tuple⟩
  | tup e _ => exact ⟨_, .base (.tup e), kit_ty kf_tuple_tuple⟩
  | dic e => exact ⟨_, .base (.dK e), kit_ty kf_dict_tuple⟩
theorem is_int (h : Du K H v d) : ∃ t, TyX K H v t ∧ PySem.W.kitOne K t (.type "int") = some (isInt d) := by
  cases h with
  | non => exact ⟨_, .base .non, kit_ty kf_NoneType_int⟩
  | bl b => exact ⟨_, .base (.bl b), kit_ty kf_bool_int⟩
  | int i => exact ⟨_, .base (.int i), kit_ty kf_int_int⟩
  | str x => exact ⟨_, .base (.str x), kit_ty kf_str_int⟩
  | lst e _ => exact ⟨_, .base (.lst e), kit_ty kf_list_int⟩
  | tup e _ => exact ⟨_, .base (.tup e), kit_ty kf_tuple_int⟩
  | dic e => exact ⟨_, .base (.dK e), kit_ty kf_dict_int⟩
theorem is_bool (h : Du K H v d) : ∃ t, TyX K H v t ∧ PySem.W.kitOne K t (.type "bool") = some (isBl d) := by
  cases h with
  | non => exact ⟨_, .base .non, kit_ty kf_NoneType_bool⟩
  | bl b => exact ⟨_, .base (.bl b), kit_ty kf_bool_bool⟩
  | int i => exact ⟨_, .base (.int i), kit_ty kf_int_bool⟩
  | str x => exact ⟨_, .base (.str x), kit_ty kf_str_bool⟩
  | lst e _ => exact ⟨_, .base (.lst e), kit_ty kf_list_bool⟩
  | tup e _ => exact ⟨_, .base (.tup e), kit_ty kf_tuple_bool⟩
  | dic e => exact ⟨_, .base (.dK e), kit_ty kf_dict_bool⟩
theorem is_str (h : Du K H v d) : ∃ t, TyX K H v t ∧ PySem.W.kitOne K t (.type "str") = some (isStr d) := by
  cases h with
  | non => exact ⟨_, .base .non, kit_ty kf_NoneType_str⟩
  | bl b => exact ⟨_, .base (.bl b), kit_ty kf_bool_str⟩
  | int i => exact ⟨_, .base (.int i), kit_ty kf_int_str⟩
  | str x => exact ⟨_, .base (.str x), kit_ty kf_str_str⟩
  | lst e _ => exact ⟨_, .base (.lst e), kit_ty kf_list_str⟩
  | tup e _ => exact ⟨_, .base (.tup e), kit_ty kf_tuple_str⟩
  | dic e => exact ⟨_, .base (.dK e), kit_ty kf_dict_str⟩
theorem isNon_dt (h : Du K H v d) : decide (v = .non) = isNon d := by cases h <;> rfl
end

/-! ### promises -/
def spNumber (K : PySem.W.Frag) : Sp := fun vs H Q _ => ∃ (v : V) (d : PyData) (lo hi : Int), vs = [v, .int lo, .int hi] ∧ Du K H v d ∧ Q (.bl (inR lo hi d)) H
/-- new things may stand in the heap -/
def spRow (K : PySem.W.Frag) : Sp := fun vs H Q _ => ∃ (v : V) (d : PyData) (l n : Int), vs = [v, .int l, .int n] ∧ Du K H v d ∧ Small d ∧ ∀ H', Same H H' → Q (.bl (rowOk l n d)) H'
def spRows (K : PySem.W.Frag) : Sp := fun vs H Q _ => ∃ (v : V) (d : PyData) (l : Int), vs = [v, .int l] ∧ Du K H v d ∧ Small d ∧ ∀ H', Same H H' → Q (.bl (rowsOk l d)) H'
def spEnds (K : PySem.W.Frag) : Sp := fun vs H Q _ => ∃ (v : V) (d : PyData) (n : Int), vs = [v, .int n] ∧ Du K H v d ∧ Small d ∧ ∀ H', Same H H' → Q (.bl (endsOk n d)) H'
def spErr (K : PySem.W.Frag) : Sp := fun vs H Q _ => ∃ (v : V) (d : PyData), vs = [v] ∧ Du K H v d ∧ Small d ∧ ∀ H', Same H H' → Q (err d) H'

/-- len of a list or tuple, the written part by its name -/
def rLenS (K : PySem.W.Frag) : List V → Hp → VK → Prop := fun xs H Q => ∃ (p : Addr) (ys : List V), xs = [.ref p] ∧ (SqL K H p ys ∨ SqT K H p ys) ∧ Q (.int ys.length) H
theorem call_lenS {X : Cx} : CallR X (.builtin "len") (rLenS X.K) := call_len_seq
/-! ### lists of truth values made by a comprehension over data -/
section
variable {K : PySem.W.Frag} {H0 : Hp} {L a : Addr} {p : PyData → Bool} {vs : List V} {ds : List PyData} {g : TG} {tt : TT} {te : TE} {ix : List Nat} {σ : L2.St}
/-- behind i turns -/
def PvB (H0 : Hp) (L : Addr) (p : PyData → Bool) (ds : List PyData) (i : Nat) (G : Hp) : Prop := Same H0 G ∧ G L = some (.lst ((ds.take i).map fun d => V.bl (p d)))
theorem b_start (nL : H0 L = none) : PvB H0 L p ds 0 (upd H0 L (.lst [])) := ⟨same_new nL _, by rw [upd_same]; rfl⟩
theorem b_stay (ha : H0 a = some (.tup vs)) : ∀ i G, i ≤ vs.length → PvB H0 L p ds i G → SqT K G a vs := fun _ _ _ h => .inl (.inl (h.1 _ _ ha))
theorem b_turn (nL : H0 L = none) (hda : DuAll K H0 vs ds) (hz : vs.length ≤ 1000000)
    (step : ∀ (x : V) (d : PyData) (G : Hp) (R : VK) (N : Hp → Prop), d ∈ ds → Same H0 G → Du K G x d → (∀ G', Same G G' → R (.bl (p d)) G') → g x (wipe σ ix) G fun τ G2 => wipe τ ix = wipe σ ix ∧ tt τ G2 fun b G3 => if b = true then te τ G3 R else N G3) :
    ∀ i x G, vs[i]? = some x → PvB H0 L p ds i G → g x (wipe σ ix) G fun τ G2 => wipe τ ix = wipe σ ix ∧ tt τ G2 fun b G3 =>
      if b = true then te τ G3 (fun y G4 => ∃ acc, G4 L = some (.lst acc) ∧ acc.length < sizeLine ∧ PvB H0 L p ds (i + 1) (upd G4 L (.lst (acc ++ [y])))) else PvB H0 L p ds (i + 1) G3 := by
  intro i x G hx h
  obtain ⟨d, hd, hD⟩ := DuAll.get hda hx
  have il : i < ds.length := (List.getElem?_eq_some_iff.mp hd).1
  refine step x d G _ _ (List.mem_of_getElem? hd) h.1 (hD.same h.1) fun G' e => ⟨_, e _ _ h.2, ?_, same_grow nL (h.1.trans e) _, ?_⟩
  · rw [List.length_map, List.length_take, ← hda.length]
    show min i vs.length < 2 ^ 24
    omega
  · rw [upd_same, List.take_add_one, hd]
    simp
end

theorem inR_int {lo hi : Int} : ∀ {d : PyData}, inR lo hi d = true → ∃ i, d = .int i
  | .int i, _ => ⟨i, rfl⟩
theorem rowsOk_tup {l : Int} : ∀ {d : PyData}, rowsOk l d = true → ∃ rs, d = .tuple rs
  | .tuple rs, _ => ⟨rs, rfl⟩
theorem err_no {d : PyData} (h : ∀ l r e, d ≠ .tuple [l, r, e]) : err d = .str "machine" := by
  unfold err
  split
  · exact absurd rfl (h _ _ _)
  · rfl
theorem err_three {l r e : PyData} : err (.tuple [l, r, e]) = if inR 1 4 l = true then (match l with | .int n => (if rowsOk n r then (if endsOk (len0 r) e then .non else .str "ends") else .str "rows") | _ => .non) else .str "letters" := by
  cases l with
  | int n => rfl
  | _ => rfl
def spPiece (K : PySem.W.Frag) : Sp := fun vs H Q _ => ∃ (l : Nat) (v : V) (d : PyData), vs = [.int l, v] ∧ Du K H v d ∧ Small d ∧ 1 ≤ l ∧ l ≤ 4 ∧ ∀ G, Same H G → Q (.bl (pieceD l d).isSome) G
def spLPiece (K : PySem.W.Frag) : Sp := fun vs H Q _ => ∃ (l : Nat) (v : V) (d : PyData), vs = [v, .int l] ∧ Du K H v d ∧ Small d ∧ 1 ≤ l ∧ l ≤ 4 ∧ ∀ G, Same H G → Q (.bl (pieceD l d).isSome) G
def spPair (K : PySem.W.Frag) : Sp := fun vs H Q _ => ∃ (l : Nat) (v : V) (d : PyData), vs = [.int l, v] ∧ Du K H v d ∧ Small d ∧ 1 ≤ l ∧ l ≤ 4 ∧ ∀ G, Same H G → Q (.bl (pairD l d).isSome) G
def spRErr (K : PySem.W.Frag) : Sp := fun vs H Q _ => ∃ (l : Nat) (v : V) (d : PyData), vs = [.int l, v] ∧ Du K H v d ∧ Small d ∧ 1 ≤ l ∧ l ≤ 4 ∧ ∀ v' G, Same H G → Dt K G v' (errD l d) → Q v' G
end KU
namespace K08
open PySem L2 GL KC
def top (i : Nat) : Stmt := PySem.Challenge.pw_pairedaway_k08_items_and_operators_of_be.main.body.getD i (.Pass ⟨0, 0, 0, 0⟩)
abbrev sDeck : Stmt := top 64
abbrev sDraw : Stmt := top 65
abbrev sOne : Stmt := top 66
section
variable {P : Program} {w : World} {K : PySem.W.Frag} {mg : Str → Option Value} {base : Heap}
theorem scDeck : FnScope ["_law_script", "_law_cell"] ["_law_script"] (defScope sDeck) := ⟨rfl, rfl, rfl, by decide +kernel, rfl, by decide +kernel, by decide +kernel⟩
theorem ok_deck {f : Addr} {fd : FuncData} (F : Fun K "_law_deck" "_law_deck" sDeck f fd) (T : TxC mg) : FnOk P w K mg base CX0 1 f fd ["_law_script"] (spDeck K) := by
  refine F.ok scDeck (fun vs H Q E h => ?_) (fun cdv A outer s H vs Q E hr h => ?_)
  · obtain ⟨a, ns, rfl, _⟩ := h
    rfl
  obtain ⟨a, ns, rfl, hS, hl, q⟩ := h
  refine ⟨_, pss_one (ps_ret (pe_lst (pa_cons (pe_lc (own := [("_law_cell", 1)]) (g := gName 1) (tt := tYes) rfl scDeck.nd (pi_list (pe_slice sl_list (pv 0) po_none (po_some pe_int)))
      (blkOk_by (own := [("_law_cell", 1)]) (N := ["_law_script", "_law_cell"]) (sc := defScope sDeck) (by decide +kernel)) (fun _ _ _ _ _ => pg_name (i := 1) scDeck.nd rfl (Or.inl rfl)) (fun _ _ _ _ _ => pts_nil)
      (fun _ _ _ _ _ => pe_callB call_absS (by rfl) T.abs (by decide +kernel) (pa_cons (pv 1) pa_nil))) (pa_cons pe_int pa_nil)))), ?_⟩
  refine ⟨_, rfl, _, rfl, a, _, rfl, hS, fun p np => ?_⟩
  have isI : ∀ x ∈ cutV (ns.map V.int) none (some 63), ∃ i : Int, x = .int i := fun x hx => by
    obtain ⟨i, _, e⟩ := List.mem_map.mp (cut_mem hx)
    exact ⟨i, e.symm⟩
  have ll : (cutV (ns.map V.int) none (some 63)).length ≤ 63 := by
    have := cutV_length (ns.map V.int) none (some 63)
    rw [List.length_map] at this
    omega
  generalize cutV (ns.map V.int) none (some 63) = xs at isI ll
  have sp : Same H (upd H p (.lst xs)) := same_new np _
  refine ⟨p, rfl, ⟨_, .inl (.inl upd_same)⟩, fun L nL => lc_list (K := K) (a := p) (xs := xs) (fun i G => Same (upd H p (.lst xs)) G ∧ ∃ ys : List Int, G L = some (.lst (ys.map V.int)) ∧ ys.length = i ∧ ∀ y ∈ ys, 0 ≤ y)
    ⟨same_new nL _, [], upd_same, rfl, fun y z => nomatch z⟩ (fun i G _ h => .inl (.inl (h.1 _ _ upd_same))) (fun i x G hx h => ?_) fun G h => ?_⟩
  · obtain ⟨s1, ys, y1, y2, y3⟩ := h
    obtain ⟨z, rfl⟩ := isI x (List.mem_of_getElem? hx)
    have il : i < xs.length := (List.getElem?_eq_some_iff.mp hx).1
    refine ⟨rfl, _, rfl, z, rfl, _, y1, by rw [List.length_map, y2]; show i < 2 ^ 24; omega, same_grow nL s1 _, ys ++ [if z < 0 then -z else z], by rw [upd_same, List.map_append]; rfl, by rw [List.length_append, y2]; rfl, ?_⟩
    intro y hy
    rcases List.mem_append.mp hy with hy | hy
    · exact y3 y hy
    · rw [List.mem_singleton.mp hy]
      split <;> omega
  · obtain ⟨s1, ys, y1, y2, y3⟩ := h
    refine ⟨by show 2 ≤ 2 ^ 24; decide, fun d nd => ?_⟩
    have sG : Same H G := sp.trans s1
    have ndL : d ≠ L := fun e => by rw [e, y1] at nd; cases nd
    have nHL : H L = none := sp.free nL
    refine q d L _ (sG.trans (same_new nd _)) (sG.free nd) nHL ⟨ndL, ys, 0, upd_same, by rw [upd_ne ndL.symm]; exact y1, by omega, y3, Nat.le_refl _⟩
theorem scDraw : FnScope ["_law_deck_here", "_law_many", "_law_cell", "_law_at", "_law_mixed"] ["_law_deck_here", "_law_many"] (defScope sDraw) := ⟨rfl, rfl, rfl, by decide +kernel, rfl, by decide +kernel, by decide +kernel⟩
theorem ok_draw {f : Addr} {fd : FuncData} (F : Fun K "_law_draw" "_law_draw" sDraw f fd) (T : TxC mg) : FnOk P w K mg base CX0 1 f fd ["_law_deck_here", "_law_many"] spDraw := by
  refine F.ok scDraw (fun vs H Q E h => ?_) (fun cdv A outer s H vs Q E hr h => ?_)
  · obtain ⟨d, c, many, m, rfl, _⟩ := h
    rfl
  obtain ⟨d, c, many, m, rfl, D, hm, p1, p2, q⟩ := h
  refine ⟨_, pss_cons (ps_asg (pe_op op_add (pe_ix ix_list (pv 0) pe_int (fun _ _ => rfl)) pe_int) (pg_sub (pv 0) pe_int set_list))
    (pss_cons (ps_asg (pe_tup (pa_cons pe_int (pa_cons (pe_un un_neg pe_int) pa_nil))) (pg_tup (by rfl) (pgs_cons (pg_name (i := 2) scDraw.nd rfl (Or.inl rfl)) (pgs_cons (pg_name (i := 3) scDraw.nd rfl (Or.inl rfl)) pgs_nil))))
    (pss_cons (ps_if (pt_cmpR op_gt (pe_callB call_len_seq (by rfl) T.len PySem.boot_len (pa_cons (pe_ix ix_list (pv 0) pe_int (fun _ _ => rfl)) pa_nil)) pe_int (nomark _))
      (pss_cons (ps_set (i := 3) scDraw.nd rfl (Or.inl rfl) (pe_op op_mod (pe_callTy call_int1 (by rfl) T.int (by decide +kernel) (pa_cons (pe_ix ix_list (pv 0) pe_int (fun _ _ => rfl)) pa_nil)) (pe_callB call_len_seq (by rfl) T.len PySem.boot_len (pa_cons (pe_ix ix_list (pv 0) pe_int (fun _ _ => rfl)) pa_nil))))
      (pss_one (ps_set (i := 2) scDraw.nd rfl (Or.inl rfl) (pe_ix ix_list (pe_ix ix_list (pv 0) pe_int (fun _ _ => rfl)) (pv 3) (fun _ _ => rfl))))) pss_nil)
    (pss_cons (ps_if (pt_cmpR op_ge (pv 2) (pe_op op_pow pe_int pe_int) (nomark _))
      (pss_cons (ps_asg (pe_op op_fdiv (pe_callTy call_int1 (by rfl) T.int (by decide +kernel) (pa_cons (pv 2) pa_nil)) (pv 1)) (pg_sub (pe_ix ix_list (pv 0) pe_int (fun _ _ => rfl)) (pv 3) set_list))
      (pss_one (ps_ret (pe_op op_mod (pe_callTy call_int1 (by rfl) T.int (by decide +kernel) (pa_cons (pv 2) pa_nil)) (pv 1))))) pss_nil)
    (pss_cons (ps_set (i := 4) scDraw.nd rfl (Or.inl rfl) (pe_op op_add (pe_op op_add (pe_op op_mod (pe_callTy call_int1 (by rfl) T.int (by decide +kernel) (pa_cons (pv 2) pa_nil)) pe_int) (pe_op op_mul pe_int (pe_ix ix_list (pv 0) pe_int (fun _ _ => rfl)))) pe_int))
    (pss_one (ps_ret (pe_op op_mod (pe_callTy call_int1 (by rfl) T.int (by decide +kernel) (pa_cons (pe_op op_mod (pe_callTy call_int1 (by rfl) T.int (by decide +kernel) (pa_cons (pe_op op_pow (pv 4) pe_int) pa_nil)) pe_int) pa_nil)) (pv 1)))))))), ?_⟩
  obtain ⟨ne, L, n, h1, h2, h3, h4, h5⟩ := D
  -- the count goes up
  refine ⟨_, rfl, d, _, 1, .int n, rfl, rfl, .inl (.inl h1), rfl, _, _, rfl, rfl, _, rfl, d, _, 1, 1, rfl, rfl, h1, rfl, ?_⟩
  have e1 : (List.set [V.ref c, V.int n] 1 (V.int ((n : Int) + 1))) = [.ref c, .int ((n + 1 : Nat) : Int)] := rfl
  rw [e1]
  have g1 : upd H d (.lst [.ref c, .int ((n + 1 : Nat) : Int)]) d = some (.lst [.ref c, .int ((n + 1 : Nat) : Int)]) := upd_same
  have g2 : upd H d (.lst [.ref c, .int ((n + 1 : Nat) : Int)]) c = some (.lst (L.map V.int)) := by rw [upd_ne ne.symm]; exact h2
  have sH : Same (Hd d c H) (Hd d c (upd H d (.lst [.ref c, .int ((n + 1 : Nat) : Int)]))) := hd_put (.inl rfl) _
  generalize upd H d (.lst [.ref c, .int ((n + 1 : Nat) : Int)]) = H1 at g1 g2 sH
  have D1 : Deck H1 d c (m + 1) := ⟨ne, L, n + 1, g1, g2, h3, h4, Nat.succ_le_succ h5⟩
  -- the cell and its place
  refine ⟨_, rfl, by show 2 ≤ 2 ^ 24; decide, fun p np => ?_⟩
  replace sH := sH.trans (hd_new np (.tup [V.int 0, V.int (-1)]))
  have gt : upd H1 p (.tup [V.int 0, V.int (-1)]) p = some (.tup [V.int 0, V.int (-1)]) := upd_same
  replace g1 := same_new np (.tup [V.int 0, V.int (-1)]) _ _ g1
  replace g2 := same_new np (.tup [V.int 0, V.int (-1)]) _ _ g2
  replace D1 := D1.new np (.tup [V.int 0, V.int (-1)])
  generalize upd H1 p (.tup [V.int 0, V.int (-1)]) = H2 at sH gt g1 g2 D1
  refine ⟨p, _, rfl, .inl (.inl gt), rfl, _, _, rfl, _, _, rfl, rfl, ?_⟩
  refine ⟨_, rfl, d, _, 0, _, rfl, rfl, .inl (.inl g1), rfl, c, _, rfl, .inl (.inl (.inl g2)), _, _, rfl, rfl, _, rfl, ?_⟩
  have hL : ((L.map V.int).length : Int) = (L.length : Int) := by rw [List.length_map]
  refine ite2 (fun c0 => ?_) (fun c0 => ?_)
  · have lp : 0 < L.length := by have := of_decide_eq_true c0; rw [hL] at this; omega
    have k0 : 0 ≤ ((n + 1 : Nat) : Int) % ((L.map V.int).length : Int) := Int.emod_nonneg _ (by rw [hL]; omega)
    have k1 : ((n + 1 : Nat) : Int) % ((L.map V.int).length : Int) < (L.length : Int) := by
      have := Int.emod_lt_of_pos ((n + 1 : Nat) : Int) (b := ((L.map V.int).length : Int)) (by rw [hL]; omega)
      rw [hL] at this ⊢
      exact this
    have hk : ∀ z : Int, (10 : Int) ^ (18 : Int).toNat ≤ z → ∃ j, ixN (L.map V.int).length (((n + 1 : Nat) : Int) % ((L.map V.int).length : Int)) = some j ∧ j < L.length := fun _ _ => ⟨_, by unfold ixN; rw [if_pos k0, if_pos (by omega)], by omega⟩
    obtain ⟨j0, ej⟩ : ∃ j : Nat, ((n + 1 : Nat) : Int) % ((L.map V.int).length : Int) = (j : Int) := ⟨_, (Int.toNat_of_nonneg k0).symm⟩
    have jl : j0 < L.length := by rw [ej] at k1; omega
    obtain ⟨z, hz0⟩ : ∃ z, L[j0]? = some z := ⟨_, List.getElem?_eq_getElem jl⟩
    have hz : 0 ≤ z := h4 _ (List.mem_of_getElem? hz0)
    replace hk := hk z
    refine ⟨_, rfl, d, _, 1, _, rfl, rfl, .inl (.inl g1), rfl, .inl ⟨_, rfl, ?_⟩⟩
    refine ⟨_, rfl, d, _, 0, _, rfl, rfl, .inl (.inl g1), rfl, c, _, rfl, .inl (.inl (.inl g2)), _, _, rfl, rfl, (by rw [hL]; show (0 : Int) < L.length; omega), ?_⟩
    refine ⟨_, rfl, d, _, 0, _, rfl, rfl, .inl (.inl g1), rfl, _, rfl, c, _, _, _, rfl, rfl, .inl (.inl g2), at_of ej (by rw [List.getElem?_map, hz0]; rfl), ?_⟩
    refine ⟨_, rfl, _, _, rfl, rfl, ⟨by decide, by decide, by decide⟩, _, _, rfl, rfl, _, rfl, ite2 (fun c1 => ?_) (fun c1 => ?_)⟩
    · obtain ⟨j, hj, hj2⟩ := hk (of_decide_eq_true c1)
      refine ⟨_, rfl, .inl ⟨_, rfl, _, rfl, _, _, rfl, rfl, ⟨p1, p2⟩, _, rfl, d, _, 0, _, rfl, rfl, .inl (.inl g1), rfl, _, rfl, c, _, _, j, rfl, rfl, g2, hj, ?_⟩⟩
      refine ⟨_, rfl, .inl ⟨_, rfl, _, rfl, _, _, rfl, rfl, p1, ?_⟩⟩
      refine q _ _ (Int.emod_nonneg _ (by omega)) (Int.emod_lt_of_pos _ p1) ⟨ne, L.set j (z / many), n + 1, ?_, ?_, ?_, ?_, Nat.succ_le_succ h5⟩ (sH.trans (hd_put (.inr rfl) _))
      · rw [upd_ne ne]; exact g1
      · rw [upd_same, List.map_set]
      · rw [List.length_set]; exact h3
      · intro x hx
        rcases List.mem_or_eq_of_mem_set hx with hx | hx
        · exact h4 x hx
        · rw [hx]; exact Int.ediv_nonneg hz (by omega)
    · have b1 : 0 ≤ z % 2147483563 := Int.emod_nonneg _ (by decide)
      have b2 : z % 2147483563 < 2147483563 := Int.emod_lt_of_pos _ (by decide)
      refine ⟨_, rfl, .inl ⟨_, rfl, _, _, rfl, rfl, by show (0 : Int) < 2147483563; decide, _, rfl, d, _, 1, _, rfl, rfl, .inl (.inl g1), rfl, _, _, rfl, rfl, .inl ⟨by decide, by decide⟩, _, _, rfl, rfl, _, _, rfl, rfl, ?_⟩⟩
      refine ⟨_, rfl, _, _, rfl, rfl, ⟨by decide, by decide, ?_⟩, .inl ⟨_, rfl, _, _, rfl, rfl, by show (0 : Int) < 2147483629; decide, .inl ⟨_, rfl, _, rfl, _, _, rfl, rfl, p1, ?_⟩⟩⟩
      · show (z % 2147483563 + 8117 * ((n + 1 : Nat) : Int) + 3).natAbs < 2 ^ 64
        omega
      · exact q _ _ (Int.emod_nonneg _ (by omega)) (Int.emod_lt_of_pos _ p1) D1 sH
  · have hz : (0 : Int) ≤ 0 := Int.le_refl 0
    have hk : (10 : Int) ^ (18 : Int).toNat ≤ 0 → ∃ j, ixN (L.map V.int).length (-1) = some j ∧ j < L.length := fun h => absurd h (by decide)
    refine ⟨_, rfl, _, _, rfl, rfl, ⟨by decide, by decide, by decide⟩, _, _, rfl, rfl, _, rfl, ite2 (fun c1 => ?_) (fun c1 => ?_)⟩
    · obtain ⟨j, hj, hj2⟩ := hk (of_decide_eq_true c1)
      refine ⟨_, rfl, .inl ⟨_, rfl, _, rfl, _, _, rfl, rfl, ⟨p1, p2⟩, _, rfl, d, _, 0, _, rfl, rfl, .inl (.inl g1), rfl, _, rfl, c, _, _, j, rfl, rfl, g2, hj, ?_⟩⟩
      refine ⟨_, rfl, .inl ⟨_, rfl, _, rfl, _, _, rfl, rfl, p1, ?_⟩⟩
      refine q _ _ (Int.emod_nonneg _ (by omega)) (Int.emod_lt_of_pos _ p1) ⟨ne, L.set j ((0 : Int) / many), n + 1, ?_, ?_, ?_, ?_, Nat.succ_le_succ h5⟩ (sH.trans (hd_put (.inr rfl) _))
      · rw [upd_ne ne]; exact g1
      · rw [upd_same, List.map_set]
      · rw [List.length_set]; exact h3
      · intro x hx
        rcases List.mem_or_eq_of_mem_set hx with hx | hx
        · exact h4 x hx
        · rw [hx]; exact Int.ediv_nonneg hz (by omega)
    · have b1 : 0 ≤ (0 : Int) % 2147483563 := Int.emod_nonneg _ (by decide)
      have b2 : (0 : Int) % 2147483563 < 2147483563 := Int.emod_lt_of_pos _ (by decide)
      refine ⟨_, rfl, .inl ⟨_, rfl, _, _, rfl, rfl, by show (0 : Int) < 2147483563; decide, _, rfl, d, _, 1, _, rfl, rfl, .inl (.inl g1), rfl, _, _, rfl, rfl, .inl ⟨by decide, by decide⟩, _, _, rfl, rfl, _, _, rfl, rfl, ?_⟩⟩
      refine ⟨_, rfl, _, _, rfl, rfl, ⟨by decide, by decide, ?_⟩, .inl ⟨_, rfl, _, _, rfl, rfl, by show (0 : Int) < 2147483629; decide, .inl ⟨_, rfl, _, rfl, _, _, rfl, rfl, p1, ?_⟩⟩⟩
      · show ((0 : Int) % 2147483563 + 8117 * ((n + 1 : Nat) : Int) + 3).natAbs < 2 ^ 64
        omega
      · exact q _ _ (Int.emod_nonneg _ (by omega)) (Int.emod_lt_of_pos _ p1) D1 sH
end
section
variable {P : Program} {w : World} {K : PySem.W.Frag} {mg : Str → Option Value} {base : Heap}
theorem scOne : FnScope ["_law_deck_here", "_law_items"] ["_law_deck_here", "_law_items"] (defScope sOne) := ⟨rfl, rfl, rfl, by decide +kernel, rfl, by decide +kernel, by decide +kernel⟩
theorem ok_one {f fD : Addr} {fd fdD : FuncData} (F : Fun K "_law_one" "_law_one" sOne f fd) (T : TxC mg) (W : Dfn P w K mg base "_law_draw" 1 fD fdD ["_law_deck_here", "_law_many"] spDraw) :
    FnOk P w K mg base CX0 2 f fd ["_law_deck_here", "_law_items"] spOne := by
  refine F.ok scOne (fun vs H Q E h => ?_) (fun cdv A outer s H vs Q E hr h => ?_)
  · obtain ⟨d, c, a, xs, m, rfl, _⟩ := h
    rfl
  obtain ⟨d, c, a, xs, m, rfl, D, hm, ha, x0, x1, q⟩ := h
  refine ⟨_, pss_one (ps_ret (pe_ix ix_list (pv 1) (pe_call W.ok hr rfl W.m W.kp W.b .nil pass0 (pa_cons (pv 0) (pa_cons (pe_callB call_len_seq (by rfl) T.len PySem.boot_len (pa_cons (pv 1) pa_nil)) pa_nil))) (fun _ _ => rfl))), ?_⟩
  refine ⟨_, rfl, _, rfl, _, rfl, a, xs, rfl, .inl (.inl (.inl (hd_sub _ _ ha))), d, c, xs.length, m, rfl, D, hm, by omega, by omega, fun r G r0 r1 D2 s2 => ?_⟩
  obtain ⟨j, rfl⟩ : ∃ j : Nat, r = (j : Int) := ⟨r.toNat, by omega⟩
  have jl : j < xs.length := by omega
  obtain ⟨v, hv⟩ : ∃ v, xs[j]? = some v := ⟨_, List.getElem?_eq_getElem jl⟩
  exact ⟨a, xs, _, v, rfl, rfl, .inl (.inl (hd_sub _ _ (s2 _ _ ha))), atI_nat hv, q v G (List.mem_of_getElem? hv) D2 s2⟩
end
end K08
namespace K08
open PySem GL GZ KW KR GU KU
open L2 hiding isNon
open KC hiding rLenS call_lenS
open KX (Small pieceD pairD walkE errD okP inA ab piece_str pair_two pair_no inV_strs flat_strs mt_extendT rExtT op_eqL0 call_listX rListX)
abbrev sNumber : Stmt := top 22
abbrev sRow : Stmt := top 23
abbrev sRows : Stmt := top 24
abbrev sEnds : Stmt := top 25
abbrev sMErr : Stmt := top 26
abbrev sPiece : Stmt := top 36
abbrev sPair : Stmt := top 37
abbrev sRErr : Stmt := top 38
structure Txt (mg : Str → Option Value) : Prop where
  c : TxC mg
  isi : mg "isinstance" = none
  str : mg "str" = none
  bool : mg "bool" = none
  all : mg "all" = none
  enum : mg "enumerate" = none
  list : mg "list" = none
  repr : mg "repr" = none
  ml : ∃ t, mg "MAX_LETTERS" = some (.int 4 t)
  ms : ∃ t, mg "MAX_STATES" = some (.int 8 t)
  mr : ∃ t, mg "MAX_ROWS" = some (.int 400 t)
  mw : ∃ t, mg "MAX_WINDOW" = some (.int 3 t)
  mp : ∃ t, mg "MAX_PAIRS" = some (.int 6 t)
  lt : ∃ t, mg "LETTERS" = some (.str "abcd" t)
section
variable {P : Program} {w : World} {K : PySem.W.Frag} {mg : Str → Option Value} {base : Heap}
theorem scN : FnScope ["value", "low", "high"] ["value", "low", "high"] (defScope sNumber) := ⟨rfl, rfl, rfl, by decide +kernel, rfl, by decide +kernel, by decide +kernel⟩
theorem ok_number {f : Addr} {fd : FuncData} (F : Fun K "is_number" "is_number" sNumber f fd) (T : Txt mg) : FnOk P w K mg base CX0 1 f fd ["value", "low", "high"] (spNumber K) := by
  refine F.ok scN (fun vs H Q E h => ?_) (fun cdv A outer s H vs Q E hr h => ?_)
  · obtain ⟨v, d, lo, hi, rfl, _⟩ := h
    rfl
  obtain ⟨v, d, lo, hi, rfl, hd, q⟩ := h
  refine ⟨_, pss_one (ps_ret (pe_and (pe_callB call_isi (by rfl) T.isi (by decide +kernel) (pa_cons (pv 0) (pa_cons (pe_bltn (v := .ty "int") (by rfl) T.c.int (by decide +kernel) rfl) pa_nil)))
    (pe_and (pe_not (pe_callB call_isi (by rfl) T.isi (by decide +kernel) (pa_cons (pv 0) (pa_cons (pe_bltn (v := .ty "bool") (by rfl) T.bool (by decide +kernel) rfl) pa_nil))))
    (pe_one (pe_chain op_le op_le (pv 1) (pv 0) (pv 2)))))), ?_⟩
  obtain ⟨ti, i1, i2⟩ := is_int hd
  obtain ⟨tb, b1, b2⟩ := is_bool hd
  refine ⟨_, rfl, _, _, ti, _, _, rfl, .ty _, i1, i2, _, rfl, ?_⟩
  cases hd with
  | int i =>
    refine iteT ⟨_, rfl, _, _, tb, _, _, rfl, .ty _, b1, b2, _, rfl, _, rfl, iteT ⟨_, rfl, _, rfl, _, _, rfl, rfl, _, rfl, ite2 (fun c => ?_) (fun c => ?_)⟩⟩
    · refine ⟨_, rfl, _, _, rfl, rfl, ?_⟩
      have e : inR lo hi (.int i) = decide (i ≤ hi) := by
        show (decide (lo ≤ i) && decide (i ≤ hi)) = _
        rw [c]; rfl
      show Q (.bl (decide (i ≤ hi))) H
      rw [← e]; exact q
    · have e : inR lo hi (.int i) = false := by
        show (decide (lo ≤ i) && decide (i ≤ hi)) = _
        rw [Bool.eq_false_iff.mpr c]; rfl
      show Q (.bl false) H
      rw [← e]; exact q
  | bl b => exact iteT ⟨_, rfl, _, _, tb, _, _, rfl, .ty _, b1, b2, _, rfl, _, rfl, iteF q⟩
  | non => exact iteF q
  | str x => exact iteF q
  | lst _ _ => exact iteF q
  | tup _ _ => exact iteF q
  | dic _ => exact iteF q
theorem scR : FnScope ["value", "letters", "states", "item"] ["value", "letters", "states"] (defScope sRow) := ⟨rfl, rfl, rfl, by decide +kernel, rfl, by decide +kernel, by decide +kernel⟩
theorem ok_row {f fN : Addr} {fd fdN : FuncData} (F : Fun K "is_row" "is_row" sRow f fd) (T : Txt mg) (D : Dfn P w K mg base "is_number" 1 fN fdN ["value", "low", "high"] (spNumber K)) :
    FnOk P w K mg base CX0 2 f fd ["value", "letters", "states"] (spRow K) := by
  refine F.ok scR (fun vs H Q E h => ?_) (fun cdv A outer s H vs Q E hr h => ?_)
  · obtain ⟨v, d, l, n, rfl, _⟩ := h
    rfl
  obtain ⟨v, d, l, n, rfl, hd, hw, q⟩ := h
  refine ⟨_, pss_cons (ps_if (PW.pt (pw_or (pt_not (pt_val (pe_callB call_isi (by rfl) T.isi (by decide +kernel) (pa_cons (pv 0) (pa_cons (pe_bltn (v := .ty "tuple") (by rfl) T.c.tuple (by decide +kernel) rfl) pa_nil)))))
      (pw_or1 (pt_cmpR op_ne (pe_callB call_len_seq (by rfl) T.c.len PySem.boot_len (pa_cons (pv 0) pa_nil)) (pv 1) (nomark _))))) (pss_one (ps_ret pe_bl)) pss_nil)
    (pss_one (ps_ret (pe_callB (cr_all rfl) (by rfl) T.all (by decide +kernel) (pa_cons (pe_lc (own := [("item", 3)]) (g := gName 3) (tt := tYes) rfl scR.nd (pi_tup (pv 0))
      (blkOk_by (own := [("item", 3)]) (N := ["value", "letters", "states", "item"]) (sc := defScope sRow) (by decide +kernel)) (fun _ _ _ _ _ => pg_name (i := 3) scR.nd rfl (Or.inl rfl)) (fun _ _ _ _ _ => pts_nil)
      (fun _ _ _ _ _ => pe_or (pe_cmp (pc_isN (pv 3)) rfl) (pe_one (pe_call D.ok hr rfl D.m D.kp D.b .nil pass0 (pa_cons (pv 3) (pa_cons pe_int (pa_cons (pe_op op_sub (pv 2) pe_int) pa_nil))))))) pa_nil)))), ?_⟩
  obtain ⟨ti, i1, i2⟩ := is_tuple hd
  refine ⟨_, rfl, _, _, ti, _, _, rfl, .ty _, i1, i2, _, rfl, ?_⟩
  cases hd with
  | @tup a vs ds ha hda =>
    have hl : vs.length = ds.length := hda.length
    refine iteF ⟨_, rfl, _, _, rfl, .inr (.inl (.inl ha)), _, rfl, rfl, _, rfl, ite2 (fun c => ?_) (fun c => ?_)⟩
    · have c' : ¬ ((ds.length : Int) = l) := by rw [← hl]; simpa using c
      have e : rowOk l n (.tuple ds) = false := by
        show (decide ((ds.length : Int) = l) && _) = false
        rw [decide_eq_false c']; rfl
      show Q (.bl false) H
      rw [← e]; exact q H (Same.refl H)
    · have c' : (ds.length : Int) = l := by rw [← hl]; simpa using c
      have e : rowOk l n (.tuple ds) = ds.all fun d => isNon d || inR 0 (n - 1) d := by
        show (decide ((ds.length : Int) = l) && _) = _
        rw [decide_eq_true c']; rfl
      refine ⟨_, rfl, _, rfl, ⟨_, .inl (.inl ha)⟩, fun L nL => lc_tup (K := K) (a := a) (xs := vs) (PvB H L (fun d => isNon d || inR 0 (n - 1) d) ds) (b_start nL) (b_stay ha)
        (b_turn nL hda (by rw [hl]; exact hw.len) fun x d G R N hm hs hD k => ?_) fun G h => ?_⟩
      · refine ⟨rfl, _, rfl, _, rfl, ite2 (fun c2 => ?_) (fun c2 => ?_)⟩
        · have e2 : (isNon d || inR 0 (n - 1) d) = true := by rw [← isNon_dt hD, c2]; rfl
          rw [← e2]; exact k G (Same.refl G)
        · have e2 : (isNon d || inR 0 (n - 1) d) = inR 0 (n - 1) d := by rw [← isNon_dt hD, Bool.eq_false_iff.mpr c2]; rfl
          refine ⟨_, rfl, _, rfl, _, _, rfl, rfl, x, d, 0, n - 1, rfl, hD, ?_⟩
          rw [← e2]; exact k G (Same.refl G)
      · have hb : G L = some (.lst ((ds.map fun d => isNon d || inR 0 (n - 1) d).map V.bl)) := by
          rw [h.2, hl, List.take_length, List.map_map]; rfl
        refine ⟨_, _, rfl, .inl (.inl hb), ?_⟩
        have e2 : (ds.map fun d => isNon d || inR 0 (n - 1) d).all id = rowOk l n (.tuple ds) := by rw [e, List.all_map]; rfl
        rw [e2]
        exact q G h.1
  | int i => exact iteT (q H (Same.refl H))
  | bl b => exact iteT (q H (Same.refl H))
  | non => exact iteT (q H (Same.refl H))
  | str x => exact iteT (q H (Same.refl H))
  | lst _ _ => exact iteT (q H (Same.refl H))
  | dic _ => exact iteT (q H (Same.refl H))
theorem scRs : FnScope ["value", "letters", "row"] ["value", "letters"] (defScope sRows) := ⟨rfl, rfl, rfl, by decide +kernel, rfl, by decide +kernel, by decide +kernel⟩
theorem ok_rows {f fN : Addr} {fd fdN : FuncData} (F : Fun K "are_rows" "are_rows" sRows f fd) (T : Txt mg) (D : Dfn P w K mg base "is_row" 2 fN fdN ["value", "letters", "states"] (spRow K)) :
    FnOk P w K mg base CX0 3 f fd ["value", "letters"] (spRows K) := by
  refine F.ok scRs (fun vs H Q E h => ?_) (fun cdv A outer s H vs Q E hr h => ?_)
  · obtain ⟨v, d, l, rfl, _⟩ := h
    rfl
  obtain ⟨v, d, l, rfl, hd, hw, q⟩ := h
  obtain ⟨tk, mr⟩ := T.mr
  refine ⟨_, pss_cons (ps_if (PW.pt (pw_or (pt_not (pt_val (pe_callB call_isi (by rfl) T.isi (by decide +kernel) (pa_cons (pv 0) (pa_cons (pe_bltn (v := .ty "tuple") (by rfl) T.c.tuple (by decide +kernel) rfl) pa_nil)))))
      (pw_or1 (pt_not (pt_chain op_le op_le pe_int (pe_callB call_len_seq (by rfl) T.c.len PySem.boot_len (pa_cons (pv 0) pa_nil)) (pe_glob (v := .int 400) rfl mr ⟨_, rfl⟩)))))) (pss_one (ps_ret pe_bl)) pss_nil)
    (pss_one (ps_ret (pe_callB (cr_all rfl) (by rfl) T.all (by decide +kernel) (pa_cons (pe_lc (own := [("row", 2)]) (g := gName 2) (tt := tYes) rfl scRs.nd (pi_tup (pv 0))
      (blkOk_by (own := [("row", 2)]) (N := ["value", "letters", "row"]) (sc := defScope sRows) (by decide +kernel)) (fun _ _ _ _ _ => pg_name (i := 2) scRs.nd rfl (Or.inl rfl)) (fun _ _ _ _ _ => pts_nil)
      (fun _ _ _ _ _ => pe_call D.ok hr rfl D.m D.kp D.b .nil pass0 (pa_cons (pv 2) (pa_cons (pv 1) (pa_cons (pe_callB (show CallR _ _ (rLenS K) from call_lenS) (by rfl) T.c.len PySem.boot_len (pa_cons (pv 0) pa_nil)) pa_nil))))) pa_nil)))), ?_⟩
  obtain ⟨ti, i1, i2⟩ := is_tuple hd
  refine ⟨_, rfl, _, _, ti, _, _, rfl, .ty _, i1, i2, _, rfl, ?_⟩
  cases hd with
  | @tup a vs ds ha hda =>
    have hl : vs.length = ds.length := hda.length
    have key : ∀ G : Hp, Same H G → Q (.bl (decide (1 ≤ ds.length) && decide (ds.length ≤ 400) && ds.all (rowOk l ds.length))) G := q
    refine iteF ⟨_, rfl, _, _, rfl, .inr (.inl (.inl ha)), _, _, rfl, rfl, _, rfl, ite2 (fun c => ?_) (fun c => ?_)⟩
    · have c1 : 1 ≤ ds.length := by have := of_decide_eq_true c; omega
      refine ⟨_, _, rfl, rfl, _, rfl, ite2 (fun c2 => ?_) (fun c2 => ?_)⟩
      · have c3 : ¬ ds.length ≤ 400 := by
          intro z
          have z' : ((vs.length : Nat) : Int) ≤ 400 := by omega
          rw [decide_eq_true z'] at c2
          cases c2
        have k2 := key H (Same.refl H)
        rw [decide_eq_false c3, Bool.and_false, Bool.false_and] at k2
        exact k2
      · have c3 : ds.length ≤ 400 := by
          refine Classical.byContradiction fun z => c2 ?_
          have z' : ¬ ((vs.length : Nat) : Int) ≤ 400 := by omega
          rw [decide_eq_false z']
          rfl
        refine ⟨_, rfl, _, rfl, ⟨_, .inl (.inl ha)⟩, fun L nL => lc_tup (K := K) (a := a) (xs := vs) (PvB H L (rowOk l ds.length) ds) (b_start nL) (b_stay ha)
          (b_turn nL hda (by rw [hl]; exact hw.len) fun x d G R N hm hs hD k => ?_) fun G h => ?_⟩
        · exact ⟨rfl, _, rfl, _, rfl, _, rfl, a, vs, rfl, .inr (.inl (.inl (hs _ _ ha))), x, d, l, ds.length, by rw [← hl]; rfl, hD, hw.mem hm, k⟩
        · have hb : G L = some (.lst ((ds.map (rowOk l ds.length)).map V.bl)) := by
            rw [h.2, hl, List.take_length, List.map_map]; rfl
          refine ⟨_, _, rfl, .inl (.inl hb), ?_⟩
          have k2 := key G h.1
          rw [decide_eq_true c1, decide_eq_true c3, Bool.true_and, Bool.true_and] at k2
          have e2 : (ds.map (rowOk l ds.length)).all id = ds.all (rowOk l ds.length) := by rw [List.all_map]; rfl
          rw [e2]
          exact k2
    · have c3 : ¬ 1 ≤ ds.length := by
        intro z
        exact c (decide_eq_true (by omega))
      have k2 := key H (Same.refl H)
      rw [decide_eq_false c3, Bool.false_and, Bool.false_and] at k2
      exact ⟨_, rfl, k2⟩
  | int i => exact iteT (q H (Same.refl H))
  | bl b => exact iteT (q H (Same.refl H))
  | non => exact iteT (q H (Same.refl H))
  | str x => exact iteT (q H (Same.refl H))
  | lst _ _ => exact iteT (q H (Same.refl H))
  | dic _ => exact iteT (q H (Same.refl H))
theorem scE : FnScope ["value", "states", "end"] ["value", "states"] (defScope sEnds) := ⟨rfl, rfl, rfl, by decide +kernel, rfl, by decide +kernel, by decide +kernel⟩
theorem ok_ends {f : Addr} {fd : FuncData} (F : Fun K "are_ends" "are_ends" sEnds f fd) (T : Txt mg) : FnOk P w K mg base CX0 1 f fd ["value", "states"] (spEnds K) := by
  refine F.ok scE (fun vs H Q E h => ?_) (fun cdv A outer s H vs Q E hr h => ?_)
  · obtain ⟨v, d, n, rfl, _⟩ := h
    rfl
  obtain ⟨v, d, n, rfl, hd, hw, q⟩ := h
  refine ⟨_, pss_cons (ps_if (PW.pt (pw_or (pt_not (pt_val (pe_callB call_isi (by rfl) T.isi (by decide +kernel) (pa_cons (pv 0) (pa_cons (pe_bltn (v := .ty "tuple") (by rfl) T.c.tuple (by decide +kernel) rfl) pa_nil)))))
      (pw_or1 (pt_cmpR op_ne (pe_callB call_len_seq (by rfl) T.c.len PySem.boot_len (pa_cons (pv 0) pa_nil)) (pv 1) (nomark _))))) (pss_one (ps_ret pe_bl)) pss_nil)
    (pss_one (ps_ret (pe_callB (cr_all rfl) (by rfl) T.all (by decide +kernel) (pa_cons (pe_lc (own := [("end", 2)]) (g := gName 2) (tt := tYes) rfl scE.nd (pi_tup (pv 0))
      (blkOk_by (own := [("end", 2)]) (N := ["value", "states", "end"]) (sc := defScope sEnds) (by decide +kernel)) (fun _ _ _ _ _ => pg_name (i := 2) scE.nd rfl (Or.inl rfl)) (fun _ _ _ _ _ => pts_nil)
      (fun _ _ _ _ _ => pe_callB (show CallR _ _ (rIsi K) from call_isi) (by rfl) T.isi (by decide +kernel) (pa_cons (pv 2) (pa_cons (pe_bltn (v := .ty "bool") (by rfl) T.bool (by decide +kernel) rfl) pa_nil)))) pa_nil)))), ?_⟩
  obtain ⟨ti, i1, i2⟩ := is_tuple hd
  refine ⟨_, rfl, _, _, ti, _, _, rfl, .ty _, i1, i2, _, rfl, ?_⟩
  cases hd with
  | @tup a vs ds ha hda =>
    have hl : vs.length = ds.length := hda.length
    have key : ∀ G : Hp, Same H G → Q (.bl (decide ((ds.length : Int) = n) && ds.all isBl)) G := q
    refine iteF ⟨_, rfl, _, _, rfl, .inr (.inl (.inl ha)), _, rfl, rfl, _, rfl, ite2 (fun c => ?_) (fun c => ?_)⟩
    · have c' : ¬ ((ds.length : Int) = n) := by rw [← hl]; simpa using c
      have k2 := key H (Same.refl H)
      rw [decide_eq_false c', Bool.false_and] at k2
      exact k2
    · have c' : (ds.length : Int) = n := by rw [← hl]; simpa using c
      refine ⟨_, rfl, _, rfl, ⟨_, .inl (.inl ha)⟩, fun L nL => lc_tup (K := K) (a := a) (xs := vs) (PvB H L isBl ds) (b_start nL) (b_stay ha)
        (b_turn nL hda (by rw [hl]; exact hw.len) fun x d G R N hm hs hD k => ?_) fun G h => ?_⟩
      · obtain ⟨tb, b1, b2⟩ := is_bool hD
        exact ⟨rfl, _, rfl, _, _, tb, _, _, rfl, .ty _, b1, b2, k G (Same.refl G)⟩
      · have hb : G L = some (.lst ((ds.map isBl).map V.bl)) := by
          rw [h.2, hl, List.take_length, List.map_map]; rfl
        refine ⟨_, _, rfl, .inl (.inl hb), ?_⟩
        have k2 := key G h.1
        rw [decide_eq_true c', Bool.true_and] at k2
        have e2 : (ds.map isBl).all id = ds.all isBl := by rw [List.all_map]; rfl
        rw [e2]
        exact k2
  | int i => exact iteT (q H (Same.refl H))
  | bl b => exact iteT (q H (Same.refl H))
  | non => exact iteT (q H (Same.refl H))
  | str x => exact iteT (q H (Same.refl H))
  | lst _ _ => exact iteT (q H (Same.refl H))
  | dic _ => exact iteT (q H (Same.refl H))
theorem scM : FnScope ["value", "letters", "rows", "ends"] ["value"] (defScope sMErr) := ⟨rfl, rfl, rfl, by decide +kernel, rfl, by decide +kernel, by decide +kernel⟩
theorem ok_merr {f fN fR fE : Addr} {fd fdN fdR fdE : FuncData} (F : Fun K "machine_error" "machine_error" sMErr f fd) (T : Txt mg) (DN : Dfn P w K mg base "is_number" 1 fN fdN ["value", "low", "high"] (spNumber K))
    (DR : Dfn P w K mg base "are_rows" 3 fR fdR ["value", "letters"] (spRows K)) (DE : Dfn P w K mg base "are_ends" 1 fE fdE ["value", "states"] (spEnds K)) : FnOk P w K mg base CX0 4 f fd ["value"] (spErr K) := by
  refine F.ok scM (fun vs H Q E h => ?_) (fun cdv A outer s H vs Q E hr h => ?_)
  · obtain ⟨v, d, rfl, _⟩ := h
    rfl
  obtain ⟨v, d, rfl, hd, hw, q⟩ := h
  obtain ⟨tk, ml⟩ := T.ml
  have hr1 : Room 1 _ := hr.mono (by decide)
  refine ⟨_, pss_cons (ps_if (PW.pt (pw_or (pt_not (pt_val (pe_callB call_isi (by rfl) T.isi (by decide +kernel) (pa_cons (pv 0) (pa_cons (pe_bltn (v := .ty "tuple") (by rfl) T.c.tuple (by decide +kernel) rfl) pa_nil)))))
      (pw_or1 (pt_cmpR op_ne (pe_callB call_len_seq (by rfl) T.c.len PySem.boot_len (pa_cons (pv 0) pa_nil)) pe_int (nomark _))))) (pss_one (ps_ret pe_str)) pss_nil)
    (pss_cons (ps_asg (pv 0) (pg_tup (by rfl) (pgs_cons (pg_name (i := 1) scM.nd rfl (Or.inl rfl)) (pgs_cons (pg_name (i := 2) scM.nd rfl (Or.inl rfl)) (pgs_cons (pg_name (i := 3) scM.nd rfl (Or.inl rfl)) pgs_nil)))))
    (pss_cons (ps_if (pt_not (pt_val (pe_call DN.ok hr1 rfl DN.m DN.kp DN.b .nil pass0 (pa_cons (pv 1) (pa_cons pe_int (pa_cons (pe_glob (v := .int 4) rfl ml ⟨_, rfl⟩) pa_nil)))))) (pss_one (ps_ret pe_str)) pss_nil)
    (pss_cons (ps_if (pt_not (pt_val (pe_call DR.ok hr rfl DR.m DR.kp DR.b .nil pass0 (pa_cons (pv 2) (pa_cons (pv 1) pa_nil))))) (pss_one (ps_ret pe_str)) pss_nil)
    (pss_cons (ps_if (pt_not (pt_val (pe_call DE.ok hr1 rfl DE.m DE.kp DE.b .nil pass0 (pa_cons (pv 3) (pa_cons (pe_callB call_len_seq (by rfl) T.c.len PySem.boot_len (pa_cons (pv 2) pa_nil)) pa_nil))))) (pss_one (ps_ret pe_str)) pss_nil)
    (pss_one (ps_ret pe_non)))))), ?_⟩
  obtain ⟨ti, i1, i2⟩ := is_tuple hd
  refine ⟨_, rfl, _, _, ti, _, _, rfl, .ty _, i1, i2, _, rfl, ?_⟩
  cases hd with
  | @tup a vs ds ha hda =>
    have hl : vs.length = ds.length := hda.length
    refine iteF ⟨_, rfl, _, _, rfl, .inr (.inl (.inl ha)), rfl, _, rfl, ite2 (fun c => ?_) (fun c => ?_)⟩
    · have c' : ds.length ≠ 3 := by
        intro z
        rw [hl, z] at c
        exact absurd c (by decide)
      have k2 := q H (Same.refl H)
      rw [err_no (fun l r e z => by cases z; exact c' rfl)] at k2
      exact k2
    · have c' : ds.length = 3 := by
        refine Classical.byContradiction fun z => c ?_
        have z' : ¬ (V.int ((vs.length : Nat) : Int) = V.int 3) := fun y => z (by have := V.int.inj y; omega)
        rw [decide_eq_false z']
        rfl
      match ds, vs, c', hda, ha, hw, q with
      | [l, r, e], _, _, .cons (v := vl) h1 (.cons (v := vr) h2 (.cons (v := ve) h3 .nil)), ha, hw, q =>
        have wl : Small l := hw.mem (by simp)
        have wr : Small r := hw.mem (by simp)
        have we : Small e := hw.mem (by simp)
        rw [err_three] at q
        refine ⟨_, rfl, a, _, rfl, .inl (.inl ha), rfl, _, _, rfl, _, _, rfl, _, _, rfl, rfl, ?_⟩
        refine ⟨_, rfl, vl, l, 1, 4, rfl, h1, _, rfl, ?_⟩
        cases c1 : inR 1 4 l with
        | false =>
          have k2 := q H (Same.refl H)
          rw [c1] at k2
          exact k2
        | true =>
          obtain ⟨n, rfl⟩ := inR_int c1
          cases h1
          have q2 : ∀ G, Same H G → Q (if rowsOk n r then (if endsOk (len0 r) e then .non else .str "ends") else .str "rows") G := fun G s => by
            have k2 := q G s
            rw [c1] at k2
            exact k2
          refine ⟨_, rfl, _, rfl, vr, r, n, rfl, h2, wr, fun G s1 => ⟨_, rfl, ?_⟩⟩
          cases c2 : rowsOk n r with
          | false =>
            have k2 := q2 G s1
            rw [c2] at k2
            exact k2
          | true =>
            obtain ⟨rs, rfl⟩ := rowsOk_tup c2
            have h2' := h2
            cases h2 with
            | @tup b us _ hb hub =>
              have hul : us.length = rs.length := hub.length
              refine ⟨_, rfl, _, rfl, b, us, rfl, .inr (.inl (.inl (s1 _ _ hb))), ve, e, rs.length, by rw [← hul]; rfl, h3.same s1, we, fun G2 s2 => ⟨_, rfl, ?_⟩⟩
              have k2 := q2 G2 (s1.trans s2)
              rw [c2] at k2
              have k3 : Q (if endsOk (rs.length : Int) e then .non else .str "ends") G2 := k2
              cases c3 : endsOk (rs.length : Int) e with
              | false => rw [c3] at k3; exact k3
              | true => rw [c3] at k3; exact k3
  | int i => exact iteT (q H (Same.refl H))
  | bl b => exact iteT (q H (Same.refl H))
  | non => exact iteT (q H (Same.refl H))
  | str x => exact iteT (q H (Same.refl H))
  | lst _ _ => exact iteT (q H (Same.refl H))
  | dic _ => exact iteT (q H (Same.refl H))
theorem wkE {K : PySem.W.Frag} {k1 : Kd} {v1 : V} {xs : List V} : Walk (ItE K k1 v1 xs) xs.length (fun H => Src K H k1 v1 xs) (fun i H v H' => ∃ T r, v = .ref T ∧ H T = none ∧ H' = upd H T (.tup r) ∧ rowE xs i = some r) := walk_N
theorem piece_is {l : Nat} {x : Str} : (pieceD l (.str x)).isSome = okP l x := by
  show (if okP l x = true then some x else none).isSome = okP l x
  cases okP l x <;> rfl
theorem cps_take {x : Str} {i c : Nat} (h : x.cps[i]? = some c) : x.cps.toList.take (i + 1) = x.cps.toList.take i ++ [c] := by
  rw [List.take_add_one, Array.getElem?_toList, h]; rfl
theorem scP : FnScope ["letters", "value", "letter"] ["letters", "value"] (defScope sPiece) := ⟨rfl, rfl, rfl, by decide +kernel, rfl, by decide +kernel, by decide +kernel⟩
theorem ok_piece {f : Addr} {fd : FuncData} (F : Fun K "is_piece" "is_piece" sPiece f fd) (T : Txt mg) : FnOk P w K mg base CX0 1 f fd ["letters", "value"] (spPiece K) := by
  refine F.ok scP (fun vs H Q E h => ?_) (fun cdv A outer s H vs Q E hr h => ?_)
  · obtain ⟨l, v, d, rfl, _⟩ := h
    rfl
  obtain ⟨l, v, d, rfl, hd, hw, l1, l4, q⟩ := h
  obtain ⟨tk, mw⟩ := T.mw
  obtain ⟨tk2, lt⟩ := T.lt
  refine ⟨_, pss_cons (ps_if (PW.pt (pw_or (pt_not (pt_val (pe_callB call_isi (by rfl) T.isi (by decide +kernel) (pa_cons (pv 1) (pa_cons (pe_bltn (v := .ty "str") (by rfl) T.str (by decide +kernel) rfl) pa_nil)))))
      (pw_or1 (pt_not (pt_chain op_le op_le pe_int (pe_callB call_len_str (by rfl) T.c.len PySem.boot_len (pa_cons (pv 1) pa_nil)) (pe_glob (v := .int 3) rfl mw ⟨_, rfl⟩)))))) (pss_one (ps_ret pe_bl)) pss_nil)
    (pss_one (ps_ret (pe_callB (cr_all rfl) (by rfl) T.all (by decide +kernel) (pa_cons (pe_lc (own := [("letter", 2)]) (g := gName 2) (tt := tYes) rfl scP.nd (pi_str (pv 1))
      (blkOk_by (own := [("letter", 2)]) (N := ["letters", "value", "letter"]) (sc := defScope sPiece) (by decide +kernel)) (fun _ _ _ _ _ => pg_name (i := 2) scP.nd rfl (Or.inl rfl)) (fun _ _ _ _ _ => pts_nil)
      (fun _ _ _ _ _ => pe_cmpR op_inS (pv 2) (pe_slice sl_str (pe_glob (v := .str "abcd") rfl lt ⟨_, rfl⟩) po_none (po_some (pv 0))) (by rfl))) pa_nil)))), ?_⟩
  obtain ⟨ti, i1, i2⟩ := is_str hd
  refine ⟨_, rfl, _, _, ti, _, _, rfl, .ty _, i1, i2, _, rfl, ?_⟩
  cases hd with
  | str x =>
    have xl := hw.str
    have key : ∀ G, Same H G → Q (.bl (okP l x)) G := fun G s => by
      have k := q G s
      rw [piece_is] at k
      exact k
    refine iteF ⟨_, rfl, _, rfl, by show x.length ≤ 2 ^ 24; omega, _, _, rfl, rfl, _, rfl, ite2 (fun c => ?_) (fun c => ?_)⟩
    · have c1 : 1 ≤ x.length := by have := of_decide_eq_true c; omega
      refine ⟨_, _, rfl, rfl, _, rfl, ite2 (fun c2 => ?_) (fun c2 => ?_)⟩
      · have c3 : ¬ x.length ≤ 3 := by
          intro z
          have z' : ((x.length : Nat) : Int) ≤ 3 := by omega
          rw [decide_eq_true z'] at c2
          cases c2
        have k2 := key H (Same.refl H)
        unfold okP at k2
        rw [decide_eq_false c3, Bool.and_false, Bool.false_and] at k2
        exact k2
      · have c3 : x.length ≤ 3 := by
          refine Classical.byContradiction fun z => c2 ?_
          have z' : ¬ ((x.length : Nat) : Int) ≤ 3 := by omega
          rw [decide_eq_false z']
          rfl
        refine ⟨_, rfl, _, rfl, fun L nL => lc_it (walk_str (z := x)) (fun i G => Same H G ∧ G L = some (.lst ((x.cps.toList.take i).map fun c => V.bl (inA l c))))
          ⟨same_new nL _, by rw [upd_same]; rfl⟩ (fun _ _ _ _ => True.intro) ?_ ?_⟩
        · rintro i y G G' hi ⟨s1, g1⟩ ⟨rfl, c, hc, rfl⟩
          refine ⟨rfl, _, rfl, _, rfl, l, rfl, _, rfl, by decide, c, _, rfl, rfl, _, g1, ?_, same_grow nL s1 _, ?_⟩
          · rw [List.length_map, List.length_take]
            show min i _ < 2 ^ 24
            have : x.cps.size = x.length := rfl
            omega
          · rw [upd_same, cps_take hc, List.map_append, cut_abcd l l1 l4]
            rfl
        · rintro G ⟨s1, g1⟩
          have e1 : x.cps.toList.take x.cps.size = x.cps.toList := by rw [← Array.length_toList, List.take_length]
          rw [e1] at g1
          have g2 : G L = some (.lst ((x.cps.toList.map (inA l)).map V.bl)) := by rw [g1, List.map_map]; rfl
          refine ⟨_, _, rfl, .inl (.inl g2), ?_⟩
          have k2 := key G s1
          unfold okP at k2
          rw [decide_eq_true c1, decide_eq_true c3, Bool.true_and, Bool.true_and] at k2
          have e2 : (x.cps.toList.map (inA l)).all id = x.cps.toList.all (inA l) := by rw [List.all_map]; rfl
          rw [e2]
          exact k2
    · have c3 : ¬ 1 ≤ x.length := by
        intro z
        exact c (decide_eq_true (by omega))
      have k2 := key H (Same.refl H)
      unfold okP at k2
      rw [decide_eq_false c3, Bool.false_and, Bool.false_and] at k2
      exact ⟨_, rfl, k2⟩
  | int i => exact iteT (q H (Same.refl H))
  | bl b => exact iteT (q H (Same.refl H))
  | non => exact iteT (q H (Same.refl H))
  | tup _ _ => exact iteT (q H (Same.refl H))
  | lst _ _ => exact iteT (q H (Same.refl H))
  | dic _ => exact iteT (q H (Same.refl H))
theorem scPr : FnScope ["letters", "value", "one", "other"] ["letters", "value"] (defScope sPair) := ⟨rfl, rfl, rfl, by decide +kernel, rfl, by decide +kernel, by decide +kernel⟩
theorem ok_pair {f fP : Addr} {fd fdP : FuncData} (F : Fun K "is_pair" "is_pair" sPair f fd) (T : Txt mg) (D : Dfn P w K mg base "is_piece" 1 fP fdP ["letters", "value"] (spPiece K)) :
    FnOk P w K mg base CX0 2 f fd ["letters", "value"] (spPair K) := by
  refine F.ok scPr (fun vs H Q E h => ?_) (fun cdv A outer s H vs Q E hr h => ?_)
  · obtain ⟨l, v, d, rfl, _⟩ := h
    rfl
  obtain ⟨l, v, d, rfl, hd, hw, l1, l4, q⟩ := h
  refine ⟨_, pss_cons (ps_if (PW.pt (pw_or (pt_not (pt_val (pe_callB call_isi (by rfl) T.isi (by decide +kernel) (pa_cons (pv 1) (pa_cons (pe_bltn (v := .ty "tuple") (by rfl) T.c.tuple (by decide +kernel) rfl) pa_nil)))))
      (pw_or1 (pt_cmpR op_ne (pe_callB call_len_seq (by rfl) T.c.len PySem.boot_len (pa_cons (pv 1) pa_nil)) pe_int (nomark _))))) (pss_one (ps_ret pe_bl)) pss_nil)
    (pss_cons (ps_asg (pv 1) (pg_tup (by rfl) (pgs_cons (pg_name (i := 2) scPr.nd rfl (Or.inl rfl)) (pgs_cons (pg_name (i := 3) scPr.nd rfl (Or.inl rfl)) pgs_nil))))
    (pss_cons (ps_if (PW.pt (pw_or (pt_not (pt_val (pe_call D.ok hr rfl D.m D.kp D.b .nil pass0 (pa_cons (pv 0) (pa_cons (pv 2) pa_nil)))))
      (pw_or1 (pt_not (pt_val (pe_call D.ok hr rfl D.m D.kp D.b .nil pass0 (pa_cons (pv 0) (pa_cons (pv 3) pa_nil)))))))) (pss_one (ps_ret pe_bl)) pss_nil)
    (pss_one (ps_ret (pe_and (pe_cmpR op_eq (pe_callB call_len_str (by rfl) T.c.len PySem.boot_len (pa_cons (pv 2) pa_nil)) (pe_callB call_len_str (by rfl) T.c.len PySem.boot_len (pa_cons (pv 3) pa_nil)) (nomark _))
      (pe_one (pe_cmpR op_ne (pv 2) (pv 3) (nomark _)))))))), ?_⟩
  obtain ⟨ti, i1, i2⟩ := is_tuple hd
  refine ⟨_, rfl, _, _, ti, _, _, rfl, .ty _, i1, i2, _, rfl, ?_⟩
  cases hd with
  | @tup a vs ds ha hda =>
    have hl : vs.length = ds.length := hda.length
    refine iteF ⟨_, rfl, _, _, rfl, .inr (.inl (.inl ha)), rfl, _, rfl, ite2 (fun c => ?_) (fun c => ?_)⟩
    · have c' : ds.length ≠ 2 := by
        intro z
        rw [hl, z] at c
        exact absurd c (by decide)
      have k2 := q H (Same.refl H)
      rw [pair_no c'] at k2
      exact k2
    · have c' : ds.length = 2 := by
        refine Classical.byContradiction fun z => c ?_
        have z' : ¬ (V.int ((vs.length : Nat) : Int) = V.int 2) := fun y => z (by have := V.int.inj y; omega)
        rw [decide_eq_false z']
        rfl
      match ds, vs, c', hda, ha, hw, q with
      | [x, y], _, _, .cons (v := vx) h1 (.cons (v := vy) h2 .nil), ha, hw, q =>
        have wx : Small x := hw.mem (by simp)
        have wy : Small y := hw.mem (by simp)
        refine ⟨_, rfl, a, _, rfl, .inl (.inl ha), rfl, _, _, rfl, _, _, rfl, rfl, ?_⟩
        have e0 : pairD l (.tuple [x, y]) = match pieceD l x, pieceD l y with | some x, some y => if x.length = y.length ∧ x ≠ y then some (x, y) else none | _, _ => none := rfl
        rw [e0] at q
        refine ⟨_, rfl, _, rfl, l, vx, x, rfl, h1, wx, l1, l4, fun G1 s1 => ⟨_, rfl, ?_⟩⟩
        cases c1 : pieceD l x with
        | none =>
          rw [c1] at q
          exact iteT (q G1 s1)
        | some x' =>
          obtain ⟨rfl, o1⟩ := piece_str c1
          rw [c1] at q
          cases h1
          refine iteF ⟨_, rfl, _, rfl, l, vy, y, rfl, h2.same s1, wy, l1, l4, fun G2 s2 => ⟨_, rfl, ?_⟩⟩
          cases c2 : pieceD l y with
          | none =>
            rw [c2] at q
            exact iteT (q G2 (s1.trans s2))
          | some y' =>
            obtain ⟨rfl, o2⟩ := piece_str c2
            rw [c2] at q
            cases h2
            have k2 := q G2 (s1.trans s2)
            have xl := wx.str
            have yl := wy.str
            have k3 : Q (.bl (if x'.length = y'.length ∧ x' ≠ y' then some (x', y') else none).isSome) G2 := k2
            refine iteF ⟨_, rfl, x', rfl, by show x'.length ≤ 2 ^ 24; omega, _, rfl, y', rfl, by show y'.length ≤ 2 ^ 24; omega, rfl, _, rfl, ite2 (fun c3 => ?_) (fun c3 => ?_)⟩
            · have c4 : x'.length = y'.length := by
                have := V.int.inj (of_decide_eq_true c3)
                omega
              refine ⟨_, rfl, _, rfl, rfl, ?_⟩
              by_cases c5 : x' = y'
              · rw [if_neg (fun z => z.2 c5)] at k3
                have e : (!decide (V.str x' = V.str y')) = false := by rw [c5]; simp
                rw [e]
                exact k3
              · rw [if_pos ⟨c4, c5⟩] at k3
                have e : (!decide (V.str x' = V.str y')) = true := by simp [c5]
                rw [e]
                exact k3
            · have c4 : x'.length ≠ y'.length := fun z => c3 (decide_eq_true (by rw [z]))
              rw [if_neg (fun z => c4 z.1)] at k3
              exact k3
  | int i => exact iteT (q H (Same.refl H))
  | bl b => exact iteT (q H (Same.refl H))
  | non => exact iteT (q H (Same.refl H))
  | str x => exact iteT (q H (Same.refl H))
  | lst _ _ => exact iteT (q H (Same.refl H))
  | dic _ => exact iteT (q H (Same.refl H))
theorem scEr : FnScope ["letters", "value", "taken", "index", "item"] ["letters", "value"] (defScope sRErr) := ⟨rfl, rfl, rfl, by decide +kernel, rfl, by decide +kernel, by decide +kernel⟩
theorem ok_rerr {f fP : Addr} {fd fdP : FuncData} (F : Fun K "rule_error" "rule_error" sRErr f fd) (T : Txt mg) (D : Dfn P w K mg base "is_pair" 2 fP fdP ["letters", "value"] (spPair K)) :
    FnOk P w K mg base CX0 3 f fd ["letters", "value"] (spRErr K) := by
  refine F.ok scEr (fun vs H Q E h => ?_) (fun cdv A outer s H vs Q E hr h => ?_)
  · obtain ⟨l, v, d, rfl, _⟩ := h
    rfl
  obtain ⟨l, v, d, rfl, hd, hw, l1, l4, q⟩ := h
  obtain ⟨tk, mp⟩ := T.mp
  refine ⟨_, pss_cons (ps_if (pt_not (pt_val (pe_callB call_isi (by rfl) T.isi (by decide +kernel) (pa_cons (pv 1) (pa_cons (pe_bltn (v := .ty "tuple") (by rfl) T.c.tuple (by decide +kernel) rfl) pa_nil))))) (pss_one (ps_ret (pe_tup (pa_cons pe_non (pa_cons pe_str pa_nil))))) pss_nil)
    (pss_cons (ps_set (i := 2) scEr.nd rfl (Or.inl rfl) (pe_lst pa_nil))
    (pss_cons (ps_for PassesOwn.never rfl (pi_e rfl T.enum (pa_cons (pv 1) pa_nil)) (pg_tup (by rfl) (pgs_cons (pg_name (i := 3) scEr.nd rfl (Or.inl rfl)) (pgs_cons (pg_name (i := 4) scEr.nd rfl (Or.inl rfl)) pgs_nil)))
      (pss_cons (ps_if (PW.pt (pw_or (pt_not (pt_val (pe_call D.ok hr rfl D.m D.kp D.b .nil pass0 (pa_cons (pv 0) (pa_cons (pv 4) pa_nil)))))
          (pw_or (pt_cmpR op_in_seq (pe_ix ix_tup (pv 4) pe_int (fun _ _ => rfl)) (pv 2) (by rfl)) (pw_or1 (pt_cmpR op_in_seq (pe_ix ix_tup (pv 4) pe_int (fun _ _ => rfl)) (pv 2) (by rfl))))))
        (pss_one (ps_ret (pe_tup (pa_cons (pv 3) (pa_cons pe_str pa_nil))))) pss_nil)
      (pss_one (ps_expr (pe_bm PySem.F.plainAttrs_list PySem.F.slot_list_extend PySem.F.type_list_extend mt_extendT (pv 2) (pa_cons (pv 4) pa_nil))))))
    (pss_cons (ps_if (pt_cmpR op_gt (pe_callB call_len_seq (by rfl) T.c.len PySem.boot_len (pa_cons (pv 1) pa_nil)) (pe_glob (v := .int 6) rfl mp ⟨_, rfl⟩) (nomark _)) (pss_one (ps_ret (pe_tup (pa_cons pe_non (pa_cons pe_str pa_nil))))) pss_nil)
    (pss_one (ps_ret pe_non))))), ?_⟩
  obtain ⟨ti, i1, i2⟩ := is_tuple hd
  refine ⟨_, rfl, _, _, ti, _, _, rfl, .ty _, i1, i2, _, rfl, ?_⟩
  have no : (∀ ds, d ≠ .tuple ds) → ∀ t, H t = none → Q (.ref t) (upd H t (.tup [.non, .str "rule"])) := fun hn t nt => by
    have e : errD l d = .tuple [.none, .str "rule"] := by
      cases d with
      | tuple ds => exact absurd rfl (hn ds)
      | _ => rfl
    exact q _ _ (same_new nt _) (by rw [e]; exact .tup upd_same (.cons .non (.cons (.str _) .nil)))
  cases hd with
  | @tup a vs ds ha hda =>
    have hl : vs.length = ds.length := hda.length
    have dl := hw.len
    refine iteF ⟨by show 0 ≤ 2 ^ 24; decide, fun lf nlf => ?_⟩
    have s0 := same_new nlf (.lst [])
    have g0 : upd H lf (.lst []) lf = some (.lst (([] : List Str).map V.str)) := upd_same
    generalize upd H lf (.lst []) = H1 at s0 g0
    refine ⟨_, rfl, .ref a, .tup, vs, rfl, ⟨a, rfl, .inl (.inl (s0 _ _ ha))⟩, for_it wkE (fun i σ G => ∃ (k3 k4 : Option V) (tk : List Str), σ = [some (.int l), some (.ref a), some (.ref lf), k3, k4] ∧ Same H G ∧ G lf = some (.lst (tk.map V.str)) ∧ tk.length ≤ 2 * i ∧
        walkE l 0 [] ds = walkE l i tk (ds.drop i)) ⟨none, none, [], rfl, s0, g0, Nat.zero_le _, rfl⟩ (fun i σ G _ h => let ⟨_, _, _, _, s, _⟩ := h; ⟨a, rfl, .inl (.inl (s _ _ ha))⟩) ?_ ?_⟩
    · rintro i x σ G G' hi ⟨k3, k4, tk, rfl, sG, gl, tl, we⟩ ⟨Tt, r, rfl, nT, rfl, hr'⟩
      obtain ⟨x, e1, rfl⟩ := rowE_of hr'
      obtain ⟨d1, hd1, hD1⟩ := hda.get e1
      have dr : ds.drop i = d1 :: ds.drop (i + 1) := by
        have il : i < ds.length := by omega
        rw [List.drop_eq_getElem_cons il]
        rw [List.getElem?_eq_getElem il] at hd1
        cases hd1
        rfl
      have sT := same_new nT (.tup [V.int (i : Nat), x])
      have gT : upd G Tt (.tup [V.int (i : Nat), x]) Tt = some (.tup [V.int (i : Nat), x]) := upd_same
      generalize upd G Tt (.tup [V.int (i : Nat), x]) = G1 at sT gT
      have sG1 := sG.trans sT
      refine ⟨Tt, _, rfl, .inl (.inl gT), rfl, _, _, rfl, _, _, rfl, rfl, ?_⟩
      have wd1 : Small d1 := hw.mem (List.mem_of_getElem? hd1)
      have out : walkE l 0 [] ds = some i → ∀ G2, Same H G2 → ∀ t, G2 t = none → Q (.ref t) (upd G2 t (.tup [.int (i : Nat), .str "pair"])) := fun h G2 s2 t nt => by
        have e : errD l (.tuple ds) = .tuple [.int (i : Nat), .str "pair"] := by
          unfold errD
          simp only [h]
        exact q _ _ (s2.trans (same_new nt _)) (by rw [e]; exact .tup upd_same (.cons (.int _) (.cons (.str _) .nil)))
      refine ⟨_, rfl, _, rfl, l, x, d1, rfl, hD1.same sG1, wd1, l1, l4, fun G2 s2 => ⟨_, rfl, ?_⟩⟩
      have sG2 := sG1.trans s2
      have gl2 := s2 _ _ (sT _ _ gl)
      rw [dr] at we
      cases c1 : pairD l d1 with
      | none =>
        have w1 : walkE l 0 [] ds = some i := by
          rw [we]; unfold walkE; rw [c1]
        exact iteT ⟨_, rfl, by show 2 ≤ 2 ^ 24; decide, fun t nt => out w1 G2 sG2 t nt⟩
      | some ab =>
        obtain ⟨a1, b1⟩ := ab
        obtain ⟨rfl, p1, p2, p3, p4⟩ := pair_two c1
        have w1 : walkE l 0 [] ds = if a1 ∈ tk ∨ b1 ∈ tk then some i else walkE l (i + 1) (tk ++ [a1, b1]) (ds.drop (i + 1)) := by
          rw [we]
          show (match pairD l (.tuple [.str a1, .str b1]) with | none => some i | some (x, y) => if x ∈ tk ∨ y ∈ tk then some i else walkE l (i + 1) (tk ++ [x, y]) (ds.drop (i + 1))) = _
          rw [c1]
        cases hD1 with
        | @tup t us _ ht hu =>
        cases hu with
        | cons u1 u2 =>
        cases u2 with
        | cons u2 u3 =>
        cases u3
        cases u1
        cases u2
        have ht2 := sG2 _ _ ht
        refine iteF ⟨_, rfl, t, _, 0, _, rfl, rfl, .inl (.inl ht2), rfl, _, rfl, lf, _, rfl, .inl (.inl (.inl gl2)), rfl, flat_strs tk, _, rfl, ?_⟩
        have isin : ∀ {z : Str}, inV (.str z) (tk.map V.str) = true → z ∈ tk := fun {z} h => by
          rw [inV_strs] at h
          exact of_decide_eq_true h
        have notin : ∀ {z : Str}, ¬ inV (.str z) (tk.map V.str) = true → z ∉ tk := fun {z} h m => by
          rw [inV_strs] at h
          exact h (decide_eq_true m)
        refine ite2 (fun c2 => ?_) (fun c2 => ?_)
        · exact ⟨_, rfl, by show 2 ≤ 2 ^ 24; decide, fun t nt => out (by rw [w1, if_pos (.inl (isin c2))]) G2 sG2 t nt⟩
        refine ⟨_, rfl, t, _, 1, _, rfl, rfl, .inl (.inl ht2), rfl, _, rfl, lf, _, rfl, .inl (.inl (.inl gl2)), rfl, flat_strs tk, _, rfl, ?_⟩
        refine ite2 (fun c3 => ?_) (fun c3 => ?_)
        · exact ⟨_, rfl, by show 2 ≤ 2 ^ 24; decide, fun t nt => out (by rw [w1, if_pos (.inr (isin c3))]) G2 sG2 t nt⟩
        rw [if_neg (fun z => z.elim (notin c2) (notin c3))] at w1
        refine ⟨_, rfl, .inl ⟨rfl, _, .inl (.inl gl2)⟩, _, rfl, lf, t, _, _, rfl, rfl, gl2, ht2, by rw [List.length_map]; show _ + 2 ≤ 2 ^ 24; omega, ?_⟩
        exact ⟨_, _, tk ++ [a1, b1], rfl, same_grow nlf sG2 _, by rw [upd_same, List.map_append]; rfl, by rw [List.length_append]; show _ + 2 ≤ _; omega, w1⟩
    · rintro σ G ⟨k3, k4, tk, rfl, sG, gl, tl, we⟩
      rw [hl, List.drop_length] at we
      have we' : walkE l 0 [] ds = none := we
      refine ⟨_, rfl, a, vs, rfl, .inr (.inl (.inl (sG _ _ ha))), _, _, rfl, rfl, _, rfl, ite2 (fun c => ?_) (fun c => ?_)⟩
      · have c6 : 6 < ds.length := by have := of_decide_eq_true c; omega
        refine ⟨by show 2 ≤ 2 ^ 24; decide, fun t nt => ?_⟩
        have e : errD l (.tuple ds) = .tuple [.none, .str "many"] := by
          unfold errD
          simp only [we', if_pos c6]
        exact q _ _ (sG.trans (same_new nt _)) (by rw [e]; exact .tup upd_same (.cons .non (.cons (.str _) .nil)))
      · have c6 : ¬ 6 < ds.length := fun z => c (decide_eq_true (by omega))
        have e : errD l (.tuple ds) = .none := by
          unfold errD
          simp only [we', if_neg c6]
        exact q _ _ sG (by rw [e]; exact .non)
  | int i => exact iteT ⟨by show 2 ≤ 2 ^ 24; decide, fun t nt => no (fun _ z => nomatch z) t nt⟩
  | bl b => exact iteT ⟨by show 2 ≤ 2 ^ 24; decide, fun t nt => no (fun _ z => nomatch z) t nt⟩
  | non => exact iteT ⟨by show 2 ≤ 2 ^ 24; decide, fun t nt => no (fun _ z => nomatch z) t nt⟩
  | str x => exact iteT ⟨by show 2 ≤ 2 ^ 24; decide, fun t nt => no (fun _ z => nomatch z) t nt⟩
  | lst _ _ => exact iteT ⟨by show 2 ≤ 2 ^ 24; decide, fun t nt => no (fun _ z => nomatch z) t nt⟩
  | dic _ => exact iteT ⟨by show 2 ≤ 2 ^ 24; decide, fun t nt => no (fun _ z => nomatch z) t nt⟩
end
end K08
namespace K08
open PySem GL GZ KW KR GU KU
open L2 hiding isNon
open KC hiding rLenS call_lenS
open KX (Small pieceD pairD walkE errD okP inA ab piece_str pair_two pair_no inV_strs flat_strs)
abbrev sSigns : Stmt := top 41
abbrev sSErr : Stmt := top 42
def signsOk (l : Int) : PyData → Bool
  | .str x => decide ((x.length : Int) = l) && x.cps.toList.all fun c => decide (c ∈ ("+-" : Str).cps.toList)
  | _ => false
def nStates : PyData → Nat
  | .tuple [_, .tuple rs, _] => rs.length
  | _ => 0
def nLetters : PyData → Int
  | .tuple [.int l, _, _] => l
  | _ => 0
def serr : PyData → PyData
  | .tuple [k, s, r] => match err k with
    | .str e => .tuple [.str "kind", .str e]
    | _ => if 8 < nStates k then .tuple [.str "kind", .str "states"] else if signsOk (nLetters k) s then (match errD (nLetters k).toNat r with | .none => .none | e => .tuple [.str "rule", e]) else .tuple [.str "signs", .none]
  | _ => .tuple [.str "scheme", .none]
theorem serr_no {d : PyData} (h : ∀ l r e, d ≠ .tuple [l, r, e]) : serr d = .tuple [.str "scheme", .none] := by
  unfold serr
  split
  · exact absurd rfl (h _ _ _)
  · rfl
theorem err_is (k : PyData) : (err k = .non ∧ ∃ n rs e, k = .tuple [.int n, .tuple rs, e] ∧ 1 ≤ n ∧ n ≤ 4) ∨ ∃ e, err k = .str e := by
  by_cases h3 : ∃ l r e, k = .tuple [l, r, e]
  · obtain ⟨l, r, e, rfl⟩ := h3
    rw [err_three]
    cases c1 : inR 1 4 l with
    | false => exact .inr ⟨_, rfl⟩
    | true =>
      obtain ⟨n, rfl⟩ := inR_int c1
      cases c2 : rowsOk n r with
      | false => exact .inr ⟨"rows", by simp [c2]⟩
      | true =>
        obtain ⟨rs, rfl⟩ := rowsOk_tup c2
        cases c3 : endsOk (len0 (.tuple rs)) e with
        | false => exact .inr ⟨"ends", by simp [c2, c3]⟩
        | true =>
          refine .inl ⟨by simp [c2, c3], n, rs, e, rfl, ?_⟩
          simp only [inR, Bool.and_eq_true, decide_eq_true_eq] at c1
          exact c1
  · refine .inr ⟨"machine", err_no fun l r e z => h3 ⟨l, r, e, z⟩⟩
def spASigns (K : PySem.W.Frag) : Sp := fun vs H Q _ => ∃ (v : V) (d : PyData) (l : Int), vs = [v, .int l] ∧ Du K H v d ∧ Small d ∧ ∀ G, Same H G → Q (.bl (signsOk l d)) G
def spSErr (K : PySem.W.Frag) : Sp := fun vs H Q _ => ∃ (v : V) (d : PyData), vs = [v] ∧ Du K H v d ∧ Small d ∧ ∀ v' G, Same H G → Dt K G v' (serr d) → Q v' G
section
variable {P : Program} {w : World} {K : PySem.W.Frag} {mg : Str → Option Value} {base : Heap}
theorem scAS : FnScope ["value", "letters", "sign"] ["value", "letters"] (defScope sSigns) := ⟨rfl, rfl, rfl, by decide +kernel, rfl, by decide +kernel, by decide +kernel⟩
theorem ok_asigns {f : Addr} {fd : FuncData} (F : Fun K "are_signs" "are_signs" sSigns f fd) (T : Txt mg) : FnOk P w K mg base CX0 1 f fd ["value", "letters"] (spASigns K) := by
  refine F.ok scAS (fun vs H Q E h => ?_) (fun cdv A outer s H vs Q E hr h => ?_)
  · obtain ⟨v, d, l, rfl, _⟩ := h
    rfl
  obtain ⟨v, d, l, rfl, hd, hw, q⟩ := h
  refine ⟨_, pss_one (ps_ret (pe_and (pe_callB call_isi (by rfl) T.isi (by decide +kernel) (pa_cons (pv 0) (pa_cons (pe_bltn (v := .ty "str") (by rfl) T.str (by decide +kernel) rfl) pa_nil)))
    (pe_and (pe_cmpR op_eq (pe_callB call_len_str (by rfl) T.c.len PySem.boot_len (pa_cons (pv 0) pa_nil)) (pv 1) (nomark _))
    (pe_one (pe_callB (cr_all rfl) (by rfl) T.all (by decide +kernel) (pa_cons (pe_lc (own := [("sign", 2)]) (g := gName 2) (tt := tYes) rfl scAS.nd (pi_str (pv 0))
      (blkOk_by (own := [("sign", 2)]) (N := ["value", "letters", "sign"]) (sc := defScope sSigns) (by decide +kernel)) (fun _ _ _ _ _ => pg_name (i := 2) scAS.nd rfl (Or.inl rfl)) (fun _ _ _ _ _ => pts_nil)
      (fun _ _ _ _ _ => pe_cmpR op_inS (pv 2) pe_str (by rfl))) pa_nil)))))), ?_⟩
  obtain ⟨ti, i1, i2⟩ := is_str hd
  refine ⟨_, rfl, _, _, ti, _, _, rfl, .ty _, i1, i2, _, rfl, ?_⟩
  cases hd with
  | str x =>
    have xl := hw.str
    refine iteT ⟨_, rfl, _, rfl, by show x.length ≤ 2 ^ 24; omega, _, rfl, rfl, _, rfl, ite2 (fun c => ?_) (fun c => ?_)⟩
    · have c1 : (x.length : Int) = l := V.int.inj (of_decide_eq_true c)
      refine ⟨_, rfl, _, rfl, fun L nL => lc_it (walk_str (z := x)) (fun i G => Same H G ∧ G L = some (.lst ((x.cps.toList.take i).map fun c => V.bl (decide (c ∈ ("+-" : Str).cps.toList)))))
        ⟨same_new nL _, by rw [upd_same]; rfl⟩ (fun _ _ _ _ => True.intro) ?_ ?_⟩
      · rintro i y G G' hi ⟨s1, g1⟩ ⟨rfl, c, hc, rfl⟩
        refine ⟨rfl, _, rfl, c, _, rfl, rfl, _, g1, ?_, same_grow nL s1 _, ?_⟩
        · rw [List.length_map, List.length_take]
          show min i _ < 2 ^ 24
          have : x.cps.size = x.length := rfl
          omega
        · rw [upd_same, cps_take hc, List.map_append]
          rfl
      · rintro G ⟨s1, g1⟩
        have e1 : x.cps.toList.take x.cps.size = x.cps.toList := by rw [← Array.length_toList, List.take_length]
        rw [e1] at g1
        have g2 : G L = some (.lst ((x.cps.toList.map fun c => decide (c ∈ ("+-" : Str).cps.toList)).map V.bl)) := by rw [g1, List.map_map]; rfl
        refine ⟨_, _, rfl, .inl (.inl g2), ?_⟩
        have k2 := q G s1
        have e2 : signsOk l (.str x) = (x.cps.toList.map fun c => decide (c ∈ ("+-" : Str).cps.toList)).all id := by
          show (decide ((x.length : Int) = l) && _) = _
          rw [decide_eq_true c1, Bool.true_and, List.all_map]; rfl
        rw [e2] at k2
        exact k2
    · have c1 : ¬ (x.length : Int) = l := fun z => c (by rw [z]; exact decide_eq_true rfl)
      have k2 := q H (Same.refl H)
      have e2 : signsOk l (.str x) = false := by
        show (decide ((x.length : Int) = l) && _) = _
        rw [decide_eq_false c1, Bool.false_and]
      rw [e2] at k2
      exact k2
  | int i => exact iteF (q H (Same.refl H))
  | bl b => exact iteF (q H (Same.refl H))
  | non => exact iteF (q H (Same.refl H))
  | tup _ _ => exact iteF (q H (Same.refl H))
  | lst _ _ => exact iteF (q H (Same.refl H))
  | dic _ => exact iteF (q H (Same.refl H))
theorem scSE : FnScope ["value", "kind", "signs", "rule", "error"] ["value"] (defScope sSErr) := ⟨rfl, rfl, rfl, by decide +kernel, rfl, by decide +kernel, by decide +kernel⟩
theorem ok_serr {f fM fA fR : Addr} {fd fdM fdA fdR : FuncData} (F : Fun K "scheme_error" "scheme_error" sSErr f fd) (T : Txt mg) (DM : Dfn P w K mg base "machine_error" 4 fM fdM ["value"] (spErr K))
    (DA : Dfn P w K mg base "are_signs" 1 fA fdA ["value", "letters"] (spASigns K)) (DR : Dfn P w K mg base "rule_error" 3 fR fdR ["letters", "value"] (spRErr K)) : FnOk P w K mg base CX0 5 f fd ["value"] (spSErr K) := by
  refine F.ok scSE (fun vs H Q E h => ?_) (fun cdv A outer s H vs Q E hr h => ?_)
  · obtain ⟨v, d, rfl, _⟩ := h
    rfl
  obtain ⟨v, d, rfl, hd, hw, q⟩ := h
  obtain ⟨tk, ms⟩ := T.ms
  have hr1 : Room 1 _ := hr.mono (by decide)
  have hr3 : Room 3 _ := hr.mono (by decide)
  refine ⟨_, pss_cons (ps_if (PW.pt (pw_or (pt_not (pt_val (pe_callB call_isi (by rfl) T.isi (by decide +kernel) (pa_cons (pv 0) (pa_cons (pe_bltn (v := .ty "tuple") (by rfl) T.c.tuple (by decide +kernel) rfl) pa_nil)))))
      (pw_or1 (pt_cmpR op_ne (pe_callB call_len_seq (by rfl) T.c.len PySem.boot_len (pa_cons (pv 0) pa_nil)) pe_int (nomark _))))) (pss_one (ps_ret (pe_tup (pa_cons pe_str (pa_cons pe_non pa_nil))))) pss_nil)
    (pss_cons (ps_asg (pv 0) (pg_tup (by rfl) (pgs_cons (pg_name (i := 1) scSE.nd rfl (Or.inl rfl)) (pgs_cons (pg_name (i := 2) scSE.nd rfl (Or.inl rfl)) (pgs_cons (pg_name (i := 3) scSE.nd rfl (Or.inl rfl)) pgs_nil)))))
    (pss_cons (ps_set (i := 4) scSE.nd rfl (Or.inl rfl) (pe_call DM.ok hr rfl DM.m DM.kp DM.b .nil pass0 (pa_cons (pv 1) pa_nil)))
    (pss_cons (ps_if (PW.pt (pw_and (pt_cmpR op_isN (pv 4) pe_non (nomark _)) (pw_and1 (pt_cmpR op_gt (pe_callB call_len_seq (by rfl) T.c.len PySem.boot_len (pa_cons (pe_ix ix_tup (pv 1) pe_int (fun _ _ => rfl)) pa_nil)) (pe_glob (v := .int 8) rfl ms ⟨_, rfl⟩) (nomark _)))))
      (pss_one (ps_set (i := 4) scSE.nd rfl (Or.inl rfl) pe_str)) pss_nil)
    (pss_cons (ps_if (pt_cmpR op_notN (pv 4) pe_non (nomark _)) (pss_one (ps_ret (pe_tup (pa_cons pe_str (pa_cons (pv 4) pa_nil))))) pss_nil)
    (pss_cons (ps_if (pt_not (pt_val (pe_call DA.ok hr1 rfl DA.m DA.kp DA.b .nil pass0 (pa_cons (pv 2) (pa_cons (pe_ix ix_tup (pv 1) pe_int (fun _ _ => rfl)) pa_nil))))) (pss_one (ps_ret (pe_tup (pa_cons pe_str (pa_cons pe_non pa_nil))))) pss_nil)
    (pss_cons (ps_set (i := 4) scSE.nd rfl (Or.inl rfl) (pe_call DR.ok hr3 rfl DR.m DR.kp DR.b .nil pass0 (pa_cons (pe_ix ix_tup (pv 1) pe_int (fun _ _ => rfl)) (pa_cons (pv 3) pa_nil))))
    (pss_one (ps_ret (pe_ifExp (pt_cmpR op_isN (pv 4) pe_non (nomark _)) pe_non (pe_tup (pa_cons pe_str (pa_cons (pv 4) pa_nil)))))))))))), ?_⟩
  obtain ⟨ti, i1, i2⟩ := is_tuple hd
  refine ⟨_, rfl, _, _, ti, _, _, rfl, .ty _, i1, i2, _, rfl, ?_⟩
  have no : serr d = .tuple [.str "scheme", .none] → ∀ t, H t = none → Q (.ref t) (upd H t (.tup [.str "scheme", .non])) := fun e t nt =>
    q _ _ (same_new nt _) (by rw [e]; exact .tup upd_same (.cons (.str _) (.cons .non .nil)))
  cases hd with
  | @tup a vs ds ha hda =>
    have hl : vs.length = ds.length := hda.length
    refine iteF ⟨_, rfl, _, _, rfl, .inr (.inl (.inl ha)), rfl, _, rfl, ite2 (fun c => ?_) (fun c => ?_)⟩
    · have c' : ds.length ≠ 3 := by
        intro z
        rw [hl, z] at c
        exact absurd c (by decide)
      exact ⟨by show 2 ≤ 2 ^ 24; decide, fun t nt => no (serr_no fun l r e z => by cases z; exact c' rfl) t nt⟩
    · have c' : ds.length = 3 := by
        refine Classical.byContradiction fun z => c ?_
        have z' : ¬ (V.int ((vs.length : Nat) : Int) = V.int 3) := fun y => z (by have := V.int.inj y; omega)
        rw [decide_eq_false z']
        rfl
      match ds, vs, c', hda, ha, hw, q with
      | [k, sg, r], _, _, .cons (v := vk) h1 (.cons (v := vs) h2 (.cons (v := vr) h3 .nil)), ha, hw, q =>
        have wk : Small k := hw.mem (by simp)
        have ws : Small sg := hw.mem (by simp)
        have wr : Small r := hw.mem (by simp)
        refine ⟨_, rfl, a, _, rfl, .inl (.inl ha), rfl, _, _, rfl, _, _, rfl, _, _, rfl, rfl, ?_⟩
        refine ⟨_, rfl, vk, k, rfl, h1, wk, fun G1 s1 => ?_⟩
        rcases err_is k with ⟨e0, n, rs, es, rfl, n1, n4⟩ | ⟨e, e0⟩
        · rw [e0]
          have h1' := h1
          cases h1 with
          | @tup b us _ hb hub =>
          cases hub with
          | cons u1 u2 =>
          cases u2 with
          | cons u2 u3 =>
          cases u3 with
          | cons u3 u4 =>
          cases u4
          cases u1
          cases u2 with
          | @tup rA rus _ hrA hrus =>
          have rl : rus.length = rs.length := hrus.length
          have es : serr (.tuple [.tuple [.int n, .tuple rs, es], sg, r]) = if 8 < rs.length then .tuple [.str "kind", .str "states"] else if signsOk n sg then (match errD n.toNat r with | .none => .none | e => .tuple [.str "rule", e]) else .tuple [.str "signs", .none] := by
            unfold serr
            simp only [e0]
            rfl
          refine ⟨_, rfl, rfl, _, rfl, ite2 (fun _ => ?_) (fun c => absurd (decide_eq_true rfl) c)⟩
          refine ⟨_, rfl, b, _, 1, _, rfl, rfl, .inl (.inl (s1 _ _ hb)), rfl, rA, rus, rfl, .inr (.inl (.inl (s1 _ _ hrA))), _, _, rfl, rfl, _, rfl, ite2 (fun c8 => ?_) (fun c8 => ?_)⟩
          · have r8 : 8 < rs.length := by have := of_decide_eq_true c8; omega
            refine ⟨_, rfl, rfl, _, rfl, ite2 (fun _ => ?_) (fun c => absurd rfl c)⟩
            exact ⟨_, rfl, by show 2 ≤ 2 ^ 24; decide, fun t nt => q _ _ (s1.trans (same_new nt _)) (by rw [es, if_pos r8]; exact .tup upd_same (.cons (.str _) (.cons (.str _) .nil)))⟩
          · have r8 : ¬ 8 < rs.length := fun z => c8 (decide_eq_true (by omega))
            rw [es, if_neg r8] at q
            refine ⟨_, rfl, rfl, _, rfl, ite2 (fun c => absurd c (by simp)) (fun _ => ?_)⟩
            refine ⟨_, rfl, _, rfl, b, _, 0, _, rfl, rfl, .inl (.inl (s1 _ _ hb)), rfl, vs, sg, n, rfl, h2.same s1, ws, fun G2 s2 => ⟨_, rfl, ?_⟩⟩
            have s12 := s1.trans s2
            cases c9 : signsOk n sg with
            | false =>
              rw [c9] at q
              exact iteT ⟨by show 2 ≤ 2 ^ 24; decide, fun t nt => q _ _ (s12.trans (same_new nt _)) (.tup upd_same (.cons (.str _) (.cons .non .nil)))⟩
            | true =>
              rw [c9, if_pos rfl] at q
              obtain ⟨l, rfl⟩ : ∃ l : Nat, n = (l : Int) := ⟨n.toNat, by omega⟩
              rw [Int.toNat_natCast] at q
              refine iteF ⟨_, rfl, b, _, 0, _, rfl, rfl, .inl (.inl (s12 _ _ hb)), rfl, _, rfl, l, vr, r, rfl, h3.same s12, wr, by omega, by omega, fun v' G3 s3 hv => ?_⟩
              have s123 := s12.trans s3
              refine ⟨_, rfl, rfl, _, rfl, ite2 (fun c => ?_) (fun c => ?_)⟩
              · have c' : v' = .non := of_decide_eq_true c
                subst c'
                generalize hE : errD l r = eD at q hv
                cases hv
                exact q _ _ s123 .non
              · have c' : v' ≠ .non := fun z => c (decide_eq_true z)
                refine ⟨_, rfl, by show 2 ≤ 2 ^ 24; decide, fun t nt => ?_⟩
                have sT := s123.trans (same_new nt (.tup [.str "rule", v']))
                generalize hE : errD l r = eD at q hv
                refine q _ _ sT ?_
                have hv' := hv.same (same_new nt (.tup [.str "rule", v']))
                cases hv with
                | non => exact absurd rfl c'
                | bl _ => exact .tup upd_same (.cons (.str _) (.cons hv' .nil))
                | int _ => exact .tup upd_same (.cons (.str _) (.cons hv' .nil))
                | str _ => exact .tup upd_same (.cons (.str _) (.cons hv' .nil))
                | lst _ _ => exact .tup upd_same (.cons (.str _) (.cons hv' .nil))
                | tup _ _ => exact .tup upd_same (.cons (.str _) (.cons hv' .nil))
                | dic _ => exact .tup upd_same (.cons (.str _) (.cons hv' .nil))
        · rw [e0]
          have es : serr (.tuple [k, sg, r]) = .tuple [.str "kind", .str e] := by
            unfold serr
            simp only [e0]
          refine ⟨_, rfl, rfl, _, rfl, ite2 (fun c => absurd (of_decide_eq_true c) (by simp)) (fun _ => ?_)⟩
          refine ⟨_, rfl, rfl, _, rfl, ite2 (fun _ => ?_) (fun c => absurd rfl c)⟩
          exact ⟨_, rfl, by show 2 ≤ 2 ^ 24; decide, fun t nt => q _ _ (s1.trans (same_new nt _)) (by rw [es]; exact .tup upd_same (.cons (.str _) (.cons (.str _) .nil)))⟩
  | int i => exact iteT ⟨by show 2 ≤ 2 ^ 24; decide, fun t nt => no rfl t nt⟩
  | bl b => exact iteT ⟨by show 2 ≤ 2 ^ 24; decide, fun t nt => no rfl t nt⟩
  | non => exact iteT ⟨by show 2 ≤ 2 ^ 24; decide, fun t nt => no rfl t nt⟩
  | str x => exact iteT ⟨by show 2 ≤ 2 ^ 24; decide, fun t nt => no rfl t nt⟩
  | lst _ _ => exact iteT ⟨by show 2 ≤ 2 ^ 24; decide, fun t nt => no rfl t nt⟩
  | dic _ => exact iteT ⟨by show 2 ≤ 2 ^ 24; decide, fun t nt => no rfl t nt⟩
end
end K08
/-! Machines as objects and plainly; words read along them. No row. -/
namespace KM
open PySem PySem.Spec PyProof.Rows L2 GL KC KW
/-! ### machines and words, plainly -/
abbrev Rows := List (List (Option Nat))
def stepM (rows : Rows) (s j : Nat) : Option Nat := (rows.getD s []).getD j none
def run (rows : Rows) : Nat → List Nat → Option Nat
  | s, [] => some s
  | s, j :: w => match stepM rows s j with
    | none => none
    | some t => run rows t w
def isOf (rows : Rows) (ends : List Bool) (w : List Nat) : Bool := match run rows 0 w with
  | none => false
  | some s => ends.getD s false
theorem run_append (rows : Rows) : ∀ (w : List Nat) (s : Nat) (u : List Nat), run rows s (w ++ u) = (run rows s w).bind fun t => run rows t u
  | [], s, u => rfl
  | j :: w, s, u => by
    show (match stepM rows s j with | none => none | some t => run rows t (w ++ u)) = (match stepM rows s j with | none => none | some t => run rows t w).bind _
    cases stepM rows s j with
    | none => rfl
    | some t => exact run_append rows w t u
/-- n rows of l items each, below n; n ends -/
structure WF (l n : Nat) (rows : Rows) (ends : List Bool) : Prop where
  l1 : 1 ≤ l
  l4 : l ≤ 4
  n1 : 1 ≤ n
  n4 : n ≤ 400
  rl : rows.length = n
  el : ends.length = n
  rw : ∀ r ∈ rows, r.length = l ∧ ∀ k, some k ∈ r → k < n
theorem WF.row {l n : Nat} {rows : Rows} {ends : List Bool} (W : WF l n rows ends) {s : Nat} (hs : s < n) : ∃ r, rows[s]? = some r ∧ r.length = l ∧ (∀ k, some k ∈ r → k < n) ∧ ∀ j, stepM rows s j = r.getD j none := by
  have hl : s < rows.length := by rw [W.rl]; exact hs
  refine ⟨rows[s], List.getElem?_eq_getElem hl, (W.rw _ (List.getElem_mem hl)).1, (W.rw _ (List.getElem_mem hl)).2, fun j => ?_⟩
  simp [stepM, List.getD_eq_getElem?_getD, List.getElem?_eq_getElem hl]
theorem WF.step_lt {l n : Nat} {rows : Rows} {ends : List Bool} (W : WF l n rows ends) {s j t : Nat} (hs : s < n) (h : stepM rows s j = some t) : t < n := by
  obtain ⟨r, _, _, r3, r4⟩ := W.row hs
  rw [r4, List.getD_eq_getElem?_getD] at h
  cases e : r[j]? with
  | none => rw [e] at h; cases h
  | some o =>
    rw [e] at h
    have h' : o = some t := h
    subst h'
    exact r3 t (List.mem_of_getElem? e)
def oV : Option Nat → V
  | none => .non
  | some k => .int k
structure MachAt (H : Hp) (p : Addr) (l : Nat) (rows : Rows) (ends : List Bool) : Prop where
  ex : ∃ (pr pe : Addr) (rvs : List V), H p = some (.tup [.int l, .ref pr, .ref pe]) ∧ H pr = some (.tup rvs) ∧ H pe = some (.tup (ends.map V.bl)) ∧ rvs.length = rows.length ∧
    ∀ (i : Nat) (r : List (Option Nat)), rows[i]? = some r → ∃ t : Addr, rvs[i]? = some (V.ref t) ∧ H t = some (.tup (r.map oV))
theorem MachAt.same {H H' : Hp} {p : Addr} {l : Nat} {rows : Rows} {ends : List Bool} (M : MachAt H p l rows ends) (s : Same H H') : MachAt H' p l rows ends := by
  obtain ⟨pr, pe, rvs, h1, h2, h3, h4, h5⟩ := M.ex
  exact ⟨pr, pe, rvs, s _ _ h1, s _ _ h2, s _ _ h3, h4, fun i r e => let ⟨t, a, b⟩ := h5 i r e; ⟨t, a, s _ _ b⟩⟩
def oL : Option Nat → List V
  | none => []
  | some s => [.int s]
theorem filter1_pos {p : V → Bool} {x : V} (h : p x = true) : List.filter p [x] = [x] := by simp [h]
theorem filter1_neg {p : V → Bool} {x : V} (h : ¬ p x = true) : List.filter p [x] = [] := by simp [h]
def fS (rows : Rows) (j : Nat) : V → V
  | .int st => oV (stepM rows st.toNat j)
  | _ => .non
def eS (ends : List Bool) : V → Bool
  | .int st => ends.getD st.toNat false
  | _ => false
theorem oL_mem {o : Option Nat} {x : V} (h : x ∈ oL o) : ∃ st, o = some st ∧ x = .int st := by
  cases o with
  | none => cases h
  | some st => exact ⟨st, rfl, List.mem_singleton.mp h⟩
theorem oL_len (o : Option Nat) : (oL o).length ≤ 1 := by
  cases o with
  | none => exact Nat.zero_le _
  | some st => exact Nat.le_refl _
theorem oL_step (rows : Rows) (j : Nat) (o : Option Nat) : ((oL o).map (fS rows j)).filter (fun v => !decide (v = .non)) = oL (o.bind fun st => stepM rows st j) := by
  cases o with
  | none => rfl
  | some st =>
    show ([oV (stepM rows st j)] : List V).filter _ = oL (stepM rows st j)
    cases stepM rows st j with
    | none => rfl
    | some t => rfl
theorem oL_end (ends : List Bool) (o : Option Nat) : (!((oL o).filter (eS ends)).isEmpty) = (match o with | none => false | some s => ends.getD s false) := by
  cases o with
  | none => rfl
  | some st =>
    show (!(([V.int (st : Int)] : List V).filter (eS ends)).isEmpty) = ends.getD st false
    have e : eS ends (V.int (st : Int)) = ends.getD st false := rfl
    cases z : ends.getD st false with
    | true => rw [List.filter_cons_of_pos (by rw [e, z])]; rfl
    | false => rw [List.filter_cons_of_neg (by rw [e, z]; exact Bool.false_ne_true)]; rfl
def conv : PyData → Option Nat
  | .int i => some i.toNat
  | _ => none
def rowOf : PyData → List (Option Nat)
  | .tuple xs => xs.map conv
  | _ => []
theorem conv_all {K : PySem.W.Frag} {H : Hp} {n : Nat} : ∀ {xs : List PyData} {ws : List V}, DtAll K H ws xs → (∀ x ∈ xs, x = .none ∨ ∃ i : Int, x = .int i ∧ 0 ≤ i ∧ i < n) → ws = (xs.map conv).map oV ∧ ∀ k, some k ∈ xs.map conv → k < n
  | _, _, .nil, _ => ⟨rfl, fun k h => nomatch h⟩
  | _, _, .cons (d := x) a r, hx => by
    obtain ⟨e1, e2⟩ := conv_all r fun y hy => hx y (List.mem_cons_of_mem _ hy)
    rcases hx x List.mem_cons_self with rfl | ⟨i, rfl, i0, i1⟩
    · cases a
      refine ⟨by rw [e1]; rfl, fun k hk => ?_⟩
      rcases List.mem_cons.mp hk with h | h
      · cases h
      · exact e2 k h
    · cases a
      refine ⟨?_, fun k hk => ?_⟩
      · rw [e1]
        show V.int i :: _ = V.int ((i.toNat : Nat) : Int) :: _
        rw [Int.toNat_of_nonneg i0]
      · rcases List.mem_cons.mp hk with h | h
        · have : k = i.toNat := Option.some.inj h
          omega
        · exact e2 k h
theorem bools_are {K : PySem.W.Frag} {H : Hp} : ∀ {bs : List Bool} {ws : List V}, DtAll K H ws (bs.map PyData.bool) → ws = bs.map V.bl
  | [], _, h => by cases h; rfl
  | b :: bs, _, h => by
    cases h with
    | cons a r =>
      cases a
      rw [bools_are r]
      rfl
theorem mach_of {K : PySem.W.Frag} {H : Hp} {p : Addr} {l n : Nat} {md : PyData} (im : IsMach l n md) (h : Dt K H (.ref p) md) (l1 : 1 ≤ l) (l4 : l ≤ 4) (n1 : 1 ≤ n) (n4 : n ≤ 400) : ∃ rows ends, MachAt H p l rows ends ∧ WF l n rows ends := by
  obtain ⟨rs, bs, rfl, i1, i2, i3⟩ := im
  cases h with
  | @tup _ us _ hp hus =>
  match us, hus with
  | [_, _, _], .cons a1 (.cons a2 (.cons a3 .nil)) =>
    cases a1
    cases a2 with
    | @tup pr rvs _ hpr hrs =>
    cases a3 with
    | @tup pe ws _ hpe hws =>
    have we := bools_are hws
    subst we
    refine ⟨rs.map rowOf, bs, ⟨pr, pe, rvs, hp, hpr, hpe, by rw [List.length_map]; exact hrs.length, fun i r hr => ?_⟩, ⟨l1, l4, n1, n4, by rw [List.length_map]; exact i1, i2, fun r hr => ?_⟩⟩
    · rw [List.getElem?_map] at hr
      cases e : rs[i]? with
      | none => rw [e] at hr; cases hr
      | some x =>
        rw [e] at hr
        cases hr
        obtain ⟨xs, rfl, x1, x2⟩ := i3 x (List.mem_of_getElem? e)
        have il : i < rvs.length := by rw [hrs.length]; exact (List.getElem?_eq_some_iff.mp e).1
        obtain ⟨v, hv⟩ : ∃ v, rvs[i]? = some v := ⟨_, List.getElem?_eq_getElem il⟩
        obtain ⟨dd, d1, d2⟩ := hrs.get hv
        rw [e] at d1
        cases d1
        cases d2 with
        | @tup t ws2 _ ht hts =>
          obtain ⟨c1, _⟩ := conv_all hts x2
          exact ⟨t, hv, by rw [ht, c1]; rfl⟩
    · obtain ⟨x, hx, rfl⟩ := List.mem_map.mp hr
      obtain ⟨xs, rfl, x1, x2⟩ := i3 x hx
      refine ⟨by show (xs.map conv).length = l; rw [List.length_map]; exact x1, ?_⟩
      -- the items, below n
      intro k hk
      obtain ⟨y, hy, e⟩ := List.mem_map.mp hk
      rcases x2 y hy with rfl | ⟨i, rfl, j0, j1⟩
      · cases e
      · have : i.toNat = k := Option.some.inj e
        omega
def tw (ws : List (List Nat)) : List V := ws.map fun u => V.str (wS u)
theorem tw_len (ws : List (List Nat)) : (tw ws).length = ws.length := List.length_map _
theorem tw_app (ws : List (List Nat)) (u : List Nat) : tw ws ++ [V.str (wS u)] = tw (ws ++ [u]) := by unfold tw; rw [List.map_append]; rfl
def spIs : Sp := fun vs H Q _ => ∃ (p : Addr) (l n : Nat) (rows : Rows) (ends : List Bool) (w : List Nat), vs = [.ref p, .str (wS w)] ∧ MachAt H p l rows ends ∧ WF l n rows ends ∧ (∀ j ∈ w, j < l) ∧ ∀ G, Same H G → Q (.bl (isOf rows ends w)) G
theorem pe_ixT {X : Cx} {a b : Expr} {ta tb : TE} {pos : Pos} (ha : PE X a ta) (hb : PE X b tb) (hs : PlainIx b) : PE X (.Subscript a b pos) (tOp (rIxT X.K) ta tb) := pe_ix ix_tup ha hb hs
end KM
/-! Values over the heap that are data of bounded weight. -/
namespace KG
open PySem GL GU KU
open L2 hiding isNon
open KC hiding rLenS call_lenS
def Gv (K : PySem.W.Frag) (H : Hp) (N : Nat) (v : V) : Prop := ∃ x, Du K H v x ∧ wt x ≤ N
def Ga (K : PySem.W.Frag) (H : Hp) (N : Nat) (vs : List V) : Prop := ∃ ds, DuAll K H vs ds ∧ wts ds ≤ N
/-- each one good -/
def Gs (K : PySem.W.Frag) (H : Hp) (N : Nat) (vs : List V) : Prop := ∀ v ∈ vs, Gv K H N v
theorem wts_app : ∀ ds es : List PyData, wts (ds ++ es) = wts ds + wts es
  | [], es => by simp [wts]
  | d :: ds, es => by simp only [List.cons_append, wts, wts_app ds es]; omega
theorem wts_take : ∀ (n : Nat) (ds : List PyData), wts (ds.take n) ≤ wts ds
  | 0, ds => by simp [wts]
  | n + 1, [] => by simp [wts]
  | n + 1, d :: ds => by simp only [List.take_succ_cons, wts]; have := wts_take n ds; omega
theorem wts_drop : ∀ (n : Nat) (ds : List PyData), wts (ds.drop n) ≤ wts ds
  | 0, ds => Nat.le_refl _
  | n + 1, [] => by simp [wts]
  | n + 1, d :: ds => by simp only [List.drop_succ_cons, wts]; have := wts_drop n ds; omega
section
variable {K : PySem.W.Frag} {H G : Hp} {N M : Nat} {v : V} {vs us : List V}
theorem Gv.same (h : Gv K H N v) (s : Same H G) : Gv K G N v := let ⟨x, a, b⟩ := h; ⟨x, a.same s, b⟩
theorem Gv.mono (h : Gv K H N v) (m : N ≤ M) : Gv K H M v := let ⟨x, a, b⟩ := h; ⟨x, a, Nat.le_trans b m⟩
theorem Ga.same (h : Ga K H N vs) (s : Same H G) : Ga K G N vs := let ⟨x, a, b⟩ := h; ⟨x, a.same s, b⟩
theorem Ga.mono (h : Ga K H N vs) (m : N ≤ M) : Ga K H M vs := let ⟨x, a, b⟩ := h; ⟨x, a, Nat.le_trans b m⟩
theorem Gs.same (h : Gs K H N vs) (s : Same H G) : Gs K G N vs := fun v m => (h v m).same s
theorem Gs.mono (h : Gs K H N vs) (m : N ≤ M) : Gs K H M vs := fun v e => (h v e).mono m
theorem Gv.non : Gv K H 5 .non := ⟨_, .non, by simp [wt]⟩
theorem Gv.bl (b : Bool) : Gv K H 5 (.bl b) := ⟨_, .bl b, by simp [wt]⟩
theorem Gv.int (i : Int) (h : i.natAbs < 10 ^ 41) : Gv K H 42 (.int i) := ⟨_, .int i, (fit_int (k := 0) h (Nat.le_refl _)).w⟩
theorem Gv.str {x : Str} (h : (PyData.str x).shown.length ≤ N) : Gv K H N (.str x) := ⟨_, .str x, (fit_str (k := 0) h (Nat.le_refl _)).w⟩
theorem Gv.tup {p : Addr} (e : H p = some (.tup vs)) (h : Ga K H N vs) : Gv K H (N + 3) (.ref p) := let ⟨ds, a, b⟩ := h; ⟨_, .tup e a, by simp only [wt]; omega⟩
theorem Gv.lst {p : Addr} (e : H p = some (.lst vs)) (h : Ga K H N vs) : Gv K H (N + 3) (.ref p) := let ⟨ds, a, b⟩ := h; ⟨_, .lst e a, by simp only [wt]; omega⟩
theorem Gv.dic {p : Addr} {kvs : List (Key × V)} (e : H p = some (.dK kvs)) : Gv K H 2 (.ref p) := ⟨_, .dic e, by simp [wt]⟩
theorem Ga.nil : Ga K H 0 [] := ⟨_, .nil, by simp [wts]⟩
theorem Ga.cons (a : Gv K H N v) (b : Ga K H M vs) : Ga K H (N + 2 + M) (v :: vs) := let ⟨x, a1, a2⟩ := a; let ⟨ds, b1, b2⟩ := b; ⟨_, .cons a1 b1, by simp only [wts]; omega⟩
theorem Ga.append (a : Ga K H N vs) (b : Ga K H M us) : Ga K H (N + M) (vs ++ us) := let ⟨x, a1, a2⟩ := a; let ⟨ds, b1, b2⟩ := b; ⟨_, a1.append b1, by rw [wts_app]; omega⟩
theorem Ga.take (n : Nat) (a : Ga K H N vs) : Ga K H N (vs.take n) := let ⟨x, a1, a2⟩ := a; ⟨_, a1.take n, Nat.le_trans (wts_take _ _) a2⟩
theorem Ga.drop (n : Nat) (a : Ga K H N vs) : Ga K H N (vs.drop n) := let ⟨x, a1, a2⟩ := a; ⟨_, a1.drop n, Nat.le_trans (wts_drop _ _) a2⟩
theorem Ga.cut (lo hi : Option Int) (a : Ga K H N vs) : Ga K H N (cutV vs lo hi) := by
  unfold cutV
  exact (a.drop _).take _
theorem Ga.rep (a : Ga K H N vs) : ∀ k : Nat, Ga K H (k * N) ((List.replicate k vs).flatten)
  | 0 => by rw [Nat.zero_mul]; exact Ga.nil
  | k + 1 => by
    rw [List.replicate_succ, List.flatten_cons]
    exact (a.append (Ga.rep a k)).mono (by rw [Nat.succ_mul]; omega)
theorem Ga.mem (a : Ga K H N vs) (m : v ∈ vs) : Gv K H N v := by
  obtain ⟨ds, a1, a2⟩ := a
  obtain ⟨i, hi⟩ := List.getElem?_of_mem m
  obtain ⟨d, e1, e2⟩ := a1.get hi
  exact ⟨d, e2, Nat.le_trans (mem_wts (List.mem_of_getElem? e1)) a2⟩
theorem Ga.ints : ∀ zs : List Int, (∀ z ∈ zs, z.natAbs < 10 ^ 41) → Ga K H (44 * zs.length) (zs.map V.int)
  | [], _ => Ga.nil
  | z :: zs, h => ((Ga.cons (Gv.int z (h z List.mem_cons_self)) (Ga.ints zs fun y hy => h y (List.mem_cons_of_mem _ hy)))).mono (by rw [List.length_cons]; omega)
theorem Ga.bools : ∀ bs : List Bool, Ga K H (7 * bs.length) (bs.map V.bl)
  | [] => Ga.nil
  | b :: bs => (Ga.cons (Gv.bl b) (Ga.bools bs)).mono (by rw [List.length_cons]; omega)
theorem Gs.nil : Gs K H N [] := fun _ m => nomatch m
theorem Gs.cons (a : Gv K H N v) (b : Gs K H N vs) : Gs K H N (v :: vs) := fun u m => by
  rcases List.mem_cons.mp m with rfl | m
  · exact a
  · exact b u m
theorem Gs.append (a : Gs K H N vs) (b : Gs K H N us) : Gs K H N (vs ++ us) := fun u m => by
  rcases List.mem_append.mp m with m | m
  · exact a u m
  · exact b u m
theorem Gv.small {x : PyData} (h : wt x ≤ N) (n : N ≤ 1000000) : KX.Small x := Nat.le_trans h n
end
/-- a row of a kind: leaves -/
def RowAt (K : PySem.W.Frag) (G : Hp) (l : Nat) (u : V) : Prop := ∃ (t : Addr) (ys : List V), u = .ref t ∧ G t = some (.tup ys) ∧ ys.length = l ∧ Ga K emp (44 * l) ys
theorem RowAt.same {K : PySem.W.Frag} {H G : Hp} {l : Nat} {u : V} (h : RowAt K H l u) (s : Same H G) : RowAt K G l u := let ⟨t, ys, a, b, c⟩ := h; ⟨t, ys, a, s _ _ b, c⟩
theorem RowAt.put {K : PySem.W.Frag} {H : Hp} {l : Nat} {u : V} {E : Addr} {xs : List V} {o : HO} (h : RowAt K H l u) (e : H E = some (.lst xs)) : RowAt K (upd H E o) l u := by
  obtain ⟨t, ys, a, b, c⟩ := h
  refine ⟨t, ys, a, ?_, c⟩
  rw [upd_ne (fun z => by rw [z, e] at b; cases b)]
  exact b
theorem rows_ga {K : PySem.W.Frag} {G : Hp} {l : Nat} : ∀ us : List V, (∀ u ∈ us, RowAt K G l u) → Ga K G (us.length * (44 * l + 5)) us
  | [], _ => Ga.nil.mono (Nat.zero_le _)
  | u :: us, h => by
    obtain ⟨t, ys, rfl, b, c, g⟩ := h u List.mem_cons_self
    have h1 : Gv K G (44 * l + 3) (.ref t) := Gv.tup b (g.same emp_same)
    exact (Ga.cons h1 (rows_ga us fun v m => h v (List.mem_cons_of_mem _ m))).mono (by rw [List.length_cons, Nat.add_mul, Nat.one_mul]; omega)
/-- a kind that is drawn -/
structure KindAt (K : PySem.W.Frag) (H : Hp) (a ra ea : Addr) (l : Nat) (us : List V) (bs : List Bool) : Prop where
  at_ : H a = some (.tup [.int l, .ref ra, .ref ea])
  rows : H ra = some (.tup us)
  ends : H ea = some (.tup (bs.map V.bl))
  row : ∀ u ∈ us, RowAt K H l u
  n1 : 1 ≤ us.length
  n4 : us.length ≤ 4
  eb : bs.length = us.length
  l1 : 1 ≤ l
  l4 : l ≤ 4
theorem KindAt.same {K : PySem.W.Frag} {H G : Hp} {a ra ea : Addr} {l : Nat} {us : List V} {bs : List Bool} (h : KindAt K H a ra ea l us bs) (s : Same H G) : KindAt K G a ra ea l us bs :=
  ⟨s _ _ h.at_, s _ _ h.rows, s _ _ h.ends, fun u m => (h.row u m).same s, h.n1, h.n4, h.eb, h.l1, h.l4⟩
end KG
/-! Schemes, plainly and over the heap, and their texts. No row. -/
namespace KS
open PySem PyProof.Rows L2 GL KC KW KR KM TL
structure Sch where
  l : Nat
  rows : Rows
  ends : List Bool
  bs : List Bool
  rs : List Pr
/-- all words of a rule, one behind another -/
def words : List Pr → List (List Nat)
  | [] => []
  | p :: rs => p.1 :: p.2 :: words rs
theorem words_app : ∀ a b : List Pr, words (a ++ b) = words a ++ words b
  | [], b => rfl
  | p :: a, b => by simp only [List.cons_append, words, words_app a b]
structure Ok (s : Sch) : Prop where
  l1 : 1 ≤ s.l
  l4 : s.l ≤ 4
  n1 : 1 ≤ s.rows.length
  n8 : s.rows.length ≤ 8
  el : s.ends.length = s.rows.length
  rw : ∀ r ∈ s.rows, r.length = s.l ∧ ∀ k, some k ∈ r → k < s.rows.length
  bl : s.bs.length = s.l
  R : Rul s.l s.rs
  nd : (words s.rs).Nodup
def oD : Option Nat → PyData
  | none => .none
  | some k => .int k
def rowD (r : List (Option Nat)) : PyData := .tuple (r.map oD)
def kindD (s : Sch) : PyData := .tuple [.int s.l, .tuple (s.rows.map rowD), .tuple (s.ends.map PyData.bool)]
def dataOf (s : Sch) : PyData := .tuple [kindD s, .str (sS s.bs), rD s.rs]
structure SchAt (H : Hp) (p : Addr) (s : Sch) : Prop where
  ex : ∃ k r : Addr, H p = some (.tup [.ref k, .str (sS s.bs), .ref r]) ∧ MachAt H k s.l s.rows s.ends ∧ RuleAt H r s.rs
theorem SchAt.same {H H' : Hp} {p : Addr} {s : Sch} (S : SchAt H p s) (e : Same H H') : SchAt H' p s := let ⟨k, r, a, b, c⟩ := S.ex; ⟨k, r, e _ _ a, b.same e, c.same e⟩
section
variable {K : PySem.W.Frag} {H : Hp}
theorem oV_dt : ∀ o : Option Nat, Dt K H (oV o) (oD o)
  | none => .non
  | some k => .int _
theorem row_dt : ∀ r : List (Option Nat), DtAll K H (r.map oV) (r.map oD)
  | [] => .nil
  | o :: r => .cons (oV_dt o) (row_dt r)
theorem rows_dt : ∀ {rvs : List V} {rows : Rows}, rvs.length = rows.length → (∀ (i : Nat) (r : List (Option Nat)), rows[i]? = some r → ∃ t : Addr, rvs[i]? = some (V.ref t) ∧ H t = some (.tup (r.map oV))) → DtAll K H rvs (rows.map rowD)
  | [], [], _, _ => .nil
  | v :: rvs, r :: rows, hl, h => by
    obtain ⟨t, h1, h2⟩ := h 0 r rfl
    cases h1
    refine .cons (.tup h2 (row_dt r)) (rows_dt (by simpa using hl) fun i q hq => ?_)
    obtain ⟨t2, a, b⟩ := h (i + 1) q (by simpa using hq)
    exact ⟨t2, by simpa using a, b⟩
theorem MachAt.dt {k : Addr} {l : Nat} {rows : Rows} {ends : List Bool} (M : MachAt H k l rows ends) : Dt K H (.ref k) (.tuple [.int l, .tuple (rows.map rowD), .tuple (ends.map PyData.bool)]) := by
  obtain ⟨pr, pe, rvs, h1, h2, h3, h4, h5⟩ := M.ex
  exact .tup h1 (.cons (.int _) (.cons (.tup h2 (rows_dt h4 h5)) (.cons (.tup h3 (bools_dt ends)) .nil)))
theorem SchAt.dt {p : Addr} {s : Sch} (S : SchAt H p s) : Dt K H (.ref p) (dataOf s) := by
  obtain ⟨k, r, a, b, c⟩ := S.ex
  exact .tup a (.cons (MachAt.dt b) (.cons (.str _) (.cons c.dt .nil)))
mutual
theorem toDu : ∀ {d : PyData} {v : V}, Dt K H v d → GU.Du K H v d
  | _, _, .non => .non
  | _, _, .bl b => .bl b
  | _, _, .int i => .int i
  | _, _, .str x => .str x
  | _, _, .lst h a => .lst h (toDuAll a)
  | _, _, .tup h a => .tup h (toDuAll a)
  | _, _, .dic h => .dic h
theorem toDuAll : ∀ {ds : List PyData} {vs : List V}, DtAll K H vs ds → GU.DuAll K H vs ds
  | _, _, .nil => .nil
  | _, _, .cons h a => .cons (toDu h) (toDuAll a)
end
end
/-! ### texts -/
def nS (k : Nat) : Str := Str.ofString (toString ((k : Nat) : Int))
def itemT : Option Nat → Str
  | none => "."
  | some k => nS k
def rowWords (r : List (Option Nat)) (e : Bool) : List Str := ("state" : Str) :: (r.map itemT ++ if e then [("end" : Str)] else [])
def rowLine (r : List (Option Nat)) (e : Bool) : Str := Txt.join " " (rowWords r e)
def pairWords (p : Pr) : List Str := ["pair", wS p.1, wS p.2]
def pairLine (p : Pr) : Str := Txt.join " " (pairWords p)
def lineK (l : Nat) : Str := "letters " ++ wS (List.range l)
def lineS (bs : List Bool) : Str := Txt.join " " ["signs", sS bs]
def lines (s : Sch) : List Str := lineK s.l :: lineS s.bs :: (List.zipWith rowLine s.rows s.ends ++ s.rs.map pairLine)
def textS (s : Sch) : Str := Txt.join "\n" (lines s)
theorem tl_item_free {o : Option Nat} {c : Nat} (h : c = 10 ∨ c = 32) : c ∉ tl (itemT o) := by
  cases o with
  | none =>
    show c ∉ [46]
    simp; omega
  | some k =>
    show c ∉ tl (nS k)
    rw [nS, tl_num]
    exact numL_free (by omega)
theorem tl_wS_free {w : List Nat} {c : Nat} (h : c < 97) : c ∉ tl (wS w) := fun m => by
  have m' : c ∈ w.map (97 + ·) := m
  obtain ⟨j, _, e⟩ := List.mem_map.mp m'
  omega
theorem tl_sS_free {bs : List Bool} {c : Nat} (h : c < 43) : c ∉ tl (sS bs) := fun m => by
  have m' : c ∈ bs.map sc := m
  obtain ⟨j, _, e⟩ := List.mem_map.mp m'
  cases j <;> simp only [sc] at e <;> simp at e <;> omega
theorem sp1 : tl (" " : Str) = 32 :: [] := rfl
theorem nl1 : tl ("\n" : Str) = 10 :: [] := rfl
theorem row_free (r : List (Option Nat)) (e : Bool) : ∀ x ∈ rowWords r e, (32 ∉ tl x) ∧ (10 ∉ tl x) := by
  intro x hx
  unfold rowWords at hx
  rcases List.mem_cons.mp hx with rfl | hx
  · exact ⟨by decide, by decide⟩
  · rcases List.mem_append.mp hx with hx | hx
    · obtain ⟨o, _, rfl⟩ := List.mem_map.mp hx
      exact ⟨tl_item_free (.inr rfl), tl_item_free (.inl rfl)⟩
    · cases e with
      | false => cases hx
      | true =>
        rw [List.mem_singleton.mp hx]
        exact ⟨by decide, by decide⟩
theorem row_split (r : List (Option Nat)) (e : Bool) : Txt.split (rowLine r e) " " = rowWords r e :=
  TL.split_join sp1 (by decide +kernel) (by unfold rowWords; simp) fun x hx => (row_free r e x hx).1
theorem pair_free (p : Pr) : ∀ x ∈ pairWords p, (32 ∉ tl x) ∧ (10 ∉ tl x) := by
  intro x hx
  unfold pairWords at hx
  rcases List.mem_cons.mp hx with rfl | hx
  · exact ⟨by decide, by decide⟩
  · rcases List.mem_cons.mp hx with rfl | hx
    · exact ⟨tl_wS_free (by decide), tl_wS_free (by decide)⟩
    · rw [List.mem_singleton.mp hx]
      exact ⟨tl_wS_free (by decide), tl_wS_free (by decide)⟩
theorem pair_split (p : Pr) : Txt.split (pairLine p) " " = pairWords p := TL.split_join sp1 (by decide +kernel) (by unfold pairWords; simp) fun x hx => (pair_free p x hx).1
theorem sign_free (bs : List Bool) : ∀ x ∈ ([("signs" : Str), sS bs] : List Str), (32 ∉ tl x) ∧ (10 ∉ tl x) := by
  intro x hx
  rcases List.mem_cons.mp hx with rfl | hx
  · exact ⟨by decide, by decide⟩
  · rw [List.mem_singleton.mp hx]
    exact ⟨tl_sS_free (by decide), tl_sS_free (by decide)⟩
theorem sign_split (bs : List Bool) : Txt.split (lineS bs) " " = [("signs" : Str), sS bs] := TL.split_join sp1 (by decide +kernel) (by simp) fun x hx => (sign_free bs x hx).1
/-- a joined text is free of a sign that stands in no part and not between them -/
theorem join_free {c : Nat} {y : Str} (hy : c ∉ tl y) {parts : List Str} (h : ∀ x ∈ parts, c ∉ tl x) : c ∉ tl (Txt.join y parts) := by
  rw [TL.join_eq, TL.tl_join]
  induction parts with
  | nil => simp [joinL]
  | cons p q ih =>
    cases q with
    | nil => exact h p List.mem_cons_self
    | cons q r =>
      show c ∉ tl p ++ (tl y ++ joinL (tl y) ((q :: r).map tl))
      simp only [List.mem_append, not_or]
      exact ⟨h p List.mem_cons_self, hy, ih fun x hx => h x (List.mem_cons_of_mem _ hx)⟩
theorem lines_free (s : Sch) : ∀ x ∈ lines s, 10 ∉ tl x := by
  intro x hx
  unfold lines at hx
  rcases List.mem_cons.mp hx with rfl | hx
  · show 10 ∉ tl (("letters " : Str) ++ wS _)
    rw [tl_append]
    simp only [List.mem_append, not_or]
    exact ⟨by decide, tl_wS_free (by decide)⟩
  · rcases List.mem_cons.mp hx with rfl | hx
    · exact join_free (by decide) fun x hx => (sign_free s.bs x hx).2
    · rcases List.mem_append.mp hx with hx | hx
      · obtain ⟨i, hi⟩ := List.getElem?_of_mem hx
        rw [List.getElem?_zipWith] at hi
        cases e1 : s.rows[i]? with
        | none => rw [e1] at hi; cases hi
        | some r =>
          cases e2 : s.ends[i]? with
          | none => rw [e1, e2] at hi; cases hi
          | some e =>
            rw [e1, e2] at hi
            cases hi
            exact join_free (by decide) fun x hx => (row_free r e x hx).2
      · obtain ⟨p, _, rfl⟩ := List.mem_map.mp hx
        exact join_free (by decide) fun x hx => (pair_free p x hx).2
theorem text_split (s : Sch) : Txt.split (textS s) "\n" = lines s := TL.split_join nl1 (by decide +kernel) (by unfold lines; simp) fun x hx => lines_free s x hx
end KS
/-! A scheme has no error; schemes with the same text are the same; schemes compared. No row. -/
namespace KS
open PySem PyProof.Rows GL KW KR KM TL GU
open L2 hiding isNon
open KC hiding rLenS call_lenS
open KX (walkE pairD pieceD okP inA errD)
theorem kind_ok {s : Sch} (h : Ok s) : KU.err (kindD s) = .non := by
  unfold kindD
  rw [KU.err_three]
  have h1 : KU.inR 1 4 (.int s.l) = true := by
    have := h.l1; have := h.l4
    simp only [KU.inR, Bool.and_eq_true, decide_eq_true_eq]
    omega
  have hrow : ∀ r ∈ s.rows, KU.rowOk s.l s.rows.length (rowD r) = true := by
    intro r hr
    obtain ⟨a, b⟩ := h.rw r hr
    show (decide (((r.map oD).length : Int) = s.l) && (r.map oD).all fun d => KU.isNon d || KU.inR 0 ((s.rows.length : Int) - 1) d) = true
    rw [List.length_map, a]
    simp only [decide_true, Bool.true_and, List.all_eq_true]
    intro d hd
    obtain ⟨o, ho, rfl⟩ := List.mem_map.mp hd
    cases o with
    | none => rfl
    | some k =>
      have := b k ho
      simp only [oD, KU.isNon, KU.inR, Bool.false_or, Bool.and_eq_true, decide_eq_true_eq]
      omega
  have h2 : KU.rowsOk s.l (.tuple (s.rows.map rowD)) = true := by
    show (decide (1 ≤ (s.rows.map rowD).length) && decide ((s.rows.map rowD).length ≤ 400) && (s.rows.map rowD).all (KU.rowOk s.l ((s.rows.map rowD).length : Int))) = true
    rw [List.length_map]
    have := h.n1; have := h.n8
    simp only [Bool.and_eq_true, decide_eq_true_eq, List.all_eq_true]
    refine ⟨⟨by omega, by omega⟩, fun d hd => ?_⟩
    obtain ⟨r, hr, rfl⟩ := List.mem_map.mp hd
    exact hrow r hr
  have h3 : KU.endsOk (KU.len0 (.tuple (s.rows.map rowD))) (.tuple (s.ends.map PyData.bool)) = true := by
    unfold KU.endsOk KU.len0
    simp only [List.length_map, h.el, decide_true, Bool.true_and, List.all_eq_true]
    intro d hd
    obtain ⟨b, _, rfl⟩ := List.mem_map.mp hd
    rfl
  rw [if_pos h1]
  simp only [h2, h3, if_true]
theorem wS_inj {a b : List Nat} (h : wS a = wS b) : a = b := by
  have h' : a.map (97 + ·) = b.map (97 + ·) := congrArg (fun x : Str => x.cps.toList) h
  exact KR.add_inj a b h'
theorem piece_of {l : Nat} {w : List Nat} (h1 : 1 ≤ w.length) (h3 : w.length ≤ 3) (h : ∀ j ∈ w, j < l) : pieceD l (.str (wS w)) = some (wS w) := by
  have e : okP l (wS w) = true := by
    unfold okP
    rw [wS_len]
    simp only [Bool.and_eq_true, decide_eq_true_eq, List.all_eq_true]
    refine ⟨⟨h1, h3⟩, fun c hc => ?_⟩
    rw [wS_list] at hc
    obtain ⟨j, hj, rfl⟩ := List.mem_map.mp hc
    unfold inA KX.ab
    rw [wS_list, decide_eq_true_eq]
    exact List.mem_map.mpr ⟨j, List.mem_range.mpr (h j hj), rfl⟩
  show (if okP l (wS w) = true then some (wS w) else none) = _
  rw [if_pos e]
theorem pair_of {l : Nat} {p : Pr} (h : 1 ≤ p.1.length ∧ p.1.length ≤ 3 ∧ p.2.length = p.1.length ∧ p.1 ≠ p.2 ∧ (∀ j ∈ p.1, j < l) ∧ ∀ j ∈ p.2, j < l) : pairD l (pD p) = some (wS p.1, wS p.2) := by
  obtain ⟨a, b, c, d, e, f⟩ := h
  unfold pD
  show (match pieceD l (.str (wS p.1)), pieceD l (.str (wS p.2)) with | some x, some y => if x.length = y.length ∧ x ≠ y then some (x, y) else none | _, _ => none) = _
  rw [piece_of a b e, piece_of (by omega) (by omega) f]
  show (if (wS p.1).length = (wS p.2).length ∧ wS p.1 ≠ wS p.2 then some (wS p.1, wS p.2) else none) = _
  rw [if_pos ⟨by rw [wS_len, wS_len, c], fun z => d (wS_inj z)⟩]
theorem walk_none {l : Nat} : ∀ (rs : List Pr) (i : Nat) (tk : List (List Nat)), (∀ p ∈ rs, 1 ≤ p.1.length ∧ p.1.length ≤ 3 ∧ p.2.length = p.1.length ∧ p.1 ≠ p.2 ∧ (∀ j ∈ p.1, j < l) ∧ ∀ j ∈ p.2, j < l) →
    (tk ++ words rs).Nodup → walkE l i (tk.map wS) (rs.map pD) = none
  | [], _, _, _, _ => rfl
  | p :: rs, i, tk, h, nd => by
    have hp := pair_of (h p List.mem_cons_self)
    have nin : ∀ x ∈ words (p :: rs), wS x ∉ tk.map wS := fun x hx m => by
      obtain ⟨y, hy, e⟩ := List.mem_map.mp m
      have := wS_inj e
      subst this
      exact (List.nodup_append.mp nd).2.2 y hy y hx rfl
    have e1 := nin p.1 (by simp [words])
    have e2 := nin p.2 (by simp [words])
    show (match pairD l (pD p) with | none => some i | some (x, y) => if x ∈ tk.map wS ∨ y ∈ tk.map wS then some i else walkE l (i + 1) (tk.map wS ++ [x, y]) (rs.map pD)) = none
    rw [hp]
    show (if wS p.1 ∈ tk.map wS ∨ wS p.2 ∈ tk.map wS then some i else walkE l (i + 1) (tk.map wS ++ [wS p.1, wS p.2]) (rs.map pD)) = none
    rw [if_neg fun z => z.elim e1 e2]
    have e3 : tk.map wS ++ [wS p.1, wS p.2] = (tk ++ [p.1, p.2]).map wS := by simp
    rw [e3]
    refine walk_none rs (i + 1) (tk ++ [p.1, p.2]) (fun q hq => h q (List.mem_cons_of_mem _ hq)) ?_
    have e4 : tk ++ [p.1, p.2] ++ words rs = tk ++ words (p :: rs) := by simp [words]
    rw [e4]
    exact nd
theorem rule_ok {s : Sch} (h : Ok s) : errD s.l (rD s.rs) = .none := by
  unfold rD errD
  have w : walkE s.l 0 [] (s.rs.map pD) = none := walk_none (l := s.l) s.rs 0 [] h.R.ok (by simpa using h.nd)
  simp only [w]
  rw [if_neg (by rw [List.length_map]; have := h.R.len; omega)]
/-! ### the same text -/
theorem sS_inj {a b : List Bool} (h : sS a = sS b) : a = b := by
  have h' : a.map sc = b.map sc := congrArg (fun x : Str => x.cps.toList) h
  revert b
  induction a with
  | nil => intro b _ h'; cases b with | nil => rfl | cons _ _ => cases h'
  | cons x a ih =>
    intro b _ h'
    cases b with
    | nil => cases h'
    | cons y b =>
      simp only [List.map_cons, List.cons.injEq] at h'
      obtain ⟨h1, h2⟩ := h'
      have e : a = b := ih (by unfold sS; rw [h2]) h2
      have : x = y := by cases x <;> cases y <;> simp_all [sc]
      rw [this, e]
theorem item_inj {a b : Option Nat} (h : itemT a = itemT b) : a = b := by
  have h' : tl (itemT a) = tl (itemT b) := by rw [h]
  cases a with
  | none =>
    cases b with
    | none => rfl
    | some k =>
      have h2 : [46] = numL k := by rw [← tl_num k]; exact h'
      exact absurd (h2 ▸ List.mem_singleton.mpr rfl : (46 : Nat) ∈ numL k) (numL_free (by decide))
  | some k =>
    cases b with
    | none =>
      have h2 : numL k = [46] := by rw [← tl_num k]; exact h'
      exact absurd (h2 ▸ List.mem_singleton.mpr rfl : (46 : Nat) ∈ numL k) (numL_free (by decide))
    | some j =>
      have h2 : numL k = numL j := by rw [← tl_num k, ← tl_num j]; exact h'
      rw [numL_inj h2]
theorem item_end (o : Option Nat) : itemT o ≠ "end" := fun h => by
  have h' : tl (itemT o) = [101, 110, 100] := by rw [h]; rfl
  cases o with
  | none => exact absurd h' (by decide)
  | some k =>
    have h2 : numL k = [101, 110, 100] := by rw [← tl_num k]; exact h'
    exact absurd (h2 ▸ List.mem_cons_self : (101 : Nat) ∈ numL k) (numL_free (by decide))
theorem items_inj : ∀ {a b : List (Option Nat)}, a.map itemT = b.map itemT → a = b
  | [], [], _ => rfl
  | x :: a, y :: b, h => by
    simp only [List.map_cons, List.cons.injEq] at h
    rw [item_inj h.1, items_inj h.2]
theorem rowWords_inj {r r' : List (Option Nat)} {e e' : Bool} (h : rowWords r e = rowWords r' e') : r = r' ∧ e = e' := by
  unfold rowWords at h
  have h1 := (List.cons.inj h).2
  cases e with
  | false =>
    cases e' with
    | false => simp only [Bool.false_eq_true, if_false, List.append_nil] at h1; exact ⟨items_inj h1, rfl⟩
    | true =>
      simp only [Bool.false_eq_true, if_false, List.append_nil, if_true] at h1
      have m : ("end" : Str) ∈ r.map itemT := by rw [h1]; simp
      obtain ⟨o, _, z⟩ := List.mem_map.mp m
      exact absurd z (item_end o)
  | true =>
    cases e' with
    | false =>
      simp only [Bool.false_eq_true, if_false, List.append_nil, if_true] at h1
      have m : ("end" : Str) ∈ r'.map itemT := by rw [← h1]; simp
      obtain ⟨o, _, z⟩ := List.mem_map.mp m
      exact absurd z (item_end o)
    | true =>
      simp only [if_true] at h1
      exact ⟨items_inj (List.append_cancel_right h1), rfl⟩
theorem rowLine_inj {r r' : List (Option Nat)} {e e' : Bool} (h : rowLine r e = rowLine r' e') : r = r' ∧ e = e' := by
  have := congrArg (fun x => Txt.split x " ") h
  simp only [row_split] at this
  exact rowWords_inj this
theorem pairLine_inj {p q : Pr} (h : pairLine p = pairLine q) : p = q := by
  have := congrArg (fun x => Txt.split x " ") h
  simp only [pair_split, pairWords, List.cons.injEq] at this
  obtain ⟨_, a, b, _⟩ := this
  exact Prod.ext (wS_inj a) (wS_inj b)
theorem row_pair {r : List (Option Nat)} {e : Bool} {p : Pr} (h : rowLine r e = pairLine p) : False := by
  have := congrArg (fun x => Txt.split x " ") h
  simp only [row_split, pair_split, rowWords, pairWords, List.cons.injEq] at this
  exact absurd this.1 (by decide +kernel)
theorem rest_inj : ∀ {rows rows' : Rows} {ends ends' : List Bool} {rs rs' : List Pr}, ends.length = rows.length → ends'.length = rows'.length →
    List.zipWith rowLine rows ends ++ rs.map pairLine = List.zipWith rowLine rows' ends' ++ rs'.map pairLine → rows = rows' ∧ ends = ends' ∧ rs = rs'
  | [], [], ends, ends', rs, rs', h1, h2, h => by
    have e1 : ends = [] := List.eq_nil_of_length_eq_zero h1
    have e2 : ends' = [] := List.eq_nil_of_length_eq_zero h2
    subst e1 e2
    refine ⟨rfl, rfl, ?_⟩
    have h' : rs.map pairLine = rs'.map pairLine := h
    clear h h1 h2
    induction rs generalizing rs' with
    | nil => cases rs' with | nil => rfl | cons _ _ => cases h'
    | cons p rs ih =>
      cases rs' with
      | nil => cases h'
      | cons q rs' =>
        simp only [List.map_cons, List.cons.injEq] at h'
        rw [pairLine_inj h'.1, ih rs' h'.2]
  | [], r' :: rows', ends, e' :: ends', rs, rs', h1, h2, h => by
    have e1 : ends = [] := List.eq_nil_of_length_eq_zero h1
    subst e1
    have h' : rs.map pairLine = rowLine r' e' :: (List.zipWith rowLine rows' ends' ++ rs'.map pairLine) := h
    cases rs with
    | nil => cases h'
    | cons p rs => exact (row_pair (List.cons.inj h').1.symm).elim
  | r :: rows, [], e :: ends, ends', rs, rs', h1, h2, h => by
    have e1 : ends' = [] := List.eq_nil_of_length_eq_zero h2
    subst e1
    have h' : rowLine r e :: (List.zipWith rowLine rows ends ++ rs.map pairLine) = rs'.map pairLine := h
    cases rs' with
    | nil => cases h'
    | cons p rs' => exact (row_pair (List.cons.inj h').1).elim
  | r :: rows, r' :: rows', e :: ends, e' :: ends', rs, rs', h1, h2, h => by
    have h' : rowLine r e :: (List.zipWith rowLine rows ends ++ rs.map pairLine) = rowLine r' e' :: (List.zipWith rowLine rows' ends' ++ rs'.map pairLine) := h
    obtain ⟨a, b⟩ := rowLine_inj (List.cons.inj h').1
    obtain ⟨c, d, f⟩ := rest_inj (by simpa using h1) (by simpa using h2) (List.cons.inj h').2
    exact ⟨by rw [a, c], by rw [b, d], f⟩
theorem text_inj {s t : Sch} (hs : Ok s) (ht : Ok t) (h : textS s = textS t) : s = t := by
  have h1 := congrArg (fun x => Txt.split x "\n") h
  simp only [text_split, lines, List.cons.injEq] at h1
  obtain ⟨a, b, c⟩ := h1
  have el : s.l = t.l := by
    have a' : tl (lineK s.l) = tl (lineK t.l) := by rw [a]
    unfold lineK at a'
    rw [tl_append, tl_append] at a'
    have := congrArg List.length a'
    rw [List.length_append, List.length_append, ← len_tl, ← len_tl, ← len_tl, wS_len, wS_len, List.length_range, List.length_range] at this
    omega
  have eb : s.bs = t.bs := by
    have := congrArg (fun x => Txt.split x " ") b
    simp only [sign_split, List.cons.injEq] at this
    exact sS_inj this.2.1
  obtain ⟨c1, c2, c3⟩ := rest_inj hs.el ht.el c
  cases s
  cases t
  simp only at el eb c1 c2 c3
  rw [el, eb, c1, c2, c3]
/-! ### schemes compared -/
theorem eqv_ends : ∀ a b : List Bool, PyData.eqvAll (a.map PyData.bool) (b.map PyData.bool) = true ↔ a = b
  | [], [] => by simp [PyData.eqvAll]
  | [], _ :: _ => by simp [PyData.eqvAll]
  | _ :: _, [] => by simp [PyData.eqvAll]
  | x :: a, y :: b => by
    have ih := eqv_ends a b
    simp only [List.map_cons, PyData.eqvAll, PyData.eqv, Bool.and_eq_true, ih, beq_iff_eq, List.cons.injEq]
theorem eqv_o (a b : Option Nat) : PyData.eqv (oD a) (oD b) = true ↔ a = b := by
  cases a <;> cases b <;> simp [oD, PyData.eqv] <;> omega
theorem eqv_row : ∀ a b : List (Option Nat), PyData.eqvAll (a.map oD) (b.map oD) = true ↔ a = b
  | [], [] => by simp [PyData.eqvAll]
  | [], _ :: _ => by simp [PyData.eqvAll]
  | _ :: _, [] => by simp [PyData.eqvAll]
  | x :: a, y :: b => by
    have ih := eqv_row a b
    simp only [List.map_cons, PyData.eqvAll, Bool.and_eq_true, ih, eqv_o, List.cons.injEq]
theorem eqv_rows : ∀ a b : Rows, PyData.eqvAll (a.map rowD) (b.map rowD) = true ↔ a = b
  | [], [] => by simp [PyData.eqvAll]
  | [], _ :: _ => by simp [PyData.eqvAll]
  | _ :: _, [] => by simp [PyData.eqvAll]
  | x :: a, y :: b => by
    have ih := eqv_rows a b
    simp only [List.map_cons, PyData.eqvAll, Bool.and_eq_true, ih, List.cons.injEq]
    unfold rowD
    simp only [PyData.eqv, eqv_row]
theorem eqv_rule : ∀ a b : List Pr, PyData.eqvAll (a.map pD) (b.map pD) = true ↔ a = b
  | [], [] => by simp [PyData.eqvAll]
  | [], _ :: _ => by simp [PyData.eqvAll]
  | _ :: _, [] => by simp [PyData.eqvAll]
  | (x1, x2) :: a, (y1, y2) :: b => by
    have ih := eqv_rule a b
    have i1 : wS x1 = wS y1 ↔ x1 = y1 := ⟨wS_inj, fun h => by rw [h]⟩
    have i2 : wS x2 = wS y2 ↔ x2 = y2 := ⟨wS_inj, fun h => by rw [h]⟩
    simp only [List.map_cons, PyData.eqvAll, Bool.and_eq_true, ih, List.cons.injEq, pD, PyData.eqv, beq_iff_eq, i1, i2, Prod.mk.injEq, and_true]
theorem eqv_data (s t : Sch) : PyData.eqv (dataOf s) (dataOf t) = true ↔ s = t := by
  have i1 : sS s.bs = sS t.bs ↔ s.bs = t.bs := ⟨sS_inj, fun h => by rw [h]⟩
  unfold dataOf kindD rD
  simp only [PyData.eqv, PyData.eqvAll, Bool.and_eq_true, eqv_rows, eqv_ends, eqv_rule, beq_iff_eq, i1, and_true]
  cases s
  cases t
  simp only [Sch.mk.injEq]
  constructor
  · rintro ⟨⟨a, b, c⟩, d, e⟩
    exact ⟨by omega, b, c, d, e⟩
  · rintro ⟨a, b, c, d, e⟩
    exact ⟨⟨by omega, b, c⟩, d, e⟩
theorem eq_text {s t : Sch} (hs : Ok s) (ht : Ok t) : PyData.eqv (dataOf s) (dataOf t) = decide (V.str (textS s) = V.str (textS t)) := by
  by_cases e : s = t
  · subst e
    rw [(eqv_data s s).mpr rfl, decide_eq_true rfl]
  · rw [Bool.eq_false_iff.mpr fun z => e ((eqv_data s t).mp z), decide_eq_false fun z => e (text_inj hs ht (V.str.inj z))]
end KS
/-! Texts of schemes read, plainly. No row. -/
namespace KP
open PySem PyProof.Rows GL KW KR KM TL KS
open L2 hiding isNon
open KC hiding rLenS call_lenS
/-! ### decimal numbers -/
theorem val_app (a : List Nat) (d : Nat) : NumText.digitsVal (a ++ [d]) = NumText.digitsVal a * 10 + (d - 48) := by
  unfold NumText.digitsVal
  rw [List.foldl_append]; rfl
theorem rev_ind {α : Type} {P : List α → Prop} (h0 : P []) (h1 : ∀ a d, P a → P (a ++ [d])) : ∀ l, P l := fun l => by
  have : P l.reverse.reverse := by
    induction l.reverse with
    | nil => exact h0
    | cons d a ih => rw [List.reverse_cons]; exact h1 _ _ ih
  rwa [List.reverse_reverse] at this
theorem val_lt (ds : List Nat) : NumText.AllDigits ds → NumText.digitsVal ds < 10 ^ ds.length := by
  refine rev_ind (P := fun ds => NumText.AllDigits ds → NumText.digitsVal ds < 10 ^ ds.length) (fun _ => by decide) (fun a d ih h => ?_) ds
  have i := ih fun c hc => h c (List.mem_append_left _ hc)
  have hd := h d (List.mem_append_right _ (List.mem_singleton.mpr rfl))
  rw [val_app, List.length_append, List.length_singleton, Nat.pow_succ]
  omega
theorem val_pos (ds : List Nat) : NumText.AllDigits ds → ds ≠ [] → ds.head? ≠ some 48 → 1 ≤ NumText.digitsVal ds := by
  refine rev_ind (P := fun ds => NumText.AllDigits ds → ds ≠ [] → ds.head? ≠ some 48 → 1 ≤ NumText.digitsVal ds) (fun _ h => absurd rfl h) (fun a d ih h _ hh => ?_) ds
  rw [val_app]
  cases a with
  | nil =>
    have hd := h d (by simp)
    have : d ≠ 48 := fun e => hh (by rw [e]; rfl)
    have e0 : NumText.digitsVal [] = 0 := rfl
    rw [e0]
    omega
  | cons c a =>
    have := ih (fun c hc => h c (List.mem_append_left _ hc)) (by simp) (by simpa using hh)
    omega
theorem num_back (ds : List Nat) : NumText.AllDigits ds → ds ≠ [] → (ds.head? = some 48 → ds = [48]) → numL (NumText.digitsVal ds) = ds := by
  refine rev_ind (P := fun ds => NumText.AllDigits ds → ds ≠ [] → (ds.head? = some 48 → ds = [48]) → numL (NumText.digitsVal ds) = ds) (fun _ h => absurd rfl h) (fun a d ih h _ hh => ?_) ds
  have hd := h d (List.mem_append_right _ (List.mem_singleton.mpr rfl))
  rw [val_app]
  cases a with
  | nil =>
    have e0 : NumText.digitsVal [] = 0 := rfl
    rw [e0, numL_lt (by omega)]
    show [48 + (0 * 10 + (d - 48))] = [d]
    congr 1
    omega
  | cons c a =>
    have ha : NumText.AllDigits (c :: a) := fun z hz => h z (List.mem_append_left _ hz)
    have nh : (c :: a).head? ≠ some 48 := fun e => by
      have := hh (by simpa using e)
      simp at this
    have i := ih ha (by simp) fun e => absurd e nh
    have p := val_pos (c :: a) ha (by simp) nh
    rw [numL_step (by omega)]
    have e1 : (NumText.digitsVal (c :: a) * 10 + (d - 48)) / 10 = NumText.digitsVal (c :: a) := by omega
    have e2 : 48 + (NumText.digitsVal (c :: a) * 10 + (d - 48)) % 10 = d := by omega
    rw [e1, e2, i]
theorem num_head (n : Nat) : (numL n).head? = some 48 → n = 0 := by
  induction n using Nat.strongRecOn with
  | _ n ih =>
    intro h
    by_cases c : n < 10
    · rw [numL_lt c] at h
      have : 48 + n = 48 := by simpa using h
      omega
    · rw [numL_step (by omega)] at h
      have e : (numL (n / 10) ++ [48 + n % 10]).head? = (numL (n / 10)).head? := by
        cases hq : numL (n / 10) with
        | nil => exact absurd hq (numL_ne _)
        | cons _ _ => rfl
      rw [e] at h
      have := ih (n / 10) (by omega) h
      omega
theorem dig_mem (c : Nat) : c ∈ ("0123456789" : Str).cps.toList ↔ 48 ≤ c ∧ c ≤ 57 := by
  have e : ("0123456789" : Str).cps.toList = [48, 49, 50, 51, 52, 53, 54, 55, 56, 57] := by decide +kernel
  rw [e]
  simp only [List.mem_cons, List.not_mem_nil, or_false]
  omega
/-- a decimal number of at most m digits -/
def isDec (m : Nat) (x : Str) : Bool := decide (1 ≤ x.length) && decide (x.length ≤ m) && !(decide (x.cps.toList.head? = some 48) && !decide (x = "0")) && x.cps.toList.all fun c => decide (c ∈ ("0123456789" : Str).cps.toList)
def valN (x : Str) : Nat := NumText.digitsVal (tl x)
structure Dec (m : Nat) (x : Str) : Prop where
  l1 : 1 ≤ x.length
  lm : x.length ≤ m
  hd : x.cps.toList.head? = some 48 → x = "0"
  al : NumText.AllDigits (tl x)
theorem dec_of {m : Nat} {x : Str} (h : isDec m x = true) : Dec m x := by
  unfold isDec at h
  simp only [Bool.and_eq_true, decide_eq_true_eq, Bool.not_eq_true', Bool.and_eq_false_iff, decide_eq_false_iff_not, Bool.not_eq_false', List.all_eq_true] at h
  obtain ⟨⟨⟨a, b⟩, c⟩, d⟩ := h
  exact ⟨a, b, fun e => c.elim (fun z => absurd e z) id, fun c hc => (dig_mem c).mp (d c hc)⟩
theorem dec_is {m : Nat} {x : Str} (h : Dec m x) : isDec m x = true := by
  unfold isDec
  simp only [Bool.and_eq_true, decide_eq_true_eq, Bool.not_eq_true', Bool.and_eq_false_iff, decide_eq_false_iff_not, Bool.not_eq_false', List.all_eq_true]
  refine ⟨⟨⟨h.l1, h.lm⟩, ?_⟩, fun c hc => (dig_mem c).mpr (h.al c hc)⟩
  by_cases e : x.cps.toList.head? = some 48
  · exact .inr (h.hd e)
  · exact .inl e
theorem tl_ne {x : Str} (h : 1 ≤ x.length) : tl x ≠ [] := fun e => by
  rw [len_tl, e] at h
  exact absurd h (by decide)
theorem Dec.num {m : Nat} {x : Str} (h : Dec m x) : x = nS (valN x) := by
  refine ext_tl ?_
  rw [nS, tl_num]
  refine (num_back (tl x) h.al (tl_ne h.l1) fun e => ?_).symm
  rw [h.hd e]
  decide +kernel
theorem Dec.lt {m : Nat} {x : Str} (h : Dec m x) : valN x < 10 ^ m := by
  have a := val_lt (tl x) h.al
  have b : (tl x).length ≤ m := by rw [← len_tl]; exact h.lm
  exact Nat.lt_of_lt_of_le a (Nat.pow_le_pow_right (by decide) b)
theorem nS_dec {k m : Nat} (hm : 0 < m) (h : k < 10 ^ m) : Dec m (nS k) := by
  have e : tl (nS k) = numL k := tl_num k
  refine ⟨?_, ?_, fun z => ?_, by rw [e]; exact numL_digits k⟩
  · rw [len_tl, e]
    exact List.length_pos_iff.mpr (numL_ne k)
  · rw [len_tl, e]
    exact numL_len hm h
  · have z' : (tl (nS k)).head? = some 48 := z
    rw [e] at z'
    rw [num_head k z']
    decide +kernel
theorem nS_val (k : Nat) : valN (nS k) = k := by
  unfold valN
  rw [nS, tl_num, numL_val]
theorem dec_int {m : Nat} {x : Str} (h : Dec m x) (hm : m ≤ 600) : intText? x = some ((valN x : Nat) : Int) := by
  have e : intText? (nS (valN x)) = some ((valN x : Nat) : Int) := int_num (by
    have := h.lm
    have e2 := congrArg tl h.num
    rw [nS, tl_num] at e2
    rw [← e2, ← len_tl]
    omega)
  rwa [← h.num] at e
/-! ### items, words -/
def itemOk (x : Str) : Bool := decide (x = ".") || isDec 9 x
def itemV (x : Str) : Option Nat := if x = "." then none else some (valN x)
theorem item_back {x : Str} (h : itemOk x = true) : itemT (itemV x) = x := by
  unfold itemV
  by_cases e : x = "."
  · rw [if_pos e, e]; rfl
  · rw [if_neg e]
    have : isDec 9 x = true := by
      unfold itemOk at h
      rw [decide_eq_false e, Bool.false_or] at h
      exact h
    exact (dec_of this).num.symm
theorem itemV_lt {x : Str} (h : itemOk x = true) {k : Nat} (e : itemV x = some k) : k < 10 ^ 9 := by
  unfold itemV at e
  by_cases c : x = "."
  · rw [if_pos c] at e; cases e
  · rw [if_neg c] at e
    cases e
    have : isDec 9 x = true := by
      unfold itemOk at h
      rw [decide_eq_false c, Bool.false_or] at h
      exact h
    exact (dec_of this).lt
theorem nS_dot (k : Nat) : nS k ≠ "." := fun h => by
  have h' : tl (nS k) = [46] := by rw [h]; rfl
  rw [nS, tl_num] at h'
  exact absurd (h' ▸ List.mem_cons_self : (46 : Nat) ∈ numL k) (numL_free (by decide))
theorem item_fwd {o : Option Nat} (h : ∀ k, o = some k → k < 10 ^ 9) : itemOk (itemT o) = true ∧ itemV (itemT o) = o := by
  cases o with
  | none => exact ⟨rfl, rfl⟩
  | some k =>
    refine ⟨?_, ?_⟩
    · show (decide (nS k = ".") || isDec 9 (nS k)) = true
      rw [dec_is (nS_dec (by decide) (h k rfl)), Bool.or_true]
    · show (if nS k = "." then none else some (valN (nS k))) = some k
      rw [if_neg (nS_dot k), nS_val]
def isWord (x : Str) : Bool := decide (1 ≤ x.length) && decide (x.length ≤ 9) && x.cps.toList.all fun c => decide (c ∈ ("abcd" : Str).cps.toList)
def isSigns (x : Str) : Bool := x.cps.toList.all fun c => decide (c ∈ ("+-" : Str).cps.toList)
/-! ### lines -/
structure PSch where
  l : Nat
  sts : List (List (Option Nat) × Bool)
  sg : Str
  prs : List (Str × Str)
def pairPD (p : Str × Str) : PyData := .tuple [.str p.1, .str p.2]
def kindPD (p : PSch) : PyData := .tuple [.int p.l, .tuple (p.sts.map fun s => rowD s.1), .tuple (p.sts.map fun s => PyData.bool s.2)]
def psD (p : PSch) : PyData := .tuple [kindPD p, .str p.sg, .tuple (p.prs.map pairPD)]
def rdLetters (x : Str) : Option Nat := if x = lineK 1 then some 1 else if x = lineK 2 then some 2 else if x = lineK 3 then some 3 else if x = lineK 4 then some 4 else none
def rdSigns (x : Str) : Option Str := match Txt.split x " " with
  | [a, b] => if a = "signs" ∧ b ≠ "" ∧ isSigns b = true then some b else none
  | _ => none
def rdItems (ps : List Str) : List Str := if ps.getLast? = some ("end" : Str) then (ps.drop 1).dropLast else ps.drop 1
def rdState (x : Str) : Option (List (Option Nat) × Bool) :=
  if (Txt.split x " ").head? = some ("state" : Str) ∧ 1 ≤ (rdItems (Txt.split x " ")).length ∧ (rdItems (Txt.split x " ")).length ≤ 4 ∧ (rdItems (Txt.split x " ")).all itemOk = true then
    some ((rdItems (Txt.split x " ")).map itemV, decide ((Txt.split x " ").getLast? = some ("end" : Str))) else none
def rdPair (x : Str) : Option (Str × Str) := match Txt.split x " " with
  | [a, b, c] => if a = "pair" ∧ isWord b = true ∧ isWord c = true then some (b, c) else none
  | _ => none
def rdMore (l : Nat) (sg : Str) : Nat → List (List (Option Nat) × Bool) → List (Str × Str) → List Str → Except Nat PSch
  | _, sts, prs, [] => .ok ⟨l, sts, sg, prs⟩
  | at_, sts, prs, x :: r => match (if prs.isEmpty then rdState x else none) with
    | some st => rdMore l sg (at_ + 1) (sts ++ [st]) prs r
    | none => match rdPair x with
      | some p => rdMore l sg (at_ + 1) sts (prs ++ [p]) r
      | none => .error at_
def rdLines (ls : List Str) : Except Nat PSch := match ls[0]?.bind rdLetters with
  | none => .error 0
  | some l => match ls[1]?.bind rdSigns with
    | none => .error 1
    | some sg => match ls[2]?.bind rdState with
      | none => .error 2
      | some st => rdMore l sg 3 [st] [] (ls.drop 3)
/-! ### parts of a text -/
theorem pre1 {s c : Nat} {r : List Nat} : pre [s] (c :: r) = true ∨ pre [s] (c :: r) = false := by
  cases pre [s] (c :: r) with
  | true => exact .inl rfl
  | false => exact .inr rfl
theorem spl_sum {s : Nat} : ∀ (l acc : List Nat), ((spl [s] 0 acc l).map (·.length)).sum + (spl [s] 0 acc l).length = acc.length + l.length + 1
  | [], acc => by rw [spl_nil]; simp
  | c :: r, acc => by
    rcases pre1 (s := s) (c := c) (r := r) with h | h
    · rw [spl_hit h]
      have := spl_sum (s := s) r []
      simp only [List.map_cons, List.sum_cons, List.length_cons, List.length_nil] at this ⊢
      show acc.length + ((spl [s] 0 [] r).map (·.length)).sum + ((spl [s] 0 [] r).length + 1) = _
      omega
    · rw [spl_miss h]
      have := spl_sum (s := s) r (acc ++ [c])
      rw [List.length_append] at this
      simp only [List.length_cons, List.length_nil] at this ⊢
      omega
theorem split_sum {x y : Str} {s : Nat} (ey : tl y = [s]) (hk : y.cps.all (· < 256) = true) : ((Txt.split x y).map (·.length)).sum + (Txt.split x y).length = x.length + 1 := by
  have e := split_spl x y (by rw [ey]; simp) (kind_ok hk)
  rw [ey] at e
  have z := spl_sum (s := s) (tl x) []
  rw [← e, List.length_map, List.map_map] at z
  have e2 : (List.length ∘ tl) = fun p : Str => p.length := funext fun p => (len_tl p).symm
  rw [e2] at z
  rw [len_tl x]
  simp only [List.length_nil] at z
  omega
theorem mem_sum {x : Str} : ∀ {xs : List Str}, x ∈ xs → x.length ≤ (xs.map (·.length)).sum
  | y :: ys, h => by
    simp only [List.map_cons, List.sum_cons]
    rcases List.mem_cons.mp h with rfl | h
    · omega
    · have := mem_sum h; omega
theorem split_ne {x y : Str} {s : Nat} (ey : tl y = [s]) (hk : y.cps.all (· < 256) = true) : Txt.split x y ≠ [] := fun e => by
  have := split_sum (x := x) ey hk
  rw [e] at this
  simp at this
theorem split_len {x y : Str} {s : Nat} (ey : tl y = [s]) (hk : y.cps.all (· < 256) = true) : (Txt.split x y).length ≤ x.length + 1 ∧ ∀ p ∈ Txt.split x y, p.length ≤ x.length := by
  have z := split_sum (x := x) ey hk
  refine ⟨by omega, fun p hp => ?_⟩
  have a := mem_sum hp
  have b : 1 ≤ (Txt.split x y).length := List.length_pos_iff.mpr (split_ne ey hk)
  omega
end KP
/-! The text of a scheme, read, plainly. No row. -/
namespace KP
open PySem PyProof.Rows GL KC KW KR KM TL KS
open L2 hiding isNon
open KC hiding rLenS call_lenS
def pw (p : Pr) : Str × Str := (wS p.1, wS p.2)
def pOf (s : Sch) : PSch := ⟨s.l, s.rows.zip s.ends, sS s.bs, s.rs.map pw⟩
theorem psD_of {s : Sch} (h : Ok s) : psD (pOf s) = KS.dataOf s := by
  have e1 : (s.rows.zip s.ends).map (fun x => rowD x.1) = s.rows.map rowD := by
    have : (s.rows.zip s.ends).map (rowD ∘ Prod.fst) = s.rows.map rowD := by
      rw [← List.map_map, List.map_fst_zip (by rw [h.el]; exact Nat.le_refl _)]
    exact this
  have e2 : (s.rows.zip s.ends).map (fun x => PyData.bool x.2) = s.ends.map PyData.bool := by
    have : (s.rows.zip s.ends).map (PyData.bool ∘ Prod.snd) = s.ends.map PyData.bool := by
      rw [← List.map_map, List.map_snd_zip (by rw [h.el]; exact Nat.le_refl _)]
    exact this
  have e3 : (s.rs.map pw).map pairPD = s.rs.map pD := by rw [List.map_map]; rfl
  unfold psD KS.dataOf kindPD kindD pOf rD
  simp only [e1, e2, e3]
theorem rd_letters {l : Nat} (l1 : 1 ≤ l) (l4 : l ≤ 4) : rdLetters (lineK l) = some l := by
  have : l = 1 ∨ l = 2 ∨ l = 3 ∨ l = 4 := by omega
  unfold rdLetters
  have a1 : lineK 2 ≠ lineK 1 := by decide +kernel
  have a2 : lineK 3 ≠ lineK 1 := by decide +kernel
  have a3 : lineK 3 ≠ lineK 2 := by decide +kernel
  have a4 : lineK 4 ≠ lineK 1 := by decide +kernel
  have a5 : lineK 4 ≠ lineK 2 := by decide +kernel
  have a6 : lineK 4 ≠ lineK 3 := by decide +kernel
  rcases this with rfl | rfl | rfl | rfl
  · rw [if_pos rfl]
  · rw [if_neg a1, if_pos rfl]
  · rw [if_neg a2, if_neg a3, if_pos rfl]
  · rw [if_neg a4, if_neg a5, if_neg a6, if_pos rfl]
theorem signs_is (bs : List Bool) : isSigns (sS bs) = true := by
  unfold isSigns
  rw [List.all_eq_true]
  intro c hc
  have hc' : c ∈ bs.map sc := hc
  obtain ⟨b, _, rfl⟩ := List.mem_map.mp hc'
  cases b <;> decide +kernel
theorem signs_ne {bs : List Bool} (h : 1 ≤ bs.length) : sS bs ≠ "" := fun e => by
  have e1 : (sS bs).cps.toList = [] := by rw [e]; rfl
  have e2 : (bs.map sc).length = 0 := by
    have : bs.map sc = [] := e1
    rw [this]; rfl
  rw [List.length_map] at e2
  omega
theorem rd_signs {bs : List Bool} (h : 1 ≤ bs.length) : rdSigns (lineS bs) = some (sS bs) := by
  unfold rdSigns
  rw [sign_split]
  exact if_pos ⟨rfl, signs_ne h, signs_is bs⟩
theorem last_app {α : Type} (a : α) (xs : List α) (y : α) : (a :: (xs ++ [y])).getLast? = some y := by
  rw [← List.cons_append, List.getLast?_append]; rfl
theorem rd_items {r : List (Option Nat)} (hr : 1 ≤ r.length) (e : Bool) : (rowWords r e).getLast? = some ("end" : Str) ↔ e = true := by
  cases e with
  | true =>
    refine ⟨fun _ => rfl, fun _ => ?_⟩
    show ((("state" : Str)) :: (r.map itemT ++ [("end" : Str)])).getLast? = _
    exact last_app _ _ _
  | false =>
    refine ⟨fun h => ?_, fun h => nomatch h⟩
    have h' : ((("state" : Str)) :: (r.map itemT ++ [])).getLast? = some ("end" : Str) := h
    rw [List.append_nil] at h'
    have hm : ("end" : Str) ∈ r.map itemT := by
      have h2 : (r.map itemT).getLast? = some ("end" : Str) := by
        cases hq : r.map itemT with
        | nil =>
          have : (r.map itemT).length = 0 := by rw [hq]; rfl
          rw [List.length_map] at this
          omega
        | cons a b => rw [hq] at h'; exact h'
      exact List.mem_of_getLast? h2
    obtain ⟨o, _, ho⟩ := List.mem_map.mp hm
    exact absurd ho (item_end o)
theorem rd_state {r : List (Option Nat)} (hr : 1 ≤ r.length) (h4 : r.length ≤ 4) (hk : ∀ k, some k ∈ r → k < 10 ^ 9) (e : Bool) : rdState (rowLine r e) = some (r, e) := by
  have hi : rdItems (rowWords r e) = r.map itemT := by
    unfold rdItems
    cases e with
    | true =>
      rw [if_pos ((rd_items hr true).mpr rfl)]
      show (r.map itemT ++ [("end" : Str)]).dropLast = _
      rw [List.dropLast_concat]
    | false =>
      rw [if_neg fun z => nomatch (rd_items hr false).mp z]
      show r.map itemT ++ [] = _
      rw [List.append_nil]
  unfold rdState
  rw [row_split, hi]
  have ha : (r.map itemT).all itemOk = true := by
    rw [List.all_eq_true]
    intro x hx
    obtain ⟨o, ho, rfl⟩ := List.mem_map.mp hx
    exact (item_fwd fun k z => hk k (z ▸ ho)).1
  rw [if_pos ⟨rfl, by rw [List.length_map]; exact hr, by rw [List.length_map]; exact h4, ha⟩]
  have hb : (r.map itemT).map itemV = r := by
    rw [List.map_map]
    have : r.map (itemV ∘ itemT) = r.map id := List.map_congr_left fun o ho => (item_fwd fun k z => hk k (z ▸ ho)).2
    rw [this, List.map_id]
  rw [hb]
  have he : decide ((rowWords r e).getLast? = some ("end" : Str)) = e := by
    cases e with
    | true => exact decide_eq_true ((rd_items hr true).mpr rfl)
    | false => exact decide_eq_false fun z => nomatch (rd_items hr false).mp z
  rw [he]
theorem word_is {w : List Nat} (h1 : 1 ≤ w.length) (h3 : w.length ≤ 9) (h : ∀ j ∈ w, j < 4) : isWord (wS w) = true := by
  unfold isWord
  rw [wS_len]
  simp only [Bool.and_eq_true, decide_eq_true_eq, List.all_eq_true]
  refine ⟨⟨h1, h3⟩, fun c hc => ?_⟩
  rw [wS_list] at hc
  obtain ⟨j, hj, rfl⟩ := List.mem_map.mp hc
  have := h j hj
  have e : ("abcd" : Str).cps.toList = [97, 98, 99, 100] := by decide +kernel
  rw [e]
  simp only [List.mem_cons, List.not_mem_nil, or_false]
  omega
def PairOk (p : Pr) : Prop := 1 ≤ p.1.length ∧ p.1.length ≤ 9 ∧ 1 ≤ p.2.length ∧ p.2.length ≤ 9 ∧ (∀ j ∈ p.1, j < 4) ∧ ∀ j ∈ p.2, j < 4
theorem rd_pair {p : Pr} (h : PairOk p) : rdPair (pairLine p) = some (pw p) := by
  obtain ⟨a, b, c, d, e, f⟩ := h
  unfold rdPair
  rw [pair_split]
  exact if_pos ⟨rfl, word_is a b e, word_is c d f⟩
theorem rd_pair_no (p : Pr) : rdState (pairLine p) = none := by
  unfold rdState
  rw [pair_split]
  refine if_neg fun h => ?_
  have := h.1
  exact absurd this (by
    show ¬ some ("pair" : Str) = some ("state" : Str)
    decide +kernel)
theorem more_pairs (l : Nat) (sg : Str) : ∀ (rs : List Pr) (i : Nat) (sts : List (List (Option Nat) × Bool)) (prs : List (Str × Str)), (∀ p ∈ rs, PairOk p) →
    rdMore l sg i sts prs (rs.map pairLine) = .ok ⟨l, sts, sg, prs ++ rs.map pw⟩
  | [], i, sts, prs, _ => by simp [rdMore]
  | p :: rs, i, sts, prs, h => by
    show rdMore l sg i sts prs (pairLine p :: rs.map pairLine) = _
    have e : (if prs.isEmpty then rdState (pairLine p) else none) = none := by
      rw [rd_pair_no]; split <;> rfl
    unfold rdMore
    rw [e, rd_pair (h p List.mem_cons_self)]
    show rdMore l sg (i + 1) sts (prs ++ [pw p]) (rs.map pairLine) = _
    rw [more_pairs l sg rs (i + 1) sts (prs ++ [pw p]) fun q hq => h q (List.mem_cons_of_mem _ hq)]
    simp
def RowOk (r : List (Option Nat)) : Prop := 1 ≤ r.length ∧ r.length ≤ 4 ∧ ∀ k, some k ∈ r → k < 10 ^ 9
theorem more_rows (l : Nat) (sg : Str) (rest : List Str) : ∀ (rows : List (List (Option Nat))) (ends : List Bool) (i : Nat) (sts : List (List (Option Nat) × Bool)), rows.length = ends.length → (∀ r ∈ rows, RowOk r) →
    rdMore l sg i sts [] (List.zipWith rowLine rows ends ++ rest) = rdMore l sg (i + rows.length) (sts ++ rows.zip ends) [] rest
  | [], [], i, sts, _, _ => by simp
  | r :: rows, e :: ends, i, sts, hl, h => by
    obtain ⟨a, b, c⟩ := h r List.mem_cons_self
    show rdMore l sg i sts [] (rowLine r e :: (List.zipWith rowLine rows ends ++ rest)) = _
    rw [rdMore]
    have e1 : (if ([] : List (Str × Str)).isEmpty then rdState (rowLine r e) else none) = some (r, e) := by rw [rd_state a b c e]; rfl
    rw [e1]
    show rdMore l sg (i + 1) (sts ++ [(r, e)]) [] (List.zipWith rowLine rows ends ++ rest) = _
    rw [more_rows l sg rest rows ends (i + 1) (sts ++ [(r, e)]) (by simpa using hl) fun q hq => h q (List.mem_cons_of_mem _ hq)]
    have e2 : i + 1 + rows.length = i + (r :: rows).length := by simp only [List.length_cons]; omega
    have e3 : sts ++ [(r, e)] ++ rows.zip ends = sts ++ (r :: rows).zip (e :: ends) := by simp
    rw [e2, e3]
theorem rd_lines {s : Sch} (h : Ok s) : rdLines (lines s) = .ok (pOf s) := by
  have hrow : ∀ r ∈ s.rows, RowOk r := fun r hr => by
    obtain ⟨a, b⟩ := h.rw r hr
    have := h.l1; have := h.l4; have := h.n8
    exact ⟨by omega, by omega, fun k hk => by have := b k hk; omega⟩
  have hp : ∀ p ∈ s.rs, PairOk p := fun p hp => by
    obtain ⟨a, b, c, d, e, f⟩ := h.R.ok p hp
    have := h.l4
    exact ⟨a, by omega, by omega, by omega, fun j hj => by have := e j hj; omega, fun j hj => by have := f j hj; omega⟩
  obtain ⟨l, rows, ends, bs, rs⟩ := s
  cases rows with
  | nil => exact absurd h.n1 (by simp)
  | cons r rows =>
    cases ends with
    | nil => exact absurd h.el (by simp)
    | cons e ends =>
      obtain ⟨a, b, c⟩ := hrow r List.mem_cons_self
      have hb : 1 ≤ bs.length := by
        have e1 : bs.length = l := h.bl
        have e2 : 1 ≤ l := h.l1
        omega
      show (match (some (lineK l)).bind rdLetters with
        | none => Except.error 0
        | some l => match (some (lineS bs)).bind rdSigns with
          | none => .error 1
          | some sg => match (some (rowLine r e)).bind rdState with
            | none => .error 2
            | some st => rdMore l sg 3 [st] [] (List.zipWith rowLine rows ends ++ rs.map pairLine)) = _
      have k1 : (some (lineK l)).bind rdLetters = some l := rd_letters h.l1 h.l4
      have k2 : (some (lineS bs)).bind rdSigns = some (sS bs) := rd_signs hb
      have k3 : (some (rowLine r e)).bind rdState = some (r, e) := rd_state a b c e
      rw [k1]
      show (match (some (lineS bs)).bind rdSigns with
          | none => Except.error 1
          | some sg => match (some (rowLine r e)).bind rdState with
            | none => .error 2
            | some st => rdMore l sg 3 [st] [] (List.zipWith rowLine rows ends ++ rs.map pairLine)) = _
      rw [k2]
      show (match (some (rowLine r e)).bind rdState with
            | none => Except.error 2
            | some st => rdMore l (sS bs) 3 [st] [] (List.zipWith rowLine rows ends ++ rs.map pairLine)) = _
      rw [k3]
      show rdMore l (sS bs) 3 [(r, e)] [] (List.zipWith rowLine rows ends ++ rs.map pairLine) = _
      rw [more_rows l (sS bs) _ rows ends 3 [(r, e)] (by have := h.el; simpa using this.symm) fun q hq => hrow q (List.mem_cons_of_mem _ hq)]
      rw [more_pairs l (sS bs) rs _ _ _ hp]
      rfl
end KP
/-! What was read, fits. No row. -/
namespace KP
open PySem PyProof.Rows GL KC KW KR KM TL KS
open L2 hiding isNon
open KC hiding rLenS call_lenS
structure PsOk (n m : Nat) (s : PSch) : Prop where
  l4 : 1 ≤ s.l ∧ s.l ≤ 4
  sg : isSigns s.sg = true ∧ s.sg.length ≤ m
  c : s.sts.length + s.prs.length ≤ n
  s1 : 1 ≤ s.sts.length
  st : ∀ st ∈ s.sts, 1 ≤ st.1.length ∧ st.1.length ≤ 4 ∧ ∀ k, some k ∈ st.1 → k < 10 ^ 9
  pr : ∀ p ∈ s.prs, isWord p.1 = true ∧ isWord p.2 = true
theorem rdl_ok {x : Str} {l : Nat} (h : rdLetters x = some l) : 1 ≤ l ∧ l ≤ 4 := by
  unfold rdLetters at h
  repeat' split at h
  all_goals (cases h; try decide)
theorem rds_ok {x sg : Str} (h : rdSigns x = some sg) : isSigns sg = true ∧ sg.length ≤ x.length := by
  have hl := (split_len (x := x) (y := " ") sp1 (by decide +kernel)).2
  unfold rdSigns at h
  revert h hl
  generalize Txt.split x " " = ps
  intro h hl
  split at h
  · rename_i a b
    split at h
    · rename_i c
      cases h
      exact ⟨c.2.2, hl _ (by simp)⟩
    · cases h
  · cases h
def StOk (st : List (Option Nat) × Bool) : Prop := 1 ≤ st.1.length ∧ st.1.length ≤ 4 ∧ ∀ k, some k ∈ st.1 → k < 10 ^ 9
def PrOk (p : Str × Str) : Prop := isWord p.1 = true ∧ isWord p.2 = true
theorem rdst_ok {x : Str} {st : List (Option Nat) × Bool} (h : rdState x = some st) : StOk st := by
  unfold rdState at h
  split at h
  · rename_i c
    obtain ⟨_, c1, c2, c3⟩ := c
    cases h
    refine ⟨by rw [List.length_map]; exact c1, by rw [List.length_map]; exact c2, fun k hk => ?_⟩
    obtain ⟨y, hy, e⟩ := List.mem_map.mp hk
    exact itemV_lt (List.all_eq_true.mp c3 y hy) e
  · cases h
theorem rdp_ok {x : Str} {p : Str × Str} (h : rdPair x = some p) : PrOk p := by
  unfold rdPair at h
  split at h
  · split at h
    · rename_i c
      cases h
      exact c.2
    · cases h
  · cases h
theorem more_ok (l : Nat) (sg : Str) : ∀ (r : List Str) (i : Nat) (sts : List (List (Option Nat) × Bool)) (prs : List (Str × Str)) (s : PSch), rdMore l sg i sts prs r = .ok s → (∀ st ∈ sts, StOk st) → (∀ p ∈ prs, PrOk p) →
    s.l = l ∧ s.sg = sg ∧ s.sts.length + s.prs.length ≤ sts.length + prs.length + r.length ∧ sts.length ≤ s.sts.length ∧ (∀ st ∈ s.sts, StOk st) ∧ ∀ p ∈ s.prs, PrOk p
  | [], i, sts, prs, s, h, h1, h2 => by
    unfold rdMore at h
    cases h
    exact ⟨rfl, rfl, by simp, Nat.le_refl _, h1, h2⟩
  | x :: r, i, sts, prs, s, h, h1, h2 => by
    unfold rdMore at h
    split at h
    · rename_i st e
      have hs : StOk st := by
        split at e
        · exact rdst_ok e
        · cases e
      obtain ⟨a, b, c, d, e1, e2⟩ := more_ok l sg r (i + 1) (sts ++ [st]) prs s h (fun q hq => by
        rcases List.mem_append.mp hq with hq | hq
        · exact h1 q hq
        · rw [List.mem_singleton.mp hq]; exact hs) h2
      simp only [List.length_append, List.length_singleton] at c d
      exact ⟨a, b, by simp only [List.length_cons]; omega, by omega, e1, e2⟩
    · split at h
      · rename_i p e
        obtain ⟨a, b, c, d, e1, e2⟩ := more_ok l sg r (i + 1) sts (prs ++ [p]) s h h1 (fun q hq => by
          rcases List.mem_append.mp hq with hq | hq
          · exact h2 q hq
          · rw [List.mem_singleton.mp hq]; exact rdp_ok e)
        simp only [List.length_append, List.length_singleton] at c d
        exact ⟨a, b, by simp only [List.length_cons]; omega, by omega, e1, e2⟩
      · cases h
theorem lines_ok {ls : List Str} {m : Nat} (hm : ∀ x ∈ ls, x.length ≤ m) {s : PSch} (h : rdLines ls = .ok s) : PsOk ls.length m s := by
  unfold rdLines at h
  split at h
  · cases h
  rename_i l h0
  split at h
  · cases h
  rename_i sg h1
  split at h
  · cases h
  rename_i st h2
  obtain ⟨x0, y0, z0⟩ := Option.bind_eq_some_iff.mp h0
  obtain ⟨x1, y1, z1⟩ := Option.bind_eq_some_iff.mp h1
  obtain ⟨x2, y2, z2⟩ := Option.bind_eq_some_iff.mp h2
  have l3 : 3 ≤ ls.length := by have := (List.getElem?_eq_some_iff.mp y2).1; omega
  obtain ⟨a, b, c, d, e1, e2⟩ := more_ok l sg _ _ _ _ _ h (fun q hq => by rw [List.mem_singleton.mp hq]; exact rdst_ok z2) (fun q hq => nomatch hq)
  simp only [List.length_singleton, List.length_nil, List.length_drop] at c d
  have sg1 := rds_ok z1
  exact ⟨by rw [a]; exact rdl_ok z0, by rw [b]; exact ⟨sg1.1, Nat.le_trans sg1.2 (hm _ (List.mem_of_getElem? y1))⟩, by omega, d, e1, e2⟩
/-! ### it fits -/
theorem fit_map {α : Type} {f : α → PyData} {n k : Nat} : ∀ {as : List α}, (∀ a ∈ as, Fit n k (f a)) → FitAll (as.length * (n + 2)) k (as.map f)
  | [], _ => FitAll.nil.mono (Nat.zero_le _) (Nat.le_refl _)
  | a :: as, h => by
    refine (FitAll.cons (h a List.mem_cons_self) (fit_map (as := as) fun b hb => h b (List.mem_cons_of_mem _ hb))).mono ?_ (Nat.le_refl _)
    rw [List.length_cons, Nat.add_mul, Nat.one_mul]
    omega
theorem fit_plain {x : Str} {n k : Nat} (h : ∀ c ∈ x.cps.toList, c < 1000) (l : x.length ≤ n) : Fit (10 * n + 2) k (.str x) := by
  refine fit_str (m := 10 * n + 2) ?_ (Nat.le_refl _)
  rw [PyData.shown_str]
  have := StrLaws.reprText_len x fun c hc => by have := h c hc; omega
  omega
theorem sign_codes {x : Str} (h : isSigns x = true) : ∀ c ∈ x.cps.toList, c < 1000 := fun c hc => by
  have := of_decide_eq_true (List.all_eq_true.mp h c hc)
  have e : ("+-" : Str).cps.toList = [43, 45] := by decide +kernel
  rw [e] at this
  simp at this
  omega
theorem word_codes {x : Str} (h : isWord x = true) : x.length ≤ 9 ∧ ∀ c ∈ x.cps.toList, c < 1000 := by
  unfold isWord at h
  simp only [Bool.and_eq_true, decide_eq_true_eq, List.all_eq_true] at h
  refine ⟨h.1.2, fun c hc => ?_⟩
  have := h.2 c hc
  have e : ("abcd" : Str).cps.toList = [97, 98, 99, 100] := by decide +kernel
  rw [e] at this
  simp at this
  omega
theorem PsOk.fit {n m : Nat} {s : PSch} (h : PsOk n m s) : Fit (194 * n + 10 * m + 100) 4 (psD s) := by
  have f1 : ∀ st ∈ s.sts, Fit 179 1 (rowD st.1) := fun st hs => by
    obtain ⟨a, b, c⟩ := h.st st hs
    have : FitAll (st.1.length * (42 + 2)) 0 (st.1.map oD) := fit_map fun o ho => by
      cases o with
      | none => exact ⟨by simp [oD, wt], by simp [oD, PyData.depth], by simp [oD, PyData.showable]⟩
      | some k => exact fit_int (by have := c k ho; show (k : Int).natAbs < 10 ^ 41; omega) (Nat.le_refl _)
    exact (Fit.tup this).mono (by omega) (Nat.le_refl _)
  have f2 : ∀ st ∈ s.sts, Fit 5 1 (PyData.bool st.2) := fun st _ => ⟨by simp [wt], by simp [PyData.depth], by simp [PyData.showable]⟩
  have f3 : ∀ p ∈ s.prs, Fit 192 1 (pairPD p) := fun p hp => by
    obtain ⟨a, b⟩ := h.pr p hp
    obtain ⟨a1, a2⟩ := word_codes a
    obtain ⟨b1, b2⟩ := word_codes b
    exact (Fit.tup (FitAll.cons (fit_plain (k := 0) a2 a1) (FitAll.cons (fit_plain (k := 0) b2 b1) FitAll.nil))).mono (by omega) (by omega)
  have c := h.c
  have l4 := h.l4
  have g1 : Fit (s.sts.length * 181 + 3) 2 (.tuple (s.sts.map fun st => rowD st.1)) := Fit.tup (fit_map f1)
  have g2 : Fit (s.sts.length * 7 + 3) 2 (.tuple (s.sts.map fun st => PyData.bool st.2)) := Fit.tup (fit_map f2)
  have g3 : Fit (s.prs.length * 194 + 3) 2 (.tuple (s.prs.map pairPD)) := Fit.tup (fit_map f3)
  have gk : Fit (42 + 2 + (s.sts.length * 181 + 3 + 2 + (s.sts.length * 7 + 3 + 2 + 0)) + 3) 3 (kindPD s) :=
    Fit.tup (FitAll.cons (fit_int (k := 2) (by show ((s.l : Nat) : Int).natAbs < 10 ^ 41; omega) (Nat.le_refl _)) (FitAll.cons g1 (FitAll.cons g2 FitAll.nil)))
  have gs : Fit (10 * m + 2) 3 (.str s.sg) := fit_plain (sign_codes h.sg.1) h.sg.2
  have := Fit.tup (FitAll.cons gk (FitAll.cons gs (FitAll.cons (g3.mono (Nat.le_refl _) (by decide : 2 ≤ 3)) FitAll.nil)))
  exact this.mono (by omega) (Nat.le_refl _)
end KP
/-! The text of what was read. No row. -/
namespace KP
open PySem PyProof.Rows GL KC KW KR KM TL KS
open L2 hiding isNon
open KC hiding rLenS call_lenS
def pairP (p : Str × Str) : Str := (("pair " : Str) ++ p.1) ++ " " ++ p.2
def linesP (p : PSch) : List Str := lineK p.l :: (("signs " : Str) ++ p.sg) :: (p.sts.map (fun st => rowLine st.1 st.2) ++ p.prs.map pairP)
def textP (p : PSch) : Str := Txt.join "\n" (linesP p)
theorem zip_lines : ∀ (rows : List (List (Option Nat))) (ends : List Bool), (rows.zip ends).map (fun st => rowLine st.1 st.2) = List.zipWith rowLine rows ends
  | [], _ => by simp
  | _ :: _, [] => by simp
  | r :: rows, e :: ends => by simp [zip_lines rows ends]
theorem sgn_is (bs : List Bool) : ("signs " : Str) ++ sS bs = lineS bs := by
  refine TL.ext_tl ?_
  unfold lineS
  rw [TL.tl_append, TL.join_eq, TL.tl_join]
  rfl
theorem pr_is (p : Pr) : pairP (pw p) = pairLine p := by
  refine TL.ext_tl ?_
  unfold pairLine pairWords pairP pw
  rw [TL.tl_append, TL.tl_append, TL.tl_append, TL.join_eq, TL.tl_join]
  show _ = TL.tl ("pair" : Str) ++ (TL.tl (" " : Str) ++ (TL.tl (wS p.1) ++ (TL.tl (" " : Str) ++ TL.tl (wS p.2))))
  simp only [List.append_assoc]
  rfl
theorem lines_of (s : Sch) : linesP (pOf s) = lines s := by
  unfold linesP lines pOf
  dsimp only
  rw [zip_lines, sgn_is, List.map_map]
  have : s.rs.map (pairP ∘ pw) = s.rs.map pairLine := List.map_congr_left fun p _ => pr_is p
  rw [this]
theorem text_of (s : Sch) : textP (pOf s) = textS s := by
  unfold textP textS
  rw [lines_of]
theorem ok_of {s : Sch} (h : Ok s) : PsOk 20 20 (pOf s) := by
  have := h.l4; have := h.n8; have := h.n1; have := h.el; have := h.R.len; have := h.l1
  refine ⟨⟨h.l1, h.l4⟩, ⟨signs_is s.bs, ?_⟩, ?_, ?_, ?_, ?_⟩
  · show (sS s.bs).length ≤ 20
    rw [sS_len, h.bl]; omega
  · show (s.rows.zip s.ends).length + (s.rs.map pw).length ≤ 20
    rw [List.length_zip, List.length_map]; omega
  · show 1 ≤ (s.rows.zip s.ends).length
    rw [List.length_zip]; omega
  · intro st hst
    have hm : st ∈ s.rows.zip s.ends := hst
    obtain ⟨a, b⟩ := h.rw st.1 (List.of_mem_zip hm).1
    exact ⟨by omega, by omega, fun k hk => by have := b k hk; omega⟩
  · intro p hp
    have hm : p ∈ s.rs.map pw := hp
    obtain ⟨q, hq, rfl⟩ := List.mem_map.mp hm
    obtain ⟨a, b, c, d, e, f⟩ := h.R.ok q hq
    exact ⟨word_is a (by omega) fun j hj => by have := e j hj; omega, word_is (by omega) (by omega) fun j hj => by have := f j hj; omega⟩
theorem PsOk.mono {n m n' m' : Nat} {s : PSch} (h : PsOk n m s) (a : n ≤ n') (b : m ≤ m') : PsOk n' m' s := ⟨h.l4, ⟨h.sg.1, Nat.le_trans h.sg.2 b⟩, Nat.le_trans h.c a, h.s1, h.st, h.pr⟩
end KP
/-! Schemes as data that can be compared and shown; the signs of their texts. No row. -/
namespace KP
open PySem PyProof.Rows GL KC KW KR KM TL KS
open L2 hiding isNon
open KC hiding rLenS call_lenS
theorem lay_map {α : Type} {f : α → PyData} : ∀ {as : List α}, (∀ a ∈ as, (f a).canLay0 = true) → PyData.canLayAll0 (as.map f) = true
  | [], _ => by simp [PyData.canLayAll0]
  | a :: as, h => by
    simp only [List.map_cons, PyData.canLayAll0, Bool.and_eq_true]
    exact ⟨h a List.mem_cons_self, lay_map fun b hb => h b (List.mem_cons_of_mem _ hb)⟩
theorem lay_str {x : Str} (h : ∀ c ∈ x.cps.toList, c < 1000) : (PyData.str x).canLay0 = true := by
  show PyData.strOk x = true
  unfold PyData.strOk
  rw [Array.all_eq_true']
  intro c hc
  have := h c (Array.mem_toList_iff.mpr hc)
  simp only [decide_eq_true_eq]
  omega
theorem PsOk.lay {n m : Nat} {s : PSch} (h : PsOk n m s) : (psD s).canLay0 = true := by
  have f1 : PyData.canLayAll0 (s.sts.map fun st => rowD st.1) = true := lay_map fun st _ => by
    show PyData.canLayAll0 (st.1.map oD) = true
    exact lay_map fun o _ => by cases o <;> rfl
  have f2 : PyData.canLayAll0 (s.sts.map fun st => PyData.bool st.2) = true := lay_map fun st _ => rfl
  have f3 : PyData.canLayAll0 (s.prs.map pairPD) = true := lay_map fun p hp => by
    obtain ⟨a, b⟩ := h.pr p hp
    show PyData.canLayAll0 [.str p.1, .str p.2] = true
    simp only [PyData.canLayAll0, lay_str (word_codes a).2, lay_str (word_codes b).2, Bool.and_true]
  have f4 := lay_str (sign_codes h.sg.1)
  unfold psD kindPD
  simp only [PyData.canLay0, PyData.canLayAll0, f1, f2, f3, Bool.true_and, Bool.and_true]
  exact f4
mutual
theorem dtDp {K : PySem.W.Frag} {H : Hp} : ∀ {d : PyData} {v : V}, Dt K H v d → d.canLay0 = true → Dp K H v d
  | _, _, .non, _ => .non
  | _, _, .bl b, _ => .bl b
  | _, _, .int i, _ => .int i
  | _, _, .str x, _ => .str x
  | _, _, .lst h a, c => .lst (.inl (.inl h)) (dtDpAll a (by simpa only [PyData.canLay0] using c))
  | _, _, .tup h a, c => .tup (.inl (.inl h)) (dtDpAll a (by simpa only [PyData.canLay0] using c))
  | _, _, .dic _, c => by simp [PyData.canLay0] at c
theorem dtDpAll {K : PySem.W.Frag} {H : Hp} : ∀ {ds : List PyData} {vs : List V}, DtAll K H vs ds → PyData.canLayAll0 ds = true → DpAll K H vs ds
  | _, _, .nil, _ => .nil
  | _, _, .cons h a, c => by
    simp only [PyData.canLayAll0, Bool.and_eq_true] at c
    exact .cons (dtDp h c.1) (dtDpAll a c.2)
end
theorem PsOk.shaped {n m : Nat} {s : PSch} (h : PsOk n m s) : SeqAt.shaped (psD s) = true := by
  unfold SeqAt.shaped
  rw [h.lay]
  have := h.fit.k
  exact decide_eq_true (by omega)
/-! ### the signs of a text -/
def Pl (x : Str) : Prop := ∀ c ∈ tl x, c < 1000
instance (x : Str) : Decidable (Pl x) := inferInstanceAs (Decidable (∀ c ∈ tl x, c < 1000))
theorem Pl.app {x y : Str} (h : Pl x) (k : Pl y) : Pl (x ++ y) := fun c hc => by
  rw [tl_append] at hc
  exact (List.mem_append.mp hc).elim (h c) (k c)
theorem Pl.join {y : Str} (hy : Pl y) : ∀ {parts : List Str}, (∀ x ∈ parts, Pl x) → Pl (Txt.join y parts) := by
  intro parts h c hc
  rw [TL.join_eq, TL.tl_join] at hc
  induction parts with
  | nil => exact absurd hc (by simp [joinL])
  | cons p q ih =>
    cases q with
    | nil => exact h p List.mem_cons_self c hc
    | cons q r =>
      have hc' : c ∈ tl p ++ (tl y ++ joinL (tl y) ((q :: r).map tl)) := hc
      rcases List.mem_append.mp hc' with h1 | h1
      · exact h p List.mem_cons_self c h1
      · rcases List.mem_append.mp h1 with h2 | h2
        · exact hy c h2
        · exact ih (fun x hx => h x (List.mem_cons_of_mem _ hx)) h2
theorem Pl.item (o : Option Nat) : Pl (itemT o) := by
  cases o with
  | none => decide +kernel
  | some k =>
    intro c hc
    have : c ∈ numL k := by rw [← tl_num k]; exact hc
    have := numL_digits k c this
    omega
theorem Pl.row (r : List (Option Nat)) (e : Bool) : Pl (rowLine r e) := by
  unfold rowLine
  refine Pl.join (by decide +kernel) fun x hx => ?_
  unfold rowWords at hx
  rcases List.mem_cons.mp hx with rfl | hx
  · decide +kernel
  · rcases List.mem_append.mp hx with hx | hx
    · obtain ⟨o, _, rfl⟩ := List.mem_map.mp hx
      exact Pl.item o
    · cases e with
      | false => cases hx
      | true => rw [List.mem_singleton.mp hx]; decide +kernel
theorem PsOk.plain {n m : Nat} {s : PSch} (h : PsOk n m s) : Pl (textP s) := by
  unfold textP
  refine Pl.join (by decide +kernel) fun x hx => ?_
  unfold linesP at hx
  rcases List.mem_cons.mp hx with rfl | hx
  · have := h.l4
    unfold lineK
    refine Pl.app (by decide +kernel) fun c hc => ?_
    have hc' : c ∈ (List.range s.l).map (97 + ·) := hc
    obtain ⟨j, hj, rfl⟩ := List.mem_map.mp hc'
    have := List.mem_range.mp hj
    omega
  rcases List.mem_cons.mp hx with rfl | hx
  · exact Pl.app (by decide +kernel) (sign_codes h.sg.1)
  rcases List.mem_append.mp hx with hx | hx
  · obtain ⟨st, _, rfl⟩ := List.mem_map.mp hx
    exact Pl.row _ _
  · obtain ⟨p, hp, rfl⟩ := List.mem_map.mp hx
    obtain ⟨a, b⟩ := h.pr p hp
    exact Pl.app (Pl.app (Pl.app (by decide +kernel) (word_codes a).2) (by decide +kernel)) (word_codes b).2
end KP
/-! Exceptions of own classes held as values: made with and without an own __init__, their classes asked, their fields read; over any built-in base. No row. -/
namespace GX
open PySem PySem.Spec PyProof.Rows L2 PySem.W PySem.Calls PySem.HandSPX
/-- the class at C: over a built-in base with the mro tl -/
structure XC (K : Frag) (C : Addr) (tl : List Value) (newId : String) : Prop where
  cls : ∃ nm q N bs bm sn sub ab col dd k0 k1 k2 k3 k5, K.lookup C = some (excClassObj nm q C N bs bm true sn sub ab col dd k0 k1 k2 k3 k5 newId) ∧ excTail tl bm = true
  sa : findIn K (.ref C) "__setattr__" = some (some (.builtin "object.__setattr__"))
  kC : keepIn K (.ref C) = true
section
variable {prog : Program} {w : World} {A : Around} {E : Value → Shared → Prop} {R : Result → Shared → Prop} {hp : Heap} {g : Array GenState} {d : Drawn} {t : Nat} {os : OsState}
open Builtin Builtin.ObjectAttr
/-- a first field laid on an exception, whatever its base -/
theorem osaG {K : W.Frag} {name : Str} {tk : Tok} {v : Value} {x C : Addr} {fv : Array Value} {cd : ClassData} (X : K.In hp) (hx : hp.get? x = some { cls := .ref C, data := .fields fv }) (hcd : W.clsIn K C = some cd) (n0 : cd.mro.isEmpty = false) (ho : cd.mro.contains (.type "object") = true)
    (pass : ∀ self : Value, refuseLoop self "__setattr__" cd.mro = pure ()) (hh : cd.hasDict = true) (ha : W.findIn K (.ref C) name = some none)
    (hq : ∀ h' tk' dx, (∀ b o, b ≠ x → hp.get? b = some o → h'.get? b = some o) → hp.objs.size ≤ dx → dx ≠ x → h'.get? x = some { cls := .ref C, dict := some dx, data := .fields fv } → h'.Ns1 dx (fun y => if y = name then some v else none) →
      R (.ok (.ret .none)) ⟨h', g, d, tk', os⟩) : codeAny (model prog w) A (.call (.builtin "object.__setattr__") ⟨[.ref x, .str name tk, v], []⟩) R ⟨hp, g, d, t, os⟩ := by
  have J : W.InstAt hp x { cls := .ref C, data := .fields fv } C none := ⟨hx, rfl, rfl, trivial⟩
  have xs : x ≠ hp.objs.size := Nat.ne_of_lt (Heap.lt_size hx)
  have sb : W.Looks (model prog w) hp (isInstance (.ref x) (.type "object")) true := J.type.andThen (W.looks_mroIn X (by
    unfold W.mroIn
    rw [hcd, Option.bind_some, if_neg (by rw [n0]; decide), ho]))
  have Z := F.store_object
  refine codeAny_call_builtin Z.slot.plain Z.entry (@W.check_slot (model prog w) _ _ ⟨hp, g, d, t, os⟩ "object.__setattr__" "object" "__setattr__" (.ref x) [.str name tk, v] [] _ Z.kind Z.split sb
    (Z.args (.ref x) (.str name tk) v) ?_)
  have L1 : W.Looks (model prog w) hp (mroOf (.ref C)) cd.mro := (W.looks_clsIn X hcd).andThen .now
  have L2 : W.Looks (model prog w) hp (storeTaker? none) none := .now
  have L3 : W.Looks (model prog w) hp (classData C) cd := W.looks_clsIn X hcd
  rw [W.osa_eq, refuse_eq]
  refine wpAny_bind (wpAny_bind (J.type.at (wpAny_bind (L1.at ?_))))
  rw [pass]
  refine wpAny_pure (wpAny_bind (J.type.at (wpAny_bind ((W.looks_findIn X ha).at (wpAny_bind (L2.at ?_))))))
  show wpAny _ _ (storeInOwnDict (.ref x) (.ref C) (.str name tk) name v false) _ _ _
  obtain ⟨nm, bs, mro, ns, qn, hd, sn, sb', ab, col, del⟩ := cd
  dsimp only at hh
  subst hh
  unfold storeInOwnDict ownDictForStores
  repeat (first | with_reducible refine store_in_new ?_ ?_ | with_reducible refine wpAny_loadPart_at hx ?_ | with_reducible refine L3.at ?_ | wp_step)
  · exact ⟨_, #[], _, (Heap.get?_update_ne _ _ _ _ xs.symm).trans (Heap.get?_push_at rfl rfl), rfl, (fun e he => absurd he (by simp)), fun _ => rfl⟩
  · intro h' tk' hn' hs
    have hx1 : (hp.push { cls := .type "dict", data := .dict #[] }).get? x = some { cls := .ref C, data := .fields fv } := Heap.get?_push_of_some _ hx
    exact hq h' tk' hp.objs.size (fun b o hb e => (hs.2 b (Nat.ne_of_lt (Heap.lt_size e))).trans ((Heap.get?_update_ne _ _ _ _ hb).trans (Heap.get?_push_of_some _ e))) (Nat.le_refl _) xs.symm
      ((hs.2 x xs).trans (Heap.get?_update_self _ hx1 rfl)) hn'
end
section
variable {X : Cx} {pins : List (Addr × Obj)} {σ : L2.St} {H : Hp} {s : Shared} {a C : Addr} {f : Str} {y : V} {u : Value} {Q : Unit → Shared → Prop} {E : Value → Shared → Prop} {A : Around} {tl : List Value} {B newId initId : String}
theorem ostG (T : XC X.K C tl newId) (S : StoreFacts B tl "object.__setattr__" "object") (I : Inv X pins σ H s) (e : H a = some (exo a C none)) (no : findIn X.K (.ref C) f = some none) (ry : RelV y u)
    (h : ∀ dx s', H dx = none → dx ≠ a → Inv X pins σ (upd (upd H dx (exd dx [(f, y)])) a (exo a C (some dx))) s' → Q () s') : wpAny (model X.prog X.w) A (setAttr (.ref a) f u) Q E s := by
  obtain ⟨nm, q, N, bs, bm, sn, sub, ab, col, dd, k0, k1, k2, k3, k5, hC, hb⟩ := T.cls
  have hc : clsIn X.K C = some { name := nm, bases := bs, mro := .ref C :: bm, ns := N, qualname := q, hasDict := true, slotNames := sn, subclasses := sub, abstract := ab, collection := col, hasDel := false } := by unfold clsIn; rw [hC] <;> rfl
  obtain ⟨t1, ho⟩ := exo_at I.hok e
  obtain ⟨hp, g, d, t, os⟩ := s
  refine set_plain I.kIn (ox := { cls := .ref C, dict := none, data := .fields #[.ref t1, .none, .none, .none, .bool false, .none] }) (od := none) ⟨ho, rfl, rfl, trivial⟩ T.sa ?_
  have hob : (Value.ref C :: bm).contains (.type "object") = true := by
    rw [List.contains_cons, excTail_contains "object" bm hb, S.hasOwner, Bool.or_true]
  refine osaG I.kIn ho hc rfl hob (fun self => by rw [refuseLoop_ref]; exact excTail_pass self (S.passes self) bm hb) rfl no (fun h' tk' dx k dn dne hx hn => ?_)
  have nH : H dx = none := I.hok.fresh dn
  have nb : ∀ {b : Addr} {o : Obj}, hp.get? b = some o → b ≠ dx := fun z => Nat.ne_of_lt (Nat.lt_of_lt_of_le (Heap.lt_size z) dn)
  have na : ∀ {b : Addr}, H b = none → b ≠ a := fun {b} n z => by rw [z, e] at n; cases n
  have U : Un X.fs [] H (upd (upd H dx (exd dx [(f, y)])) a (exo a C (some dx))) hp h' := by
    refine ⟨fun b o z n _ _ => k b o (na n) z, fun b o z n _ _ => ⟨o.slots, k b o (na n) z⟩, fun b o z n _ => by rw [upd_ne (na n), upd_ne (nb z)]; exact n, fun b o z _ => ?_, fun b xs z => ?_, fun b o v z => ?_, fun b ps z => ⟨#[], ?_⟩⟩
    · by_cases hb : b = a
      · exact ⟨_, by rw [hb]; exact hx⟩
      · exact ⟨o, k b o hb z⟩
    · rw [upd_ne (at_ne e z exo_tup), upd_ne (ne_of_none z nH)]; exact z
    · rw [upd_ne (at_ne e z exo_frz), upd_ne (ne_of_none z nH)]; exact z
    · rw [upd_ne (at_ne e z exo_tbl), upd_ne (ne_of_none z nH), z]; simp
  refine h dx _ nH dne (I.un (t' := tk') U fun b o z => ?_)
  by_cases h1 : b = a
  · subst h1
    rw [upd_same] at z
    cases z
    exact exo_ok hx
  rw [upd_ne h1] at z
  by_cases h2 : b = dx
  · subst h2
    rw [upd_same] at z
    cases z
    exact exd_ok hn (relO_put (fs := []) ry fun g => True.intro)
  rw [upd_ne h2] at z
  refine (I.hok b o z).stay (fun c v hc z' => k c v ?_ z') (fun c hc => ?_) (fun c xs hc => ?_)
  · rcases hc with hc | hc
    · rw [hc]; exact h1
    · exact at_ne e hc exo_own
  · rw [upd_ne (at_ne e hc exo_own), upd_ne (ne_of_none hc nH)]; exact hc
  · rw [upd_ne (at_ne e hc exo_tup), upd_ne (ne_of_none hc nH)]; exact hc
end
/-- self.f = e, on an exception that has no field yet -/
def tOstG (K : Frag) (tl : List Value) (newId : String) (f : Str) (to te : TE) : TS := fun D σ H => te σ H fun y H1 => to σ H1 fun x H2 => ∃ a C : Addr, x = .ref a ∧ XC K C tl newId ∧ findIn K (.ref C) f = some none ∧ H2 a = some (exo a C none) ∧
  ∀ dx, H2 dx = none → dx ≠ a → D.nx σ (upd (upd H2 dx (exd dx [(f, y)])) a (exo a C (some dx)))
section
variable {X : Cx} {o e : Expr} {es : List Expr} {to te : TE} {ta : TA} {f : Str} {p p' p1 p2 pos : Pos} {tl : List Value} {B newId initId : String}
theorem ps_ostG (S : StoreFacts B tl "object.__setattr__" "object") (ho : PE X o to) (he : PE X e te) (hs : swapsWith e (some (.Attribute o f p')) pos.line X.env = pure false := by rfl) : PS X (.Assign [.Attribute o f p'] e pos) (tOstG X.K tl newId f to te) := by
  refine ⟨fun pins s σ H D I h => plainObj_wpAny_Assign_Attribute (thn (he.run pins s σ H _ I h) fun v s1 ⟨y, H1, I1, r1, q1⟩ => thn (ho.run pins s1 σ H1 _ I1 q1) fun u s2 ⟨x, H2, I2, r2, a, C, ex, T, no, ea, q⟩ => ?_) hs⟩
  subst ex
  obtain rfl : u = Value.ref a := r2
  exact ostG T S I2 ea no r1 fun dx s' n ne J => ⟨σ, _, J, q dx n ne⟩
/-- C(e, ..) as a value, C with an own __init__ that keeps sp -/
def tExV (C : Addr) (sp : Sp) (ta : TA) : TE := fun σ H Q => ta σ H fun vs H1 => vs.length ≤ 1000 ∧ ∀ a, H1 a = none → sp (.ref a :: vs) (upd H1 a (exo a C none)) (fun v H2 => v = .non ∧ Q (.ref a) H2) (fun _ _ _ => False)
theorem pe_exV {CX : CXT} {x : Str} {C fI : Addr} {k : Nat} {fd : FuncData} {ps : List Str} {sp : Sp} (T : XC X.K C tl newId) (FB : ExcBaseFacts B newId initId tl) (iC : findIn X.K (.ref C) "__init__" = some (some (.ref fI))) (tI : typeIn X.K (.ref fI) = some (.type "function"))
    (F1 : FnOk X.prog X.w X.K X.mg X.base CX k fI fd ps sp) (hr : Room (k + 1) X.A) (hb : L2.Binds X.K fd ps []) (hx : L2.Passes CX X (fun _ _ _ => False)) (hg : L2.Gl X x) (hm : X.mg x = some (.ref C)) (ha : PA X (e :: es) ta)
    (hdb : (x == ("__debug__" : Str)) = false := by decide) (he : starEach (e :: es) X.env = (false, eval e X.env) :: starEach es X.env := by rfl) (hpl : (backTo pos (starEach es X.env)).any (·.1) = false := by rfl) :
    PE X (.Call (.Name x p) (e :: es) [] pos) (tExV C sp ta) := by
  refine ⟨fun pins s σ H Q I h => ?_⟩
  obtain ⟨nm, q, N, bs, bm, sn, sub, ab, col, dd, k0, k1, k2, k3, k5, hC, hbm⟩ := T.cls
  refine wpAny_Call_Name_kw (ld_glob I hg hm ?_ hdb)
  refine PySem.W.callWith_K (h₀ := X.base) I.ok.mod.kin T.kC (thn (ha.run pos pins s σ H _ I h) fun us s1 ⟨vs, H1, I1, r1, hz, q1⟩ => ⟨I1.kIn, show wpAny _ _ (call (.ref C) us) _ _ _ from ?_⟩) he hpl
  obtain ⟨hp, g, dr, tk, os⟩ := s1
  have sz : hp.objs.size ≤ hp.objs.size + 1 := Nat.le_succ _
  have n1 : H1 (hp.objs.size + 1) = none := I1.hok.fresh sz
  have hq := q1 (hp.objs.size + 1) n1
  have kk : ∀ b o, hp.get? b = some o → ((hp.push (PySem.W.kdv_tup us)).push (PySem.HandSPX.excO C hp.objs.size)).get? b = some o := fun b o z => Heap.get?_push_of_some _ (Heap.get?_push_of_some _ z)
  have hget : ((hp.push (PySem.W.kdv_tup us)).push (PySem.HandSPX.excO C hp.objs.size)).get? (hp.objs.size + 1) = some (PySem.HandSPX.excO C hp.objs.size) := by heap_get
  have I2 : Inv X pins σ (upd H1 (hp.objs.size + 1) (exo (hp.objs.size + 1) C none)) ⟨(hp.push (PySem.W.kdv_tup us)).push (PySem.HandSPX.excO C hp.objs.size), g, dr, tk, os⟩ := I1.laid (t' := tk) kk sz (exo_ok hget)
  have r2 : Vals (V.ref (hp.objs.size + 1) :: vs) (Value.ref (hp.objs.size + 1) :: us) := .cons rfl r1
  have hl : (Value.ref (hp.objs.size + 1) :: us ++ []).length = ps.length := by
    rw [List.append_nil, ← r2.length]
    exact F1.len _ _ _ _ hq
  have b := hb _ (Value.ref (hp.objs.size + 1) :: us) I2.kIn hl
  rw [List.append_nil] at b
  refine wpAny_call (PySem.HandSPX.call_own FB (fun Y => excTail_contains Y bm hbm) (I1.kIn _ _ hC) (looks_findIn I1.kIn iC) (fun self => bind_fn I1.kIn self tI) (by rw [← Paired.length r1, sizeLine_eq]; omega)
    (codeAny_mono (F1.run _ X.stack _ _ ⟨Value.ref (hp.objs.size + 1) :: us, []⟩ _ _ _ (fun _ _ _ => False) (hr.make C us []) (I2.env0.make C us []) b r2 hq) fun r s' hq' => ?_))
  cases r with
  | error er => exact hx pins σ _ _ er s' I2 hq'
  | ok fl =>
    cases fl with
    | ret u =>
      obtain ⟨v, H2, os2, bare2, un, hok2, rv, ev, q2⟩ := hq'
      subst ev
      obtain ⟨h2, g2, d2, t2, os'⟩ := s'
      refine ⟨rv, .ref (hp.objs.size + 1), H2, ?_, rfl, q2⟩
      have nha : ∀ {b : Addr} {o : Obj}, hp.get? b = some o → b ≠ hp.objs.size + 1 := fun z => Nat.ne_of_lt (Nat.lt_succ_of_lt (Heap.lt_size z))
      have up : ∀ {b : Addr}, b ≠ hp.objs.size + 1 → H1 b = none → upd H1 (hp.objs.size + 1) (exo (hp.objs.size + 1) C none) b = none := fun hb n => by rw [upd_ne hb]; exact n
      have U : Un (frs X.stack) [] H1 H2 hp h2 := ⟨fun b o z n hf hx => un.keep b o (kk b o z) (up (nha z) n) hf hx, fun b o z n hf hx => un.slot b o (kk b o z) (up (nha z) n) hf hx, fun b o z n hx => un.free b o (kk b o z) (up (nha z) n) hx,
        fun b o z hx => un.there b o (kk b o z) hx, fun b xs z => un.tups b xs (by rw [upd_ne (ne_of_none z n1)]; exact z), fun b o v z => un.frzs b o v (by rw [upd_ne (ne_of_none z n1)]; exact z), fun b ps z => un.tbls b ps (by rw [upd_ne (ne_of_none z n1)]; exact z)⟩
      exact I1.call' (ch := []) os2 U hok2 bare2 (fun b z => absurd z (by simp))
    | next => exact False.elim hq'
    | brk => exact False.elim hq'
    | cont => exact False.elim hq'
end
end GX
/-! raise C(e), C an own class with an own __init__ over any built-in base; len(o) of an own class with __len__. No row. -/
namespace GX
open PySem PySem.Spec PyProof.Rows L2 PySem.W PySem.Calls PySem.HandSPX
section
variable {X : Cx} {e : Expr} {es : List Expr} {ta : TA} {p pos : Pos} {tl : List Value} {B newId initId : String}
theorem pmk_G {CX : CXT} {x : Str} {C fI : Addr} {k : Nat} {fd : FuncData} {ps : List Str} {sp : Sp} {ds : List Value} {dvs : List V} (T : XC X.K C tl newId) (exC : subIn X.K (.ref C) (.type "BaseException") = some true) (tyC : typeIn X.K (.ref C) = some (.type "type"))
    (FB : ExcBaseFacts B newId initId tl) (iC : findIn X.K (.ref C) "__init__" = some (some (.ref fI))) (tI : typeIn X.K (.ref fI) = some (.type "function"))
    (F1 : FnOk X.prog X.w X.K X.mg X.base CX k fI fd ps sp) (hr : Room (k + 1) X.A) (hb : L2.Binds X.K fd ps ds) (hd : Vals dvs ds) (hx : L2.Passes CX X (fun _ _ _ => False)) (hg : L2.Gl X x) (hm : X.mg x = some (.ref C)) (ha : PA X (e :: es) ta)
    (hdb : (x == ("__debug__" : Str)) = false := by decide) (he : starEach (e :: es) X.env = (false, eval e X.env) :: starEach es X.env := by rfl) (hpl : (backTo pos (starEach es X.env)).any (·.1) = false := by rfl) :
    PMk X (.Call (.Name x p) (e :: es) [] pos) (tMkO C sp dvs ta) := by
  intro pins s σ H Q I h
  obtain ⟨nm, q, N, bs, bm, sn, sub, ab, col, dd, k0, k1, k2, k3, k5, hC, hbm⟩ := T.cls
  refine wpAny_Call_Name_kw (ld_glob I hg hm ?_ hdb)
  refine PySem.W.callWith_K (h₀ := X.base) I.ok.mod.kin T.kC (thn (ha.run pos pins s σ H _ I h) fun us s1 ⟨vs, H1, I1, r1, hz, q1⟩ => ⟨I1.kIn, ?_⟩) he hpl
  show wpAny _ _ (call (.ref C) us) _ _ _
  obtain ⟨hp, g, dr, tk, os⟩ := s1
  have hsz : hp.objs.size ≤ hp.objs.size + 1 := Nat.le_succ _
  have hn : H1 (hp.objs.size + 1) = none := I1.hok.fresh hsz
  have hq := q1 (hp.objs.size + 1) hn
  have kk : ∀ b o, hp.get? b = some o → ((hp.push (PySem.W.kdv_tup us)).push (PySem.HandSPX.excO C hp.objs.size)).get? b = some o := fun b o e => Heap.get?_push_of_some _ (Heap.get?_push_of_some _ e)
  have hget : ((hp.push (PySem.W.kdv_tup us)).push (PySem.HandSPX.excO C hp.objs.size)).get? (hp.objs.size + 1) = some (PySem.HandSPX.excO C hp.objs.size) := by heap_get
  have I2 : Inv X pins σ (upd H1 (hp.objs.size + 1) (exo (hp.objs.size + 1) C none)) ⟨(hp.push (PySem.W.kdv_tup us)).push (PySem.HandSPX.excO C hp.objs.size), g, dr, tk, os⟩ :=
    I1.laid (t' := tk) (a := hp.objs.size + 1) (o := exo (hp.objs.size + 1) C none) (h' := (hp.push (PySem.W.kdv_tup us)).push (PySem.HandSPX.excO C hp.objs.size)) kk hsz (exo_ok hget)
  have r2 : Vals (V.ref (hp.objs.size + 1) :: (vs ++ dvs)) (Value.ref (hp.objs.size + 1) :: (us ++ ds)) := .cons rfl (r1.append hd)
  have hl : (Value.ref (hp.objs.size + 1) :: us ++ ds).length = ps.length := by
    have e := r2.length
    rw [F1.len _ _ _ _ hq] at e
    exact e.symm
  have hus : us.length ≤ sizeLine := by
    rw [← Paired.length r1, sizeLine_eq]
    omega
  refine wpAny_call (PySem.HandSPX.call_own FB (fun Y => excTail_contains Y bm hbm) (I1.kIn _ _ hC) (PySem.W.looks_findIn I1.kIn iC) (fun self => PySem.W.bind_fn I1.kIn self tI) hus
    (codeAny_mono (F1.run _ X.stack _ _ ⟨Value.ref (hp.objs.size + 1) :: us, []⟩ (Value.ref (hp.objs.size + 1) :: (us ++ ds)) _ _ (fun _ _ _ => False) (hr.make C us []) (I2.env0.make C us []) (hb _ (Value.ref (hp.objs.size + 1) :: us) I2.kIn hl) r2 hq) fun r s' hq' => ?_))
  cases r with
  | error er => exact hx pins σ _ _ er s' I2 hq'
  | ok fl =>
    cases fl with
    | ret u =>
      obtain ⟨v, H2, os2, bare2, un2, hok2, rv, ev, d, fs, ea, ed, hd1, q2⟩ := hq'
      subst ev
      obtain ⟨h2, g2, d2, t2, os'⟩ := s'
      exact ⟨rv, mk_end (raises_own exC tyC) I1 hsz kk un2 hok2 os2 bare2 ea ed hd1 q2⟩
    | next => exact False.elim hq'
    | brk => exact False.elim hq'
    | cont => exact False.elim hq'
end
end GX
namespace GX
open PySem PySem.Spec PyProof.Rows L2
section
variable {X : Cx}
/-- len(o), o an instance of an own class with __len__ -/
def rLenO (C : Addr) (sp : Sp) : List V → Hp → VK → Prop := fun xs H Q => ∃ (a dx : Addr) (fs : List (Str × V)), xs = [.ref a] ∧ H a = some (.ins C dx fs) ∧ sp [.ref a] H (fun v G => ∃ n : Nat, v = .int (n : Int) ∧ (n : Int) < 2 ^ 63 ∧ Q (.int (n : Int)) G) E0
theorem call_lenO {C f : Addr} {fd : FuncData} {k : Nat} {sp : Sp} (hm : PySem.W.findIn X.K (.ref C) "__len__" = some (some (.ref f))) (tI : PySem.W.typeIn X.K (.ref f) = some (.type "function"))
    (F : FnOk X.prog X.w X.K X.mg X.base CX0 k f fd ["self"] sp) (hr : Room (k + 1) X.A) (hb : Binds X.K fd ["self"] []) : CallR X (.builtin "len") (rLenO C sp) := by
  intro pins s σ H xs us Q I r h
  obtain ⟨a, dx, fs, rfl, ha, q⟩ := h
  obtain ⟨u, rfl, rx⟩ := vals1 r
  cases rx
  obtain ⟨mA, O, _⟩ := ins_get I.hok ha
  refine Calls.call_function_entry kind_len plain_len entry_len (args_len1 _) ?_
  unfold Builtin.«len»
  refine wpAny_bind (m := oneArg "len" _) (wpAny_pure ?_)
  refine wpAny_bind (m := callSpecial? (.ref a) (Str.ofString "__len__")) ?_
  unfold callSpecial? specialOf
  obtain ⟨od, h1, _⟩ := lookIn_ns O.ns
  have J : PySem.W.InstAt s.heap a (PySem.W.instObj C dx) C (some od) := ⟨O.obj, rfl, rfl, h1⟩
  refine wpAny_bind (wpAny_bind (J.type.here ((PySem.W.looks_findIn I.kIn hm).here ?_)))
  refine wpAny_holding ?_
  refine wpAny_bind ((PySem.W.bind_fn I.kIn (.ref a) tI).here ?_)
  refine wpAny_bind ?_
  have hr1 : Room k X.A.in1 := hr.in1
  have r2 : Vals [V.ref a] [Value.ref a] := .cons rfl .nil
  refine wpAny_call (codeAny_mono (F.run X.A.in1 X.stack s H ⟨[.ref a], []⟩ [.ref a] [.ref a] _ E0 hr1 I.env0.in1 (hb s [.ref a] I.kIn rfl) r2 q) fun r s' hq => ?_)
  match r, hq with
  | .ok (.ret u), hq =>
    obtain ⟨v, H2, I2, rv, n, rfl, hn, q2⟩ := I.after (pins := pins) (σ := σ) hq
    obtain ⟨tk, rfl⟩ := rv
    refine wpAny_pure ?_
    show wpAny _ _ (holding [Value.int (n : Int) tk] (asIndex (Value.int (n : Int) tk)) >>= _) _ _ _
    refine wpAny_bind (wpAny_holding (wpAny_pure ?_))
    refine wpAny_bind (wpAny_letGo ?_)
    show wpAny _ _ (if ((n : Nat) : Int) < 0 then _ else _) _ _ _
    rw [if_neg (by omega)]
    show wpAny _ _ (if ((n : Nat) : Int) ≥ 2 ^ 63 then _ else _) _ _ _
    rw [if_neg (by omega)]
    exact wpAny_bind (wpAny_mkInt (wpAny_pure ⟨_, rfl, .int n, H2, I2.tok _, ⟨_, rfl⟩, q2⟩))
  | .ok .next, hq => exact hq.elim
  | .ok .brk, hq => exact hq.elim
  | .ok .cont, hq => exact hq.elim
  | .error e, hq => exact hq.elim
end
end GX
namespace K08
open PySem GL GZ KW KR GU KU KM KS KP GX
open L2 hiding isNon
open KC hiding rLenS call_lenS
open KX (Small)
def All2 {α : Type} (R : α → V → Prop) (vs : List V) (as : List α) : Prop := vs.length = as.length ∧ ∀ (i : Nat) (a : α), as[i]? = some a → ∃ v, vs[i]? = some v ∧ R a v
theorem All2.nil {α : Type} {R : α → V → Prop} : All2 R [] [] := ⟨rfl, fun i a h => by cases h⟩
theorem All2.mono {α : Type} {R R' : α → V → Prop} {vs : List V} {as : List α} (h : All2 R vs as) (k : ∀ a v, R a v → R' a v) : All2 R' vs as := ⟨h.1, fun i a e => let ⟨v, a1, a2⟩ := h.2 i a e; ⟨v, a1, k a v a2⟩⟩
theorem All2.snoc {α : Type} {R : α → V → Prop} {vs : List V} {as : List α} {v : V} {a : α} (h : All2 R vs as) (k : R a v) : All2 R (vs ++ [v]) (as ++ [a]) := by
  refine ⟨by simp [h.1], fun i b e => ?_⟩
  by_cases c : i < as.length
  · rw [List.getElem?_append_left c] at e
    obtain ⟨u, u1, u2⟩ := h.2 i b e
    exact ⟨u, by rw [List.getElem?_append_left (by rw [h.1]; exact c)]; exact u1, u2⟩
  · rw [List.getElem?_append_right (by omega)] at e
    have z : i - as.length = 0 := by
      have := (List.getElem?_eq_some_iff.mp e).1
      simp at this
      omega
    rw [z] at e
    cases e
    refine ⟨v, ?_, k⟩
    rw [List.getElem?_append_right (by rw [h.1]; omega), h.1, z]
    rfl
theorem All2.dt {α : Type} {R : α → V → Prop} {K : PySem.W.Frag} {G : Hp} {f : α → PyData} (k : ∀ a v, R a v → Dt K G v (f a)) : ∀ {vs : List V} {as : List α}, All2 R vs as → DtAll K G vs (as.map f)
  | [], [], _ => .nil
  | v :: vs, a :: as, h => by
    obtain ⟨u, u1, u2⟩ := h.2 0 a rfl
    cases u1
    exact .cons (k a v u2) (All2.dt k ⟨by simpa using h.1, fun i b e => h.2 (i + 1) b (by simpa using e)⟩)
  | [], a :: as, h => by have := h.1; simp at this
  | v :: vs, [], h => by have := h.1; simp at this
/-- a def that may raise -/
structure Dfx (P : Program) (w : World) (K : PySem.W.Frag) (mg : Str → Option Value) (base : Heap) (name : Str) (k : Nat) (f : Addr) (fd : FuncData) (ps : List Str) (sp : Sp) : Prop where
  ok : FnOk P w K mg base (L2.CX P w) k f fd ps sp
  b : L2.Binds K fd ps []
  m : mg name = some (.ref f)
  kp : PySem.W.keepIn K (.ref f) = true
end K08
namespace K08
open PySem GL GZ KW KR GU KU KM KS KP
open L2 hiding isNon
open KC hiding rLenS call_lenS
open KX (Small)
abbrev sKind : Stmt := top 67
/-- rows over the heap -/
def RowsAt (G : Hp) (us : List V) (rows : Rows) : Prop := All2 (fun (r : List (Option Nat)) v => ∃ t : Addr, v = .ref t ∧ G t = some (.tup (r.map oV))) us rows
theorem RowsAt.same {G G' : Hp} {us : List V} {rows : Rows} (h : RowsAt G us rows) (s : Same G G') : RowsAt G' us rows := h.mono fun r v ⟨t, e, g⟩ => ⟨t, e, s _ _ g⟩
theorem RowsAt.put {d c S : Addr} {G : Hp} {us : List V} {rows : Rows} {xs : List V} {o : HO} (h : RowsAt (Hd d c G) us rows) (g : G S = some (.lst xs)) : RowsAt (Hd d c (upd G S o)) us rows := h.mono fun r v ⟨t, e, gt⟩ => by
  obtain ⟨z1, z2, z3⟩ := hd_some gt
  refine ⟨t, e, hd_of ?_ z2 z3⟩
  rw [upd_ne (fun z => by rw [z, g] at z1; cases z1)]
  exact z1
theorem MachAt.of {H : Hp} {p pr pe : Addr} {l : Nat} {us : List V} {rows : Rows} {ends : List Bool} (h1 : H p = some (.tup [.int l, .ref pr, .ref pe])) (h2 : H pr = some (.tup us)) (h3 : H pe = some (.tup (ends.map V.bl))) (h : RowsAt H us rows) : MachAt H p l rows ends :=
  ⟨pr, pe, us, h1, h2, h3, h.1, fun i r hr => let ⟨v, a, t, e, g⟩ := h.2 i r hr; ⟨t, by rw [a, e], g⟩⟩
def spKind : Sp := fun vs H Q _ => ∃ (d c : Addr) (l n m : Nat), vs = [.ref d, .int l, .int n] ∧ Deck H d c m ∧ m ≤ 900000000 ∧ 1 ≤ l ∧ l ≤ 4 ∧ 1 ≤ n ∧ n ≤ 8 ∧
  ∀ (p : Addr) (rows : Rows) (ends : List Bool) (H' : Hp), MachAt (Hd d c H') p l rows ends → 1 ≤ rows.length → rows.length ≤ n → ends.length = rows.length → (∀ r ∈ rows, r.length = l ∧ ∀ k, some k ∈ r → k < rows.length) → Deck H' d c (m + 80) → Same (Hd d c H) (Hd d c H') → Q (.ref p) H'
abbrev NKi : List Str := ["_law_deck_here", "_law_letters", "_law_most", "_law_many", "_law_rows", "_law_ends", "_law_k", "_law_row", "_law_j"]
section
variable {P : Program} {w : World} {K : PySem.W.Frag} {mg : Str → Option Value} {base : Heap}
theorem scKi : FnScope ["_law_deck_here", "_law_letters", "_law_most", "_law_many", "_law_rows", "_law_ends", "_law_k", "_law_row", "_law_j"] ["_law_deck_here", "_law_letters", "_law_most"] (defScope sKind) := ⟨rfl, rfl, rfl, by decide +kernel, rfl, by decide +kernel, by decide +kernel⟩
theorem ok_kind {f fD : Addr} {fd fdD : FuncData} (F : Fun K "_law_kind" "_law_kind" sKind f fd) (T : Txt mg) (W : Dfn P w K mg base "_law_draw" 1 fD fdD ["_law_deck_here", "_law_many"] spDraw) :
    FnOk P w K mg base CX0 2 f fd ["_law_deck_here", "_law_letters", "_law_most"] spKind := by
  refine F.ok scKi (fun vs H Q E h => ?_) (fun cdv A outer s H vs Q E hr h => ?_)
  · obtain ⟨d, c, l, n, m, rfl, _⟩ := h
    rfl
  obtain ⟨d, c, l, n, m, rfl, D, hm, l0, l1, n0, n1, q⟩ := h
  refine ⟨_, pss_cons (ps_asg (pe_tup (pa_cons (pe_op op_add pe_int (pe_call W.ok hr rfl W.m W.kp W.b .nil pass0 (pa_cons (pv 0) (pa_cons (pv 2) pa_nil)))) (pa_cons (pe_lst pa_nil) (pa_cons (pe_lst pa_nil) pa_nil))))
      (pg_tup (by rfl) (pgs_cons (pg_name (i := 3) scKi.nd rfl (Or.inr rfl)) (pgs_cons (pg_name (i := 4) scKi.nd rfl (Or.inl rfl)) (pgs_cons (pg_name (i := 5) scKi.nd rfl (Or.inl rfl)) pgs_nil)))))
    (pss_cons (ps_for PassesOwn.never rfl (pi_range1 rfl T.c.range (pa_cons (pv 3) pa_nil)) (pg_name (i := 6) scKi.nd rfl (Or.inl rfl))
      (pss_cons (ps_setLc (i := 7) (own := [("_law_j", 8)]) (g := gName 8) (tt := tYes) rfl scKi.nd rfl rfl (sw_true rfl rfl rfl (by decide +kernel)) (pi_range1 rfl T.c.range (pa_cons (pv 1) pa_nil))
        (blkOk_by (own := [("_law_j", 8)]) (N := NKi) (sc := defScope sKind) (by decide +kernel)) (fun _ _ _ _ _ => pg_name (i := 8) scKi.nd rfl (Or.inl rfl)) (fun _ _ _ _ _ => pts_nil)
        (fun _ _ _ _ _ => pe_ifExp (pt_cmpR op_eq (pe_call W.ok hr rfl W.m W.kp W.b .nil pass0 (pa_cons (pv 0) (pa_cons pe_int pa_nil))) pe_int (nomark _)) pe_non (pe_call W.ok hr rfl W.m W.kp W.b .nil pass0 (pa_cons (pv 0) (pa_cons (pv 3) pa_nil)))))
      (pss_cons (ps_expr (pe_bm PySem.F.plainAttrs_list PySem.F.slot_list_append PySem.F.type_list_append mt_append (pv 4) (pa_cons (pe_callTy call_tuple_of (by rfl) T.c.tuple (by decide +kernel) (pa_cons (pv 7) pa_nil)) pa_nil)))
      (pss_one (ps_expr (pe_bm PySem.F.plainAttrs_list PySem.F.slot_list_append PySem.F.type_list_append mt_append (pv 5) (pa_cons (pe_cmp (pc_gt (pe_call W.ok hr rfl W.m W.kp W.b .nil pass0 (pa_cons (pv 0) (pa_cons pe_int pa_nil))) pe_int) rfl) pa_nil)))))))
    (pss_one (ps_ret (pe_tup (pa_cons (pv 1) (pa_cons (pe_callTy call_tuple_of (by rfl) T.c.tuple (by decide +kernel) (pa_cons (pv 4) pa_nil)) (pa_cons (pe_callTy call_tuple_of (by rfl) T.c.tuple (by decide +kernel) (pa_cons (pv 5) pa_nil)) pa_nil))))))), ?_⟩
  refine ⟨_, rfl, _, rfl, d, c, n, m, rfl, D, by omega, by omega, by omega, fun r G0 r0 r1 D0 s0 => ?_⟩
  obtain ⟨k, rfl⟩ : ∃ k : Nat, r = (k : Int) := ⟨r.toNat, by omega⟩
  refine ⟨_, _, rfl, rfl, by show 0 ≤ 2 ^ 24; decide, fun R nR => ⟨by show 0 ≤ 2 ^ 24; decide, fun E1 nE => ⟨by show 3 ≤ 2 ^ 24; decide, fun T1 nT => ?_⟩⟩⟩
  have nHR : Hd d c H R = none := s0.free (hd_none nR)
  have nE0 : G0 E1 = none := by
    by_cases e : E1 = R
    · rw [e]; exact nR
    · rw [upd_ne e] at nE; exact nE
  have nHE : Hd d c H E1 = none := s0.free (hd_none nE0)
  have D1 := (D0.new nR (.lst [])).new nE (.lst [])
  have fR := D0.free nR
  have fE := (D0.new nR (.lst [])).free nE
  have neRE : E1 ≠ R := fun e => by rw [e, upd_same] at nE; cases nE
  have gR : (upd (upd G0 R (.lst [])) E1 (.lst [])) R = some (.lst []) := by rw [upd_ne neRE.symm]; exact upd_same
  have gE : (upd (upd G0 R (.lst [])) E1 (.lst [])) E1 = some (.lst ([].map V.bl)) := upd_same
  have s1 : Same (Hd d c H) (Hd d c (upd (upd G0 R (.lst [])) E1 (.lst []))) := s0.trans ((hd_new nR _).trans (hd_new nE _))
  generalize upd (upd G0 R (.lst [])) E1 (.lst []) = G1 at nT D1 gR gE s1
  have D2 := D1.new nT (.tup [V.int (1 + k), V.ref R, V.ref E1])
  have sT := same_new nT (.tup [V.int (1 + k), V.ref R, V.ref E1])
  have gT : upd G1 T1 (.tup [V.int (1 + k), V.ref R, V.ref E1]) T1 = some (.tup [V.int (1 + k), V.ref R, V.ref E1]) := upd_same
  have gR := sT _ _ gR
  have gE := sT _ _ gE
  have s2 := s1.trans (hd_new nT (.tup [V.int (1 + k), V.ref R, V.ref E1]))
  generalize upd G1 T1 (.tup [V.int (1 + k), V.ref R, V.ref E1]) = G2 at D2 gT gR gE s2
  refine ⟨T1, _, rfl, .inl (.inl gT), rfl, _, _, rfl, _, _, rfl, _, _, rfl, rfl, ?_⟩
  have hk : ((1 : Int) + k) = ((1 + k : Nat) : Int) := by omega
  rw [hk]
  refine ⟨_, rfl, (1 + k : Nat), rfl, by omega, by omega, ?_⟩
  refine for_range (lo := 0) (n := 1 + k) (fun i σ G => ∃ (k6 k7 : Option V) (us : List V) (bs : List Bool) (rows : Rows), σ = [some (.ref d), some (.int l), some (.int n), some (.int (1 + k : Nat)), some (.ref R), some (.ref E1), k6, k7, none] ∧ Deck G d c (m + 1 + 9 * i) ∧
      Same (Hd d c H) (Hd d c G) ∧ G R = some (.lst us) ∧ G E1 = some (.lst (bs.map V.bl)) ∧ us.length = i ∧ bs.length = i ∧ RowsAt (Hd d c G) us rows ∧ ∀ r ∈ rows, r.length = l ∧ ∀ k', some k' ∈ r → k' < 1 + k)
    ⟨none, none, [], [], [], rfl, D2, s2, gR, gE, rfl, rfl, All2.nil, fun u h => nomatch h⟩ ?_ ?_
  · rintro i σ G4 hi ⟨k6, k7, us, bs, rows, rfl, D4, s4, g4, e4, l4, b4, r4, w4⟩
    refine ⟨_, rfl, l, rfl, by omega, by omega, fun L nL => lc_range (lo := 0) (n := l) (fun j G5 => Deck G5 d c (m + 1 + 9 * i + 2 * j) ∧ Same (Hd d c G4) (Hd d c G5) ∧ ∃ (os : List (Option Nat)), G5 L = some (.lst (os.map oV)) ∧ os.length = j ∧ ∀ k', some k' ∈ os → k' < 1 + k)
      ⟨D4.new nL _, hd_new nL _, [], upd_same, rfl, fun k' h => nomatch h⟩ ?_ ?_⟩
    · rintro j G5 hj ⟨D5, s5, os, y1, y2, y3⟩
      have fL := D4.free nL
      have nHL : Hd d c G4 L = none := hd_none nL
      have grow : ∀ (G6 : Hp) (kk : Nat) (o : Option Nat), kk ≤ m + 1 + 9 * i + 2 * (j + 1) → Deck G6 d c kk → Same (Hd d c G5) (Hd d c G6) → (∀ k', o = some k' → k' < 1 + k) →
          ∃ acc, G6 L = some (.lst acc) ∧ acc.length < sizeLine ∧ Deck (upd G6 L (.lst (acc ++ [oV o]))) d c (m + 1 + 9 * i + 2 * (j + 1)) ∧ Same (Hd d c G4) (Hd d c (upd G6 L (.lst (acc ++ [oV o])))) ∧
            ∃ (os : List (Option Nat)), upd G6 L (.lst (acc ++ [oV o])) L = some (.lst (os.map oV)) ∧ os.length = j + 1 ∧ ∀ k', some k' ∈ os → k' < 1 + k := by
        intro G6 kk o hk D6 s6 hv
        refine ⟨os.map oV, hd_sub _ _ (s6 _ _ (hd_of y1 fL.1 fL.2)), ?_, (D6.mono hk).put fL.1 fL.2 _, hd_grow nHL (s5.trans s6) _, os ++ [o], by rw [upd_same, List.map_append]; rfl, by rw [List.length_append, y2]; rfl, fun k' hk' => by
          rcases List.mem_append.mp hk' with hk' | hk'
          · exact y3 k' hk'
          · exact hv k' (List.mem_singleton.mp hk').symm⟩
        rw [List.length_map, y2]
        show j < 2 ^ 24
        omega
      refine ⟨rfl, _, rfl, d, c, 5, _, rfl, D5, by omega, by omega, by omega, fun r G6 r0 r1 D6 s6 => ⟨rfl, _, rfl, ite2 (fun c1 => ?_) (fun c1 => ?_)⟩⟩
      · exact grow G6 _ none (by omega) D6 s6 (fun k' h => nomatch h)
      · refine ⟨_, rfl, _, rfl, d, c, (1 + k : Nat), _, rfl, D6, by omega, by omega, by omega, fun r2 G7 r3 r4 D7 s7 => ?_⟩
        obtain ⟨k2, rfl⟩ : ∃ k2 : Nat, r2 = (k2 : Int) := ⟨r2.toNat, by omega⟩
        exact grow G7 _ (some k2) (by omega) D7 (s6.trans s7) (fun k' h => by cases h; omega)
    · rintro G5 ⟨D5, s5, os, y1, y2, y3⟩
      have fRd := D4.free (p := R)
      have g4h : Hd d c G4 R = some (.lst us) := hd_of g4 fR.1 fR.2
      have e4h : Hd d c G4 E1 = some (.lst (bs.map V.bl)) := hd_of e4 fE.1 fE.2
      have g5 := hd_sub _ _ (s5 _ _ g4h)
      have e5 := hd_sub _ _ (s5 _ _ e4h)
      refine ⟨_, rfl, .inl ⟨rfl, _, .inl (.inl g5)⟩, _, rfl, L, os.map oV, rfl, .inl ⟨.inl (.inl y1), fun t nt => ?_⟩⟩
      have fT := D5.free nt
      have s6 := hd_new (d := d) (c := c) nt (.tup (os.map oV))
      have D6 := D5.new nt (.tup (os.map oV))
      have g6 := same_new nt (.tup (os.map oV)) _ _ g5
      have e6 := same_new nt (.tup (os.map oV)) _ _ e5
      have gt : Hd d c (upd G5 t (.tup (os.map oV))) t = some (.tup (os.map oV)) := hd_of upd_same fT.1 fT.2
      generalize upd G5 t (.tup (os.map oV)) = G6 at s6 D6 g6 e6 gt
      have row1 : RowsAt (Hd d c G6) (us ++ [V.ref t]) (rows ++ [os]) := (r4.same (s5.trans s6)).snoc ⟨t, rfl, gt⟩
      refine ⟨R, us, .ref t, rfl, rfl, g6, by rw [l4]; show i < 2 ^ 24; omega, ?_⟩
      have rows7 := row1.put (o := .lst (us ++ [V.ref t])) g6
      have D7 := D6.put fR.1 fR.2 (.lst (us ++ [V.ref t]))
      have s7 : Same (Hd d c H) (Hd d c (upd G6 R (.lst (us ++ [V.ref t])))) := hd_grow nHR (s4.trans (s5.trans s6)) _
      have g7 : (upd G6 R (.lst (us ++ [V.ref t]))) R = some (.lst (us ++ [V.ref t])) := upd_same
      have e7 : (upd G6 R (.lst (us ++ [V.ref t]))) E1 = some (.lst (bs.map V.bl)) := by rw [upd_ne neRE]; exact e6
      generalize upd G6 R (.lst (us ++ [V.ref t])) = G7 at rows7 D7 s7 g7 e7
      refine ⟨_, rfl, .inl ⟨rfl, _, .inl (.inl e7)⟩, _, rfl, d, c, 3, _, rfl, D7, by omega, by decide, by decide, fun r G8 r0 r1 D8 s8 => ?_⟩
      have e8 := hd_sub _ _ (s8 _ _ (hd_of e7 fE.1 fE.2))
      have g8 := hd_sub _ _ (s8 _ _ (hd_of g7 fR.1 fR.2))
      refine ⟨_, _, rfl, rfl, E1, bs.map V.bl, _, rfl, rfl, e8, by rw [List.length_map, b4]; show i < 2 ^ 24; omega, ?_⟩
      refine ⟨_, _, us ++ [V.ref t], bs ++ [decide (r > 0)], rows ++ [os], rfl, (D8.mono (by omega)).put fE.1 fE.2 _, hd_grow nHE (s7.trans s8) _, by rw [upd_ne neRE.symm]; exact g8, by rw [upd_same, List.map_append]; rfl, by rw [List.length_append, l4]; rfl, by rw [List.length_append, b4]; rfl, (rows7.same s8).put e8, fun r' hr' => ?_⟩
      rcases List.mem_append.mp hr' with hr' | hr'
      · exact w4 r' hr'
      · rw [List.mem_singleton.mp hr']; exact ⟨y2, y3⟩
  · rintro σ G4 ⟨k6, k7, us, bs, rows, rfl, D4, s4, g4, e4, l4, b4, r4, w4⟩
    refine ⟨_, rfl, _, rfl, R, us, rfl, .inl ⟨.inl (.inl g4), fun t nt => ?_⟩⟩
    have fT := D4.free nt
    have D5 := D4.new nt (.tup us)
    have s5 := hd_new (d := d) (c := c) nt (.tup us)
    have g5 : Hd d c (upd G4 t (.tup us)) t = some (.tup us) := hd_of upd_same fT.1 fT.2
    have e5 := same_new nt (.tup us) _ _ e4
    generalize upd G4 t (.tup us) = G5 at D5 s5 g5 e5
    refine ⟨_, rfl, E1, bs.map V.bl, rfl, .inl ⟨.inl (.inl e5), fun t2 nt2 => ?_⟩⟩
    have fT2 := D5.free nt2
    have D6 := D5.new nt2 (.tup (bs.map V.bl))
    have s6 := hd_new (d := d) (c := c) nt2 (.tup (bs.map V.bl))
    have g6 : Hd d c (upd G5 t2 (.tup (bs.map V.bl))) t2 = some (.tup (bs.map V.bl)) := hd_of upd_same fT2.1 fT2.2
    generalize upd G5 t2 (.tup (bs.map V.bl)) = G6 at D6 s6 g6
    refine ⟨by show 3 ≤ 2 ^ 24; decide, fun p np => ?_⟩
    have fP := D6.free np
    have s7 := hd_new (d := d) (c := c) np (.tup [V.int l, V.ref t, V.ref t2])
    have s57 := s5.trans (s6.trans s7)
    have hn : rows.length = 1 + k := by rw [← r4.1]; exact l4
    exact q p rows bs _ (MachAt.of (hd_of upd_same fP.1 fP.2) (s7 _ _ (s6 _ _ g5)) (s7 _ _ g6) (r4.same s57)) (by omega) (by omega) (by omega) (fun r' hr' => by rw [hn]; exact w4 r' hr') ((D6.new np _).mono (by omega)) (s4.trans s57)
end
end K08
namespace K08
open PySem GL GZ KW KR GU KU KM KS KP
open L2 hiding isNon
open KC hiding rLenS call_lenS
open KX (inV_strs flat_strs)
abbrev sSgn : Stmt := top 68
abbrev sPc : Stmt := top 69
abbrev sRule : Stmt := top 70
abbrev sScheme : Stmt := top 71
def spSgn : Sp := fun vs H Q _ => ∃ (d c : Addr) (l m : Nat), vs = [.ref d, .int l] ∧ Deck H d c m ∧ m ≤ 900000000 ∧ l ≤ 6 ∧
  ∀ (bs : List Bool) (G : Hp), bs.length = l → Deck G d c (m + 6) → Same (Hd d c H) (Hd d c G) → Q (.str (sS bs)) G
def spPc : Sp := fun vs H Q _ => ∃ (d c : Addr) (l n m : Nat), vs = [.ref d, .int l, .int n] ∧ Deck H d c m ∧ m ≤ 900000000 ∧ 1 ≤ l ∧ l ≤ 4 ∧ n ≤ 9 ∧
  ∀ (w : List Nat) (G : Hp), w.length = n → (∀ j ∈ w, j < l) → Deck G d c (m + 9) → Same (Hd d c H) (Hd d c G) → Q (.str (wS w)) G
def spRl : Sp := fun vs H Q _ => ∃ (d c : Addr) (l m : Nat), vs = [.ref d, .int l, .int 6] ∧ Deck H d c m ∧ m ≤ 800000000 ∧ 1 ≤ l ∧ l ≤ 4 ∧
  ∀ (r : Addr) (rs : List Pr) (G : Hp), RuleAt (Hd d c G) r rs → Rul l rs → (words rs).Nodup → Deck G d c (m + 130) → Same (Hd d c H) (Hd d c G) → Q (.ref r) G
def PairsAt (G : Hp) (us : List V) (rs : List Pr) : Prop := All2 (fun (p : Pr) v => ∃ t : Addr, v = .ref t ∧ G t = some (.tup [.str (wS p.1), .str (wS p.2)])) us rs
theorem PairsAt.same {G G' : Hp} {us : List V} {rs : List Pr} (h : PairsAt G us rs) (s : Same G G') : PairsAt G' us rs := h.mono fun r v ⟨t, e, g⟩ => ⟨t, e, s _ _ g⟩
theorem PairsAt.put {d c S : Addr} {G : Hp} {us : List V} {rs : List Pr} {xs : List V} {o : HO} (h : PairsAt (Hd d c G) us rs) (g : G S = some (.lst xs)) : PairsAt (Hd d c (upd G S o)) us rs := h.mono fun r v ⟨t, e, gt⟩ => by
  obtain ⟨z1, z2, z3⟩ := hd_some gt
  refine ⟨t, e, hd_of ?_ z2 z3⟩
  rw [upd_ne (fun z => by rw [z, g] at z1; cases z1)]
  exact z1
theorem PairsAt.refs {G : Hp} : ∀ {us : List V} {rs : List Pr}, PairsAt G us rs → ∃ ts : List Addr, us = ts.map V.ref
  | [], _, _ => ⟨[], rfl⟩
  | u :: us, [], h => by have := h.1; simp at this
  | u :: us, r :: rs, h => by
    obtain ⟨v, e, t, e2, _⟩ := h.2 0 r rfl
    cases e
    obtain ⟨ts, e3⟩ := PairsAt.refs (G := G) (us := us) (rs := rs) ⟨by simpa using h.1, fun i b e => h.2 (i + 1) b (by simpa using e)⟩
    exact ⟨t :: ts, by rw [e2, e3]; rfl⟩
theorem PairsAt.rule {G : Hp} {a : Addr} {us : List V} {rs : List Pr} (h : PairsAt G us rs) (g : G a = some (.tup us)) : RuleAt G a rs := by
  obtain ⟨ts, rfl⟩ := h.refs
  refine ⟨ts, g, by have := h.1; simpa using this, fun i p hp => ?_⟩
  obtain ⟨v, e, t, e2, gt⟩ := h.2 i p hp
  rw [List.getElem?_map] at e
  obtain ⟨t', ht', e3⟩ := Option.map_eq_some_iff.mp e
  rw [e2] at e3
  cases e3
  exact ⟨t, ht', gt⟩
theorem wS_not {w : List Nat} {ws : List (List Nat)} (h : wS w ∉ ws.map wS) : w ∉ ws := fun m => h (List.mem_map.mpr ⟨w, m, rfl⟩)
section
variable {P : Program} {w : World} {K : PySem.W.Frag} {mg : Str → Option Value} {base : Heap}
theorem ok_oneT {f fD : Addr} {fd fdD : FuncData} (F : Fun K "_law_one" "_law_one" sOne f fd) (T : Txt mg) (W : Dfn P w K mg base "_law_draw" 1 fD fdD ["_law_deck_here", "_law_many"] spDraw) :
    FnOk P w K mg base CX0 2 f fd ["_law_deck_here", "_law_items"] spOneT := by
  refine F.ok scOne (fun vs H Q E h => ?_) (fun cdv A outer s H vs Q E hr h => ?_)
  · obtain ⟨d, c, z, m, rfl, _⟩ := h
    rfl
  obtain ⟨d, c, z, m, rfl, D, hm, x0, x1, q⟩ := h
  have zl : z.length ≤ 2 ^ 24 := by omega
  refine ⟨_, pss_one (ps_ret (pe_ix ix_str (pv 1) (pe_call W.ok hr rfl W.m W.kp W.b .nil pass0 (pa_cons (pv 0) (pa_cons (pe_callB call_len_str (by rfl) T.c.len PySem.boot_len (pa_cons (pv 1) pa_nil)) pa_nil))) (fun _ _ => rfl))), ?_⟩
  refine ⟨_, rfl, _, rfl, _, rfl, _, rfl, zl, d, c, (z.length : Int), m, rfl, D, hm, by omega, by omega, fun r G r0 r1 D2 s2 => ?_⟩
  obtain ⟨j, rfl⟩ : ∃ j : Nat, r = (j : Int) := ⟨r.toNat, by omega⟩
  have jl : j < z.cps.toList.length := by
    rw [Array.length_toList]
    show j < z.length
    omega
  obtain ⟨k, hk⟩ : ∃ k, z.cps.toList[j]? = some k := ⟨_, List.getElem?_eq_getElem jl⟩
  exact ⟨_, _, k, rfl, rfl, zl, atI_nat hk, q k G (List.mem_of_getElem? hk) D2 s2⟩
theorem scSg : FnScope ["_law_deck_here", "_law_letters", "_law_k"] ["_law_deck_here", "_law_letters"] (defScope sSgn) := ⟨rfl, rfl, rfl, by decide +kernel, rfl, by decide +kernel, by decide +kernel⟩
theorem ok_signs {f fO : Addr} {fd fdO : FuncData} (F : Fun K "_law_signs" "_law_signs" sSgn f fd) (T : Txt mg)
    (O : Dfn P w K mg base "_law_one" 2 fO fdO ["_law_deck_here", "_law_items"] spOneT) : FnOk P w K mg base CX0 3 f fd ["_law_deck_here", "_law_letters"] spSgn := by
  refine F.ok scSg (fun vs H Q E h => ?_) (fun cdv A outer s H vs Q E hr h => ?_)
  · obtain ⟨d, c, l, m, rfl, _⟩ := h
    rfl
  obtain ⟨d, c, l, m, rfl, D, hm, l4, q⟩ := h
  refine ⟨_, pss_one (ps_ret (pe_join pe_str (pe_lc (own := [("_law_k", 2)]) (g := gName 2) (tt := tYes) rfl scSg.nd (pi_range1 rfl T.c.range (pa_cons (pv 1) pa_nil))
      (blkOk_by (own := [("_law_k", 2)]) (N := ["_law_deck_here", "_law_letters", "_law_k"]) (sc := defScope sSgn) (by decide +kernel)) (fun _ _ _ _ _ => pg_name (i := 2) scSg.nd rfl (Or.inl rfl)) (fun _ _ _ _ _ => pts_nil)
      (fun _ _ _ _ _ => pe_call O.ok hr rfl O.m O.kp O.b .nil pass0 (pa_cons (pv 0) (pa_cons pe_str pa_nil)))))), ?_⟩
  refine ⟨⟨_, rfl⟩, _, rfl, l, rfl, by omega, by omega, fun L nL => lc_range (lo := 0) (n := l) (fun i G' => Deck G' d c (m + i) ∧ Same (Hd d c H) (Hd d c G') ∧ ∃ bs : List Bool, G' L = some (.lst (((bs.map sc).map fun k => (⟨#[k]⟩ : Str)).map V.str)) ∧ bs.length = i)
    ⟨D.new nL _, hd_new nL _, [], upd_same, rfl⟩ ?_ ?_⟩
  · rintro i G' hi ⟨D2, s2, u, u1, u2⟩
    have fL := D.free nL
    refine ⟨rfl, _, rfl, d, c, "+-", m + i, rfl, D2, by omega, by decide, by decide, fun j G2 hj D3 s3 => ?_⟩
    obtain ⟨b, hb⟩ : ∃ b : Bool, j = sc b := by
      have hj' : j ∈ [43, 45] := hj
      rcases List.mem_cons.mp hj' with rfl | hj'
      · exact ⟨false, rfl⟩
      · rw [List.mem_singleton.mp hj']; exact ⟨true, rfl⟩
    refine ⟨_, hd_sub _ _ (s3 _ _ (hd_of u1 fL.1 fL.2)), ?_, D3.put fL.1 fL.2 _, hd_grow (hd_none nL) (s2.trans s3) _, u ++ [b], ?_, by rw [List.length_append, u2]; rfl⟩
    · rw [List.length_map, List.length_map, List.length_map, u2]
      show i < 2 ^ 24
      omega
    · rw [hb, upd_same, List.map_append, List.map_append, List.map_append]; rfl
  · rintro G' ⟨D2, s2, u, u1, u2⟩
    refine ⟨_, L, _, rfl, rfl, .inl (.inl (.inl u1)), ?_, ?_⟩
    · rw [len_c]
      simp only [List.length_map]
      show u.length + u.length * 0 ≤ 16777216
      omega
    · rw [join_c]
      exact q u G' u2 (D2.mono (by omega)) s2
theorem scPc : FnScope ["_law_deck_here", "_law_letters", "_law_size", "_law_k"] ["_law_deck_here", "_law_letters", "_law_size"] (defScope sPc) := ⟨rfl, rfl, rfl, by decide +kernel, rfl, by decide +kernel, by decide +kernel⟩
theorem ok_pc {f fO : Addr} {fd fdO : FuncData} (F : Fun K "_law_piece" "_law_piece" sPc f fd) (T : Txt mg)
    (O : Dfn P w K mg base "_law_one" 2 fO fdO ["_law_deck_here", "_law_items"] spOneT) : FnOk P w K mg base CX0 3 f fd ["_law_deck_here", "_law_letters", "_law_size"] spPc := by
  refine F.ok scPc (fun vs H Q E h => ?_) (fun cdv A outer s H vs Q E hr h => ?_)
  · obtain ⟨d, c, l, n, m, rfl, _⟩ := h
    rfl
  obtain ⟨d, c, l, n, m, rfl, D, hm, l1, l4, n5, q⟩ := h
  refine ⟨_, pss_one (ps_ret (pe_join pe_str (pe_lc (own := [("_law_k", 3)]) (g := gName 3) (tt := tYes) rfl scPc.nd (pi_range1 rfl T.c.range (pa_cons (pv 2) pa_nil))
      (blkOk_by (own := [("_law_k", 3)]) (N := ["_law_deck_here", "_law_letters", "_law_size", "_law_k"]) (sc := defScope sPc) (by decide +kernel)) (fun _ _ _ _ _ => pg_name (i := 3) scPc.nd rfl (Or.inl rfl)) (fun _ _ _ _ _ => pts_nil)
      (fun _ _ _ _ _ => pe_call O.ok hr rfl O.m O.kp O.b .nil pass0 (pa_cons (pv 0) (pa_cons (pe_slice sl_str pe_str po_none (po_some (pv 1))) pa_nil)))))), ?_⟩
  refine ⟨⟨_, rfl⟩, _, rfl, n, rfl, by omega, by omega, fun L nL => lc_range (lo := 0) (n := n) (fun i G' => Deck G' d c (m + i) ∧ Same (Hd d c H) (Hd d c G') ∧ ∃ u : List Nat, G' L = some (.lst ((u.map fun k => (⟨#[k]⟩ : Str)).map V.str)) ∧ u.length = i ∧ ∀ k ∈ u, k ∈ (wS (List.range l)).cps.toList)
    ⟨D.new nL _, hd_new nL _, [], upd_same, rfl, fun j h => nomatch h⟩ ?_ ?_⟩
  · rintro i G' hi ⟨D2, s2, u, u1, u2, u3⟩
    have fL := D.free nL
    refine ⟨rfl, _, rfl, _, rfl, l, rfl, _, rfl, by decide, d, c, wS (List.range l), m + i, ?_, D2, by omega, by rw [wS_len, List.length_range]; omega, by rw [wS_len, List.length_range]; omega, fun j G2 hj D3 s3 => ?_⟩
    · show [V.ref d, V.str (cutS ("abcd" : Str) none (some (l : Int)))] = _
      rw [cut_abcd l l1 l4]
    refine ⟨_, hd_sub _ _ (s3 _ _ (hd_of u1 fL.1 fL.2)), ?_, D3.put fL.1 fL.2 _, hd_grow (hd_none nL) (s2.trans s3) _, u ++ [j], ?_, by rw [List.length_append, u2]; rfl, ?_⟩
    · rw [List.length_map, List.length_map, u2]
      show i < 2 ^ 24
      omega
    · rw [upd_same, List.map_append, List.map_append]; rfl
    · intro k hk
      rcases List.mem_append.mp hk with hk | hk
      · exact u3 k hk
      · rw [List.mem_singleton.mp hk]; exact hj
  · rintro G' ⟨D2, s2, u, u1, u2, u3⟩
    obtain ⟨w', rfl, hw⟩ := ws_of l u u3
    refine ⟨_, L, _, rfl, rfl, .inl (.inl (.inl u1)), ?_, ?_⟩
    · rw [len_c]
      simp only [List.length_map]
      simp only [List.length_map] at u2
      show w'.length + w'.length * 0 ≤ 16777216
      omega
    · rw [join_c]
      exact q w' G' (by rw [List.length_map] at u2; exact u2) hw (D2.mono (by omega)) s2
abbrev NRl : List Str := ["_law_deck_here", "_law_letters", "_law_most", "_law_found", "_law_taken", "_law_k", "_law_size", "_law_one_here", "_law_other"]
theorem scRl : FnScope ["_law_deck_here", "_law_letters", "_law_most", "_law_found", "_law_taken", "_law_k", "_law_size", "_law_one_here", "_law_other"] ["_law_deck_here", "_law_letters", "_law_most"] (defScope sRule) := ⟨rfl, rfl, rfl, by decide +kernel, rfl, by decide +kernel, by decide +kernel⟩
theorem ok_rule {f fD fO fP : Addr} {fd fdD fdO fdP : FuncData} (F : Fun K "_law_rule" "_law_rule" sRule f fd) (T : Txt mg) (W : Dfn P w K mg base "_law_draw" 1 fD fdD ["_law_deck_here", "_law_many"] spDraw)
    (O : Dfn P w K mg base "_law_one" 2 fO fdO ["_law_deck_here", "_law_items"] spOne) (PC : Dfn P w K mg base "_law_piece" 3 fP fdP ["_law_deck_here", "_law_letters", "_law_size"] spPc) :
    FnOk P w K mg base CX0 4 f fd ["_law_deck_here", "_law_letters", "_law_most"] spRl := by
  refine F.ok scRl (fun vs H Q E h => ?_) (fun cdv A outer s H vs Q E hr h => ?_)
  · obtain ⟨d, c, l, m, rfl, _⟩ := h
    rfl
  obtain ⟨d, c, l, m, rfl, D, hm, l1, l4, q⟩ := h
  have hr1 : Room 1 _ := hr.mono (by decide)
  have hr2 : Room 2 _ := hr.mono (by decide)
  refine ⟨_, pss_cons (ps_par (i := 3) (j := 4) (by rfl) scRl.nd rfl rfl (by decide) rfl rfl (pa_cons (pe_lst pa_nil) (pa_cons (pe_lst pa_nil) pa_nil)) (by rfl))
    (pss_cons (ps_for PassesOwn.never rfl (pi_range1 rfl T.c.range (pa_cons (pe_call W.ok hr1 rfl W.m W.kp W.b .nil pass0 (pa_cons (pv 0) (pa_cons (pe_op op_add (pv 2) pe_int) pa_nil))) pa_nil)) (pg_name (i := 5) scRl.nd rfl (Or.inl rfl))
      (pss_cons (ps_set (i := 6) scRl.nd rfl (Or.inl rfl) (pe_call O.ok hr2 rfl O.m O.kp O.b .nil pass0 (pa_cons (pv 0) (pa_cons (pe_lst (pa_cons pe_int (pa_cons pe_int (pa_cons pe_int (pa_cons pe_int pa_nil))))) pa_nil))))
      (pss_cons (ps_par (i := 7) (j := 8) (by rfl) scRl.nd rfl rfl (by decide) rfl rfl (pa_cons (pe_call PC.ok hr rfl PC.m PC.kp PC.b .nil pass0 (pa_cons (pv 0) (pa_cons (pv 1) (pa_cons (pv 6) pa_nil))))
        (pa_cons (pe_call PC.ok hr rfl PC.m PC.kp PC.b .nil pass0 (pa_cons (pv 0) (pa_cons (pv 1) (pa_cons (pv 6) pa_nil)))) pa_nil)) (by rfl))
      (pss_one (ps_if (PW.pt (pw_and (pt_cmpR op_ne (pv 7) (pv 8) (nomark _)) (pw_and (pt_cmpR op_notIn_seq (pv 7) (pv 4) (by rfl)) (pw_and1 (pt_cmpR op_notIn_seq (pv 8) (pv 4) (by rfl))))))
        (pss_cons (ps_expr (pe_bm PySem.F.plainAttrs_list PySem.F.slot_list_append PySem.F.type_list_append mt_append (pv 3) (pa_cons (pe_tup (pa_cons (pv 7) (pa_cons (pv 8) pa_nil))) pa_nil)))
        (pss_one (ps_expr (pe_bm PySem.F.plainAttrs_list PySem.F.slot_list_extend PySem.F.type_list_extend mt_extend (pv 4) (pa_cons (pe_lst (pa_cons (pv 7) (pa_cons (pv 8) pa_nil))) pa_nil))))) pss_nil)))))
    (pss_one (ps_ret (pe_callTy call_tuple_of (by rfl) T.c.tuple (by decide +kernel) (pa_cons (pv 3) pa_nil))))), ?_⟩
  refine ⟨by show 0 ≤ 2 ^ 24; decide, fun lf nlf => ⟨by show 0 ≤ 2 ^ 24; decide, fun ls nls => ⟨_, _, rfl, ?_⟩⟩⟩
  have neS : ls ≠ lf := fun e => by rw [e, upd_same] at nls; cases nls
  have nls0 : H ls = none := by rw [upd_ne neS] at nls; exact nls
  have nHF : Hd d c H lf = none := hd_none nlf
  have nHS : Hd d c H ls = none := hd_none nls0
  have fF := D.free nlf
  have fS := D.free nls0
  have D1 := (D.new nlf (.lst [])).new nls (.lst [])
  have s1 : Same (Hd d c H) (Hd d c (upd (upd H lf (.lst [])) ls (.lst []))) := (hd_new nlf _).trans (hd_new nls _)
  have gF : (upd (upd H lf (.lst [])) ls (.lst [])) lf = some (.lst []) := by rw [upd_ne neS.symm]; exact upd_same
  have gS : (upd (upd H lf (.lst [])) ls (.lst [])) ls = some (.lst (([] : List Str).map V.str)) := upd_same
  generalize upd (upd H lf (.lst [])) ls (.lst []) = G1 at D1 s1 gF gS
  refine ⟨_, rfl, _, rfl, _, _, rfl, rfl, d, c, 7, _, rfl, D1, by omega, by decide, by decide, fun r G2 r0 r1 D2 s2 => ?_⟩
  obtain ⟨n, rfl⟩ : ∃ n : Nat, r = (n : Int) := ⟨r.toNat, by omega⟩
  have gF2 := hd_sub _ _ (s2 _ _ (hd_of gF fF.1 fF.2))
  have gS2 := hd_sub _ _ (s2 _ _ (hd_of gS fS.1 fS.2))
  refine ⟨n, rfl, by omega, by omega, for_range (lo := 0) (n := n) (fun i σ G => ∃ (k5 k6 k7 k8 : Option V) (us : List V) (rs : List Pr), σ = [some (.ref d), some (.int l), some (.int 6), some (.ref lf), some (.ref ls), k5, k6, k7, k8] ∧
      Deck G d c (m + 1 + 20 * i) ∧ Same (Hd d c H) (Hd d c G) ∧ G lf = some (.lst us) ∧ us.length ≤ i ∧ PairsAt (Hd d c G) us rs ∧ G ls = some (.lst (((words rs).map wS).map V.str)) ∧ (words rs).Nodup ∧ (∀ p ∈ rs, 1 ≤ p.1.length ∧ p.1.length ≤ 3 ∧ p.2.length = p.1.length ∧ p.1 ≠ p.2 ∧ (∀ j ∈ p.1, j < l) ∧ ∀ j ∈ p.2, j < l))
    ⟨none, none, none, none, [], [], rfl, D2, s1.trans s2, gF2, Nat.le_refl _, All2.nil, gS2, List.nodup_nil, fun p h => (nomatch h)⟩ ?_ ?_⟩
  · rintro i σ G hi ⟨k5, k6, k7, k8, us, rs, rfl, DG, sG, g1, ul, up, g2, nd, ok⟩
    refine ⟨_, rfl, by show 4 ≤ 2 ^ 24; decide, fun a na => ?_⟩
    have Da := DG.new na (.lst [V.int 1, V.int 2, V.int 2, V.int 3])
    have fa := DG.free na
    have sa := hd_new (d := d) (c := c) na (.lst [V.int 1, V.int 2, V.int 2, V.int 3])
    have ha : Hd d c (upd G a (.lst [V.int 1, V.int 2, V.int 2, V.int 3])) a = some (.lst [V.int 1, V.int 2, V.int 2, V.int 3]) := hd_of upd_same fa.1 fa.2
    generalize upd G a (.lst [V.int 1, V.int 2, V.int 2, V.int 3]) = Ga at Da sa ha
    refine ⟨d, c, a, _, _, rfl, Da, by omega, ha, by decide, by decide, fun v G3 hv D3 s3 => ?_⟩
    obtain ⟨z, rfl, z1, z3⟩ : ∃ z : Nat, v = .int z ∧ 1 ≤ z ∧ z ≤ 3 := by
      rcases List.mem_cons.mp hv with rfl | hv
      · exact ⟨1, rfl, by decide, by decide⟩
      · rcases List.mem_cons.mp hv with rfl | hv
        · exact ⟨2, rfl, by decide, by decide⟩
        · rcases List.mem_cons.mp hv with rfl | hv
          · exact ⟨2, rfl, by decide, by decide⟩
          · rw [List.mem_singleton.mp hv]; exact ⟨3, rfl, by decide, by decide⟩
    refine ⟨_, rfl, _, rfl, _, rfl, d, c, l, z, _, rfl, D3, by omega, l1, l4, by omega, fun wx G4 lx wxl D4 s4 => ⟨_, rfl, _, rfl, _, rfl, d, c, l, z, _, rfl, D4, by omega, l1, l4, by omega, fun wy G5 ly wyl D5 s5 => ⟨_, _, rfl, ?_⟩⟩⟩
    have sH := sa.trans (s3.trans (s4.trans s5))
    have g1' := hd_sub _ _ (sH _ _ (hd_of g1 fF.1 fF.2))
    have g2' := hd_sub _ _ (sH _ _ (hd_of g2 fS.1 fS.2))
    have up' : PairsAt (Hd d c G5) us rs := up.same sH
    have stay : ∃ (k5 k6 k7 k8 : Option V) (us' : List V) (rs' : List Pr), [some (V.ref d), some (.int l), some (.int 6), some (.ref lf), some (.ref ls), some (V.int (0 + i)), some (V.int z), some (V.str (wS wx)), some (V.str (wS wy))] = [some (.ref d), some (.int l), some (.int 6), some (.ref lf), some (.ref ls), k5, k6, k7, k8] ∧
        Deck G5 d c (m + 1 + 20 * (i + 1)) ∧ Same (Hd d c H) (Hd d c G5) ∧ G5 lf = some (.lst us') ∧ us'.length ≤ i + 1 ∧ PairsAt (Hd d c G5) us' rs' ∧ G5 ls = some (.lst (((words rs').map wS).map V.str)) ∧ (words rs').Nodup ∧ (∀ p ∈ rs', 1 ≤ p.1.length ∧ p.1.length ≤ 3 ∧ p.2.length = p.1.length ∧ p.1 ≠ p.2 ∧ (∀ j ∈ p.1, j < l) ∧ ∀ j ∈ p.2, j < l) :=
      ⟨_, _, _, _, us, rs, rfl, D5.mono (by omega), sG.trans sH, g1', by omega, up', g2', nd, ok⟩
    refine ⟨_, rfl, _, rfl, rfl, _, rfl, ite2 (fun c2 => ?_) (fun c2 => iteF stay)⟩
    refine ⟨_, rfl, _, rfl, ls, _, rfl, .inl (.inl (.inl g2')), rfl, flat_strs ((words rs).map wS), _, rfl, ite2 (fun c3 => ?_) (fun c3 => iteF stay)⟩
    refine ⟨_, rfl, _, rfl, ls, _, rfl, .inl (.inl (.inl g2')), rfl, flat_strs ((words rs).map wS), _, rfl, ite2 (fun c4 => ?_) (fun c4 => stay)⟩
    have nxy : wx ≠ wy := fun e => by rw [e] at c2; exact absurd c2 (by simp)
    have nx : wx ∉ words rs := by
      refine wS_not fun h => ?_
      rw [inV_strs, decide_eq_true h] at c3
      exact absurd c3 (by decide)
    have ny : wy ∉ words rs := by
      refine wS_not fun h => ?_
      rw [inV_strs, decide_eq_true h] at c4
      exact absurd c4 (by decide)
    refine ⟨_, rfl, .inl ⟨rfl, _, .inl (.inl g1')⟩, _, rfl, _, rfl, by show 2 ≤ 2 ^ 24; decide, fun t nt => ?_⟩
    have ft := D5.free nt
    have D6 := D5.new nt (.tup [V.str (wS wx), V.str (wS wy)])
    have s6 : Same (Hd d c G5) (Hd d c (upd G5 t (.tup [V.str (wS wx), V.str (wS wy)]))) := hd_new nt _
    have gt : Hd d c (upd G5 t (.tup [V.str (wS wx), V.str (wS wy)])) t = some (.tup [V.str (wS wx), V.str (wS wy)]) := hd_of upd_same ft.1 ft.2
    have g1'' := same_new nt (.tup [V.str (wS wx), V.str (wS wy)]) _ _ g1'
    have g2'' := same_new nt (.tup [V.str (wS wx), V.str (wS wy)]) _ _ g2'
    generalize upd G5 t (.tup [V.str (wS wx), V.str (wS wy)]) = G6 at D6 s6 gt g1'' g2''
    refine ⟨lf, us, .ref t, rfl, rfl, g1'', by show us.length < 2 ^ 24; omega, ?_⟩
    have up5 : PairsAt (Hd d c G6) (us ++ [V.ref t]) (rs ++ [(wx, wy)]) := (up'.same s6).snoc ⟨t, rfl, gt⟩
    have up6 := up5.put (o := .lst (us ++ [V.ref t])) g1''
    have D7 := D6.put fF.1 fF.2 (.lst (us ++ [V.ref t]))
    have s7 : Same (Hd d c H) (Hd d c (upd G6 lf (.lst (us ++ [V.ref t])))) := hd_grow nHF (sG.trans (sH.trans s6)) _
    have g17 : (upd G6 lf (.lst (us ++ [V.ref t]))) lf = some (.lst (us ++ [V.ref t])) := upd_same
    have g27 : (upd G6 lf (.lst (us ++ [V.ref t]))) ls = some (.lst (((words rs).map wS).map V.str)) := by rw [upd_ne neS]; exact g2''
    generalize upd G6 lf (.lst (us ++ [V.ref t])) = G7 at up6 D7 s7 g17 g27
    refine ⟨_, rfl, .inl ⟨rfl, _, .inl (.inl g27)⟩, _, rfl, _, rfl, by show 2 ≤ 2 ^ 24; decide, fun e nE => ?_⟩
    have fe := D7.free nE
    have D8 := D7.new nE (.lst [V.str (wS wx), V.str (wS wy)])
    have s8 : Same (Hd d c G7) (Hd d c (upd G7 e (.lst [V.str (wS wx), V.str (wS wy)]))) := hd_new nE _
    have ge : upd G7 e (.lst [V.str (wS wx), V.str (wS wy)]) e = some (.lst [V.str (wS wx), V.str (wS wy)]) := upd_same
    have g18 := same_new nE (.lst [V.str (wS wx), V.str (wS wy)]) _ _ g17
    have g28 := same_new nE (.lst [V.str (wS wx), V.str (wS wy)]) _ _ g27
    generalize upd G7 e (.lst [V.str (wS wx), V.str (wS wy)]) = G8 at D8 s8 ge g18 g28
    have r6 := up.1
    have lw : ∀ rs : List Pr, (words rs).length = 2 * rs.length := fun rs => by
      induction rs with
      | nil => rfl
      | cons p rs ih => simp only [words, List.length_cons, ih]; omega
    have ew : words (rs ++ [(wx, wy)]) = words rs ++ [wx, wy] := words_app rs _
    refine ⟨ls, e, _, _, rfl, rfl, g28, ge, by rw [List.length_map, List.length_map, lw]; show _ + 2 ≤ 2 ^ 24; omega, ?_⟩
    refine ⟨_, _, _, _, us ++ [V.ref t], rs ++ [(wx, wy)], rfl, (D8.put fS.1 fS.2 _).mono (by omega), hd_grow nHS (s7.trans s8) _, by rw [upd_ne neS.symm]; exact g18, by rw [List.length_append]; show us.length + 1 ≤ i + 1; omega, (up6.same s8).put g28, by rw [upd_same, ew, List.map_append, List.map_append]; rfl, ?_, ?_⟩
    · rw [ew]
      refine List.nodup_append.mpr ⟨nd, by simp [nxy], fun a ha b hb e => ?_⟩
      rw [e] at ha
      rcases List.mem_cons.mp hb with rfl | hb
      · exact nx ha
      · rw [List.mem_singleton.mp hb] at ha; exact ny ha
    · intro p hp
      rcases List.mem_append.mp hp with hp | hp
      · exact ok p hp
      · rw [List.mem_singleton.mp hp]
        exact ⟨by show 1 ≤ wx.length; omega, by show wx.length ≤ 3; omega, by show wy.length = wx.length; omega, nxy, wxl, wyl⟩
  · rintro σ G ⟨k5, k6, k7, k8, us, rs, rfl, DG, sG, g1, ul, up, g2, nd, ok⟩
    refine ⟨_, rfl, lf, us, rfl, .inl ⟨.inl (.inl g1), fun t nt => ?_⟩⟩
    have ft := DG.free nt
    have s3 := hd_new (d := d) (c := c) nt (.tup us)
    exact q t rs _ ((up.same s3).rule (hd_of upd_same ft.1 ft.2)) ⟨by have := up.1; omega, ok⟩ nd ((DG.new nt _).mono (by omega)) (sG.trans s3)
end
end K08
namespace K08
open PySem GL GZ KW KR GU KU KM KS KP
open L2 hiding isNon
open KC hiding rLenS call_lenS
def spScheme : Sp := fun vs H Q _ => ∃ (d c : Addr) (n m : Nat), vs = [.ref d, .int n] ∧ Deck H d c m ∧ m ≤ 700000000 ∧ 1 ≤ n ∧ n ≤ 8 ∧
  ∀ (p : Addr) (s : Sch) (G : Hp), SchAt (Hd d c G) p s → Ok s → Deck G d c (m + 230) → Same (Hd d c H) (Hd d c G) → Q (.ref p) G
section
variable {P : Program} {w : World} {K : PySem.W.Frag} {mg : Str → Option Value} {base : Heap}
theorem scSch : FnScope ["_law_deck_here", "_law_most", "_law_letters"] ["_law_deck_here", "_law_most"] (defScope sScheme) := ⟨rfl, rfl, rfl, by decide +kernel, rfl, by decide +kernel, by decide +kernel⟩
theorem ok_scheme {f fD fK fS fR : Addr} {fd fdD fdK fdS fdR : FuncData} (F : Fun K "_law_scheme" "_law_scheme" sScheme f fd) (W : Dfn P w K mg base "_law_draw" 1 fD fdD ["_law_deck_here", "_law_many"] spDraw)
    (KI : Dfn P w K mg base "_law_kind" 2 fK fdK ["_law_deck_here", "_law_letters", "_law_most"] spKind) (SG : Dfn P w K mg base "_law_signs" 3 fS fdS ["_law_deck_here", "_law_letters"] spSgn)
    (RL : Dfn P w K mg base "_law_rule" 4 fR fdR ["_law_deck_here", "_law_letters", "_law_most"] spRl) : FnOk P w K mg base CX0 5 f fd ["_law_deck_here", "_law_most"] spScheme := by
  refine F.ok scSch (fun vs H Q E h => ?_) (fun cdv A outer s H vs Q E hr h => ?_)
  · obtain ⟨d, c, n, m, rfl, _⟩ := h
    rfl
  obtain ⟨d, c, n, m, rfl, D, hm, n1, n8, q⟩ := h
  have hr1 : Room 1 _ := hr.mono (by decide)
  have hr2 : Room 2 _ := hr.mono (by decide)
  have hr3 : Room 3 _ := hr.mono (by decide)
  refine ⟨_, pss_cons (ps_set (i := 2) scSch.nd rfl (Or.inl rfl) (pe_op op_add pe_int (pe_call W.ok hr1 rfl W.m W.kp W.b .nil pass0 (pa_cons (pv 0) (pa_cons pe_int pa_nil)))))
    (pss_one (ps_ret (pe_tup (pa_cons (pe_call KI.ok hr2 rfl KI.m KI.kp KI.b .nil pass0 (pa_cons (pv 0) (pa_cons (pv 2) (pa_cons (pv 1) pa_nil))))
      (pa_cons (pe_call SG.ok hr3 rfl SG.m SG.kp SG.b .nil pass0 (pa_cons (pv 0) (pa_cons (pv 2) pa_nil)))
      (pa_cons (pe_call RL.ok hr rfl RL.m RL.kp RL.b .nil pass0 (pa_cons (pv 0) (pa_cons (pv 2) (pa_cons pe_int pa_nil)))) pa_nil)))))), ?_⟩
  refine ⟨_, rfl, d, c, 4, m, rfl, D, by omega, by decide, by decide, fun r G0 r0 r1 D0 s0 => ?_⟩
  obtain ⟨k, rfl⟩ : ∃ k : Nat, r = (k : Int) := ⟨r.toNat, by omega⟩
  refine ⟨_, _, rfl, rfl, ?_⟩
  refine ⟨_, rfl, _, rfl, _, rfl, d, c, 1 + k, n, m + 1, rfl, D0, by omega, by omega, by omega, n1, n8, fun a rows ends G1 MA r1' rn el rw D1 s1 => ?_⟩
  refine ⟨_, rfl, _, rfl, d, c, 1 + k, _, rfl, D1, by omega, by omega, fun bs G2 hb D2 s2 => ?_⟩
  refine ⟨_, rfl, _, rfl, d, c, 1 + k, _, rfl, D2, by omega, by omega, by omega, fun r rs G3 RA R nd D3 s3 => ?_⟩
  refine ⟨by show 3 ≤ 2 ^ 24; decide, fun p np => ?_⟩
  have fp := D3.free np
  have s4 := hd_new (d := d) (c := c) np (.tup [V.ref a, V.str (sS bs), V.ref r])
  exact q p ⟨1 + k, rows, ends, bs, rs⟩ _ ⟨a, r, hd_of upd_same fp.1 fp.2, MA.same (s2.trans (s3.trans s4)), RA.same s4⟩ ⟨by show 1 ≤ 1 + k; omega, by show 1 + k ≤ 4; omega, r1', by show rows.length ≤ 8; omega, el, rw, hb, R, nd⟩
    ((D3.new np _).mono (by omega)) (s0.trans (s1.trans (s2.trans (s3.trans s4))))
end
end K08
namespace K08
open PySem GL GZ KW KR GU KU
open L2 hiding isNon
open KC hiding rLenS call_lenS
open KX (Small pieceD pairD walkE errD okP inA ab piece_str pair_two pair_no inV_strs flat_strs op_eqL0 mt_extendT)
abbrev sLPair : Stmt := top 72
abbrev sLRErr : Stmt := top 73
def okE (l : Nat) (tk : List Str) (d : PyData) : Bool := match pieceD l d with
  | some x => !decide (x ∈ tk)
  | none => false
def lpairB (l : Nat) (tk : List Str) (d : PyData) : Bool := match pairD l d with
  | some (x, y) => !decide (x ∈ tk) && !decide (y ∈ tk)
  | none => false
def spLPair (K : PySem.W.Frag) : Sp := fun vs H Q _ => ∃ (l : Nat) (v : V) (d : PyData) (t : Addr) (tk : List Str), vs = [.int l, v, .ref t] ∧ Du K H v d ∧ Small d ∧ 1 ≤ l ∧ l ≤ 4 ∧ H t = some (.lst (tk.map V.str)) ∧ ∀ G, Same H G → Q (.bl (lpairB l tk d)) G
theorem lpair_no {l : Nat} {tk : List Str} {d : PyData} (h : pairD l d = none) : lpairB l tk d = false := by unfold lpairB; rw [h]
theorem lpair_bad {l : Nat} {tk : List Str} {ds : List PyData} {i : Nat} {e : PyData} (h : ds[i]? = some e) (b : okE l tk e = false) : lpairB l tk (.tuple ds) = false := by
  cases c : pairD l (.tuple ds) with
  | none => exact lpair_no c
  | some p =>
    obtain ⟨x, y⟩ := p
    obtain ⟨e1, p1, p2, p3, p4⟩ := pair_two c
    cases e1
    have hx : pieceD l (.str x) = some x := by show (if okP l x = true then some x else none) = _; rw [if_pos p3]
    have hy : pieceD l (.str y) = some y := by show (if okP l y = true then some y else none) = _; rw [if_pos p4]
    unfold lpairB
    rw [c]
    match i, h with
    | 0, h =>
      cases h
      unfold okE at b
      rw [hx] at b
      show (!decide (x ∈ tk) && _) = false
      rw [show (!decide (x ∈ tk)) = false from b, Bool.false_and]
    | 1, h =>
      cases h
      unfold okE at b
      rw [hy] at b
      show (_ && !decide (y ∈ tk)) = false
      rw [show (!decide (y ∈ tk)) = false from b, Bool.and_false]
theorem okE_str {l : Nat} {tk : List Str} {d : PyData} (h : okE l tk d = true) : ∃ x, d = .str x ∧ pieceD l d = some x ∧ x ∉ tk := by
  unfold okE at h
  cases c : pieceD l d with
  | none => rw [c] at h; cases h
  | some x =>
    rw [c] at h
    obtain ⟨rfl, _⟩ := piece_str c
    exact ⟨x, rfl, rfl, fun m => by simp [m] at h⟩
section
variable {P : Program} {w : World} {K : PySem.W.Frag} {mg : Str → Option Value} {base : Heap}
theorem scLPr : FnScope ["_law_letters", "_law_value", "_law_taken", "_law_one_here", "_law_letter"] ["_law_letters", "_law_value", "_law_taken"] (defScope sLPair) := ⟨rfl, rfl, rfl, by decide +kernel, rfl, by decide +kernel, by decide +kernel⟩
theorem ok_lpair {f : Addr} {fd : FuncData} (F : Fun K "_law_is_pair" "_law_is_pair" sLPair f fd) (T : Txt mg) :
    FnOk P w K mg base CX0 1 f fd ["_law_letters", "_law_value", "_law_taken"] (spLPair K) := by
  refine F.ok scLPr (fun vs H Q E h => ?_) (fun cdv A outer s H vs Q E hr h => ?_)
  · obtain ⟨l, v, d, t, tk, rfl, _⟩ := h
    rfl
  obtain ⟨l, v, d, tA, tk, rfl, hd, hw, l1, l4, ht, q⟩ := h
  refine ⟨_, pss_cons (ps_if (PW.pt (pw_or (pt_not (pt_val (pe_callB call_isi (by rfl) T.isi (by decide +kernel) (pa_cons (pv 1) (pa_cons (pe_bltn (v := .ty "tuple") (by rfl) T.c.tuple (by decide +kernel) rfl) pa_nil)))))
      (pw_or1 (pt_cmpR op_ne (pe_callB call_len_seq (by rfl) T.c.len PySem.boot_len (pa_cons (pv 1) pa_nil)) pe_int (nomark _))))) (pss_one (ps_ret pe_bl)) pss_nil)
    (pss_cons (ps_for PassesOwn.never rfl (pi_tup (pv 1)) (pg_name (i := 3) scLPr.nd rfl (Or.inl rfl))
      (pss_cons (ps_if (PW.pt (pw_or (pt_not (pt_val (pe_callB call_isi (by rfl) T.isi (by decide +kernel) (pa_cons (pv 3) (pa_cons (pe_bltn (v := .ty "str") (by rfl) T.str (by decide +kernel) rfl) pa_nil)))))
          (pw_or (pt_not (pt_chain op_le op_le pe_int (pe_callB call_len_str (by rfl) T.c.len PySem.boot_len (pa_cons (pv 3) pa_nil)) pe_int)) (pw_or1 (pt_cmpR op_in_seq (pv 3) (pv 2) (by rfl)))))) (pss_one (ps_ret pe_bl)) pss_nil)
      (pss_one (ps_if (pt_cmpR (op_ne0 hr.units0) (pe_lc (own := [("_law_letter", 4)]) (g := gName 4) rfl scLPr.nd (pi_str (pv 3))
          (blkOk_by (own := [("_law_letter", 4)]) (N := ["_law_letters", "_law_value", "_law_taken", "_law_one_here", "_law_letter"]) (sc := defScope sLPair) (by decide +kernel)) (fun _ _ _ _ _ => pg_name (i := 4) scLPr.nd rfl (Or.inl rfl))
          (fun _ _ _ _ _ => pts_one (pt_cmpR op_notInS (pv 4) (pe_slice sl_str pe_str po_none (po_some (pv 0))) (by rfl))) (fun _ _ _ _ _ => pv 4)) (pe_lst pa_nil) (nomark _)) (pss_one (ps_ret pe_bl)) pss_nil))))
    (pss_one (ps_ret (pe_and (pe_cmpR op_eq (pe_callB call_len_str (by rfl) T.c.len PySem.boot_len (pa_cons (pe_ix ix_tup (pv 1) pe_int (fun _ _ => rfl)) pa_nil)) (pe_callB call_len_str (by rfl) T.c.len PySem.boot_len (pa_cons (pe_ix ix_tup (pv 1) pe_int (fun _ _ => rfl)) pa_nil)) (nomark _))
      (pe_one (pe_cmpR op_ne (pe_ix ix_tup (pv 1) pe_int (fun _ _ => rfl)) (pe_ix ix_tup (pv 1) pe_int (fun _ _ => rfl)) (nomark _))))))), ?_⟩
  obtain ⟨ti, i1, i2⟩ := is_tuple hd
  refine ⟨_, rfl, _, _, ti, _, _, rfl, .ty _, i1, i2, _, rfl, ?_⟩
  cases hd with
  | @tup a vs ds ha hda =>
    have hl : vs.length = ds.length := hda.length
    refine iteF ⟨_, rfl, _, _, rfl, .inr (.inl (.inl ha)), rfl, _, rfl, ite2 (fun c => ?_) (fun c => ?_)⟩
    · have c' : ds.length ≠ 2 := by
        intro z
        rw [hl, z] at c
        exact absurd c (by decide)
      have k2 := q H (Same.refl H)
      rw [lpair_no (pair_no c')] at k2
      exact k2
    have c' : ds.length = 2 := by
      refine Classical.byContradiction fun z => c ?_
      have z' : ¬ (V.int ((vs.length : Nat) : Int) = V.int 2) := fun y => z (by have := V.int.inj y; omega)
      rw [decide_eq_false z']
      rfl
    refine ⟨_, rfl, a, rfl, ⟨_, .inl (.inl ha)⟩, for_tup (K := K) (a := a) (xs := vs) (fun i σ G => ∃ k3 : Option V, σ = [some (.int l), some (.ref a), some (.ref tA), k3, none] ∧ Same H G ∧ (ds.take i).all (okE l tk) = true)
      ⟨none, rfl, Same.refl H, rfl⟩ (fun i σ G _ h => let ⟨_, _, s, _⟩ := h; .inl (.inl (s _ _ ha))) ?_ ?_⟩
    · rintro i x σ G hx ⟨k3, rfl, sG, all1⟩
      obtain ⟨d1, hd1, hD1⟩ := hda.get hx
      have hD := hD1.same sG
      have wd1 : Small d1 := hw.mem (List.mem_of_getElem? hd1)
      have no : okE l tk d1 = false → ∀ G2, Same H G2 → Q (.bl false) G2 := fun h G2 s2 => by
        have k2 := q G2 s2
        rw [lpair_bad hd1 h] at k2
        exact k2
      obtain ⟨t2, j1, j2⟩ := is_str hD
      refine ⟨_, rfl, _, _, t2, _, _, rfl, .ty _, j1, j2, _, rfl, ?_⟩
      cases hD with
      | str x =>
        have xl := wd1.str
        have eP : pieceD l (.str x) = if okP l x = true then some x else none := rfl
        have noP : okP l x = false → okE l tk (.str x) = false := fun h => by unfold okE; rw [eP, h]; rfl
        refine iteF ⟨_, rfl, _, rfl, by show x.length ≤ 2 ^ 24; omega, _, _, rfl, rfl, _, rfl, ite2 (fun c => ?_) (fun c => ?_)⟩
        · have c1 : 1 ≤ x.length := by have := of_decide_eq_true c; omega
          refine ⟨_, _, rfl, rfl, _, rfl, ite2 (fun c2 => ?_) (fun c2 => ?_)⟩
          · have c3 : ¬ x.length ≤ 3 := by
              intro z
              have z' : ((x.length : Nat) : Int) ≤ 3 := by omega
              rw [decide_eq_true z'] at c2
              cases c2
            exact no (noP (by unfold okP; rw [decide_eq_false c3, Bool.and_false, Bool.false_and])) G sG
          · have c3 : x.length ≤ 3 := by
              refine Classical.byContradiction fun z => c2 ?_
              have z' : ¬ ((x.length : Nat) : Int) ≤ 3 := by omega
              rw [decide_eq_false z']
              rfl
            refine ⟨_, rfl, _, rfl, tA, _, rfl, .inl (.inl (.inl (sG _ _ ht))), rfl, flat_strs tk, _, rfl, ite2 (fun c4 => ?_) (fun c4 => ?_)⟩
            · have m : x ∈ tk := by
                have c4' : inV (.str x) (tk.map V.str) = true := c4
                rw [inV_strs] at c4'
                exact of_decide_eq_true c4'
              refine no ?_ G sG
              unfold okE
              rw [eP]
              split
              · rename_i y e
                split at e
                · cases e; simp [m]
                · cases e
              · rfl
            · have m : x ∉ tk := fun m => by
                apply c4
                show inV (.str x) (tk.map V.str) = true
                rw [inV_strs]
                exact decide_eq_true m
              refine ⟨_, rfl, _, rfl, fun L nL => lc_it (walk_str (z := x)) (fun j G2 => Same G G2 ∧ ∃ acc : List V, G2 L = some (.lst acc) ∧ acc.length ≤ j ∧ acc.isEmpty = (x.cps.toList.take j).all (inA l))
                ⟨same_new nL _, [], upd_same, Nat.le_refl _, rfl⟩ (fun _ _ _ _ => True.intro) ?_ ?_⟩
              · rintro j y G2 G3 hj ⟨s2, acc, a1, a2, a3⟩ ⟨rfl, cc, hc, rfl⟩
                have tk1 : (x.cps.toList.take (j + 1)).all (inA l) = (acc.isEmpty && inA l cc) := by
                  rw [cps_take hc, List.all_append, ← a3]
                  simp
                refine ⟨rfl, _, rfl, _, rfl, l, rfl, _, rfl, by decide, cc, _, rfl, rfl, _, rfl, ?_⟩
                rw [cut_abcd l l1 l4]
                have eA : inA l cc = decide (cc ∈ (wS (List.range l)).cps.toList) := rfl
                rw [← eA]
                cases c7 : inA l cc with
                | true =>
                  refine ⟨s2, acc, a1, by omega, ?_⟩
                  rw [tk1, c7, Bool.and_true]
                | false =>
                  refine ⟨_, rfl, acc, a1, by show acc.length < 2 ^ 24; have : x.cps.size = x.length := rfl; omega, same_grow nL s2 _, acc ++ [V.str ⟨#[cc]⟩], upd_same, by rw [List.length_append]; show acc.length + 1 ≤ j + 1; omega, ?_⟩
                  rw [tk1, c7]
                  simp
              · rintro G2 ⟨s2, acc, a1, a2, a3⟩
                have e1 : x.cps.toList.take x.cps.size = x.cps.toList := by rw [← Array.length_toList, List.take_length]
                rw [e1] at a3
                refine ⟨by show 0 ≤ 2 ^ 24; decide, fun eA nE => ?_⟩
                have sE := s2.trans (same_new nE (.lst []))
                refine ⟨L, eA, acc, rfl, rfl, same_new nE _ _ _ a1, upd_same, _, rfl, ?_⟩
                have eO : okP l x = acc.isEmpty := by
                  unfold okP
                  rw [decide_eq_true c1, decide_eq_true c3, Bool.true_and, Bool.true_and, a3]
                cases c8 : acc.isEmpty with
                | false => exact no (noP (by rw [eO, c8])) _ (sG.trans sE)
                | true =>
                  refine ⟨_, rfl, sG.trans sE, ?_⟩
                  rw [List.take_add_one, hd1, List.all_append, all1]
                  have : okE l tk (.str x) = true := by
                    unfold okE
                    rw [eP, eO, c8]
                    simp [m]
                  simp [this]
        · have c1 : ¬ 1 ≤ x.length := by
            intro z
            exact c (decide_eq_true (by omega))
          exact ⟨_, rfl, no (noP (by unfold okP; rw [decide_eq_false c1, Bool.false_and, Bool.false_and])) G sG⟩
      | int i => exact iteT (no rfl G sG)
      | bl b => exact iteT (no rfl G sG)
      | non => exact iteT (no rfl G sG)
      | tup _ _ => exact iteT (no rfl G sG)
      | lst _ _ => exact iteT (no rfl G sG)
      | dic _ => exact iteT (no rfl G sG)
    · rintro σ G ⟨k3, rfl, sG, all1⟩
      rw [hl, List.take_length] at all1
      match ds, vs, c', hda, ha, hw, q, all1, hl with
      | [d1, d2], _, _, .cons (v := v1) h1 (.cons (v := v2) h2 .nil), ha, hw, q, all1, hl =>
      simp only [List.all_cons, List.all_nil, Bool.and_true, Bool.and_eq_true] at all1
      obtain ⟨x, rfl, p1, n1⟩ := okE_str all1.1
      obtain ⟨y, rfl, p2, n2⟩ := okE_str all1.2
      have xl := (hw.mem (d := .str x) (by simp)).str
      have yl := (hw.mem (d := .str y) (by simp)).str
      cases h1
      cases h2
      have e0 : pairD l (.tuple [.str x, .str y]) = if x.length = y.length ∧ x ≠ y then some (x, y) else none := by
        show (match pieceD l (.str x), pieceD l (.str y) with | some x, some y => if x.length = y.length ∧ x ≠ y then some (x, y) else none | _, _ => none) = _
        rw [p1, p2]
      have ha1 := sG _ _ ha
      have k2 := q G sG
      refine ⟨_, rfl, a, _, 0, _, rfl, rfl, .inl (.inl ha1), rfl, x, rfl, by show x.length ≤ 2 ^ 24; omega, _, rfl, a, _, 1, _, rfl, rfl, .inl (.inl ha1), rfl, y, rfl, by show y.length ≤ 2 ^ 24; omega, rfl, _, rfl, ite2 (fun c3 => ?_) (fun c3 => ?_)⟩
      · have c4 : x.length = y.length := by
          have := V.int.inj (of_decide_eq_true c3)
          omega
        refine ⟨_, rfl, a, _, 0, _, rfl, rfl, .inl (.inl ha1), rfl, _, rfl, a, _, 1, _, rfl, rfl, .inl (.inl ha1), rfl, rfl, ?_⟩
        by_cases c5 : x = y
        · rw [if_neg (fun z => z.2 c5)] at e0
          rw [lpair_no e0] at k2
          have e : (!decide (V.str x = V.str y)) = false := by rw [c5]; simp
          rw [e]
          exact k2
        · rw [if_pos ⟨c4, c5⟩] at e0
          have e1 : lpairB l tk (.tuple [.str x, .str y]) = true := by
            unfold lpairB
            rw [e0]
            simp [n1, n2]
          rw [e1] at k2
          have e : (!decide (V.str x = V.str y)) = true := by simp [c5]
          rw [e]
          exact k2
      · have c4 : x.length ≠ y.length := fun z => c3 (decide_eq_true (by rw [z]))
        rw [if_neg (fun z => c4 z.1)] at e0
        rw [lpair_no e0] at k2
        exact k2
  | int i => exact iteT (q H (Same.refl H))
  | bl b => exact iteT (q H (Same.refl H))
  | non => exact iteT (q H (Same.refl H))
  | str x => exact iteT (q H (Same.refl H))
  | lst _ _ => exact iteT (q H (Same.refl H))
  | dic _ => exact iteT (q H (Same.refl H))
end
end K08
namespace K08
open PySem GL GZ KW KR GU KU
open L2 hiding isNon
open KC hiding rLenS call_lenS
open KX (Small pieceD pairD walkE errD okP inA ab piece_str pair_two pair_no inV_strs flat_strs op_eqL0 mt_extendT)
section
variable {P : Program} {w : World} {K : PySem.W.Frag} {mg : Str → Option Value} {base : Heap}
theorem scLRE : FnScope ["_law_letters", "_law_value", "_law_taken", "_law_index_here"] ["_law_letters", "_law_value"] (defScope sLRErr) := ⟨rfl, rfl, rfl, by decide +kernel, rfl, by decide +kernel, by decide +kernel⟩
theorem ok_lrerr {f fP : Addr} {fd fdP : FuncData} (F : Fun K "_law_rule_error" "_law_rule_error" sLRErr f fd) (T : Txt mg) (D : Dfn P w K mg base "_law_is_pair" 1 fP fdP ["_law_letters", "_law_value", "_law_taken"] (spLPair K)) :
    FnOk P w K mg base CX0 2 f fd ["_law_letters", "_law_value"] (spRErr K) := by
  refine F.ok scLRE (fun vs H Q E h => ?_) (fun cdv A outer s H vs Q E hr h => ?_)
  · obtain ⟨l, v, d, rfl, _⟩ := h
    rfl
  obtain ⟨l, v, d, rfl, hd, hw, l1, l4, q⟩ := h
  refine ⟨_, pss_cons (ps_if (pt_not (pt_val (pe_callB call_isi (by rfl) T.isi (by decide +kernel) (pa_cons (pv 1) (pa_cons (pe_bltn (v := .ty "tuple") (by rfl) T.c.tuple (by decide +kernel) rfl) pa_nil))))) (pss_one (ps_ret (pe_tup (pa_cons pe_non (pa_cons pe_str pa_nil))))) pss_nil)
    (pss_cons (ps_set (i := 2) scLRE.nd rfl (Or.inl rfl) (pe_lst pa_nil))
    (pss_cons (ps_for PassesOwn.never rfl (pi_range1 rfl T.c.range (pa_cons (pe_callB call_len_seq (by rfl) T.c.len PySem.boot_len (pa_cons (pv 1) pa_nil)) pa_nil)) (pg_name (i := 3) scLRE.nd rfl (Or.inl rfl))
      (pss_cons (ps_if (pt_not (pt_val (pe_call D.ok hr rfl D.m D.kp D.b .nil pass0 (pa_cons (pv 0) (pa_cons (pe_ix ix_tup (pv 1) (pv 3) (fun _ _ => rfl)) (pa_cons (pv 2) pa_nil)))))) (pss_one (ps_ret (pe_tup (pa_cons (pv 3) (pa_cons pe_str pa_nil))))) pss_nil)
      (pss_one (ps_expr (pe_bm PySem.F.plainAttrs_list PySem.F.slot_list_extend PySem.F.type_list_extend mt_extendT (pv 2) (pa_cons (pe_ix ix_tup (pv 1) (pv 3) (fun _ _ => rfl)) pa_nil))))))
    (pss_one (ps_ret (pe_ifExp (pt_cmpR op_gt (pe_callB call_len_seq (by rfl) T.c.len PySem.boot_len (pa_cons (pv 1) pa_nil)) pe_int (nomark _)) (pe_tup (pa_cons pe_non (pa_cons pe_str pa_nil))) pe_non))))), ?_⟩
  obtain ⟨ti, i1, i2⟩ := is_tuple hd
  refine ⟨_, rfl, _, _, ti, _, _, rfl, .ty _, i1, i2, _, rfl, ?_⟩
  have no : (∀ ds, d ≠ .tuple ds) → ∀ t, H t = none → Q (.ref t) (upd H t (.tup [.non, .str "rule"])) := fun hn t nt => by
    have e : errD l d = .tuple [.none, .str "rule"] := by
      cases d with
      | tuple ds => exact absurd rfl (hn ds)
      | _ => rfl
    exact q _ _ (same_new nt _) (by rw [e]; exact .tup upd_same (.cons .non (.cons (.str _) .nil)))
  cases hd with
  | @tup a vs ds ha hda =>
    have hl : vs.length = ds.length := hda.length
    have dl := hw.len
    refine iteF ⟨by show 0 ≤ 2 ^ 24; decide, fun lf nlf => ?_⟩
    have s0 := same_new nlf (.lst [])
    have g0 : upd H lf (.lst []) lf = some (.lst (([] : List Str).map V.str)) := upd_same
    generalize upd H lf (.lst []) = H1 at s0 g0
    refine ⟨_, rfl, a, vs, rfl, .inr (.inl (.inl (s0 _ _ ha))), vs.length, rfl, by omega, by omega, for_range (lo := 0) (n := vs.length) (fun i σ G => ∃ (k3 : Option V) (tk : List Str), σ = [some (.int l), some (.ref a), some (.ref lf), k3] ∧ Same H G ∧ G lf = some (.lst (tk.map V.str)) ∧ tk.length ≤ 2 * i ∧
        KX.walkE l 0 [] ds = KX.walkE l i tk (ds.drop i)) ⟨none, [], rfl, s0, g0, Nat.zero_le _, rfl⟩ ?_ ?_⟩
    · rintro i σ G hi ⟨k3, tk, rfl, sG, gl, tl, we⟩
      obtain ⟨x, e1⟩ : ∃ x, vs[i]? = some x := ⟨_, List.getElem?_eq_getElem hi⟩
      obtain ⟨d1, hd1, hD1⟩ := hda.get e1
      have dr : ds.drop i = d1 :: ds.drop (i + 1) := by
        have il : i < ds.length := by omega
        rw [List.drop_eq_getElem_cons il]
        rw [List.getElem?_eq_getElem il] at hd1
        cases hd1
        rfl
      have wd1 : Small d1 := hw.mem (List.mem_of_getElem? hd1)
      have out : KX.walkE l 0 [] ds = some i → ∀ G2, Same H G2 → ∀ t, G2 t = none → Q (.ref t) (upd G2 t (.tup [.int (0 + (i : Nat)), .str "pair"])) := fun h G2 s2 t nt => by
        have e : errD l (.tuple ds) = .tuple [.int (i : Nat), .str "pair"] := by
          unfold errD
          simp only [h]
        rw [Int.zero_add]
        exact q _ _ (s2.trans (same_new nt _)) (by rw [e]; exact .tup upd_same (.cons (.int _) (.cons (.str _) .nil)))
      rw [dr] at we
      refine ⟨_, rfl, _, rfl, _, rfl, a, vs, _, x, rfl, rfl, .inl (.inl (sG _ _ ha)), by rw [Int.zero_add]; exact atI_nat e1, _, rfl, l, x, d1, lf, tk, rfl, hD1.same sG, wd1, l1, l4, gl, fun G1 s1 => ⟨_, rfl, ?_⟩⟩
      have sG1 := sG.trans s1
      cases c1 : pairD l d1 with
      | none =>
        have w1 : KX.walkE l 0 [] ds = some i := by
          rw [we]; unfold KX.walkE; rw [c1]
        rw [lpair_no c1]
        exact iteT ⟨_, rfl, by show 2 ≤ 2 ^ 24; decide, fun t nt => out w1 G1 sG1 t nt⟩
      | some ab =>
        obtain ⟨a1, b1⟩ := ab
        obtain ⟨rfl, p1, p2, p3, p4⟩ := pair_two c1
        have w1 : KX.walkE l 0 [] ds = if a1 ∈ tk ∨ b1 ∈ tk then some i else KX.walkE l (i + 1) (tk ++ [a1, b1]) (ds.drop (i + 1)) := by
          rw [we]
          show (match pairD l (.tuple [.str a1, .str b1]) with | none => some i | some (x, y) => if x ∈ tk ∨ y ∈ tk then some i else KX.walkE l (i + 1) (tk ++ [x, y]) (ds.drop (i + 1))) = _
          rw [c1]
        have eB : lpairB l tk (.tuple [.str a1, .str b1]) = (!decide (a1 ∈ tk) && !decide (b1 ∈ tk)) := by
          unfold lpairB
          rw [c1]
        rw [eB]
        by_cases m : a1 ∈ tk ∨ b1 ∈ tk
        · have e : (!decide (a1 ∈ tk) && !decide (b1 ∈ tk)) = false := by
            rcases m with m | m
            · rw [decide_eq_true m]; rfl
            · rw [decide_eq_true m, Bool.not_true, Bool.and_false]
          rw [e]
          rw [if_pos m] at w1
          exact iteT ⟨_, rfl, by show 2 ≤ 2 ^ 24; decide, fun t nt => out w1 G1 sG1 t nt⟩
        · have e : (!decide (a1 ∈ tk) && !decide (b1 ∈ tk)) = true := by
            rw [decide_eq_false fun z => m (.inl z), decide_eq_false fun z => m (.inr z)]
            rfl
          rw [e]
          rw [if_neg m] at w1
          cases hD1 with
          | @tup t us _ ht hu =>
          cases hu with
          | cons u1 u2 =>
          cases u2 with
          | cons u2 u3 =>
          cases u3
          cases u1
          cases u2
          have gl1 := s1 _ _ gl
          have ht1 := sG1 _ _ ht
          refine iteF ⟨_, rfl, .inl ⟨rfl, _, .inl (.inl gl1)⟩, _, rfl, _, rfl, a, vs, _, _, rfl, rfl, .inl (.inl (sG1 _ _ ha)), by rw [Int.zero_add]; exact atI_nat e1, lf, t, _, _, rfl, rfl, gl1, ht1, by rw [List.length_map]; show _ + 2 ≤ 2 ^ 24; omega, ?_⟩
          exact ⟨_, tk ++ [a1, b1], rfl, same_grow nlf sG1 _, by rw [upd_same, List.map_append]; rfl, by rw [List.length_append]; show _ + 2 ≤ _; omega, w1⟩
    · rintro σ G ⟨k3, tk, rfl, sG, gl, tl, we⟩
      rw [hl, List.drop_length] at we
      have we' : KX.walkE l 0 [] ds = none := we
      refine ⟨_, rfl, a, vs, rfl, .inr (.inl (.inl (sG _ _ ha))), _, _, rfl, rfl, _, rfl, ite2 (fun c => ?_) (fun c => ?_)⟩
      · have c6 : 6 < ds.length := by have := of_decide_eq_true c; omega
        refine ⟨by show 2 ≤ 2 ^ 24; decide, fun t nt => ?_⟩
        have e : errD l (.tuple ds) = .tuple [.none, .str "many"] := by
          unfold errD
          simp only [we', if_pos c6]
        exact q _ _ (sG.trans (same_new nt _)) (by rw [e]; exact .tup upd_same (.cons .non (.cons (.str _) .nil)))
      · have c6 : ¬ 6 < ds.length := fun z => c (decide_eq_true (by omega))
        have e : errD l (.tuple ds) = .none := by
          unfold errD
          simp only [we', if_neg c6]
        exact q _ _ sG (by rw [e]; exact .non)
  | int i => exact iteT ⟨by show 2 ≤ 2 ^ 24; decide, fun t nt => no (fun _ z => nomatch z) t nt⟩
  | bl b => exact iteT ⟨by show 2 ≤ 2 ^ 24; decide, fun t nt => no (fun _ z => nomatch z) t nt⟩
  | non => exact iteT ⟨by show 2 ≤ 2 ^ 24; decide, fun t nt => no (fun _ z => nomatch z) t nt⟩
  | str x => exact iteT ⟨by show 2 ≤ 2 ^ 24; decide, fun t nt => no (fun _ z => nomatch z) t nt⟩
  | lst _ _ => exact iteT ⟨by show 2 ≤ 2 ^ 24; decide, fun t nt => no (fun _ z => nomatch z) t nt⟩
  | dic _ => exact iteT ⟨by show 2 ≤ 2 ^ 24; decide, fun t nt => no (fun _ z => nomatch z) t nt⟩
end
end K08
/-! Lists of texts, compared. No row. -/
namespace GL
open PySem PySem.Spec PyProof.Rows L2 KC
theorem vals_strs : ∀ {xs : List Str} {us : List Value}, Vals (xs.map V.str) us → us.length = xs.length ∧ ∀ (j : Nat) (x : Str), xs[j]? = some x → ∃ t, us[j]? = some (.str x t)
  | [], _, .nil => ⟨rfl, fun j x h => by cases h⟩
  | y :: ys, _, .cons r rr => by
    obtain ⟨t, rfl⟩ := r
    obtain ⟨a, b⟩ := vals_strs (xs := ys) rr
    refine ⟨by simp [a], fun j x h => ?_⟩
    cases j with
    | zero => cases h; exact ⟨t, rfl⟩
    | succ j => exact b j x (by simpa using h)
theorem all_eq : ∀ {xs ys : List Str}, xs.length = ys.length → ((List.range xs.length).all fun j => xs[j]? == ys[j]?) = decide (xs = ys) := by
  intro xs ys hl
  by_cases e : xs = ys
  · rw [decide_eq_true e, List.all_eq_true]
    intro j _
    rw [e]
    exact beq_self_eq_true _
  · rw [decide_eq_false e, Bool.eq_false_iff]
    intro h
    rw [List.all_eq_true] at h
    refine e (List.ext_getElem hl fun j h1 h2 => ?_)
    have := eq_of_beq (h j (List.mem_range.mpr h1))
    rw [List.getElem?_eq_getElem h1, List.getElem?_eq_getElem h2] at this
    exact Option.some.inj this
def rEqLs : R2 := fun x y H Q => ∃ (a b : Addr) (xs ys : List Str), x = .ref a ∧ y = .ref b ∧ H a = some (.lst (xs.map V.str)) ∧ H b = some (.lst (ys.map V.str)) ∧ Q (.bl (decide (xs = ys))) H
def rNeLs : R2 := fun x y H Q => ∃ (a b : Addr) (xs ys : List Str), x = .ref a ∧ y = .ref b ∧ H a = some (.lst (xs.map V.str)) ∧ H b = some (.lst (ys.map V.str)) ∧ Q (.bl (!decide (xs = ys))) H
theorem strs_eqs {X : Cx} {pins : List (Addr × Obj)} {σ : L2.St} {H : Hp} {s : Shared} (I : Inv X pins σ H s) {a b : Addr} {xs ys : List Str} (ha : H a = some (.lst (xs.map V.str))) (hb : H b = some (.lst (ys.map V.str))) :
    ∃ us ws : Array Value, s.heap.IsList a us ∧ s.heap.IsList b ws ∧ us.size = xs.length ∧ ws.size = ys.length ∧ (∀ j (h1 : j < us.size) (h2 : j < ws.size) (A : Around), SeqAt.EqAt A s us[j] ws[j] (xs[j]? == ys[j]?)) := by
  obtain ⟨its, n, rv, e⟩ := lst_at I ha
  obtain ⟨its2, n2, rv2, e2⟩ := lst_at I hb
  obtain ⟨l1, p1⟩ := vals_strs rv
  obtain ⟨l2, p2⟩ := vals_strs rv2
  refine ⟨its.toArray, its2.toArray, ⟨_, e, rfl, n, rfl⟩, ⟨_, e2, rfl, n2, rfl⟩, by rw [List.size_toArray, l1], by rw [List.size_toArray, l2], fun j h1 h2 A => ?_⟩
  rw [List.size_toArray] at h1 h2
  obtain ⟨x, hx⟩ : ∃ x, xs[j]? = some x := ⟨_, List.getElem?_eq_getElem (by omega)⟩
  obtain ⟨y, hy⟩ : ∃ y, ys[j]? = some y := ⟨_, List.getElem?_eq_getElem (by omega)⟩
  obtain ⟨t, ht⟩ := p1 j x hx
  obtain ⟨u, hu⟩ := p2 j y hy
  have e3 : its.toArray[j] = .str x t := by
    rw [List.getElem_toArray]
    rw [List.getElem?_eq_getElem h1] at ht
    exact Option.some.inj ht
  have e4 : its2.toArray[j] = .str y u := by
    rw [List.getElem_toArray]
    rw [List.getElem?_eq_getElem h2] at hu
    exact Option.some.inj hu
  rw [e3, e4, hx, hy]
  have e5 : ((some x : Option Str) == some y) = (x == y) := rfl
  rw [e5]
  exact SeqAt.EqAt.str_str x t y u
theorem op_eqLs {X : Cx} (hu : X.A.units < cLine) : OpR X (compareOp .Eq) rEqLs := by
  intro pins s σ H x y v u Q I rx ry h
  obtain ⟨a, b, xs, ys, rfl, rfl, ha, hb, q⟩ := h
  cases rx
  cases ry
  obtain ⟨us, ws, m1, m2, z1, z2, k⟩ := strs_eqs I ha hb
  by_cases e : us.size = ws.size
  · have hl : xs.length = ys.length := by omega
    refine SeqAt.RcAt.lists (e := fun j => xs[j]? == ys[j]?) m1 m2 e hu (fun j h1 h2 => k j h1 h2 _) X.prog X.w _ _ ⟨.bl (decide (xs = ys)), H, I, ?_, q⟩
    rw [z1, all_eq hl]
    rfl
  · have ne : xs ≠ ys := fun z => e (by rw [z1, z2, z])
    rw [decide_eq_false ne] at q
    exact SeqAt.RcAt.lists_lengths m1 m2 (by simpa using e) hu X.prog X.w _ _ ⟨.bl false, H, I, rfl, q⟩
theorem op_neLs {X : Cx} (hu : X.A.units < cLine) : OpR X (compareOp .NotEq) rNeLs := by
  intro pins s σ H x y v u Q I rx ry h
  obtain ⟨a, b, xs, ys, rfl, rfl, ha, hb, q⟩ := h
  cases rx
  cases ry
  obtain ⟨us, ws, m1, m2, z1, z2, k⟩ := strs_eqs I ha hb
  by_cases e : us.size = ws.size
  · have hl : xs.length = ys.length := by omega
    refine SeqAt.RcNeAt.lists (e := fun j => xs[j]? == ys[j]?) m1 m2 e hu (fun j h1 h2 => k j h1 h2 _) X.prog X.w _ _ ⟨.bl (!decide (xs = ys)), H, I, ?_, q⟩
    rw [z1, all_eq hl]
    rfl
  · have ne : xs ≠ ys := fun z => e (by rw [z1, z2, z])
    rw [decide_eq_false ne] at q
    exact SeqAt.RcNeAt.lists_lengths m1 m2 (by simpa using e) hu X.prog X.w _ _ ⟨.bl true, H, I, rfl, q⟩
end GL
/-! A list against an empty one; a cut in a run of statements; ways that meet. No row. -/
namespace GL
open PySem PySem.Spec PyProof.Rows L2 KC
def rEql0 : R2 := fun x y H Q => ∃ (a b : Addr) (xs : List V), x = .ref a ∧ y = .ref b ∧ H a = some (.lst xs) ∧ H b = some (.lst []) ∧ Q (.bl xs.isEmpty) H
theorem op_eql0 {X : Cx} (hu : X.A.units < cLine) : OpR X (compareOp .Eq) rEql0 := by
  intro pins s σ H x y v u Q I rx ry h
  obtain ⟨a, b, xs, rfl, rfl, ha, hb, q⟩ := h
  cases rx
  cases ry
  obtain ⟨its, n, rv, e⟩ := lst_at I ha
  obtain ⟨its2, n2, rv2, e2⟩ := lst_at I hb
  cases rv2
  have l1 : s.heap.IsList a its.toArray := ⟨_, e, rfl, n, rfl⟩
  have l2 : s.heap.IsList b ([] : List Value).toArray := ⟨_, e2, rfl, n2, rfl⟩
  cases its with
  | nil =>
    cases rv
    exact SeqAt.RcAt.lists (e := fun _ => true) l1 l2 rfl hu (fun j h1 _ => absurd h1 (Nat.not_lt_zero j)) X.prog X.w _ _ ⟨.bl true, H, I, rfl, q⟩
  | cons y ys =>
    cases rv with
    | cons r1 r2 => exact SeqAt.RcAt.lists_lengths l1 l2 rfl hu X.prog X.w _ _ ⟨.bl false, H, I, rfl, q⟩
theorem seq_cut {t u : TS} {D : Ends} {σ : L2.St} {H : Hp} (P : L2.St → Hp → Prop) (h1 : ∀ Q : L2.St → Hp → Prop, (∀ σ H, P σ H → Q σ H) → t { D with nx := Q } σ H) (h2 : ∀ σ H, P σ H → u D σ H) : tSeq t u D σ H := h1 _ h2
theorem meet {P : V → Hp → Prop} {Good : V → Hp → Prop} {C : Prop} (h : (∀ v G, Good v G → P v G) → C) (r : ∀ v G, Good v G → P v G) : C := h r
theorem cut_last (xs : List V) : cutV xs (some (-1)) none = xs.drop (xs.length - 1) := by
  unfold cutV
  have e2 : HT.sIx xs.length xs.length none = xs.length := rfl
  have e1 : HT.sIx xs.length 0 (some (-1)) = xs.length - 1 := by
    unfold HT.sIx
    simp
    omega
  rw [e1, e2]
  exact List.take_of_length_le (by rw [List.length_drop]; omega)
theorem cut_init (xs : List V) : cutV xs none (some (-1)) = xs.dropLast := by
  unfold cutV
  have e1 : HT.sIx xs.length 0 none = 0 := rfl
  have e2 : HT.sIx xs.length xs.length (some (-1)) = xs.length - 1 := by
    unfold HT.sIx
    simp
    omega
  rw [e1, e2, List.drop_zero, List.dropLast_eq_take]
  rfl
theorem last_is (ws : List Str) (x : Str) : decide (ws.drop (ws.length - 1) = [x]) = decide (ws.getLast? = some x) := by
  have : (ws.drop (ws.length - 1) = [x]) ↔ (ws.getLast? = some x) := by
    cases h : ws.getLast? with
    | none =>
      rw [List.getLast?_eq_none_iff.mp h]
      simp
    | some y =>
      obtain ⟨us, rfl⟩ := List.getLast?_eq_some_iff.mp h
      have : (us ++ [y]).drop ((us ++ [y]).length - 1) = [y] := by simp
      rw [this]
      simp
  exact decide_eq_decide.mpr this
end GL
namespace K08
open PySem GL GZ KW KR GU KU KM KS KP GX
open L2 hiding isNon
open KC hiding rLenS call_lenS
open KX (Small)
def bf (ka sg ru dn rl gn : V) : List (Str × V) := [("kind", ka), ("signs", sg), ("rule", ru), ("done", dn), ("rules", rl), ("gone", gn), ("busy", .bl false)]
section
variable {ka sg ru dn rl gn x : V}
theorem lk_kind : (bf ka sg ru dn rl gn).lookup ("kind" : Str) = some ka := rfl
theorem lk_signs : (bf ka sg ru dn rl gn).lookup ("signs" : Str) = some sg := rfl
theorem lk_rule : (bf ka sg ru dn rl gn).lookup ("rule" : Str) = some ru := rfl
theorem lk_done : (bf ka sg ru dn rl gn).lookup ("done" : Str) = some dn := rfl
theorem lk_rules : (bf ka sg ru dn rl gn).lookup ("rules" : Str) = some rl := rfl
theorem lk_gone : (bf ka sg ru dn rl gn).lookup ("gone" : Str) = some gn := rfl
theorem lk_busy : (bf ka sg ru dn rl gn).lookup ("busy" : Str) = some (.bl false) := rfl
theorem lk_stand : (bf ka sg ru dn rl gn).lookup ("stand" : Str) = none := rfl
theorem pt_rule : putF "rule" x (bf ka sg ru dn rl gn) = bf ka sg x dn rl gn := rfl
theorem pt_gone : putF "gone" x (bf ka sg ru dn rl gn) = bf ka sg ru dn rl x := rfl
theorem pt_all : putF "busy" (.bl false) (putF "gone" gn (putF "rules" rl (putF "done" dn (putF "rule" ru (putF "signs" sg (putF "kind" ka [])))))) = bf ka sg ru dn rl gn := rfl
end
end K08
namespace K08
open PySem GL GZ KW KR GU KU KM KS KP GX
open L2 hiding isNon
open KC hiding rLenS call_lenS
def cDef (s : Stmt) : Stmt := match s with
  | .ClassDef _ _ _ b _ _ _ _ _ _ _ => b.getD 0 s
  | s => s
abbrev vE : List Value := [.type "ValueError", .type "Exception", .type "BaseException", .type "object"]
abbrev lE : List Value := [.type "LookupError", .type "Exception", .type "BaseException", .type "object"]
def spInit (C : Addr) (f : Str) : Sp := fun vs H Q _ => ∃ (a : Addr) (y : V), vs = [.ref a, y] ∧ H a = some (exo a C none) ∧ ∀ dx, H dx = none → dx ≠ a → Q .non (upd (upd H dx (exd dx [(f, y)])) a (exo a C (some dx)))
section
variable {P : Program} {w : World} {K : PySem.W.Frag} {mg : Str → Option Value} {base : Heap}
abbrev sI0 : Stmt := cDef (top 9)
theorem scI0 : FnScope ["self", "error"] ["self", "error"] (defScope sI0) := ⟨rfl, rfl, rfl, by decide +kernel, rfl, by decide +kernel, by decide +kernel⟩
theorem ok_init0 {f C : Addr} {fd : FuncData} (F : Fun K "__init__" "BadScheme.__init__" sI0 f fd) (T : XC K C vE "ValueError.__new__") (no : PySem.W.findIn K (.ref C) "error" = some none) : FnOk P w K mg base CX0 1 f fd ["self", "error"] (spInit C "error") := by
  refine F.ok scI0 (fun vs H Q E h => ?_) (fun cdv A outer s H vs Q E hr h => ?_)
  · obtain ⟨a, y, rfl, _⟩ := h
    rfl
  obtain ⟨a, y, rfl, e, q⟩ := h
  exact ⟨_, pss_one (ps_ostG (newId := "ValueError.__new__") PySem.F.store_ValueError (pv 0) (pv 1)), _, rfl, _, rfl, a, C, rfl, T, no, e, q⟩
abbrev sI1 : Stmt := cDef (top 10)
theorem scI1 : FnScope ["self", "error"] ["self", "error"] (defScope sI1) := ⟨rfl, rfl, rfl, by decide +kernel, rfl, by decide +kernel, by decide +kernel⟩
theorem ok_init1 {f C : Addr} {fd : FuncData} (F : Fun K "__init__" "BadRule.__init__" sI1 f fd) (T : XC K C vE "ValueError.__new__") (no : PySem.W.findIn K (.ref C) "error" = some none) : FnOk P w K mg base CX0 1 f fd ["self", "error"] (spInit C "error") := by
  refine F.ok scI1 (fun vs H Q E h => ?_) (fun cdv A outer s H vs Q E hr h => ?_)
  · obtain ⟨a, y, rfl, _⟩ := h
    rfl
  obtain ⟨a, y, rfl, e, q⟩ := h
  exact ⟨_, pss_one (ps_ostG (newId := "ValueError.__new__") PySem.F.store_ValueError (pv 0) (pv 1)), _, rfl, _, rfl, a, C, rfl, T, no, e, q⟩
abbrev sI2 : Stmt := cDef (top 16)
theorem scI2 : FnScope ["self", "index"] ["self", "index"] (defScope sI2) := ⟨rfl, rfl, rfl, by decide +kernel, rfl, by decide +kernel, by decide +kernel⟩
theorem ok_init2 {f C : Addr} {fd : FuncData} (F : Fun K "__init__" "NoPair.__init__" sI2 f fd) (T : XC K C lE "LookupError.__new__") (no : PySem.W.findIn K (.ref C) "index" = some none) : FnOk P w K mg base CX0 1 f fd ["self", "index"] (spInit C "index") := by
  refine F.ok scI2 (fun vs H Q E h => ?_) (fun cdv A outer s H vs Q E hr h => ?_)
  · obtain ⟨a, y, rfl, _⟩ := h
    rfl
  obtain ⟨a, y, rfl, e, q⟩ := h
  exact ⟨_, pss_one (ps_ostG (newId := "LookupError.__new__") PySem.F.store_LookupError (pv 0) (pv 1)), _, rfl, _, rfl, a, C, rfl, T, no, e, q⟩
end
/-- an own exception class with its __init__, as it stands -/
structure Exn (P : Program) (w : World) (K : PySem.W.Frag) (mg : Str → Option Value) (base : Heap) (name f : Str) (C : Addr) : Prop where
  m : mg name = some (.ref C)
  ox : OexC K C
  ini : ∃ (fI : Addr) (fd : FuncData), PySem.W.findIn K (.ref C) "__init__" = some (some (.ref fI)) ∧ PySem.W.typeIn K (.ref fI) = some (.type "function") ∧ FnOk P w K mg base CX0 1 fI fd ["self", f] (spInit C f) ∧ L2.Binds K fd ["self", f] []
theorem mk_reads {C : Addr} {f : Str} {v : V} {H : Hp} {W : Value → Option Addr → Hp → Prop} (h : ∀ d G, Same H G → G d = some (.xd [(f, v)]) → W (.ref C) (some d) G) :
    [v].length ≤ 1000 ∧ ∀ a, H a = none → spInit C f (.ref a :: ([v] ++ [])) (upd H a (exo a C none))
      (fun v H2 => v = .non ∧ ∃ (d : Addr) (fs : List (Str × V)), H2 a = some (exo a C (some d)) ∧ H2 d = some (exd d fs) ∧ H d = none ∧ W (.ref C) (some d) (upd (del H2 a) d (.xd fs))) (fun _ _ _ => False) := by
  refine ⟨by show 1 ≤ 1000; decide, fun a na => ⟨a, v, rfl, upd_same, fun dx nd nda => ⟨rfl, dx, [(f, v)], upd_same, ?_, ?_, ?_⟩⟩⟩
  · rw [upd_ne nda, upd_same]
  · rw [upd_ne nda] at nd
    exact nd
  · have nd' : H dx = none := by rw [upd_ne nda] at nd; exact nd
    refine h dx _ (fun b u q => ?_) upd_same
    have b1 : b ≠ dx := fun e => by rw [e, nd'] at q; cases q
    have b2 : b ≠ a := fun e => by rw [e, na] at q; cases q
    rw [upd_ne b1, del_ne b2, upd_ne b2, upd_ne b1, upd_ne b2]
    exact q
theorem ps_rse {X : Cx} {name f : Str} {C : Addr} {e : Expr} {te : TE} {W : WX} {p pos pos' : Pos} (T : Exn X.prog X.w X.K X.mg X.base name f C) (hr : Room 2 X.A) (hc : X.calm = true) (tk : Takes X W) (hg : Gl X name) (he : PE X e te) (hdb : (name == ("__debug__" : Str)) = false := by decide)
    (hs : starEach [e] X.env = (false, eval e X.env) :: starEach [] X.env := by rfl) (hpl : (backTo pos (starEach [] X.env)).any (·.1) = false := by rfl) :
    PS X (.Raise (some (.Call (.Name name p) [e] [] pos)) none pos') (fun _ σ H => tMkO C (spInit C f) [] (tCons te tNil) σ H fun cls d H' => W cls d σ H') := by
  obtain ⟨fI, fd, i1, i2, F, hb⟩ := T.ini
  exact ps_raise hc tk (pmk_oex T.ox i1 i2 F hr hb .nil pass0 hg T.m (pa_cons he pa_nil hs) hdb hs hpl)
/-- the same over LookupError -/
structure ExG (P : Program) (w : World) (K : PySem.W.Frag) (mg : Str → Option Value) (base : Heap) (name f : Str) (C : Addr) : Prop where
  m : mg name = some (.ref C)
  xc : XC K C lE "LookupError.__new__"
  exC : PySem.W.subIn K (.ref C) (.type "BaseException") = some true
  tyC : PySem.W.typeIn K (.ref C) = some (.type "type")
  ini : ∃ (fI : Addr) (fd : FuncData), PySem.W.findIn K (.ref C) "__init__" = some (some (.ref fI)) ∧ PySem.W.typeIn K (.ref fI) = some (.type "function") ∧ FnOk P w K mg base CX0 1 fI fd ["self", f] (spInit C f) ∧ L2.Binds K fd ["self", f] []
theorem ps_rsg {X : Cx} {name f : Str} {C : Addr} {e : Expr} {te : TE} {W : WX} {p pos pos' : Pos} (T : ExG X.prog X.w X.K X.mg X.base name f C) (hr : Room 2 X.A) (hc : X.calm = true) (tk : Takes X W) (hg : Gl X name) (he : PE X e te) (hdb : (name == ("__debug__" : Str)) = false := by decide)
    (hs : starEach [e] X.env = (false, eval e X.env) :: starEach [] X.env := by rfl) (hpl : (backTo pos (starEach [] X.env)).any (·.1) = false := by rfl) :
    PS X (.Raise (some (.Call (.Name name p) [e] [] pos)) none pos') (fun _ σ H => tMkO C (spInit C f) [] (tCons te tNil) σ H fun cls d H' => W cls d σ H') := by
  obtain ⟨fI, fd, i1, i2, F, hb⟩ := T.ini
  exact ps_raise hc tk (pmk_G T.xc T.exC T.tyC PySem.F.excBase_LookupError i1 i2 F hr hb .nil pass0 hg T.m (pa_cons he pa_nil hs) hdb hs hpl)
end K08
/-! Rules that are edited, plainly. No row. -/
namespace KD
open PySem L2 GL KC KR GU KU
open KX (pieceD pairD walkE errD okP pair_two piece_str)
def pS (p : Str × Str) : PyData := .tuple [.str p.1, .str p.2]
def wds : List (Str × Str) → List Str
  | [] => []
  | p :: r => p.1 :: p.2 :: wds r
theorem wds_app : ∀ a b : List (Str × Str), wds (a ++ b) = wds a ++ wds b
  | [], _ => rfl
  | p :: a, b => by simp [wds, wds_app a b]
theorem wds_sub {a b : List (Str × Str)} (h : a.Sublist b) : (wds a).Sublist (wds b) := by
  induction h with
  | slnil => exact .slnil
  | cons p _ ih => exact .cons _ (.cons _ ih)
  | cons_cons p _ ih => exact .cons_cons _ (.cons_cons _ ih)
theorem wds_perm {a b : List (Str × Str)} (h : a.Perm b) : (wds a).Perm (wds b) := by
  induction h with
  | nil => exact .nil
  | cons p _ ih => exact .cons _ (.cons _ ih)
  | swap p q r =>
    have : (p.1 :: p.2 :: ([] : List Str)) ++ (q.1 :: q.2 :: ([] : List Str)) ++ wds r = wds (p :: q :: r) := rfl
    have h1 : ((q.1 :: q.2 :: ([] : List Str)) ++ (p.1 :: p.2 :: ([] : List Str)) ++ wds r).Perm ((p.1 :: p.2 :: ([] : List Str)) ++ (q.1 :: q.2 :: ([] : List Str)) ++ wds r) := (List.perm_append_comm).append_right _
    exact h1
  | trans _ _ i j => exact i.trans j
structure OkQ (l : Nat) (p : Str × Str) : Prop where
  len : p.1.length = p.2.length
  ne : p.1 ≠ p.2
  o1 : okP l p.1 = true
  o2 : okP l p.2 = true
theorem OkQ.pair {l : Nat} {p : Str × Str} (h : OkQ l p) : pairD l (pS p) = some p := by
  unfold pS pairD
  have e1 : pieceD l (.str p.1) = some p.1 := by show (if okP l p.1 then some p.1 else none) = _; rw [if_pos h.o1]
  have e2 : pieceD l (.str p.2) = some p.2 := by show (if okP l p.2 then some p.2 else none) = _; rw [if_pos h.o2]
  dsimp only
  rw [e1, e2]
  dsimp only
  rw [if_pos ⟨h.len, h.ne⟩]
theorem OkQ.sw {l : Nat} {p : Str × Str} (h : OkQ l p) : OkQ l (p.2, p.1) := ⟨h.len.symm, h.ne.symm, h.o2, h.o1⟩
theorem okQ_of {l : Nat} {d : PyData} {p : Str × Str} (h : pairD l d = some p) : d = pS p ∧ OkQ l p := by
  obtain ⟨x, y⟩ := p
  obtain ⟨e, a, b, c, d⟩ := pair_two h
  exact ⟨e, a, b, c, d⟩
theorem walk_facts {l : Nat} : ∀ (ds : List PyData) (i : Nat) (tk : List Str), walkE l i tk ds = none → ∃ ps : List (Str × Str), ds = ps.map pS ∧ (∀ p ∈ ps, OkQ l p) ∧ (wds ps).Nodup ∧ ∀ w ∈ wds ps, w ∉ tk
  | [], _, _, _ => ⟨[], rfl, (fun p h => by cases h), List.nodup_nil, (fun w h => by cases h)⟩
  | d :: ds, i, tk, h => by
    unfold walkE at h
    cases e : pairD l d with
    | none => rw [e] at h; cases h
    | some p =>
      obtain ⟨x, y⟩ := p
      rw [e] at h
      dsimp only at h
      obtain ⟨rfl, ok⟩ := okQ_of e
      by_cases c : x ∈ tk ∨ y ∈ tk
      · rw [if_pos c] at h; cases h
      · rw [if_neg c] at h
        obtain ⟨ps, rfl, h1, h2, h3⟩ := walk_facts ds _ _ h
        refine ⟨(x, y) :: ps, rfl, fun p hp => ?_, ?_, fun w hw => ?_⟩
        · rcases List.mem_cons.mp hp with rfl | hp
          · exact ok
          · exact h1 p hp
        · show (x :: y :: wds ps).Nodup
          rw [List.nodup_cons, List.nodup_cons]
          refine ⟨fun m => ?_, fun m => ?_, h2⟩
          · rcases List.mem_cons.mp m with m | m
            · exact ok.ne m
            · exact h3 x m (by simp)
          · exact h3 y m (by simp)
        · rcases List.mem_cons.mp hw with rfl | hw
          · exact fun m => c (.inl m)
          rcases List.mem_cons.mp hw with rfl | hw
          · exact fun m => c (.inr m)
          · exact fun m => h3 w hw (List.mem_append_left _ m)
theorem walk_of {l : Nat} : ∀ (ps : List (Str × Str)) (i : Nat) (tk : List Str), (∀ p ∈ ps, OkQ l p) → (wds ps).Nodup → (∀ w ∈ wds ps, w ∉ tk) → walkE l i tk (ps.map pS) = none
  | [], _, _, _, _, _ => rfl
  | p :: ps, i, tk, h1, h2, h3 => by
    have e := (h1 p List.mem_cons_self).pair
    have nd : (p.1 :: p.2 :: wds ps).Nodup := h2
    rw [List.nodup_cons, List.nodup_cons] at nd
    show walkE l i tk (pS p :: ps.map pS) = none
    unfold walkE
    rw [e]
    dsimp only
    rw [if_neg fun c => c.elim (h3 p.1 (List.mem_cons_self)) (h3 p.2 (List.mem_cons_of_mem _ List.mem_cons_self))]
    refine walk_of ps _ _ (fun q hq => h1 q (List.mem_cons_of_mem _ hq)) nd.2.2 fun w hw m => ?_
    rcases List.mem_append.mp m with m | m
    · exact h3 w (List.mem_cons_of_mem _ (List.mem_cons_of_mem _ hw)) m
    · simp only [List.mem_cons, List.not_mem_nil, or_false] at m
      rcases m with rfl | rfl
      · exact nd.1 (List.mem_cons_of_mem _ hw)
      · exact nd.2.1 hw
structure Vl (l : Nat) (ps : List (Str × Str)) : Prop where
  ok : ∀ p ∈ ps, OkQ l p
  nd : (wds ps).Nodup
  len : ps.length ≤ 6
theorem vl_of {l : Nat} {ds : List PyData} (h : errD l (.tuple ds) = .none) : ∃ ps, ds = ps.map pS ∧ Vl l ps := by
  unfold errD at h
  dsimp only at h
  cases e : walkE l 0 [] ds with
  | some i => rw [e] at h; cases h
  | none =>
    rw [e] at h
    dsimp only at h
    obtain ⟨ps, rfl, h1, h2, _⟩ := walk_facts ds 0 [] e
    refine ⟨ps, rfl, h1, h2, ?_⟩
    refine Nat.le_of_not_lt fun c => ?_
    rw [if_pos (by rw [List.length_map]; exact c)] at h
    cases h
theorem Vl.err {l : Nat} {ps : List (Str × Str)} (h : Vl l ps) : errD l (.tuple (ps.map pS)) = .none := by
  unfold errD
  dsimp only
  rw [walk_of ps 0 [] h.ok h.nd fun w h m => by cases m]
  dsimp only
  rw [if_neg (by rw [List.length_map]; have := h.len; omega)]
theorem Vl.sub {l : Nat} {a b : List (Str × Str)} (h : Vl l b) (s : a.Sublist b) : Vl l a := ⟨fun p m => h.ok p (s.subset m), (wds_sub s).nodup h.nd, Nat.le_trans s.length_le h.len⟩
theorem Vl.perm {l : Nat} {a b : List (Str × Str)} (h : Vl l b) (s : a.Perm b) : Vl l a := ⟨fun p m => h.ok p (s.subset m), (wds_perm s).nodup_iff.mpr h.nd, Nat.le_trans (Nat.le_of_eq s.length_eq) h.len⟩
/-! ### edits -/
def ixD : PyData → Nat
  | .int k => k.toNat
  | _ => 0
def swD : PyData → PyData
  | .tuple [a, b] => .tuple [b, a]
  | d => d
def after (ds : List PyData) (w : Str) (a p : PyData) : Option (List PyData) :=
  if w = "add" then some (ds ++ [a]) else if inR 0 ((ds.length : Int) - 1) a = true then
    (if w = "change" then some (ds.take (ixD a) ++ [p] ++ ds.drop (ixD a + 1))
    else if w = "turn" then some (ds.take (ixD a) ++ [swD (ds.getD (ixD a) .none)] ++ ds.drop (ixD a + 1))
    else if w = "lift" then some (if ixD a = 0 then ds else ds.take (ixD a - 1) ++ [ds.getD (ixD a) .none, ds.getD (ixD a - 1) .none] ++ ds.drop (ixD a + 1))
    else some (ds.take (ixD a) ++ ds.drop (ixD a + 1)))
  else none
theorem inR_lt {n : Nat} {a : PyData} (h : inR 0 ((n : Int) - 1) a = true) : ∃ i : Nat, a = .int (i : Int) ∧ i < n ∧ ixD a = i := by
  cases a with
  | int k =>
    simp only [inR, Bool.and_eq_true, decide_eq_true_eq] at h
    refine ⟨k.toNat, congrArg PyData.int (by omega), by omega, rfl⟩
  | _ => cases h
theorem take_ge {α : Type} {ps : List α} {i : Nat} {p : α} (h : ps[i]? = some p) : ps = ps.take i ++ p :: ps.drop (i + 1) := by
  have il := (List.getElem?_eq_some_iff.mp h).1
  have e : ps.drop i = p :: ps.drop (i + 1) := by
    rw [List.drop_eq_getElem_cons il]
    rw [List.getElem?_eq_getElem il] at h
    cases h
    rfl
  rw [← e, List.take_append_drop]
/-- drop, lift, turn of a rule are rules -/
theorem Vl.after {l : Nat} {ps : List (Str × Str)} (h : Vl l ps) {w : Str} {a p : PyData} {ds' : List PyData} (wa : w ≠ "add") (wc : w ≠ "change") (e : KD.after (ps.map pS) w a p = some ds') : ∃ ps', ds' = ps'.map pS ∧ Vl l ps' := by
  unfold KD.after at e
  rw [if_neg wa] at e
  by_cases c : inR 0 (((ps.map pS).length : Int) - 1) a = true
  · rw [if_pos c, if_neg wc] at e
    rw [List.length_map] at c
    obtain ⟨i, rfl, il, hi⟩ := inR_lt c
    rw [hi] at e
    obtain ⟨q, hq⟩ : ∃ q, ps[i]? = some q := ⟨_, List.getElem?_eq_getElem il⟩
    have e1 := take_ge hq
    have eq1 : (ps.map pS).getD i .none = pS q := by rw [List.getD_eq_getElem?_getD, List.getElem?_map, hq]; rfl
    by_cases ct : w = "turn"
    · rw [if_pos ct, eq1] at e
      cases e
      refine ⟨ps.take i ++ (q.2, q.1) :: ps.drop (i + 1), ?_, ?_⟩
      · simp [pS, swD, List.map_take, List.map_drop]
      · have h' := h
        rw [e1] at h'
        refine ⟨fun r hr => ?_, ?_, ?_⟩
        · rcases List.mem_append.mp hr with hr | hr
          · exact h'.ok r (List.mem_append_left _ hr)
          rcases List.mem_cons.mp hr with rfl | hr
          · exact (h.ok q (List.mem_of_getElem? hq)).sw
          · exact h'.ok r (List.mem_append_right _ (List.mem_cons_of_mem _ hr))
        · have nd := h'.nd
          rw [wds_app] at nd ⊢
          have pm : (wds (ps.take i) ++ wds ((q.2, q.1) :: ps.drop (i + 1))).Perm (wds (ps.take i) ++ wds (q :: ps.drop (i + 1))) := (List.Perm.swap _ _ _).append_left _
          exact pm.nodup_iff.mpr nd
        · have hl := h'.len
          simp only [List.length_append, List.length_cons] at hl ⊢
          exact hl
    rw [if_neg ct] at e
    by_cases cl : w = "lift"
    · rw [if_pos cl] at e
      by_cases c0 : i = 0
      · rw [if_pos c0] at e
        cases e
        exact ⟨ps, rfl, h⟩
      · rw [if_neg c0, eq1] at e
        obtain ⟨j, rfl⟩ : ∃ j, i = j + 1 := ⟨i - 1, by omega⟩
        rw [Nat.add_sub_cancel] at e
        obtain ⟨r, hr⟩ : ∃ r, ps[j]? = some r := ⟨_, List.getElem?_eq_getElem (by omega)⟩
        have eq2 : (ps.map pS).getD j .none = pS r := by rw [List.getD_eq_getElem?_getD, List.getElem?_map, hr]; rfl
        rw [eq2] at e
        cases e
        refine ⟨ps.take j ++ q :: r :: ps.drop (j + 1 + 1), by simp [List.map_take, List.map_drop], h.perm ?_⟩
        have e2 : ps = ps.take j ++ r :: q :: ps.drop (j + 1 + 1) := by
          have a := take_ge hr
          have b : ps.drop (j + 1) = q :: ps.drop (j + 1 + 1) := by
            have il2 := (List.getElem?_eq_some_iff.mp hq).1
            rw [List.drop_eq_getElem_cons il2]
            rw [List.getElem?_eq_getElem il2] at hq
            cases hq
            rfl
          rw [b] at a
          exact a
        have pm : (ps.take j ++ q :: r :: ps.drop (j + 1 + 1)).Perm (ps.take j ++ r :: q :: ps.drop (j + 1 + 1)) := (List.Perm.swap _ _ _).append_left _
        rw [← e2] at pm
        exact pm
    · rw [if_neg cl] at e
      cases e
      refine ⟨ps.take i ++ ps.drop (i + 1), by simp [List.map_take, List.map_drop], h.sub ?_⟩
      have s : (ps.take i ++ ps.drop (i + 1)).Sublist (ps.take i ++ q :: ps.drop (i + 1)) := (List.Sublist.refl _).append (List.sublist_cons_self _ _)
      rw [← e1] at s
      exact s
  · rw [if_neg c] at e
    cases e
end KD
/-! A heap without some of its objects. No row. -/
namespace KH
open PySem L2 GL KC
def Hz (S : List Addr) (H : Hp) : Hp := fun b => if b ∈ S then none else H b
variable {S : List Addr} {H G : Hp} {b p : Addr} {o : HO} {K : PySem.W.Frag}
theorem hz_some (h : Hz S H b = some o) : H b = some o ∧ b ∉ S := by
  unfold Hz at h
  by_cases c : b ∈ S
  · rw [if_pos c] at h; cases h
  · rw [if_neg c] at h; exact ⟨h, c⟩
theorem hz_of (h : H b = some o) (c : b ∉ S) : Hz S H b = some o := by
  unfold Hz
  rw [if_neg c]; exact h
theorem hz_sub : Same (Hz S H) H := fun _ _ h => (hz_some h).1
theorem hz_same (h : Same H G) : Same (Hz S H) (Hz S G) := fun b u q => hz_of (h _ _ (hz_some q).1) (hz_some q).2
theorem hz_put (m : p ∈ S) (o : HO) : Hz S (upd H p o) = Hz S H := by
  funext b
  unfold Hz
  by_cases c : b ∈ S
  · rw [if_pos c, if_pos c]
  · rw [if_neg c, if_neg c, upd_ne fun e : b = p => c (by rw [e]; exact m)]
/-- they stand, and are no tuples -/
def Liv (S : List Addr) (H : Hp) : Prop := ∀ b ∈ S, ∃ o, H b = some o ∧ ∀ xs, o ≠ .tup xs
theorem Liv.same (h : Liv S H) (s : Same H G) : Liv S G := fun b m => let ⟨o, a, c⟩ := h b m; ⟨o, s _ _ a, c⟩
theorem Liv.fresh (h : Liv S H) (n : H p = none) : p ∉ S := fun m => by
  obtain ⟨o, a, _⟩ := h p m
  rw [n] at a; cases a
theorem Liv.tup {xs : List V} (h : Liv S H) (s : Same H G) (e : G b = some (.tup xs)) : Hz S G b = some (.tup xs) := hz_of e fun m => by
  obtain ⟨o, a, c⟩ := h b m
  have := s _ _ a
  rw [e] at this
  cases this
  exact c xs rfl
theorem Liv.new (h : Liv S H) (n : H p = none) (o : HO) : Hz S (upd H p o) p = some o := hz_of upd_same (h.fresh n)
/-! ### slices of tuples -/
theorem cut_to (xs : List V) (i : Nat) : cutV xs none (some (i : Int)) = xs.take i := by
  unfold cutV
  have e1 : HT.sIx xs.length 0 none = 0 := rfl
  rw [e1, HT.sIx_nat, List.drop_zero, Nat.sub_zero]
  by_cases c : i ≤ xs.length
  · rw [Nat.min_eq_left c]
  · rw [Nat.min_eq_right (by omega), List.take_length, List.take_of_length_le (by omega)]
theorem cut_at (xs : List V) (i : Nat) : cutV xs (some (i : Int)) none = xs.drop i := by
  unfold cutV
  have e2 : HT.sIx xs.length xs.length none = xs.length := rfl
  rw [e2, HT.sIx_nat]
  by_cases c : i ≤ xs.length
  · rw [Nat.min_eq_left c]
    exact List.take_of_length_le (by rw [List.length_drop]; omega)
  · rw [Nat.min_eq_right (by omega), Nat.sub_self, List.take_zero, List.drop_of_length_le (by omega)]
/-- a slice of a tuple of data -/
theorem cut_toD {vs : List V} {ds : List PyData} (h : DtAll K H vs ds) (i : Nat) : DtAll K H (cutV vs none (some (i : Int))) (ds.take i) := by
  rw [cut_to]; exact h.take i
theorem cut_atD {vs : List V} {ds : List PyData} (h : DtAll K H vs ds) (i : Nat) : DtAll K H (cutV vs (some (i : Int)) none) (ds.drop i) := by
  rw [cut_at]; exact h.drop i
theorem dt_tup {ra : Addr} {ds : List PyData} (h : Dt K H (.ref ra) (.tuple ds)) : ∃ vs, H ra = some (.tup vs) ∧ DtAll K H vs ds := by
  cases h with
  | tup a b => exact ⟨_, a, b⟩
theorem dt_ref {v : V} {ds : List PyData} (h : Dt K H v (.tuple ds)) : ∃ (ra : Addr) (vs : List V), v = .ref ra ∧ H ra = some (.tup vs) ∧ DtAll K H vs ds := by
  cases h with
  | tup a b => exact ⟨_, _, rfl, a, b⟩
end KH
namespace KH
open PySem L2 GL KC
variable {S : List Addr} {H G H1 : Hp} {b p x : Addr} {o : HO} {K : PySem.W.Frag}
/-- all but x stands -/
def Exc (x : Addr) (H G : Hp) : Prop := ∀ b o, b ≠ x → H b = some o → G b = some o
theorem Exc.refl : Exc x H H := fun _ _ _ h => h
theorem Exc.of (s : Same H G) : Exc x H G := fun b o _ h => s b o h
theorem Exc.trans (a : Exc x H H1) (c : Exc x H1 G) : Exc x H G := fun b o n h => c b o n (a b o n h)
theorem Exc.new (a : Exc x H G) (n : G p = none) (o : HO) : Exc x H (upd G p o) := a.trans (.of (same_new n o))
theorem Exc.put (a : Exc x H G) (o : HO) : Exc x H (upd G x o) := fun b u n h => by rw [upd_ne n]; exact a b u n h
theorem Exc.free (a : Exc x H G) (hx : G x = some o) (n : G p = none) : H p = none := by
  cases e : H p with
  | none => rfl
  | some u =>
    have c : p ≠ x := fun z => by rw [z, hx] at n; cases n
    rw [a _ _ c e] at n
    cases n
theorem hz_exc (m : x ∈ S) (h : Exc x H G) : Same (Hz S H) (Hz S G) := fun b u q => hz_of (h _ _ (fun e => (hz_some q).2 (by rw [e]; exact m)) (hz_some q).1) (hz_some q).2
theorem Liv.put (h : Liv S H) (hx : ∀ xs, o ≠ .tup xs) : Liv S (upd H x o) := fun b m => by
  by_cases c : b = x
  · subst c; exact ⟨o, upd_same, hx⟩
  · obtain ⟨u, a, d⟩ := h b m
    exact ⟨u, by rw [upd_ne c]; exact a, d⟩
end KH
namespace K08
open PySem GL GZ KW KR GU KU KM KS KP GX KH
open L2 hiding isNon
open KC hiding rLenS call_lenS
open KX (Small errD)
abbrev sIdx : Stmt := top 58
abbrev sChk : Stmt := top 59
abbrev sEdd : Stmt := top 60
def spIdx (K : PySem.W.Frag) : Sp := fun vs H Q _ => ∃ (ra : Addr) (us : List V) (v : V) (d : PyData), vs = [.ref ra, v] ∧ H ra = some (.tup us) ∧ us.length ≤ 1000 ∧ Du K H v d ∧ Q (.bl (inR 0 ((us.length : Int) - 1) d)) H
def spChk (K : PySem.W.Frag) (CR : Addr) : Sp := fun vs H Q E => ∃ (l : Nat) (v : V) (d : PyData), vs = [.int l, v] ∧ Dt K H v d ∧ Small d ∧ 1 ≤ l ∧ l ≤ 4 ∧ (errD l d = .none → ∀ G, Same H G → Q v G) ∧
  (errD l d ≠ .none → ∀ e ve G, Same H G → G e = some (.xd [("error", ve)]) → Dt K G ve (errD l d) → E (.ref CR) (some e) G)
section
variable {P : Program} {w : World} {K : PySem.W.Frag} {mg : Str → Option Value} {base : Heap}
theorem scIdx : FnScope ["rule", "value"] ["rule", "value"] (defScope sIdx) := ⟨rfl, rfl, rfl, by decide +kernel, rfl, by decide +kernel, by decide +kernel⟩
theorem ok_idx {f fN : Addr} {fd fdN : FuncData} (F : Fun K "is_index" "is_index" sIdx f fd) (T : Txt mg) (D : Dfn P w K mg base "is_number" 1 fN fdN ["value", "low", "high"] (spNumber K)) : FnOk P w K mg base CX0 2 f fd ["rule", "value"] (spIdx K) := by
  refine F.ok scIdx (fun vs H Q E h => ?_) (fun cdv A outer s H vs Q E hr h => ?_)
  · obtain ⟨ra, us, v, d, rfl, _⟩ := h
    rfl
  obtain ⟨ra, us, v, d, rfl, hu, hl, hd, q⟩ := h
  refine ⟨_, pss_one (ps_ret (pe_call D.ok hr rfl D.m D.kp D.b .nil pass0 (pa_cons (pv 1) (pa_cons pe_int (pa_cons (pe_op op_sub (pe_callB call_len_seq (by rfl) T.c.len PySem.boot_len (pa_cons (pv 0) pa_nil)) pe_int) pa_nil))))), ?_⟩
  exact ⟨_, rfl, _, rfl, ra, us, rfl, .inr (.inl (.inl hu)), _, _, rfl, rfl, v, d, _, _, rfl, hd, q⟩
theorem scChk : FnScope ["letters", "rule", "error"] ["letters", "rule"] (defScope sChk) := ⟨rfl, rfl, rfl, by decide +kernel, rfl, by decide +kernel, by decide +kernel⟩
theorem ok_chk {f fR CR : Addr} {fd fdR : FuncData} (F : Fun K "checked" "checked" sChk f fd) (XR : Exn P w K mg base "BadRule" "error" CR) (D : Dfn P w K mg base "rule_error" 3 fR fdR ["letters", "value"] (spRErr K)) :
    FnOk P w K mg base (L2.CX P w) 4 f fd ["letters", "rule"] (spChk K CR) := by
  refine F.okX scChk (fun vs H Q E h => ?_) (fun cdv A outer s H vs Q E hr h => ?_)
  · obtain ⟨l, v, d, rfl, _⟩ := h
    rfl
  obtain ⟨l, v, d, rfl, hd, hs, l1, l4, qo, qe⟩ := h
  have hr2 : Room 2 _ := hr.mono (by decide)
  refine ⟨_, pss_cons (ps_set (i := 2) scChk.nd rfl (Or.inl rfl) (pe_call D.ok hr rfl D.m D.kp D.b .nil pass0 (pa_cons (pv 0) (pa_cons (pv 1) pa_nil))))
    (pss_cons (ps_if (pt_cmpR op_notN (pv 2) pe_non (nomark _)) (pss_one (ps_rse XR hr2 rfl (takes_of rfl rfl rfl rfl) rfl (pv 2))) pss_nil)
    (pss_one (ps_ret (pv 1)))), ?_⟩
  refine ⟨_, rfl, _, rfl, l, v, d, rfl, toDu hd, hs, l1, l4, fun v' G s1 hv' => ?_⟩
  refine ⟨_, rfl, rfl, _, rfl, ite2 (fun c => ?_) (fun c => ?_)⟩
  · have nv : v' ≠ .non := fun z => by rw [z] at c; exact absurd c (by simp)
    have ne : errD l d ≠ .none := fun z => by rw [z] at hv'; cases hv'; exact nv rfl
    exact ⟨_, rfl, mk_reads fun e G3 s3 g => qe ne e v' G3 (s1.trans s3) g (hv'.same s3)⟩
  · have v0 : v' = .non := by
      refine Classical.byContradiction fun z => c ?_
      rw [decide_eq_false z]; rfl
    have e0 : errD l d = .none := by
      rw [v0] at hv'
      generalize errD l d = dd at hv'
      cases hv'
      rfl
    exact ⟨_, rfl, qo e0 G s1⟩
end
end K08
namespace K08
open PySem GL GZ KW KR GU KU KM KS KP GX KH KD
open L2 hiding isNon
open KC hiding rLenS call_lenS
open KX (Small errD)
abbrev NEd : List Str := ["letters", "rule", "edit", "name", "at", "ahead", "behind", "one", "other"]
/-- the weight of what an edit may put into a rule -/
def isEd (w : Str) : Prop := w = "add" ∨ w = "drop" ∨ w = "change" ∨ w = "lift" ∨ w = "turn"
def spEdd (K : PySem.W.Frag) (CR CN : Addr) : Sp := fun vs H Q E => ∃ (S : List Addr) (l : Nat) (ra te : Addr) (ps : List (Str × Str)) (w : Str) (va : V) (a : PyData) (pv : List V) (p : PyData), vs = [.int l, .ref ra, .ref te] ∧ Liv S H ∧ 1 ≤ l ∧ l ≤ 4 ∧ Vl l ps ∧
  Dt K (Hz S H) (.ref ra) (.tuple (ps.map pS)) ∧ H te = some (.tup (.str w :: va :: pv)) ∧ isEd w ∧ Dt K (Hz S H) va a ∧ pv.length ≤ 1 ∧ (w = "change" → ∃ vp, pv = [vp] ∧ Dt K (Hz S H) vp p) ∧
  (∀ ds', after (ps.map pS) w a p = some ds' → Small (.tuple ds')) ∧
  (∀ ds', after (ps.map pS) w a p = some ds' → errD l (.tuple ds') = .none → ∀ v G, Same H G → Dt K (Hz S G) v (.tuple ds') → Q v G) ∧
  (∀ ds', after (ps.map pS) w a p = some ds' → errD l (.tuple ds') ≠ .none → ∀ e ve G, Same H G → G e = some (.xd [("error", ve)]) → Dt K G ve (errD l (.tuple ds')) → E (.ref CR) (some e) G) ∧
  (after (ps.map pS) w a p = none → ∀ e G, Same H G → G e = some (.xd [("index", va)]) → E (.ref CN) (some e) G)
section
variable {P : Program} {w : World} {K : PySem.W.Frag} {mg : Str → Option Value} {base : Heap}
theorem scEdd : FnScope NEd ["letters", "rule", "edit"] (defScope sEdd) := ⟨rfl, rfl, rfl, by decide +kernel, rfl, by decide +kernel, by decide +kernel⟩
theorem ok_edd {f fC fI CR CN : Addr} {fd fdC fdI : FuncData} (F : Fun K "edited" "edited" sEdd f fd) (XN : ExG P w K mg base "NoPair" "index" CN) (DC : Dfx P w K mg base "checked" 4 fC fdC ["letters", "rule"] (spChk K CR))
    (DI : Dfn P w K mg base "is_index" 2 fI fdI ["rule", "value"] (spIdx K)) : FnOk P w K mg base (L2.CX P w) 5 f fd ["letters", "rule", "edit"] (spEdd K CR CN) := by
  refine F.okX scEdd (fun vs H Q E h => ?_) (fun cdv A outer s H vs Q E hr h => ?_)
  · obtain ⟨S, l, ra, te, ps, w, va, a, pv, p, rfl, _⟩ := h
    rfl
  obtain ⟨S, l, ra, te, ps, w, va, a, pw, p, rfl, LS, l1, l4, VL, DR, ht, hw, DA, pl, hp, hsm, qo, qe, qn⟩ := h
  have hr2 : Room 2 _ := hr.mono (by decide)
  refine ⟨_, pss_cons (ps_asg (pe_slice sl_tupD (pv 2) po_none (po_some pe_int)) (pg_tup (by rfl) (pgs_cons (pg_name (i := 3) scEdd.nd rfl (Or.inl rfl)) (pgs_cons (pg_name (i := 4) scEdd.nd rfl (Or.inl rfl)) pgs_nil))))
    (pss_cons (ps_if (pt_cmpR op_eq (pv 3) pe_str (nomark _)) (pss_one (ps_ret (pe_call DC.ok hr rfl DC.m DC.kp DC.b .nil (passes_call (takes_of rfl rfl rfl rfl) (fun _ _ _ _ h => h)) (pa_cons (pv 0) (pa_cons (pe_tup (StX.pa_star (pv 1) (pa_cons (pv 4) pa_nil))) pa_nil))))) pss_nil)
    (pss_cons (ps_if (pt_not (pt_val (pe_call DI.ok hr2 rfl DI.m DI.kp DI.b .nil pass0 (pa_cons (pv 1) (pa_cons (pv 4) pa_nil))))) (pss_one (ps_rsg XN hr2 rfl (takes_of rfl rfl rfl rfl) rfl (pv 4))) pss_nil)
    (pss_cons (ps_par (i := 5) (j := 6) (by rfl) scEdd.nd rfl rfl (by decide) rfl rfl (pa_cons (pe_slice sl_tupD (pv 1) po_none (po_some (pv 4))) (pa_cons (pe_slice sl_tupD (pv 1) (po_some (pe_op op_add (pv 4) pe_int)) po_none) pa_nil)) (by rfl))
    (pss_cons (ps_if (pt_cmpR op_eq (pv 3) pe_str (nomark _)) (pss_one (ps_ret (pe_call DC.ok hr rfl DC.m DC.kp DC.b .nil (passes_call (takes_of rfl rfl rfl rfl) (fun _ _ _ _ h => h)) (pa_cons (pv 0) (pa_cons (pe_tup (StX.pa_star (pv 5) (pa_cons (pe_ix ix_tup (pv 2) pe_int (fun _ _ => rfl)) (StX.pa_star (pv 6) pa_nil)))) pa_nil))))) pss_nil)
    (pss_cons (ps_if (pt_cmpR op_eq (pv 3) pe_str (nomark _)) (pss_cons (ps_asg (pe_ix ix_tup (pv 1) (pv 4) (fun _ _ => rfl)) (pg_tup (by rfl) (pgs_cons (pg_name (i := 7) scEdd.nd rfl (Or.inl rfl)) (pgs_cons (pg_name (i := 8) scEdd.nd rfl (Or.inl rfl)) pgs_nil))))
      (pss_one (ps_ret (pe_tup (StX.pa_star (pv 5) (pa_cons (pe_tup (pa_cons (pv 8) (pa_cons (pv 7) pa_nil))) (StX.pa_star (pv 6) pa_nil))))))) pss_nil)
    (pss_cons (ps_if (PW.pt (pw_and (pt_cmpR op_eq (pv 3) pe_str (nomark _)) (pw_and1 (pt_truth (pv 5) (by intro _; rfl))))) (pss_one (ps_ret (pe_tup (StX.pa_star (pe_slice sl_tupD (pv 5) po_none (po_some (pe_un un_neg pe_int))) (pa_cons (pe_ix ix_tup (pv 1) (pv 4) (fun _ _ => rfl)) (pa_cons (pe_ix ix_tup (pv 5) (pe_un un_neg pe_int) (fun _ _ => rfl)) (StX.pa_star (pv 6) pa_nil))))))) pss_nil)
    (pss_one (ps_ret (pe_ifExp (pt_cmpR op_eq (pv 3) pe_str (nomark _)) (pv 1) (pe_tup (StX.pa_star (pv 5) (StX.pa_star (pv 6) pa_nil)))))))))))), ?_⟩
  obtain ⟨us, hru0, DU⟩ := dt_tup DR
  have hru := hz_sub _ _ hru0
  have ul : us.length = ps.length := by rw [DU.length, List.length_map]
  have u6 : us.length ≤ 6 := by rw [ul]; exact VL.len
  refine ⟨_, rfl, _, rfl, te, _, rfl, ht, fun b G1 s1 hb => ?_⟩
  rw [show cutV (V.str w :: va :: pw) none (some 2) = [.str w, va] from cut_to _ 2] at hb
  have LS1 := LS.same s1
  have DU1 := DU.same (hz_same (S := S) s1)
  have DA1 := DA.same (hz_same (S := S) s1)
  have ru0 := hz_same (S := S) s1 _ _ hru0
  have ru1 := s1 _ _ hru
  refine ⟨b, _, rfl, .inl (.inl hb), rfl, _, _, rfl, _, _, rfl, rfl, ?_⟩
  refine ⟨_, rfl, rfl, _, rfl, ite2 (fun c => ?_) (fun c => ?_)⟩
  · obtain rfl : w = "add" := V.str.inj (of_decide_eq_true c)
    have ea : KD.after (ps.map pS) "add" a p = some (ps.map pS ++ [a]) := by unfold KD.after; rw [if_pos rfl]
    refine ⟨_, rfl, _, rfl, ra, us, rfl, .inl (.inl (.inl ru1)), _, rfl, by show _ ≤ 2 ^ 24; simp only [List.length_append, List.length_cons, List.length_nil]; omega, fun tp np => ?_⟩
    have s2 := same_new np (.tup (us ++ [va]))
    have g2 : upd G1 tp (.tup (us ++ [va])) tp = some (.tup (us ++ [va])) := upd_same
    have DN : Dt K (Hz S (upd G1 tp (.tup (us ++ [va])))) (.ref tp) (.tuple (ps.map pS ++ [a])) := .tup (LS1.tup s2 g2) ((DU1.same (hz_same s2)).append (.cons (DA1.same (hz_same s2)) .nil))
    exact ⟨l, .ref tp, _, rfl, DN.same hz_sub, hsm _ ea, l1, l4, fun e0 G s3 => qo _ ea e0 _ G (s1.trans (s2.trans s3)) (DN.same (hz_same s3)), fun ne e ve G s3 g dv => qe _ ea ne e ve G (s1.trans (s2.trans s3)) g dv⟩
  have wa : w ≠ "add" := fun e => c (decide_eq_true (by rw [e]))
  have dl : (ps.map pS).length = us.length := DU.length.symm
  refine ⟨_, rfl, _, rfl, ra, us, va, a, rfl, ru1, by omega, toDu (DA1.same hz_sub), ⟨_, rfl, ?_⟩⟩
  cases hi : inR 0 ((us.length : Int) - 1) a with
  | false =>
    have ea : KD.after (ps.map pS) w a p = none := by
      unfold KD.after
      rw [if_neg wa, dl, if_neg (by rw [hi]; exact Bool.false_ne_true)]
    exact iteT ⟨_, rfl, mk_reads fun e G3 s3 g => qn ea e G3 (s1.trans s3) g⟩
  | true =>
  refine iteF ?_
  obtain ⟨i, rfl, il, hx⟩ := inR_lt hi
  obtain rfl : va = .int i := by cases DA1; rfl
  refine ⟨_, rfl, _, rfl, _, rfl, ra, us, rfl, ru1, fun b1 G2 s2 g2 => ⟨_, rfl, _, rfl, _, _, rfl, rfl, _, rfl, ra, us, rfl, s2 _ _ ru1, fun b2 G3 s3 g3 => ⟨_, _, rfl, ?_⟩⟩⟩
  rw [cut_to] at g2
  rw [show ((i : Int) + 1) = ((i + 1 : Nat) : Int) from rfl, cut_at] at g3
  have s13 := s2.trans s3
  have sH3 := s1.trans s13
  have LS3 := LS1.same s13
  have A1 := s3 _ _ g2
  have hb3 := s13 _ _ hb
  have ru3 := s13 _ _ ru1
  have DU3 := DU1.same (hz_same (S := S) s13)
  obtain ⟨x, ex⟩ : ∃ x, us[i]? = some x := ⟨_, List.getElem?_eq_getElem il⟩
  obtain ⟨q, hq⟩ : ∃ q, ps[i]? = some q := ⟨_, List.getElem?_eq_getElem (by omega)⟩
  obtain ⟨dx, hdx, Dx⟩ := DU3.get ex
  have edx : dx = pS q := by
    rw [List.getElem?_map, hq] at hdx
    cases hdx; rfl
  subst edx
  have egd : (ps.map pS).getD i .none = pS q := by rw [List.getD_eq_getElem?_getD, hdx]; rfl
  have ai : inR 0 (((ps.map pS).length : Int) - 1) (.int (i : Int)) = true := by rw [dl]; exact hi
  refine ⟨_, rfl, rfl, _, rfl, ite2 (fun c1 => ?_) (fun c1 => ?_)⟩
  · obtain rfl : w = "change" := V.str.inj (of_decide_eq_true c1)
    obtain ⟨vp, rfl, DP⟩ := hp rfl
    have ea : KD.after (ps.map pS) "change" (.int i) p = some ((ps.map pS).take i ++ [p] ++ (ps.map pS).drop (i + 1)) := by
      unfold KD.after
      rw [if_neg wa, if_pos ai, if_pos rfl]
      rfl
    refine ⟨_, rfl, _, rfl, b1, _, rfl, .inl (.inl (.inl A1)), _, rfl, te, _, 2, vp, rfl, rfl, .inl (.inl (sH3 _ _ ht)), rfl, _, rfl, b2, _, rfl, .inl (.inl (.inl g3)), ?_, fun tp np => ?_⟩
    · show _ ≤ 2 ^ 24
      simp only [List.length_append, List.length_cons, List.length_take, List.length_drop, List.length_nil]
      omega
    have eL : us.take i ++ vp :: (us.drop (i + 1) ++ []) = us.take i ++ [vp] ++ us.drop (i + 1) := by simp
    have s4 := same_new np (.tup (us.take i ++ vp :: (us.drop (i + 1) ++ [])))
    have g4 : upd G3 tp (.tup (us.take i ++ vp :: (us.drop (i + 1) ++ []))) tp = some (.tup (us.take i ++ vp :: (us.drop (i + 1) ++ []))) := upd_same
    have DN : Dt K (Hz S (upd G3 tp (.tup (us.take i ++ vp :: (us.drop (i + 1) ++ []))))) (.ref tp) (.tuple ((ps.map pS).take i ++ [p] ++ (ps.map pS).drop (i + 1))) :=
      .tup (LS3.tup s4 g4) (by
        have dd := ((((DU3.take i).append (.cons (DP.same (hz_same sH3)) .nil)).append (DU3.drop (i + 1))).same (hz_same (S := S) s4))
        rw [← eL] at dd; exact dd)
    exact ⟨l, .ref tp, _, rfl, DN.same hz_sub, hsm _ ea, l1, l4, fun e0 G s5 => qo _ ea e0 _ G (sH3.trans (s4.trans s5)) (DN.same (hz_same s5)), fun ne e ve G s5 g dv => qe _ ea ne e ve G (sH3.trans (s4.trans s5)) g dv⟩
  have wc : w ≠ "change" := fun e => c1 (decide_eq_true (by rw [e]))
  have fine : ∀ ds', KD.after (ps.map pS) w (.int i) p = some ds' → errD l (.tuple ds') = .none := fun ds' e => by
    obtain ⟨ps', rfl, V'⟩ := VL.after wa wc e
    exact V'.err
  refine ⟨_, rfl, rfl, _, rfl, ite2 (fun c2 => ?_) (fun c2 => ?_)⟩
  · obtain rfl : w = "turn" := V.str.inj (of_decide_eq_true c2)
    have ea : KD.after (ps.map pS) "turn" (.int i) p = some ((ps.map pS).take i ++ [swD (pS q)] ++ (ps.map pS).drop (i + 1)) := by
      unfold KD.after
      rw [if_neg wa, if_pos ai, if_neg wc, if_pos rfl]
      show some ((ps.map pS).take i ++ [swD ((ps.map pS).getD i .none)] ++ (ps.map pS).drop (i + 1)) = _
      rw [egd]
    obtain ⟨t, tv, rfl, et0, Dt2⟩ := dt_ref Dx
    have et := hz_sub _ _ et0
    cases Dt2 with
    | cons d1 r1 =>
    cases r1 with
    | cons d2 r2 =>
    cases r2
    cases d1
    cases d2
    refine ⟨_, rfl, _, rfl, ra, us, i, _, rfl, rfl, .inl (.inl ru3), atI_nat ex, t, _, rfl, .inl (.inl et), rfl, _, _, rfl, _, _, rfl, rfl, ?_⟩
    refine ⟨_, rfl, b1, _, rfl, .inl (.inl (.inl A1)), _, rfl, _, rfl, by show 2 ≤ 2 ^ 24; decide, fun t2 n2 => ?_⟩
    have s4 := same_new n2 (.tup [V.str q.2, V.str q.1])
    have g4 : upd G3 t2 (.tup [V.str q.2, V.str q.1]) t2 = some (.tup [V.str q.2, V.str q.1]) := upd_same
    generalize upd G3 t2 (.tup [V.str q.2, V.str q.1]) = G4 at s4 g4
    have LS4 := LS3.same s4
    refine ⟨_, rfl, b2, _, rfl, .inl (.inl (.inl (s4 _ _ g3))), ?_, fun tp np => ?_⟩
    · show _ ≤ 2 ^ 24
      simp only [List.length_append, List.length_cons, List.length_take, List.length_drop, List.length_nil]
      omega
    have eL : us.take i ++ V.ref t2 :: (us.drop (i + 1) ++ []) = us.take i ++ [V.ref t2] ++ us.drop (i + 1) := by simp
    have s5 := same_new np (.tup (us.take i ++ V.ref t2 :: (us.drop (i + 1) ++ [])))
    have g5 : upd G4 tp (.tup (us.take i ++ V.ref t2 :: (us.drop (i + 1) ++ []))) tp = some (.tup (us.take i ++ V.ref t2 :: (us.drop (i + 1) ++ []))) := upd_same
    have DU4 := DU3.same (hz_same (S := S) s4)
    have Dn : Dt K (Hz S G4) (.ref t2) (swD (pS q)) := .tup (LS3.tup s4 g4) (.cons (.str _) (.cons (.str _) .nil))
    exact qo _ ea (fine _ ea) _ _ (sH3.trans (s4.trans s5)) (.tup (LS4.tup s5 g5) (by
      have dd := ((((DU4.take i).append (.cons Dn .nil)).append (DU4.drop (i + 1))).same (hz_same (S := S) s5))
      rw [← eL] at dd; exact dd))
  have wt : w ≠ "turn" := fun e => c2 (decide_eq_true (by rw [e]))
  refine ⟨_, rfl, rfl, _, rfl, ite2 (fun c3 => ?_) (fun c3 => ?_)⟩
  · obtain rfl : w = "lift" := V.str.inj (of_decide_eq_true c3)
    refine ⟨_, rfl, !(us.take i).isEmpty, .inr (.inl ⟨us.take i, .inl (.inl A1), rfl⟩), ?_⟩
    have unf : ∀ z, KD.after (ps.map pS) "lift" (.int i) p = z ↔ some (if i = 0 then ps.map pS else (ps.map pS).take (i - 1) ++ [(ps.map pS).getD i .none, (ps.map pS).getD (i - 1) .none] ++ (ps.map pS).drop (i + 1)) = z := fun z => by
      unfold KD.after
      rw [if_neg wa, if_pos ai, if_neg wc, if_neg wt, if_pos rfl]
      exact Iff.rfl
    cases i with
    | zero =>
      have ea := (unf _).mpr rfl
      rw [if_pos rfl] at ea
      rw [List.take_zero]
      exact iteF ⟨_, rfl, rfl, _, rfl, iteT ⟨_, rfl, qo _ ea (fine _ ea) _ _ sH3 (DR.same (hz_same sH3))⟩⟩
    | succ j =>
      have ea := (unf _).mpr rfl
      rw [if_neg (Nat.succ_ne_zero j), Nat.add_sub_cancel, egd] at ea
      obtain ⟨y, ey⟩ : ∃ y, us[j]? = some y := ⟨_, List.getElem?_eq_getElem (by omega)⟩
      obtain ⟨dy, hdy, Dy⟩ := DU3.get ey
      have egy : (ps.map pS).getD j .none = dy := by rw [List.getD_eq_getElem?_getD, hdy]; rfl
      rw [egy] at ea
      have tl : (us.take (j + 1)).length = j + 1 := by rw [List.length_take]; omega
      have ne : (us.take (j + 1)).isEmpty = false := by
        cases e : us.take (j + 1) with
        | nil => rw [e] at tl; simp at tl
        | cons _ _ => rfl
      rw [ne]
      refine iteT ⟨_, rfl, _, rfl, _, rfl, b1, _, rfl, A1, fun b3 G4 s4 g4 => ?_⟩
      have e4 : cutV (us.take (j + 1)) none (some (-1)) = us.take j := by
        rw [cut_init, List.dropLast_take il]
        rfl
      have g4' : G4 b3 = some (.tup (cutV (us.take (j + 1)) none (some (-1)))) := g4
      rw [e4] at g4'
      have sH4 := sH3.trans s4
      have LS4 := LS3.same s4
      have DU4 := DU3.same (hz_same (S := S) s4)
      have ay : atI (us.take (j + 1)) (-1) = some y := by
        unfold atI ixN
        rw [tl, if_neg (by omega), if_pos (by omega)]
        show (us.take (j + 1))[((-1 : Int) + ((j + 1 : Nat) : Int)).toNat]? = _
        rw [show ((-1 : Int) + ((j + 1 : Nat) : Int)).toNat = j by omega, List.getElem?_take_of_lt (by omega)]
        exact ey
      refine ⟨b3, _, rfl, .inl (.inl (.inl g4')), _, rfl, _, rfl, ra, us, _, x, rfl, rfl, .inl (.inl (s4 _ _ ru3)), atI_nat ex, _, rfl, _, rfl, b1, _, -1, y, rfl, rfl, .inl (.inl (s4 _ _ A1)), ay, _, rfl, b2, _, rfl, .inl (.inl (.inl (s4 _ _ g3))), ?_, fun tp np => ?_⟩
      · show _ ≤ 2 ^ 24
        simp only [List.length_append, List.length_cons, List.length_take, List.length_drop, List.length_nil]
        omega
      have s5 := same_new np (.tup (us.take j ++ x :: y :: (us.drop (j + 1 + 1) ++ [])))
      have g5 : upd G4 tp (.tup (us.take j ++ x :: y :: (us.drop (j + 1 + 1) ++ []))) tp = some (.tup (us.take j ++ x :: y :: (us.drop (j + 1 + 1) ++ []))) := upd_same
      have eL : us.take j ++ x :: y :: (us.drop (j + 1 + 1) ++ []) = us.take j ++ [x, y] ++ us.drop (j + 1 + 1) := by simp
      exact qo _ ea (fine _ ea) _ _ (sH4.trans s5) (.tup (LS4.tup s5 g5) (by
        have dd := (((DU4.take j).append (.cons (Dx.same (hz_same s4)) (.cons (Dy.same (hz_same s4)) .nil))).append (DU4.drop (j + 1 + 1))).same (hz_same (S := S) s5)
        rw [← eL] at dd; exact dd))
  · have wl : w ≠ "lift" := fun e => c3 (decide_eq_true (by rw [e]))
    have ea : KD.after (ps.map pS) w (.int i) p = some ((ps.map pS).take i ++ (ps.map pS).drop (i + 1)) := by
      unfold KD.after
      rw [if_neg wa, if_pos ai, if_neg wc, if_neg wt, if_neg wl]
      rfl
    refine iteF ⟨_, rfl, rfl, _, rfl, ite2 (fun c4 => absurd c4 c3) (fun _ => ?_)⟩
    refine ⟨_, rfl, b1, _, rfl, .inl (.inl (.inl A1)), _, rfl, b2, _, rfl, .inl (.inl (.inl g3)), ?_, fun tp np => ?_⟩
    · show _ ≤ 2 ^ 24
      simp only [List.length_append, List.length_take, List.length_drop, List.length_nil]
      omega
    have s5 := same_new np (.tup (us.take i ++ (us.drop (i + 1) ++ [])))
    have g5 : upd G3 tp (.tup (us.take i ++ (us.drop (i + 1) ++ []))) tp = some (.tup (us.take i ++ (us.drop (i + 1) ++ []))) := upd_same
    have eL : us.take i ++ (us.drop (i + 1) ++ []) = us.take i ++ us.drop (i + 1) := by simp
    exact qo _ ea (fine _ ea) _ _ (sH3.trans s5) (.tup (LS3.tup s5 g5) (by
      have dd := ((DU3.take i).append (DU3.drop (i + 1))).same (hz_same (S := S) s5)
      rw [← eL] at dd; exact dd))
end
end K08
namespace K08
open PySem GL GZ KW KR GU KU KM KS KP GX KH KD
open L2 hiding isNon
open KC hiding rLenS call_lenS
open KX (Small errD)
abbrev mBi : Stmt := inClass (top 61) 1
abbrev mLn : Stmt := inClass (top 61) 2
abbrev mAp : Stmt := inClass (top 61) 10
abbrev mRd : Stmt := inClass (top 61) 11
abbrev mSt : Stmt := inClass (top 61) 12
abbrev mEd : Stmt := inClass (top 61) 13
abbrev mAd : Stmt := inClass (top 61) 14
abbrev mDr : Stmt := inClass (top 61) 15
abbrev mCh : Stmt := inClass (top 61) 16
abbrev mLi : Stmt := inClass (top 61) 17
abbrev mTu : Stmt := inClass (top 61) 18
/-- a statement that is never reached -/
theorem ps_never {X : Cx} {st : Stmt} : PS X st (fun _ _ _ => False) := ⟨fun _ _ _ _ _ _ h => h.elim⟩
/-- the class of benches -/
structure BC (K : PySem.W.Frag) (mg : Str → Option Value) (C : Addr) : Prop where
  cl : Cls K C
  nk : NoAttr K C "kind"
  ns : NoAttr K C "signs"
  nr : NoAttr K C "rule"
  nd : NoAttr K C "done"
  nl : NoAttr K C "rules"
  ng : NoAttr K C "gone"
  nb : NoAttr K C "busy"
  mc : mg "Bench" = some (.ref C)
  mx : ∃ t, mg "MAX_EDITS" = some (.int 60 t)
/-- what a bench holds: the rule, the edits that stand, the rules ahead of each, what was removed -/
structure BS where
  ps : List (Str × Str)
  es : List PyData
  rs : List (List (Str × Str))
  gs : List (PyData × List (Str × Str))
def rT (ps : List (Str × Str)) : PyData := .tuple (ps.map pS)
def gD (g : PyData × List (Str × Str)) : PyData := .tuple [g.1, rT g.2]
/-- a bench -/
structure BenchAt (K : PySem.W.Frag) (C : Addr) (S : List Addr) (H : Hp) (x : Addr) (l : Nat) (kt : List PyData) (sg : Str) (b : BS) : Prop where
  xs : x ∈ S
  vl : Vl l b.ps
  vr : ∀ q ∈ b.rs, Vl l q
  vg : ∀ g ∈ b.gs, Vl l g.2
  le : b.rs.length = b.es.length
  l1 : 1 ≤ l
  l4 : l ≤ 4
  ex : ∃ (dx ka ru dn rl gn : Addr), H x = some (.ins C dx (bf (.ref ka) (.str sg) (.ref ru) (.ref dn) (.ref rl) (.ref gn))) ∧ Dt K (Hz S H) (.ref ka) (.tuple (.int l :: kt)) ∧ Dt K (Hz S H) (.ref ru) (.tuple (b.ps.map pS)) ∧
    Dt K (Hz S H) (.ref dn) (.tuple b.es) ∧ Dt K (Hz S H) (.ref rl) (.tuple ((b.rs ++ [b.ps]).map rT)) ∧ Dt K (Hz S H) (.ref gn) (.tuple (b.gs.map gD))
theorem BenchAt.same {K : PySem.W.Frag} {C : Addr} {S : List Addr} {H G : Hp} {x : Addr} {l : Nat} {kt : List PyData} {sg : Str} {b : BS} (B : BenchAt K C S H x l kt sg b) (s : Same (Hz S H) (Hz S G)) (hx : ∀ o, H x = some o → G x = some o) : BenchAt K C S G x l kt sg b := by
  obtain ⟨dx, ka, ru, dn, rl, gn, e1, e2, e3, e4, e5, e6⟩ := B.ex
  exact ⟨B.xs, B.vl, B.vr, B.vg, B.le, B.l1, B.l4, dx, ka, ru, dn, rl, gn, hx _ e1, e2.same s, e3.same s, e4.same s, e5.same s, e6.same s⟩
theorem BenchAt.same1 {K : PySem.W.Frag} {C : Addr} {S : List Addr} {H G : Hp} {x : Addr} {l : Nat} {kt : List PyData} {sg : Str} {b : BS} (B : BenchAt K C S H x l kt sg b) (s : Same H G) : BenchAt K C S G x l kt sg b := B.same (hz_same s) fun o h => s _ _ h
def spAp : Sp := fun vs H Q _ => ∃ v r : V, vs = [v, r] ∧ Q .non H
def spRd (C : Addr) : Sp := fun vs H Q _ => ∃ (x dx dn : Addr) (ka sg ru rl gn : V) (dns : List V), vs = [.ref x] ∧ H x = some (.ins C dx (bf ka sg ru (.ref dn) rl gn)) ∧ H dn = some (.tup dns) ∧ dns.length < 60 ∧ Q .non H
def spLn (C : Addr) : Sp := fun vs H Q _ => ∃ (x dx dn : Addr) (ka sg ru rl gn : V) (dns : List V), vs = [.ref x] ∧ H x = some (.ins C dx (bf ka sg ru (.ref dn) rl gn)) ∧ H dn = some (.tup dns) ∧ dns.length < 1000 ∧ Q (.int (dns.length : Nat)) H
def spSt (K : PySem.W.Frag) (C : Addr) : Sp := fun vs H Q _ => ∃ (S : List Addr) (x rv : Addr) (et : V) (l : Nat) (kt : List PyData) (sg : Str) (b : BS) (ps' : List (Str × Str)) (ed : PyData), vs = [.ref x, et, .ref rv] ∧ Liv S H ∧ BenchAt K C S H x l kt sg b ∧ b.es.length < 60 ∧ Dt K (Hz S H) et ed ∧
  Dt K (Hz S H) (.ref rv) (.tuple (ps'.map pS)) ∧ Vl l ps' ∧ ∀ G, Exc x H G → BenchAt K C S G x l kt sg ⟨ps', b.es ++ [ed], b.rs ++ [b.ps], []⟩ → Q (.int ((b.es.length + 1 : Nat) : Int)) G
section
variable {P : Program} {w : World} {K : PySem.W.Frag} {mg : Str → Option Value} {base : Heap}
theorem scAp : FnScope ["self", "rule"] ["self", "rule"] (defScope mAp) := ⟨rfl, rfl, rfl, by decide +kernel, rfl, by decide +kernel, by decide +kernel⟩
theorem ok_ap {f : Addr} {fd : FuncData} (F : Fun K "approve" "Bench.approve" mAp f fd) : FnOk P w K mg base CX0 1 f fd ["self", "rule"] spAp := by
  refine F.ok scAp (fun vs H Q E h => ?_) (fun cdv A outer s H vs Q E hr h => ?_)
  · obtain ⟨v, r, rfl, _⟩ := h
    rfl
  obtain ⟨v, r, rfl, q⟩ := h
  exact ⟨_, pss_one ps_pass, q⟩
theorem scRdy : FnScope ["self"] ["self"] (defScope mRd) := ⟨rfl, rfl, rfl, by decide +kernel, rfl, by decide +kernel, by decide +kernel⟩
theorem ok_rdy {f C : Addr} {fd : FuncData} (F : Fun K "ready" "Bench.ready" mRd f fd) (T : Txt mg) (B : BC K mg C) : FnOk P w K mg base CX0 1 f fd ["self"] (spRd C) := by
  refine F.ok scRdy (fun vs H Q E h => ?_) (fun cdv A outer s H vs Q E hr h => ?_)
  · obtain ⟨x, dx, dn, ka, sg, ru, rl, gn, dns, rfl, _⟩ := h
    rfl
  obtain ⟨x, dx, dn, ka, sg, ru, rl, gn, dns, rfl, hx, hd, hl, q⟩ := h
  obtain ⟨t, mx⟩ := B.mx
  refine ⟨_, pss_cons (ps_if (pt_val (pe_fld (pv 0) rfl)) (pss_one ps_never) pss_nil)
    (pss_one (ps_if (pt_cmpR op_ge (pe_callB call_len_seq (by rfl) T.c.len PySem.boot_len (pa_cons (pe_fld (pv 0) rfl) pa_nil)) (pe_glob (v := .int 60) rfl mx ⟨_, rfl⟩) (nomark _)) (pss_one ps_never) pss_nil)), ?_⟩
  refine ⟨_, rfl, x, C, dx, _, _, rfl, hx, B.cl, B.nb, lk_busy, false, rfl, iteF ?_⟩
  refine ⟨_, rfl, x, C, dx, _, _, rfl, hx, B.cl, B.nd, lk_done, dn, dns, rfl, .inr (.inl (.inl hd)), _, _, rfl, rfl, _, rfl, ite2 (fun c => ?_) (fun _ => q)⟩
  have := of_decide_eq_true c
  exact absurd this (by show ¬ ((60 : Int) ≤ ((dns.length : Nat) : Int)); omega)
theorem scLn : FnScope ["self"] ["self"] (defScope mLn) := ⟨rfl, rfl, rfl, by decide +kernel, rfl, by decide +kernel, by decide +kernel⟩
theorem ok_ln {f C : Addr} {fd : FuncData} (F : Fun K "__len__" "Bench.__len__" mLn f fd) (T : Txt mg) (B : BC K mg C) : FnOk P w K mg base CX0 1 f fd ["self"] (spLn C) := by
  refine F.ok scLn (fun vs H Q E h => ?_) (fun cdv A outer s H vs Q E hr h => ?_)
  · obtain ⟨x, dx, dn, ka, sg, ru, rl, gn, dns, rfl, _⟩ := h
    rfl
  obtain ⟨x, dx, dn, ka, sg, ru, rl, gn, dns, rfl, hx, hd, hl, q⟩ := h
  refine ⟨_, pss_one (ps_ret (pe_callB call_len_seq (by rfl) T.c.len PySem.boot_len (pa_cons (pe_fld (pv 0) rfl) pa_nil))), ?_⟩
  exact ⟨_, rfl, x, C, dx, _, _, rfl, hx, B.cl, B.nd, lk_done, dn, dns, rfl, .inr (.inl (.inl hd)), q⟩
theorem scStd : FnScope ["self", "edit", "rule"] ["self", "edit", "rule"] (defScope mSt) := ⟨rfl, rfl, rfl, by decide +kernel, rfl, by decide +kernel, by decide +kernel⟩
theorem ok_std {f fA C : Addr} {fd fdA : FuncData} (F : Fun K "stand" "Bench.stand" mSt f fd) (T : Txt mg) (B : BC K mg C) (FA : FnOk P w K mg base CX0 1 fA fdA ["self", "rule"] spAp) (bA : L2.Binds K fdA ["self", "rule"] []) (mA : Meth K C "approve" fA) :
    FnOk P w K mg base CX0 2 f fd ["self", "edit", "rule"] (spSt K C) := by
  refine F.ok scStd (fun vs H Q E h => ?_) (fun cdv A outer s H vs Q E hr h => ?_)
  · obtain ⟨S, x, rv, et, l, kt, sg, b, ps', ed, rfl, _⟩ := h
    rfl
  obtain ⟨S, x, rv, et, l, kt, sg, b, ps', ed, rfl, LS, BA, hm, DE, DR, VL, q⟩ := h
  obtain ⟨dx, ka, ru, dn, rl, gn, e1, e2, e3, d4, d6, d8⟩ := BA.ex
  obtain ⟨dns, e4, D4⟩ := dt_tup d4
  obtain ⟨rls, e6, D6⟩ := dt_tup d6
  have e5 : dns.length = b.es.length := D4.length
  have e7 : rls.length = b.rs.length + 1 := by rw [D6.length, List.length_map, List.length_append]; rfl
  have ble := BA.le
  have xS := BA.xs
  refine ⟨_, pss_cons (ps_expr (pe_meth (pv 0) B.cl mA FA hr bA .nil pass0 (pa_cons (pv 2) pa_nil)))
    (pss_cons (ps_fld (pv 0) (pv 2) rfl)
    (pss_cons (ps_fld (pv 0) (pe_tup (StX.pa_star (pe_fld (pv 0) rfl) (pa_cons (pv 1) pa_nil))) rfl)
    (pss_cons (ps_fld (pv 0) (pe_tup (StX.pa_star (pe_fld (pv 0) rfl) (pa_cons (pv 2) pa_nil))) rfl)
    (pss_cons (ps_fld (pv 0) (pe_tup pa_nil) rfl)
    (pss_one (ps_ret (pe_callB call_len_seq (by rfl) T.c.len PySem.boot_len (pa_cons (pe_fld (pv 0) rfl) pa_nil)))))))), ?_⟩
  refine ⟨_, rfl, x, dx, _, rfl, e1, rfl, _, rfl, _, _, rfl, ?_⟩
  -- self.rule = rule
  refine ⟨_, rfl, _, rfl, x, C, dx, _, rfl, e1, B.cl, B.nr, by show 7 < 1000; decide, ?_⟩
  have h1 : upd H x (.ins C dx (putF "rule" (.ref rv) (bf (.ref ka) (.str sg) (.ref ru) (.ref dn) (.ref rl) (.ref gn)))) x = some (.ins C dx (bf (.ref ka) (.str sg) (.ref rv) (.ref dn) (.ref rl) (.ref gn))) := upd_same
  have x1 : Exc x H (upd H x (.ins C dx (putF "rule" (.ref rv) (bf (.ref ka) (.str sg) (.ref ru) (.ref dn) (.ref rl) (.ref gn))))) := Exc.refl.put _
  have L1 : Liv S (upd H x (.ins C dx (putF "rule" (.ref rv) (bf (.ref ka) (.str sg) (.ref ru) (.ref dn) (.ref rl) (.ref gn))))) := LS.put (fun xs z => by cases z)
  generalize upd H x (.ins C dx (putF "rule" (.ref rv) (bf (.ref ka) (.str sg) (.ref ru) (.ref dn) (.ref rl) (.ref gn)))) = H1 at h1 x1 L1 ⊢
  have s1 := hz_exc xS x1
  -- self.done = (*self.done, edit)
  refine ⟨_, rfl, x, C, dx, _, _, rfl, h1, B.cl, B.nd, lk_done, dn, dns, rfl, .inl (.inl (.inl (hz_sub _ _ (s1 _ _ e4)))), _, rfl, by show _ ≤ 2 ^ 24; simp only [List.length_append, List.length_cons, List.length_nil]; omega, fun p1 n1 => ?_⟩
  have h2 : upd H1 p1 (.tup (dns ++ [et])) x = some (.ins C dx (bf (.ref ka) (.str sg) (.ref rv) (.ref dn) (.ref rl) (.ref gn))) := same_new n1 _ _ _ h1
  have x2 : Exc x H (upd H1 p1 (.tup (dns ++ [et]))) := x1.new n1 _
  have L2 : Liv S (upd H1 p1 (.tup (dns ++ [et]))) := L1.same (same_new n1 _)
  have g2 : Hz S (upd H1 p1 (.tup (dns ++ [et]))) p1 = some (.tup (dns ++ [et])) := L1.new n1 _
  generalize upd H1 p1 (.tup (dns ++ [et])) = H2 at h2 x2 L2 g2 ⊢
  refine ⟨_, rfl, x, C, dx, _, rfl, h2, B.cl, B.nd, by show 7 < 1000; decide, ?_⟩
  have h3 : upd H2 x (.ins C dx (putF "done" (.ref p1) (bf (.ref ka) (.str sg) (.ref rv) (.ref dn) (.ref rl) (.ref gn)))) x = some (.ins C dx (bf (.ref ka) (.str sg) (.ref rv) (.ref p1) (.ref rl) (.ref gn))) := upd_same
  have x3 : Exc x H (upd H2 x (.ins C dx (putF "done" (.ref p1) (bf (.ref ka) (.str sg) (.ref rv) (.ref dn) (.ref rl) (.ref gn))))) := x2.put _
  have L3 : Liv S (upd H2 x (.ins C dx (putF "done" (.ref p1) (bf (.ref ka) (.str sg) (.ref rv) (.ref dn) (.ref rl) (.ref gn))))) := L2.put (fun xs z => by cases z)
  have g3 : Hz S (upd H2 x (.ins C dx (putF "done" (.ref p1) (bf (.ref ka) (.str sg) (.ref rv) (.ref dn) (.ref rl) (.ref gn))))) p1 = some (.tup (dns ++ [et])) := by rw [hz_put xS]; exact g2
  generalize upd H2 x (.ins C dx (putF "done" (.ref p1) (bf (.ref ka) (.str sg) (.ref rv) (.ref dn) (.ref rl) (.ref gn)))) = H3 at h3 x3 L3 g3 ⊢
  -- self.rules = (*self.rules, rule)
  refine ⟨_, rfl, x, C, dx, _, _, rfl, h3, B.cl, B.nl, lk_rules, rl, rls, rfl, .inl (.inl (.inl (hz_sub _ _ (hz_exc xS x3 _ _ e6)))), _, rfl, by show _ ≤ 2 ^ 24; simp only [List.length_append, List.length_cons, List.length_nil]; omega, fun p2 n2 => ?_⟩
  have h4 : upd H3 p2 (.tup (rls ++ [V.ref rv])) x = some (.ins C dx (bf (.ref ka) (.str sg) (.ref rv) (.ref p1) (.ref rl) (.ref gn))) := same_new n2 _ _ _ h3
  have x4 : Exc x H (upd H3 p2 (.tup (rls ++ [V.ref rv]))) := x3.new n2 _
  have L4 : Liv S (upd H3 p2 (.tup (rls ++ [V.ref rv]))) := L3.same (same_new n2 _)
  have g4 : Hz S (upd H3 p2 (.tup (rls ++ [V.ref rv]))) p2 = some (.tup (rls ++ [V.ref rv])) := L3.new n2 _
  have k4 := hz_same (S := S) (same_new n2 (.tup (rls ++ [V.ref rv]))) _ _ g3
  generalize upd H3 p2 (.tup (rls ++ [V.ref rv])) = H4 at h4 x4 L4 g4 k4 ⊢
  refine ⟨_, rfl, x, C, dx, _, rfl, h4, B.cl, B.nl, by show 7 < 1000; decide, ?_⟩
  have h5 : upd H4 x (.ins C dx (putF "rules" (.ref p2) (bf (.ref ka) (.str sg) (.ref rv) (.ref p1) (.ref rl) (.ref gn)))) x = some (.ins C dx (bf (.ref ka) (.str sg) (.ref rv) (.ref p1) (.ref p2) (.ref gn))) := upd_same
  have x5 : Exc x H (upd H4 x (.ins C dx (putF "rules" (.ref p2) (bf (.ref ka) (.str sg) (.ref rv) (.ref p1) (.ref rl) (.ref gn))))) := x4.put _
  have L5 : Liv S (upd H4 x (.ins C dx (putF "rules" (.ref p2) (bf (.ref ka) (.str sg) (.ref rv) (.ref p1) (.ref rl) (.ref gn))))) := L4.put (fun xs z => by cases z)
  have e5' : Hz S (upd H4 x (.ins C dx (putF "rules" (.ref p2) (bf (.ref ka) (.str sg) (.ref rv) (.ref p1) (.ref rl) (.ref gn))))) = Hz S H4 := hz_put xS _
  rw [← e5'] at g4 k4
  clear e5'
  generalize upd H4 x (.ins C dx (putF "rules" (.ref p2) (bf (.ref ka) (.str sg) (.ref rv) (.ref p1) (.ref rl) (.ref gn)))) = H5 at h5 x5 L5 g4 k4 ⊢
  -- self.gone = ()
  refine ⟨Nat.zero_le _, fun p3 n3 => ?_⟩
  have h6 : upd H5 p3 (.tup []) x = some (.ins C dx (bf (.ref ka) (.str sg) (.ref rv) (.ref p1) (.ref p2) (.ref gn))) := same_new n3 _ _ _ h5
  have x6 : Exc x H (upd H5 p3 (.tup [])) := x5.new n3 _
  have L6 : Liv S (upd H5 p3 (.tup [])) := L5.same (same_new n3 _)
  have g6 := hz_same (S := S) (same_new n3 (.tup [])) _ _ g4
  have k6 := hz_same (S := S) (same_new n3 (.tup [])) _ _ k4
  have z8 : Hz S (upd H5 p3 (.tup [])) p3 = some (.tup []) := L5.new n3 _
  generalize upd H5 p3 (.tup []) = H6 at h6 x6 L6 g6 k6 z8 ⊢
  refine ⟨_, rfl, x, C, dx, _, rfl, h6, B.cl, B.ng, by show 7 < 1000; decide, ?_⟩
  have h7 : upd H6 x (.ins C dx (putF "gone" (.ref p3) (bf (.ref ka) (.str sg) (.ref rv) (.ref p1) (.ref p2) (.ref gn)))) x = some (.ins C dx (bf (.ref ka) (.str sg) (.ref rv) (.ref p1) (.ref p2) (.ref p3))) := upd_same
  have x7 : Exc x H (upd H6 x (.ins C dx (putF "gone" (.ref p3) (bf (.ref ka) (.str sg) (.ref rv) (.ref p1) (.ref p2) (.ref gn))))) := x6.put _
  have e7' : Hz S (upd H6 x (.ins C dx (putF "gone" (.ref p3) (bf (.ref ka) (.str sg) (.ref rv) (.ref p1) (.ref p2) (.ref gn))))) = Hz S H6 := hz_put xS _
  rw [← e7'] at g6 k6 z8
  clear e7'
  generalize upd H6 x (.ins C dx (putF "gone" (.ref p3) (bf (.ref ka) (.str sg) (.ref rv) (.ref p1) (.ref p2) (.ref gn)))) = H7 at h7 x7 g6 k6 z8 ⊢
  have s7 := hz_exc xS x7
  have e8 : (dns ++ [et]).length = b.es.length + 1 := by rw [List.length_append, e5]; rfl
  refine ⟨_, rfl, x, C, dx, _, _, rfl, h7, B.cl, B.nd, lk_done, p1, _, rfl, .inr (.inl (.inl (hz_sub _ _ k6))), ?_⟩
  rw [e8]
  have r1 : (b.rs ++ [b.ps] ++ [ps']).map rT = (b.rs ++ [b.ps]).map rT ++ [.tuple (ps'.map pS)] := by rw [List.map_append]; rfl
  refine q _ x7 ⟨xS, VL, ?_, (fun g h => nomatch h), ?_, BA.l1, BA.l4, dx, ka, rv, p1, p2, p3, h7, e2.same s7, DR.same s7, .tup k6 ((D4.append (.cons DE .nil)).same s7), ?_, .tup z8 .nil⟩
  · intro q hq
    rcases List.mem_append.mp hq with hq | hq
    · exact BA.vr q hq
    · rw [List.mem_singleton.mp hq]; exact BA.vl
  · show (b.rs ++ [b.ps]).length = (b.es ++ [ed]).length
    rw [List.length_append, List.length_append, ble]; rfl
  · show Dt K (Hz S H7) (.ref p2) (.tuple ((b.rs ++ [b.ps] ++ [ps']).map rT))
    rw [r1]
    exact .tup g6 ((D6.append (.cons DR .nil)).same s7)
end
end K08
namespace K08
open PySem GL GZ KW KR GU KU KM KS KP GX KH KD
open L2 hiding isNon
open KC hiding rLenS call_lenS
open KX (Small errD)
/-- what comes of an edit -/
structure EdOut (K : PySem.W.Frag) (C CR CN : Addr) (S : List Addr) (H : Hp) (x : Addr) (l : Nat) (kt : List PyData) (sg : Str) (b : BS) (ed : PyData) (w : Str) (va : V) (a p : PyData) (Q : VK) (E : XK) : Prop where
  ok : ∀ ps', after (b.ps.map pS) w a p = some (ps'.map pS) → errD l (.tuple (ps'.map pS)) = .none → ∀ G, Exc x H G → BenchAt K C S G x l kt sg ⟨ps', b.es ++ [ed], b.rs ++ [b.ps], []⟩ → Q (.int ((b.es.length + 1 : Nat) : Int)) G
  er : ∀ ds', after (b.ps.map pS) w a p = some ds' → errD l (.tuple ds') ≠ .none → ∀ e ve G, Same H G → G e = some (.xd [("error", ve)]) → Dt K G ve (errD l (.tuple ds')) → E (.ref CR) (some e) G
  no : after (b.ps.map pS) w a p = none → ∀ e G, Same H G → G e = some (.xd [("index", va)]) → E (.ref CN) (some e) G
theorem EdOut.same {K : PySem.W.Frag} {C CR CN : Addr} {S : List Addr} {H H1 : Hp} {x : Addr} {l : Nat} {kt : List PyData} {sg : Str} {b : BS} {ed : PyData} {w : Str} {va : V} {a p : PyData} {Q : VK} {E : XK} (O : EdOut K C CR CN S H x l kt sg b ed w va a p Q E) (s : Same H H1) : EdOut K C CR CN S H1 x l kt sg b ed w va a p Q E :=
  ⟨fun ps' h1 h2 G e B => O.ok ps' h1 h2 G ((Exc.of s).trans e) B, fun ds' h1 h2 e ve G s1 => O.er ds' h1 h2 e ve G (s.trans s1), fun h1 e G s1 => O.no h1 e G (s.trans s1)⟩
def spEm (K : PySem.W.Frag) (C CR CN : Addr) : Sp := fun vs H Q E => ∃ (S : List Addr) (x te : Addr) (l : Nat) (kt : List PyData) (sg : Str) (b : BS) (w : Str) (va : V) (a : PyData) (pv : List V) (p ed : PyData), vs = [.ref x, .ref te] ∧ Liv S H ∧ BenchAt K C S H x l kt sg b ∧ b.es.length < 60 ∧
  H te = some (.tup (.str w :: va :: pv)) ∧ Dt K (Hz S H) (.ref te) ed ∧ isEd w ∧ Dt K (Hz S H) va a ∧ pv.length ≤ 1 ∧ (w = "change" → ∃ vp, pv = [vp] ∧ Dt K (Hz S H) vp p) ∧ (∀ ds', after (b.ps.map pS) w a p = some ds' → Small (.tuple ds')) ∧ EdOut K C CR CN S H x l kt sg b ed w va a p Q E
/-- a method with one value -/
def spE1 (K : PySem.W.Frag) (C CR CN : Addr) (w : Str) : Sp := fun vs H Q E => ∃ (S : List Addr) (x : Addr) (l : Nat) (kt : List PyData) (sg : Str) (b : BS) (va : V) (a p : PyData), vs = [.ref x, va] ∧ Liv S H ∧ BenchAt K C S H x l kt sg b ∧ b.es.length < 60 ∧
  Dt K (Hz S H) va a ∧ (∀ ds', after (b.ps.map pS) w a p = some ds' → Small (.tuple ds')) ∧ EdOut K C CR CN S H x l kt sg b (.tuple [.str w, a]) w va a p Q E
def spE2 (K : PySem.W.Frag) (C CR CN : Addr) : Sp := fun vs H Q E => ∃ (S : List Addr) (x : Addr) (l : Nat) (kt : List PyData) (sg : Str) (b : BS) (va vp : V) (a p : PyData), vs = [.ref x, va, vp] ∧ Liv S H ∧ BenchAt K C S H x l kt sg b ∧ b.es.length < 60 ∧
  Dt K (Hz S H) va a ∧ Dt K (Hz S H) vp p ∧ (∀ ds', after (b.ps.map pS) "change" a p = some ds' → Small (.tuple ds')) ∧ EdOut K C CR CN S H x l kt sg b (.tuple [.str "change", a, p]) "change" va a p Q E
section
variable {P : Program} {w : World} {K : PySem.W.Frag} {mg : Str → Option Value} {base : Heap}
theorem scEm : FnScope ["self", "edit"] ["self", "edit"] (defScope mEd) := ⟨rfl, rfl, rfl, by decide +kernel, rfl, by decide +kernel, by decide +kernel⟩
theorem ok_em {f fR fS fE C CR CN : Addr} {fd fdR fdS fdE : FuncData} (F : Fun K "edit" "Bench.edit" mEd f fd) (B : BC K mg C) (FR : FnOk P w K mg base CX0 1 fR fdR ["self"] (spRd C)) (bR : L2.Binds K fdR ["self"] []) (mR : Meth K C "ready" fR)
    (FS : FnOk P w K mg base CX0 2 fS fdS ["self", "edit", "rule"] (spSt K C)) (bS : L2.Binds K fdS ["self", "edit", "rule"] []) (mS : Meth K C "stand" fS) (DE : Dfx P w K mg base "edited" 5 fE fdE ["letters", "rule", "edit"] (spEdd K CR CN)) :
    FnOk P w K mg base (L2.CX P w) 6 f fd ["self", "edit"] (spEm K C CR CN) := by
  refine F.okX scEm (fun vs H Q E h => ?_) (fun cdv A outer s H vs Q E hr h => ?_)
  · obtain ⟨S, x, te, l, kt, sg, b, w, va, a, pv, p, ed, rfl, _⟩ := h
    rfl
  obtain ⟨S, x, te, l, kt, sg, b, w, va, a, pw, p, ed, rfl, LS, BA, hm, ht, DTE, hw, DA, pl, hp, hsm, O⟩ := h
  obtain ⟨dx, ka, ru, dn, rl, gn, e1, e2, e3, d4, d6, d8⟩ := BA.ex
  obtain ⟨dns, e4, D4⟩ := dt_tup d4
  have e5 : dns.length = b.es.length := D4.length
  obtain ⟨kvs, k1, k2⟩ := dt_tup e2
  have hr1 : Room 1 _ := hr.mono (by decide)
  have hr2 : Room 2 _ := hr.mono (by decide)
  refine ⟨_, pss_cons (ps_expr (pe_meth0 (pv 0) B.cl mR FR hr1 bR .nil pass0))
    (pss_one (ps_ret (pe_meth (pv 0) B.cl mS FS hr2 bS .nil pass0 (pa_cons (pv 1) (pa_cons (pe_call DE.ok hr rfl DE.m DE.kp DE.b .nil (passes_call (takes_of rfl rfl rfl rfl) (fun _ _ _ _ h => h)) (pa_cons (pe_ix ix_tup (pe_fld (pv 0) rfl) pe_int (fun _ _ => rfl)) (pa_cons (pe_fld (pv 0) rfl) (pa_cons (pv 1) pa_nil)))) pa_nil))))), ?_⟩
  have hd := hz_sub _ _ e4
  refine ⟨_, rfl, x, dx, _, rfl, e1, rfl, x, dx, dn, _, _, _, _, _, dns, rfl, e1, hd, by omega, ?_⟩
  cases k2 with
  | @cons v0 vr d0 dr c1 c2 =>
  cases c1
  refine ⟨_, rfl, x, dx, _, rfl, e1, rfl, _, rfl, _, rfl, x, C, dx, _, _, rfl, e1, B.cl, B.nk, lk_kind, ka, _, 0, .int (l : Int), rfl, rfl, .inl (.inl (hz_sub _ _ k1)), atI_nat (j := 0) rfl, _, rfl, x, C, dx, _, _, rfl, e1, B.cl, B.nr, lk_rule, _, rfl, ?_⟩
  refine ⟨S, l, ru, te, b.ps, w, va, a, pw, p, rfl, LS, BA.l1, BA.l4, BA.vl, e3, ht, hw, DA, pl, hp, hsm, fun ds' ha he v G s1 dv => ?_, fun ds' ha he e ve G s1 g dv => O.er ds' ha he e ve G s1 g dv, fun ha e G s1 g => O.no ha e G s1 g⟩
  obtain ⟨ps', rfl, V'⟩ := vl_of he
  obtain ⟨rv, rvs, rfl, _, _⟩ := dt_ref dv
  exact ⟨S, x, rv, .ref te, l, kt, sg, b, ps', ed, rfl, LS.same s1, BA.same1 s1, hm, DTE.same (hz_same s1), dv, V', fun G2 x2 B2 => O.ok ps' ha he G2 ((Exc.of s1).trans x2) B2⟩
end
section
variable {P : Program} {w : World} {K : PySem.W.Frag} {mg : Str → Option Value} {base : Heap}
theorem scmAd : FnScope ["self", "pair"] ["self", "pair"] (defScope mAd) := ⟨rfl, rfl, rfl, by decide +kernel, rfl, by decide +kernel, by decide +kernel⟩
theorem ok_mAd {f fE C CR CN : Addr} {fd fdE : FuncData} (F : Fun K "add" "Bench.add" mAd f fd) (B : BC K mg C) (FE : FnOk P w K mg base (L2.CX P w) 6 fE fdE ["self", "edit"] (spEm K C CR CN)) (bE : L2.Binds K fdE ["self", "edit"] []) (mE : Meth K C "edit" fE) :
    FnOk P w K mg base (L2.CX P w) 7 f fd ["self", "pair"] (spE1 K C CR CN "add") := by
  refine F.okX scmAd (fun vs H Q E h => ?_) (fun cdv A outer s H vs Q E hr h => ?_)
  · obtain ⟨S, x, l, kt, sg, b, va, a, p, rfl, _⟩ := h
    rfl
  obtain ⟨S, x, l, kt, sg, b, va, a, p, rfl, LS, BA, hm, DA, hsm, O⟩ := h
  refine ⟨_, pss_one (ps_ret (pe_meth (pv 0) B.cl mE FE hr bE .nil (passes_call (takes_of rfl rfl rfl rfl) (fun _ _ _ _ h => h)) (pa_cons (pe_tup (pa_cons pe_str (pa_cons (pv 1) pa_nil))) pa_nil))), ?_⟩
  obtain ⟨dx, ka, ru, dn, rl, gn, e1, _⟩ := BA.ex
  refine ⟨_, rfl, x, dx, _, rfl, e1, rfl, _, rfl, by show 2 ≤ 2 ^ 24; decide, fun te nt => ?_⟩
  have s1 := same_new nt (.tup [V.str "add", va])
  exact ⟨S, x, te, l, kt, sg, b, "add", va, a, [], p, _, rfl, LS.same s1, BA.same1 s1, hm, upd_same, .tup (LS.new nt _) (.cons (.str _) (.cons (DA.same (hz_same s1)) .nil)), by exact .inl rfl, DA.same (hz_same s1), Nat.zero_le _, fun e => absurd e (by decide +kernel), hsm, O.same s1⟩
theorem scmDr : FnScope ["self", "index"] ["self", "index"] (defScope mDr) := ⟨rfl, rfl, rfl, by decide +kernel, rfl, by decide +kernel, by decide +kernel⟩
theorem ok_mDr {f fE C CR CN : Addr} {fd fdE : FuncData} (F : Fun K "drop" "Bench.drop" mDr f fd) (B : BC K mg C) (FE : FnOk P w K mg base (L2.CX P w) 6 fE fdE ["self", "edit"] (spEm K C CR CN)) (bE : L2.Binds K fdE ["self", "edit"] []) (mE : Meth K C "edit" fE) :
    FnOk P w K mg base (L2.CX P w) 7 f fd ["self", "index"] (spE1 K C CR CN "drop") := by
  refine F.okX scmDr (fun vs H Q E h => ?_) (fun cdv A outer s H vs Q E hr h => ?_)
  · obtain ⟨S, x, l, kt, sg, b, va, a, p, rfl, _⟩ := h
    rfl
  obtain ⟨S, x, l, kt, sg, b, va, a, p, rfl, LS, BA, hm, DA, hsm, O⟩ := h
  refine ⟨_, pss_one (ps_ret (pe_meth (pv 0) B.cl mE FE hr bE .nil (passes_call (takes_of rfl rfl rfl rfl) (fun _ _ _ _ h => h)) (pa_cons (pe_tup (pa_cons pe_str (pa_cons (pv 1) pa_nil))) pa_nil))), ?_⟩
  obtain ⟨dx, ka, ru, dn, rl, gn, e1, _⟩ := BA.ex
  refine ⟨_, rfl, x, dx, _, rfl, e1, rfl, _, rfl, by show 2 ≤ 2 ^ 24; decide, fun te nt => ?_⟩
  have s1 := same_new nt (.tup [V.str "drop", va])
  exact ⟨S, x, te, l, kt, sg, b, "drop", va, a, [], p, _, rfl, LS.same s1, BA.same1 s1, hm, upd_same, .tup (LS.new nt _) (.cons (.str _) (.cons (DA.same (hz_same s1)) .nil)), by exact .inr (.inl rfl), DA.same (hz_same s1), Nat.zero_le _, fun e => absurd e (by decide +kernel), hsm, O.same s1⟩
theorem scmLi : FnScope ["self", "index"] ["self", "index"] (defScope mLi) := ⟨rfl, rfl, rfl, by decide +kernel, rfl, by decide +kernel, by decide +kernel⟩
theorem ok_mLi {f fE C CR CN : Addr} {fd fdE : FuncData} (F : Fun K "lift" "Bench.lift" mLi f fd) (B : BC K mg C) (FE : FnOk P w K mg base (L2.CX P w) 6 fE fdE ["self", "edit"] (spEm K C CR CN)) (bE : L2.Binds K fdE ["self", "edit"] []) (mE : Meth K C "edit" fE) :
    FnOk P w K mg base (L2.CX P w) 7 f fd ["self", "index"] (spE1 K C CR CN "lift") := by
  refine F.okX scmLi (fun vs H Q E h => ?_) (fun cdv A outer s H vs Q E hr h => ?_)
  · obtain ⟨S, x, l, kt, sg, b, va, a, p, rfl, _⟩ := h
    rfl
  obtain ⟨S, x, l, kt, sg, b, va, a, p, rfl, LS, BA, hm, DA, hsm, O⟩ := h
  refine ⟨_, pss_one (ps_ret (pe_meth (pv 0) B.cl mE FE hr bE .nil (passes_call (takes_of rfl rfl rfl rfl) (fun _ _ _ _ h => h)) (pa_cons (pe_tup (pa_cons pe_str (pa_cons (pv 1) pa_nil))) pa_nil))), ?_⟩
  obtain ⟨dx, ka, ru, dn, rl, gn, e1, _⟩ := BA.ex
  refine ⟨_, rfl, x, dx, _, rfl, e1, rfl, _, rfl, by show 2 ≤ 2 ^ 24; decide, fun te nt => ?_⟩
  have s1 := same_new nt (.tup [V.str "lift", va])
  exact ⟨S, x, te, l, kt, sg, b, "lift", va, a, [], p, _, rfl, LS.same s1, BA.same1 s1, hm, upd_same, .tup (LS.new nt _) (.cons (.str _) (.cons (DA.same (hz_same s1)) .nil)), by exact .inr (.inr (.inr (.inl rfl))), DA.same (hz_same s1), Nat.zero_le _, fun e => absurd e (by decide +kernel), hsm, O.same s1⟩
theorem scmTu : FnScope ["self", "index"] ["self", "index"] (defScope mTu) := ⟨rfl, rfl, rfl, by decide +kernel, rfl, by decide +kernel, by decide +kernel⟩
theorem ok_mTu {f fE C CR CN : Addr} {fd fdE : FuncData} (F : Fun K "turn" "Bench.turn" mTu f fd) (B : BC K mg C) (FE : FnOk P w K mg base (L2.CX P w) 6 fE fdE ["self", "edit"] (spEm K C CR CN)) (bE : L2.Binds K fdE ["self", "edit"] []) (mE : Meth K C "edit" fE) :
    FnOk P w K mg base (L2.CX P w) 7 f fd ["self", "index"] (spE1 K C CR CN "turn") := by
  refine F.okX scmTu (fun vs H Q E h => ?_) (fun cdv A outer s H vs Q E hr h => ?_)
  · obtain ⟨S, x, l, kt, sg, b, va, a, p, rfl, _⟩ := h
    rfl
  obtain ⟨S, x, l, kt, sg, b, va, a, p, rfl, LS, BA, hm, DA, hsm, O⟩ := h
  refine ⟨_, pss_one (ps_ret (pe_meth (pv 0) B.cl mE FE hr bE .nil (passes_call (takes_of rfl rfl rfl rfl) (fun _ _ _ _ h => h)) (pa_cons (pe_tup (pa_cons pe_str (pa_cons (pv 1) pa_nil))) pa_nil))), ?_⟩
  obtain ⟨dx, ka, ru, dn, rl, gn, e1, _⟩ := BA.ex
  refine ⟨_, rfl, x, dx, _, rfl, e1, rfl, _, rfl, by show 2 ≤ 2 ^ 24; decide, fun te nt => ?_⟩
  have s1 := same_new nt (.tup [V.str "turn", va])
  exact ⟨S, x, te, l, kt, sg, b, "turn", va, a, [], p, _, rfl, LS.same s1, BA.same1 s1, hm, upd_same, .tup (LS.new nt _) (.cons (.str _) (.cons (DA.same (hz_same s1)) .nil)), by exact .inr (.inr (.inr (.inr rfl))), DA.same (hz_same s1), Nat.zero_le _, fun e => absurd e (by decide +kernel), hsm, O.same s1⟩
theorem scmCh : FnScope ["self", "index", "pair"] ["self", "index", "pair"] (defScope mCh) := ⟨rfl, rfl, rfl, by decide +kernel, rfl, by decide +kernel, by decide +kernel⟩
theorem ok_mCh {f fE C CR CN : Addr} {fd fdE : FuncData} (F : Fun K "change" "Bench.change" mCh f fd) (B : BC K mg C) (FE : FnOk P w K mg base (L2.CX P w) 6 fE fdE ["self", "edit"] (spEm K C CR CN)) (bE : L2.Binds K fdE ["self", "edit"] []) (mE : Meth K C "edit" fE) :
    FnOk P w K mg base (L2.CX P w) 7 f fd ["self", "index", "pair"] (spE2 K C CR CN) := by
  refine F.okX scmCh (fun vs H Q E h => ?_) (fun cdv A outer s H vs Q E hr h => ?_)
  · obtain ⟨S, x, l, kt, sg, b, va, vp, a, p, rfl, _⟩ := h
    rfl
  obtain ⟨S, x, l, kt, sg, b, va, vp, a, p, rfl, LS, BA, hm, DA, DP, hsm, O⟩ := h
  refine ⟨_, pss_one (ps_ret (pe_meth (pv 0) B.cl mE FE hr bE .nil (passes_call (takes_of rfl rfl rfl rfl) (fun _ _ _ _ h => h)) (pa_cons (pe_tup (pa_cons pe_str (pa_cons (pv 1) (pa_cons (pv 2) pa_nil)))) pa_nil))), ?_⟩
  obtain ⟨dx, ka, ru, dn, rl, gn, e1, _⟩ := BA.ex
  refine ⟨_, rfl, x, dx, _, rfl, e1, rfl, _, rfl, _, rfl, by show 3 ≤ 2 ^ 24; decide, fun te nt => ?_⟩
  have s1 := same_new nt (.tup [V.str "change", va, vp])
  exact ⟨S, x, te, l, kt, sg, b, "change", va, a, [vp], p, _, rfl, LS.same s1, BA.same1 s1, hm, upd_same, .tup (LS.new nt _) (.cons (.str _) (.cons (DA.same (hz_same s1)) (.cons (DP.same (hz_same s1)) .nil))), .inr (.inr (.inl rfl)), DA.same (hz_same s1), Nat.le_refl _, fun _ => ⟨vp, rfl, DP.same (hz_same s1)⟩, hsm, O.same s1⟩
/-- a new bench -/
def spBi (K : PySem.W.Frag) (C : Addr) : Sp := fun vs H Q _ => ∃ (x dx ka ru : Addr) (sg : Str) (kd rd : PyData), vs = [.ref x, .ref ka, .str sg, .ref ru] ∧ H x = some (.ins C dx []) ∧ Dt K H (.ref ka) kd ∧ Dt K H (.ref ru) rd ∧ Small (.tuple [kd, .str sg, rd]) ∧ serr (.tuple [kd, .str sg, rd]) = .none ∧
  ∀ (G : Hp) (dn rl gn : Addr), Exc x H G → G x = some (.ins C dx (bf (.ref ka) (.str sg) (.ref ru) (.ref dn) (.ref rl) (.ref gn))) → H dn = none → H rl = none → H gn = none → G dn = some (.tup []) → G rl = some (.tup [.ref ru]) → G gn = some (.tup []) → Q .non G
theorem scBi : FnScope ["self", "kind", "signs", "rule", "error"] ["self", "kind", "signs", "rule"] (defScope mBi) := ⟨rfl, rfl, rfl, by decide +kernel, rfl, by decide +kernel, by decide +kernel⟩
theorem ok_bi {f fS C : Addr} {fd fdS : FuncData} {dv : V} (F : FunD K "__init__" "Bench.__init__" (defArgs mBi) (defBody mBi) (defScope mBi) [dv] [] f fd) (B : BC K mg C) (DS : Dfn P w K mg base "scheme_error" 5 fS fdS ["value"] (spSErr K)) : FnOk P w K mg base CX0 6 f fd ["self", "kind", "signs", "rule"] (spBi K C) := by
  refine F.ok scBi (fun vs H Q E h => ?_) (fun cdv A outer s H vs Q E hr h => ?_)
  · obtain ⟨x, dx, ka, ru, sg, kd, rd, rfl, _⟩ := h
    rfl
  obtain ⟨x, dx, ka, ru, sg, kd, rd, rfl, hx, DK, DR, hs, he, q⟩ := h
  refine ⟨_, pss_cons (ps_set (i := 4) scBi.nd rfl (Or.inl rfl) (pe_call DS.ok hr rfl DS.m DS.kp DS.b .nil pass0 (pa_cons (pe_tup (pa_cons (pv 1) (pa_cons (pv 2) (pa_cons (pv 3) pa_nil)))) pa_nil)))
    (pss_cons (ps_if (pt_cmpR op_notN (pv 4) pe_non (nomark _)) (pss_one ps_never) pss_nil)
    (pss_cons (ps_fld (pv 0) (pv 1) rfl)
    (pss_cons (ps_fld (pv 0) (pv 2) rfl)
    (pss_cons (ps_fld (pv 0) (pv 3) rfl)
    (pss_cons (ps_fld (pv 0) (pe_tup pa_nil) rfl)
    (pss_cons (ps_fld (pv 0) (pe_tup (pa_cons (pv 3) pa_nil)) rfl)
    (pss_cons (ps_fld (pv 0) (pe_tup pa_nil) rfl)
    (pss_one (ps_fld (pv 0) pe_bl rfl))))))))), ?_⟩
  refine ⟨_, rfl, _, rfl, _, rfl, by show 3 ≤ 2 ^ 24; decide, fun t nt => ?_⟩
  have s1 := same_new nt (.tup [V.ref ka, V.str sg, V.ref ru])
  have g1 : upd H t (.tup [V.ref ka, V.str sg, V.ref ru]) t = some (.tup [V.ref ka, V.str sg, V.ref ru]) := upd_same
  generalize upd H t (.tup [V.ref ka, V.str sg, V.ref ru]) = H1 at s1 g1 ⊢
  refine ⟨.ref t, _, rfl, toDu (.tup g1 (.cons (DK.same s1) (.cons (.str sg) (.cons (DR.same s1) .nil)))), hs, fun v2 H2 s2 d2 => ?_⟩
  rw [he] at d2
  obtain rfl : v2 = .non := by cases d2; rfl
  refine ⟨_, rfl, rfl, _, rfl, iteF ?_⟩
  have s02 := s1.trans s2
  have hh : H2 x = some (.ins C dx []) := s02 _ _ hx
  have xx : Exc x H H2 := Exc.of s02
  refine ⟨_, rfl, _, rfl, x, C, dx, _, rfl, hh, B.cl, B.nk, by show 0 < 1000; decide, ?_⟩
  replace hh : upd H2 x (.ins C dx (putF "kind" (.ref ka) [])) x = some (.ins C dx [("kind", .ref ka)]) := upd_same
  replace xx : Exc x H (upd H2 x (.ins C dx (putF "kind" (.ref ka) []))) := xx.put _
  generalize upd H2 x (.ins C dx (putF "kind" (.ref ka) [])) = H3 at hh xx ⊢
  refine ⟨_, rfl, _, rfl, x, C, dx, _, rfl, hh, B.cl, B.ns, by show 1 < 1000; decide, ?_⟩
  replace hh : upd H3 x (.ins C dx (putF "signs" (.str sg) [("kind", .ref ka)])) x = some (.ins C dx [("kind", .ref ka), ("signs", .str sg)]) := upd_same
  replace xx : Exc x H (upd H3 x (.ins C dx (putF "signs" (.str sg) [("kind", .ref ka)]))) := xx.put _
  generalize upd H3 x (.ins C dx (putF "signs" (.str sg) [("kind", .ref ka)])) = H4 at hh xx ⊢
  refine ⟨_, rfl, _, rfl, x, C, dx, _, rfl, hh, B.cl, B.nr, by show 2 < 1000; decide, ?_⟩
  replace hh : upd H4 x (.ins C dx (putF "rule" (.ref ru) [("kind", .ref ka), ("signs", .str sg)])) x = some (.ins C dx [("kind", .ref ka), ("signs", .str sg), ("rule", .ref ru)]) := upd_same
  replace xx : Exc x H (upd H4 x (.ins C dx (putF "rule" (.ref ru) [("kind", .ref ka), ("signs", .str sg)]))) := xx.put _
  generalize upd H4 x (.ins C dx (putF "rule" (.ref ru) [("kind", .ref ka), ("signs", .str sg)])) = H5 at hh xx ⊢
  refine ⟨Nat.zero_le _, fun p1 n1 => ?_⟩
  have z1 : H p1 = none := xx.free hh n1
  have d1 : p1 ≠ x := fun e => by rw [e, hh] at n1; cases n1
  replace hh := same_new n1 (.tup []) _ _ hh
  replace xx := xx.new n1 (.tup [])
  have g1 : upd H5 p1 (.tup []) p1 = some (.tup []) := upd_same
  generalize upd H5 p1 (.tup []) = H6 at hh xx g1 ⊢
  refine ⟨_, rfl, x, C, dx, _, rfl, hh, B.cl, B.nd, by show 3 < 1000; decide, ?_⟩
  replace hh : upd H6 x (.ins C dx (putF "done" (.ref p1) [("kind", .ref ka), ("signs", .str sg), ("rule", .ref ru)])) x = some (.ins C dx [("kind", .ref ka), ("signs", .str sg), ("rule", .ref ru), ("done", .ref p1)]) := upd_same
  replace xx : Exc x H (upd H6 x (.ins C dx (putF "done" (.ref p1) [("kind", .ref ka), ("signs", .str sg), ("rule", .ref ru)]))) := xx.put _
  replace g1 := Eq.trans (upd_ne (o := .ins C dx (putF "done" (.ref p1) [("kind", .ref ka), ("signs", .str sg), ("rule", .ref ru)])) d1) g1
  generalize upd H6 x (.ins C dx (putF "done" (.ref p1) [("kind", .ref ka), ("signs", .str sg), ("rule", .ref ru)])) = H7 at hh xx g1 ⊢
  refine ⟨_, rfl, by show 1 ≤ 2 ^ 24; decide, fun p2 n2 => ?_⟩
  have z2 : H p2 = none := xx.free hh n2
  have d2 : p2 ≠ x := fun e => by rw [e, hh] at n2; cases n2
  replace hh := same_new n2 (.tup [V.ref ru]) _ _ hh
  replace xx := xx.new n2 (.tup [V.ref ru])
  replace g1 := same_new n2 (.tup [V.ref ru]) _ _ g1
  have g2 : upd H7 p2 (.tup [V.ref ru]) p2 = some (.tup [V.ref ru]) := upd_same
  generalize upd H7 p2 (.tup [V.ref ru]) = H8 at hh xx g1 g2 ⊢
  refine ⟨_, rfl, x, C, dx, _, rfl, hh, B.cl, B.nl, by show 4 < 1000; decide, ?_⟩
  replace hh : upd H8 x (.ins C dx (putF "rules" (.ref p2) [("kind", .ref ka), ("signs", .str sg), ("rule", .ref ru), ("done", .ref p1)])) x = some (.ins C dx [("kind", .ref ka), ("signs", .str sg), ("rule", .ref ru), ("done", .ref p1), ("rules", .ref p2)]) := upd_same
  replace xx : Exc x H (upd H8 x (.ins C dx (putF "rules" (.ref p2) [("kind", .ref ka), ("signs", .str sg), ("rule", .ref ru), ("done", .ref p1)]))) := xx.put _
  replace g1 := Eq.trans (upd_ne (o := .ins C dx (putF "rules" (.ref p2) [("kind", .ref ka), ("signs", .str sg), ("rule", .ref ru), ("done", .ref p1)])) d1) g1
  replace g2 := Eq.trans (upd_ne (o := .ins C dx (putF "rules" (.ref p2) [("kind", .ref ka), ("signs", .str sg), ("rule", .ref ru), ("done", .ref p1)])) d2) g2
  generalize upd H8 x (.ins C dx (putF "rules" (.ref p2) [("kind", .ref ka), ("signs", .str sg), ("rule", .ref ru), ("done", .ref p1)])) = H9 at hh xx g1 g2 ⊢
  refine ⟨Nat.zero_le _, fun p3 n3 => ?_⟩
  have z3 : H p3 = none := xx.free hh n3
  have d3 : p3 ≠ x := fun e => by rw [e, hh] at n3; cases n3
  replace hh := same_new n3 (.tup []) _ _ hh
  replace xx := xx.new n3 (.tup [])
  replace g1 := same_new n3 (.tup []) _ _ g1
  replace g2 := same_new n3 (.tup []) _ _ g2
  have g3 : upd H9 p3 (.tup []) p3 = some (.tup []) := upd_same
  generalize upd H9 p3 (.tup []) = H10 at hh xx g1 g2 g3 ⊢
  refine ⟨_, rfl, x, C, dx, _, rfl, hh, B.cl, B.ng, by show 5 < 1000; decide, ?_⟩
  replace hh : upd H10 x (.ins C dx (putF "gone" (.ref p3) [("kind", .ref ka), ("signs", .str sg), ("rule", .ref ru), ("done", .ref p1), ("rules", .ref p2)])) x = some (.ins C dx [("kind", .ref ka), ("signs", .str sg), ("rule", .ref ru), ("done", .ref p1), ("rules", .ref p2), ("gone", .ref p3)]) := upd_same
  replace xx : Exc x H (upd H10 x (.ins C dx (putF "gone" (.ref p3) [("kind", .ref ka), ("signs", .str sg), ("rule", .ref ru), ("done", .ref p1), ("rules", .ref p2)]))) := xx.put _
  replace g1 := Eq.trans (upd_ne (o := .ins C dx (putF "gone" (.ref p3) [("kind", .ref ka), ("signs", .str sg), ("rule", .ref ru), ("done", .ref p1), ("rules", .ref p2)])) d1) g1
  replace g2 := Eq.trans (upd_ne (o := .ins C dx (putF "gone" (.ref p3) [("kind", .ref ka), ("signs", .str sg), ("rule", .ref ru), ("done", .ref p1), ("rules", .ref p2)])) d2) g2
  replace g3 := Eq.trans (upd_ne (o := .ins C dx (putF "gone" (.ref p3) [("kind", .ref ka), ("signs", .str sg), ("rule", .ref ru), ("done", .ref p1), ("rules", .ref p2)])) d3) g3
  generalize upd H10 x (.ins C dx (putF "gone" (.ref p3) [("kind", .ref ka), ("signs", .str sg), ("rule", .ref ru), ("done", .ref p1), ("rules", .ref p2)])) = H11 at hh xx g1 g2 g3 ⊢
  refine ⟨_, rfl, x, C, dx, _, rfl, hh, B.cl, B.nb, by show 6 < 1000; decide, ?_⟩
  replace hh : upd H11 x (.ins C dx (putF "busy" (.bl false) [("kind", .ref ka), ("signs", .str sg), ("rule", .ref ru), ("done", .ref p1), ("rules", .ref p2), ("gone", .ref p3)])) x = some (.ins C dx [("kind", .ref ka), ("signs", .str sg), ("rule", .ref ru), ("done", .ref p1), ("rules", .ref p2), ("gone", .ref p3), ("busy", .bl false)]) := upd_same
  replace xx : Exc x H (upd H11 x (.ins C dx (putF "busy" (.bl false) [("kind", .ref ka), ("signs", .str sg), ("rule", .ref ru), ("done", .ref p1), ("rules", .ref p2), ("gone", .ref p3)]))) := xx.put _
  replace g1 := Eq.trans (upd_ne (o := .ins C dx (putF "busy" (.bl false) [("kind", .ref ka), ("signs", .str sg), ("rule", .ref ru), ("done", .ref p1), ("rules", .ref p2), ("gone", .ref p3)])) d1) g1
  replace g2 := Eq.trans (upd_ne (o := .ins C dx (putF "busy" (.bl false) [("kind", .ref ka), ("signs", .str sg), ("rule", .ref ru), ("done", .ref p1), ("rules", .ref p2), ("gone", .ref p3)])) d2) g2
  replace g3 := Eq.trans (upd_ne (o := .ins C dx (putF "busy" (.bl false) [("kind", .ref ka), ("signs", .str sg), ("rule", .ref ru), ("done", .ref p1), ("rules", .ref p2), ("gone", .ref p3)])) d3) g3
  generalize upd H11 x (.ins C dx (putF "busy" (.bl false) [("kind", .ref ka), ("signs", .str sg), ("rule", .ref ru), ("done", .ref p1), ("rules", .ref p2), ("gone", .ref p3)])) = H12 at hh xx g1 g2 g3 ⊢
  exact q H12 p1 p2 p3 xx hh z1 z2 z3 g1 g2 g3
end
end K08
/-! o[i], o[i] = e and name op= e, o an instance of an own class with these methods, which may raise. No row. -/
namespace GO
open PySem PySem.Spec PyProof.Rows L2
open PySem.W (findIn isFn fnIn noSeq selfFirst)
section
variable {X : Cx} {CX : CXT} {k i : Nat} {C f : Addr} {fd : FuncData} {ps : List Str} {sp : Sp} {E : L2.St → XK} {x : Str} {o e ix : Expr} {to te ti : TE} {pos pos' : Pos} {op : Operator}
/-- what a special method of an own class wants of the class -/
structure Spm (K : PySem.W.Frag) (C : Addr) (m : Str) (f : Addr) : Prop where
  at_ : findIn K (.ref C) m = some (some (.ref f))
  fn : isFn K (.ref f) = true
theorem inst_of {pins : List (Addr × Obj)} {σ : L2.St} {H : Hp} {s : Shared} {a dx : Addr} {fs : List (Str × V)} (I : Inv X pins σ H s) (ha : H a = some (.ins C dx fs)) : ∃ od, PySem.W.InstAt s.heap a (PySem.W.instObj C dx) C (some od) := by
  obtain ⟨mA, O, _⟩ := ins_get I.hok ha
  obtain ⟨od, h1, _⟩ := lookIn_ns O.ns
  exact ⟨od, O.obj, rfl, rfl, h1⟩
/-- o[i] -/
def tItO (C : Addr) (sp : Sp) (E : L2.St → XK) (to ti : TE) : TE := fun σ H Q => to σ H fun x H1 => ti σ H1 fun y H2 => ∃ a dx fs, x = .ref a ∧ H2 a = some (.ins C dx fs) ∧ sp [.ref a, y] H2 Q (E σ)
theorem pe_itO (M : Spm X.K C "__getitem__" f) (hf : fnIn X.K f = true) (F : FnOk X.prog X.w X.K X.mg X.base CX k f fd ps sp) (hr : Room (k + 1) X.A) (hb : L2.Binds X.K fd ps []) (hx : ∀ σ, PassesAt CX X σ (E σ)) (ho : PE X o to) (hi : PE X ix ti)
    (hsl : ∀ a i, subscripted ix true (.ref a) i = runValue (.builtin "lifetime.subscript" ⟨[.ref a, i], []⟩) := by intro _ _; with_unfolding_all rfl) :
    PE X (.Subscript o ix pos) (tItO C sp E to ti) := by
  refine ⟨fun pins s σ H Q I h => Subscript_ (thn (ho.run pins s σ H _ I h) fun ov s1 ⟨x, H1, I1, r1, q1⟩ => thn (hi.run pins s1 σ H1 _ I1 q1) fun iv s2 ⟨y, H2, I2, r2, a, dx, fs, ex, ha, q2⟩ => ?_)⟩
  subst ex
  cases r1
  obtain ⟨od, J⟩ := inst_of I2 ha
  obtain ⟨m, Fr2⟩ := I2.fr
  refine PySem.W.sub_K Fr2 I2.ok.mod.kin J M.at_ hf M.fn ?_ (hsl _ _)
  have hl : ([Value.ref a, iv] : List Value).length = ps.length := by
    rw [← F.len _ _ _ _ q2]; rfl
  have b := hb s2 [.ref a, iv] I2.kIn (by rw [List.append_nil]; exact hl)
  rw [List.append_nil] at b
  refine wpAny_call (codeAny_mono (F.run X.A.in1 X.stack s2 H2 ⟨[.ref a, iv], []⟩ [.ref a, iv] [.ref a, y] Q (E σ) hr.in1 I2.env0.in1 b (.cons rfl (.cons r2 .nil)) q2) fun r s' hq => ?_)
  cases r with
  | error er => exact hx σ pins H2 s2 er s' I2 hq
  | ok fl =>
    cases fl with
    | ret u => exact I2.after hq
    | next => exact False.elim hq
    | brk => exact False.elim hq
    | cont => exact False.elim hq
/-- o[i] = v -/
def gItO (C : Addr) (sp : Sp) (E : L2.St → XK) (to ti : TE) : TG := fun v σ H Q => to σ H fun x H1 => ti σ H1 fun y H2 => ∃ a dx fs, x = .ref a ∧ H2 a = some (.ins C dx fs) ∧ sp [.ref a, y, v] H2 (fun _ H3 => Q σ H3) (E σ)
theorem pg_itO (M : Spm X.K C "__setitem__" f) (hq : noSeq X.K C = true) (F : FnOk X.prog X.w X.K X.mg X.base CX k f fd ps sp) (hr : Room k X.A) (hb : L2.Binds X.K fd ps []) (hx : ∀ σ, PassesAt CX X σ (E σ)) (ho : PE X o to) (hi : PE X ix ti)
    (ha : ∀ v, assign (.Subscript o ix pos) X.env v = (do
      let ov ← holding [v] (eval o X.env)
      let iv ← holding [v, ov] (eval ix X.env)
      standAt pos
      holding [v, ov, iv] (setItem ov iv v)
      release [v, ov, iv] []) := by intro _; rfl) : PG X (.Subscript o ix pos) (gItO C sp E to ti) := by
  refine ⟨fun pins s σ H v u Q I r h => ?_⟩
  rw [ha]
  refine wpAny_bind (wpAny_holding (thn (ho.run pins s σ H _ I h) fun ov s1 ⟨x, H1, I1, r1, q1⟩ => ?_))
  refine wpAny_bind (wpAny_holding (thn (hi.run pins s1 σ H1 _ I1 q1) fun iv s2 ⟨y, H2, I2, r2, a, dx, fs, ex, hins, q2⟩ => ?_))
  subst ex
  cases r1
  obtain ⟨od, J⟩ := inst_of I2 hins
  obtain ⟨m, Fr2⟩ := I2.fr
  refine wpAny_bind (wpAny_standAt (wpAny_bind (wpAny_holding ?_)))
  refine PySem.W.ksp_setItem Fr2 I2.ok.mod.kin J hq M.at_ M.fn ?_
  refine thn (run_fnS (E := E) F hr hb (hx σ) I2 (us := [.ref a, iv, u]) (vs := [.ref a, y, v]) (.cons rfl (.cons r2 (.cons r .nil))) q2) fun w s3 ⟨z, H3, I3, r3, q3⟩ => ?_
  exact wpAny_release ⟨σ, H3, I3, q3⟩
/-- name op= e -/
theorem back_of {Q : VK} {pins : List (Addr × Obj)} {σ : L2.St} {u : Value} {s' : Shared} (h : EP X pins σ Q u s') : PySem.W.CmpBack (EP X pins σ Q) u s' := by
  obtain ⟨v, H', I, r, q⟩ := h
  cases u with
  | notImplemented => cases v <;> first | exact (nomatch r) | (obtain ⟨_, z⟩ := r; cases z)
  | _ => exact ⟨v, H', I, r, q⟩
def tAugO (i : Nat) (C : Addr) (sp : Sp) (E : L2.St → XK) (te : TE) : TS := fun D σ H => ∃ a, σ[i]? = some (some (.ref a)) ∧ te σ H fun y H1 => ∃ dx fs, H1 a = some (.ins C dx fs) ∧ sp [.ref a, y] H1 (fun z H2 => D.nx (σ.set i (some z)) H2) (E σ)
theorem ps_augO (M : Spm X.K C (PySem.dunderI op.info.2) f) (hc : selfFirst X.K C = true) (F : FnOk X.prog X.w X.K X.mg X.base CX k f fd ps sp) (hr : Room k X.A) (hb : L2.Binds X.K fd ps []) (hx : ∀ σ, PassesAt CX X σ (E σ))
    (hN : X.N.Nodup) (hi : X.N[i]? = some x) (hl : Loc X.env.scope x) (he : PE X e te) (hf : X.fn x = true ∨ X.env.scope.names.lookup x = some .local := by first | exact .inl rfl | exact .inr rfl | assumption) :
    PS X (.AugAssign (.Name x pos') op e pos) (tAugO i C sp E te) := by
  refine ⟨fun pins s σ H D I h => ?_⟩
  obtain ⟨a, e1, h⟩ := h
  obtain ⟨m, hn, hlo⟩ := I.loc
  have vis : Vis X.env.scope x := by rcases hl with k | k; exact .inl k; exact .inr (.inl k)
  obtain ⟨u, r, l⟩ := hlo i x _ hi e1 vis
  cases r
  refine wpAny_AugAssign_Name ?_
  have go : wpAny (model X.prog X.w) X.A (eval e X.env) (fun w s₂ => wpAny (model X.prog X.w) X.A (inplaceOp op (.ref a) w) (fun r s₃ => wpAny (model X.prog X.w) X.A (storeName X.env x r) (fun _ => SP X pins D .next) X.xe s₃) X.xe s₂) X.xe s := by
    refine thn (he.run pins s σ H _ I h) fun w s1 ⟨y, H1, I1, r1, dx, fs, hins, q1⟩ => ?_
    obtain ⟨od, J⟩ := inst_of I1 hins
    obtain ⟨m, Fr2⟩ := I1.fr
    refine thn (PySem.W.ksp_inplace Fr2 I1.ok.mod.kin J hc M.at_ M.fn (wpAny_mono (run_fnS (E := E) F hr hb (hx σ) I1 (us := [.ref a, w]) (vs := [.ref a, y]) (.cons rfl (.cons r1 .nil)) q1) (fun _ _ z => back_of z) fun _ _ z => z)) fun z s2 ⟨zv, H2, I2, r2, q2⟩ => ?_
    exact store_ok I2 hN hi hl r2 (fun s3 I3 => ⟨_, H2, I3, q2⟩) hf
  rcases l with ⟨hk, hm⟩ | ⟨hk, c, hc, hcell⟩
  · exact wpAny_loadName_local I.ok.kind hk hn hm go
  · rcases hk with hk | hk
    · exact wpAny_loadName_cell I.ok.kind hk hc hcell go
    · rcases hl with k | k
      · have : X.env.scope.names.lookup x = some .free := hk
        rw [k] at this; cases this
      · have : X.env.scope.names.lookup x = some .free := hk
        rw [k] at this; cases this
end
end GO
/-! The same, going on: C() without an own __init__; isinstance of such a value; its fields. No row. -/
namespace GX
open PySem PySem.Spec PyProof.Rows L2 PySem.W PySem.Calls PySem.HandSPX
section
variable {X : Cx} {x : Str} {C : Addr} {p pos : Pos} {tl : List Value} {B newId initId : String}
/-- C() as a value -/
theorem pe_ex0V (F : ExcBaseFacts B newId initId tl) (q : excIn X.K C tl newId = true) (hm : X.mg x = some (.ref C)) (kC : keepIn X.K (.ref C) = true) (hg : L2.Gl X x) (hdb : (x == ("__debug__" : Str)) = false := by decide) :
    PE X (.Call (.Name x p) [] [] pos) (fun _ H Q => ∀ a, H a = none → Q (.ref a) (upd H a (exo a C none))) := by
  refine ⟨fun pins s σ H Q I h => ?_⟩
  refine wpAny_Call_Name_kw (ld_glob I hg hm ?_ hdb)
  refine PySem.W.callWith_K0 I.kIn kC ?_
  obtain ⟨bm, N, nm, qn, bs, hdct, sn, sub, ab, col, dd, k0, k1, k2, k3, k5, mN, hC, hN, hni, T⟩ := exc_obj I.kIn q
  obtain ⟨hp, g, d, tk, os⟩ := s
  refine wpAny_call_exc_subT (rest := []) F T hC hN hni (fun h' a mk => ?_) (Nat.zero_le _)
  have n1 : H a = none := I.hok.gone mk.new
  obtain ⟨t, ht, _, _⟩ := mk.there
  exact ⟨.ref a, upd H a (exo a C none), I.laidN mk.keeps mk.new n1 (exo_ok ht), rfl, h a n1⟩
end
section
variable {X : Cx} {pins : List (Addr × Obj)} {σ : L2.St} {H : Hp} {s : Shared} {a C : Addr}
/-- an exception that is tracked, as the library's rules look at it -/
theorem exo_inst (I : Inv X pins σ H s) {d : Option Addr} (e : H a = some (exo a C d)) (hd : ∀ dx, d = some dx → ∃ fs, H dx = some (exd dx fs)) : ∃ ox od, InstAt s.heap a ox C od := by
  obtain ⟨t1, ho⟩ := exo_at I.hok e
  cases d with
  | none => exact ⟨_, none, ho, rfl, rfl, trivial⟩
  | some dx =>
    obtain ⟨fs, e2⟩ := hd dx rfl
    obtain ⟨mA, hn, _⟩ := exd_at I.hok e2
    obtain ⟨od, h1, _⟩ := lookIn_ns hn
    exact ⟨_, some od, ho, rfl, rfl, h1⟩
end
/-- an exception that is held: its class, its dict if it has one -/
def ExAt (H : Hp) (a C : Addr) : Prop := ∃ d : Option Addr, H a = some (exo a C d) ∧ ∀ dx, d = some dx → ∃ fs, H dx = some (exd dx fs)
theorem ExAt.same {H H' : Hp} {a C : Addr} (h : ExAt H a C) (s : Same H H') : ExAt H' a C := let ⟨d, h1, h2⟩ := h; ⟨d, s _ _ h1, fun dx e => let ⟨fs, z⟩ := h2 dx e; ⟨fs, s _ _ z⟩⟩
/-- isinstance(e, c) -/
def rIsX (K : Frag) : List V → Hp → VK → Prop := fun xs H Q => ∃ (a C : Addr) (c : V) (u : Value) (b : Bool), xs = [.ref a, c] ∧ ClsV c u ∧ ExcC K C ∧ ExAt H a C ∧ kitOne K (.ref C) u = some b ∧ Q (.bl b) H
section
variable {X : Cx}
theorem call_isX : CallR X (.builtin "isinstance") (rIsX X.K) := by
  intro pins s σ H xs us Q I r h
  obtain ⟨a, C, c, u, b, rfl, k, T, ⟨d, e1, e2⟩, e, q⟩ := h
  obtain ⟨u1, u2, rfl, r1, r2⟩ := vals2 r
  have z := k.eq r2
  subst z
  obtain rfl : u1 = Value.ref a := r1
  obtain ⟨ox, od, J⟩ := exo_inst I e1 e2
  have hc : (clsIn X.K C).isSome = true := by
    have := T.hd
    unfold hasDictIn at this
    cases h : clsIn X.K C with
    | none => rw [h] at this; cases this
    | some _ => rfl
  exact kia_one (kitx_exc hc T.hg T.hk T.hs T.ha T.hn T.ht T.hm) I.kIn J e (fun z => nomatch z) fun tk => ⟨.bl b, H, I.tok tk, rfl, q⟩
/-- e.f, e an exception that is tracked -/
def tXfV (K : Frag) (f : Str) (te : TE) : TE := fun σ H Q => te σ H fun x H1 => ∃ (a C dx : Addr) (fs : List (Str × V)) (v : V), x = .ref a ∧ XfC K C ∧ findIn K (.ref C) f = some none ∧ H1 a = some (exo a C (some dx)) ∧ H1 dx = some (exd dx fs) ∧ fs.lookup f = some v ∧ Q v H1
theorem pe_xfV {e : Expr} {te : TE} {pos : Pos} {n : Str} (he : PE X e te) (hb : attributeBase e n X.env (eval e X.env) = eval e X.env := by rfl) : PE X (.Attribute e n pos) (tXfV X.K n te) := by
  refine ⟨fun pins s σ H Q I h => attr_of hb (thn (he.run pins s σ H _ I h) fun u s1 ⟨x, H1, I1, rx, a, C, dx, fs, v, ex, T, no, e1, e2, l, q⟩ => ?_)⟩
  subst ex
  obtain rfl : u = Value.ref a := rx
  obtain ⟨t1, ho⟩ := exo_at I1.hok e1
  obtain ⟨mA, hn, hr⟩ := exd_at I1.hok e2
  obtain ⟨od, h1, h2⟩ := lookIn_ns hn
  obtain ⟨u, hu, ru⟩ := RelO.some_of (v := v) (o := mA n) (by rw [← l]; exact hr n)
  have J : InstAt s1.heap a { cls := .ref C, dict := some dx, data := .fields #[.ref t1, .none, .none, .none, .bool false, .none] } C (some od) := ⟨ho, rfl, rfl, h1⟩
  exact HandSPX.exc_get I1.kIn J T.ga T.gg T.exC (findObj_own T.hdC no rfl (by rw [h2, hu])) (handed_of ru) ⟨v, H1, I1.tok _, ru, q⟩
end
end GX
namespace K08
open PySem GL GZ KW KR GU KU KM KS KP GX KH KD
open L2 hiding isNon
open KC hiding rLenS call_lenS
open KX (Small errD)
abbrev mGi : Stmt := inClass (top 61) 6
abbrev mSi : Stmt := inClass (top 61) 7
abbrev mIa : Stmt := inClass (top 61) 8
abbrev mIs : Stmt := inClass (top 61) 9
abbrev mUn : Stmt := inClass (top 61) 20
abbrev mRe : Stmt := inClass (top 61) 21
abbrev mSta : Stmt := inClass (top 61) 28
abbrev mEds : Stmt := inClass (top 61) 29
/-! ### lists that grow at the end -/
theorem dt_snoc {K : PySem.W.Frag} {H : Hp} {vs : List V} {ds : List PyData} {d : PyData} (h : DtAll K H vs (ds ++ [d])) : ∃ us u, vs = us ++ [u] ∧ DtAll K H us ds ∧ Dt K H u d := by
  have a := h.take ds.length
  have b := h.drop ds.length
  rw [List.take_left] at a
  rw [List.drop_left] at b
  generalize hu : vs.drop ds.length = us at b
  cases b with
  | cons b1 b2 =>
  cases b2
  exact ⟨_, _, by rw [← hu, List.take_append_drop], a, b1⟩
theorem at_end {xs : List V} {v : V} : atI (xs ++ [v]) (-1) = some v := by
  unfold atI ixN
  have tl : (xs ++ [v]).length = xs.length + 1 := by rw [List.length_append]; rfl
  rw [tl, if_neg (by omega), if_pos (by omega)]
  show (xs ++ [v])[((-1 : Int) + ((xs.length + 1 : Nat) : Int)).toNat]? = _
  rw [show ((-1 : Int) + ((xs.length + 1 : Nat) : Int)).toNat = xs.length by omega]
  simp
theorem cut_end {xs : List V} {v : V} : cutV (xs ++ [v]) none (some (-1)) = xs := by
  rw [cut_init, List.dropLast_concat]
/-- raise C(), C an own class without an own __init__ -/
theorem pmk_ex0 {X : Cx} {x : Str} {C : Addr} {p pos : Pos} {tl : List Value} {B newId initId : String} (F : ExcBaseFacts B newId initId tl) (q : PySem.W.excIn X.K C tl newId = true) (hm : X.mg x = some (.ref C)) (kC : PySem.W.keepIn X.K (.ref C) = true) (r : Raises X (.ref C)) (hg : L2.Gl X x) (hdb : (x == ("__debug__" : Str)) = false := by decide) :
    PMk X (.Call (.Name x p) [] [] pos) (fun _ H Q => Q (.ref C) none H) := by
  intro pins s σ H Q I h
  refine wpAny_Call_Name_kw (ld_glob I hg hm ?_ hdb)
  refine PySem.W.callWith_K0 I.kIn kC ?_
  obtain ⟨bm, N, nm, qn, bs, hdct, sn, sub, ab, col, dd, k0, k1, k2, k3, k5, mN, hC, hN, hni, T⟩ := exc_obj I.kIn q
  refine wpAny_call_exc_subT (rest := []) F T hC hN hni (fun h' e mk => ?_) (Nat.zero_le _)
  exact mk_of I mk r h (I.hok.gone mk.new)
/-- an own class over ValueError without an own __init__ -/
structure Ex0 (K : PySem.W.Frag) (mg : Str → Option Value) (name : Str) (C : Addr) : Prop where
  m : mg name = some (.ref C)
  q : PySem.W.excIn K C vE "ValueError.__new__" = true
  kC : PySem.W.keepIn K (.ref C) = true
  exC : PySem.W.subIn K (.ref C) (.type "BaseException") = some true
  tyC : PySem.W.typeIn K (.ref C) = some (.type "type")
theorem ps_rs0 {X : Cx} {name : Str} {C : Addr} {W : WX} {p pos pos' : Pos} (T : Ex0 X.K X.mg name C) (hc : X.calm = true) (tk : Takes X W) (hg : Gl X name) (hdb : (name == ("__debug__" : Str)) = false := by decide) :
    PS X (.Raise (some (.Call (.Name name p) [] [] pos)) none pos') (fun _ σ H => W (.ref C) none σ H) :=
  ps_raise hc tk (pmk_ex0 PySem.F.excBase_ValueError T.q T.m T.kC (raises_own T.exC T.tyC) hg hdb)
def spUn (K : PySem.W.Frag) (C CU : Addr) : Sp := fun vs H Q E => ∃ (S : List Addr) (x : Addr) (l : Nat) (kt : List PyData) (sg : Str) (b : BS), vs = [.ref x] ∧ Liv S H ∧ BenchAt K C S H x l kt sg b ∧ b.es.length ≤ 60 ∧ b.gs.length ≤ 1000 ∧
  (b.es = [] → E (.ref CU) none H) ∧
  (∀ es' e rs' p', b.es = es' ++ [e] → b.rs = rs' ++ [p'] → ∀ G, Exc x H G → BenchAt K C S G x l kt sg ⟨p', es', rs', b.gs ++ [(e, b.ps)]⟩ → Q (.int (es'.length : Nat)) G)
section
variable {P : Program} {w : World} {K : PySem.W.Frag} {mg : Str → Option Value} {base : Heap}
theorem scUn : FnScope ["self"] ["self"] (defScope mUn) := ⟨rfl, rfl, rfl, by decide +kernel, rfl, by decide +kernel, by decide +kernel⟩
theorem ok_un {f C CU : Addr} {fd : FuncData} (F : Fun K "undo" "Bench.undo" mUn f fd) (T : Txt mg) (B : BC K mg C) (XU : Ex0 K mg "NothingToUndo" CU) : FnOk P w K mg base (L2.CX P w) 1 f fd ["self"] (spUn K C CU) := by
  refine F.okX scUn (fun vs H Q E h => ?_) (fun cdv A outer s H vs Q E hr h => ?_)
  · obtain ⟨S, x, l, kt, sg, b, rfl, _⟩ := h
    rfl
  obtain ⟨S, x, l, kt, sg, b, rfl, LS, BA, hm, hg, qe, q⟩ := h
  obtain ⟨ps, es, rs, gs⟩ := b
  obtain ⟨dx, ka, ru, dn, rl, gn, e1, e2, e3, d4, d5, d6⟩ := BA.ex
  have xS := BA.xs
  refine ⟨_, pss_cons (ps_if (pt_val (pe_fld (pv 0) rfl)) (pss_one ps_never) pss_nil)
    (pss_cons (ps_if (pt_not (pt_truth (pe_fld (pv 0) rfl) (by intro _; rfl))) (pss_one (ps_rs0 XU rfl (takes_of rfl rfl rfl rfl) rfl)) pss_nil)
    (pss_cons (ps_fld (pv 0) (pe_tup (StX.pa_star (pe_fld (pv 0) rfl) (pa_cons (pe_tup (pa_cons (pe_ix ix_tup (pe_fld (pv 0) rfl) (pe_un un_neg pe_int) (fun _ _ => rfl)) (pa_cons (pe_fld (pv 0) rfl) pa_nil))) pa_nil))) rfl)
    (pss_cons (ps_fld (pv 0) (pe_slice sl_tupD (pe_fld (pv 0) rfl) po_none (po_some (pe_un un_neg pe_int))) rfl)
    (pss_cons (ps_fld (pv 0) (pe_slice sl_tupD (pe_fld (pv 0) rfl) po_none (po_some (pe_un un_neg pe_int))) rfl)
    (pss_cons (ps_fld (pv 0) (pe_ix ix_tup (pe_fld (pv 0) rfl) (pe_un un_neg pe_int) (fun _ _ => rfl)) rfl)
    (pss_one (ps_ret (pe_callB call_len_seq (by rfl) T.c.len PySem.boot_len (pa_cons (pe_fld (pv 0) rfl) pa_nil))))))))), ?_⟩
  refine ⟨_, rfl, x, C, dx, _, _, rfl, e1, B.cl, B.nb, lk_busy, false, rfl, iteF ?_⟩
  obtain ⟨dns0, e40, D40⟩ := dt_tup d4
  refine ⟨_, rfl, x, C, dx, _, _, rfl, e1, B.cl, B.nd, lk_done, !dns0.isEmpty, .inr (.inl ⟨dns0, .inl (.inl (hz_sub _ _ e40)), rfl⟩), ?_⟩
  rcases List.eq_nil_or_concat es with rfl | ⟨es', e, rfl⟩
  · have z : dns0 = [] := List.eq_nil_of_length_eq_zero D40.length
    rw [z]
    exact iteT (qe rfl)
  rw [List.concat_eq_append] at *
  obtain ⟨dns, ve, rfl, D4, De⟩ := dt_snoc D40
  have e4 := e40
  have z : (dns ++ [ve]).isEmpty = false := by cases dns <;> rfl
  rw [z]
  refine iteF ?_
  have hle := BA.le
  obtain ⟨rs', p', rfl⟩ : ∃ rs' p', rs = rs' ++ [p'] := by
    rcases List.eq_nil_or_concat rs with rfl | ⟨rs', p', rfl⟩
    · simp at hle
    · exact ⟨rs', p', List.concat_eq_append⟩
  obtain ⟨rls0, e50, D50⟩ := dt_tup d5
  rw [show (rs' ++ [p'] ++ [ps]).map rT = (rs'.map rT ++ [rT p']) ++ [rT ps] by simp] at D50
  obtain ⟨rls1, vp, rfl, D51, _⟩ := dt_snoc D50
  obtain ⟨rls, vq0, rfl, D5, Dq0⟩ := dt_snoc D51
  obtain ⟨vq, vqs, rfl, _, _⟩ := dt_ref (show Dt K (Hz S H) vq0 (.tuple (p'.map pS)) from Dq0)
  have Dq : Dt K (Hz S H) (.ref vq) (.tuple (p'.map pS)) := Dq0
  have e5 := e50
  obtain ⟨gns, e6, D6⟩ := dt_tup d6
  have gl : gns.length = gs.length := by rw [D6.length, List.length_map]
  have hg' : gs.length ≤ 1000 := hg
  have hh : H x = some (.ins C dx (bf (.ref ka) (.str sg) (.ref ru) (.ref dn) (.ref rl) (.ref gn))) := e1
  have xx : Exc x H H := Exc.refl
  have LL := LS
  refine ⟨_, rfl, x, C, dx, _, _, rfl, hh, B.cl, B.ng, lk_gone, gn, gns, rfl, .inl (.inl (.inl (hz_sub _ _ e6))), _, rfl, x, C, dx, _, _, rfl, hh, B.cl, B.nd, lk_done, _, rfl, dn, _, -1, ve, rfl, rfl, .inl (.inl (hz_sub _ _ e4)), at_end, _, rfl, x, C, dx, _, _, rfl, hh, B.cl, B.nr, lk_rule, by show 2 ≤ 2 ^ 24; decide, fun p1 np1 => ?_⟩
  have gp1 : Hz S (upd H p1 (.tup [ve, .ref ru])) p1 = some (.tup [ve, .ref ru]) := LL.new np1 _
  replace hh := same_new np1 (.tup [ve, .ref ru]) _ _ hh
  replace xx := xx.new np1 (.tup [ve, .ref ru])
  replace LL := LL.same (same_new np1 (.tup [ve, .ref ru]))
  generalize upd H p1 (.tup [ve, .ref ru]) = J1 at hh xx LL gp1 ⊢
  refine ⟨by show _ ≤ 2 ^ 24; rw [List.length_append]; show _ + 1 ≤ _; omega, fun p2 np2 => ?_⟩
  have gp2 : Hz S (upd J1 p2 (.tup (gns ++ [.ref p1]))) p2 = some (.tup (gns ++ [.ref p1])) := LL.new np2 _
  replace hh := same_new np2 (.tup (gns ++ [.ref p1])) _ _ hh
  replace xx := xx.new np2 (.tup (gns ++ [.ref p1]))
  replace LL := LL.same (same_new np2 (.tup (gns ++ [.ref p1])))
  replace gp1 := hz_same (S := S) (same_new np2 (.tup (gns ++ [.ref p1]))) _ _ gp1
  generalize upd J1 p2 (.tup (gns ++ [.ref p1])) = J2 at hh xx LL gp1 gp2 ⊢
  refine ⟨_, rfl, x, C, dx, _, rfl, hh, B.cl, B.ng, by show 7 < 1000; decide, ?_⟩
  replace hh : upd J2 x (.ins C dx (putF "gone" (.ref p2) (bf (.ref ka) (.str sg) (.ref ru) (.ref dn) (.ref rl) (.ref gn)))) x = some (.ins C dx (bf (.ref ka) (.str sg) (.ref ru) (.ref dn) (.ref rl) (.ref p2))) := upd_same
  replace xx : Exc x H (upd J2 x (.ins C dx (putF "gone" (.ref p2) (bf (.ref ka) (.str sg) (.ref ru) (.ref dn) (.ref rl) (.ref gn))))) := xx.put _
  replace LL : Liv S (upd J2 x (.ins C dx (putF "gone" (.ref p2) (bf (.ref ka) (.str sg) (.ref ru) (.ref dn) (.ref rl) (.ref gn))))) := LL.put (fun xs z => by cases z)
  replace gp1 : Hz S (upd J2 x (.ins C dx (putF "gone" (.ref p2) (bf (.ref ka) (.str sg) (.ref ru) (.ref dn) (.ref rl) (.ref gn))))) p1 = some (.tup [ve, .ref ru]) := by rw [hz_put xS]; exact gp1
  replace gp2 : Hz S (upd J2 x (.ins C dx (putF "gone" (.ref p2) (bf (.ref ka) (.str sg) (.ref ru) (.ref dn) (.ref rl) (.ref gn))))) p2 = some (.tup (gns ++ [.ref p1])) := by rw [hz_put xS]; exact gp2
  generalize upd J2 x (.ins C dx (putF "gone" (.ref p2) (bf (.ref ka) (.str sg) (.ref ru) (.ref dn) (.ref rl) (.ref gn)))) = J3 at hh xx LL gp1 gp2 ⊢
  refine ⟨_, rfl, x, C, dx, _, _, rfl, hh, B.cl, B.nd, lk_done, _, rfl, _, rfl, dn, _, rfl, hz_sub _ _ (hz_exc xS xx _ _ e4), fun p3 J4 sp3 gp30 => ?_⟩
  rw [show cutV (dns ++ [ve]) none (some (-1)) = dns from cut_end] at gp30
  have gp3 : Hz S J4 p3 = some (.tup dns) := LL.tup sp3 gp30
  replace hh := sp3 _ _ hh
  replace xx := xx.trans (Exc.of sp3)
  replace LL := LL.same sp3
  replace gp1 := hz_same (S := S) sp3 _ _ gp1
  replace gp2 := hz_same (S := S) sp3 _ _ gp2
  refine ⟨_, rfl, x, C, dx, _, rfl, hh, B.cl, B.nd, by show 7 < 1000; decide, ?_⟩
  replace hh : upd J4 x (.ins C dx (putF "done" (.ref p3) (bf (.ref ka) (.str sg) (.ref ru) (.ref dn) (.ref rl) (.ref p2)))) x = some (.ins C dx (bf (.ref ka) (.str sg) (.ref ru) (.ref p3) (.ref rl) (.ref p2))) := upd_same
  replace xx : Exc x H (upd J4 x (.ins C dx (putF "done" (.ref p3) (bf (.ref ka) (.str sg) (.ref ru) (.ref dn) (.ref rl) (.ref p2))))) := xx.put _
  replace LL : Liv S (upd J4 x (.ins C dx (putF "done" (.ref p3) (bf (.ref ka) (.str sg) (.ref ru) (.ref dn) (.ref rl) (.ref p2))))) := LL.put (fun xs z => by cases z)
  replace gp1 : Hz S (upd J4 x (.ins C dx (putF "done" (.ref p3) (bf (.ref ka) (.str sg) (.ref ru) (.ref dn) (.ref rl) (.ref p2))))) p1 = some (.tup [ve, .ref ru]) := by rw [hz_put xS]; exact gp1
  replace gp2 : Hz S (upd J4 x (.ins C dx (putF "done" (.ref p3) (bf (.ref ka) (.str sg) (.ref ru) (.ref dn) (.ref rl) (.ref p2))))) p2 = some (.tup (gns ++ [.ref p1])) := by rw [hz_put xS]; exact gp2
  replace gp3 : Hz S (upd J4 x (.ins C dx (putF "done" (.ref p3) (bf (.ref ka) (.str sg) (.ref ru) (.ref dn) (.ref rl) (.ref p2))))) p3 = some (.tup dns) := by rw [hz_put xS]; exact gp3
  generalize upd J4 x (.ins C dx (putF "done" (.ref p3) (bf (.ref ka) (.str sg) (.ref ru) (.ref dn) (.ref rl) (.ref p2)))) = J5 at hh xx LL gp1 gp2 gp3 ⊢
  refine ⟨_, rfl, x, C, dx, _, _, rfl, hh, B.cl, B.nl, lk_rules, _, rfl, _, rfl, rl, _, rfl, hz_sub _ _ (hz_exc xS xx _ _ e5), fun p4 J6 sp4 gp40 => ?_⟩
  rw [show cutV (rls ++ [.ref vq] ++ [vp]) none (some (-1)) = rls ++ [.ref vq] from cut_end] at gp40
  have gp4 : Hz S J6 p4 = some (.tup (rls ++ [.ref vq])) := LL.tup sp4 gp40
  replace hh := sp4 _ _ hh
  replace xx := xx.trans (Exc.of sp4)
  replace LL := LL.same sp4
  replace gp1 := hz_same (S := S) sp4 _ _ gp1
  replace gp2 := hz_same (S := S) sp4 _ _ gp2
  replace gp3 := hz_same (S := S) sp4 _ _ gp3
  refine ⟨_, rfl, x, C, dx, _, rfl, hh, B.cl, B.nl, by show 7 < 1000; decide, ?_⟩
  replace hh : upd J6 x (.ins C dx (putF "rules" (.ref p4) (bf (.ref ka) (.str sg) (.ref ru) (.ref p3) (.ref rl) (.ref p2)))) x = some (.ins C dx (bf (.ref ka) (.str sg) (.ref ru) (.ref p3) (.ref p4) (.ref p2))) := upd_same
  replace xx : Exc x H (upd J6 x (.ins C dx (putF "rules" (.ref p4) (bf (.ref ka) (.str sg) (.ref ru) (.ref p3) (.ref rl) (.ref p2))))) := xx.put _
  replace LL : Liv S (upd J6 x (.ins C dx (putF "rules" (.ref p4) (bf (.ref ka) (.str sg) (.ref ru) (.ref p3) (.ref rl) (.ref p2))))) := LL.put (fun xs z => by cases z)
  replace gp1 : Hz S (upd J6 x (.ins C dx (putF "rules" (.ref p4) (bf (.ref ka) (.str sg) (.ref ru) (.ref p3) (.ref rl) (.ref p2))))) p1 = some (.tup [ve, .ref ru]) := by rw [hz_put xS]; exact gp1
  replace gp2 : Hz S (upd J6 x (.ins C dx (putF "rules" (.ref p4) (bf (.ref ka) (.str sg) (.ref ru) (.ref p3) (.ref rl) (.ref p2))))) p2 = some (.tup (gns ++ [.ref p1])) := by rw [hz_put xS]; exact gp2
  replace gp3 : Hz S (upd J6 x (.ins C dx (putF "rules" (.ref p4) (bf (.ref ka) (.str sg) (.ref ru) (.ref p3) (.ref rl) (.ref p2))))) p3 = some (.tup dns) := by rw [hz_put xS]; exact gp3
  replace gp4 : Hz S (upd J6 x (.ins C dx (putF "rules" (.ref p4) (bf (.ref ka) (.str sg) (.ref ru) (.ref p3) (.ref rl) (.ref p2))))) p4 = some (.tup (rls ++ [.ref vq])) := by rw [hz_put xS]; exact gp4
  generalize upd J6 x (.ins C dx (putF "rules" (.ref p4) (bf (.ref ka) (.str sg) (.ref ru) (.ref p3) (.ref rl) (.ref p2)))) = J7 at hh xx LL gp1 gp2 gp3 gp4 ⊢
  refine ⟨_, rfl, x, C, dx, _, _, rfl, hh, B.cl, B.nl, lk_rules, _, rfl, p4, _, -1, .ref vq, rfl, rfl, .inl (.inl (hz_sub _ _ gp4)), at_end, ?_⟩
  refine ⟨_, rfl, x, C, dx, _, rfl, hh, B.cl, B.nr, by show 7 < 1000; decide, ?_⟩
  replace hh : upd J7 x (.ins C dx (putF "rule" (.ref vq) (bf (.ref ka) (.str sg) (.ref ru) (.ref p3) (.ref p4) (.ref p2)))) x = some (.ins C dx (bf (.ref ka) (.str sg) (.ref vq) (.ref p3) (.ref p4) (.ref p2))) := upd_same
  replace xx : Exc x H (upd J7 x (.ins C dx (putF "rule" (.ref vq) (bf (.ref ka) (.str sg) (.ref ru) (.ref p3) (.ref p4) (.ref p2))))) := xx.put _
  replace LL : Liv S (upd J7 x (.ins C dx (putF "rule" (.ref vq) (bf (.ref ka) (.str sg) (.ref ru) (.ref p3) (.ref p4) (.ref p2))))) := LL.put (fun xs z => by cases z)
  replace gp1 : Hz S (upd J7 x (.ins C dx (putF "rule" (.ref vq) (bf (.ref ka) (.str sg) (.ref ru) (.ref p3) (.ref p4) (.ref p2))))) p1 = some (.tup [ve, .ref ru]) := by rw [hz_put xS]; exact gp1
  replace gp2 : Hz S (upd J7 x (.ins C dx (putF "rule" (.ref vq) (bf (.ref ka) (.str sg) (.ref ru) (.ref p3) (.ref p4) (.ref p2))))) p2 = some (.tup (gns ++ [.ref p1])) := by rw [hz_put xS]; exact gp2
  replace gp3 : Hz S (upd J7 x (.ins C dx (putF "rule" (.ref vq) (bf (.ref ka) (.str sg) (.ref ru) (.ref p3) (.ref p4) (.ref p2))))) p3 = some (.tup dns) := by rw [hz_put xS]; exact gp3
  replace gp4 : Hz S (upd J7 x (.ins C dx (putF "rule" (.ref vq) (bf (.ref ka) (.str sg) (.ref ru) (.ref p3) (.ref p4) (.ref p2))))) p4 = some (.tup (rls ++ [.ref vq])) := by rw [hz_put xS]; exact gp4
  generalize upd J7 x (.ins C dx (putF "rule" (.ref vq) (bf (.ref ka) (.str sg) (.ref ru) (.ref p3) (.ref p4) (.ref p2)))) = J8 at hh xx LL gp1 gp2 gp3 gp4 ⊢
  refine ⟨_, rfl, x, C, dx, _, _, rfl, hh, B.cl, B.nd, lk_done, p3, dns, rfl, .inr (.inl (.inl (hz_sub _ _ gp3))), ?_⟩
  rw [show ((dns.length : Nat) : Int) = ((es'.length : Nat) : Int) by rw [D4.length]]
  have ss := hz_exc xS xx
  refine q es' e rs' p' rfl rfl _ xx ⟨xS, BA.vr p' (by simp), fun q hq => BA.vr q (by simp [hq]), ?_, ?_, BA.l1, BA.l4, dx, ka, vq, p3, p4, p2, hh, e2.same ss, Dq.same ss, .tup gp3 (D4.same ss), ?_, ?_⟩
  · intro g hg
    rcases List.mem_append.mp hg with hg | hg
    · exact BA.vg g hg
    · rw [List.mem_singleton.mp hg]; exact BA.vl
  · have := BA.le
    simp only [List.length_append, List.length_cons, List.length_nil] at this
    show rs'.length = es'.length
    omega
  · rw [List.map_append]
    exact .tup gp4 ((D5.append (.cons Dq .nil)).same ss)
  · rw [List.map_append]
    exact .tup gp2 ((D6.same ss).append (.cons (.tup gp1 (.cons (De.same ss) (.cons (e3.same ss) .nil))) .nil))
end
def spRe (K : PySem.W.Frag) (C CU : Addr) : Sp := fun vs H Q E => ∃ (S : List Addr) (x : Addr) (l : Nat) (kt : List PyData) (sg : Str) (b : BS), vs = [.ref x] ∧ Liv S H ∧ BenchAt K C S H x l kt sg b ∧ b.es.length ≤ 60 ∧ b.gs.length ≤ 1000 ∧
  (b.gs = [] → E (.ref CU) none H) ∧
  (∀ gs' e p', b.gs = gs' ++ [(e, p')] → ∀ G, Exc x H G → BenchAt K C S G x l kt sg ⟨p', b.es ++ [e], b.rs ++ [b.ps], gs'⟩ → Q (.int ((b.es.length + 1 : Nat) : Int)) G)
section
variable {P : Program} {w : World} {K : PySem.W.Frag} {mg : Str → Option Value} {base : Heap}
theorem scRe : FnScope ["self", "edit", "rule"] ["self"] (defScope mRe) := ⟨rfl, rfl, rfl, by decide +kernel, rfl, by decide +kernel, by decide +kernel⟩
theorem ok_re {f C CU : Addr} {fd : FuncData} (F : Fun K "redo" "Bench.redo" mRe f fd) (T : Txt mg) (B : BC K mg C) (XU : Ex0 K mg "NothingToRedo" CU) : FnOk P w K mg base (L2.CX P w) 1 f fd ["self"] (spRe K C CU) := by
  refine F.okX scRe (fun vs H Q E h => ?_) (fun cdv A outer s H vs Q E hr h => ?_)
  · obtain ⟨S, x, l, kt, sg, b, rfl, _⟩ := h
    rfl
  obtain ⟨S, x, l, kt, sg, b, rfl, LS, BA, hm, hg, qe, q⟩ := h
  obtain ⟨ps, es, rs, gs⟩ := b
  obtain ⟨dx, ka, ru, dn, rl, gn, e1, e2, e3, d4, d5, d6⟩ := BA.ex
  have xS := BA.xs
  refine ⟨_, pss_cons (ps_if (pt_val (pe_fld (pv 0) rfl)) (pss_one ps_never) pss_nil)
    (pss_cons (ps_if (pt_not (pt_truth (pe_fld (pv 0) rfl) (by intro _; rfl))) (pss_one (ps_rs0 XU rfl (takes_of rfl rfl rfl rfl) rfl)) pss_nil)
    (pss_cons (ps_asg (pe_ix ix_tup (pe_fld (pv 0) rfl) (pe_un un_neg pe_int) (fun _ _ => rfl)) (pg_tup (by rfl) (pgs_cons (pg_name (i := 1) scRe.nd rfl (Or.inl rfl)) (pgs_cons (pg_name (i := 2) scRe.nd rfl (Or.inl rfl)) pgs_nil))))
    (pss_cons (ps_fld (pv 0) (pe_slice sl_tupD (pe_fld (pv 0) rfl) po_none (po_some (pe_un un_neg pe_int))) rfl)
    (pss_cons (ps_fld (pv 0) (pe_tup (StX.pa_star (pe_fld (pv 0) rfl) (pa_cons (pv 1) pa_nil))) rfl)
    (pss_cons (ps_fld (pv 0) (pe_tup (StX.pa_star (pe_fld (pv 0) rfl) (pa_cons (pv 2) pa_nil))) rfl)
    (pss_cons (ps_fld (pv 0) (pv 2) rfl)
    (pss_one (ps_ret (pe_callB call_len_seq (by rfl) T.c.len PySem.boot_len (pa_cons (pe_fld (pv 0) rfl) pa_nil)))))))))), ?_⟩
  refine ⟨_, rfl, x, C, dx, _, _, rfl, e1, B.cl, B.nb, lk_busy, false, rfl, iteF ?_⟩
  obtain ⟨gns0, e60, D60⟩ := dt_tup d6
  refine ⟨_, rfl, x, C, dx, _, _, rfl, e1, B.cl, B.ng, lk_gone, !gns0.isEmpty, .inr (.inl ⟨gns0, .inl (.inl (hz_sub _ _ e60)), rfl⟩), ?_⟩
  rcases List.eq_nil_or_concat gs with rfl | ⟨gs', g, rfl⟩
  · have z : gns0 = [] := List.eq_nil_of_length_eq_zero D60.length
    rw [z]
    exact iteT (qe rfl)
  rw [List.concat_eq_append] at *
  obtain ⟨e, p'⟩ := g
  rw [show (gs' ++ [(e, p')]).map gD = gs'.map gD ++ [gD (e, p')] by simp] at D60
  obtain ⟨gns, vg0, rfl, D6, Dg0⟩ := dt_snoc D60
  obtain ⟨vg, vgs, rfl, eg, Dg⟩ := dt_ref (show Dt K (Hz S H) vg0 (.tuple [e, rT p']) from Dg0)
  cases Dg with
  | @cons ve vr0 d0 dr0 De Dg2 =>
  cases Dg2 with
  | @cons vq0 vr1 d1 dr1 Dq0 Dg3 =>
  cases Dg3
  obtain ⟨vq, vqs, rfl, _, _⟩ := dt_ref (show Dt K (Hz S H) vq0 (.tuple (p'.map pS)) from Dq0)
  have Dq : Dt K (Hz S H) (.ref vq) (.tuple (p'.map pS)) := Dq0
  have e6 := e60
  have z : (gns ++ [V.ref vg]).isEmpty = false := by cases gns <;> rfl
  rw [z]
  refine iteF ?_
  obtain ⟨dns, e4, D4⟩ := dt_tup d4
  obtain ⟨rls, e5, D5⟩ := dt_tup d5
  have hm' : es.length ≤ 60 := hm
  have dl := D4.length
  have rl' : rls.length = es.length + 1 := by
    have := BA.le
    rw [D5.length, List.length_map, List.length_append]
    exact congrArg (· + 1) this
  have hh : H x = some (.ins C dx (bf (.ref ka) (.str sg) (.ref ru) (.ref dn) (.ref rl) (.ref gn))) := e1
  have xx : Exc x H H := Exc.refl
  have LL := LS
  refine ⟨_, rfl, x, C, dx, _, _, rfl, hh, B.cl, B.ng, lk_gone, _, rfl, gn, _, -1, .ref vg, rfl, rfl, .inl (.inl (hz_sub _ _ e6)), at_end, vg, _, rfl, .inl (.inl (hz_sub _ _ eg)), rfl, _, _, rfl, _, _, rfl, rfl, ?_⟩
  refine ⟨_, rfl, x, C, dx, _, _, rfl, hh, B.cl, B.ng, lk_gone, _, rfl, _, rfl, gn, _, rfl, hz_sub _ _ e6, fun p1 J1 sp1 gp10 => ?_⟩
  rw [show cutV (gns ++ [.ref vg]) none (some (-1)) = gns from cut_end] at gp10
  have gp1 : Hz S J1 p1 = some (.tup gns) := LL.tup sp1 gp10
  replace hh := sp1 _ _ hh
  replace xx := xx.trans (Exc.of sp1)
  replace LL := LL.same sp1
  refine ⟨_, rfl, x, C, dx, _, rfl, hh, B.cl, B.ng, by show 7 < 1000; decide, ?_⟩
  replace hh : upd J1 x (.ins C dx (putF "gone" (.ref p1) (bf (.ref ka) (.str sg) (.ref ru) (.ref dn) (.ref rl) (.ref gn)))) x = some (.ins C dx (bf (.ref ka) (.str sg) (.ref ru) (.ref dn) (.ref rl) (.ref p1))) := upd_same
  replace xx : Exc x H (upd J1 x (.ins C dx (putF "gone" (.ref p1) (bf (.ref ka) (.str sg) (.ref ru) (.ref dn) (.ref rl) (.ref gn))))) := xx.put _
  replace LL : Liv S (upd J1 x (.ins C dx (putF "gone" (.ref p1) (bf (.ref ka) (.str sg) (.ref ru) (.ref dn) (.ref rl) (.ref gn))))) := LL.put (fun xs z => by cases z)
  replace gp1 : Hz S (upd J1 x (.ins C dx (putF "gone" (.ref p1) (bf (.ref ka) (.str sg) (.ref ru) (.ref dn) (.ref rl) (.ref gn))))) p1 = some (.tup gns) := by rw [hz_put xS]; exact gp1
  generalize upd J1 x (.ins C dx (putF "gone" (.ref p1) (bf (.ref ka) (.str sg) (.ref ru) (.ref dn) (.ref rl) (.ref gn)))) = J2 at hh xx LL gp1 ⊢
  refine ⟨_, rfl, x, C, dx, _, _, rfl, hh, B.cl, B.nd, lk_done, dn, dns, rfl, .inl (.inl (.inl (hz_sub _ _ (hz_exc xS xx _ _ e4)))), _, rfl, by show _ ≤ 2 ^ 24; rw [List.length_append]; show _ + 1 ≤ _; omega, fun p2 np2 => ?_⟩
  have gp2 : Hz S (upd J2 p2 (.tup (dns ++ [ve]))) p2 = some (.tup (dns ++ [ve])) := LL.new np2 _
  replace hh := same_new np2 (.tup (dns ++ [ve])) _ _ hh
  replace xx := xx.new np2 (.tup (dns ++ [ve]))
  replace LL := LL.same (same_new np2 (.tup (dns ++ [ve])))
  replace gp1 := hz_same (S := S) (same_new np2 (.tup (dns ++ [ve]))) _ _ gp1
  generalize upd J2 p2 (.tup (dns ++ [ve])) = J3 at hh xx LL gp1 gp2 ⊢
  refine ⟨_, rfl, x, C, dx, _, rfl, hh, B.cl, B.nd, by show 7 < 1000; decide, ?_⟩
  replace hh : upd J3 x (.ins C dx (putF "done" (.ref p2) (bf (.ref ka) (.str sg) (.ref ru) (.ref dn) (.ref rl) (.ref p1)))) x = some (.ins C dx (bf (.ref ka) (.str sg) (.ref ru) (.ref p2) (.ref rl) (.ref p1))) := upd_same
  replace xx : Exc x H (upd J3 x (.ins C dx (putF "done" (.ref p2) (bf (.ref ka) (.str sg) (.ref ru) (.ref dn) (.ref rl) (.ref p1))))) := xx.put _
  replace LL : Liv S (upd J3 x (.ins C dx (putF "done" (.ref p2) (bf (.ref ka) (.str sg) (.ref ru) (.ref dn) (.ref rl) (.ref p1))))) := LL.put (fun xs z => by cases z)
  replace gp1 : Hz S (upd J3 x (.ins C dx (putF "done" (.ref p2) (bf (.ref ka) (.str sg) (.ref ru) (.ref dn) (.ref rl) (.ref p1))))) p1 = some (.tup gns) := by rw [hz_put xS]; exact gp1
  replace gp2 : Hz S (upd J3 x (.ins C dx (putF "done" (.ref p2) (bf (.ref ka) (.str sg) (.ref ru) (.ref dn) (.ref rl) (.ref p1))))) p2 = some (.tup (dns ++ [ve])) := by rw [hz_put xS]; exact gp2
  generalize upd J3 x (.ins C dx (putF "done" (.ref p2) (bf (.ref ka) (.str sg) (.ref ru) (.ref dn) (.ref rl) (.ref p1)))) = J4 at hh xx LL gp1 gp2 ⊢
  refine ⟨_, rfl, x, C, dx, _, _, rfl, hh, B.cl, B.nl, lk_rules, rl, rls, rfl, .inl (.inl (.inl (hz_sub _ _ (hz_exc xS xx _ _ e5)))), _, rfl, by show _ ≤ 2 ^ 24; rw [List.length_append]; show _ + 1 ≤ _; omega, fun p3 np3 => ?_⟩
  have gp3 : Hz S (upd J4 p3 (.tup (rls ++ [.ref vq]))) p3 = some (.tup (rls ++ [.ref vq])) := LL.new np3 _
  replace hh := same_new np3 (.tup (rls ++ [.ref vq])) _ _ hh
  replace xx := xx.new np3 (.tup (rls ++ [.ref vq]))
  replace LL := LL.same (same_new np3 (.tup (rls ++ [.ref vq])))
  replace gp1 := hz_same (S := S) (same_new np3 (.tup (rls ++ [.ref vq]))) _ _ gp1
  replace gp2 := hz_same (S := S) (same_new np3 (.tup (rls ++ [.ref vq]))) _ _ gp2
  generalize upd J4 p3 (.tup (rls ++ [.ref vq])) = J5 at hh xx LL gp1 gp2 gp3 ⊢
  refine ⟨_, rfl, x, C, dx, _, rfl, hh, B.cl, B.nl, by show 7 < 1000; decide, ?_⟩
  replace hh : upd J5 x (.ins C dx (putF "rules" (.ref p3) (bf (.ref ka) (.str sg) (.ref ru) (.ref p2) (.ref rl) (.ref p1)))) x = some (.ins C dx (bf (.ref ka) (.str sg) (.ref ru) (.ref p2) (.ref p3) (.ref p1))) := upd_same
  replace xx : Exc x H (upd J5 x (.ins C dx (putF "rules" (.ref p3) (bf (.ref ka) (.str sg) (.ref ru) (.ref p2) (.ref rl) (.ref p1))))) := xx.put _
  replace LL : Liv S (upd J5 x (.ins C dx (putF "rules" (.ref p3) (bf (.ref ka) (.str sg) (.ref ru) (.ref p2) (.ref rl) (.ref p1))))) := LL.put (fun xs z => by cases z)
  replace gp1 : Hz S (upd J5 x (.ins C dx (putF "rules" (.ref p3) (bf (.ref ka) (.str sg) (.ref ru) (.ref p2) (.ref rl) (.ref p1))))) p1 = some (.tup gns) := by rw [hz_put xS]; exact gp1
  replace gp2 : Hz S (upd J5 x (.ins C dx (putF "rules" (.ref p3) (bf (.ref ka) (.str sg) (.ref ru) (.ref p2) (.ref rl) (.ref p1))))) p2 = some (.tup (dns ++ [ve])) := by rw [hz_put xS]; exact gp2
  replace gp3 : Hz S (upd J5 x (.ins C dx (putF "rules" (.ref p3) (bf (.ref ka) (.str sg) (.ref ru) (.ref p2) (.ref rl) (.ref p1))))) p3 = some (.tup (rls ++ [.ref vq])) := by rw [hz_put xS]; exact gp3
  generalize upd J5 x (.ins C dx (putF "rules" (.ref p3) (bf (.ref ka) (.str sg) (.ref ru) (.ref p2) (.ref rl) (.ref p1)))) = J6 at hh xx LL gp1 gp2 gp3 ⊢
  refine ⟨_, rfl, _, rfl, x, C, dx, _, rfl, hh, B.cl, B.nr, by show 7 < 1000; decide, ?_⟩
  replace hh : upd J6 x (.ins C dx (putF "rule" (.ref vq) (bf (.ref ka) (.str sg) (.ref ru) (.ref p2) (.ref p3) (.ref p1)))) x = some (.ins C dx (bf (.ref ka) (.str sg) (.ref vq) (.ref p2) (.ref p3) (.ref p1))) := upd_same
  replace xx : Exc x H (upd J6 x (.ins C dx (putF "rule" (.ref vq) (bf (.ref ka) (.str sg) (.ref ru) (.ref p2) (.ref p3) (.ref p1))))) := xx.put _
  replace LL : Liv S (upd J6 x (.ins C dx (putF "rule" (.ref vq) (bf (.ref ka) (.str sg) (.ref ru) (.ref p2) (.ref p3) (.ref p1))))) := LL.put (fun xs z => by cases z)
  replace gp1 : Hz S (upd J6 x (.ins C dx (putF "rule" (.ref vq) (bf (.ref ka) (.str sg) (.ref ru) (.ref p2) (.ref p3) (.ref p1))))) p1 = some (.tup gns) := by rw [hz_put xS]; exact gp1
  replace gp2 : Hz S (upd J6 x (.ins C dx (putF "rule" (.ref vq) (bf (.ref ka) (.str sg) (.ref ru) (.ref p2) (.ref p3) (.ref p1))))) p2 = some (.tup (dns ++ [ve])) := by rw [hz_put xS]; exact gp2
  replace gp3 : Hz S (upd J6 x (.ins C dx (putF "rule" (.ref vq) (bf (.ref ka) (.str sg) (.ref ru) (.ref p2) (.ref p3) (.ref p1))))) p3 = some (.tup (rls ++ [.ref vq])) := by rw [hz_put xS]; exact gp3
  generalize upd J6 x (.ins C dx (putF "rule" (.ref vq) (bf (.ref ka) (.str sg) (.ref ru) (.ref p2) (.ref p3) (.ref p1)))) = J7 at hh xx LL gp1 gp2 gp3 ⊢
  have e8 : (dns ++ [ve]).length = es.length + 1 := by rw [List.length_append, D4.length]; rfl
  refine ⟨_, rfl, x, C, dx, _, _, rfl, hh, B.cl, B.nd, lk_done, p2, _, rfl, .inr (.inl (.inl (hz_sub _ _ gp2))), ?_⟩
  rw [e8]
  have ss := hz_exc xS xx
  refine q gs' e p' rfl _ xx ⟨xS, BA.vg (e, p') (by simp), ?_, fun g hg => BA.vg g (by simp [hg]), ?_, BA.l1, BA.l4, dx, ka, vq, p2, p3, p1, hh, e2.same ss, Dq.same ss, .tup gp2 ((D4.append (.cons De .nil)).same ss), ?_, .tup gp1 (D6.same ss)⟩
  · intro r hr
    rcases List.mem_append.mp hr with hr | hr
    · exact BA.vr r hr
    · rw [List.mem_singleton.mp hr]; exact BA.vl
  · show (rs ++ [ps]).length = (es ++ [e]).length
    have := BA.le
    rw [List.length_append, List.length_append]
    exact congrArg (· + 1) this
  · show Dt K _ (.ref p3) (.tuple ((rs ++ [ps] ++ [p']).map rT))
    rw [List.map_append]
    exact .tup gp3 ((D5.append (.cons Dq .nil)).same ss)
end
end K08
namespace K08
open PySem GL GZ KW KR GU KU KM KS KP GX KH KD GO
open L2 hiding isNon
open KC hiding rLenS call_lenS
open KX (Small errD)
/-- o.m() that may raise, in a try -/
def tMeth0S (C : Addr) (m : Str) (sp : Sp) (E : L2.St → XK) (ta : TE) : TE := fun σ H Q => ta σ H fun x H1 => ∃ a dx fs, x = .ref a ∧ H1 a = some (.ins C dx fs) ∧ fs.lookup m = none ∧ sp [x] H1 Q (E σ)
theorem pe_meth0S {X : Cx} {CX : CXT} {k : Nat} {C f : Addr} {fd : FuncData} {ps : List Str} {sp : Sp} {E : L2.St → XK} {m : Str} {o : Expr} {ta : TE} {pos apos : Pos} {pl : Sem Bool} (he : PE X o ta) (c : Cls X.K C) (hm : Meth X.K C m f) (F : FnOk X.prog X.w X.K X.mg X.base CX k f fd ps sp) (hr : Room k X.A) (hb : L2.Binds X.K fd ps []) (hx : ∀ σ, PassesAt CX X σ (E σ))
    (ht : eval (.Call (.Attribute o m apos) [] [] pos) X.env = (do
      let ov ← eval o X.env
      standAt apos.atName
      let (f, first) ← holding [ov] (getMethod ov m pl)
      callWith pos f first (backTo pos (starEach [] X.env)) (backToKw pos (keywordEach [] X.env))) := by rfl) :
    PE X (.Call (.Attribute o m apos) [] [] pos) (tMeth0S C m sp E ta) := by
  refine ⟨fun pins s σ H Q I h => ?_⟩
  refine PySem.W.methodCall_KW (pl := pl) (thn (he.run pins s σ H _ I h) fun u s1 ⟨x, H1, I1, rx, a, dx, fs, ex, ea, l, q⟩ => ?_) ht
  subst ex
  obtain rfl : u = Value.ref a := rx
  refine getmeth_ok I1 ea c hm l ?_
  exact PySem.W.callWith_K0 (first := [.ref a]) I1.kIn hm.kp (run_fnS (E := E) (us := [.ref a]) (vs := [.ref a]) F hr hb (hx σ) I1 (.cons rfl .nil) q)
def spGi (K : PySem.W.Frag) (C CN : Addr) : Sp := fun vs H Q E => ∃ (S : List Addr) (x : Addr) (l : Nat) (kt : List PyData) (sg : Str) (b : BS) (va : V) (a : PyData), vs = [.ref x, va] ∧ BenchAt K C S H x l kt sg b ∧ Dt K H va a ∧
  (inR 0 ((b.ps.length : Int) - 1) a = false → ∀ e G, Same H G → G e = some (.xd [("index", va)]) → E (.ref CN) (some e) G) ∧
  (∀ (i : Nat) p, a = .int (i : Int) → b.ps[i]? = some p → ∀ v, Dt K (Hz S H) v (pS p) → Q v H)
def spSi (K : PySem.W.Frag) (C CR CN : Addr) : Sp := fun vs H Q E => ∃ x va vp : V, vs = [x, va, vp] ∧ spE2 K C CR CN vs H (fun _ G => Q .non G) E
def spIa (K : PySem.W.Frag) (C CR CN : Addr) (w : Str) : Sp := fun vs H Q E => ∃ x va : V, vs = [x, va] ∧ spE1 K C CR CN w vs H (fun _ G => Q x G) E
def spSta (K : PySem.W.Frag) (C : Addr) : Sp := fun vs H Q _ => ∃ (S : List Addr) (x : Addr) (l : Nat) (kt : List PyData) (sg : Str) (b : BS), vs = [.ref x, .non] ∧ BenchAt K C S H x l kt sg b ∧ ∀ v, Dt K (Hz S H) v (.tuple (b.ps.map pS)) → Q v H
def spEds (K : PySem.W.Frag) (C : Addr) : Sp := fun vs H Q _ => ∃ (S : List Addr) (x : Addr) (l : Nat) (kt : List PyData) (sg : Str) (b : BS), vs = [.ref x] ∧ BenchAt K C S H x l kt sg b ∧ ∀ v, Dt K (Hz S H) v (.tuple b.es) → Q v H
section
variable {P : Program} {w : World} {K : PySem.W.Frag} {mg : Str → Option Value} {base : Heap}
theorem scGi : FnScope ["self", "at"] ["self", "at"] (defScope mGi) := ⟨rfl, rfl, rfl, by decide +kernel, rfl, by decide +kernel, by decide +kernel⟩
theorem ok_gi {f fI C CN : Addr} {fd fdI : FuncData} (F : Fun K "__getitem__" "Bench.__getitem__" mGi f fd) (B : BC K mg C) (XN : ExG P w K mg base "NoPair" "index" CN) (DI : Dfn P w K mg base "is_index" 2 fI fdI ["rule", "value"] (spIdx K)) :
    FnOk P w K mg base (L2.CX P w) 3 f fd ["self", "at"] (spGi K C CN) := by
  refine F.okX scGi (fun vs H Q E h => ?_) (fun cdv A outer s H vs Q E hr h => ?_)
  · obtain ⟨S, x, l, kt, sg, b, va, a, rfl, _⟩ := h
    rfl
  obtain ⟨S, x, l, kt, sg, b, va, a, rfl, BA, DA, qn, q⟩ := h
  obtain ⟨dx, ka, ru, dn, rl, gn, e1, e2, e3, _⟩ := BA.ex
  refine ⟨_, pss_cons (ps_if (pt_not (pt_val (pe_call DI.ok hr rfl DI.m DI.kp DI.b .nil pass0 (pa_cons (pe_fld (pv 0) rfl) (pa_cons (pv 1) pa_nil))))) (pss_one (ps_rsg XN hr rfl (takes_of rfl rfl rfl rfl) rfl (pv 1))) pss_nil)
    (pss_one (ps_ret (pe_ix ix_tup (pe_fld (pv 0) rfl) (pv 1) (fun _ _ => rfl)))), ?_⟩
  obtain ⟨us, hru0, DU⟩ := dt_tup e3
  have hru := hz_sub _ _ hru0
  have ul : us.length = b.ps.length := by rw [DU.length, List.length_map]
  have u6 : us.length ≤ 6 := by rw [ul]; exact BA.vl.len
  refine ⟨_, rfl, x, C, dx, _, _, rfl, e1, B.cl, B.nr, lk_rule, _, rfl, ru, us, va, a, rfl, hru, by omega, toDu DA, ⟨_, rfl, ?_⟩⟩
  cases hi : inR 0 ((us.length : Int) - 1) a with
  | false => exact iteT ⟨_, rfl, mk_reads fun e G3 s3 g => qn (by rw [← ul]; exact hi) e G3 s3 g⟩
  | true =>
    refine iteF ?_
    obtain ⟨i, rfl, il, hx⟩ := inR_lt hi
    obtain rfl : va = .int i := by cases DA; rfl
    obtain ⟨y, ey⟩ : ∃ y, us[i]? = some y := ⟨_, List.getElem?_eq_getElem il⟩
    obtain ⟨p, hp⟩ : ∃ p, b.ps[i]? = some p := ⟨_, List.getElem?_eq_getElem (by omega)⟩
    obtain ⟨dy, hdy, Dy⟩ := DU.get ey
    have edy : dy = pS p := by
      rw [List.getElem?_map, hp] at hdy
      cases hdy; rfl
    subst edy
    exact ⟨_, rfl, x, C, dx, _, _, rfl, e1, B.cl, B.nr, lk_rule, _, rfl, ru, us, _, y, rfl, rfl, .inl (.inl hru), atI_nat ey, q i p rfl hp y Dy⟩
theorem scSi : FnScope ["self", "at", "worth"] ["self", "at", "worth"] (defScope mSi) := ⟨rfl, rfl, rfl, by decide +kernel, rfl, by decide +kernel, by decide +kernel⟩
theorem ok_si {f fC C CR CN : Addr} {fd fdC : FuncData} (F : Fun K "__setitem__" "Bench.__setitem__" mSi f fd) (B : BC K mg C) (FC : FnOk P w K mg base (L2.CX P w) 7 fC fdC ["self", "index", "pair"] (spE2 K C CR CN)) (bC : L2.Binds K fdC ["self", "index", "pair"] []) (mC : Meth K C "change" fC) :
    FnOk P w K mg base (L2.CX P w) 8 f fd ["self", "at", "worth"] (spSi K C CR CN) := by
  refine F.okX scSi (fun vs H Q E h => ?_) (fun cdv A outer s H vs Q E hr h => ?_)
  · obtain ⟨x, va, vp, rfl, _⟩ := h
    rfl
  obtain ⟨x, va, vp, rfl, q⟩ := h
  refine ⟨_, pss_one (ps_expr (pe_meth (pv 0) B.cl mC FC hr bC .nil (passes_call (takes_of rfl rfl rfl rfl) (fun _ _ _ _ h => h)) (pa_cons (pv 1) (pa_cons (pv 2) pa_nil)))), ?_⟩
  obtain ⟨S, a, l, kt, sg, b, va', vp', da, dp, ev, LS, BA, r⟩ := id q
  cases ev
  obtain ⟨dx, ka, ru, dn, rl, gn, e1, _⟩ := BA.ex
  exact ⟨_, rfl, a, dx, _, rfl, e1, rfl, _, rfl, _, rfl, q⟩
theorem scIa : FnScope ["self", "other"] ["self", "other"] (defScope mIa) := ⟨rfl, rfl, rfl, by decide +kernel, rfl, by decide +kernel, by decide +kernel⟩
theorem ok_ia {f fC C CR CN : Addr} {fd fdC : FuncData} (F : Fun K "__iadd__" "Bench.__iadd__" mIa f fd) (B : BC K mg C) (FC : FnOk P w K mg base (L2.CX P w) 7 fC fdC ["self", "pair"] (spE1 K C CR CN "add")) (bC : L2.Binds K fdC ["self", "pair"] []) (mC : Meth K C "add" fC) :
    FnOk P w K mg base (L2.CX P w) 8 f fd ["self", "other"] (spIa K C CR CN "add") := by
  refine F.okX scIa (fun vs H Q E h => ?_) (fun cdv A outer s H vs Q E hr h => ?_)
  · obtain ⟨x, va, rfl, _⟩ := h
    rfl
  obtain ⟨x, va, rfl, q⟩ := h
  refine ⟨_, pss_cons (ps_expr (pe_meth (pv 0) B.cl mC FC hr bC .nil (passes_call (takes_of rfl rfl rfl rfl) (fun _ _ _ _ h => h)) (pa_cons (pv 1) pa_nil))) (pss_one (ps_ret (pv 0))), ?_⟩
  obtain ⟨S, a, l, kt, sg, b, va', da, dp, ev, LS, BA, r⟩ := id q
  cases ev
  obtain ⟨dx, ka, ru, dn, rl, gn, e1, _⟩ := BA.ex
  refine ⟨_, rfl, a, dx, _, rfl, e1, rfl, _, rfl, ?_⟩
  obtain ⟨S, a, l, kt, sg, b, va', da, dp, ev, LS, BA, hm, DA, sm, O⟩ := q
  cases ev
  exact ⟨S, _, l, kt, sg, b, _, da, dp, rfl, LS, BA, hm, DA, sm, ⟨fun ps' h1 h2 G xG B' => ⟨_, rfl, O.ok ps' h1 h2 G xG B'⟩, O.er, O.no⟩⟩
theorem scIs : FnScope ["self", "other"] ["self", "other"] (defScope mIs) := ⟨rfl, rfl, rfl, by decide +kernel, rfl, by decide +kernel, by decide +kernel⟩
theorem ok_is {f fC C CR CN : Addr} {fd fdC : FuncData} (F : Fun K "__isub__" "Bench.__isub__" mIs f fd) (B : BC K mg C) (FC : FnOk P w K mg base (L2.CX P w) 7 fC fdC ["self", "index"] (spE1 K C CR CN "drop")) (bC : L2.Binds K fdC ["self", "index"] []) (mC : Meth K C "drop" fC) :
    FnOk P w K mg base (L2.CX P w) 8 f fd ["self", "other"] (spIa K C CR CN "drop") := by
  refine F.okX scIs (fun vs H Q E h => ?_) (fun cdv A outer s H vs Q E hr h => ?_)
  · obtain ⟨x, va, rfl, _⟩ := h
    rfl
  obtain ⟨x, va, rfl, q⟩ := h
  refine ⟨_, pss_cons (ps_expr (pe_meth (pv 0) B.cl mC FC hr bC .nil (passes_call (takes_of rfl rfl rfl rfl) (fun _ _ _ _ h => h)) (pa_cons (pv 1) pa_nil))) (pss_one (ps_ret (pv 0))), ?_⟩
  obtain ⟨S, a, l, kt, sg, b, va', da, dp, ev, LS, BA, r⟩ := id q
  cases ev
  obtain ⟨dx, ka, ru, dn, rl, gn, e1, _⟩ := BA.ex
  refine ⟨_, rfl, a, dx, _, rfl, e1, rfl, _, rfl, ?_⟩
  obtain ⟨S, a, l, kt, sg, b, va', da, dp, ev, LS, BA, hm, DA, sm, O⟩ := q
  cases ev
  exact ⟨S, _, l, kt, sg, b, _, da, dp, rfl, LS, BA, hm, DA, sm, ⟨fun ps' h1 h2 G xG B' => ⟨_, rfl, O.ok ps' h1 h2 G xG B'⟩, O.er, O.no⟩⟩
theorem scSta : FnScope ["self", "version"] ["self", "version"] (defScope mSta) := ⟨rfl, rfl, rfl, by decide +kernel, rfl, by decide +kernel, by decide +kernel⟩
theorem ok_sta {f C : Addr} {fd : FuncData} (F : FunD K "state" "Bench.state" (defArgs mSta) (defBody mSta) (defScope mSta) [] [("version", .non)] f fd) (B : BC K mg C) : FnOk P w K mg base CX0 1 f fd ["self", "version"] (spSta K C) := by
  refine F.ok scSta (fun vs H Q E h => ?_) (fun cdv A outer s H vs Q E hr h => ?_)
  · obtain ⟨S, x, l, kt, sg, b, rfl, _⟩ := h
    rfl
  obtain ⟨S, x, l, kt, sg, b, rfl, BA, q⟩ := h
  obtain ⟨dx, ka, ru, dn, rl, gn, e1, e2, e3, _⟩ := BA.ex
  refine ⟨_, pss_cons (ps_if (pt_cmpR op_isN (pv 1) pe_non (nomark _)) (pss_one (ps_ret (pe_fld (pv 0) rfl))) pss_nil) (pss_cons ps_never (pss_one ps_never)), ?_⟩
  exact ⟨_, rfl, rfl, _, rfl, ite2 (fun _ => ⟨_, rfl, x, C, dx, _, _, rfl, e1, B.cl, B.nr, lk_rule, q _ e3⟩) (fun c => absurd (decide_eq_true rfl) c)⟩
theorem scEds : FnScope ["self"] ["self"] (defScope mEds) := ⟨rfl, rfl, rfl, by decide +kernel, rfl, by decide +kernel, by decide +kernel⟩
theorem ok_eds {f C : Addr} {fd : FuncData} (F : Fun K "edits" "Bench.edits" mEds f fd) (B : BC K mg C) : FnOk P w K mg base CX0 1 f fd ["self"] (spEds K C) := by
  refine F.ok scEds (fun vs H Q E h => ?_) (fun cdv A outer s H vs Q E hr h => ?_)
  · obtain ⟨S, x, l, kt, sg, b, rfl, _⟩ := h
    rfl
  obtain ⟨S, x, l, kt, sg, b, rfl, BA, q⟩ := h
  obtain ⟨dx, ka, ru, dn, rl, gn, e1, e2, e3, e4, _⟩ := BA.ex
  exact ⟨_, pss_one (ps_ret (pe_fld (pv 0) rfl)), ⟨_, rfl, x, C, dx, _, _, rfl, e1, B.cl, B.nd, lk_done, q _ e4⟩⟩
end
end K08
/-! t[::-1] of a tuple -/
namespace GL
open PySem PySem.Spec PyProof.Rows L2 HT
theorem back_places (n : Nat) : Builtin.Slice.sliceAdjust none none (-1) (n : Int) = ((n : Int) - 1, -1) ∧ Builtin.Slice.slicePlaces ((n : Int) - 1) (-1) (-1) = n := by
  refine ⟨rfl, ?_⟩
  unfold Builtin.Slice.slicePlaces
  rw [if_neg (by decide)]
  by_cases h : (n : Int) - 1 > -1
  · rw [if_pos h]
    have e : ((n : Int) - 1 - -1 - 1) / (- -1) = (n : Int) - 1 := by
      rw [show ((n : Int) - 1 - -1 - 1) = (n : Int) - 1 by omega, Int.neg_neg, Int.ediv_one]
    rw [e]
    omega
  · rw [if_neg h]
    omega
theorem back_pick (xs : Array Value) : ((List.range xs.size).filterMap fun (k : Nat) => xs[(((xs.size : Nat) : Int) - 1 + (k : Int) * (-1)).toNat]?).toArray = xs.toList.reverse.toArray := by
  have e1 : (fun (k : Nat) => xs[(((xs.size : Nat) : Int) - 1 + (k : Int) * (-1)).toNat]?) = (fun i => xs[i]?) ∘ fun k => xs.size - 1 - k := by
    funext k
    show xs[_]? = xs[xs.size - 1 - k]?
    congr 1
    omega
  have e2 := pick_gen xs 0 xs.size
  have e3 : (fun (m : Nat) => xs[(((0 : Nat) : Int) + (m : Int) * 1).toNat]?) = fun i => xs[i]? := by
    funext m
    congr 1
    omega
  rw [e3] at e2
  have e4 : (List.range xs.size).filterMap (fun i => xs[i]?) = xs.toList := by
    have e5 : (List.range xs.size).filterMap (fun i => xs[i]?) = List.take xs.size xs.toList := by simpa using congrArg Array.toList e2
    rw [e5]
    exact List.take_of_length_le (by simp)
  rw [e1, ← List.filterMap_map, PySem.W.krv_range, List.filterMap_reverse, e4]
section
variable {prog : Program} {w : World} {A : Around} {E : Value → Shared → Prop} {s : Shared}
theorem back_applied {sl : Addr} {vc : Value} {n : Nat} {Q : Int × Int × Nat → Shared → Prop} (hs : s.heap.IsSliceOf sl .none .none vc) (pc : IsPart vc (some (-1))) (h : Q (((n : Int) - 1), -1, n) s) :
    wpAny (model prog w) A (Builtin.Slice.sliceApplied (.ref sl) (pure (n : Int))) Q E s := by
  obtain ⟨os, ho, hc, hd⟩ := id hs
  unfold Builtin.Slice.sliceApplied Builtin.Slice.sliceFields
  refine wpAny_bind (wpAny_bind (wpAny_field ho hd (x := .none) rfl (wpAny_bind (wpAny_field ho hd (x := .none) rfl (wpAny_bind (wpAny_field ho hd (x := vc) rfl (wpAny_pure ?_)))))))
  refine wpAny_bind (slicePart_ pc ?_)
  show wpAny _ _ (if ((-1 : Int) == 0) = true then _ else _) _ _ s
  rw [if_neg (by decide)]
  refine wpAny_bind (slicePart_ .none (wpAny_bind (slicePart_ .none (wpAny_bind (wpAny_pure ?_)))))
  show wpAny _ _ (match Builtin.Slice.sliceAdjust none none (-1) (n : Int) with | (lo, hi) => pure (lo, (-1 : Int), Builtin.Slice.slicePlaces lo hi (-1))) _ _ s
  rw [(back_places n).1]
  show wpAny _ _ (pure (((n : Int) - 1), (-1 : Int), Builtin.Slice.slicePlaces ((n : Int) - 1) (-1) (-1))) _ _ s
  rw [(back_places n).2]
  exact wpAny_pure h
theorem back_item {t sl : Addr} {xs : Array Value} {vc : Value} {Q : Value → Shared → Prop} (ht : IsTup s.heap t xs) (hs : s.heap.IsSliceOf sl .none .none vc) (pc : IsPart vc (some (-1)))
    (h : Q (.ref s.heap.objs.size) { s with heap := s.heap.push { cls := .type "tuple", data := .seq xs.toList.reverse.toArray } }) (hz : xs.size ≤ sizeLine) : wpAny (model prog w) A (getItem (.ref t) (.ref sl)) Q E s := by
  have ok : sizeOk (.seq xs.toList.reverse.toArray) := by
    show xs.toList.reverse.toArray.size ≤ sizeLine
    rw [List.size_toArray, List.length_reverse, Array.length_toList]
    exact hz
  obtain ⟨os, ho, hc, hd⟩ := id hs
  have ty : s.TypeIs (.ref sl) "slice" := ⟨os, ho, hc⟩
  unfold getItem
  try with_reducible refine wpAny_holding ?_
  first | refine wpAny_bind (wpAny_pure ?_) | skip
  refine wpAny_bind (wpAny_sequenceKey ht.typeIs (by decide) (wpAny_bind (wpAny_callSpecial?_slot (name := Str.ofString "__getitem__") ht.typeIs PyProof.Rows.slot_tuple_getitem
    (wpAny_call_entry PyProof.Rows.slot_tuple_getitem ht.typeIs entry_tuple_getitem ?_ (args_tuple_getitem _ _)))))
  show wpAny _ _ (Builtin.Tuple.tupleItemsOf (.ref t) >>= _) _ _ s
  refine wpAny_bind (tupleItemsOf_ ht (wpAny_bind (wpAny_typeOf ty ?_)))
  rw [if_pos (by decide)]
  refine wpAny_bind (back_applied hs pc ?_)
  have no : ¬ ((((xs.size : Nat) : Int) - 1 == 0 && (-1 : Int) == 1 && xs.size == xs.size) = true) := by
    rw [show ((-1 : Int) == 1) = false from rfl, Bool.and_false, Bool.false_and]
    exact Bool.false_ne_true
  show wpAny _ _ (if ((((xs.size : Nat) : Int) - 1 == 0 && (-1 : Int) == 1 && xs.size == xs.size) = true) then _ else _) _ _ s
  rw [if_neg no, back_pick]
  first
    | exact wpAny_bind (m := Builtin.Tuple.tupleExact _) (wpAny_newObj_type (wpAny_pure ⟨_, rfl, wpAny_pure h⟩) ok)
    | exact wpAny_bind (m := Builtin.Tuple.tupleExact _) (wpAny_newObj_type (wpAny_bind (wpAny_pure (wpAny_pure ⟨_, rfl, wpAny_pure h⟩))) ok)
    | exact wpAny_bind (wpAny_bind (m := Builtin.Tuple.tupleExact _) (wpAny_newObj_type (wpAny_pure (wpAny_pure ⟨_, rfl, wpAny_pure h⟩)) ok))
    | exact wpAny_bind (wpAny_bind (m := Builtin.Tuple.tupleExact _) (wpAny_newObj_type (wpAny_pure ⟨_, rfl, wpAny_pure h⟩) ok))
end
section
variable {X : Cx}
def tRevT (te : TE) : TE := fun σ H Q => te σ H fun x G => ∃ (a : Addr) (xs : List V), x = .ref a ∧ G a = some (.tup xs) ∧ ∀ p, G p = none → Q (.ref p) (upd G p (.tup xs.reverse))
theorem Vals.rev : ∀ {xs : List V} {us : List Value}, Vals xs us → Vals xs.reverse us.reverse
  | _, _, .nil => .nil
  | _, _, .cons r t => by
    rw [List.reverse_cons, List.reverse_cons]
    exact (Vals.rev t).append (.cons r .nil)
theorem pe_revT {e : Expr} {te : TE} {k : Nat} {p1 p2 p3 pos : Pos} (he : PE X e te) : PE X (.Subscript e (.Slice none none (some (.UnaryOp .USub (.Constant (.int 1) k p1) p2)) p3) pos) (tRevT te) := by
  refine ⟨fun pins s σ H Q I h => Subscript_ (thn (he.run pins s σ H _ I h) fun v s1 ⟨x, H1, I1, r1, a, xs, ex, hx, q⟩ => ?_)⟩
  subst ex
  cases r1
  have st : PO X (some (.UnaryOp .USub (.Constant (.int 1) k p1) p2)) (tPart (tUn (rU fun i => .int (-i)) (tC (.int 1)))) := po_some (pe_un un_neg pe_int)
  refine wpAny_Slice (thn (po_none.run pins s1 σ H1 (fun o G => o = none ∧ G = H1) I1 ⟨rfl, rfl⟩) fun vl s2 ⟨o2, H2, I2, pl, el, e2⟩ => ?_)
  cases el
  cases e2
  refine thn (po_none.run pins s2 σ H1 (fun o G => o = none ∧ G = H1) I2 ⟨rfl, rfl⟩) fun vu s3 ⟨o3, H3, I3, pu, eu, e3⟩ => ?_
  cases eu
  cases e3
  refine thn (st.run pins s3 σ H1 (fun o G => o = some (-1) ∧ G = H1) I3 ⟨1, rfl, -1, rfl, rfl, rfl⟩) fun vc s4 ⟨o4, H4, I4, pc, ec, e4⟩ => ?_
  cases ec
  cases e4
  have J : Inv X pins σ H1 { s4 with heap := s4.heap.push { cls := .type "slice", data := .fields #[vl, vu, vc] } } := I4.kept (t' := s4.toks) fun b ob z => Heap.get?_push_of_some _ z
  obtain ⟨its, o, n, r, t1, t2, t3⟩ := tup_at J hx
  have hz : its.length ≤ sizeLine := by
    obtain ⟨z, _⟩ := (show ObjOk X.prog X.w H1 _ a (.tup xs) from J.hok a _ hx)
    rw [← r.length]; exact z
  have tt : IsTup { s4 with heap := s4.heap.push { cls := .type "slice", data := .fields #[vl, vu, vc] } }.heap a its.toArray := ⟨o, t1, t2, n, t3⟩
  cases pl
  cases pu
  show wpAny (model X.prog X.w) X.A (subscriptTail e (.Slice none none (some (.UnaryOp .USub (.Constant (.int 1) k p1) p2)) p3) (.ref a) (.ref s4.heap.objs.size)) (EP X pins σ Q) X.xe { s4 with heap := s4.heap.push { cls := .type "slice", data := .fields #[.none, .none, vc] } }
  refine tail_any (ops := [.ref a, .ref s4.heap.objs.size]) tt.typeIs PyProof.Rows.slot_tuple_getitem.lookup ?_ (by with_unfolding_all rfl)
  refine back_item tt (Heap.IsSliceOf.new _ .none .none vc) pc ?_ (by rw [List.size_toArray]; exact hz)
  refine ⟨.ref _, _, J.laid (t' := s4.toks) (o := .tup xs.reverse) (fun b ob z => Heap.get?_push_of_some _ z) (Nat.le_refl _) ?_, rfl, q _ (J.hok.fresh (Nat.le_refl _))⟩
  refine ⟨by rw [List.length_reverse, r.length]; exact hz, its.reverse, Vals.rev r, ⟨_, Heap.get?_push_size _ rfl, rfl, _, rfl⟩⟩
end
end GL
namespace K08
open PySem GL GZ KW KR GU KU KM KS KP GX KH KD
open L2 hiding isNon
open KC hiding rLenS call_lenS
open KX (Small errD)
abbrev sLnm : Stmt := top 74
abbrev sDue : Stmt := top 75
theorem seq_cut3 {a b c u : TS} {D : Ends} {σ : L2.St} {H : Hp} (P : L2.St → Hp → Prop) (h1 : ∀ Q : L2.St → Hp → Prop, (∀ σ H, P σ H → Q σ H) → tSeq a (tSeq b c) { D with nx := Q } σ H) (h2 : ∀ σ H, P σ H → u D σ H) : tSeq a (tSeq b (tSeq c u)) D σ H := h1 _ h2
/-- what an edit is due to -/
structure DueOut (K : PySem.W.Frag) (S : List Addr) (H : Hp) (l : Nat) (ps : List (Str × Str)) (w : Str) (va : V) (a p : PyData) (Q : VK) : Prop where
  ok : ∀ ps' q rv G, after (ps.map pS) w a p = some (ps'.map pS) → errD l (.tuple (ps'.map pS)) = .none → Vl l ps' → Same H G → G q = some (.lst [.str "ok", rv]) → Dt K (Hz S G) rv (.tuple (ps'.map pS)) → Q (.ref q) G
  er : ∀ ds' q ev G, after (ps.map pS) w a p = some ds' → errD l (.tuple ds') ≠ .none → Same H G → G q = some (.lst [.str "BadRule", ev]) → Dt K G ev (errD l (.tuple ds')) → Q (.ref q) G
  no : ∀ q G, after (ps.map pS) w a p = none → Same H G → G q = some (.lst [.str "NoPair", va]) → Q (.ref q) G
def spDue (K : PySem.W.Frag) : Sp := fun vs H Q _ => ∃ (S : List Addr) (l : Nat) (ra te : Addr) (ps : List (Str × Str)) (w : Str) (va : V) (a : PyData) (pv : List V) (p : PyData), vs = [.int l, .ref ra, .ref te] ∧ Liv S H ∧ 1 ≤ l ∧ l ≤ 4 ∧ Vl l ps ∧
  Dt K (Hz S H) (.ref ra) (.tuple (ps.map pS)) ∧ H te = some (.tup (.str w :: va :: pv)) ∧ isEd w ∧ Dt K (Hz S H) va a ∧ (w ≠ "change" → pv = []) ∧ (w = "change" → ∃ vp, pv = [vp] ∧ Dt K (Hz S H) vp p) ∧
  (∀ ds', after (ps.map pS) w a p = some ds' → Small (.tuple ds')) ∧ DueOut K S H l ps w va a p Q
section
variable {P : Program} {w : World} {K : PySem.W.Frag} {mg : Str → Option Value} {base : Heap}
theorem scLnm : FnScope ["_law_value", "_law_least", "_law_most"] ["_law_value", "_law_least", "_law_most"] (defScope sLnm) := ⟨rfl, rfl, rfl, by decide +kernel, rfl, by decide +kernel, by decide +kernel⟩
theorem ok_lnm {f : Addr} {fd : FuncData} (F : Fun K "_law_is_number" "_law_is_number" sLnm f fd) (T : Txt mg) : FnOk P w K mg base CX0 1 f fd ["_law_value", "_law_least", "_law_most"] (spNumber K) := by
  refine F.ok scLnm (fun vs H Q E h => ?_) (fun cdv A outer s H vs Q E hr h => ?_)
  · obtain ⟨v, d, lo, hi, rfl, _⟩ := h
    rfl
  obtain ⟨v, d, lo, hi, rfl, hd, q⟩ := h
  refine ⟨_, pss_one (ps_ret (pe_and (pe_callB call_isi (by rfl) T.isi (by decide +kernel) (pa_cons (pv 0) (pa_cons (pe_bltn (v := .ty "int") (by rfl) T.c.int (by decide +kernel) rfl) pa_nil)))
    (pe_and (pe_not (pe_callB call_isi (by rfl) T.isi (by decide +kernel) (pa_cons (pv 0) (pa_cons (pe_bltn (v := .ty "bool") (by rfl) T.bool (by decide +kernel) rfl) pa_nil))))
    (pe_one (pe_chain op_le op_le (pv 1) (pv 0) (pv 2)))))), ?_⟩
  obtain ⟨ti, i1, i2⟩ := is_int hd
  obtain ⟨tb, b1, b2⟩ := is_bool hd
  refine ⟨_, rfl, _, _, ti, _, _, rfl, .ty _, i1, i2, _, rfl, ?_⟩
  cases hd with
  | int i =>
    refine iteT ⟨_, rfl, _, _, tb, _, _, rfl, .ty _, b1, b2, _, rfl, _, rfl, iteT ⟨_, rfl, _, rfl, _, _, rfl, rfl, _, rfl, ite2 (fun c => ?_) (fun c => ?_)⟩⟩
    · refine ⟨_, rfl, _, _, rfl, rfl, ?_⟩
      have e : inR lo hi (.int i) = decide (i ≤ hi) := by
        show (decide (lo ≤ i) && decide (i ≤ hi)) = _
        rw [c]; rfl
      show Q (.bl (decide (i ≤ hi))) H
      rw [← e]; exact q
    · have e : inR lo hi (.int i) = false := by
        show (decide (lo ≤ i) && decide (i ≤ hi)) = _
        rw [Bool.eq_false_iff.mpr c]; rfl
      show Q (.bl false) H
      rw [← e]; exact q
  | bl b => exact iteT ⟨_, rfl, _, _, tb, _, _, rfl, .ty _, b1, b2, _, rfl, _, rfl, iteF q⟩
  | non => exact iteF q
  | str x => exact iteF q
  | lst _ _ => exact iteF q
  | tup _ _ => exact iteF q
  | dic _ => exact iteF q
theorem scDue : FnScope ["_law_letters", "_law_rule_here", "_law_edit_here", "_law_word", "_law_value", "_law_after", "_law_error"] ["_law_letters", "_law_rule_here", "_law_edit_here"] (defScope sDue) := ⟨rfl, rfl, rfl, by decide +kernel, rfl, by decide +kernel, by decide +kernel⟩
theorem ok_due {f fN fR : Addr} {fd fdN fdR : FuncData} (F : Fun K "_law_due" "_law_due" sDue f fd) (T : Txt mg) (LN : Dfn P w K mg base "_law_is_number" 1 fN fdN ["_law_value", "_law_least", "_law_most"] (spNumber K))
    (RE : Dfn P w K mg base "_law_rule_error" 2 fR fdR ["_law_letters", "_law_value"] (spRErr K)) : FnOk P w K mg base CX0 3 f fd ["_law_letters", "_law_rule_here", "_law_edit_here"] (spDue K) := by
  refine F.ok scDue (fun vs H Q E h => ?_) (fun cdv A outer s H vs Q E hr h => ?_)
  · obtain ⟨S, l, ra, te, ps, w, va, a, pv, p, rfl, _⟩ := h
    rfl
  obtain ⟨S, l, ra, te, ps, w, va, a, pw, p, rfl, LS, l1, l4, VL, DR, ht, hw, DA, hp0, hp, hsm, O⟩ := h
  have hr1 : Room 1 _ := hr.mono (by decide)
  refine ⟨_, pss_cons (ps_asg (pe_slice sl_tupD (pv 2) po_none (po_some pe_int)) (pg_tup (by rfl) (pgs_cons (pg_name (i := 3) scDue.nd rfl (Or.inl rfl)) (pgs_cons (pg_name (i := 4) scDue.nd rfl (Or.inl rfl)) pgs_nil))))
    (pss_cons (ps_set (i := 5) scDue.nd rfl (Or.inl rfl) (pe_op op_catD (pv 1) (pe_slice sl_tupD (pv 2) (po_some pe_int) po_none)))
    (pss_cons (ps_if (pt_cmpR op_ne (pv 3) pe_str (nomark _))
      (pss_cons (ps_if (pt_not (pt_val (pe_call LN.ok hr1 rfl LN.m LN.kp LN.b .nil pass0 (pa_cons (pv 4) (pa_cons pe_int (pa_cons (pe_op op_sub (pe_callB call_len_seq (by rfl) T.c.len PySem.boot_len (pa_cons (pv 1) pa_nil)) pe_int) pa_nil)))))) (pss_one (ps_ret (pe_lst (pa_cons pe_str (pa_cons (pv 4) pa_nil))))) pss_nil)
      (pss_one (ps_set (i := 5) scDue.nd rfl (Or.inl rfl) (pe_op op_catD (pe_op op_catD (pe_slice sl_tupD (pv 1) po_none (po_some (pv 4))) (pe_slice sl_tupD (pv 2) (po_some pe_int) po_none)) (pe_slice sl_tupD (pv 1) (po_some (pe_op op_add (pv 4) pe_int)) po_none))))) pss_nil)
    (pss_cons (ps_if (pt_cmpR op_eq (pv 3) pe_str (nomark _))
      (pss_cons (ps_set (i := 5) scDue.nd rfl (Or.inl rfl) (pv 1))
      (pss_one (ps_if (pt_cmpR op_gt (pv 4) pe_int (nomark _)) (pss_one (ps_set (i := 5) scDue.nd rfl (Or.inl rfl) (pe_op op_catD (pe_op op_catD (pe_slice sl_tupD (pv 1) po_none (po_some (pe_op op_sub (pv 4) pe_int))) (pe_tup (pa_cons (pe_ix ix_tup (pv 1) (pv 4) (fun _ _ => rfl)) (pa_cons (pe_ix ix_tup (pv 1) (pe_op op_sub (pv 4) pe_int) (fun _ _ => rfl)) pa_nil)))) (pe_slice sl_tupD (pv 1) (po_some (pe_op op_add (pv 4) pe_int)) po_none)))) pss_nil))) pss_nil)
    (pss_cons (ps_if (pt_cmpR op_eq (pv 3) pe_str (nomark _)) (pss_one (ps_set (i := 5) scDue.nd rfl (Or.inl rfl) (pe_op op_catD (pe_op op_catD (pe_slice sl_tupD (pv 1) po_none (po_some (pv 4))) (pe_tup (pa_cons (pe_revT (pe_ix ix_tup (pv 1) (pv 4) (fun _ _ => rfl))) pa_nil))) (pe_slice sl_tupD (pv 1) (po_some (pe_op op_add (pv 4) pe_int)) po_none)))) pss_nil)
    (pss_cons (ps_set (i := 6) scDue.nd rfl (Or.inl rfl) (pe_call RE.ok (hr.mono (by decide)) rfl RE.m RE.kp RE.b .nil pass0 (pa_cons (pv 0) (pa_cons (pv 5) pa_nil))))
    (pss_one (ps_ret (pe_ifExp (pt_cmpR op_isN (pv 6) pe_non (nomark _)) (pe_lst (pa_cons pe_str (pa_cons (pv 5) pa_nil))) (pe_lst (pa_cons pe_str (pa_cons (pv 6) pa_nil))))))))))), ?_⟩
  obtain ⟨us, hru0, DU⟩ := dt_tup DR
  have hru := hz_sub _ _ hru0
  have ul : us.length = ps.length := by rw [DU.length, List.length_map]
  have u6 : us.length ≤ 6 := by rw [ul]; exact VL.len
  have pl : pw.length ≤ 1 := by
    by_cases c : w = "change"
    · obtain ⟨vp, rfl, _⟩ := hp c; exact Nat.le_refl _
    · rw [hp0 c]; exact Nat.zero_le _
  refine ⟨_, rfl, _, rfl, te, _, rfl, ht, fun b G1 s1 hb => ?_⟩
  rw [show cutV (V.str w :: va :: pw) none (some 2) = [.str w, va] from cut_to _ 2] at hb
  refine ⟨b, _, rfl, .inl (.inl hb), rfl, _, _, rfl, _, _, rfl, rfl, ?_⟩
  refine ⟨_, rfl, _, rfl, _, rfl, te, _, rfl, s1 _ _ ht, fun b1 G2 s2 g2 => ?_⟩
  rw [show cutV (V.str w :: va :: pw) (some 1) none = va :: pw from cut_at _ 1] at g2
  refine ⟨ra, b1, us, va :: pw, rfl, rfl, (s1.trans s2) _ _ hru, g2, by show _ ≤ 2 ^ 24; simp only [List.length_cons]; omega, fun p5 G3 s3 g3 => ?_⟩
  have sH3 := s1.trans (s2.trans s3)
  have LS3 := LS.same sH3
  have DU3 := DU.same (hz_same (S := S) sH3)
  have DA3 := DA.same (hz_same (S := S) sH3)
  have ru3 := sH3 _ _ hru
  have te3 := sH3 _ _ ht
  dsimp only [gName]
  refine seq_cut3 (P := fun σ G => ∃ (ds' : List PyData) (v5 : V) (b6 : Option V), σ = [some (.int l), some (.ref ra), some (.ref te), some (.str w), some va, some v5, b6] ∧ Same H G ∧ after (ps.map pS) w a p = some ds' ∧ Dt K (Hz S G) v5 (.tuple ds')) (fun R hR => ?_) ?_
  · have dl : (ps.map pS).length = us.length := DU.length.symm
    refine ⟨_, rfl, rfl, _, rfl, ite2 (fun c => ?_) (fun c => ?_)⟩
    · have wa : w ≠ "add" := fun e => by rw [e] at c; simp at c
      refine ⟨_, rfl, _, rfl, ra, us, rfl, .inr (.inl (.inl ru3)), _, _, rfl, rfl, va, a, _, _, rfl, toDu (DA3.same hz_sub), _, rfl, ?_⟩
      cases hi : inR 0 ((us.length : Int) - 1) a with
      | false =>
        have ea : KD.after (ps.map pS) w a p = none := by
          unfold KD.after
          rw [if_neg wa, dl, if_neg (by rw [hi]; exact Bool.false_ne_true)]
        exact iteT ⟨_, rfl, by show 2 ≤ 2 ^ 24; decide, fun q nq => O.no q _ ea (sH3.trans (same_new nq _)) upd_same⟩
      | true =>
      refine iteF ?_
      obtain ⟨i, rfl, il, hx⟩ := inR_lt hi
      obtain rfl : va = .int i := by cases DA; rfl
      refine ⟨_, rfl, _, rfl, _, rfl, ra, us, rfl, ru3, fun b2 G4 s4 g4 => ?_⟩
      rw [cut_to] at g4
      refine ⟨_, rfl, _, rfl, te, _, rfl, s4 _ _ te3, fun b3 G5 s5 g5 => ?_⟩
      rw [show cutV (V.str w :: V.int i :: pw) (some 2) none = pw from cut_at _ 2] at g5
      refine ⟨b2, b3, _, _, rfl, rfl, s5 _ _ g4, g5, by show _ ≤ 2 ^ 24; rw [List.length_take]; omega, fun b4 G6 s6 g6 => ?_⟩
      refine ⟨_, rfl, _, rfl, _, _, rfl, rfl, _, rfl, ra, us, rfl, s6 _ _ (s5 _ _ (s4 _ _ ru3)), fun b5 G7 s7 g7 => ?_⟩
      rw [show ((i : Int) + 1) = ((i + 1 : Nat) : Int) from rfl, cut_at] at g7
      refine ⟨b4, b5, _, _, rfl, rfl, s7 _ _ g6, g7, by show _ ≤ 2 ^ 24; rw [List.length_append, List.length_take, List.length_drop]; omega, fun b6 G8 s8 g8 => ?_⟩
      have s38 := s4.trans (s5.trans (s6.trans (s7.trans s8)))
      have sH8 := sH3.trans s38
      have LS8 := LS3.same s38
      have DU8 := DU3.same (hz_same (S := S) s38)
      have ru8 := s38 _ _ ru3
      have D8 : ∀ es : List PyData, DtAll K (Hz S G8) pw es → Dt K (Hz S G8) (.ref b6) (.tuple ((ps.map pS).take i ++ es ++ (ps.map pS).drop (i + 1))) := fun es h => .tup (LS3.tup s38 g8) (((DU8.take i).append h).append (DU8.drop (i + 1)))
      obtain ⟨x, ex⟩ : ∃ x, us[i]? = some x := ⟨_, List.getElem?_eq_getElem il⟩
      obtain ⟨q, hq⟩ : ∃ q, ps[i]? = some q := ⟨_, List.getElem?_eq_getElem (by omega)⟩
      obtain ⟨dx, hdx, Dx⟩ := DU8.get ex
      have edx : dx = pS q := by
        rw [List.getElem?_map, hq] at hdx
        cases hdx; rfl
      subst edx
      have egd : (ps.map pS).getD i .none = pS q := by rw [List.getD_eq_getElem?_getD, hdx]; rfl
      have ai : inR 0 (((ps.map pS).length : Int) - 1) (.int (i : Int)) = true := by rw [dl]; exact hi
      refine ⟨_, rfl, rfl, _, rfl, ite2 (fun c2 => ?_) (fun c2 => ?_)⟩
      · obtain rfl : w = "lift" := V.str.inj (of_decide_eq_true c2)
        have unf : ∀ z, KD.after (ps.map pS) "lift" (.int i) p = z ↔ some (if i = 0 then ps.map pS else (ps.map pS).take (i - 1) ++ [(ps.map pS).getD i .none, (ps.map pS).getD (i - 1) .none] ++ (ps.map pS).drop (i + 1)) = z := fun z => by
          unfold KD.after
          rw [if_neg wa, if_pos ai, if_neg (by decide +kernel), if_neg (by decide +kernel), if_pos rfl]
          exact Iff.rfl
        have ea := (unf _).mpr rfl
        refine ⟨_, rfl, _, rfl, _, _, rfl, rfl, _, rfl, ite2 (fun c3 => ?_) (fun c3 => ?_)⟩
        · have i0 : 0 < i := by have := of_decide_eq_true c3; omega
          obtain ⟨j, rfl⟩ : ∃ j, i = j + 1 := ⟨i - 1, by omega⟩
          rw [if_neg (Nat.succ_ne_zero j), Nat.add_sub_cancel, egd] at ea
          obtain ⟨y, ey⟩ : ∃ y, us[j]? = some y := ⟨_, List.getElem?_eq_getElem (by omega)⟩
          obtain ⟨dy, hdy, Dy⟩ := DU8.get ey
          have egy : (ps.map pS).getD j .none = dy := by rw [List.getD_eq_getElem?_getD, hdy]; rfl
          rw [egy] at ea
          have ej : (((j + 1 : Nat) : Int) - 1) = ((j : Nat) : Int) := by omega
          refine ⟨_, rfl, _, rfl, _, _, rfl, rfl, _, rfl, ra, us, rfl, ru8, fun c4 G9 s9 g9 => ?_⟩
          rw [ej, cut_to] at g9
          refine ⟨_, rfl, _, rfl, ra, us, _, x, rfl, rfl, .inl (.inl (s9 _ _ ru8)), atI_nat ex, _, rfl, _, rfl, _, _, rfl, rfl, ra, us, _, y, rfl, rfl, .inl (.inl (s9 _ _ ru8)), at_of ej ey, by show 2 ≤ 2 ^ 24; decide, fun c5 nc5 => ?_⟩
          have s10 := same_new nc5 (.tup [x, y])
          have g10 : upd G9 c5 (.tup [x, y]) c5 = some (.tup [x, y]) := upd_same
          generalize upd G9 c5 (.tup [x, y]) = G10 at s10 g10 ⊢
          refine ⟨c4, c5, _, _, rfl, rfl, s10 _ _ g9, g10, by show _ ≤ 2 ^ 24; rw [List.length_take]; show _ + 2 ≤ _; omega, fun c6 G11 s11 g11 => ?_⟩
          refine ⟨_, rfl, _, rfl, _, _, rfl, rfl, _, rfl, ra, us, rfl, s11 _ _ (s10 _ _ (s9 _ _ ru8)), fun c7 G12 s12 g12 => ?_⟩
          rw [show (((j + 1 : Nat) : Int) + 1) = ((j + 1 + 1 : Nat) : Int) from rfl, cut_at] at g12
          refine ⟨c6, c7, _, _, rfl, rfl, s12 _ _ g11, g12, by show _ ≤ 2 ^ 24; rw [List.length_append, List.length_take, List.length_drop]; show _ + 2 + _ ≤ _; omega, fun c8 G13 s13 g13 => ?_⟩
          have s8z := s9.trans (s10.trans (s11.trans (s12.trans s13)))
          have DUz := DU8.same (hz_same (S := S) s8z)
          refine ⟨_, rfl, rfl, _, rfl, ite2 (fun c9 => absurd c9 (by decide +kernel)) (fun _ => ?_)⟩
          exact hR _ _ ⟨_, .ref c8, _, rfl, sH8.trans s8z, ea, .tup (LS8.tup s8z g13) (((DUz.take j).append (.cons (Dx.same (hz_same s8z)) (.cons (Dy.same (hz_same s8z)) .nil))).append (DUz.drop (j + 1 + 1)))⟩
        · have i0 : i = 0 := by
            refine Classical.byContradiction fun z => c3 (decide_eq_true ?_)
            show (0 : Int) < (i : Int)
            omega
          subst i0
          rw [if_pos rfl] at ea
          refine ⟨_, rfl, rfl, _, rfl, ite2 (fun c9 => absurd c9 (by decide +kernel)) (fun _ => ?_)⟩
          exact hR _ _ ⟨_, .ref ra, _, rfl, sH8, ea, DR.same (hz_same sH8)⟩
      · have wl : w ≠ "lift" := fun e => c2 (decide_eq_true (by rw [e]))
        refine ⟨_, rfl, rfl, _, rfl, ite2 (fun c3 => ?_) (fun c3 => ?_)⟩
        · obtain rfl : w = "turn" := V.str.inj (of_decide_eq_true c3)
          have ea : KD.after (ps.map pS) "turn" (.int i) p = some ((ps.map pS).take i ++ [swD (pS q)] ++ (ps.map pS).drop (i + 1)) := by
            unfold KD.after
            rw [if_neg wa, if_pos ai, if_neg (by decide +kernel), if_pos rfl]
            show some ((ps.map pS).take i ++ [swD ((ps.map pS).getD i .none)] ++ (ps.map pS).drop (i + 1)) = _
            rw [egd]
          obtain ⟨t, tv, rfl, et0, Dt2⟩ := dt_ref Dx
          have et := hz_sub _ _ et0
          cases Dt2 with
          | cons d1 r1 =>
          cases r1 with
          | cons d2 r2 =>
          cases r2
          cases d1
          cases d2
          refine ⟨_, rfl, _, rfl, _, rfl, ra, us, rfl, ru8, fun c4 G9 s9 g9 => ?_⟩
          rw [cut_to] at g9
          refine ⟨_, rfl, _, rfl, ra, us, _, _, rfl, rfl, .inl (.inl (s9 _ _ ru8)), atI_nat ex, t, _, rfl, s9 _ _ et, fun c5 nc5 => ?_⟩
          have s10 := same_new nc5 (.tup [V.str q.2, V.str q.1])
          have g10 : upd G9 c5 (.tup [V.str q.2, V.str q.1]) c5 = some (.tup [V.str q.2, V.str q.1]) := upd_same
          rw [show ([V.str q.1, V.str q.2] : List V).reverse = [V.str q.2, V.str q.1] from rfl]
          generalize upd G9 c5 (.tup [V.str q.2, V.str q.1]) = G10 at s10 g10 ⊢
          refine ⟨by show 1 ≤ 2 ^ 24; decide, fun c6 nc6 => ?_⟩
          have s11 := same_new nc6 (.tup [V.ref c5])
          have g11 : upd G10 c6 (.tup [V.ref c5]) c6 = some (.tup [V.ref c5]) := upd_same
          generalize upd G10 c6 (.tup [V.ref c5]) = G11 at s11 g11 ⊢
          refine ⟨c4, c6, _, _, rfl, rfl, s11 _ _ (s10 _ _ g9), g11, by show _ ≤ 2 ^ 24; rw [List.length_take]; show _ + 1 ≤ _; omega, fun c7 G12 s12 g12 => ?_⟩
          refine ⟨_, rfl, _, rfl, _, _, rfl, rfl, _, rfl, ra, us, rfl, s12 _ _ (s11 _ _ (s10 _ _ (s9 _ _ ru8))), fun c8 G13 s13 g13 => ?_⟩
          rw [show ((i : Int) + 1) = ((i + 1 : Nat) : Int) from rfl, cut_at] at g13
          refine ⟨c7, c8, _, _, rfl, rfl, s13 _ _ g12, g13, by show _ ≤ 2 ^ 24; rw [List.length_append, List.length_take, List.length_drop]; show _ + 1 + _ ≤ _; omega, fun c9 G14 s14 g14 => ?_⟩
          have s8z := s9.trans (s10.trans (s11.trans (s12.trans (s13.trans s14))))
          have DUz := DU8.same (hz_same (S := S) s8z)
          have LS9 := LS8.same s9
          have Dn : Dt K (Hz S G14) (.ref c5) (swD (pS q)) := .tup (LS9.tup (s10.trans (s11.trans (s12.trans (s13.trans s14)))) ((s11.trans (s12.trans (s13.trans s14))) _ _ g10)) (.cons (.str _) (.cons (.str _) .nil))
          exact hR _ _ ⟨_, .ref c9, _, rfl, sH8.trans s8z, ea, .tup (LS8.tup s8z g14) (((DUz.take i).append (.cons Dn .nil)).append (DUz.drop (i + 1)))⟩
        · have wt : w ≠ "turn" := fun e => c3 (decide_eq_true (by rw [e]))
          by_cases wc : w = "change"
          · subst wc
            obtain ⟨vp, rfl, DP⟩ := hp rfl
            have ea : KD.after (ps.map pS) "change" (.int i) p = some ((ps.map pS).take i ++ [p] ++ (ps.map pS).drop (i + 1)) := by
              unfold KD.after
              rw [if_neg wa, if_pos ai, if_pos rfl]
              rfl
            exact hR _ _ ⟨_, .ref b6, _, rfl, sH8, ea, D8 [p] (.cons (DP.same (hz_same sH8)) .nil)⟩
          · obtain rfl := hp0 wc
            have ea : KD.after (ps.map pS) w (.int i) p = some ((ps.map pS).take i ++ [] ++ (ps.map pS).drop (i + 1)) := by
              unfold KD.after
              rw [if_neg wa, if_pos ai, if_neg wc, if_neg wt, if_neg wl, List.append_nil]
              rfl
            exact hR _ _ ⟨_, .ref b6, _, rfl, sH8, ea, D8 [] .nil⟩
    · have wa : w = "add" := by
        refine Classical.byContradiction fun z => c ?_
        rw [decide_eq_false fun e => z (V.str.inj e)]
        rfl
      subst wa
      obtain rfl := hp0 (by decide +kernel)
      have ea : KD.after (ps.map pS) "add" a p = some (ps.map pS ++ [a]) := by unfold KD.after; rw [if_pos rfl]
      refine ⟨_, rfl, rfl, _, rfl, ite2 (fun c9 => absurd c9 (by decide +kernel)) (fun _ => ?_)⟩
      refine ⟨_, rfl, rfl, _, rfl, ite2 (fun c9 => absurd c9 (by decide +kernel)) (fun _ => ?_)⟩
      exact hR _ _ ⟨_, .ref p5, _, rfl, sH3, ea, .tup (LS3.tup (Same.refl _) g3) (DU3.append (.cons DA3 .nil))⟩
  rintro σ G ⟨ds', v5, b6, rfl, s4, ea, D5⟩
  refine ⟨_, rfl, _, rfl, l, v5, _, rfl, toDu (D5.same hz_sub), hsm _ ea, l1, l4, fun v6 G6 s6 d6 => ?_⟩
  refine ⟨_, rfl, rfl, _, rfl, ite2 (fun c => ?_) (fun c => ?_)⟩
  · have v0 : v6 = .non := of_decide_eq_true c
    have e0 : errD l (.tuple ds') = .none := by
      rw [v0] at d6
      generalize errD l (.tuple ds') = dd at d6
      cases d6
      rfl
    obtain ⟨ps', rfl, V'⟩ := vl_of e0
    refine ⟨_, rfl, by show 2 ≤ 2 ^ 24; decide, fun q nq => ?_⟩
    have s7 := same_new nq (.lst [V.str "ok", v5])
    exact O.ok ps' q v5 _ ea e0 V' (s4.trans (s6.trans s7)) upd_same (D5.same ((hz_same s6).trans (hz_same s7)))
  · have e0 : errD l (.tuple ds') ≠ .none := fun z => by
      rw [z] at d6
      cases d6
      exact c (decide_eq_true rfl)
    refine ⟨_, rfl, by show 2 ≤ 2 ^ 24; decide, fun q nq => ?_⟩
    have s7 := same_new nq (.lst [V.str "BadRule", v6])
    exact O.er ds' q v6 _ ea e0 (s4.trans (s6.trans s7)) upd_same (d6.same s7)
end
end K08
/-! try with two except clauses, each with a name, one of which takes what is raised. No row. -/
namespace GT
open PySem PySem.Spec PyProof.Rows L2
/-- the ends of a suite behind which slot i is taken away -/
def unb (i : Nat) (D : Ends) : Ends := { nx := fun σ H => D.nx (σ.set i none) H, rt := D.rt, bk := fun σ H => D.bk (σ.set i none) H, ct := fun σ H => D.ct (σ.set i none) H }
/-- one of the two clauses takes it -/
def wTwo (K : PySem.W.Frag) (c1 c2 : Value) (i1 i2 : Nat) (t1 t2 : Addr → Value → Option Addr → TS) (D : Ends) : WX := fun cls d σ H =>
  (PySem.W.exmOne K cls c1 = some true ∧ ∀ a, H a = none → t1 a cls d (unb i1 D) (σ.set i1 (some (.ref a))) H) ∨
    (PySem.W.exmOne K cls c1 = some false ∧ PySem.W.exmOne K cls c2 = some true ∧ ∀ a, H a = none → t2 a cls d (unb i2 D) (σ.set i2 (some (.ref a))) H)
/-- an error that has landed: what stood when it flew, and what stands now -/
structure Land (X : Cx) (pins : List (Addr × Obj)) (σ : L2.St) (H : Hp) (a : Addr) (cls : Value) (d : Option Addr) (B : Heap) (s0 s : Shared) : Prop where
  I0 : Inv X pins σ H s0
  nb : ∀ b o, s0.heap.get? b = some o → b ∉ frs X.stack → B.get? b = some o
  up : s0.heap.UpToSlots s.heap
  os : s.os = s0.os
  ag : AllBare s.gens
  fl : HandSPX.FlyingZ B (X.env :: X.outer) a (Zc cls d) s.heap
  na : H a = none
section
variable {X : Cx} {pins : List (Addr × Obj)} {σ : L2.St} {H : Hp} {a : Addr} {cls : Value} {d : Option Addr} {B : Heap} {s0 s : Shared}
theorem Land.inv (L : Land X pins σ H a cls d B s0 s) : Inv X pins σ H s := L.I0.landed L.nb L.fl.1 L.up L.os L.ag
theorem Land.far (L : Land X pins σ H a cls d B s0 s) (hf : X.env.frame = some X.env.locals) : a ≠ X.env.locals ∧ a ∉ X.fs := by
  obtain ⟨o, vs, e, _, dd⟩ := L.fl.there
  have ff := L.fl.2.2.1
  have key : a ∉ frs (X.env :: X.outer) := fun m => by
    obtain ⟨_, o2, e2, k⟩ := ff.mem m
    cases e.symm.trans e2
    exact k _ dd
  refine ⟨fun z => key (List.mem_filterMap.mpr ⟨X.env, List.mem_cons_self, hf.trans (congrArg some z.symm)⟩), fun m => ?_⟩
  obtain ⟨ev, m1, m2⟩ := List.mem_filterMap.mp m
  exact key (List.mem_filterMap.mpr ⟨ev, List.mem_cons_of_mem _ m1, m2⟩)
/-- the clause's test -/
theorem Land.test (L : Land X pins σ H a cls d B s0 s) (hf : X.env.frame = some X.env.locals) {x : Str} {c : Value} {np : Pos} {b : Bool} (hc : Names X x c) (hm : PySem.W.exmOne X.K cls c = some b)
    {R : Result → Shared → Prop} {pos : Pos} (q : R (.ok (if b then .brk else .next)) s) : codeAny (model X.prog X.w) (X.A.mark (some (.ref a))) (.handlers (.ref a) [.ExceptHandler (some (.Name x np)) none [] pos] X.env) R s := by
  obtain ⟨o, vs, e, z, dd⟩ := L.fl.there
  obtain ⟨n1, n2⟩ := L.far hf
  have S := L.inv.suite e dd L.na n1 n2
  have ty : PySem.W.Looks (model X.prog X.w) s.heap (typeOf (.ref a)) cls := fun _ _ _ _ k w => wpAny_typeOf_ref (k _ _ e) (z.1.symm ▸ w)
  have go := PySem.W.exm_one (M := model X.prog X.w) L.inv.kIn ty hm
  refine codeAny_handlers_test ?_
  rcases hc with ⟨g, db, m | ⟨m, v, nn⟩⟩
  · exact ld_glob (X := X.suite a ((a, o) :: (X.pn ++ pins))) S g m (go.here q) db
  · exact ld_blt (X := X.suite a ((a, o) :: (X.pn ++ pins))) S g m v (go.here q) nn db
/-- a clause that doesn't take it -/
theorem clause_no (L : Land X pins σ H a cls d B s0 s) (hf : X.env.frame = some X.env.locals) {x : Str} {nm : Option Str} {c : Value} {np pos : Pos} {body : List Stmt} {rest : List ExceptHandler} {Q : Flow → Shared → Prop} {E : Value → Shared → Prop} (hc : Names X x c)
    (hm : PySem.W.exmOne X.K cls c = some false) (q : wpAny (model X.prog X.w) X.A (handleBy (.ref a) X.env rest) Q E s) :
    wpAny (model X.prog X.w) X.A (handleBy (.ref a) X.env (.ExceptHandler (some (.Name x np)) nm body pos :: rest)) Q E s :=
  wpAny_handleBy_cons (L.test hf hc hm q) fun z => nomatch z
/-- the clause that takes it -/
theorem clause_yes (L : Land X pins σ H a cls d B s0 s) (hf : X.env.frame = some X.env.locals) {x n : Str} {c : Value} {np pos : Pos} {i : Nat} {b1 : Stmt} {body : List Stmt} {rest : List ExceptHandler} {D : Ends} {t : Addr → Value → Option Addr → TS} (hN : X.N.Nodup) (hi : X.N[i]? = some n)
    (hl : X.env.kindOf n = some .local) (hc : Names X x c) (hm : PySem.W.exmOne X.K cls c = some true)
    (hsu : ∀ (a : Addr) (oe : Obj) (cls : Value) (d : Option Addr) (pn : List (Addr × Obj)), Zc cls d oe → (∃ vs, oe.data = .fields vs) → PSs (X.suite a ((a, oe) :: pn)) (b1 :: body) (t a cls d))
    (q : t a cls d (unb i D) (σ.set i (some (.ref a))) H) :
    wpAny (model X.prog X.w) X.A (handleBy (.ref a) X.env (.ExceptHandler (some (.Name x np)) (some n) (b1 :: body) pos :: rest)) (SP X pins D) X.xe s := by
  have ok := L.inv.ok
  refine wpAny_handleBy_cons (L.test hf hc hm (codeAny_handlers_suite_as (HandSPX.lands_againZ L.fl fun h f u => ?_))) fun z => nomatch z
  have Lb : Land X pins σ H a cls d B s0 { s with heap := h } := ⟨L.I0, L.nb, L.up.trans u, L.os, L.ag, f, L.na⟩
  obtain ⟨o, vs, e, z, dd⟩ := f.there
  obtain ⟨n1, n2⟩ := Lb.far hf
  refine store_ok (X := X.suite a ((a, o) :: (X.pn ++ pins))) (v := .ref a) (Lb.inv.suite e dd L.na n1 n2) hN hi (.inl hl) rfl (fun s5 S5 => ?_) (.inr hl)
  refine wpAny_mono ((hsu a o cls d (X.pn ++ pins) z ⟨_, dd⟩).run [] s5 _ H _ S5 q) (fun fw s6 w => ?_) fun _ _ w => w.elim
  have back : ∀ {σ6 : L2.St} {H6 : Hp} {Q : Shared → Prop}, Inv (X.suite a ((a, o) :: (X.pn ++ pins))) [] σ6 H6 s6 → (∀ s7, Inv X pins (σ6.set i none) H6 s7 → Q s7) →
      wpAny (model X.prog X.w) X.A (do bindName X.env n .none; unbindBehindTheSuite X.env n pos) (fun _ s7 => Q s7) X.xe s6 := fun {σ6 H6 Q} S6 k => gone_ok (S6.unsuite ok) hN hi hl k
  match fw, w with
  | .next, ⟨_, _, S6, w6⟩ => exact back S6 fun _ J => ⟨_, _, J, w6⟩
  | .brk, ⟨_, _, S6, w6⟩ => exact back S6 fun _ J => ⟨_, _, J, w6⟩
  | .cont, ⟨_, _, S6, w6⟩ => exact back S6 fun _ J => ⟨_, _, J, w6⟩
  | .ret _, ⟨_, _, _, S6, r6, w6⟩ => exact back S6 fun _ J => ⟨_, _, _, J, r6, w6⟩
end
section
variable {X : Cx} {x1 x2 n1 n2 : Str} {c1 c2 : Value} {i1 i2 : Nat} {body su1 su2 : List Stmt} {b1 b2 : Stmt} {p1 p2 q1 q2 pos : Pos} {tb : WX → TS} {t1 t2 : Addr → Value → Option Addr → TS}
theorem ps_try2 (hs : X.stack = X.env :: X.outer) (hf : X.env.frame = some X.env.locals) (hN : X.N.Nodup) (hi1 : X.N[i1]? = some n1) (hl1 : X.env.kindOf n1 = some .local) (hc1 : Names X x1 c1) (hi2 : X.N[i2]? = some n2) (hl2 : X.env.kindOf n2 = some .local) (hc2 : Names X x2 c2)
    (hb : ∀ (W : WX) (pn : List (Addr × Obj)) (xe : Value → Shared → Prop), Takes (X.tr pn xe) W → PassesOwn (model X.prog X.w) X.A X.env xe → PSs (X.tr pn xe) body (tb W))
    (h1 : ∀ (a : Addr) (oe : Obj) (cls : Value) (d : Option Addr) (pn : List (Addr × Obj)), Zc cls d oe → (∃ vs, oe.data = .fields vs) → PSs (X.suite a ((a, oe) :: pn)) (b1 :: su1) (t1 a cls d))
    (h2 : ∀ (a : Addr) (oe : Obj) (cls : Value) (d : Option Addr) (pn : List (Addr × Obj)), Zc cls d oe → (∃ vs, oe.data = .fields vs) → PSs (X.suite a ((a, oe) :: pn)) (b2 :: su2) (t2 a cls d)) :
    PS X (.Try body [.ExceptHandler (some (.Name x1 p1)) (some n1) (b1 :: su1) q1, .ExceptHandler (some (.Name x2 p2)) (some n2) (b2 :: su2) q2] [] [] pos) (fun D σ H => tb (wTwo X.K c1 c2 i1 i2 t1 t2 D) D σ H) := by
  refine ⟨fun pins s σ H D I h => wpAny_Try_except ?_⟩
  have ok := I.ok
  have fr : X.A.frames = some (X.env :: X.outer) := ok.frames.trans (congrArg some hs)
  have run := (hb (wTwo X.K c1 c2 i1 i2 t1 t2 D) (X.pn ++ pins) (fun e s1 => wpAny (model X.prog X.w) X.A (noteFrame e X.env) (fun _ s2 => wpAny (model X.prog X.w) X.A (setFlight e none) (fun _ s3 =>
    wpAny (model X.prog X.w) X.A (handleBy e X.env [.ExceptHandler (some (.Name x1 p1)) (some n1) (b1 :: su1) q1, .ExceptHandler (some (.Name x2 p2)) (some n2) (b2 :: su2) q2]) (SP X pins D) X.xe s3) X.xe s2) X.xe s1) (fun u s' xx => ?_) PassesOwn.looking).run [] s σ H D (I.toTry _) h
  · refine wpAny_mono run (fun f s1 w => ?_) fun _ _ w => w
    match f, w with
    | .next, ⟨_, _, J, k⟩ => exact wpAny_execs_nil ⟨_, _, J.ofTry ok, k⟩
    | .brk, ⟨_, _, J, k⟩ => exact ⟨_, _, J.ofTry ok, k⟩
    | .cont, ⟨_, _, J, k⟩ => exact ⟨_, _, J.ofTry ok, k⟩
    | .ret _, ⟨_, _, _, J, r, k⟩ => exact ⟨_, _, _, J.ofTry ok, r, k⟩
  · obtain ⟨a, B, sI, pins', σ', H', cls, d, rfl, J, nb, up, sky, na, os, ag, way⟩ := xx
    refine Sky.land (Z := Zc cls d) Zc.steady fr hf (hs ▸ sky) fun h3 f3 u3 => ?_
    have L : Land X pins σ' H' a cls d B sI { s' with heap := h3 } := ⟨J.ofTry ok, nb, up.trans u3, os, ag, f3, na⟩
    rcases way with ⟨m, k⟩ | ⟨m, m2, k⟩
    · exact clause_yes L hf hN hi1 hl1 hc1 m h1 (k a na)
    · exact clause_no L hf hc1 m (clause_yes L hf hN hi2 hl2 hc2 m2 h2 (k a na))
end
end GT
/-! A hidden set that holds a deck. No row. -/
namespace KH
open PySem L2 GL KC
/-- the deck is hidden, and all that is hidden stands -/
structure Hs (S : List Addr) (d c : Addr) (H : Hp) : Prop where
  hd_ : d ∈ S
  hc_ : c ∈ S
  st : ∀ b ∈ S, ∃ o, H b = some o
section
variable {S : List Addr} {d c p : Addr} {H G G' : Hp} {m : Nat}
theorem Hs.fresh (h : Hs S d c H) (n : H p = none) : p ∉ S := fun e => by
  obtain ⟨o, a⟩ := h.st p e
  rw [n] at a; cases a
theorem Hs.next (h : Hs S d c H) (D : Deck G d c m) (s : Same (Hd d c H) (Hd d c G)) : Hs S d c G := ⟨h.hd_, h.hc_, fun b hb => by
  by_cases e : b = d ∨ b = c
  · obtain ⟨L, n, h1, h2, _⟩ := D.ex
    rcases e with rfl | rfl
    · exact ⟨_, h1⟩
    · exact ⟨_, h2⟩
  · obtain ⟨o, a⟩ := h.st b hb
    exact ⟨o, hd_sub _ _ (s _ _ (hd_of a (fun z => e (.inl z)) (fun z => e (.inr z))))⟩⟩
theorem Hs.hd (h : Hs S d c H) : Same (Hz S G) (Hd d c G) := fun b o e => by
  obtain ⟨a, n⟩ := hz_some e
  exact hd_of a (fun z => n (by rw [z]; exact h.hd_)) (fun z => n (by rw [z]; exact h.hc_))
theorem Hs.hz (h : Hs S d c H) (s : Same (Hd d c G) (Hd d c G')) : Same (Hz S G) (Hz S G') := fun b o e => hz_of (hd_sub _ _ (s _ _ (h.hd _ _ e))) (hz_some e).2
theorem Hs.same (h : Hs S d c H) (s : Same H G) : Hs S d c G := ⟨h.hd_, h.hc_, fun b hb => let ⟨o, a⟩ := h.st b hb; ⟨o, s _ _ a⟩⟩
end
end KH
namespace K08
open PySem GL GZ KW KR GU KU KM KS KP GX KH KD GT
open L2 hiding isNon
open KC hiding rLenS call_lenS
open KX (Small errD)
abbrev sSome : Stmt := top 76
abbrev sInd : Stmt := top 77
abbrev sLed : Stmt := top 78
/-- data that can be shown -/
def Al (K : PySem.W.Frag) (S : List Addr) (G : Hp) (v : V) : Prop := ∃ x, Dt K (Hz S G) v x ∧ Fit 300 3 x
theorem Al.same {K : PySem.W.Frag} {S : List Addr} {G G' : Hp} {v : V} (h : Al K S G v) (s : Same (Hz S G) (Hz S G')) : Al K S G' v := let ⟨x, h1, h2⟩ := h; ⟨x, h1.same s, h2⟩
def spSome (K : PySem.W.Frag) : Sp := fun vs H Q _ => ∃ (S : List Addr) (d c : Addr) (l m : Nat), vs = [.ref d, .int l] ∧ Hs S d c H ∧ Deck H d c m ∧ m ≤ 800000000 ∧ 1 ≤ l ∧ l ≤ 4 ∧ ∀ (v : V) (G : Hp), Al K S G v → Deck G d c (m + 20) → Same (Hd d c H) (Hd d c G) → Q v G
def spInd (K : PySem.W.Frag) : Sp := fun vs H Q _ => ∃ (S : List Addr) (d c : Addr) (n m : Nat), vs = [.ref d, .int n] ∧ Hs S d c H ∧ Deck H d c m ∧ m ≤ 800000000 ∧ n ≤ 1000 ∧ ∀ (v : V) (G : Hp), Al K S G v → Deck G d c (m + 2) → Same (Hd d c H) (Hd d c G) → Q v G
section
variable {P : Program} {w : World} {K : PySem.W.Frag} {mg : Str → Option Value} {base : Heap}
theorem scSome : FnScope ["_law_deck_here", "_law_letters", "_law_odd", "_law_size"] ["_law_deck_here", "_law_letters"] (defScope sSome) := ⟨rfl, rfl, rfl, by decide +kernel, rfl, by decide +kernel, by decide +kernel⟩
theorem ok_some {f fD fO fP : Addr} {fd fdD fdO fdP : FuncData} (F : Fun K "_law_some" "_law_some" sSome f fd) (W : Dfn P w K mg base "_law_draw" 1 fD fdD ["_law_deck_here", "_law_many"] spDraw)
    (O : Dfn P w K mg base "_law_one" 2 fO fdO ["_law_deck_here", "_law_items"] spOne) (PC : Dfn P w K mg base "_law_piece" 3 fP fdP ["_law_deck_here", "_law_letters", "_law_size"] spPc) : FnOk P w K mg base CX0 4 f fd ["_law_deck_here", "_law_letters"] (spSome K) := by
  refine F.ok scSome (fun vs H Q E h => ?_) (fun cdv A outer s H vs Q E hr h => ?_)
  · obtain ⟨S, d, c, l, m, rfl, _⟩ := h
    rfl
  obtain ⟨S, d, c, l, m, rfl, HS, D, hm, l1, l4, q⟩ := h
  have hr1 : Room 1 _ := hr.mono (by decide)
  have hr2 : Room 2 _ := hr.mono (by decide)
  refine ⟨_, pss_cons (ps_if (pt_cmpR op_eq (pe_call W.ok hr1 rfl W.m W.kp W.b .nil pass0 (pa_cons (pv 0) (pa_cons pe_int pa_nil))) pe_int (nomark _))
      (pss_cons (ps_set (i := 2) scSome.nd rfl (Or.inl rfl) (pe_lst (pa_cons pe_non (pa_cons pe_str (pa_cons (pe_tup (pa_cons pe_str pa_nil)) (pa_cons (pe_tup (pa_cons pe_str (pa_cons pe_str (pa_cons pe_str pa_nil)))) (pa_cons (pe_lst (pa_cons pe_str (pa_cons pe_str pa_nil))) (pa_cons (pe_tup (pa_cons pe_str (pa_cons pe_str pa_nil))) (pa_cons (pe_tup (pa_cons pe_str (pa_cons pe_str pa_nil))) (pa_cons (pe_tup (pa_cons pe_str (pa_cons pe_str pa_nil))) pa_nil))))))))))
      (pss_cons (ps_set (i := 2) scSome.nd rfl (Or.inl rfl) (pe_op op_cat (pv 2) (pe_lst (pa_cons (pe_tup (pa_cons pe_str (pa_cons pe_int pa_nil))) (pa_cons (pe_tup (pa_cons pe_non (pa_cons pe_str pa_nil))) (pa_cons pe_dnewK (pa_cons pe_int (pa_cons (pe_tup (pa_cons pe_str (pa_cons pe_str pa_nil))) (pa_cons (pe_tup (pa_cons pe_str (pa_cons pe_str pa_nil))) (pa_cons (pe_tup (pa_cons pe_str (pa_cons pe_str pa_nil))) (pa_cons (pe_tup (pa_cons (pe_tup (pa_cons pe_str pa_nil)) (pa_cons (pe_tup (pa_cons pe_str pa_nil)) pa_nil))) pa_nil)))))))))))
      (pss_one (ps_ret (pe_call O.ok hr2 rfl O.m O.kp O.b .nil pass0 (pa_cons (pv 0) (pa_cons (pe_op op_cat (pv 2) (pe_lst (pa_cons (pe_tup (pa_cons pe_str (pa_cons (pe_lst (pa_cons pe_str pa_nil)) pa_nil))) (pa_cons (pe_tup (pa_cons (pe_lst pa_nil) (pa_cons pe_dnewK pa_nil))) (pa_cons (pe_tup pa_nil) pa_nil))))) pa_nil))))))) pss_nil)
    (pss_cons (ps_set (i := 3) scSome.nd rfl (Or.inl rfl) (pe_call O.ok hr2 rfl O.m O.kp O.b .nil pass0 (pa_cons (pv 0) (pa_cons (pe_lst (pa_cons pe_int (pa_cons pe_int (pa_cons pe_int (pa_cons pe_int pa_nil))))) pa_nil))))
    (pss_one (ps_ret (pe_tup (pa_cons (pe_call PC.ok hr rfl PC.m PC.kp PC.b .nil pass0 (pa_cons (pv 0) (pa_cons (pv 1) (pa_cons (pv 3) pa_nil)))) (pa_cons (pe_call PC.ok hr rfl PC.m PC.kp PC.b .nil pass0 (pa_cons (pv 0) (pa_cons (pv 1) (pa_cons (pv 3) pa_nil)))) pa_nil)))))), ?_⟩
  have step : ∀ (G : Hp) (p : Addr) (o : HO), G p = none → Deck G d c (m + 1) ∧ Same (Hd d c H) (Hd d c G) → (Deck (upd G p o) d c (m + 1) ∧ Same (Hd d c H) (Hd d c (upd G p o))) ∧ Same (Hz S G) (Hz S (upd G p o)) ∧ Hz S (upd G p o) p = some o := fun G p o n ⟨DG, sG⟩ =>
    ⟨⟨DG.new n o, sG.trans (hd_new n o)⟩, hz_same (same_new n o), hz_of upd_same ((HS.next DG sG).fresh n)⟩
  refine ⟨_, rfl, d, c, 7, _, rfl, D, by omega, by decide, by decide, fun r G1 r0 r1 D1 s1 => ⟨rfl, _, rfl, ?_⟩⟩
  refine ite2 (fun _ => ?_) (fun _ => ?_)
  · refine ⟨by show 1 ≤ 2 ^ 24; decide, fun p1 np1 => ?_⟩
    obtain ⟨Sp1, ep1, fp1⟩ := step _ _ (.tup [V.str "a"]) np1 ⟨D1, s1⟩
    generalize upd G1 p1 (.tup [V.str "a"]) = J1 at Sp1 ep1 fp1
    have hp1 : Dt K (Hz S J1) (.ref p1) (.tuple [.str "a"]) := .tup fp1 (.cons (.str _) .nil)
    refine ⟨by show 3 ≤ 2 ^ 24; decide, fun p2 np2 => ?_⟩
    obtain ⟨Sp2, ep2, fp2⟩ := step _ _ (.tup [V.str "a", V.str "b", V.str "c"]) np2 Sp1
    generalize upd J1 p2 (.tup [V.str "a", V.str "b", V.str "c"]) = J2 at Sp2 ep2 fp2
    replace hp1 := hp1.same ep2
    have hp2 : Dt K (Hz S J2) (.ref p2) (.tuple [.str "a", .str "b", .str "c"]) := .tup fp2 (.cons (.str _) (.cons (.str _) (.cons (.str _) .nil)))
    refine ⟨by show 2 ≤ 2 ^ 24; decide, fun p3 np3 => ?_⟩
    obtain ⟨Sp3, ep3, fp3⟩ := step _ _ (.lst [V.str "a", V.str "b"]) np3 Sp2
    generalize upd J2 p3 (.lst [V.str "a", V.str "b"]) = J3 at Sp3 ep3 fp3
    replace hp1 := hp1.same ep3
    replace hp2 := hp2.same ep3
    have hp3 : Dt K (Hz S J3) (.ref p3) (.list [.str "a", .str "b"]) := .lst fp3 (.cons (.str _) (.cons (.str _) .nil))
    refine ⟨by show 2 ≤ 2 ^ 24; decide, fun p4 np4 => ?_⟩
    obtain ⟨Sp4, ep4, fp4⟩ := step _ _ (.tup [V.str "a", V.str "a"]) np4 Sp3
    generalize upd J3 p4 (.tup [V.str "a", V.str "a"]) = J4 at Sp4 ep4 fp4
    replace hp1 := hp1.same ep4
    replace hp2 := hp2.same ep4
    replace hp3 := hp3.same ep4
    have hp4 : Dt K (Hz S J4) (.ref p4) (.tuple [.str "a", .str "a"]) := .tup fp4 (.cons (.str _) (.cons (.str _) .nil))
    refine ⟨by show 2 ≤ 2 ^ 24; decide, fun p5 np5 => ?_⟩
    obtain ⟨Sp5, ep5, fp5⟩ := step _ _ (.tup [V.str "ab", V.str "b"]) np5 Sp4
    generalize upd J4 p5 (.tup [V.str "ab", V.str "b"]) = J5 at Sp5 ep5 fp5
    replace hp1 := hp1.same ep5
    replace hp2 := hp2.same ep5
    replace hp3 := hp3.same ep5
    replace hp4 := hp4.same ep5
    have hp5 : Dt K (Hz S J5) (.ref p5) (.tuple [.str "ab", .str "b"]) := .tup fp5 (.cons (.str _) (.cons (.str _) .nil))
    refine ⟨by show 2 ≤ 2 ^ 24; decide, fun p6 np6 => ?_⟩
    obtain ⟨Sp6, ep6, fp6⟩ := step _ _ (.tup [V.str "", V.str ""]) np6 Sp5
    generalize upd J5 p6 (.tup [V.str "", V.str ""]) = J6 at Sp6 ep6 fp6
    replace hp1 := hp1.same ep6
    replace hp2 := hp2.same ep6
    replace hp3 := hp3.same ep6
    replace hp4 := hp4.same ep6
    replace hp5 := hp5.same ep6
    have hp6 : Dt K (Hz S J6) (.ref p6) (.tuple [.str "", .str ""]) := .tup fp6 (.cons (.str _) (.cons (.str _) .nil))
    refine ⟨by show 8 ≤ 2 ^ 24; decide, fun p7 np7 => ?_⟩
    obtain ⟨Sp7, ep7, fp7⟩ := step _ _ (.lst [V.non, V.str "ab", V.ref p1, V.ref p2, V.ref p3, V.ref p4, V.ref p5, V.ref p6]) np7 Sp6
    generalize upd J6 p7 (.lst [V.non, V.str "ab", V.ref p1, V.ref p2, V.ref p3, V.ref p4, V.ref p5, V.ref p6]) = J7 at Sp7 ep7 fp7
    replace hp1 := hp1.same ep7
    replace hp2 := hp2.same ep7
    replace hp3 := hp3.same ep7
    replace hp4 := hp4.same ep7
    replace hp5 := hp5.same ep7
    replace hp6 := hp6.same ep7
    refine ⟨_, rfl, ?_⟩
    refine ⟨by show 2 ≤ 2 ^ 24; decide, fun p8 np8 => ?_⟩
    obtain ⟨Sp8, ep8, fp8⟩ := step _ _ (.tup [V.str "a", V.int 1]) np8 Sp7
    generalize upd J7 p8 (.tup [V.str "a", V.int 1]) = J8 at Sp8 ep8 fp8
    replace hp1 := hp1.same ep8
    replace hp2 := hp2.same ep8
    replace hp3 := hp3.same ep8
    replace hp4 := hp4.same ep8
    replace hp5 := hp5.same ep8
    replace hp6 := hp6.same ep8
    replace fp7 := ep8 _ _ fp7
    have hp8 : Dt K (Hz S J8) (.ref p8) (.tuple [.str "a", .int 1]) := .tup fp8 (.cons (.str _) (.cons (.int _) .nil))
    refine ⟨by show 2 ≤ 2 ^ 24; decide, fun p9 np9 => ?_⟩
    obtain ⟨Sp9, ep9, fp9⟩ := step _ _ (.tup [V.non, V.str "a"]) np9 Sp8
    generalize upd J8 p9 (.tup [V.non, V.str "a"]) = J9 at Sp9 ep9 fp9
    replace hp1 := hp1.same ep9
    replace hp2 := hp2.same ep9
    replace hp3 := hp3.same ep9
    replace hp4 := hp4.same ep9
    replace hp5 := hp5.same ep9
    replace hp6 := hp6.same ep9
    replace hp8 := hp8.same ep9
    replace fp7 := ep9 _ _ fp7
    have hp9 : Dt K (Hz S J9) (.ref p9) (.tuple [.none, .str "a"]) := .tup fp9 (.cons .non (.cons (.str _) .nil))
    intro p10 np10
    obtain ⟨Sp10, ep10, fp10⟩ := step _ _ (.dK []) np10 Sp9
    generalize upd J9 p10 (.dK []) = J10 at Sp10 ep10 fp10
    replace hp1 := hp1.same ep10
    replace hp2 := hp2.same ep10
    replace hp3 := hp3.same ep10
    replace hp4 := hp4.same ep10
    replace hp5 := hp5.same ep10
    replace hp6 := hp6.same ep10
    replace hp8 := hp8.same ep10
    replace hp9 := hp9.same ep10
    replace fp7 := ep10 _ _ fp7
    have hp10 : Dt K (Hz S J10) (.ref p10) (.dict []) := .dic fp10
    refine ⟨by show 2 ≤ 2 ^ 24; decide, fun p11 np11 => ?_⟩
    obtain ⟨Sp11, ep11, fp11⟩ := step _ _ (.tup [V.str "a", V.str "e"]) np11 Sp10
    generalize upd J10 p11 (.tup [V.str "a", V.str "e"]) = J11 at Sp11 ep11 fp11
    replace hp1 := hp1.same ep11
    replace hp2 := hp2.same ep11
    replace hp3 := hp3.same ep11
    replace hp4 := hp4.same ep11
    replace hp5 := hp5.same ep11
    replace hp6 := hp6.same ep11
    replace hp8 := hp8.same ep11
    replace hp9 := hp9.same ep11
    replace hp10 := hp10.same ep11
    replace fp7 := ep11 _ _ fp7
    have hp11 : Dt K (Hz S J11) (.ref p11) (.tuple [.str "a", .str "e"]) := .tup fp11 (.cons (.str _) (.cons (.str _) .nil))
    refine ⟨by show 2 ≤ 2 ^ 24; decide, fun p12 np12 => ?_⟩
    obtain ⟨Sp12, ep12, fp12⟩ := step _ _ (.tup [V.str "abab", V.str "baba"]) np12 Sp11
    generalize upd J11 p12 (.tup [V.str "abab", V.str "baba"]) = J12 at Sp12 ep12 fp12
    replace hp1 := hp1.same ep12
    replace hp2 := hp2.same ep12
    replace hp3 := hp3.same ep12
    replace hp4 := hp4.same ep12
    replace hp5 := hp5.same ep12
    replace hp6 := hp6.same ep12
    replace hp8 := hp8.same ep12
    replace hp9 := hp9.same ep12
    replace hp10 := hp10.same ep12
    replace hp11 := hp11.same ep12
    replace fp7 := ep12 _ _ fp7
    have hp12 : Dt K (Hz S J12) (.ref p12) (.tuple [.str "abab", .str "baba"]) := .tup fp12 (.cons (.str _) (.cons (.str _) .nil))
    refine ⟨by show 2 ≤ 2 ^ 24; decide, fun p13 np13 => ?_⟩
    obtain ⟨Sp13, ep13, fp13⟩ := step _ _ (.tup [V.str "A", V.str "b"]) np13 Sp12
    generalize upd J12 p13 (.tup [V.str "A", V.str "b"]) = J13 at Sp13 ep13 fp13
    replace hp1 := hp1.same ep13
    replace hp2 := hp2.same ep13
    replace hp3 := hp3.same ep13
    replace hp4 := hp4.same ep13
    replace hp5 := hp5.same ep13
    replace hp6 := hp6.same ep13
    replace hp8 := hp8.same ep13
    replace hp9 := hp9.same ep13
    replace hp10 := hp10.same ep13
    replace hp11 := hp11.same ep13
    replace hp12 := hp12.same ep13
    replace fp7 := ep13 _ _ fp7
    have hp13 : Dt K (Hz S J13) (.ref p13) (.tuple [.str "A", .str "b"]) := .tup fp13 (.cons (.str _) (.cons (.str _) .nil))
    refine ⟨by show 1 ≤ 2 ^ 24; decide, fun p14 np14 => ?_⟩
    obtain ⟨Sp14, ep14, fp14⟩ := step _ _ (.tup [V.str "a"]) np14 Sp13
    generalize upd J13 p14 (.tup [V.str "a"]) = J14 at Sp14 ep14 fp14
    replace hp1 := hp1.same ep14
    replace hp2 := hp2.same ep14
    replace hp3 := hp3.same ep14
    replace hp4 := hp4.same ep14
    replace hp5 := hp5.same ep14
    replace hp6 := hp6.same ep14
    replace hp8 := hp8.same ep14
    replace hp9 := hp9.same ep14
    replace hp10 := hp10.same ep14
    replace hp11 := hp11.same ep14
    replace hp12 := hp12.same ep14
    replace hp13 := hp13.same ep14
    replace fp7 := ep14 _ _ fp7
    have hp14 : Dt K (Hz S J14) (.ref p14) (.tuple [.str "a"]) := .tup fp14 (.cons (.str _) .nil)
    refine ⟨by show 1 ≤ 2 ^ 24; decide, fun p15 np15 => ?_⟩
    obtain ⟨Sp15, ep15, fp15⟩ := step _ _ (.tup [V.str "b"]) np15 Sp14
    generalize upd J14 p15 (.tup [V.str "b"]) = J15 at Sp15 ep15 fp15
    replace hp1 := hp1.same ep15
    replace hp2 := hp2.same ep15
    replace hp3 := hp3.same ep15
    replace hp4 := hp4.same ep15
    replace hp5 := hp5.same ep15
    replace hp6 := hp6.same ep15
    replace hp8 := hp8.same ep15
    replace hp9 := hp9.same ep15
    replace hp10 := hp10.same ep15
    replace hp11 := hp11.same ep15
    replace hp12 := hp12.same ep15
    replace hp13 := hp13.same ep15
    replace hp14 := hp14.same ep15
    replace fp7 := ep15 _ _ fp7
    have hp15 : Dt K (Hz S J15) (.ref p15) (.tuple [.str "b"]) := .tup fp15 (.cons (.str _) .nil)
    refine ⟨by show 2 ≤ 2 ^ 24; decide, fun p16 np16 => ?_⟩
    obtain ⟨Sp16, ep16, fp16⟩ := step _ _ (.tup [V.ref p14, V.ref p15]) np16 Sp15
    generalize upd J15 p16 (.tup [V.ref p14, V.ref p15]) = J16 at Sp16 ep16 fp16
    replace hp1 := hp1.same ep16
    replace hp2 := hp2.same ep16
    replace hp3 := hp3.same ep16
    replace hp4 := hp4.same ep16
    replace hp5 := hp5.same ep16
    replace hp6 := hp6.same ep16
    replace hp8 := hp8.same ep16
    replace hp9 := hp9.same ep16
    replace hp10 := hp10.same ep16
    replace hp11 := hp11.same ep16
    replace hp12 := hp12.same ep16
    replace hp13 := hp13.same ep16
    replace hp14 := hp14.same ep16
    replace hp15 := hp15.same ep16
    replace fp7 := ep16 _ _ fp7
    have hp16 : Dt K (Hz S J16) (.ref p16) (.tuple [.tuple [.str "a"], .tuple [.str "b"]]) := .tup fp16 (.cons hp14 (.cons hp15 .nil))
    refine ⟨by show 8 ≤ 2 ^ 24; decide, fun p17 np17 => ?_⟩
    obtain ⟨Sp17, ep17, fp17⟩ := step _ _ (.lst [V.ref p8, V.ref p9, V.ref p10, V.int 7, V.ref p11, V.ref p12, V.ref p13, V.ref p16]) np17 Sp16
    generalize upd J16 p17 (.lst [V.ref p8, V.ref p9, V.ref p10, V.int 7, V.ref p11, V.ref p12, V.ref p13, V.ref p16]) = J17 at Sp17 ep17 fp17
    replace hp1 := hp1.same ep17
    replace hp2 := hp2.same ep17
    replace hp3 := hp3.same ep17
    replace hp4 := hp4.same ep17
    replace hp5 := hp5.same ep17
    replace hp6 := hp6.same ep17
    replace hp8 := hp8.same ep17
    replace hp9 := hp9.same ep17
    replace hp10 := hp10.same ep17
    replace hp11 := hp11.same ep17
    replace hp12 := hp12.same ep17
    replace hp13 := hp13.same ep17
    replace hp14 := hp14.same ep17
    replace hp15 := hp15.same ep17
    replace hp16 := hp16.same ep17
    replace fp7 := ep17 _ _ fp7
    refine ⟨p7, p17, _, _, rfl, rfl, hz_sub _ _ fp7, hz_sub _ _ fp17, by show 16 ≤ 2 ^ 24; decide, fun p18 np18 => ?_⟩
    obtain ⟨Sp18, ep18, fp18⟩ := step _ _ (.lst ([V.non, V.str "ab", V.ref p1, V.ref p2, V.ref p3, V.ref p4, V.ref p5, V.ref p6] ++ [V.ref p8, V.ref p9, V.ref p10, V.int 7, V.ref p11, V.ref p12, V.ref p13, V.ref p16])) np18 Sp17
    generalize upd J17 p18 (.lst ([V.non, V.str "ab", V.ref p1, V.ref p2, V.ref p3, V.ref p4, V.ref p5, V.ref p6] ++ [V.ref p8, V.ref p9, V.ref p10, V.int 7, V.ref p11, V.ref p12, V.ref p13, V.ref p16])) = J18 at Sp18 ep18 fp18
    replace hp1 := hp1.same ep18
    replace hp2 := hp2.same ep18
    replace hp3 := hp3.same ep18
    replace hp4 := hp4.same ep18
    replace hp5 := hp5.same ep18
    replace hp6 := hp6.same ep18
    replace hp8 := hp8.same ep18
    replace hp9 := hp9.same ep18
    replace hp10 := hp10.same ep18
    replace hp11 := hp11.same ep18
    replace hp12 := hp12.same ep18
    replace hp13 := hp13.same ep18
    replace hp14 := hp14.same ep18
    replace hp15 := hp15.same ep18
    replace hp16 := hp16.same ep18
    refine ⟨_, rfl, _, rfl, ?_⟩
    refine ⟨by show 1 ≤ 2 ^ 24; decide, fun p19 np19 => ?_⟩
    obtain ⟨Sp19, ep19, fp19⟩ := step _ _ (.lst [V.str "b"]) np19 Sp18
    generalize upd J18 p19 (.lst [V.str "b"]) = J19 at Sp19 ep19 fp19
    replace hp1 := hp1.same ep19
    replace hp2 := hp2.same ep19
    replace hp3 := hp3.same ep19
    replace hp4 := hp4.same ep19
    replace hp5 := hp5.same ep19
    replace hp6 := hp6.same ep19
    replace hp8 := hp8.same ep19
    replace hp9 := hp9.same ep19
    replace hp10 := hp10.same ep19
    replace hp11 := hp11.same ep19
    replace hp12 := hp12.same ep19
    replace hp13 := hp13.same ep19
    replace hp14 := hp14.same ep19
    replace hp15 := hp15.same ep19
    replace hp16 := hp16.same ep19
    replace fp18 := ep19 _ _ fp18
    have hp19 : Dt K (Hz S J19) (.ref p19) (.list [.str "b"]) := .lst fp19 (.cons (.str _) .nil)
    refine ⟨by show 2 ≤ 2 ^ 24; decide, fun p20 np20 => ?_⟩
    obtain ⟨Sp20, ep20, fp20⟩ := step _ _ (.tup [V.str "a", V.ref p19]) np20 Sp19
    generalize upd J19 p20 (.tup [V.str "a", V.ref p19]) = J20 at Sp20 ep20 fp20
    replace hp1 := hp1.same ep20
    replace hp2 := hp2.same ep20
    replace hp3 := hp3.same ep20
    replace hp4 := hp4.same ep20
    replace hp5 := hp5.same ep20
    replace hp6 := hp6.same ep20
    replace hp8 := hp8.same ep20
    replace hp9 := hp9.same ep20
    replace hp10 := hp10.same ep20
    replace hp11 := hp11.same ep20
    replace hp12 := hp12.same ep20
    replace hp13 := hp13.same ep20
    replace hp14 := hp14.same ep20
    replace hp15 := hp15.same ep20
    replace hp16 := hp16.same ep20
    replace hp19 := hp19.same ep20
    replace fp18 := ep20 _ _ fp18
    have hp20 : Dt K (Hz S J20) (.ref p20) (.tuple [.str "a", .list [.str "b"]]) := .tup fp20 (.cons (.str _) (.cons hp19 .nil))
    refine ⟨by show 0 ≤ 2 ^ 24; decide, fun p21 np21 => ?_⟩
    obtain ⟨Sp21, ep21, fp21⟩ := step _ _ (.lst []) np21 Sp20
    generalize upd J20 p21 (.lst []) = J21 at Sp21 ep21 fp21
    replace hp1 := hp1.same ep21
    replace hp2 := hp2.same ep21
    replace hp3 := hp3.same ep21
    replace hp4 := hp4.same ep21
    replace hp5 := hp5.same ep21
    replace hp6 := hp6.same ep21
    replace hp8 := hp8.same ep21
    replace hp9 := hp9.same ep21
    replace hp10 := hp10.same ep21
    replace hp11 := hp11.same ep21
    replace hp12 := hp12.same ep21
    replace hp13 := hp13.same ep21
    replace hp14 := hp14.same ep21
    replace hp15 := hp15.same ep21
    replace hp16 := hp16.same ep21
    replace hp19 := hp19.same ep21
    replace hp20 := hp20.same ep21
    replace fp18 := ep21 _ _ fp18
    have hp21 : Dt K (Hz S J21) (.ref p21) (.list []) := .lst fp21 .nil
    intro p22 np22
    obtain ⟨Sp22, ep22, fp22⟩ := step _ _ (.dK []) np22 Sp21
    generalize upd J21 p22 (.dK []) = J22 at Sp22 ep22 fp22
    replace hp1 := hp1.same ep22
    replace hp2 := hp2.same ep22
    replace hp3 := hp3.same ep22
    replace hp4 := hp4.same ep22
    replace hp5 := hp5.same ep22
    replace hp6 := hp6.same ep22
    replace hp8 := hp8.same ep22
    replace hp9 := hp9.same ep22
    replace hp10 := hp10.same ep22
    replace hp11 := hp11.same ep22
    replace hp12 := hp12.same ep22
    replace hp13 := hp13.same ep22
    replace hp14 := hp14.same ep22
    replace hp15 := hp15.same ep22
    replace hp16 := hp16.same ep22
    replace hp19 := hp19.same ep22
    replace hp20 := hp20.same ep22
    replace hp21 := hp21.same ep22
    replace fp18 := ep22 _ _ fp18
    have hp22 : Dt K (Hz S J22) (.ref p22) (.dict []) := .dic fp22
    refine ⟨by show 2 ≤ 2 ^ 24; decide, fun p23 np23 => ?_⟩
    obtain ⟨Sp23, ep23, fp23⟩ := step _ _ (.tup [V.ref p21, V.ref p22]) np23 Sp22
    generalize upd J22 p23 (.tup [V.ref p21, V.ref p22]) = J23 at Sp23 ep23 fp23
    replace hp1 := hp1.same ep23
    replace hp2 := hp2.same ep23
    replace hp3 := hp3.same ep23
    replace hp4 := hp4.same ep23
    replace hp5 := hp5.same ep23
    replace hp6 := hp6.same ep23
    replace hp8 := hp8.same ep23
    replace hp9 := hp9.same ep23
    replace hp10 := hp10.same ep23
    replace hp11 := hp11.same ep23
    replace hp12 := hp12.same ep23
    replace hp13 := hp13.same ep23
    replace hp14 := hp14.same ep23
    replace hp15 := hp15.same ep23
    replace hp16 := hp16.same ep23
    replace hp19 := hp19.same ep23
    replace hp20 := hp20.same ep23
    replace hp21 := hp21.same ep23
    replace hp22 := hp22.same ep23
    replace fp18 := ep23 _ _ fp18
    have hp23 : Dt K (Hz S J23) (.ref p23) (.tuple [.list [], .dict []]) := .tup fp23 (.cons hp21 (.cons hp22 .nil))
    refine ⟨by show 0 ≤ 2 ^ 24; decide, fun p24 np24 => ?_⟩
    obtain ⟨Sp24, ep24, fp24⟩ := step _ _ (.tup []) np24 Sp23
    generalize upd J23 p24 (.tup []) = J24 at Sp24 ep24 fp24
    replace hp1 := hp1.same ep24
    replace hp2 := hp2.same ep24
    replace hp3 := hp3.same ep24
    replace hp4 := hp4.same ep24
    replace hp5 := hp5.same ep24
    replace hp6 := hp6.same ep24
    replace hp8 := hp8.same ep24
    replace hp9 := hp9.same ep24
    replace hp10 := hp10.same ep24
    replace hp11 := hp11.same ep24
    replace hp12 := hp12.same ep24
    replace hp13 := hp13.same ep24
    replace hp14 := hp14.same ep24
    replace hp15 := hp15.same ep24
    replace hp16 := hp16.same ep24
    replace hp19 := hp19.same ep24
    replace hp20 := hp20.same ep24
    replace hp21 := hp21.same ep24
    replace hp22 := hp22.same ep24
    replace hp23 := hp23.same ep24
    replace fp18 := ep24 _ _ fp18
    have hp24 : Dt K (Hz S J24) (.ref p24) (.tuple []) := .tup fp24 .nil
    refine ⟨by show 3 ≤ 2 ^ 24; decide, fun p25 np25 => ?_⟩
    obtain ⟨Sp25, ep25, fp25⟩ := step _ _ (.lst [V.ref p20, V.ref p23, V.ref p24]) np25 Sp24
    generalize upd J24 p25 (.lst [V.ref p20, V.ref p23, V.ref p24]) = J25 at Sp25 ep25 fp25
    replace hp1 := hp1.same ep25
    replace hp2 := hp2.same ep25
    replace hp3 := hp3.same ep25
    replace hp4 := hp4.same ep25
    replace hp5 := hp5.same ep25
    replace hp6 := hp6.same ep25
    replace hp8 := hp8.same ep25
    replace hp9 := hp9.same ep25
    replace hp10 := hp10.same ep25
    replace hp11 := hp11.same ep25
    replace hp12 := hp12.same ep25
    replace hp13 := hp13.same ep25
    replace hp14 := hp14.same ep25
    replace hp15 := hp15.same ep25
    replace hp16 := hp16.same ep25
    replace hp19 := hp19.same ep25
    replace hp20 := hp20.same ep25
    replace hp21 := hp21.same ep25
    replace hp22 := hp22.same ep25
    replace hp23 := hp23.same ep25
    replace hp24 := hp24.same ep25
    replace fp18 := ep25 _ _ fp18
    refine ⟨p18, p25, _, _, rfl, rfl, hz_sub _ _ fp18, hz_sub _ _ fp25, by show 19 ≤ 2 ^ 24; decide, fun p26 np26 => ?_⟩
    obtain ⟨Sp26, ep26, fp26⟩ := step _ _ (.lst ([V.non, V.str "ab", V.ref p1, V.ref p2, V.ref p3, V.ref p4, V.ref p5, V.ref p6] ++ [V.ref p8, V.ref p9, V.ref p10, V.int 7, V.ref p11, V.ref p12, V.ref p13, V.ref p16] ++ [V.ref p20, V.ref p23, V.ref p24])) np26 Sp25
    generalize upd J25 p26 (.lst ([V.non, V.str "ab", V.ref p1, V.ref p2, V.ref p3, V.ref p4, V.ref p5, V.ref p6] ++ [V.ref p8, V.ref p9, V.ref p10, V.int 7, V.ref p11, V.ref p12, V.ref p13, V.ref p16] ++ [V.ref p20, V.ref p23, V.ref p24])) = J26 at Sp26 ep26 fp26
    replace hp1 := hp1.same ep26
    replace hp2 := hp2.same ep26
    replace hp3 := hp3.same ep26
    replace hp4 := hp4.same ep26
    replace hp5 := hp5.same ep26
    replace hp6 := hp6.same ep26
    replace hp8 := hp8.same ep26
    replace hp9 := hp9.same ep26
    replace hp10 := hp10.same ep26
    replace hp11 := hp11.same ep26
    replace hp12 := hp12.same ep26
    replace hp13 := hp13.same ep26
    replace hp14 := hp14.same ep26
    replace hp15 := hp15.same ep26
    replace hp16 := hp16.same ep26
    replace hp19 := hp19.same ep26
    replace hp20 := hp20.same ep26
    replace hp21 := hp21.same ep26
    replace hp22 := hp22.same ep26
    replace hp23 := hp23.same ep26
    replace hp24 := hp24.same ep26
    have all : ∀ v ∈ [V.non, V.str "ab", V.ref p1, V.ref p2, V.ref p3, V.ref p4, V.ref p5, V.ref p6] ++ [V.ref p8, V.ref p9, V.ref p10, V.int 7, V.ref p11, V.ref p12, V.ref p13, V.ref p16] ++ [V.ref p20, V.ref p23, V.ref p24], Al K S J26 v := by
      simp only [List.cons_append, List.nil_append, List.forall_mem_cons]
      exact ⟨⟨.none, .non, ⟨by decide +kernel, by decide +kernel, by decide +kernel⟩⟩, ⟨⟨.str "ab", .str _, ⟨by decide +kernel, by decide +kernel, by decide +kernel⟩⟩, ⟨⟨.tuple [.str "a"], hp1, ⟨by decide +kernel, by decide +kernel, by decide +kernel⟩⟩, ⟨⟨.tuple [.str "a", .str "b", .str "c"], hp2, ⟨by decide +kernel, by decide +kernel, by decide +kernel⟩⟩, ⟨⟨.list [.str "a", .str "b"], hp3, ⟨by decide +kernel, by decide +kernel, by decide +kernel⟩⟩, ⟨⟨.tuple [.str "a", .str "a"], hp4, ⟨by decide +kernel, by decide +kernel, by decide +kernel⟩⟩, ⟨⟨.tuple [.str "ab", .str "b"], hp5, ⟨by decide +kernel, by decide +kernel, by decide +kernel⟩⟩, ⟨⟨.tuple [.str "", .str ""], hp6, ⟨by decide +kernel, by decide +kernel, by decide +kernel⟩⟩, ⟨⟨.tuple [.str "a", .int 1], hp8, ⟨by decide +kernel, by decide +kernel, by decide +kernel⟩⟩, ⟨⟨.tuple [.none, .str "a"], hp9, ⟨by decide +kernel, by decide +kernel, by decide +kernel⟩⟩, ⟨⟨.dict [], hp10, ⟨by decide +kernel, by decide +kernel, by decide +kernel⟩⟩, ⟨⟨.int 7, .int _, ⟨by decide +kernel, by decide +kernel, by decide +kernel⟩⟩, ⟨⟨.tuple [.str "a", .str "e"], hp11, ⟨by decide +kernel, by decide +kernel, by decide +kernel⟩⟩, ⟨⟨.tuple [.str "abab", .str "baba"], hp12, ⟨by decide +kernel, by decide +kernel, by decide +kernel⟩⟩, ⟨⟨.tuple [.str "A", .str "b"], hp13, ⟨by decide +kernel, by decide +kernel, by decide +kernel⟩⟩, ⟨⟨.tuple [.tuple [.str "a"], .tuple [.str "b"]], hp16, ⟨by decide +kernel, by decide +kernel, by decide +kernel⟩⟩, ⟨⟨.tuple [.str "a", .list [.str "b"]], hp20, ⟨by decide +kernel, by decide +kernel, by decide +kernel⟩⟩, ⟨⟨.tuple [.list [], .dict []], hp23, ⟨by decide +kernel, by decide +kernel, by decide +kernel⟩⟩, ⟨⟨.tuple [], hp24, ⟨by decide +kernel, by decide +kernel, by decide +kernel⟩⟩, fun _ h => nomatch h⟩⟩⟩⟩⟩⟩⟩⟩⟩⟩⟩⟩⟩⟩⟩⟩⟩⟩⟩
    refine ⟨d, c, p26, _, _, rfl, Sp26.1, by omega, HS.hd _ _ fp26, by show 0 < 19; decide, by show 19 ≤ 100000; decide, fun v G2 hv D2 s2 => ?_⟩
    exact q v G2 ((all v hv).same (HS.hz s2)) (D2.mono (by omega)) (Sp26.2.trans s2)
  · refine ⟨_, rfl, by show 4 ≤ 2 ^ 24; decide, fun a na => ?_⟩
    obtain ⟨Sa, ea, fa⟩ := step _ _ (.lst [V.int 1, V.int 2, V.int 2, V.int 3]) na ⟨D1, s1⟩
    generalize upd G1 a (.lst [V.int 1, V.int 2, V.int 2, V.int 3]) = Ga at Sa ea fa
    refine ⟨d, c, a, _, _, rfl, Sa.1, by omega, HS.hd _ _ fa, by show 0 < 4; decide, by show 4 ≤ 100000; decide, fun v G3 hv D3 s3 => ?_⟩
    obtain ⟨z, rfl, z1, z3⟩ : ∃ z : Nat, v = .int z ∧ 1 ≤ z ∧ z ≤ 3 := by
      revert hv
      generalize v = u
      revert u
      simp only [List.forall_mem_cons]
      exact ⟨⟨1, rfl, by decide, by decide⟩, ⟨2, rfl, by decide, by decide⟩, ⟨2, rfl, by decide, by decide⟩, ⟨3, rfl, by decide, by decide⟩, fun _ h => nomatch h⟩
    refine ⟨_, rfl, _, rfl, _, rfl, d, c, l, z, _, rfl, D3, by omega, l1, l4, by omega, fun w1 G4 wl1 wa1 D4 s4 => ?_⟩
    refine ⟨_, rfl, _, rfl, _, rfl, d, c, l, z, _, rfl, D4, by omega, l1, l4, by omega, fun w2 G5 wl2 wa2 D5 s5 => ?_⟩
    refine ⟨by show 2 ≤ 2 ^ 24; decide, fun p np => ?_⟩
    have fp := (HS.next D5 (Sa.2.trans (s3.trans (s4.trans s5)))).fresh np
    have f1 : Fit 40 0 (.str (wS w1)) := KR.fit_word (fun j hj => Nat.lt_of_lt_of_le (wa1 j hj) l4) (by omega)
    have f2 : Fit 40 0 (.str (wS w2)) := KR.fit_word (fun j hj => Nat.lt_of_lt_of_le (wa2 j hj) l4) (by omega)
    exact q _ _ ⟨.tuple [.str (wS w1), .str (wS w2)], .tup (hz_of upd_same fp) (.cons (.str _) (.cons (.str _) .nil)), (Fit.tup (FitAll.cons f1 (FitAll.cons f2 (FitAll.nil (k := 0))))).mono (by decide) (by decide)⟩ ((D5.new np _).mono (by omega)) (Sa.2.trans (s3.trans (s4.trans (s5.trans (hd_new np _)))))
theorem scInd : FnScope ["_law_deck_here", "_law_many"] ["_law_deck_here", "_law_many"] (defScope sInd) := ⟨rfl, rfl, rfl, by decide +kernel, rfl, by decide +kernel, by decide +kernel⟩
theorem ok_ind {f fD fO : Addr} {fd fdD fdO : FuncData} (F : Fun K "_law_index" "_law_index" sInd f fd) (W : Dfn P w K mg base "_law_draw" 1 fD fdD ["_law_deck_here", "_law_many"] spDraw)
    (O : Dfn P w K mg base "_law_one" 2 fO fdO ["_law_deck_here", "_law_items"] spOne) : FnOk P w K mg base CX0 3 f fd ["_law_deck_here", "_law_many"] (spInd K) := by
  refine F.ok scInd (fun vs H Q E h => ?_) (fun cdv A outer s H vs Q E hr h => ?_)
  · obtain ⟨S, d, c, n, m, rfl, _⟩ := h
    rfl
  obtain ⟨S, d, c, n, m, rfl, HS, D, hm, hn, q⟩ := h
  have hr1 : Room 1 _ := hr.mono (by decide)
  refine ⟨_, pss_cons (ps_if (PW.pt (pw_and (pt_cmpR op_gt (pv 1) pe_int (nomark _)) (pw_and1 (pt_cmpR op_gt (pe_call W.ok hr1 rfl W.m W.kp W.b .nil pass0 (pa_cons (pv 0) (pa_cons pe_int pa_nil))) pe_int (nomark _))))) (pss_one (ps_ret (pe_call W.ok hr1 rfl W.m W.kp W.b .nil pass0 (pa_cons (pv 0) (pa_cons (pv 1) pa_nil))))) pss_nil)
    (pss_one (ps_ret (pe_call O.ok hr rfl O.m O.kp O.b .nil pass0 (pa_cons (pv 0) (pa_cons (pe_lst (pa_cons (pv 1) (pa_cons (pe_un un_neg pe_int) (pa_cons pe_bl (pa_cons pe_non (pa_cons pe_str (pa_cons (pe_tup (pa_cons pe_int pa_nil)) (pa_cons (pe_lst (pa_cons pe_int pa_nil)) (pa_cons (pe_op op_pow pe_int pe_int) (pa_cons pe_dnewK (pa_cons (pe_tup pa_nil) pa_nil))))))))))) pa_nil))))), ?_⟩
  have step : ∀ (G : Hp) (p : Addr) (o : HO), G p = none → Deck G d c (m + 1) ∧ Same (Hd d c H) (Hd d c G) → (Deck (upd G p o) d c (m + 1) ∧ Same (Hd d c H) (Hd d c (upd G p o))) ∧ Same (Hz S G) (Hz S (upd G p o)) ∧ Hz S (upd G p o) p = some o := fun G p o n ⟨DG, sG⟩ =>
    ⟨⟨DG.new n o, sG.trans (hd_new n o)⟩, hz_same (same_new n o), hz_of upd_same ((HS.next DG sG).fresh n)⟩
  refine seq_cut (P := fun σ G => σ = [some (.ref d), some (.int (n : Int))] ∧ Deck G d c (m + 1) ∧ Same (Hd d c H) (Hd d c G)) (fun R hR => ?_) ?_
  · refine ⟨_, rfl, _, _, rfl, rfl, _, rfl, ite2 (fun c0 => ?_) (fun c0 => ?_)⟩
    · have n0 : 0 < n := by have := of_decide_eq_true c0; omega
      refine ⟨_, rfl, d, c, 6, _, rfl, D, by omega, by decide, by decide, fun r G1 r0 r1 D1 s1 => ⟨_, _, rfl, rfl, _, rfl, ite2 (fun c1 => ?_) (fun c1 => ?_)⟩⟩
      · refine ⟨_, rfl, _, rfl, d, c, (n : Int), _, rfl, D1, by omega, by omega, by omega, fun r2 G2 r3 r4 D2 s2 => ?_⟩
        exact q _ _ ⟨_, .int _, fit_int (Nat.lt_of_lt_of_le (m := 1000) (by omega) (by decide +kernel)) (by decide)⟩ D2 (s1.trans s2)
      · exact hR _ _ ⟨rfl, D1, s1⟩
    · exact iteF (hR _ _ ⟨rfl, D.mono (by omega), Same.refl _⟩)
  rintro σ G1 ⟨rfl, D1, s1⟩
  refine ⟨_, rfl, ?_⟩
  refine ⟨_, rfl, ?_⟩
  refine ⟨_, rfl, ?_⟩
  refine ⟨by show 1 ≤ 2 ^ 24; decide, fun p1 np1 => ?_⟩
  obtain ⟨Sp1, ep1, fp1⟩ := step _ _ (.tup [V.int 0]) np1 ⟨D1, s1⟩
  generalize upd G1 p1 (.tup [V.int 0]) = J1 at Sp1 ep1 fp1
  have hp1 : Dt K (Hz S J1) (.ref p1) (.tuple [.int 0]) := .tup fp1 (.cons (.int _) .nil)
  refine ⟨by show 1 ≤ 2 ^ 24; decide, fun p2 np2 => ?_⟩
  obtain ⟨Sp2, ep2, fp2⟩ := step _ _ (.lst [V.int 0]) np2 Sp1
  generalize upd J1 p2 (.lst [V.int 0]) = J2 at Sp2 ep2 fp2
  replace hp1 := hp1.same ep2
  have hp2 : Dt K (Hz S J2) (.ref p2) (.list [.int 0]) := .lst fp2 (.cons (.int _) .nil)
  refine ⟨_, _, rfl, rfl, ⟨by decide, by decide, by decide⟩, ?_⟩
  intro p3 np3
  obtain ⟨Sp3, ep3, fp3⟩ := step _ _ (.dK []) np3 Sp2
  generalize upd J2 p3 (.dK []) = J3 at Sp3 ep3 fp3
  replace hp1 := hp1.same ep3
  replace hp2 := hp2.same ep3
  have hp3 : Dt K (Hz S J3) (.ref p3) (.dict []) := .dic fp3
  refine ⟨by show 0 ≤ 2 ^ 24; decide, fun p4 np4 => ?_⟩
  obtain ⟨Sp4, ep4, fp4⟩ := step _ _ (.tup []) np4 Sp3
  generalize upd J3 p4 (.tup []) = J4 at Sp4 ep4 fp4
  replace hp1 := hp1.same ep4
  replace hp2 := hp2.same ep4
  replace hp3 := hp3.same ep4
  have hp4 : Dt K (Hz S J4) (.ref p4) (.tuple []) := .tup fp4 .nil
  refine ⟨by show 10 ≤ 2 ^ 24; decide, fun p5 np5 => ?_⟩
  obtain ⟨Sp5, ep5, fp5⟩ := step _ _ (.lst [V.int (n : Int), V.int (-1), V.bl true, V.non, V.str "0", V.ref p1, V.ref p2, V.int (10 ^ (30 : Int).toNat), V.ref p3, V.ref p4]) np5 Sp4
  generalize upd J4 p5 (.lst [V.int (n : Int), V.int (-1), V.bl true, V.non, V.str "0", V.ref p1, V.ref p2, V.int (10 ^ (30 : Int).toNat), V.ref p3, V.ref p4]) = J5 at Sp5 ep5 fp5
  replace hp1 := hp1.same ep5
  replace hp2 := hp2.same ep5
  replace hp3 := hp3.same ep5
  replace hp4 := hp4.same ep5
  have all : ∀ v ∈ [V.int (n : Int), V.int (-1), V.bl true, V.non, V.str "0", V.ref p1, V.ref p2, V.int (10 ^ (30 : Int).toNat), V.ref p3, V.ref p4], Al K S J5 v := by
    simp only [List.forall_mem_cons]
    exact ⟨⟨.int (n : Int), .int _, fit_int (Nat.lt_of_le_of_lt (m := 1000) (by omega) (by decide +kernel)) (by decide)⟩, ⟨⟨.int (-1), .int _, ⟨by decide +kernel, by decide +kernel, by decide +kernel⟩⟩, ⟨⟨.bool true, .bl true, ⟨by decide +kernel, by decide +kernel, by decide +kernel⟩⟩, ⟨⟨.none, .non, ⟨by decide +kernel, by decide +kernel, by decide +kernel⟩⟩, ⟨⟨.str "0", .str _, ⟨by decide +kernel, by decide +kernel, by decide +kernel⟩⟩, ⟨⟨.tuple [.int 0], hp1, ⟨by decide +kernel, by decide +kernel, by decide +kernel⟩⟩, ⟨⟨.list [.int 0], hp2, ⟨by decide +kernel, by decide +kernel, by decide +kernel⟩⟩, ⟨⟨.int (10 ^ (30 : Int).toNat), .int _, ⟨by decide +kernel, by decide +kernel, by decide +kernel⟩⟩, ⟨⟨.dict [], hp3, ⟨by decide +kernel, by decide +kernel, by decide +kernel⟩⟩, ⟨⟨.tuple [], hp4, ⟨by decide +kernel, by decide +kernel, by decide +kernel⟩⟩, fun _ h => nomatch h⟩⟩⟩⟩⟩⟩⟩⟩⟩⟩
  refine ⟨d, c, p5, _, _, rfl, Sp5.1, by omega, HS.hd _ _ fp5, by show 0 < 10; decide, by show 10 ≤ 100000; decide, fun v G2 hv D2 s2 => ?_⟩
  exact q v G2 ((all v hv).same (HS.hz s2)) D2 (Sp5.2.trans s2)
end
end K08
namespace K08
open PySem GL GZ KW KR GU KU KM KS KP GX KH KD GT
open L2 hiding isNon
open KC hiding rLenS call_lenS
open KX (Small errD okP inA ab)
/-! ### data do not stand on instances -/
section
variable {K : PySem.W.Frag} {J J' : Hp}
mutual
theorem dt_mono (e : ∀ b o, J b = some o → (∀ C dx fs, o ≠ .ins C dx fs) → J' b = some o) : ∀ {d : PyData} {v : V}, Dt K J v d → Dt K J' v d
  | _, _, .non => .non
  | _, _, .bl b => .bl b
  | _, _, .int i => .int i
  | _, _, .str x => .str x
  | _, _, .lst h a => .lst (e _ _ h (fun _ _ _ z => by cases z)) (dt_monoAll e a)
  | _, _, .tup h a => .tup (e _ _ h (fun _ _ _ z => by cases z)) (dt_monoAll e a)
  | _, _, .dic h => .dic (e _ _ h (fun _ _ _ z => by cases z))
theorem dt_monoAll (e : ∀ b o, J b = some o → (∀ C dx fs, o ≠ .ins C dx fs) → J' b = some o) : ∀ {ds : List PyData} {vs : List V}, DtAll K J vs ds → DtAll K J' vs ds
  | _, _, .nil => .nil
  | _, _, .cons h a => .cons (dt_mono e h) (dt_monoAll e a)
end
end
section
variable {K : PySem.W.Frag} {d c x C dx : Addr} {fs : List (Str × V)} {H G : Hp}
theorem hz_hd {b : Addr} {o : HO} (h : Hd d c G b = some o) (n : b ≠ x) : Hz [d, c, x] G b = some o := by
  obtain ⟨a, n1, n2⟩ := hd_some h
  exact hz_of a fun m => by
    simp only [List.mem_cons, List.not_mem_nil, or_false] at m
    rcases m with z | z | z
    · exact n1 z
    · exact n2 z
    · exact n z
theorem dt_hz {v : V} {dd : PyData} (hx : G x = some (.ins C dx fs)) (h : Dt K (Hd d c G) v dd) : Dt K (Hz [d, c, x] G) v dd := dt_mono (fun b o e n => hz_hd e fun z => by
  have := (hd_some e).1
  rw [z, hx] at this
  cases this
  exact n _ _ _ rfl) h
theorem same_hz (s : Same (Hd d c H) (Hd d c G)) : Same (Hz [d, c, x] H) (Hz [d, c, x] G) := fun b o h => by
  obtain ⟨a, n⟩ := hz_some h
  simp only [List.mem_cons, List.not_mem_nil, or_false, not_or] at n
  exact hz_hd (s _ _ (hd_of a n.1 n.2.1)) n.2.2
theorem deck_ne {m : Nat} (D : Deck H d c m) (hx : H x = some (.ins C dx fs)) : x ≠ d ∧ x ≠ c := by
  obtain ⟨L, n, h1, h2, _⟩ := D.ex
  exact ⟨fun e => (by rw [e, h1] at hx; cases hx), fun e => (by rw [e, h2] at hx; cases hx)⟩
theorem deck_liv {m : Nat} (D : Deck H d c m) (hx : H x = some (.ins C dx fs)) : Liv [d, c, x] H := by
  obtain ⟨L, n, h1, h2, _⟩ := D.ex
  intro b hb
  simp only [List.mem_cons, List.not_mem_nil, or_false] at hb
  rcases hb with rfl | rfl | rfl
  · exact ⟨_, h1, fun xs z => by cases z⟩
  · exact ⟨_, h2, fun xs z => by cases z⟩
  · exact ⟨_, hx, fun xs z => by cases z⟩
theorem deck_exc {m : Nat} (D : Deck H d c m) (hx : H x = some (.ins C dx fs)) (e : Exc x H G) : Deck G d c m := by
  obtain ⟨n1, n2⟩ := deck_ne D hx
  obtain ⟨L, n, h1, h2, h3⟩ := D.ex
  exact ⟨D.ne, L, n, e _ _ n1.symm h1, e _ _ n2.symm h2, h3⟩
end
/-! ### sizes -/
theorem okP_fit {l : Nat} (l1 : 1 ≤ l) (l4 : l ≤ 4) {x : Str} (h : okP l x = true) {k : Nat} : Fit 32 k (.str x) := by
  unfold okP at h
  simp only [Bool.and_eq_true, decide_eq_true_eq, List.all_eq_true] at h
  obtain ⟨⟨_, h3⟩, h4⟩ := h
  refine fit_plain (n := 3) (fun c hc => ?_) h3
  have := of_decide_eq_true (show decide (c ∈ (ab l).cps.toList) = true from h4 c hc)
  unfold ab at this
  rw [wS_list] at this
  obtain ⟨j, hj, rfl⟩ := List.mem_map.mp this
  have := List.mem_range.mp hj
  omega
theorem okq_fit {l : Nat} (l1 : 1 ≤ l) (l4 : l ≤ 4) {p : Str × Str} (h : OkQ l p) : Fit 80 1 (pS p) :=
  (Fit.tup (FitAll.cons (okP_fit l1 l4 h.o1 (k := 0)) (FitAll.cons (okP_fit l1 l4 h.o2 (k := 0)) (FitAll.nil (k := 0))))).mono (by decide) (by decide)
theorem vl_fit {l : Nat} (l1 : 1 ≤ l) (l4 : l ≤ 4) {ps : List (Str × Str)} (h : Vl l ps) : FitAll 500 1 (ps.map pS) :=
  (fit_map (f := pS) (n := 80) (k := 1) fun p hp => okq_fit l1 l4 (h.ok p hp)).mono (by have := h.len; omega) (Nat.le_refl _)
theorem wts_app2 (a b : List PyData) : wts (a ++ b) = wts a + wts b := KG.wts_app a b
theorem wts_get {ds : List PyData} (i : Nat) (h : wts ds ≤ 500) : wt (ds.getD i .none) ≤ 500 := by
  rw [List.getD_eq_getElem?_getD]
  cases e : ds[i]? with
  | none => show wt .none ≤ 500; simp [wt]
  | some d => exact Nat.le_trans (mem_wts (List.mem_of_getElem? e)) h
theorem swD_wt {l : Nat} (l1 : 1 ≤ l) (l4 : l ≤ 4) {p : Str × Str} (h : OkQ l p) : wt (swD (pS p)) ≤ 500 := Nat.le_trans (okq_fit l1 l4 h.sw).w (by decide)
/-- what an edit makes is small -/
theorem after_small {l : Nat} (l1 : 1 ≤ l) (l4 : l ≤ 4) {ps : List (Str × Str)} (h : Vl l ps) {w : Str} {a p : PyData} (ha : wt a ≤ 300) (hp : wt p ≤ 300) {ds' : List PyData} (e : KD.after (ps.map pS) w a p = some ds') : Small (.tuple ds') := by
  have W := (vl_fit l1 l4 h).w
  suffices hh : wts ds' ≤ 5000 by
    show wt (.tuple ds') ≤ 1000000
    simp only [wt]
    omega
  by_cases wa : w = "add"
  · unfold KD.after at e
    rw [if_pos wa] at e
    cases e
    rw [wts_app2]
    simp only [wts]
    omega
  by_cases wc : w = "change"
  · unfold KD.after at e
    rw [if_neg wa] at e
    by_cases ci : inR 0 (((ps.map pS).length : Int) - 1) a = true
    · rw [if_pos ci, if_pos wc] at e
      cases e
      rw [wts_app2, wts_app2]
      have t1 := KG.wts_take (ixD a) (ps.map pS)
      have t2 := KG.wts_drop (ixD a + 1) (ps.map pS)
      simp only [wts]
      omega
    · rw [if_neg ci] at e
      cases e
  · obtain ⟨ps', rfl, V'⟩ := h.after wa wc e
    have := (vl_fit l1 l4 V').w
    omega
end K08
namespace K08
open PySem GL GZ KW KR GU KU KM KS KP GX KH KD GT
open L2 hiding isNon
open KC hiding rLenS call_lenS
open KX (Small errD walkE pairD)
theorem walk_lt {l : Nat} : ∀ (ds : List PyData) (i : Nat) (tk : List Str) (j : Nat), KX.walkE l i tk ds = some j → j < i + ds.length
  | [], i, tk, j, h => by unfold KX.walkE at h; cases h
  | d :: ds, i, tk, j, h => by
    unfold KX.walkE at h
    rw [List.length_cons]
    cases e : pairD l d with
    | none =>
      rw [e] at h
      simp only [Option.some.injEq] at h
      omega
    | some ab =>
      obtain ⟨x, y⟩ := ab
      rw [e] at h
      simp only at h
      split at h
      · simp only [Option.some.injEq] at h
        omega
      · have := walk_lt ds (i + 1) _ j h
        omega
theorem errD_fit {l : Nat} {d : PyData} (h : Small d) : Fit 100 1 (errD l d) := by
  unfold errD
  split
  · rename_i ds
    split
    · rename_i i e
      have il := walk_lt ds 0 [] i e
      have dl := h.len
      have ii : ((i : Nat) : Int).natAbs < 10 ^ 41 := Nat.lt_of_lt_of_le (show i < 1000001 by omega) (by decide +kernel)
      exact (Fit.tup (FitAll.cons (fit_int (n := 42) (k := 0) ii (by decide)) (FitAll.cons (fit_str (n := 20) (m := 20) (by decide +kernel) (by decide)) FitAll.nil))).mono (by decide) (by decide)
    · split
      · exact (Fit.tup (FitAll.cons (fit_non (n := 5) (k := 0) (by decide)) (FitAll.cons (fit_str (n := 20) (m := 20) (by decide +kernel) (by decide)) FitAll.nil))).mono (by decide) (by decide)
      · exact fit_non (by decide)
  · exact (Fit.tup (FitAll.cons (fit_non (n := 5) (k := 0) (by decide)) (FitAll.cons (fit_str (n := 20) (m := 20) (by decide +kernel) (by decide)) FitAll.nil))).mono (by decide) (by decide)
theorem shown_le {K : PySem.W.Frag} {H : Hp} {d : PyData} {v : V} {n k : Nat} (h : Dt K H v d) (f : Fit n k d) (hn : n ≤ 1000000) : d.shown.length ≤ sizeLine := by
  have a := shown_wt d v h
  have b := f.w
  show _ ≤ 2 ^ 24
  omega

theorem serr_ok {s : Sch} (h : Ok s) : serr (KS.dataOf s) = .none := by
  have e1 := kind_ok h
  have e2 := rule_ok h
  unfold KS.dataOf
  have e3 : signsOk (s.l : Int) (.str (sS s.bs)) = true := by
    show (decide (((sS s.bs).length : Int) = s.l) && (sS s.bs).cps.toList.all fun c => decide (c ∈ ("+-" : Str).cps.toList)) = true
    rw [KW.sS_len, h.bl]
    have := signs_is s.bs
    unfold isSigns at this
    rw [this, decide_eq_true rfl]
    rfl
  have e4 : nStates (kindD s) = s.rows.length := by
    show (s.rows.map rowD).length = _
    rw [List.length_map]
  have e5 : nLetters (kindD s) = (s.l : Int) := rfl
  unfold serr
  dsimp only
  rw [e1]
  dsimp only
  rw [if_neg (by rw [e4]; have := h.n8; omega), e5, if_pos e3, Int.toNat_natCast, e2]
theorem data_fit {s : Sch} (h : Ok s) : Fit 5000 4 (KS.dataOf s) := by
  have f := (ok_of h).fit
  rw [psD_of h] at f
  exact f.mono (by decide) (Nat.le_refl _)
def spLed (K : PySem.W.Frag) : Sp := fun vs H Q _ => ∃ (S : List Addr) (d c ra : Addr) (us : List V) (l m : Nat), vs = [.ref d, .int l, .ref ra] ∧ Hs S d c H ∧ Deck H d c m ∧ m ≤ 700000000 ∧ 1 ≤ l ∧ l ≤ 4 ∧ Hd d c H ra = some (.tup us) ∧ us.length ≤ 1000 ∧
  ∀ (te : Addr) (w : Str) (va : V) (a : PyData) (pv : List V) (p : PyData) (G : Hp), Hz S G te = some (.tup (.str w :: va :: pv)) → isEd w → Dt K (Hz S G) va a → Fit 300 3 a → Fit 300 3 p → (w ≠ "change" → pv = []) → (w = "change" → ∃ vp, pv = [vp] ∧ Dt K (Hz S G) vp p) →
    Deck G d c (m + 30) → Same (Hd d c H) (Hd d c G) → Q (.ref te) G
section
variable {P : Program} {w : World} {K : PySem.W.Frag} {mg : Str → Option Value} {base : Heap}
theorem scLed : FnScope ["_law_deck_here", "_law_letters", "_law_rule_here", "_law_word", "_law_index_here"] ["_law_deck_here", "_law_letters", "_law_rule_here"] (defScope sLed) := ⟨rfl, rfl, rfl, by decide +kernel, rfl, by decide +kernel, by decide +kernel⟩
theorem ok_led {f fO fS fI : Addr} {fd fdO fdS fdI : FuncData} (F : Fun K "_law_edit" "_law_edit" sLed f fd) (T : Txt mg) (O : Dfn P w K mg base "_law_one" 2 fO fdO ["_law_deck_here", "_law_items"] spOne) (SO : Dfn P w K mg base "_law_some" 4 fS fdS ["_law_deck_here", "_law_letters"] (spSome K))
    (IN : Dfn P w K mg base "_law_index" 3 fI fdI ["_law_deck_here", "_law_many"] (spInd K)) : FnOk P w K mg base CX0 5 f fd ["_law_deck_here", "_law_letters", "_law_rule_here"] (spLed K) := by
  refine F.ok scLed (fun vs H Q E h => ?_) (fun cdv A outer s H vs Q E hr h => ?_)
  · obtain ⟨S, d, c, ra, us, l, m, rfl, _⟩ := h
    rfl
  obtain ⟨S, d, c, ra, us, l, m, rfl, HS, D, hm, l1, l4, hra, ul, q⟩ := h
  have hr2 : Room 2 _ := hr.mono (by decide)
  have hr3 : Room 3 _ := hr.mono (by decide)
  refine ⟨_, pss_cons (ps_set (i := 3) scLed.nd rfl (Or.inl rfl) (pe_call O.ok hr2 rfl O.m O.kp O.b .nil pass0 (pa_cons (pv 0) (pa_cons (pe_lst (pa_cons pe_str (pa_cons pe_str (pa_cons pe_str (pa_cons pe_str (pa_cons pe_str (pa_cons pe_str (pa_cons pe_str (pa_cons pe_str pa_nil))))))))) pa_nil))))
    (pss_cons (ps_if (pt_cmpR op_eq (pv 3) pe_str (nomark _)) (pss_one (ps_ret (pe_tup (pa_cons (pv 3) (pa_cons (pe_call SO.ok hr rfl SO.m SO.kp SO.b .nil pass0 (pa_cons (pv 0) (pa_cons (pv 1) pa_nil))) pa_nil))))) pss_nil)
    (pss_cons (ps_set (i := 4) scLed.nd rfl (Or.inl rfl) (pe_call IN.ok hr3 rfl IN.m IN.kp IN.b .nil pass0 (pa_cons (pv 0) (pa_cons (pe_callB call_len_seq (by rfl) T.c.len PySem.boot_len (pa_cons (pv 2) pa_nil)) pa_nil))))
    (pss_one (ps_ret (pe_ifExp (pt_cmpR op_eq (pv 3) pe_str (nomark _)) (pe_tup (pa_cons (pv 3) (pa_cons (pv 4) (pa_cons (pe_call SO.ok hr rfl SO.m SO.kp SO.b .nil pass0 (pa_cons (pv 0) (pa_cons (pv 1) pa_nil))) pa_nil)))) (pe_tup (pa_cons (pv 3) (pa_cons (pv 4) pa_nil)))))))), ?_⟩
  refine ⟨_, rfl, by show 8 ≤ 2 ^ 24; decide, fun la nla => ?_⟩
  have fla := D.free nla
  have Dl := D.new nla (.lst [V.str "add", V.str "add", V.str "add", V.str "drop", V.str "change", V.str "change", V.str "lift", V.str "turn"])
  have sl := hd_new (d := d) (c := c) nla (.lst [V.str "add", V.str "add", V.str "add", V.str "drop", V.str "change", V.str "change", V.str "lift", V.str "turn"])
  have gl : Hd d c (upd H la (.lst [V.str "add", V.str "add", V.str "add", V.str "drop", V.str "change", V.str "change", V.str "lift", V.str "turn"])) la = some (.lst [V.str "add", V.str "add", V.str "add", V.str "drop", V.str "change", V.str "change", V.str "lift", V.str "turn"]) := hd_of upd_same fla.1 fla.2
  generalize upd H la (.lst [V.str "add", V.str "add", V.str "add", V.str "drop", V.str "change", V.str "change", V.str "lift", V.str "turn"]) = G1 at Dl sl gl ⊢
  refine ⟨d, c, la, _, _, rfl, Dl, by omega, gl, by show 0 < 8; decide, by show 8 ≤ 100000; decide, fun v G2 hv D2 s2 => ?_⟩
  obtain ⟨w, rfl, hw⟩ : ∃ w : Str, v = .str w ∧ isEd w := by
    revert hv
    generalize v = u
    revert u
    simp only [List.forall_mem_cons]
    exact ⟨⟨_, rfl, .inl rfl⟩, ⟨_, rfl, .inl rfl⟩, ⟨_, rfl, .inl rfl⟩, ⟨_, rfl, .inr (.inl rfl)⟩, ⟨_, rfl, .inr (.inr (.inl rfl))⟩, ⟨_, rfl, .inr (.inr (.inl rfl))⟩, ⟨_, rfl, .inr (.inr (.inr (.inl rfl)))⟩, ⟨_, rfl, .inr (.inr (.inr (.inr rfl)))⟩, fun _ h => nomatch h⟩
  have f0 : Fit 300 3 .none := fit_non (by decide)
  have HS2 := HS.next D2 (sl.trans s2)
  refine ⟨_, rfl, rfl, _, rfl, ite2 (fun c1 => ?_) (fun c1 => ?_)⟩
  · obtain rfl : w = "add" := V.str.inj (of_decide_eq_true c1)
    refine ⟨_, rfl, _, rfl, _, rfl, S, d, c, l, _, rfl, HS2, D2, by omega, l1, l4, fun va G3 ⟨a, da, fa⟩ D3 s3 => ?_⟩
    refine ⟨by show 2 ≤ 2 ^ 24; decide, fun te nt => ?_⟩
    have ft := (HS2.next D3 s3).fresh nt
    exact q te "add" va a [] .none _ (hz_of upd_same ft) hw (da.same (hz_same (same_new nt _))) fa f0 (fun _ => rfl) (fun e => absurd e (by decide +kernel)) ((D3.new nt _).mono (by omega)) (sl.trans (s2.trans (s3.trans (hd_new nt _))))
  have hra2 := hd_sub _ _ (s2 _ _ (sl _ _ hra))
  refine ⟨_, rfl, _, rfl, ra, us, rfl, .inr (.inl (.inl hra2)), S, d, c, us.length, _, rfl, HS2, D2, by omega, ul, fun va G3 ⟨a, da, fa⟩ D3 s3 => ?_⟩
  refine ⟨_, rfl, rfl, _, rfl, ite2 (fun c2 => ?_) (fun c2 => ?_)⟩
  · obtain rfl : w = "change" := V.str.inj (of_decide_eq_true c2)
    refine ⟨_, rfl, _, rfl, _, rfl, _, rfl, S, d, c, l, _, rfl, HS2.next D3 s3, D3, by omega, l1, l4, fun vp G4 ⟨p, dp, fp⟩ D4 s4 => ?_⟩
    refine ⟨by show 3 ≤ 2 ^ 24; decide, fun te nt => ?_⟩
    have ft := ((HS2.next D3 s3).next D4 s4).fresh nt
    exact q te "change" va a [vp] p _ (hz_of upd_same ft) hw ((da.same (HS.hz s4)).same (hz_same (same_new nt _))) fa fp (fun e => absurd rfl e) (fun _ => ⟨vp, rfl, dp.same (hz_same (same_new nt _))⟩) ((D4.new nt _).mono (by omega)) (sl.trans (s2.trans (s3.trans (s4.trans (hd_new nt _)))))
  · refine ⟨_, rfl, _, rfl, by show 2 ≤ 2 ^ 24; decide, fun te nt => ?_⟩
    have ft := (HS2.next D3 s3).fresh nt
    exact q te w va a [] .none _ (hz_of upd_same ft) hw (da.same (hz_same (same_new nt _))) fa f0 (fun _ => rfl) (fun e => absurd (decide_eq_true (by rw [e])) c2) ((D3.new nt _).mono (by omega)) (sl.trans (s2.trans (s3.trans (hd_new nt _))))
end
end K08
namespace K08
open PySem GL GZ KW KR GU KU KM KS KP GX KH KD GT GO
open L2 hiding isNon
open KC hiding rLenS call_lenS
open KX (Small errD)
abbrev sBack : Stmt := top 79
abbrev sByIt : Stmt := top 80
abbrev sGot : Stmt := top 81
abbrev sBackd : Stmt := top 82
/-- what catching the two errors wants of their classes -/
structure CatN (K : PySem.W.Frag) (CR CN : Addr) : Prop where
  nn : PySem.W.exmOne K (.ref CN) (.ref CN) = some true
  rn : PySem.W.exmOne K (.ref CR) (.ref CN) = some false
  rr : PySem.W.exmOne K (.ref CR) (.ref CR) = some true
  xn : XfC K CN
  xr : XfC K CR
  fn : PySem.W.findIn K (.ref CN) "index" = some none
  fr : PySem.W.findIn K (.ref CR) "error" = some none
structure CatU (K : PySem.W.Frag) (CU CV : Addr) : Prop where
  uu : PySem.W.exmOne K (.ref CU) (.ref CU) = some true
  vu : PySem.W.exmOne K (.ref CV) (.ref CU) = some false
  vv : PySem.W.exmOne K (.ref CV) (.ref CV) = some true
/-- a method of benches with its promise -/
structure Mth (P : Program) (w : World) (K : PySem.W.Frag) (mg : Str → Option Value) (base : Heap) (C : Addr) (name : Str) (k : Nat) (ps : List Str) (sp : Sp) : Prop where
  ex : ∃ (f : Addr) (fd : FuncData), FnOk P w K mg base (L2.CX P w) k f fd ps sp ∧ L2.Binds K fd ps [] ∧ Meth K C name f
def spGot (K : PySem.W.Frag) (C : Addr) : Sp := fun vs H Q _ => ∃ (S : List Addr) (x : Addr) (l : Nat) (kt : List PyData) (sg : Str) (b : BS) (va : V) (a : PyData), vs = [.ref x, va] ∧ BenchAt K C S H x l kt sg b ∧ Dt K H va a ∧
  (inR 0 ((b.ps.length : Int) - 1) a = false → ∀ q G, Same H G → G q = some (.lst [.str "NoPair", va]) → Q (.ref q) G) ∧
  (∀ (i : Nat) p, a = .int (i : Int) → b.ps[i]? = some p → ∀ v q G, Same H G → G q = some (.lst [.str "ok", v]) → Dt K (Hz S G) v (pS p) → Q (.ref q) G)
section
variable {P : Program} {w : World} {K : PySem.W.Frag} {mg : Str → Option Value} {base : Heap}
theorem scGot : FnScope ["_law_bench", "_law_index_here", "_law_found", "_law_error"] ["_law_bench", "_law_index_here"] (defScope sGot) := ⟨rfl, rfl, rfl, by decide +kernel, rfl, by decide +kernel, by decide +kernel⟩
theorem ok_got {f fG C CR CN : Addr} {fd fdG : FuncData} (F : Fun K "_law_got" "_law_got" sGot f fd) (XN : ExG P w K mg base "NoPair" "index" CN) (CT : CatN K CR CN) (MG : Spm K C "__getitem__" fG) (hf : PySem.W.fnIn K fG = true)
    (FG : FnOk P w K mg base (L2.CX P w) 3 fG fdG ["self", "at"] (spGi K C CN)) (bG : L2.Binds K fdG ["self", "at"] []) : FnOk P w K mg base CX0 5 f fd ["_law_bench", "_law_index_here"] (spGot K C) := by
  refine F.ok scGot (fun vs H Q E h => ?_) (fun cdv A outer s H vs Q E hr h => ?_)
  · obtain ⟨S, x, l, kt, sg, b, va, a, rfl, _⟩ := h
    rfl
  obtain ⟨S, x, l, kt, sg, b, va, a, rfl, BA, DA, qn, q⟩ := h
  obtain ⟨dx, ka, ru, dn, rl, gn, e1, _⟩ := BA.ex
  refine ⟨_, pss_cons (ps_try_as (i := 3) rfl rfl scGot.nd rfl rfl ⟨rfl, by decide, .inl XN.m⟩ takes_none5
      (fun W pn xe tk _ => pss_one (ps_set (i := 2) scGot.nd rfl (Or.inl rfl) (pe_lst (pa_cons pe_str (pa_cons (pe_itO MG hf FG hr bG (fun σ => passAt tk σ) (pv 0) (pv 1)) pa_nil)))))
      (fun a oe cls dd pn hz hf => pss_one (ps_set (i := 2) scGot.nd rfl (Or.inl rfl) (pe_lst (pa_cons pe_str (pa_cons (pe_xf CT.xn CT.fn hz hf (pv 3)) pa_nil))))))
    (pss_one (ps_ret (pv 2))), ?_⟩
  refine ⟨_, rfl, _, rfl, x, dx, _, rfl, e1, S, x, l, kt, sg, b, va, a, rfl, BA, DA, fun hi e G s1 g => ?_, fun i p ha hp v dv => ?_⟩
  · refine ⟨true, CT.nn, fun _ a na => ⟨_, rfl, rfl, rfl, e, _, _, rfl, g, rfl, by show 2 ≤ 2 ^ 24; decide, fun t nt => ⟨_, rfl, ?_⟩⟩, fun z => nomatch z⟩
    exact qn hi t _ (s1.trans (same_new nt _)) upd_same
  · refine ⟨by show 2 ≤ 2 ^ 24; decide, fun t nt => ⟨_, rfl, ?_⟩⟩
    exact q i p ha hp v t _ (same_new nt _) upd_same (dv.same (hz_same (same_new nt _)))
end
def edD (w : Str) (a p : PyData) : PyData := if w = "change" then .tuple [.str w, a, p] else .tuple [.str w, a]
structure ByOut (K : PySem.W.Frag) (C : Addr) (S : List Addr) (H : Hp) (x : Addr) (l : Nat) (kt : List PyData) (sg : Str) (b : BS) (w : Str) (va : V) (a p : PyData) (Q : VK) : Prop where
  ok : ∀ ps' q G, after (b.ps.map pS) w a p = some (ps'.map pS) → errD l (.tuple (ps'.map pS)) = .none → Exc x H G → BenchAt K C S G x l kt sg ⟨ps', b.es ++ [edD w a p], b.rs ++ [b.ps], []⟩ → G q = some (.lst [.str "ok", .int ((b.es.length + 1 : Nat) : Int)]) → Q (.ref q) G
  er : ∀ ds' q ev G, after (b.ps.map pS) w a p = some ds' → errD l (.tuple ds') ≠ .none → Same H G → G q = some (.lst [.str "BadRule", ev]) → Dt K G ev (errD l (.tuple ds')) → Q (.ref q) G
  no : ∀ q G, after (b.ps.map pS) w a p = none → Same H G → G q = some (.lst [.str "NoPair", va]) → Q (.ref q) G
def spBy (K : PySem.W.Frag) (C : Addr) : Sp := fun vs H Q _ => ∃ (S : List Addr) (x te : Addr) (l : Nat) (kt : List PyData) (sg : Str) (b : BS) (w : Str) (va : V) (a : PyData) (pv : List V) (p : PyData), vs = [.ref x, .ref te] ∧ Liv S H ∧ BenchAt K C S H x l kt sg b ∧ b.es.length < 59 ∧
  H te = some (.tup (.str w :: va :: pv)) ∧ (w = "add" ∨ w = "drop" ∨ w = "change") ∧ Dt K (Hz S H) va a ∧ (w = "change" → ∃ vp, pv = [vp] ∧ Dt K (Hz S H) vp p) ∧ (∀ ds', after (b.ps.map pS) w a p = some ds' → Small (.tuple ds')) ∧ ByOut K C S H x l kt sg b w va a p Q
theorem app_inj {α : Type} {a b : List α} {x y : α} (h : a ++ [x] = b ++ [y]) : a = b ∧ x = y := by
  have := List.append_inj' h rfl
  exact ⟨this.1, by simpa using this.2⟩
theorem BenchAt.liv {K : PySem.W.Frag} {C x : Addr} {S : List Addr} {H G : Hp} {l : Nat} {kt : List PyData} {sg : Str} {b : BS} (B : BenchAt K C S G x l kt sg b) (h : Liv S H) (e : Exc x H G) : Liv S G := fun y hy => by
  by_cases c : y = x
  · subst c
    obtain ⟨dx, ka, ru, dn, rl, gn, e1, _⟩ := B.ex
    exact ⟨_, e1, fun xs z => by cases z⟩
  · obtain ⟨o, a, d⟩ := h y hy
    exact ⟨o, e _ _ c a, d⟩
section
variable {P : Program} {w : World} {K : PySem.W.Frag} {mg : Str → Option Value} {base : Heap}
theorem scBy : FnScope ["_law_bench", "_law_edit_here", "_law_held", "_law_found", "_law_error"] ["_law_bench", "_law_edit_here"] (defScope sByIt) := ⟨rfl, rfl, rfl, by decide +kernel, rfl, by decide +kernel, by decide +kernel⟩
theorem ok_by {f fI fS2 fU fR fC fL C CR CN CU CV : Addr} {fd fdI fdS2 fdU fdR fdC fdL : FuncData} (F : Fun K "_law_by_item" "_law_by_item" sByIt f fd) (T : Txt mg) (B : BC K mg C) (XR : Exn P w K mg base "BadRule" "error" CR) (XN : ExG P w K mg base "NoPair" "index" CN) (CT : CatN K CR CN)
    (MI : Spm K C (PySem.dunderI Operator.Add.info.2) fI) (FI : FnOk P w K mg base (L2.CX P w) 8 fI fdI ["self", "other"] (spIa K C CR CN "add")) (bI : L2.Binds K fdI ["self", "other"] [])
    (MS : Spm K C (PySem.dunderI Operator.Sub.info.2) fS2) (FS : FnOk P w K mg base (L2.CX P w) 8 fS2 fdS2 ["self", "other"] (spIa K C CR CN "drop")) (bS : L2.Binds K fdS2 ["self", "other"] []) (sf : PySem.W.selfFirst K C = true) (nq : PySem.W.noSeq K C = true)
    (MC : Spm K C "__setitem__" fC) (FC : FnOk P w K mg base (L2.CX P w) 8 fC fdC ["self", "at", "worth"] (spSi K C CR CN)) (bC : L2.Binds K fdC ["self", "at", "worth"] [])
    (MU : Meth K C "undo" fU) (FU : FnOk P w K mg base (L2.CX P w) 1 fU fdU ["self"] (spUn K C CU)) (bU : L2.Binds K fdU ["self"] []) (MR : Meth K C "redo" fR) (FR : FnOk P w K mg base (L2.CX P w) 1 fR fdR ["self"] (spRe K C CV)) (bR : L2.Binds K fdR ["self"] [])
    (ML : PySem.W.findIn K (.ref C) "__len__" = some (some (.ref fL)) ∧ PySem.W.typeIn K (.ref fL) = some (.type "function")) (FL : FnOk P w K mg base CX0 1 fL fdL ["self"] (spLn C)) (bL : L2.Binds K fdL ["self"] []) :
    FnOk P w K mg base CX0 9 f fd ["_law_bench", "_law_edit_here"] (spBy K C) := by
  refine F.ok scBy (fun vs H Q E h => ?_) (fun cdv A outer s H vs Q E hr h => ?_)
  · obtain ⟨S, x, te, l, kt, sg, b, w, va, a, pv, p, rfl, _⟩ := h
    rfl
  obtain ⟨S, x, te, l, kt, sg, b, w, va, a, pw, p, rfl, LS, BA, hm, ht, hw, DA, hp, hsm, O⟩ := h
  have hr1 : Room 1 _ := hr.mono (by decide)
  have hr2 : Room 2 _ := hr.mono (by decide)
  refine ⟨_, pss_cons (ps_set (i := 2) scBy.nd rfl (Or.inl rfl) (pv 0)) (pss_cons (ps_try2 (i1 := 4) (i2 := 4) rfl rfl scBy.nd rfl rfl ⟨rfl, by decide, .inl XN.m⟩ rfl rfl ⟨rfl, by decide, .inl XR.m⟩
      (fun W pn xe tk _ => pss_cons (ps_if (pt_cmpR op_eq (pe_ix (r := rIxT K) ix_tup (pv 1) pe_int (fun _ _ => rfl)) pe_str (nomark _)) (pss_one (ps_augO (i := 2) MI sf FI hr bI (fun σ => passAt tk σ) scBy.nd rfl (Or.inl rfl) (pe_ix (r := rIxT K) ix_tup (pv 1) pe_int (fun _ _ => rfl))))
            (pss_one (ps_if (pt_cmpR op_eq (pe_ix (r := rIxT K) ix_tup (pv 1) pe_int (fun _ _ => rfl)) pe_str (nomark _)) (pss_one (ps_augO (i := 2) MS sf FS hr bS (fun σ => passAt tk σ) scBy.nd rfl (Or.inl rfl) (pe_ix (r := rIxT K) ix_tup (pv 1) pe_int (fun _ _ => rfl))))
              (pss_one (ps_asg (pe_ix (r := rIxT K) ix_tup (pv 1) pe_int (fun _ _ => rfl)) (pg_itO MC nq FC hr bC (fun σ => passAt tk σ) (pv 2) (pe_ix (r := rIxT K) ix_tup (pv 1) pe_int (fun _ _ => rfl))))))))
        (pss_cons (ps_set (i := 3) scBy.nd rfl (Or.inl rfl) (pe_lst (pa_cons pe_str (pa_cons (pe_callB (call_lenO ML.1 ML.2 FL hr2 bL) (by rfl) T.c.len PySem.boot_len (pa_cons (pv 2) pa_nil)) pa_nil))))
        (pss_one (ps_if (PW.pt (pw_or (pt_cmpR op_ne (pe_meth0S (pv 2) B.cl MU FU hr1 bU (fun σ => passAt tk σ)) (pe_callB (call_lenO ML.1 ML.2 FL hr2 bL) (by rfl) T.c.len PySem.boot_len (pa_cons (pv 0) pa_nil)) (nomark _)) (pw_or1 (pt_cmpR op_ne (pe_meth0S (pv 2) B.cl MR FR hr1 bR (fun σ => passAt tk σ)) (pe_callB (call_lenO ML.1 ML.2 FL hr2 bL) (by rfl) T.c.len PySem.boot_len (pa_cons (pv 0) pa_nil)) (nomark _))))) (pss_one (ps_set (i := 3) scBy.nd rfl (Or.inl rfl) (pe_lst (pa_cons pe_str pa_nil)))) pss_nil))))
      (fun a oe cls dd pn hz hf => pss_one (ps_set (i := 3) scBy.nd rfl (Or.inl rfl) (pe_lst (pa_cons pe_str (pa_cons (pe_xf CT.xn CT.fn hz hf (pv 4)) pa_nil)))))
      (fun a oe cls dd pn hz hf => pss_one (ps_set (i := 3) scBy.nd rfl (Or.inl rfl) (pe_lst (pa_cons pe_str (pa_cons (pe_xf CT.xr CT.fr hz hf (pv 4)) pa_nil))))))
    (pss_one (ps_ret (pv 3)))), ?_⟩
  obtain ⟨dx, ka, ru, dn, rl, gn, e1, _⟩ := BA.ex
  refine ⟨_, rfl, ?_⟩
  refine ⟨_, rfl, te, _, _, .str w, rfl, rfl, .inl (.inl ht), atI_nat (j := 0) rfl, rfl, _, rfl, ite2 (fun c => ?_) (fun c => ?_)⟩
  · obtain rfl : w = "add" := V.str.inj (of_decide_eq_true c)
    refine ⟨x, rfl, _, rfl, te, _, _, va, rfl, rfl, .inl (.inl ht), atI_nat (j := 1) rfl, dx, _, e1, .ref x, va, rfl, S, x, l, kt, sg, b, va, a, p, rfl, LS, BA, by omega, DA, hsm, ⟨?_, ?_, ?_⟩⟩
    · intro ps' ha he G1 xG B1
      have L1 : Liv S G1 := B1.liv LS xG
      obtain ⟨dx1, ka1, ru1, dn1, rl1, gn1, f1, f2, f3, f4, f5, f6⟩ := B1.ex
      obtain ⟨dns, g4, D4⟩ := dt_tup f4
      have dl : dns.length = b.es.length + 1 := by rw [D4.length, List.length_append]; rfl
      refine ⟨_, rfl, x, dx1, _, rfl, f1, x, dx1, dn1, _, _, _, _, _, dns, rfl, f1, hz_sub _ _ g4, by omega, ⟨_, rfl, by omega, ?_⟩⟩
      rw [dl]
      refine ⟨by show 2 ≤ 2 ^ 24; decide, fun q nq => ?_⟩
      have s2 := same_new nq (.lst [V.str "ok", V.int ((b.es.length + 1 : Nat) : Int)])
      have gq : upd G1 q (.lst [V.str "ok", V.int ((b.es.length + 1 : Nat) : Int)]) q = some (.lst [V.str "ok", V.int ((b.es.length + 1 : Nat) : Int)]) := upd_same
      have qx : q ≠ x := fun z => by rw [z, f1] at nq; cases nq
      generalize upd G1 q (.lst [V.str "ok", V.int ((b.es.length + 1 : Nat) : Int)]) = G2 at s2 gq ⊢
      have B2 := B1.same1 s2
      have L2' := L1.same s2
      refine ⟨_, rfl, x, dx1, _, rfl, s2 _ _ f1, rfl, S, x, l, kt, sg, _, rfl, L2', B2, by show (b.es ++ [_]).length ≤ 60; rw [List.length_append]; show _ + 1 ≤ _; omega, by show 0 ≤ 1000; decide, (fun z => absurd z (by simp)), fun es' e rs' p' h1 h2 G3 x3 B3 => ?_⟩
      obtain ⟨i1, i2⟩ := app_inj h1
      subst i1
      subst i2
      obtain ⟨i3, i4⟩ := app_inj h2
      subst i3
      subst i4
      obtain ⟨dx3, ka3, ru3, dn3, rl3, gn3, y1, y2, y3, y4, y5, y6⟩ := B3.ex
      obtain ⟨dns3, y40, D43⟩ := dt_tup y4
      have dl3 : dns3.length = b.es.length := D43.length
      refine ⟨_, rfl, x, dx3, _, rfl, y1, x, dx3, dn3, _, _, _, _, _, dns3, rfl, y1, hz_sub _ _ y40, by omega, ⟨_, rfl, by omega, ?_⟩⟩
      rw [dl3]
      refine ⟨rfl, _, rfl, ite2 (fun c => absurd c (by simp)) (fun _ => ?_)⟩
      have L3 : Liv S G3 := B3.liv L2' x3
      refine ⟨_, rfl, x, dx3, _, rfl, y1, rfl, S, x, l, kt, sg, _, rfl, L3, B3, by show b.es.length ≤ 60; omega, by show 1 ≤ 1000; decide, (fun z => absurd z (by simp)), fun gs' e' p'' h3 G4 x4 B4 => ?_⟩
      obtain ⟨i5, i6⟩ := app_inj h3
      cases i6
      subst i5
      obtain ⟨dx4, ka4, ru4, dn4, rl4, gn4, z1, z2, z3, z4, z5, z6⟩ := B4.ex
      obtain ⟨dns4, z40, D44⟩ := dt_tup z4
      have dl4 : dns4.length = b.es.length + 1 := by rw [D44.length, List.length_append]; rfl
      refine ⟨_, rfl, x, dx4, _, rfl, z1, x, dx4, dn4, _, _, _, _, _, dns4, rfl, z1, hz_sub _ _ z40, by omega, ⟨_, rfl, by omega, ?_⟩⟩
      rw [dl4]
      refine ⟨rfl, _, rfl, ite2 (fun c => absurd c (by simp)) (fun _ => ⟨_, rfl, ?_⟩)⟩
      have eD : edD "add" a p = .tuple [.str "add", a] := by
        unfold edD
        first | rw [if_pos rfl] | rw [if_neg (by decide +kernel)]
      exact O.ok ps' q _ ha he (xG.trans ((Exc.of s2).trans (x3.trans x4))) (by rw [eD]; exact B4) (x4 _ _ qx (x3 _ _ qx gq))
    · intro ds' ha he e ve G s1 g dv
      refine .inr ⟨CT.rn, CT.rr, fun _ _ => ⟨_, rfl, rfl, rfl, e, _, _, rfl, g, rfl, by show 2 ≤ 2 ^ 24; decide, fun q nq => ⟨_, rfl, ?_⟩⟩⟩
      exact O.er ds' q ve _ ha he (s1.trans (same_new nq _)) upd_same (dv.same (same_new nq _))
    · intro ha e G s1 g
      refine .inl ⟨CT.nn, fun _ _ => ⟨_, rfl, rfl, rfl, e, _, _, rfl, g, rfl, by show 2 ≤ 2 ^ 24; decide, fun q nq => ⟨_, rfl, ?_⟩⟩⟩
      exact O.no q _ ha (s1.trans (same_new nq _)) upd_same
  refine ⟨_, rfl, te, _, _, .str w, rfl, rfl, .inl (.inl ht), atI_nat (j := 0) rfl, rfl, _, rfl, ite2 (fun c1 => ?_) (fun c1 => ?_)⟩
  · obtain rfl : w = "drop" := V.str.inj (of_decide_eq_true c1)
    refine ⟨x, rfl, _, rfl, te, _, _, va, rfl, rfl, .inl (.inl ht), atI_nat (j := 1) rfl, dx, _, e1, .ref x, va, rfl, S, x, l, kt, sg, b, va, a, p, rfl, LS, BA, by omega, DA, hsm, ⟨?_, ?_, ?_⟩⟩
    · intro ps' ha he G1 xG B1
      have L1 : Liv S G1 := B1.liv LS xG
      obtain ⟨dx1, ka1, ru1, dn1, rl1, gn1, f1, f2, f3, f4, f5, f6⟩ := B1.ex
      obtain ⟨dns, g4, D4⟩ := dt_tup f4
      have dl : dns.length = b.es.length + 1 := by rw [D4.length, List.length_append]; rfl
      refine ⟨_, rfl, x, dx1, _, rfl, f1, x, dx1, dn1, _, _, _, _, _, dns, rfl, f1, hz_sub _ _ g4, by omega, ⟨_, rfl, by omega, ?_⟩⟩
      rw [dl]
      refine ⟨by show 2 ≤ 2 ^ 24; decide, fun q nq => ?_⟩
      have s2 := same_new nq (.lst [V.str "ok", V.int ((b.es.length + 1 : Nat) : Int)])
      have gq : upd G1 q (.lst [V.str "ok", V.int ((b.es.length + 1 : Nat) : Int)]) q = some (.lst [V.str "ok", V.int ((b.es.length + 1 : Nat) : Int)]) := upd_same
      have qx : q ≠ x := fun z => by rw [z, f1] at nq; cases nq
      generalize upd G1 q (.lst [V.str "ok", V.int ((b.es.length + 1 : Nat) : Int)]) = G2 at s2 gq ⊢
      have B2 := B1.same1 s2
      have L2' := L1.same s2
      refine ⟨_, rfl, x, dx1, _, rfl, s2 _ _ f1, rfl, S, x, l, kt, sg, _, rfl, L2', B2, by show (b.es ++ [_]).length ≤ 60; rw [List.length_append]; show _ + 1 ≤ _; omega, by show 0 ≤ 1000; decide, (fun z => absurd z (by simp)), fun es' e rs' p' h1 h2 G3 x3 B3 => ?_⟩
      obtain ⟨i1, i2⟩ := app_inj h1
      subst i1
      subst i2
      obtain ⟨i3, i4⟩ := app_inj h2
      subst i3
      subst i4
      obtain ⟨dx3, ka3, ru3, dn3, rl3, gn3, y1, y2, y3, y4, y5, y6⟩ := B3.ex
      obtain ⟨dns3, y40, D43⟩ := dt_tup y4
      have dl3 : dns3.length = b.es.length := D43.length
      refine ⟨_, rfl, x, dx3, _, rfl, y1, x, dx3, dn3, _, _, _, _, _, dns3, rfl, y1, hz_sub _ _ y40, by omega, ⟨_, rfl, by omega, ?_⟩⟩
      rw [dl3]
      refine ⟨rfl, _, rfl, ite2 (fun c => absurd c (by simp)) (fun _ => ?_)⟩
      have L3 : Liv S G3 := B3.liv L2' x3
      refine ⟨_, rfl, x, dx3, _, rfl, y1, rfl, S, x, l, kt, sg, _, rfl, L3, B3, by show b.es.length ≤ 60; omega, by show 1 ≤ 1000; decide, (fun z => absurd z (by simp)), fun gs' e' p'' h3 G4 x4 B4 => ?_⟩
      obtain ⟨i5, i6⟩ := app_inj h3
      cases i6
      subst i5
      obtain ⟨dx4, ka4, ru4, dn4, rl4, gn4, z1, z2, z3, z4, z5, z6⟩ := B4.ex
      obtain ⟨dns4, z40, D44⟩ := dt_tup z4
      have dl4 : dns4.length = b.es.length + 1 := by rw [D44.length, List.length_append]; rfl
      refine ⟨_, rfl, x, dx4, _, rfl, z1, x, dx4, dn4, _, _, _, _, _, dns4, rfl, z1, hz_sub _ _ z40, by omega, ⟨_, rfl, by omega, ?_⟩⟩
      rw [dl4]
      refine ⟨rfl, _, rfl, ite2 (fun c => absurd c (by simp)) (fun _ => ⟨_, rfl, ?_⟩)⟩
      have eD : edD "drop" a p = .tuple [.str "drop", a] := by
        unfold edD
        first | rw [if_pos rfl] | rw [if_neg (by decide +kernel)]
      exact O.ok ps' q _ ha he (xG.trans ((Exc.of s2).trans (x3.trans x4))) (by rw [eD]; exact B4) (x4 _ _ qx (x3 _ _ qx gq))
    · intro ds' ha he e ve G s1 g dv
      refine .inr ⟨CT.rn, CT.rr, fun _ _ => ⟨_, rfl, rfl, rfl, e, _, _, rfl, g, rfl, by show 2 ≤ 2 ^ 24; decide, fun q nq => ⟨_, rfl, ?_⟩⟩⟩
      exact O.er ds' q ve _ ha he (s1.trans (same_new nq _)) upd_same (dv.same (same_new nq _))
    · intro ha e G s1 g
      refine .inl ⟨CT.nn, fun _ _ => ⟨_, rfl, rfl, rfl, e, _, _, rfl, g, rfl, by show 2 ≤ 2 ^ 24; decide, fun q nq => ⟨_, rfl, ?_⟩⟩⟩
      exact O.no q _ ha (s1.trans (same_new nq _)) upd_same
  · obtain rfl : w = "change" := by
      rcases hw with e | e | e
      · exact absurd (decide_eq_true (by rw [e])) c
      · exact absurd (decide_eq_true (by rw [e])) c1
      · exact e
    obtain ⟨vp, rfl, DP⟩ := hp rfl
    refine ⟨_, rfl, te, _, _, vp, rfl, rfl, .inl (.inl ht), atI_nat (j := 2) rfl, _, rfl, _, rfl, te, _, _, va, rfl, rfl, .inl (.inl ht), atI_nat (j := 1) rfl, x, dx, _, rfl, e1, .ref x, va, vp, rfl, S, x, l, kt, sg, b, va, vp, a, p, rfl, LS, BA, by omega, DA, DP, hsm, ⟨?_, ?_, ?_⟩⟩
    · intro ps' ha he G1 xG B1
      have L1 : Liv S G1 := B1.liv LS xG
      obtain ⟨dx1, ka1, ru1, dn1, rl1, gn1, f1, f2, f3, f4, f5, f6⟩ := B1.ex
      obtain ⟨dns, g4, D4⟩ := dt_tup f4
      have dl : dns.length = b.es.length + 1 := by rw [D4.length, List.length_append]; rfl
      refine ⟨_, rfl, x, dx1, _, rfl, f1, x, dx1, dn1, _, _, _, _, _, dns, rfl, f1, hz_sub _ _ g4, by omega, ⟨_, rfl, by omega, ?_⟩⟩
      rw [dl]
      refine ⟨by show 2 ≤ 2 ^ 24; decide, fun q nq => ?_⟩
      have s2 := same_new nq (.lst [V.str "ok", V.int ((b.es.length + 1 : Nat) : Int)])
      have gq : upd G1 q (.lst [V.str "ok", V.int ((b.es.length + 1 : Nat) : Int)]) q = some (.lst [V.str "ok", V.int ((b.es.length + 1 : Nat) : Int)]) := upd_same
      have qx : q ≠ x := fun z => by rw [z, f1] at nq; cases nq
      generalize upd G1 q (.lst [V.str "ok", V.int ((b.es.length + 1 : Nat) : Int)]) = G2 at s2 gq ⊢
      have B2 := B1.same1 s2
      have L2' := L1.same s2
      refine ⟨_, rfl, x, dx1, _, rfl, s2 _ _ f1, rfl, S, x, l, kt, sg, _, rfl, L2', B2, by show (b.es ++ [_]).length ≤ 60; rw [List.length_append]; show _ + 1 ≤ _; omega, by show 0 ≤ 1000; decide, (fun z => absurd z (by simp)), fun es' e rs' p' h1 h2 G3 x3 B3 => ?_⟩
      obtain ⟨i1, i2⟩ := app_inj h1
      subst i1
      subst i2
      obtain ⟨i3, i4⟩ := app_inj h2
      subst i3
      subst i4
      obtain ⟨dx3, ka3, ru3, dn3, rl3, gn3, y1, y2, y3, y4, y5, y6⟩ := B3.ex
      obtain ⟨dns3, y40, D43⟩ := dt_tup y4
      have dl3 : dns3.length = b.es.length := D43.length
      refine ⟨_, rfl, x, dx3, _, rfl, y1, x, dx3, dn3, _, _, _, _, _, dns3, rfl, y1, hz_sub _ _ y40, by omega, ⟨_, rfl, by omega, ?_⟩⟩
      rw [dl3]
      refine ⟨rfl, _, rfl, ite2 (fun c => absurd c (by simp)) (fun _ => ?_)⟩
      have L3 : Liv S G3 := B3.liv L2' x3
      refine ⟨_, rfl, x, dx3, _, rfl, y1, rfl, S, x, l, kt, sg, _, rfl, L3, B3, by show b.es.length ≤ 60; omega, by show 1 ≤ 1000; decide, (fun z => absurd z (by simp)), fun gs' e' p'' h3 G4 x4 B4 => ?_⟩
      obtain ⟨i5, i6⟩ := app_inj h3
      cases i6
      subst i5
      obtain ⟨dx4, ka4, ru4, dn4, rl4, gn4, z1, z2, z3, z4, z5, z6⟩ := B4.ex
      obtain ⟨dns4, z40, D44⟩ := dt_tup z4
      have dl4 : dns4.length = b.es.length + 1 := by rw [D44.length, List.length_append]; rfl
      refine ⟨_, rfl, x, dx4, _, rfl, z1, x, dx4, dn4, _, _, _, _, _, dns4, rfl, z1, hz_sub _ _ z40, by omega, ⟨_, rfl, by omega, ?_⟩⟩
      rw [dl4]
      refine ⟨rfl, _, rfl, ite2 (fun c => absurd c (by simp)) (fun _ => ⟨_, rfl, ?_⟩)⟩
      have eD : edD "change" a p = .tuple [.str "change", a, p] := by
        unfold edD
        first | rw [if_pos rfl] | rw [if_neg (by decide +kernel)]
      exact O.ok ps' q _ ha he (xG.trans ((Exc.of s2).trans (x3.trans x4))) (by rw [eD]; exact B4) (x4 _ _ qx (x3 _ _ qx gq))
    · intro ds' ha he e ve G s1 g dv
      refine .inr ⟨CT.rn, CT.rr, fun _ _ => ⟨_, rfl, rfl, rfl, e, _, _, rfl, g, rfl, by show 2 ≤ 2 ^ 24; decide, fun q nq => ⟨_, rfl, ?_⟩⟩⟩
      exact O.er ds' q ve _ ha he (s1.trans (same_new nq _)) upd_same (dv.same (same_new nq _))
    · intro ha e G s1 g
      refine .inl ⟨CT.nn, fun _ _ => ⟨_, rfl, rfl, rfl, e, _, _, rfl, g, rfl, by show 2 ≤ 2 ^ 24; decide, fun q nq => ⟨_, rfl, ?_⟩⟩⟩
      exact O.no q _ ha (s1.trans (same_new nq _)) upd_same
end
end K08
namespace K08
open PySem GL GZ KW KR GU KU KM KS KP GX KH KD GT GO
open L2 hiding isNon
open KC hiding rLenS call_lenS
open KX (Small errD)
def spBack (K : PySem.W.Frag) (C : Addr) : Sp := fun vs H Q _ => ∃ (S : List Addr) (x : Addr) (l : Nat) (kt : List PyData) (sg : Str) (b : BS) (wd : Str), vs = [.ref x, .str wd] ∧ Liv S H ∧ BenchAt K C S H x l kt sg b ∧ b.es.length < 59 ∧ b.gs.length ≤ 1000 ∧
  ((wd = "undo" ∧ (b.es = [] → ∀ q G, Same H G → G q = some (.lst [.str "NothingToUndo"]) → Q (.ref q) G) ∧
      (∀ es' e rs' p', b.es = es' ++ [e] → b.rs = rs' ++ [p'] → ∀ q G, Exc x H G → BenchAt K C S G x l kt sg ⟨p', es', rs', b.gs ++ [(e, b.ps)]⟩ → G q = some (.lst [.str "ok", .int (es'.length : Nat)]) → Q (.ref q) G)) ∨
   (wd = "redo" ∧ (b.gs = [] → ∀ q G, Same H G → G q = some (.lst [.str "NothingToRedo"]) → Q (.ref q) G) ∧
      (∀ gs' e p', b.gs = gs' ++ [(e, p')] → ∀ q G, Exc x H G → BenchAt K C S G x l kt sg ⟨p', b.es ++ [e], b.rs ++ [b.ps], gs'⟩ → G q = some (.lst [.str "ok", .int ((b.es.length + 1 : Nat) : Int)]) → Q (.ref q) G)))
section
variable {P : Program} {w : World} {K : PySem.W.Frag} {mg : Str → Option Value} {base : Heap}
theorem scBack : FnScope ["_law_bench", "_law_word", "_law_found"] ["_law_bench", "_law_word"] (defScope sBack) := ⟨rfl, rfl, rfl, by decide +kernel, rfl, by decide +kernel, by decide +kernel⟩
theorem ok_back {f fU fR C CU CV : Addr} {fd fdU fdR : FuncData} (F : Fun K "_law_back" "_law_back" sBack f fd) (B : BC K mg C) (XU : Ex0 K mg "NothingToUndo" CU) (XV : Ex0 K mg "NothingToRedo" CV) (CT : CatU K CU CV)
    (MU : Meth K C "undo" fU) (FU : FnOk P w K mg base (L2.CX P w) 1 fU fdU ["self"] (spUn K C CU)) (bU : L2.Binds K fdU ["self"] []) (MR : Meth K C "redo" fR) (FR : FnOk P w K mg base (L2.CX P w) 1 fR fdR ["self"] (spRe K C CV)) (bR : L2.Binds K fdR ["self"] []) :
    FnOk P w K mg base CX0 2 f fd ["_law_bench", "_law_word"] (spBack K C) := by
  refine F.ok scBack (fun vs H Q E h => ?_) (fun cdv A outer s H vs Q E hr h => ?_)
  · obtain ⟨S, x, l, kt, sg, b, wd, rfl, _⟩ := h
    rfl
  obtain ⟨S, x, l, kt, sg, b, wd, rfl, LS, BA, hm, hg, hh⟩ := h
  refine ⟨_, pss_cons (ps_try_many rfl rfl takes_none5
      (fun W pn xe tk _ => pss_one (ps_set (i := 2) scBack.nd rfl (Or.inl rfl) (pe_lst (pa_cons pe_str (pa_cons (pe_ifExp (pt_cmpR op_eq (pv 1) pe_str (nomark _)) (pe_meth0S (pv 0) B.cl MU FU hr bU (fun σ => passAt tk σ)) (pe_meth0S (pv 0) B.cl MR FR hr bR (fun σ => passAt tk σ))) pa_nil)))))
      (HdsOk.cons ⟨rfl, by decide, .inl XU.m⟩ (fun a oe cls d pn hz hf => pss_one (ps_set (i := 2) scBack.nd rfl (Or.inl rfl) (pe_lst (pa_cons pe_str pa_nil))))
      (HdsOk.cons ⟨rfl, by decide, .inl XV.m⟩ (fun a oe cls d pn hz hf => pss_one (ps_set (i := 2) scBack.nd rfl (Or.inl rfl) (pe_lst (pa_cons pe_str pa_nil)))) HdsOk.nil)))
    (pss_one (ps_ret (pv 2))), ?_⟩
  obtain ⟨dx, ka, ru, dn, rl, gn, e1, _⟩ := BA.ex
  rcases hh with ⟨rfl, qn, qo⟩ | ⟨rfl, qn, qo⟩
  · refine ⟨_, rfl, rfl, _, rfl, ite2 (fun _ => ?_) (fun c => absurd (decide_eq_true rfl) c)⟩
    refine ⟨_, rfl, x, dx, _, rfl, e1, rfl, S, x, l, kt, sg, b, rfl, LS, BA, by omega, hg, fun z => ?_, fun es' e rs' p' h1 h2 G xG B' => ?_⟩
    · refine ⟨true, CT.uu, fun _ a na => ⟨by show 1 ≤ 2 ^ 24; decide, fun q nq => ⟨_, rfl, ?_⟩⟩, fun z => nomatch z⟩
      exact qn z q _ (same_new nq _) upd_same
    · refine ⟨by show 2 ≤ 2 ^ 24; decide, fun q nq => ⟨_, rfl, ?_⟩⟩
      exact qo es' e rs' p' h1 h2 q _ (xG.new nq _) (B'.same1 (same_new nq _)) upd_same
  · refine ⟨_, rfl, rfl, _, rfl, ite2 (fun c => absurd c (by decide +kernel)) (fun _ => ?_)⟩
    refine ⟨_, rfl, x, dx, _, rfl, e1, rfl, S, x, l, kt, sg, b, rfl, LS, BA, by omega, hg, fun z => ?_, fun gs' e p' h1 G xG B' => ?_⟩
    · refine ⟨false, CT.vu, (fun z => nomatch z), fun _ => ⟨true, CT.vv, fun _ a na => ⟨by show 1 ≤ 2 ^ 24; decide, fun q nq => ⟨_, rfl, ?_⟩⟩, fun z => nomatch z⟩⟩
      exact qn z q _ (same_new nq _) upd_same
    · refine ⟨by show 2 ≤ 2 ^ 24; decide, fun q nq => ⟨_, rfl, ?_⟩⟩
      exact qo gs' e p' h1 q _ (xG.new nq _) (B'.same1 (same_new nq _)) upd_same
end
/-- the two lists behind undo and redo -/
def spBackd : Sp := fun vs H Q _ => ∃ (L U : Addr) (ls us : List V) (way : Nat), vs = [.ref L, .ref U, .int way] ∧ L ≠ U ∧ H L = some (.lst ls) ∧ H U = some (.lst us) ∧ 1 ≤ ls.length ∧ ls.length ≤ 1000 ∧ us.length ≤ 1000 ∧
  ((way = 0 ∧ (ls.length = 1 → ∀ q G, Same H G → G q = some (.lst [.str "NothingToUndo"]) → Q (.ref q) G) ∧
      (∀ ls' v, ls = ls' ++ [v] → 1 ≤ ls'.length → ∀ q G, (∀ b o, b ≠ L → b ≠ U → H b = some o → G b = some o) → G L = some (.lst ls') → G U = some (.lst (us ++ [v])) → H q = none → G q = some (.lst [.str "ok", .int ((ls'.length : Nat) - 1)]) → Q (.ref q) G)) ∨
   (way = 1 ∧ (us = [] → ∀ q G, Same H G → G q = some (.lst [.str "NothingToRedo"]) → Q (.ref q) G) ∧
      (∀ us' v, us = us' ++ [v] → ∀ q G, (∀ b o, b ≠ L → b ≠ U → H b = some o → G b = some o) → G L = some (.lst (ls ++ [v])) → G U = some (.lst us') → H q = none → G q = some (.lst [.str "ok", .int (((ls.length + 1 : Nat)) - 1)]) → Q (.ref q) G)))
section
variable {P : Program} {w : World} {K : PySem.W.Frag} {mg : Str → Option Value} {base : Heap}
theorem scBackd : FnScope ["_law_steps", "_law_undone", "_law_way", "_law_source", "_law_target"] ["_law_steps", "_law_undone", "_law_way"] (defScope sBackd) := ⟨rfl, rfl, rfl, by decide +kernel, rfl, by decide +kernel, by decide +kernel⟩
theorem ok_backd {f : Addr} {fd : FuncData} (F : Fun K "_law_backed" "_law_backed" sBackd f fd) (T : Txt mg) : FnOk P w K mg base CX0 1 f fd ["_law_steps", "_law_undone", "_law_way"] spBackd := by
  refine F.ok scBackd (fun vs H Q E h => ?_) (fun cdv A outer s H vs Q E hr h => ?_)
  · obtain ⟨L, U, ls, us, way, rfl, _⟩ := h
    rfl
  obtain ⟨L, U, ls, us, way, rfl, nLU, hL, hU, l1, lm, um, hh⟩ := h
  refine ⟨_, pss_cons (ps_asg (pe_ifExp (pt_cmpR op_eq (pv 2) pe_int (nomark _)) (pe_tup (pa_cons (pv 0) (pa_cons (pv 1) pa_nil))) (pe_tup (pa_cons (pv 1) (pa_cons (pv 0) pa_nil)))) (pg_tup (by rfl) (pgs_cons (pg_name (i := 3) scBackd.nd rfl (Or.inl rfl)) (pgs_cons (pg_name (i := 4) scBackd.nd rfl (Or.inl rfl)) pgs_nil))))
    (pss_cons (ps_if (pt_cmpR op_lt (pe_callB call_len_seq (by rfl) T.c.len PySem.boot_len (pa_cons (pv 3) pa_nil)) (pe_op op_sub pe_int (pv 2)) (nomark _)) (pss_one (ps_ret (pe_lst (pa_cons (pe_ifExp (pt_cmpR op_eq (pv 2) pe_int (nomark _)) pe_str pe_str) pa_nil)))) pss_nil)
    (pss_cons (ps_expr (pe_bm PySem.F.plainAttrs_list PySem.F.slot_list_append PySem.F.type_list_append mt_append (pv 4) (pa_cons (pe_bm0 PySem.F.plainAttrs_list PySem.F.slot_list_pop PySem.F.type_list_pop mt_pop (pv 3)) pa_nil)))
    (pss_one (ps_ret (pe_lst (pa_cons pe_str (pa_cons (pe_op op_sub (pe_callB call_len_seq (by rfl) T.c.len PySem.boot_len (pa_cons (pv 0) pa_nil)) pe_int) pa_nil))))))), ?_⟩
  rcases hh with ⟨rfl, qn, qo⟩ | ⟨rfl, qn, qo⟩
  · refine ⟨_, rfl, rfl, _, rfl, ite2 (fun _ => ?_) (fun c => absurd (decide_eq_true rfl) c)⟩
    refine ⟨_, rfl, _, rfl, by show 2 ≤ 2 ^ 24; decide, fun t nt => ?_⟩
    have s1 := same_new nt (.tup [V.ref L, V.ref U])
    have g1 : upd H t (.tup [V.ref L, V.ref U]) t = some (.tup [V.ref L, V.ref U]) := upd_same
    generalize upd H t (.tup [V.ref L, V.ref U]) = H1 at s1 g1 ⊢
    refine ⟨t, _, rfl, .inl (.inl g1), rfl, _, _, rfl, _, _, rfl, rfl, ?_⟩
    have hL1 := s1 _ _ hL
    have hU1 := s1 _ _ hU
    refine ⟨_, rfl, L, ls, rfl, .inl (.inl (.inl hL1)), _, rfl, _, _, rfl, rfl, _, _, rfl, rfl, _, rfl, ite2 (fun c => ?_) (fun c => ?_)⟩
    · have e1 : ls.length = 1 := by
        have := of_decide_eq_true c
        omega
      refine ⟨_, rfl, rfl, _, rfl, ite2 (fun _ => ?_) (fun c => absurd (decide_eq_true rfl) c)⟩
      exact ⟨by show 1 ≤ 2 ^ 24; decide, fun q nq => qn e1 q _ (s1.trans (same_new nq _)) upd_same⟩
    · have e2 : 2 ≤ ls.length := by
        refine Nat.le_of_not_lt fun z => c (decide_eq_true ?_)
        show ((ls.length : Nat) : Int) < 2 - ((0 : Nat) : Int)
        omega
      obtain ⟨ls', v, rfl⟩ : ∃ ls' v, ls = ls' ++ [v] := by
        rcases List.eq_nil_or_concat ls with rfl | ⟨ls', v, rfl⟩
        · simp at e2
        · exact ⟨ls', v, List.concat_eq_append⟩
      have ll : ls'.length ≤ 1000 := by simp only [List.length_append, List.length_cons, List.length_nil] at lm; omega
      have hA2 : upd H1 L (.lst ((ls' ++ [v]).dropLast)) L = some (.lst ls') := by rw [upd_same, List.dropLast_concat]
      have hB2 : upd H1 L (.lst ((ls' ++ [v]).dropLast)) U = some (.lst us) := by rw [upd_ne nLU.symm]; exact hU1
      have x2 : ∀ b o, b ≠ L → b ≠ U → H b = some o → upd H1 L (.lst ((ls' ++ [v]).dropLast)) b = some o := fun b o n1 n2 e => by rw [upd_ne n1]; exact s1 _ _ e
      have f2 : ∀ b, upd H1 L (.lst ((ls' ++ [v]).dropLast)) b = none → H b = none := fun b e => by
        have n : b ≠ L := fun z => by rw [z, upd_same] at e; cases e
        rw [upd_ne n] at e
        exact s1.free e
      refine ⟨_, rfl, .inl ⟨rfl, _, .inl (.inl hU1)⟩, _, rfl, .inl ⟨rfl, _, .inl (.inl hL1)⟩, L, _, v, rfl, rfl, hL1, by simp, ?_⟩
      generalize upd H1 L (.lst ((ls' ++ [v]).dropLast)) = H2 at hA2 hB2 x2 f2 ⊢
      refine ⟨U, us, v, rfl, rfl, hB2, by show _ < 2 ^ 24; omega, ?_⟩
      have hB3 : upd H2 U (.lst (us ++ [v])) U = some (.lst (us ++ [v])) := upd_same
      have hA3 : upd H2 U (.lst (us ++ [v])) L = some (.lst ls') := by rw [upd_ne nLU]; exact hA2
      have x3 : ∀ b o, b ≠ L → b ≠ U → H b = some o → upd H2 U (.lst (us ++ [v])) b = some o := fun b o n1 n2 e => by rw [upd_ne n2]; exact x2 b o n1 n2 e
      have f3 : ∀ b, upd H2 U (.lst (us ++ [v])) b = none → H b = none := fun b e => by
        have n : b ≠ U := fun z => by rw [z, upd_same] at e; cases e
        rw [upd_ne n] at e
        exact f2 b e
      generalize upd H2 U (.lst (us ++ [v])) = H3 at hA3 hB3 x3 f3 ⊢
      refine ⟨_, rfl, L, _, rfl, .inl (.inl (.inl hA3)), _, _, rfl, rfl, by show 2 ≤ 2 ^ 24; decide, fun q nq => ?_⟩
      have s4 := same_new nq (.lst [V.str "ok", V.int (((ls').length : Nat) - 1)])
      exact qo ls' v rfl (by simp only [List.length_append, List.length_cons, List.length_nil] at e2; omega) q _ (fun b o n1 n2 e => s4 _ _ (x3 b o n1 n2 e)) (s4 _ _ hA3) (s4 _ _ hB3) (f3 q nq) upd_same
  · refine ⟨_, rfl, rfl, _, rfl, ite2 (fun c => absurd c (by decide +kernel)) (fun _ => ?_)⟩
    refine ⟨_, rfl, _, rfl, by show 2 ≤ 2 ^ 24; decide, fun t nt => ?_⟩
    have s1 := same_new nt (.tup [V.ref U, V.ref L])
    have g1 : upd H t (.tup [V.ref U, V.ref L]) t = some (.tup [V.ref U, V.ref L]) := upd_same
    generalize upd H t (.tup [V.ref U, V.ref L]) = H1 at s1 g1 ⊢
    refine ⟨t, _, rfl, .inl (.inl g1), rfl, _, _, rfl, _, _, rfl, rfl, ?_⟩
    have hL1 := s1 _ _ hL
    have hU1 := s1 _ _ hU
    refine ⟨_, rfl, U, us, rfl, .inl (.inl (.inl hU1)), _, rfl, _, _, rfl, rfl, _, _, rfl, rfl, _, rfl, ite2 (fun c => ?_) (fun c => ?_)⟩
    · have e1 : us = [] := by
        have := of_decide_eq_true c
        exact List.eq_nil_of_length_eq_zero (by omega)
      refine ⟨_, rfl, rfl, _, rfl, ite2 (fun c => absurd c (by decide +kernel)) (fun _ => ?_)⟩
      exact ⟨by show 1 ≤ 2 ^ 24; decide, fun q nq => qn e1 q _ (s1.trans (same_new nq _)) upd_same⟩
    · obtain ⟨us', v, rfl⟩ : ∃ us' v, us = us' ++ [v] := by
        rcases List.eq_nil_or_concat us with rfl | ⟨us', v, rfl⟩
        · exact absurd (decide_eq_true (by show ((0 : Nat) : Int) < 2 - ((1 : Nat) : Int); omega)) c
        · exact ⟨us', v, List.concat_eq_append⟩
      have hA2 : upd H1 U (.lst ((us' ++ [v]).dropLast)) U = some (.lst us') := by rw [upd_same, List.dropLast_concat]
      have hB2 : upd H1 U (.lst ((us' ++ [v]).dropLast)) L = some (.lst ls) := by rw [upd_ne nLU]; exact hL1
      have x2 : ∀ b o, b ≠ L → b ≠ U → H b = some o → upd H1 U (.lst ((us' ++ [v]).dropLast)) b = some o := fun b o n1 n2 e => by rw [upd_ne n2]; exact s1 _ _ e
      have f2 : ∀ b, upd H1 U (.lst ((us' ++ [v]).dropLast)) b = none → H b = none := fun b e => by
        have n : b ≠ U := fun z => by rw [z, upd_same] at e; cases e
        rw [upd_ne n] at e
        exact s1.free e
      refine ⟨_, rfl, .inl ⟨rfl, _, .inl (.inl hL1)⟩, _, rfl, .inl ⟨rfl, _, .inl (.inl hU1)⟩, U, _, v, rfl, rfl, hU1, by simp, ?_⟩
      generalize upd H1 U (.lst ((us' ++ [v]).dropLast)) = H2 at hA2 hB2 x2 f2 ⊢
      refine ⟨L, ls, v, rfl, rfl, hB2, by show _ < 2 ^ 24; omega, ?_⟩
      have hB3 : upd H2 L (.lst (ls ++ [v])) L = some (.lst (ls ++ [v])) := upd_same
      have hA3 : upd H2 L (.lst (ls ++ [v])) U = some (.lst us') := by rw [upd_ne nLU.symm]; exact hA2
      have x3 : ∀ b o, b ≠ L → b ≠ U → H b = some o → upd H2 L (.lst (ls ++ [v])) b = some o := fun b o n1 n2 e => by rw [upd_ne n1]; exact x2 b o n1 n2 e
      have f3 : ∀ b, upd H2 L (.lst (ls ++ [v])) b = none → H b = none := fun b e => by
        have n : b ≠ L := fun z => by rw [z, upd_same] at e; cases e
        rw [upd_ne n] at e
        exact f2 b e
      generalize upd H2 L (.lst (ls ++ [v])) = H3 at hA3 hB3 x3 f3 ⊢
      refine ⟨_, rfl, L, _, rfl, .inl (.inl (.inl hB3)), _, _, rfl, rfl, by show 2 ≤ 2 ^ 24; decide, fun q nq => ?_⟩
      have s4 := same_new nq (.lst [V.str "ok", V.int (((ls ++ [v]).length : Nat) - 1)])
      have e3 : (ls ++ [v]).length = ls.length + 1 := by rw [List.length_append]; rfl
      refine qo us' v rfl q _ (fun b o n1 n2 e => s4 _ _ (x3 b o n1 n2 e)) (s4 _ _ hB3) (s4 _ _ hA3) (f3 q nq) ?_
      rw [upd_same, e3]
end
end K08
namespace K08
open PySem GL GZ KW KR GU KU KM KS KP GX KH KD GT GO
open L2 hiding isNon
open KC hiding rLenS call_lenS
open KX (Small errD)
abbrev sLaw : Stmt := top 83
def spLaw (K : PySem.W.Frag) : Sp := fun vs H Q _ => ∃ (a : Addr) (ns : List Int), vs = [.ref a] ∧ SqL K H a (ns.map V.int) ∧ ns.length ≤ 63 ∧ ∀ H', Q (.bl true) H'
abbrev NL : List Str := ["_law_script", "_law_deck_here", "_law_kind_here", "_law_signs_here", "_law_rule_here", "_law_steps", "_law_undone", "_law_bench", "_law_turn", "_law_now", "_law_many", "_law_index_here", "_law_is_index", "_law_edit_here", "_law_way", "_law_due_here", "_law_found", "_law_edits", "_law_step"]
section
/-- the steps of the law and what the bench holds -/
structure Rel (st : List (PyData × List (Str × Str))) (b : BS) : Prop where
  e : b.es = (st.map Prod.fst).drop 1
  r : b.rs ++ [b.ps] = st.map Prod.snd
variable {st : List (PyData × List (Str × Str))} {b : BS} {e ed : PyData} {q ps' : List (Str × Str)}
theorem Rel.push (h : Rel st b) (n : st ≠ []) (gs' : List (PyData × List (Str × Str))) : Rel (st ++ [(ed, ps')]) ⟨ps', b.es ++ [ed], b.rs ++ [b.ps], gs'⟩ := by
  refine ⟨?_, ?_⟩
  · show b.es ++ [ed] = ((st ++ [(ed, ps')]).map Prod.fst).drop 1
    rw [List.map_append, List.drop_append_of_le_length (by rw [List.length_map]; exact List.length_pos_iff.mpr n), h.e]
    rfl
  · show b.rs ++ [b.ps] ++ [ps'] = _
    rw [h.r, List.map_append]
    rfl
theorem Rel.last (h : Rel (st ++ [(e, q)]) b) : b.ps = q := (app_inj (h.r.trans (by rw [List.map_append]; rfl : _ = st.map Prod.snd ++ [q]))).2
theorem Rel.pop (h : Rel (st ++ [(e, q)]) b) (n : st ≠ []) : ∃ es' rs' p', b.es = es' ++ [e] ∧ b.rs = rs' ++ [p'] ∧ ∀ gs', Rel st ⟨p', es', rs', gs'⟩ := by
  obtain ⟨st0, x, rfl⟩ : ∃ st0 x, st = st0 ++ [x] := by
    rcases List.eq_nil_or_concat st with z | ⟨st0, x, z⟩
    · exact absurd z n
    · exact ⟨st0, x, by rw [z, List.concat_eq_append]⟩
  have h1 := (app_inj (h.r.trans (by rw [List.map_append]; rfl : _ = (st0 ++ [x]).map Prod.snd ++ [q]))).1
  refine ⟨((st0 ++ [x]).map Prod.fst).drop 1, st0.map Prod.snd, x.2, ?_, by rw [h1, List.map_append]; rfl, fun gs' => ⟨rfl, by show st0.map Prod.snd ++ [x.2] = _; rw [List.map_append]; rfl⟩⟩
  rw [h.e, List.map_append, List.drop_append_of_le_length (by rw [List.length_map, List.length_append]; show 1 ≤ _ + 1; omega)]
  rfl
theorem Rel.none (h : Rel [(e, q)] b) : b.es = [] := h.e
end
structure Fr5 (d c x L U C : Addr) (G : Hp) (ls us : List V) (m : Nat) : Prop where
  D : Deck G d c m
  X : ∃ dx fs, G x = some (.ins C dx fs)
  hL : G L = some (.lst ls)
  hU : G U = some (.lst us)
  n1 : L ≠ d
  n2 : L ≠ c
  n3 : U ≠ d
  n4 : U ≠ c
  n5 : L ≠ U
section
variable {d c x L U C : Addr} {G G' : Hp} {ls us : List V} {m m' : Nat}
theorem Fr5.liv (F : Fr5 d c x L U C G ls us m) : Liv [d, c, x, L, U] G := by
  obtain ⟨A, n, h1, h2, _⟩ := F.D.ex
  obtain ⟨dx, fs, hx⟩ := F.X
  intro b hb
  simp only [List.mem_cons, List.not_mem_nil, or_false] at hb
  rcases hb with rfl | rfl | rfl | rfl | rfl
  · exact ⟨_, h1, fun xs z => by cases z⟩
  · exact ⟨_, h2, fun xs z => by cases z⟩
  · exact ⟨_, hx, fun xs z => by cases z⟩
  · exact ⟨_, F.hL, fun xs z => by cases z⟩
  · exact ⟨_, F.hU, fun xs z => by cases z⟩
theorem Fr5.hs (F : Fr5 d c x L U C G ls us m) : Hs [d, c, x, L, U] d c G := ⟨by simp, by simp, fun b hb => let ⟨o, a, _⟩ := F.liv b hb; ⟨o, a⟩⟩
theorem Fr5.same (F : Fr5 d c x L U C G ls us m) (s : Same G G') : Fr5 d c x L U C G' ls us m :=
  ⟨F.D.same s, let ⟨dx, fs, h⟩ := F.X; ⟨dx, fs, s _ _ h⟩, s _ _ F.hL, s _ _ F.hU, F.n1, F.n2, F.n3, F.n4, F.n5⟩
theorem Fr5.deck (F : Fr5 d c x L U C G ls us m) (D' : Deck G' d c m') (s : Same (Hd d c G) (Hd d c G')) : Fr5 d c x L U C G' ls us m' :=
  ⟨D', let ⟨dx, fs, h⟩ := F.X; ⟨dx, fs, hd_sub _ _ (s _ _ (hd_of h (deck_ne F.D h).1 (deck_ne F.D h).2))⟩, hd_sub _ _ (s _ _ (hd_of F.hL F.n1 F.n2)), hd_sub _ _ (s _ _ (hd_of F.hU F.n3 F.n4)), F.n1, F.n2, F.n3, F.n4, F.n5⟩
end
structure Stt (K : PySem.W.Frag) (C d c x L U ka : Addr) (l : Nat) (kt : List PyData) (sg : Str) (G : Hp) (m n : Nat) (st : List (PyData × List (Str × Str))) (b : BS) (ls us : List V) : Prop where
  F : Fr5 d c x L U C G ls us m
  R : Rel st b
  ne : st ≠ []
  ds : DtAll K (Hz [d, c, x, L, U] G) ls (st.map gD)
  du : DtAll K (Hz [d, c, x, L, U] G) us (b.gs.map gD)
  B : BenchAt K C [d, c, x, L, U] G x l kt sg b
  n : b.es.length + b.gs.length ≤ n
  fit : ∀ g ∈ st ++ b.gs, Fit 700 4 g.1
  kd : Dt K (Hz [d, c, x, L, U] G) (.ref ka) (.tuple (.int (l : Int) :: kt))
section
variable {K : PySem.W.Frag} {C d c x L U ka : Addr} {l : Nat} {kt : List PyData} {sg : Str} {G G' : Hp} {m m' n : Nat} {st : List (PyData × List (Str × Str))} {b : BS} {ls us : List V}
theorem Stt.same (S : Stt K C d c x L U ka l kt sg G m n st b ls us) (s : Same G G') : Stt K C d c x L U ka l kt sg G' m n st b ls us :=
  ⟨S.F.same s, S.R, S.ne, S.ds.same (hz_same s), S.du.same (hz_same s), S.B.same1 s, S.n, S.fit, S.kd.same (hz_same s)⟩
theorem Stt.deck (S : Stt K C d c x L U ka l kt sg G m n st b ls us) (D' : Deck G' d c m') (s : Same (Hd d c G) (Hd d c G')) : Stt K C d c x L U ka l kt sg G' m' n st b ls us := by
  have z := S.F.hs.hz s
  have F' := S.F.deck D' s
  obtain ⟨dx, fs, hx⟩ := S.F.X
  exact ⟨F', S.R, S.ne, S.ds.same z, S.du.same z, S.B.same z (fun o h => hd_sub _ _ (s _ _ (hd_of h (deck_ne S.F.D hx).1 (deck_ne S.F.D hx).2))), S.n, S.fit, S.kd.same z⟩
end
section
variable {K : PySem.W.Frag} {d c x L U U2 C : Addr} {G G' : Hp} {ls us ls2 us2 : List V} {m : Nat}
/-- the two lists and the bench change -/
theorem Fr5.two (F : Fr5 d c x L U C G ls us m) (k : ∀ b o, b ≠ L → b ≠ U → b ≠ x → G b = some o → G' b = some o) (X' : ∃ dx fs, G' x = some (.ins C dx fs)) (hL' : G' L = some (.lst ls2)) (hU' : G' U = some (.lst us2)) :
    Fr5 d c x L U C G' ls2 us2 m ∧ Same (Hz [d, c, x, L, U] G) (Hz [d, c, x, L, U] G') := by
  obtain ⟨dx, fs, hx⟩ := F.X
  obtain ⟨xd, xc⟩ := deck_ne F.D hx
  obtain ⟨A, n, h1, h2, h3⟩ := F.D.ex
  refine ⟨⟨⟨F.D.ne, A, n, k _ _ F.n1.symm F.n3.symm xd.symm h1, k _ _ F.n2.symm F.n4.symm xc.symm h2, h3⟩, X', hL', hU', F.n1, F.n2, F.n3, F.n4, F.n5⟩, fun b o e => ?_⟩
  obtain ⟨a, n⟩ := hz_some e
  refine hz_of (k _ _ (fun z => n (by rw [z]; simp)) (fun z => n (by rw [z]; simp)) (fun z => n (by rw [z]; simp)) a) n
theorem Fr5.neL (F : Fr5 d c x L U C G ls us m) : L ≠ x ∧ U ≠ x := by
  obtain ⟨dx, fs, hx⟩ := F.X
  exact ⟨fun z => (by have := F.hL; rw [z, hx] at this; cases this), fun z => (by have := F.hU; rw [z, hx] at this; cases this)⟩
/-- a new list of what was undone -/
theorem Fr5.newU (F : Fr5 d c x L U C G ls us m) (n : G U2 = none) : Fr5 d c x L U2 C (upd G U2 (.lst [])) ls [] m ∧ Same (Hz [d, c, x, L, U] G) (Hz [d, c, x, L, U2] (upd G U2 (.lst []))) := by
  obtain ⟨dx, fs, hx⟩ := F.X
  have s := same_new n (.lst [])
  have f := F.D.free n
  refine ⟨⟨F.D.same s, ⟨dx, fs, s _ _ hx⟩, s _ _ F.hL, upd_same, F.n1, F.n2, f.1, f.2, ne_of_none F.hL n⟩, fun b o e => ?_⟩
  obtain ⟨a, m⟩ := hz_some e
  refine hz_of (s _ _ a) fun z => ?_
  simp only [List.mem_cons, List.not_mem_nil, or_false] at z m
  rcases z with z | z | z | z | z
  · exact m (.inl z)
  · exact m (.inr (.inl z))
  · exact m (.inr (.inr (.inl z)))
  · exact m (.inr (.inr (.inr (.inl z))))
  · exact (ne_of_none a n) z
end
theorem fitA {es : List PyData} (h : ∀ e ∈ es, Fit 700 4 e) : FitAll (es.length * 702) 4 es := by
  have := fit_map (f := fun e : PyData => e) (n := 700) (k := 4) (as := es) h
  rwa [List.map_id'] at this
theorem BenchAt.move {K : PySem.W.Frag} {C x : Addr} {S S' : List Addr} {H G : Hp} {l : Nat} {kt : List PyData} {sg : Str} {b : BS} (B : BenchAt K C S H x l kt sg b) (m : x ∈ S') (s : Same (Hz S H) (Hz S' G)) (hx : ∀ o, H x = some o → G x = some o) : BenchAt K C S' G x l kt sg b := by
  obtain ⟨dx, ka, ru, dn, rl, gn, e1, e2, e3, e4, e5, e6⟩ := B.ex
  exact ⟨m, B.vl, B.vr, B.vg, B.le, B.l1, B.l4, dx, ka, ru, dn, rl, gn, hx _ e1, e2.same s, e3.same s, e4.same s, e5.same s, e6.same s⟩
theorem Stt.up {K : PySem.W.Frag} {C d c x L U ka : Addr} {l : Nat} {kt : List PyData} {sg : Str} {G : Hp} {m m' n n' : Nat} {st : List (PyData × List (Str × Str))} {b : BS} {ls us : List V} (S : Stt K C d c x L U ka l kt sg G m n st b ls us) (h : m ≤ m') (hn : n ≤ n') : Stt K C d c x L U ka l kt sg G m' n' st b ls us :=
  ⟨⟨S.F.D.mono h, S.F.X, S.F.hL, S.F.hU, S.F.n1, S.F.n2, S.F.n3, S.F.n4, S.F.n5⟩, S.R, S.ne, S.ds, S.du, S.B, Nat.le_trans S.n hn, S.fit, S.kd⟩
theorem Stt.mono {K : PySem.W.Frag} {C d c x L U ka : Addr} {l : Nat} {kt : List PyData} {sg : Str} {G : Hp} {m m' n : Nat} {st : List (PyData × List (Str × Str))} {b : BS} {ls us : List V} (S : Stt K C d c x L U ka l kt sg G m n st b ls us) (h : m ≤ m') : Stt K C d c x L U ka l kt sg G m' n st b ls us :=
  ⟨⟨S.F.D.mono h, S.F.X, S.F.hL, S.F.hU, S.F.n1, S.F.n2, S.F.n3, S.F.n4, S.F.n5⟩, S.R, S.ne, S.ds, S.du, S.B, S.n, S.fit, S.kd⟩
section
variable {P : Program} {w : World} {K : PySem.W.Frag} {mg : Str → Option Value} {base : Heap}
theorem scL : FnScope NL ["_law_script"] (defScope sLaw) := ⟨rfl, rfl, rfl, by decide +kernel, rfl, by decide +kernel, by decide +kernel⟩
theorem ok_law {f fK fW fS fB fE fI fN fG fU fY fD fA fST fES C : Addr} {fd fdK fdW fdS fdB fdE fdI fdN fdG fdU fdY fdD fdA fdST fdES : FuncData} {dsST : List Value} (F : Fun K "law" "law" sLaw f fd) (T : Txt mg) (B : BC K mg C)
    (DK : Dfn P w K mg base "_law_deck" 1 fK fdK ["_law_script"] (spDeck K)) (W : Dfn P w K mg base "_law_draw" 1 fW fdW ["_law_deck_here", "_law_many"] spDraw) (SC : Dfn P w K mg base "_law_scheme" 5 fS fdS ["_law_deck_here", "_law_most"] spScheme)
    (MK : Mk K C fB) (FB : FnOk P w K mg base CX0 6 fB fdB ["self", "kind", "signs", "rule"] (spBi K C)) (bB : L2.Binds K fdB ["self", "kind", "signs", "rule"] [])
    (ED : Dfn P w K mg base "_law_edit" 5 fE fdE ["_law_deck_here", "_law_letters", "_law_rule_here"] (spLed K)) (IN : Dfn P w K mg base "_law_index" 3 fI fdI ["_law_deck_here", "_law_many"] (spInd K))
    (LN : Dfn P w K mg base "_law_is_number" 1 fN fdN ["_law_value", "_law_least", "_law_most"] (spNumber K)) (GT : Dfn P w K mg base "_law_got" 5 fG fdG ["_law_bench", "_law_index_here"] (spGot K C))
    (DU : Dfn P w K mg base "_law_due" 3 fU fdU ["_law_letters", "_law_rule_here", "_law_edit_here"] (spDue K)) (BY : Dfn P w K mg base "_law_by_item" 9 fY fdY ["_law_bench", "_law_edit_here"] (spBy K C))
    (BD : Dfn P w K mg base "_law_backed" 1 fD fdD ["_law_steps", "_law_undone", "_law_way"] spBackd) (BK : Dfn P w K mg base "_law_back" 2 fA fdA ["_law_bench", "_law_word"] (spBack K C))
    (MST : Meth K C "state" fST) (FST : FnOk P w K mg base CX0 1 fST fdST ["self", "version"] (spSta K C)) (bST : L2.Binds K fdST ["self", "version"] dsST) (dST : Vals [V.non] dsST)
    (MES : Meth K C "edits" fES) (FES : FnOk P w K mg base CX0 1 fES fdES ["self"] (spEds K C)) (bES : L2.Binds K fdES ["self"] []) : Fg P w K mg base CX0 10 f fd ["_law_script"] (spLaw K) := by
  refine ok_g F scL (fun vs H Q E h => ?_) (fun cdv A outer s H vs Q E hg hr h => ?_)
  · obtain ⟨a, ns, rfl, _⟩ := h
    rfl
  obtain ⟨a, ns, rfl, hS, hl, q⟩ := h
  have hr1 : Room 1 _ := hr.mono (by decide)
  have hr2 : Room 2 _ := hr.mono (by decide)
  have hr3 : Room 3 _ := hr.mono (by decide)
  have hr5 : Room 5 _ := hr.mono (by decide)
  have hr7 : Room 7 _ := hr.mono (by decide)
  refine ⟨_, pss_cons (ps_set (i := 1) scL.nd rfl (Or.inl rfl) (pe_call DK.ok hr1 rfl DK.m DK.kp DK.b .nil pass0 (pa_cons (pv 0) pa_nil)))
    (pss_cons (ps_asg (pe_call SC.ok hr5 rfl SC.m SC.kp SC.b .nil pass0 (pa_cons (pv 1) (pa_cons pe_int pa_nil))) (pg_tup (by rfl) (pgs_cons (pg_name (i := 2) scL.nd rfl (Or.inl rfl)) (pgs_cons (pg_name (i := 3) scL.nd rfl (Or.inl rfl)) (pgs_cons (pg_name (i := 4) scL.nd rfl (Or.inl rfl)) pgs_nil)))))
    (pss_cons (ps_par3 (i := 5) (j := 6) (l := 7) (by rfl) scL.nd rfl rfl rfl (by decide) (by decide) (by decide) rfl rfl rfl (pa_cons (pe_lst (pa_cons (pe_tup (pa_cons pe_non (pa_cons (pv 4) pa_nil))) pa_nil)) (pa_cons (pe_lst pa_nil) (pa_cons (pe_make MK FB hr7 rfl B.mc bB .nil pass0 (pa_cons (pv 2) (pa_cons (pv 3) (pa_cons (pv 4) pa_nil)))) pa_nil))) (by rfl))
    (pss_cons (ps_for PassesOwn.never rfl (pi_range1 rfl T.c.range (pa_cons pe_int pa_nil)) (pg_name (i := 8) scL.nd rfl (Or.inl rfl))
      (pss_cons (ps_set (i := 9) scL.nd rfl (Or.inl rfl) (pe_ix ix_tup (pe_ix ix_list (pv 5) (pe_un un_neg pe_int) (fun _ _ => rfl)) pe_int (fun _ _ => rfl)))
      (pss_cons (ps_set (i := 10) scL.nd rfl (Or.inl rfl) (pe_callB call_len_seq (by rfl) T.c.len PySem.boot_len (pa_cons (pv 9) pa_nil)))
      (pss_cons (ps_for PassesOwn.never rfl (pi_list (pe_lst (pa_cons (pe_call IN.ok hr3 rfl IN.m IN.kp IN.b .nil pass0 (pa_cons (pv 1) (pa_cons (pv 10) pa_nil))) (pa_cons (pe_op op_sub (pv 10) pe_int) (pa_cons (pv 10) pa_nil))))) (pg_name (i := 11) scL.nd rfl (Or.inl rfl))
        (pss_cons (ps_set (i := 12) scL.nd rfl (Or.inl rfl) (pe_call LN.ok hr1 rfl LN.m LN.kp LN.b .nil pass0 (pa_cons (pv 11) (pa_cons pe_int (pa_cons (pe_op op_sub (pv 10) pe_int) pa_nil)))))
        (pss_one (ps_if (pt_cmpR op_ne (pe_callB (call_reprD hg hr.units) (by rfl) T.repr (by decide +kernel) (pa_cons (pe_call GT.ok hr5 rfl GT.m GT.kp GT.b .nil pass0 (pa_cons (pv 7) (pa_cons (pv 11) pa_nil))) pa_nil)) (pe_callB (call_reprD hg hr.units) (by rfl) T.repr (by decide +kernel) (pa_cons (pe_ifExp (pt_val (pv 12)) (pe_lst (pa_cons pe_str (pa_cons (pe_ix ix_tup (pv 9) (pv 11) (fun _ _ => rfl)) pa_nil))) (pe_lst (pa_cons pe_str (pa_cons (pv 11) pa_nil)))) pa_nil)) (nomark _)) (pss_one (ps_ret pe_bl)) pss_nil))))
      (pss_cons (ps_par (i := 13) (j := 14) (by rfl) scL.nd rfl rfl (by decide) rfl rfl (pa_cons (pe_call ED.ok hr5 rfl ED.m ED.kp ED.b .nil pass0 (pa_cons (pv 1) (pa_cons (pe_ix ix_tup (pv 2) pe_int (fun _ _ => rfl)) (pa_cons (pv 9) pa_nil)))) (pa_cons (pe_call W.ok hr1 rfl W.m W.kp W.b .nil pass0 (pa_cons (pv 1) (pa_cons pe_int pa_nil))) pa_nil)) (by rfl))
      (pss_cons (ps_if (pt_cmpR op_lt (pv 14) pe_int (nomark _)) (pss_one (ps_par (i := 15) (j := 16) (by rfl) scL.nd rfl rfl (by decide) rfl rfl (pa_cons (pe_call BD.ok hr1 rfl BD.m BD.kp BD.b .nil pass0 (pa_cons (pv 5) (pa_cons (pv 6) (pa_cons (pv 14) pa_nil)))) (pa_cons (pe_call BK.ok hr2 rfl BK.m BK.kp BK.b .nil pass0 (pa_cons (pv 7) (pa_cons (pe_ix ix_list (pe_lst (pa_cons pe_str (pa_cons pe_str pa_nil))) (pv 14) (fun _ _ => rfl)) pa_nil))) pa_nil)) (by rfl)))
          (pss_one (ps_if (pt_cmpR op_in_seq (pe_ix ix_tup (pv 13) pe_int (fun _ _ => rfl)) (pe_lst (pa_cons pe_str (pa_cons pe_str (pa_cons pe_str pa_nil)))) (by rfl))
            (pss_cons (ps_par (i := 15) (j := 16) (by rfl) scL.nd rfl rfl (by decide) rfl rfl (pa_cons (pe_call DU.ok hr3 rfl DU.m DU.kp DU.b .nil pass0 (pa_cons (pe_ix ix_tup (pv 2) pe_int (fun _ _ => rfl)) (pa_cons (pv 9) (pa_cons (pv 13) pa_nil)))) (pa_cons (pe_call BY.ok hr rfl BY.m BY.kp BY.b .nil pass0 (pa_cons (pv 7) (pa_cons (pv 13) pa_nil))) pa_nil)) (by rfl))
            (pss_one (ps_if (pt_cmpR op_eq (pe_ix ix_list (pv 15) pe_int (fun _ _ => rfl)) pe_str (nomark _))
              (pss_cons (ps_expr (pe_bm PySem.F.plainAttrs_list PySem.F.slot_list_append PySem.F.type_list_append mt_append (pv 5) (pa_cons (pe_tup (pa_cons (pv 13) (pa_cons (pe_ix ix_list (pv 15) pe_int (fun _ _ => rfl)) pa_nil))) pa_nil)))
              (pss_one (ps_par (i := 15) (j := 6) (by rfl) scL.nd rfl rfl (by decide) rfl rfl (pa_cons (pe_lst (pa_cons pe_str (pa_cons (pe_op op_sub (pe_callB call_len_seq (by rfl) T.c.len PySem.boot_len (pa_cons (pv 5) pa_nil)) pe_int) pa_nil))) (pa_cons (pe_lst pa_nil) pa_nil)) (by rfl)))) pss_nil)))
            (pss_one (ps_par (i := 15) (j := 16) (by rfl) scL.nd rfl rfl (by decide) rfl rfl (pa_cons (pe_lst pa_nil) (pa_cons (pe_lst pa_nil) pa_nil)) (by rfl))))))
      (pss_cons (ps_set (i := 17) scL.nd rfl (Or.inl rfl) (pe_callTy call_tuple_of (by rfl) T.c.tuple (by decide +kernel) (pa_cons (pe_lc (own := [("_law_step", 18)]) (g := gName 18) (tt := tYes) rfl scL.nd (pi_list (pe_slice sl_list (pv 5) (po_some pe_int) po_none)) (blkOk_by (own := [("_law_step", 18)]) (N := NL) (sc := defScope sLaw) (by decide +kernel)) (fun _ _ _ _ _ => pg_name (i := 18) scL.nd rfl (Or.inl rfl)) (fun _ _ _ _ _ => pts_nil) (fun _ _ _ _ _ => pe_ix (r := rIxT K) ix_tup (pv 18) pe_int (fun _ _ => rfl))) pa_nil)))
      (pss_one (ps_if (pt_cmpR op_ne (pe_callB (call_reprD hg hr.units) (by rfl) T.repr (by decide +kernel) (pa_cons (pe_lst (pa_cons (pv 16) (pa_cons (pe_meth0 (pv 7) B.cl MST FST hr1 bST dST pass0) (pa_cons (pe_meth0 (pv 7) B.cl MES FES hr1 bES .nil pass0) pa_nil)))) pa_nil)) (pe_callB (call_reprD hg hr.units) (by rfl) T.repr (by decide +kernel) (pa_cons (pe_lst (pa_cons (pv 15) (pa_cons (pe_ix ix_tup (pe_ix ix_list (pv 5) (pe_un un_neg pe_int) (fun _ _ => rfl)) pe_int (fun _ _ => rfl)) (pa_cons (pv 17) pa_nil)))) pa_nil)) (nomark _)) (pss_one (ps_ret pe_bl)) pss_nil)))))))))
    (pss_one (ps_ret pe_bl))))), ?_⟩
  refine ⟨_, rfl, a, ns, rfl, hS, hl, fun d c G0 s0 nd nc D0 => ?_⟩
  refine ⟨_, rfl, d, c, 8, _, rfl, D0, by omega, by decide, by decide, fun p0 sa G1 SA OA D1 s1 => ?_⟩
  obtain ⟨ka, ra, hp0, MA, RA⟩ := SA.ex
  refine ⟨p0, _, rfl, .inl (.inl (hd_sub _ _ hp0)), rfl, _, _, rfl, _, _, rfl, _, _, rfl, rfl, ?_⟩
  have hse := serr_ok OA
  have hft := data_fit OA
  have hru := rule_ok OA
  have MD : Dt K (Hd d c G1) (.ref ka) (kindD sa) := MachAt.dt MA
  have RD : Dt K (Hd d c G1) (.ref ra) (rD sa.rs) := RA.dt
  obtain ⟨ps0, eps, V0⟩ := vl_of (ds := sa.rs.map pD) hru
  have RD0 : Dt K (Hd d c G1) (.ref ra) (.tuple (ps0.map pS)) := by rw [← eps]; exact RD
  have l1 := OA.l1
  have l4 := OA.l4
  obtain ⟨kt, ekt⟩ : ∃ kt, kindD sa = .tuple (.int (sa.l : Int) :: kt) := ⟨_, rfl⟩
  refine ⟨_, rfl, by show 2 ≤ 2 ^ 24; decide, fun t0 n0 => ⟨by show 1 ≤ 2 ^ 24; decide, fun L nL => ⟨by show 0 ≤ 2 ^ 24; decide, fun U nU => ?_⟩⟩⟩
  have ft0 := D1.free n0
  have sA := same_new n0 (.tup [V.non, V.ref ra])
  have g0 : upd G1 t0 (.tup [V.non, V.ref ra]) t0 = some (.tup [V.non, V.ref ra]) := upd_same
  generalize upd G1 t0 (.tup [V.non, V.ref ra]) = H1 at sA g0 nL nU ⊢
  have fL := (D1.same sA).free nL
  have L0 : G1 L = none := sA.free nL
  have t0L : t0 ≠ L := ne_of_none g0 nL
  have sB := same_new nL (.lst [V.ref t0])
  have gL : upd H1 L (.lst [V.ref t0]) L = some (.lst [V.ref t0]) := upd_same
  generalize upd H1 L (.lst [V.ref t0]) = H2 at sB gL nU ⊢
  have fU := ((D1.same sA).same sB).free nU
  have U0 : G1 U = none := sA.free (sB.free nU)
  have t0U : t0 ≠ U := ne_of_none (sB _ _ g0) nU
  have LU : L ≠ U := ne_of_none gL nU
  have sC := same_new nU (.lst [])
  have gU : upd H2 U (.lst []) U = some (.lst []) := upd_same
  generalize upd H2 U (.lst []) = H3 at sC gU ⊢
  have s13 := sA.trans (sB.trans sC)
  have D3 := D1.same s13
  refine ⟨_, rfl, _, rfl, _, rfl, fun x dx nx ndx nex => ?_⟩
  have sx : Same H3 (upd (upd H3 dx (.own x)) x (.ins C dx [])) := fun b o e => by
    rw [upd_ne (ne_of_none e nx), upd_ne (ne_of_none e ndx)]; exact e
  refine ⟨x, dx, ka, ra, sS sa.bs, kindD sa, rD sa.rs, rfl, upd_same, ((MD.same hd_sub).same s13).same sx, ((RD.same hd_sub).same s13).same sx, Nat.le_trans hft.w (by decide), hse, fun G2 dn rl gn xG hG ndn nrl ngn gdn grl ggn => ⟨rfl, ?_⟩⟩
  refine ⟨_, _, _, rfl, ?_⟩
  have D4 : Deck G2 d c 230 := (deck_exc (D3.same sx) upd_same xG).mono (by omega)
  have keep : ∀ b o, H3 b = some o → G2 b = some o := fun b o e => xG b o (ne_of_none e nx) (sx b o e)
  have F5 : Fr5 d c x L U C G2 [V.ref t0] [] 230 := ⟨D4, ⟨_, _, hG⟩, keep _ _ (sC _ _ gL), keep _ _ gU, fL.1, fL.2, fU.1, fU.2, LU⟩
  have xL : t0 ≠ x := ne_of_none ((sB.trans sC) _ _ g0) nx
  have z12 : Same (Hd d c G1) (Hz [d, c, x, L, U] G2) := fun b o h => by
    obtain ⟨h0, n1, n2⟩ := hd_some h
    refine hz_of (keep _ _ (s13 _ _ h0)) fun m => ?_
    simp only [List.mem_cons, List.not_mem_nil, or_false] at m
    rcases m with z | z | z | z | z
    · exact n1 z
    · exact n2 z
    · exact (ne_of_none (s13 _ _ h0) nx) z
    · exact (ne_of_none h0 L0) z
    · exact (ne_of_none h0 U0) z
  have LV := F5.liv
  have gt0 : Hz [d, c, x, L, U] G2 t0 = some (.tup [V.non, V.ref ra]) := LV.tup (Same.refl _) (keep _ _ ((sB.trans sC) _ _ g0))
  have RD2 := RD0.same z12
  have KD2 := MD.same z12
  rw [ekt] at KD2
  have BA0 : BenchAt K C [d, c, x, L, U] G2 x sa.l kt (sS sa.bs) ⟨ps0, [], [], []⟩ := ⟨by simp, V0, (fun q h => nomatch h), (fun g h => nomatch h), rfl, l1, l4, dx, ka, ra, dn, rl, gn, hG, KD2, RD2, .tup (LV.tup (Same.refl _) gdn) .nil, .tup (LV.tup (Same.refl _) grl) (.cons RD2 .nil), .tup (LV.tup (Same.refl _) ggn) .nil⟩
  have ST0 : Stt K C d c x L U ka sa.l kt (sS sa.bs) G2 230 0 [(.none, ps0)] ⟨ps0, [], [], []⟩ [V.ref t0] [] := ⟨F5, ⟨rfl, rfl⟩, by simp, .cons (.tup gt0 (.cons .non (.cons RD2 .nil))) .nil, .nil, BA0, Nat.le_refl _, (fun g h => by
    rcases List.mem_cons.mp h with rfl | h
    · exact fit_non (by decide)
    · cases h), KD2⟩
  clear BA0 RD2 KD2 gt0 LV z12 xL F5 keep D4 ggn grl gdn ngn nrl ndn hG xG sx nex ndx nx D3 s13 gU sC U0 fU t0U gL sB t0L L0 fL g0 sA nU nL n0 ft0 RD0 V0 eps RD MD hru hft hse RA MA hp0 SA s1 D1 OA s0 D0 ekt LU
  generalize sS sa.bs = sg at *
  generalize sa.l = l at *
  refine ⟨18, rfl, by decide, by decide, for_range (lo := 0) (n := 18) (fun i σ G => ∃ (U : Addr) (st : List (PyData × List (Str × Str))) (b : BS) (ls us : List V) (k8 k9 k10 k11 k12 k13 k14 k15 k16 k17 k18 : Option V), σ = [some (.ref a), some (.ref d), some (.ref ka), some (.str sg), some (.ref ra), some (.ref L), some (.ref U), some (.ref x), k8, k9, k10, k11, k12, k13, k14, k15, k16, k17, k18] ∧
      Stt K C d c x L U ka l kt sg G (230 + 60 * i) i st b ls us) ⟨U, _, _, _, _, _, _, _, _, _, _, _, _, _, _, _, rfl, ST0⟩ ?_ ?_⟩
  · rintro i σ G hi ⟨U, st, b, ls, us, k8, k9, k10, k11, k12, k13, k14, k15, k16, k17, k18, rfl, ST⟩
    obtain ⟨st', ep, rfl⟩ : ∃ st' ep, st = st' ++ [ep] := by
      rcases List.eq_nil_or_concat st with z | ⟨st', x, z⟩
      · exact absurd z ST.ne
      · exact ⟨st', x, by rw [z, List.concat_eq_append]⟩
    obtain ⟨pe, pp⟩ := ep
    have epp : b.ps = pp := ST.R.last
    have DS := ST.ds
    rw [List.map_append] at DS
    obtain ⟨ls', vt, rfl, DS', DT⟩ := dt_snoc (show DtAll K _ ls (st'.map gD ++ [gD (pe, pp)]) from DS)
    obtain ⟨t, tv, rfl, et, Dtv⟩ := dt_ref (show Dt K _ vt (.tuple [pe, rT pp]) from DT)
    cases Dtv with
    | @cons ve vr1 d1 dr1 De Dr =>
    cases Dr with
    | @cons vp vr2 d2 dr2 Dp Dn =>
    cases Dn
    obtain ⟨pn, pus, rfl, epn, DP⟩ := dt_ref (show Dt K _ vp (.tuple (pp.map pS)) from Dp)
    have pl : pus.length = pp.length := by rw [DP.length, List.length_map]
    have VP : Vl l pp := by rw [← epp]; exact ST.B.vl
    have p6 : pus.length ≤ 6 := by rw [pl]; exact VP.len
    have l1 := ST.B.l1
    have l4 := ST.B.l4
    refine ⟨_, rfl, _, rfl, L, _, -1, .ref t, rfl, rfl, .inl (.inl ST.F.hL), at_end, t, _, 1, .ref pn, rfl, rfl, .inl (.inl (hz_sub _ _ et)), atI_nat (j := 1) rfl, ?_⟩
    refine ⟨_, rfl, pn, pus, rfl, .inr (.inl (.inl (hz_sub _ _ epn))), ?_⟩
    refine ⟨_, rfl, _, rfl, [d, c, x, L, U], d, c, pus.length, _, rfl, ST.F.hs, ST.F.D, by omega, by omega, fun v1 G1 ⟨a1, da1, fa1⟩ D1 s1 => ?_⟩
    refine ⟨_, rfl, _, _, rfl, rfl, _, rfl, by show 3 ≤ 2 ^ 24; decide, fun la nla => ?_⟩
    have ST1 := ST.deck D1 s1
    have z1 := ST.F.hs.hz s1
    have sN := same_new nla (.lst [v1, V.int (((pus.length : Nat) : Int) - 1), V.int ((pus.length : Nat) : Int)])
    have gla : upd G1 la (.lst [v1, V.int (((pus.length : Nat) : Int) - 1), V.int ((pus.length : Nat) : Int)]) la = some (.lst [v1, V.int (((pus.length : Nat) : Int) - 1), V.int ((pus.length : Nat) : Int)]) := upd_same
    generalize upd G1 la (.lst [v1, V.int (((pus.length : Nat) : Int) - 1), V.int ((pus.length : Nat) : Int)]) = G2 at sN gla ⊢
    have ST2 := ST1.same sN
    have z2 := z1.trans (hz_same (S := [d, c, x, L, U]) sN)
    have all : ∀ v ∈ [v1, V.int (((pus.length : Nat) : Int) - 1), V.int ((pus.length : Nat) : Int)], ∃ av, Dt K G2 v av ∧ Fit 300 3 av := by
      simp only [List.forall_mem_cons]
      exact ⟨⟨a1, (da1.same hz_sub).same sN, fa1⟩, ⟨_, .int _, fit_int (Nat.lt_of_le_of_lt (m := 1000) (by omega) (by decide +kernel)) (by decide)⟩, ⟨_, .int _, fit_int (Nat.lt_of_le_of_lt (m := 1000) (by omega) (by decide +kernel)) (by decide)⟩, fun _ h => nomatch h⟩
    refine ⟨la, rfl, ⟨_, .inl (.inl gla)⟩, for_list (K := K) (a := la) (xs := [v1, V.int (((pus.length : Nat) : Int) - 1), V.int ((pus.length : Nat) : Int)]) (fun j σ G' => ∃ (k11' k12' : Option V), σ = [some (.ref a), some (.ref d), some (.ref ka), some (.str sg), some (.ref ra), some (.ref L), some (.ref U), some (.ref x), some (.int (0 + i)), some (.ref pn), some (.int ((pus.length : Nat) : Int)), k11', k12', k13, k14, k15, k16, k17, k18] ∧ Same G2 G')
      ⟨_, _, rfl, Same.refl _⟩ (fun j σ G' _ h => let ⟨_, _, _, sG⟩ := h; .inl (.inl (sG _ _ gla))) ?_ ?_⟩
    · rintro j v σ G' hv ⟨k11', k12', rfl, sG⟩
      obtain ⟨av, dav0, fav⟩ := all v (List.mem_of_getElem? hv)
      have dav := dav0.same sG
      have ST' := ST2.same sG
      refine ⟨_, rfl, _, rfl, _, _, rfl, rfl, v, av, _, _, rfl, toDu dav, ?_⟩
      refine ⟨_, rfl, _, rfl, [d, c, x, L, U], x, l, kt, sg, b, v, av, rfl, ST'.B, dav, fun hi q3 G3 s3 gq => ?_, fun i' p' ha hp v' q3 G3 s3 gq dv' => ?_⟩
      · have hi' : inR 0 (((pus.length : Nat) : Int) - 1) av = false := by rw [pl, ← epp]; exact hi
        have fo : Fit 400 4 (.list [.str "NoPair", av]) := (Fit.lst (FitAll.cons (fit_str (n := 20) (m := 20) (k := 3) (by decide +kernel) (by decide)) (FitAll.cons fav FitAll.nil))).mono (by decide) (by decide)
        have df : Dt K G3 (.ref q3) (.list [.str "NoPair", av]) := .lst gq (.cons (.str _) (.cons (dav.same s3) .nil))
        refine ⟨_, _, rfl, df, fo.s, Nat.le_trans fo.k (by decide), shown_le (K := K) df fo (by decide), _, rfl, _, rfl, ?_⟩
        rw [hi']
        refine iteF ⟨_, rfl, by show 2 ≤ 2 ^ 24; decide, fun q4 nq4 => ?_⟩
        have s4 := same_new nq4 (.lst [V.str "NoPair", v])
        have df4 : Dt K (upd G3 q4 (.lst [V.str "NoPair", v])) (.ref q4) (.list [.str "NoPair", av]) := .lst upd_same (.cons (.str _) (.cons ((dav.same s3).same s4) .nil))
        refine ⟨_, _, rfl, df4, fo.s, Nat.le_trans fo.k (by decide), shown_le (K := K) df4 fo (by decide), rfl, _, rfl, ite2 (fun c => absurd c (by simp)) (fun _ => ?_)⟩
        exact ⟨_, _, rfl, sG.trans (s3.trans s4)⟩
      · subst ha
        obtain rfl : v = .int (i' : Int) := by cases dav; rfl
        rw [epp] at hp
        have il : i' < pp.length := (List.getElem?_eq_some_iff.mp hp).1
        have hi' : inR 0 (((pus.length : Nat) : Int) - 1) (.int (i' : Int)) = true := by
          simp only [inR, Bool.and_eq_true, decide_eq_true_eq]
          omega
        have fo : Fit 400 4 (.list [.str "ok", pS p']) := (Fit.lst (FitAll.cons (fit_str (n := 20) (m := 20) (k := 1) (by decide +kernel) (by decide)) (FitAll.cons (okq_fit l1 l4 (VP.ok p' (List.mem_of_getElem? hp))) FitAll.nil))).mono (by decide) (by decide)
        have df : Dt K G3 (.ref q3) (.list [.str "ok", pS p']) := .lst gq (.cons (.str _) (.cons (dv'.same hz_sub) .nil))
        obtain ⟨y, ey⟩ : ∃ y, pus[i']? = some y := ⟨_, List.getElem?_eq_getElem (by omega)⟩
        obtain ⟨dy, hdy, Dy⟩ := DP.get ey
        have edy : dy = pS p' := by
          rw [List.getElem?_map, hp] at hdy
          cases hdy; rfl
        subst edy
        have z3 := z2.trans (hz_same (S := [d, c, x, L, U]) (sG.trans s3))
        refine ⟨_, _, rfl, df, fo.s, Nat.le_trans fo.k (by decide), shown_le (K := K) df fo (by decide), _, rfl, _, rfl, ?_⟩
        rw [hi']
        refine iteT ⟨_, rfl, _, rfl, pn, pus, _, y, rfl, rfl, .inl (.inl (hz_sub _ _ (z3 _ _ epn))), atI_nat ey, by show 2 ≤ 2 ^ 24; decide, fun q4 nq4 => ?_⟩
        have s4 := same_new nq4 (.lst [V.str "ok", y])
        have df4 : Dt K (upd G3 q4 (.lst [V.str "ok", y])) (.ref q4) (.list [.str "ok", pS p']) := .lst upd_same (.cons (.str _) (.cons (((Dy.same z3).same hz_sub).same s4) .nil))
        refine ⟨_, _, rfl, df4, fo.s, Nat.le_trans fo.k (by decide), shown_le (K := K) df4 fo (by decide), rfl, _, rfl, ite2 (fun c => absurd c (by simp)) (fun _ => ?_)⟩
        exact ⟨_, _, rfl, sG.trans (s3.trans s4)⟩
    rintro σ G3 ⟨k11', k12', rfl, sG⟩
    have ST3 := ST2.same sG
    have z3 := z2.trans (hz_same (S := [d, c, x, L, U]) sG)
    clear ST2 ST1 z2 z1 all gla sN da1 D1 s1 sG nla
    obtain ⟨kvs, kk1, kk2⟩ := dt_tup ST3.kd
    cases kk2 with
    | @cons v0 vr0 d0 dr0 kc1 kc2 =>
    cases kc1
    refine ⟨_, rfl, _, rfl, ka, _, 0, .int (l : Int), rfl, rfl, .inl (.inl (hz_sub _ _ kk1)), atI_nat (j := 0) rfl, _, rfl, [d, c, x, L, U], d, c, pn, pus, l, _, rfl, ST3.F.hs, ST3.F.D, by omega, l1, l4, ST3.F.hs.hd _ _ (z3 _ _ epn), by omega, fun te w va ea pw ep2 G4 ht0 hw da0 fa fp hp0 hp1 D4 s4 => ?_⟩
    refine ⟨_, rfl, d, c, 6, _, rfl, D4, by omega, by decide, by decide, fun r G5 r0 r1 D5 s5 => ⟨_, _, rfl, ?_⟩⟩
    obtain ⟨way, rfl⟩ : ∃ way : Nat, r = (way : Int) := ⟨r.toNat, by omega⟩
    have ST5 := (ST3.deck D4 s4).deck D5 s5
    have hs4 := ST3.F.hs.next D4 s4
    have z45 := hs4.hz s5
    have z5 := (z3.trans (ST3.F.hs.hz s4)).trans z45
    have ht := z45 _ _ ht0
    have da := da0.same z45
    have dp : w = "change" → ∃ vp2, pw = [vp2] ∧ Dt K (Hz [d, c, x, L, U] G5) vp2 ep2 := fun e => let ⟨vp2, e1, e2⟩ := hp1 e; ⟨vp2, e1, e2.same z45⟩
    have hep : te ≠ x := fun z => (hz_some ht).2 (by rw [z]; simp)
    clear z45 hs4 da0 hp1 ht0 D5 s5 r1 r0 D4 s4 kc2 kk1 z3 ST3
    have et5 := z5 _ _ et
    have epn5 := z5 _ _ epn
    have De5 := De.same z5
    have Dp5 := Dp.same z5
    have DP5 := DP.same z5
    clear et epn De Dp DP DT DS DS' z5 ST
    have hS5 := ST5.F.liv
    have sm : ∀ ds', after (b.ps.map pS) w ea ep2 = some ds' → Small (.tuple ds') := fun ds' e => after_small l1 l4 ST5.B.vl fa.w fp.w e
    have ll := ST5.ds.length
    have lu := ST5.du.length
    rw [List.length_map] at ll lu
    have stl : (st' ++ [(pe, pp)]).length = b.es.length + 1 := by
      have h := congrArg List.length ST5.R.r
      rw [List.length_map, List.length_append] at h
      rw [← h, ST5.B.le]; rfl
    have nn := ST5.n
    dsimp only
    refine seq_cut (P := fun σ G' => ∃ (U2 : Addr) (st2 : List (PyData × List (Str × Str))) (b2 : BS) (ls2 us2 : List V) (vd vf : V) (dd : PyData), σ = [some (.ref a), some (.ref d), some (.ref ka), some (.str sg), some (.ref ra), some (.ref L), some (.ref U2), some (.ref x), some (.int (0 + i)), some (.ref pn), some (.int ((pus.length : Nat) : Int)), k11', k12', some (.ref te), some (.int (way : Int)), some vd, some vf, k17, k18] ∧
        Stt K C d c x L U2 ka l kt sg G' (230 + 60 * (i + 1)) (i + 1) st2 b2 ls2 us2 ∧ Dt K G' vd dd ∧ Dt K G' vf dd ∧ Fit 400 4 dd) (fun R hR => ?_) ?_
    · refine ⟨_, rfl, _, _, rfl, rfl, _, rfl, ite2 (fun cw => ?_) (fun cw => ?_)⟩
      · subst epp
        have k0 : ∀ b' o, b' ≠ L → b' ≠ U → G5 b' = some o → G5 b' = some o := fun _ _ _ _ h => h
        obtain ⟨nLx, nUx⟩ := ST5.F.neL
        -- what the bench answers, behind what is due
        have w01 : way = 0 ∨ way = 1 := by have := of_decide_eq_true cw; omega
        rcases w01 with rfl | rfl
        · by_cases c0 : st' = []
          · subst c0
            have n1 : (ls' ++ [V.ref t]).length = 1 := ll
            have e0 : b.es = [] := List.eq_nil_of_length_eq_zero (by simp only [List.nil_append, List.length_singleton] at stl; omega)
            refine ⟨_, rfl, _, rfl, _, rfl, L, U, _, us, 0, rfl, ST5.F.n5, ST5.F.hL, ST5.F.hU, by omega, by omega, by omega, .inl ⟨rfl, fun _ qd G6 s6 gd => ?_, fun ls2 v h1 h2 => absurd h2 (by have hq := congrArg List.length h1; rw [n1, List.length_append] at hq; simp only [List.length_singleton] at hq; omega)⟩⟩
            refine ⟨_, rfl, by show 2 ≤ 2 ^ 24; decide, fun lw nlw => ?_⟩
            have s7 := same_new nlw (.lst [V.str "undo", V.str "redo"])
            have g7 : upd G6 lw (.lst [V.str "undo", V.str "redo"]) lw = some (.lst [V.str "undo", V.str "redo"]) := upd_same
            generalize upd G6 lw (.lst [V.str "undo", V.str "redo"]) = G7 at s7 g7 ⊢
            have s57 := s6.trans s7
            refine ⟨_, rfl, lw, _, _, .str "undo", rfl, rfl, .inl (.inl g7), atI_nat (j := 0) rfl, [d, c, x, L, U], x, l, kt, sg, b, "undo", rfl, hS5.same s57, ST5.B.same1 s57, by omega, by omega, .inl ⟨rfl, fun _ qf G8 s8 gf => ?_, fun es' e rs' p' h1 => absurd (e0.symm.trans h1) (by simp)⟩⟩
            refine ⟨_, _, rfl, ?_⟩
            have s58 := s57.trans s8
            have fo : Fit 400 4 (.list [.str "NothingToUndo"]) := (Fit.lst (FitAll.cons (fit_str (n := 20) (m := 20) (k := 0) (by decide +kernel) (by decide)) FitAll.nil)).mono (by decide) (by decide)
            exact hR _ _ ⟨U, _, b, _, us, _, _, _, rfl, (ST5.same s58).up (by omega) (by omega), .lst (s8 _ _ (s7 _ _ gd)) (.cons (.str _) .nil), .lst gf (.cons (.str _) .nil), fo⟩
          · have n2 : 1 ≤ st'.length := List.length_pos_iff.mpr c0
            have ll' : ls'.length = st'.length := by
              rw [List.length_append, List.length_append] at ll
              simp only [List.length_singleton] at ll
              omega
            obtain ⟨es', rs', p', r1, r2, r3⟩ := ST5.R.pop c0
            refine ⟨_, rfl, _, rfl, _, rfl, L, U, _, us, 0, rfl, ST5.F.n5, ST5.F.hL, ST5.F.hU, by omega, by omega, by omega, .inl ⟨rfl, fun h1 => absurd h1 (by rw [List.length_append, ll']; simp only [List.length_singleton]; omega), fun ls2 v h1 h2 qd G6 k6 gL gU nqd gd => ?_⟩⟩
            obtain ⟨i1, i2⟩ := app_inj h1
            subst i1
            subst i2
            obtain ⟨dx5, fs5, hx5⟩ := ST5.F.X
            obtain ⟨F6, z6⟩ := ST5.F.two (G' := G6) (fun b' o a1 a2 _ h => k6 b' o a1 a2 h) ⟨_, _, k6 _ _ nLx.symm nUx.symm hx5⟩ gL gU
            have B6 := ST5.B.same z6 fun o h => k6 _ _ nLx.symm nUx.symm h
            refine ⟨_, rfl, by show 2 ≤ 2 ^ 24; decide, fun lw nlw => ?_⟩
            have s7 := same_new nlw (.lst [V.str "undo", V.str "redo"])
            have g7 : upd G6 lw (.lst [V.str "undo", V.str "redo"]) lw = some (.lst [V.str "undo", V.str "redo"]) := upd_same
            generalize upd G6 lw (.lst [V.str "undo", V.str "redo"]) = G7 at s7 g7 ⊢
            have F7 := F6.same s7
            refine ⟨_, rfl, lw, _, _, .str "undo", rfl, rfl, .inl (.inl g7), atI_nat (j := 0) rfl, [d, c, x, L, U], x, l, kt, sg, b, "undo", rfl, F7.liv, B6.same1 s7, by omega, by omega, .inl ⟨rfl, fun h => absurd (h.symm.trans r1) (by simp), fun es2 e2 rs2 p2 h3 h4 qf G8 x8 B8 gf => ?_⟩⟩
            obtain ⟨i3, i4⟩ := app_inj (r1.symm.trans h3)
            obtain ⟨i5, i6⟩ := app_inj (r2.symm.trans h4)
            subst i3
            subst i4
            subst i5
            subst i6
            refine ⟨_, _, rfl, ?_⟩
            obtain ⟨bx8, _, _, _, _, _, hx8, _⟩ := B8.ex
            obtain ⟨F8, z8⟩ := F7.two (G' := G8) (fun b' o _ _ nx h => x8 _ _ nx h) ⟨_, _, hx8⟩ (x8 _ _ nLx F7.hL) (x8 _ _ nUx F7.hU)
            have y5 := z6.trans ((hz_same (S := [d, c, x, L, U]) s7).trans z8)
            have qx : qd ≠ x := fun z => by rw [z, hx5] at nqd; cases nqd
            have gd8 := x8 _ _ qx (s7 _ _ gd)
            have elen : (((ls'.length : Nat) : Int) - 1) = ((es'.length : Nat) : Int) := by
              have h := congrArg List.length r1
              rw [List.length_append] at h
              simp only [List.length_singleton] at h
              rw [List.length_append] at stl
              simp only [List.length_singleton] at stl
              omega
            rw [elen] at gd8
            have el20 : es'.length ≤ 40 := by
              have h := congrArg List.length r1
              rw [List.length_append] at h
              simp only [List.length_singleton] at h
              omega
            have fo : Fit 400 4 (.list [.str "ok", .int ((es'.length : Nat) : Int)]) := (Fit.lst (FitAll.cons (fit_str (n := 20) (m := 20) (k := 0) (by decide +kernel) (by decide)) (FitAll.cons (fit_int (n := 42) (k := 0) (Nat.lt_of_le_of_lt (m := 100) (by omega) (by decide +kernel)) (Nat.le_refl _)) FitAll.nil))).mono (by decide) (by decide)
            have dl := ST5.ds
            rw [List.map_append] at dl
            obtain ⟨us3, v3, i7, dl1, dl2⟩ := dt_snoc (show DtAll K _ (ls' ++ [V.ref t]) (st'.map gD ++ [gD (pe, b.ps)]) from dl)
            obtain ⟨i8, i9⟩ := app_inj i7
            subst i8
            subst i9
            refine hR _ _ ⟨U, st', ⟨p', es', rs', b.gs ++ [(pe, b.ps)]⟩, ls', us ++ [V.ref t], .ref qd, .ref qf, _, rfl, ⟨⟨F8.D.mono (by omega), F8.X, F8.hL, F8.hU, F8.n1, F8.n2, F8.n3, F8.n4, F8.n5⟩, r3 _, c0, dl1.same y5, ?_, B8, ?_, ?_, ST5.kd.same y5⟩, .lst gd8 (.cons (.str _) (.cons (.int _) .nil)), .lst gf (.cons (.str _) (.cons (.int _) .nil)), fo⟩
            · rw [List.map_append]
              exact (ST5.du.same y5).append (.cons (dl2.same y5) .nil)
            · show es'.length + (b.gs ++ [(pe, b.ps)]).length ≤ i + 1
              have h := congrArg List.length r1
              rw [List.length_append] at h ⊢
              simp only [List.length_singleton] at h ⊢
              omega
            · intro g hg
              rcases List.mem_append.mp hg with hg | hg
              · exact ST5.fit g (List.mem_append_left _ (List.mem_append_left _ hg))
              · rcases List.mem_append.mp hg with hg | hg
                · exact ST5.fit g (List.mem_append_right _ hg)
                · rw [List.mem_singleton.mp hg]
                  exact ST5.fit (pe, b.ps) (by simp)
        · rcases List.eq_nil_or_concat b.gs with c0 | ⟨gs', g, c0⟩
          · have u0 : us = [] := List.eq_nil_of_length_eq_zero (by rw [lu, c0]; rfl)
            subst u0
            refine ⟨_, rfl, _, rfl, _, rfl, L, U, _, [], 1, rfl, ST5.F.n5, ST5.F.hL, ST5.F.hU, by omega, by omega, Nat.zero_le _, .inr ⟨rfl, fun _ qd G6 s6 gd => ?_, fun us2 v h1 => absurd h1 (by simp)⟩⟩
            refine ⟨_, rfl, by show 2 ≤ 2 ^ 24; decide, fun lw nlw => ?_⟩
            have s7 := same_new nlw (.lst [V.str "undo", V.str "redo"])
            have g7 : upd G6 lw (.lst [V.str "undo", V.str "redo"]) lw = some (.lst [V.str "undo", V.str "redo"]) := upd_same
            generalize upd G6 lw (.lst [V.str "undo", V.str "redo"]) = G7 at s7 g7 ⊢
            have s57 := s6.trans s7
            refine ⟨_, rfl, lw, _, _, .str "redo", rfl, rfl, .inl (.inl g7), atI_nat (j := 1) rfl, [d, c, x, L, U], x, l, kt, sg, b, "redo", rfl, hS5.same s57, ST5.B.same1 s57, by omega, by omega, .inr ⟨rfl, fun _ qf G8 s8 gf => ?_, fun gs2 e p' h1 => absurd (c0.symm.trans h1) (by simp)⟩⟩
            refine ⟨_, _, rfl, ?_⟩
            have s58 := s57.trans s8
            have fo : Fit 400 4 (.list [.str "NothingToRedo"]) := (Fit.lst (FitAll.cons (fit_str (n := 20) (m := 20) (k := 0) (by decide +kernel) (by decide)) FitAll.nil)).mono (by decide) (by decide)
            exact hR _ _ ⟨U, _, b, _, [], _, _, _, rfl, (ST5.same s58).up (by omega) (by omega), .lst (s8 _ _ (s7 _ _ gd)) (.cons (.str _) .nil), .lst gf (.cons (.str _) .nil), fo⟩
          · rw [List.concat_eq_append] at c0
            obtain ⟨ge, gp⟩ := g
            have du := ST5.du
            rw [c0, List.map_append] at du
            obtain ⟨us', v, rfl, du1, du2⟩ := dt_snoc (show DtAll K _ us (gs'.map gD ++ [gD (ge, gp)]) from du)
            refine ⟨_, rfl, _, rfl, _, rfl, L, U, _, _, 1, rfl, ST5.F.n5, ST5.F.hL, ST5.F.hU, by omega, by omega, by omega, .inr ⟨rfl, fun h1 => absurd h1 (by simp), fun us2 v2 h1 qd G6 k6 gL gU nqd gd => ?_⟩⟩
            obtain ⟨i1, i2⟩ := app_inj h1
            subst i1
            subst i2
            obtain ⟨dx5, fs5, hx5⟩ := ST5.F.X
            obtain ⟨F6, z6⟩ := ST5.F.two (G' := G6) (fun b' o a1 a2 _ h => k6 b' o a1 a2 h) ⟨_, _, k6 _ _ nLx.symm nUx.symm hx5⟩ gL gU
            have B6 := ST5.B.same z6 fun o h => k6 _ _ nLx.symm nUx.symm h
            refine ⟨_, rfl, by show 2 ≤ 2 ^ 24; decide, fun lw nlw => ?_⟩
            have s7 := same_new nlw (.lst [V.str "undo", V.str "redo"])
            have g7 : upd G6 lw (.lst [V.str "undo", V.str "redo"]) lw = some (.lst [V.str "undo", V.str "redo"]) := upd_same
            generalize upd G6 lw (.lst [V.str "undo", V.str "redo"]) = G7 at s7 g7 ⊢
            have F7 := F6.same s7
            refine ⟨_, rfl, lw, _, _, .str "redo", rfl, rfl, .inl (.inl g7), atI_nat (j := 1) rfl, [d, c, x, L, U], x, l, kt, sg, b, "redo", rfl, F7.liv, B6.same1 s7, by omega, by omega, .inr ⟨rfl, fun h => absurd (h.symm.trans c0) (by simp), fun gs2 e2 p2 h3 qf G8 x8 B8 gf => ?_⟩⟩
            obtain ⟨i3, i4⟩ := app_inj (c0.symm.trans h3)
            cases i4
            subst i3
            refine ⟨_, _, rfl, ?_⟩
            obtain ⟨bx8, _, _, _, _, _, hx8, _⟩ := B8.ex
            obtain ⟨F8, z8⟩ := F7.two (G' := G8) (fun b' o _ _ nx h => x8 _ _ nx h) ⟨_, _, hx8⟩ (x8 _ _ nLx F7.hL) (x8 _ _ nUx F7.hU)
            have y5 := z6.trans ((hz_same (S := [d, c, x, L, U]) s7).trans z8)
            have qx : qd ≠ x := fun z => by rw [z, hx5] at nqd; cases nqd
            have gd8 := x8 _ _ qx (s7 _ _ gd)
            have elen : ((((ls' ++ [V.ref t]).length + 1 : Nat) : Int) - 1) = ((b.es.length + 1 : Nat) : Int) := by
              rw [ll, stl]
              omega
            rw [elen] at gd8
            have fo : Fit 400 4 (.list [.str "ok", .int ((b.es.length + 1 : Nat) : Int)]) := (Fit.lst (FitAll.cons (fit_str (n := 20) (m := 20) (k := 0) (by decide +kernel) (by decide)) (FitAll.cons (fit_int (n := 42) (k := 0) (Nat.lt_of_le_of_lt (m := 100) (by omega) (by decide +kernel)) (Nat.le_refl _)) FitAll.nil))).mono (by decide) (by decide)
            refine hR _ _ ⟨U, (st' ++ [(pe, b.ps)]) ++ [(ge, gp)], ⟨gp, b.es ++ [ge], b.rs ++ [b.ps], gs'⟩, ls' ++ [V.ref t] ++ [v], us', .ref qd, .ref qf, _, rfl, ⟨⟨F8.D.mono (by omega), F8.X, F8.hL, F8.hU, F8.n1, F8.n2, F8.n3, F8.n4, F8.n5⟩, ST5.R.push ST5.ne _, by simp, ?_, du1.same y5, B8, ?_, ?_, ST5.kd.same y5⟩, .lst gd8 (.cons (.str _) (.cons (.int _) .nil)), .lst gf (.cons (.str _) (.cons (.int _) .nil)), fo⟩
            · rw [List.map_append]
              exact (ST5.ds.same y5).append (.cons (du2.same y5) .nil)
            · show (b.es ++ [ge]).length + gs'.length ≤ i + 1
              have h := congrArg List.length c0
              rw [List.length_append] at h ⊢
              simp only [List.length_singleton] at h ⊢
              omega
            · intro g hg
              rcases List.mem_append.mp hg with hg | hg
              · rcases List.mem_append.mp hg with hg | hg
                · exact ST5.fit g (List.mem_append_left _ hg)
                · rw [List.mem_singleton.mp hg]
                  exact ST5.fit (ge, gp) (List.mem_append_right _ (by rw [c0]; simp))
              · exact ST5.fit g (List.mem_append_right _ (by rw [c0]; exact List.mem_append_left _ hg))
      · subst epp
        refine ⟨_, rfl, te, _, 0, .str w, rfl, rfl, .inl (.inl (hz_sub _ _ ht)), atI_nat (j := 0) rfl, by show 3 ≤ 2 ^ 24; decide, fun l3 nl3 => ?_⟩
        have s6 := same_new nl3 (.lst [V.str "add", V.str "drop", V.str "change"])
        have g6 : upd G5 l3 (.lst [V.str "add", V.str "drop", V.str "change"]) l3 = some (.lst [V.str "add", V.str "drop", V.str "change"]) := upd_same
        generalize upd G5 l3 (.lst [V.str "add", V.str "drop", V.str "change"]) = G6 at s6 g6 ⊢
        have ST6 := ST5.same s6
        have z6 := hz_same (S := [d, c, x, L, U]) s6
        have L6 := ST6.F.liv
        refine ⟨l3, [V.str "add", V.str "drop", V.str "change"], rfl, .inl (.inl (.inl g6)), rfl, KX.flat_strs ["add", "drop", "change"], _, rfl, ite2 (fun c3 => ?_) (fun c3 => ?_)⟩
        · have hw3 : w = "add" ∨ w = "drop" ∨ w = "change" := by
            rcases hw with e | e | e | e | e
            · exact .inl e
            · exact .inr (.inl e)
            · exact .inr (.inr e)
            · rw [e] at c3; exact absurd c3 (by decide +kernel)
            · rw [e] at c3; exact absurd c3 (by decide +kernel)
          obtain ⟨kvs6, kk6, kd6⟩ := dt_tup ST6.kd
          cases kd6 with
          | @cons v06 vr06 d06 dr06 kc6 kcr6 =>
          cases kc6
          refine ⟨_, rfl, ka, _, 0, .int (l : Int), rfl, rfl, .inl (.inl (hz_sub _ _ kk6)), atI_nat (j := 0) rfl, _, rfl, _, rfl, [d, c, x, L, U], l, pn, te, b.ps, w, va, ea, pw, ep2, rfl, L6, l1, l4, VP, Dp5.same z6, s6 _ _ (hz_sub _ _ ht), hw, da.same z6, hp0, fun e => let ⟨vp2, e1, e2⟩ := dp e; ⟨vp2, e1, e2.same z6⟩, sm, ?_⟩
          have by_ : ∀ (G7 : Hp) (QQ : VK), Same G6 G7 → ByOut K C [d, c, x, L, U] G7 x l kt sg b w va ea ep2 QQ → spBy K C [.ref x, .ref te] G7 QQ E0 := fun G7 QQ s7 O =>
            ⟨[d, c, x, L, U], x, te, l, kt, sg, b, w, va, ea, pw, ep2, rfl, L6.same s7, ST6.B.same1 s7, by omega, s7 _ _ (s6 _ _ (hz_sub _ _ ht)), hw3, da.same (z6.trans (hz_same s7)), fun e => let ⟨vp2, e1, e2⟩ := dp e; ⟨vp2, e1, e2.same (z6.trans (hz_same s7))⟩, sm, O⟩
          have mem : x ∈ [d, c, x, L, U] := by simp
          have ed5 : Dt K (Hz [d, c, x, L, U] G5) (.ref te) (edD w ea ep2) := by
            unfold edD
            by_cases cw2 : w = "change"
            · obtain ⟨vp2, e1, e2⟩ := dp cw2
              rw [if_pos cw2]
              rw [e1] at ht
              exact .tup ht (.cons (.str _) (.cons da (.cons e2 .nil)))
            · rw [if_neg cw2]
              rw [hp0 cw2] at ht
              exact .tup ht (.cons (.str _) (.cons da .nil))
          have fw : (PyData.str w).shown.length ≤ 20 := by
            rcases hw3 with e | e | e <;> (rw [e]; decide +kernel)
          have fed : Fit 700 4 (edD w ea ep2) := by
            unfold edD
            by_cases cw2 : w = "change"
            · rw [if_pos cw2]
              exact (Fit.tup (FitAll.cons (fit_str (n := 20) (m := 20) (k := 3) fw (by decide)) (FitAll.cons fa (FitAll.cons fp FitAll.nil)))).mono (by decide) (by decide)
            · rw [if_neg cw2]
              exact (Fit.tup (FitAll.cons (fit_str (n := 20) (m := 20) (k := 3) fw (by decide)) (FitAll.cons fa FitAll.nil))).mono (by decide) (by decide)
          refine ⟨?_, ?_, ?_⟩
          · intro ps1 qd rv' G7 ha he V1 s7 gq dv
            refine ⟨_, rfl, _, rfl, by_ G7 _ s7 ⟨?_, ?_, ?_⟩⟩
            · intro ps2 qf G8 ha2 he2 x8 B8 gf
              have e : ps1.map pS = ps2.map pS := Option.some.inj (ha.symm.trans ha2)
              have ST7 := ST6.same s7
              obtain ⟨bx8, _, _, _, _, _, hx8, _⟩ := B8.ex
              obtain ⟨nLx, nUx⟩ := ST7.F.neL
              obtain ⟨F8, z8⟩ := ST7.F.two (G' := G8) (fun b o _ _ nx h => x8 _ _ nx h) ⟨_, _, hx8⟩ (x8 _ _ nLx ST7.F.hL) (x8 _ _ nUx ST7.F.hU)
              have qx : qd ≠ x := fun z => by
                obtain ⟨dx7, fs7, h7⟩ := ST7.F.X
                rw [← z, gq] at h7
                cases h7
              have gq8 := x8 _ _ qx gq
              refine ⟨_, _, rfl, ?_⟩
              refine ⟨_, rfl, qd, _, 0, .str "ok", rfl, rfl, .inl (.inl gq8), atI_nat (j := 0) rfl, rfl, _, rfl, ite2 (fun _ => ?_) (fun c => absurd (decide_eq_true rfl) c)⟩
              refine ⟨_, rfl, .inl ⟨rfl, _, .inl (.inl F8.hL)⟩, _, rfl, _, rfl, qd, _, 1, rv', rfl, rfl, .inl (.inl gq8), atI_nat (j := 1) rfl, by show 2 ≤ 2 ^ 24; decide, fun t9 nt9 => ?_⟩
              have s9 := same_new nt9 (.tup [V.ref te, rv'])
              have g9 : Hz [d, c, x, L, U] (upd G8 t9 (.tup [V.ref te, rv'])) t9 = some (.tup [V.ref te, rv']) := F8.liv.new nt9 _
              generalize upd G8 t9 (.tup [V.ref te, rv']) = G9 at s9 g9 ⊢
              have F9 := F8.same s9
              refine ⟨L, _, .ref t9, rfl, rfl, F9.hL, by show _ < 2 ^ 24; omega, ?_⟩
              obtain ⟨dx9, fs9, hx9⟩ := F9.X
              have hx10 : upd G9 L (.lst (ls' ++ [V.ref t] ++ [V.ref t9])) x = some (.ins C dx9 fs9) := by rw [upd_ne nLx.symm]; exact hx9
              have hU10 : upd G9 L (.lst (ls' ++ [V.ref t] ++ [V.ref t9])) U = some (.lst us) := by rw [upd_ne F9.n5.symm]; exact F9.hU
              obtain ⟨F10, z10⟩ := F9.two (G' := upd G9 L (.lst (ls' ++ [V.ref t] ++ [V.ref t9]))) (fun b o n1 _ _ h => by rw [upd_ne n1]; exact h) ⟨_, _, hx10⟩ upd_same hU10
              have keep10 : ∀ o, G9 x = some o → upd G9 L (.lst (ls' ++ [V.ref t] ++ [V.ref t9])) x = some o := fun o h => by rw [upd_ne nLx.symm]; exact h
              have kq10 : ∀ o, G9 qf = some (.lst o) → qf ≠ L → upd G9 L (.lst (ls' ++ [V.ref t] ++ [V.ref t9])) qf = some (.lst o) := fun o h n => by rw [upd_ne n]; exact h
              have qfL : qf ≠ L := fun z => by
                have hh := F8.hL
                rw [← z, gf] at hh
                have e3 : [V.str "ok", V.int ((b.es.length + 1 : Nat) : Int)] = ls' ++ [V.ref t] := by
                  have := Option.some.inj hh
                  injection this
                have e4 := congrArg List.getLast? e3
                simp at e4
              generalize upd G9 L (.lst (ls' ++ [V.ref t] ++ [V.ref t9])) = G10 at F10 z10 keep10 kq10 hx10 hU10 ⊢
              refine ⟨_, rfl, L, _, rfl, .inl (.inl (.inl F10.hL)), _, _, rfl, rfl, by show 2 ≤ 2 ^ 24; decide, fun qd2 nqd2 => ⟨by show 0 ≤ 2 ^ 24; decide, fun U2 nU2 => ⟨_, _, rfl, ?_⟩⟩⟩
              have s11 := same_new nqd2 (.lst [V.str "ok", V.int (((ls' ++ [V.ref t] ++ [V.ref t9]).length : Nat) - 1)])
              have g11 : upd G10 qd2 (.lst [V.str "ok", V.int (((ls' ++ [V.ref t] ++ [V.ref t9]).length : Nat) - 1)]) qd2 = some (.lst [V.str "ok", V.int (((ls' ++ [V.ref t] ++ [V.ref t9]).length : Nat) - 1)]) := upd_same
              generalize upd G10 qd2 (.lst [V.str "ok", V.int (((ls' ++ [V.ref t] ++ [V.ref t9]).length : Nat) - 1)]) = G11 at s11 g11 nU2 ⊢
              have F11 := F10.same s11
              obtain ⟨F12, z12⟩ := F11.newU nU2
              have s12 := same_new nU2 (.lst [])
              have y9 := z10.trans ((hz_same s11).trans z12)
              have y8 := (hz_same (S := [d, c, x, L, U]) s9).trans y9
              have y7 := z8.trans y8
              have y6 := (hz_same (S := [d, c, x, L, U]) s7).trans y7
              have B12 : BenchAt K C [d, c, x, L, U2] (upd G11 U2 (.lst [])) x l kt sg ⟨ps2, b.es ++ [edD w ea ep2], b.rs ++ [b.ps], []⟩ := B8.move (by simp) y8 fun o h => s12 _ _ (s11 _ _ (keep10 _ (s9 _ _ h)))
              have ei : ((b.es.length + 1 : Nat) : Int) = ((((ls' ++ [V.ref t] ++ [V.ref t9]).length : Nat) : Int) - 1) := by
                have h2 : (ls' ++ [V.ref t] ++ [V.ref t9]).length = (ls' ++ [V.ref t]).length + 1 := by rw [List.length_append]; rfl
                rw [h2, ll, stl]
                omega
              have dn9 : Dt K (Hz [d, c, x, L, U2] (upd G11 U2 (.lst []))) (.ref t9) (gD (edD w ea ep2, ps2)) := .tup (y9 _ _ g9) (.cons (ed5.same (z6.trans y6)) (.cons (by
                have := dv.same y7
                rw [e] at this
                exact this) .nil))
              have fo : Fit 400 4 (.list [.str "ok", .int (((ls' ++ [V.ref t] ++ [V.ref t9]).length : Nat) - 1)]) := by
                rw [← ei]
                exact (Fit.lst (FitAll.cons (fit_str (n := 20) (m := 20) (k := 0) (by decide +kernel) (by decide)) (FitAll.cons (fit_int (n := 42) (k := 0) (Nat.lt_of_le_of_lt (m := 100) (by omega) (by decide +kernel)) (Nat.le_refl _)) FitAll.nil))).mono (by decide) (by decide)
              refine hR _ _ ⟨U2, (st' ++ [(pe, b.ps)]) ++ [(edD w ea ep2, ps2)], ⟨ps2, b.es ++ [edD w ea ep2], b.rs ++ [b.ps], []⟩, ls' ++ [V.ref t] ++ [V.ref t9], [], .ref qd2, .ref qf, _, rfl, ⟨⟨F12.D.mono (by omega), F12.X, F12.hL, F12.hU, F12.n1, F12.n2, F12.n3, F12.n4, F12.n5⟩, ST5.R.push ST5.ne [], by simp, ?_, .nil, B12, ?_, ?_, ST6.kd.same y6⟩, .lst (s12 _ _ g11) (.cons (.str _) (.cons (.int _) .nil)), .lst (s12 _ _ (s11 _ _ (kq10 _ (s9 _ _ gf) qfL))) (.cons (.str _) (.cons (by rw [← ei]; exact .int _) .nil)), fo⟩
              · rw [List.map_append]
                exact (ST6.ds.same y6).append (.cons dn9 .nil)
              · show (b.es ++ [edD w ea ep2]).length + 0 ≤ i + 1
                rw [List.length_append]
                show b.es.length + 1 + 0 ≤ i + 1
                omega
              · intro g hg
                rcases List.mem_append.mp hg with hg | hg
                · rcases List.mem_append.mp hg with hg | hg
                  · exact ST5.fit g (List.mem_append_left _ hg)
                  · rw [List.mem_singleton.mp hg]; exact fed
                · cases hg
            · intro ds' qf ev G8 ha2 ne
              exact absurd ((Option.some.inj (ha.symm.trans ha2)) ▸ he) ne
            · intro qf G8 ha2
              exact absurd (ha.symm.trans ha2) (by simp)
          · intro ds1 qd dv G7 ha ne s7 gq ddv
            refine ⟨_, rfl, _, rfl, by_ G7 _ s7 ⟨?_, ?_, ?_⟩⟩
            · intro ps2 qf G8 ha2 he2
              exact absurd he2 ((Option.some.inj (ha.symm.trans ha2)) ▸ ne)
            · intro ds' qf ev G8 ha2 ne2 s8 gf dev
              have e : ds1 = ds' := Option.some.inj (ha.symm.trans ha2)
              subst e
              have s68 := s7.trans s8
              refine ⟨_, _, rfl, _, rfl, qd, _, 0, .str "BadRule", rfl, rfl, .inl (.inl (s8 _ _ gq)), atI_nat (j := 0) rfl, rfl, _, rfl, ite2 (fun c => absurd c (by decide +kernel)) (fun _ => ?_)⟩
              have fo : Fit 400 4 (.list [.str "BadRule", errD l (.tuple ds1)]) := (Fit.lst (FitAll.cons (fit_str (n := 20) (m := 20) (k := 1) (by decide +kernel) (by decide)) (FitAll.cons (errD_fit (sm _ ha)) FitAll.nil))).mono (by decide) (by decide)
              exact hR _ _ ⟨U, _, b, _, us, _, _, _, rfl, (ST6.same s68).up (by omega) (by omega), .lst (s8 _ _ gq) (.cons (.str _) (.cons (ddv.same s8) .nil)), .lst gf (.cons (.str _) (.cons dev .nil)), fo⟩
            · intro qf G8 ha2
              exact absurd (ha.symm.trans ha2) (by simp)
          · intro qd G7 ha s7 gq
            refine ⟨_, rfl, _, rfl, by_ G7 _ s7 ⟨?_, ?_, ?_⟩⟩
            · intro ps2 qf G8 ha2
              exact absurd (ha.symm.trans ha2) (by simp)
            · intro ds' qf ev G8 ha2
              exact absurd (ha.symm.trans ha2) (by simp)
            · intro qf G8 ha2 s8 gf
              have s68 := s7.trans s8
              refine ⟨_, _, rfl, _, rfl, qd, _, 0, .str "NoPair", rfl, rfl, .inl (.inl (s8 _ _ gq)), atI_nat (j := 0) rfl, rfl, _, rfl, ite2 (fun c => absurd c (by decide +kernel)) (fun _ => ?_)⟩
              have fo : Fit 400 4 (.list [.str "NoPair", ea]) := (Fit.lst (FitAll.cons (fit_str (n := 20) (m := 20) (k := 3) (by decide +kernel) (by decide)) (FitAll.cons fa FitAll.nil))).mono (by decide) (by decide)
              have dv8 := ((da.same hz_sub).same s6).same s68
              exact hR _ _ ⟨U, _, b, _, us, _, _, _, rfl, (ST6.same s68).up (by omega) (by omega), .lst (s8 _ _ gq) (.cons (.str _) (.cons dv8 .nil)), .lst gf (.cons (.str _) (.cons dv8 .nil)), fo⟩
        · refine ⟨by show 0 ≤ 2 ^ 24; decide, fun p1 np1 => ⟨by show 0 ≤ 2 ^ 24; decide, fun p2 np2 => ⟨_, _, rfl, ?_⟩⟩⟩
          have t1 := same_new np1 (.lst [])
          have h1 : upd G6 p1 (.lst []) p1 = some (.lst []) := upd_same
          generalize upd G6 p1 (.lst []) = G7 at t1 h1 np2 ⊢
          have t2 := same_new np2 (.lst [])
          have s68 := t1.trans t2
          exact hR _ _ ⟨U, _, b, _, us, _, _, .list [], rfl, (ST6.same s68).up (by omega) (by omega), .lst (t2 _ _ h1) .nil, .lst upd_same .nil, (Fit.lst (FitAll.nil (k := 0))).mono (by decide) (by decide)⟩
    rintro σ G6 ⟨U2, st2, b2, ls2, us2, vd, vf, dd, rfl, S6, Dd, Df, fd⟩
    obtain ⟨st3, ep3, rfl⟩ : ∃ st3 ep3, st2 = st3 ++ [ep3] := by
      rcases List.eq_nil_or_concat st2 with z | ⟨st3, x3, z⟩
      · exact absurd z S6.ne
      · exact ⟨st3, x3, by rw [z, List.concat_eq_append]⟩
    obtain ⟨pe3, pp3⟩ := ep3
    have epp3 : b2.ps = pp3 := S6.R.last
    have es2 : b2.es = ((st3 ++ [(pe3, pp3)]).drop 1).map Prod.fst := by rw [S6.R.e, List.map_drop]
    have DS6 := S6.ds
    rw [List.map_append] at DS6
    obtain ⟨ls3, vt3, rfl, _, DT3⟩ := dt_snoc (show DtAll K _ ls2 (st3.map gD ++ [gD (pe3, pp3)]) from DS6)
    obtain ⟨t3, tv3, rfl, et3, Dtv3⟩ := dt_ref (show Dt K _ vt3 (.tuple [pe3, rT pp3]) from DT3)
    cases Dtv3 with
    | @cons ve3 wr1 f1 fr1 De3 Dr3 =>
    cases Dr3 with
    | @cons vp3 wr2 f2 fr2 Dp3 Dn3 =>
    cases Dn3
    clear DS6 DT3
    refine ⟨_, rfl, _, rfl, L, _, rfl, .inl (.inl S6.F.hL), fun p np => ?_⟩
    rw [show cutV (ls3 ++ [V.ref t3]) (some 1) none = (ls3 ++ [V.ref t3]).drop 1 from cut_at _ 1]
    have sp := same_new np (.lst ((ls3 ++ [V.ref t3]).drop 1))
    have gp : upd G6 p (.lst ((ls3 ++ [V.ref t3]).drop 1)) p = some (.lst ((ls3 ++ [V.ref t3]).drop 1)) := upd_same
    generalize upd G6 p (.lst ((ls3 ++ [V.ref t3]).drop 1)) = G7 at sp gp ⊢
    have S7 := S6.same sp
    have dE := S7.ds.drop 1
    rw [← List.map_drop] at dE
    have lE := dE.length
    rw [List.length_map] at lE
    have lS : (st3 ++ [(pe3, pp3)]).length = b2.es.length + 1 := by
      have h := congrArg List.length S6.R.r
      rw [List.length_map, List.length_append] at h
      rw [← h, S6.B.le]; rfl
    have le2 : b2.es.length ≤ 19 := by have := S6.n; omega
    have lX : ((ls3 ++ [V.ref t3]).drop 1).length = b2.es.length := by rw [lE, es2, List.length_map]
    refine ⟨p, rfl, ⟨_, .inl (.inl gp)⟩, fun Lc nLc => lc_list (K := K) (a := p) (xs := (ls3 ++ [V.ref t3]).drop 1) (fun j G => Same G7 G ∧ ∃ ys : List V, G Lc = some (.lst ys) ∧ ys.length = j ∧ DtAll K (Hz [d, c, x, L, U2] G7) ys (b2.es.take j))
      ⟨same_new nLc _, [], upd_same, rfl, .nil⟩ (fun j G _ h => .inl (.inl (h.1 _ _ gp))) (fun j xv G hx h => ?_) fun G h => ?_⟩
    · obtain ⟨sG7, ys, y1, y2, y3⟩ := h
      have jl : j < b2.es.length := by rw [← lX]; exact (List.getElem?_eq_some_iff.mp hx).1
      obtain ⟨dg, e1, e2⟩ := dE.get hx
      rw [List.getElem?_map] at e1
      obtain ⟨g, e3, e4⟩ := Option.map_eq_some_iff.mp e1
      subst e4
      obtain ⟨tt, ttv, rfl, ett, Dtt⟩ := dt_ref (show Dt K _ xv (.tuple [g.1, rT g.2]) from e2)
      cases Dtt with
      | @cons vg wg1 fg1 fgr1 Dg Drg =>
      have e5 : b2.es[j]? = some g.1 := by rw [es2, List.getElem?_map, e3]; rfl
      refine ⟨rfl, _, rfl, tt, _, 0, vg, rfl, rfl, .inl (.inl (sG7 _ _ (hz_sub _ _ ett))), atI_nat (j := 0) rfl, _, y1, by show _ < 2 ^ 24; omega, same_grow nLc sG7 _, ys ++ [vg], by rw [upd_same], by rw [List.length_append, y2]; rfl, ?_⟩
      rw [List.take_succ, e5]
      exact y3.append (.cons Dg .nil)
    · obtain ⟨sG7, ys, y1, y2, y3⟩ := h
      rw [lX, List.take_length] at y3
      refine ⟨Lc, ys, rfl, .inl ⟨.inl (.inl y1), fun tp ntp => ?_⟩⟩
      have s8 := same_new ntp (.tup ys)
      have dT : Dt K (upd G tp (.tup ys)) (.ref tp) (.tuple b2.es) := .tup upd_same ((y3.same hz_sub).same (sG7.trans s8))
      generalize upd G tp (.tup ys) = G8 at s8 dT ⊢
      have s78 := sG7.trans s8
      have S8 := S7.same s78
      have s68 := sp.trans s78
      obtain ⟨bx, bka, bru, bdn, brl, bgn, e1, _⟩ := S8.B.ex
      refine ⟨_, rfl, _, rfl, x, bx, _, rfl, e1, rfl, [d, c, x, L, U2], x, l, kt, sg, b2, rfl, S8.B, fun w1 dv1 => ⟨_, rfl, x, bx, _, rfl, e1, rfl, [d, c, x, L, U2], x, l, kt, sg, b2, rfl, S8.B, fun w2 dv2 => ⟨by show 3 ≤ 2 ^ 24; decide, fun q1 nq1 => ?_⟩⟩⟩
      have fe : FitAll 14000 4 b2.es := (fitA fun e he => by
        rw [es2] at he
        obtain ⟨g, hg, rfl⟩ := List.mem_map.mp he
        exact S6.fit g (List.mem_append_left _ (List.mem_of_mem_drop hg))).mono (by omega) (Nat.le_refl _)
      have fr : Fit 600 4 (.tuple (b2.ps.map pS)) := (Fit.tup (vl_fit l1 l4 S8.B.vl)).mono (by decide) (by decide)
      have fl : Fit 20000 10 (.list [dd, .tuple (b2.ps.map pS), .tuple b2.es]) := (Fit.lst (FitAll.cons (fd.mono (m := 400) (j := 5) (by decide) (by decide)) (FitAll.cons (fr.mono (m := 600) (j := 5) (by decide) (by decide)) (FitAll.cons (Fit.tup fe) FitAll.nil)))).mono (by decide) (by decide)
      have b1 := same_new nq1 (.lst [vf, w1, w2])
      have d1 : Dt K (upd G8 q1 (.lst [vf, w1, w2])) (.ref q1) (.list [dd, .tuple (b2.ps.map pS), .tuple b2.es]) := .lst upd_same (.cons (Df.same (s68.trans b1)) (.cons ((dv1.same hz_sub).same b1) (.cons ((dv2.same hz_sub).same b1) .nil)))
      generalize upd G8 q1 (.lst [vf, w1, w2]) = G9 at b1 d1 ⊢
      have S9 := S8.same b1
      have z69 := hz_same (S := [d, c, x, L, U2]) (s68.trans b1)
      refine ⟨_, _, rfl, d1, fl.s, Nat.le_trans fl.k (by decide), shown_le (K := K) d1 fl (by decide), _, rfl, _, rfl, _, rfl, L, _, -1, .ref t3, rfl, rfl, .inl (.inl S9.F.hL), at_end, t3, _, 1, vp3, rfl, rfl, .inl (.inl (hz_sub _ _ (z69 _ _ et3))), atI_nat (j := 1) rfl, _, rfl, by show 3 ≤ 2 ^ 24; decide, fun q2 nq2 => ?_⟩
      have b2' := same_new nq2 (.lst [vd, vp3, V.ref tp])
      have d2 : Dt K (upd G9 q2 (.lst [vd, vp3, V.ref tp])) (.ref q2) (.list [dd, .tuple (b2.ps.map pS), .tuple b2.es]) := .lst upd_same (.cons (Dd.same (s68.trans (b1.trans b2'))) (.cons (by rw [epp3]; exact (((show Dt K _ vp3 (.tuple (pp3.map pS)) from Dp3).same z69).same hz_sub).same b2') (.cons (dT.same (b1.trans b2')) .nil)))
      generalize upd G9 q2 (.lst [vd, vp3, V.ref tp]) = G10 at b2' d2 ⊢
      refine ⟨_, _, rfl, d2, fl.s, Nat.le_trans fl.k (by decide), shown_le (K := K) d2 fl (by decide), rfl, _, rfl, ite2 (fun c => absurd c (by simp)) (fun _ => ?_)⟩
      exact ⟨U2, _, b2, _, us2, _, _, _, _, _, _, _, _, _, _, _, rfl, S9.same b2'⟩
  · rintro σ G ⟨U, st, b, ls, us, k8, k9, k10, k11, k12, k13, k14, k15, k16, k17, k18, rfl, ST⟩
    exact q _
end
end K08
namespace K08
open PySem GL GZ KW KR GU KU KM KS KP GX KH KD GT GO
open L2 hiding isNon
open KC hiding rLenS call_lenS
open KX (Small errD)
open PySem.W (findIn subIn typeIn keepIn)
def iniB (K : PySem.W.Frag) (C fI : Addr) (f : Str) : Bool := decide (findIn K (.ref C) "__setattr__" = some (some (.builtin "object.__setattr__"))) && keepIn K (.ref C) && decide (typeIn K (.ref fI) = some (.type "function")) && decide (findIn K (.ref C) f = some none) && keepIn K (.ref fI) && decide (subIn K (.ref C) (.type "BaseException") = some true) && decide (typeIn K (.ref C) = some (.type "type"))
theorem iniB_ok {K : PySem.W.Frag} {C fI : Addr} {f : Str} (h : iniB K C fI f = true) : findIn K (.ref C) "__setattr__" = some (some (.builtin "object.__setattr__")) ∧ keepIn K (.ref C) = true ∧ typeIn K (.ref fI) = some (.type "function") ∧ findIn K (.ref C) f = some none ∧ keepIn K (.ref fI) = true ∧ subIn K (.ref C) (.type "BaseException") = some true ∧ typeIn K (.ref C) = some (.type "type") := by
  unfold iniB at h
  simp only [Bool.and_eq_true, decide_eq_true_eq] at h
  obtain ⟨⟨⟨⟨⟨⟨h1, h2⟩, h3⟩, h4⟩, h5⟩, h6⟩, h7⟩ := h
  exact ⟨h1, h2, h3, h4, h5, h6, h7⟩
def ex0B (K : PySem.W.Frag) (U V : Addr) : Bool := [U, V].all (fun C => PySem.W.excIn K C vE "ValueError.__new__" && keepIn K (.ref C) && decide (subIn K (.ref C) (.type "BaseException") = some true) && decide (typeIn K (.ref C) = some (.type "type"))) &&
  decide (PySem.W.exmOne K (.ref U) (.ref U) = some true) && decide (PySem.W.exmOne K (.ref V) (.ref U) = some false) && decide (PySem.W.exmOne K (.ref V) (.ref V) = some true)
theorem ex0B_ok {K : PySem.W.Frag} {mg : Str → Option Value} {U V : Addr} (h : ex0B K U V = true) (mu : mg "NothingToUndo" = some (.ref U)) (mv : mg "NothingToRedo" = some (.ref V)) : Ex0 K mg "NothingToUndo" U ∧ Ex0 K mg "NothingToRedo" V ∧ CatU K U V := by
  unfold ex0B at h
  simp only [Bool.and_eq_true, decide_eq_true_eq, List.all_eq_true] at h
  obtain ⟨⟨⟨h1, h2⟩, h3⟩, h4⟩ := h
  obtain ⟨⟨⟨a1, a2⟩, a3⟩, a4⟩ := h1 U (by simp)
  obtain ⟨⟨⟨b1, b2⟩, b3⟩, b4⟩ := h1 V (by simp)
  exact ⟨⟨mu, a1, a2, a3, a4⟩, ⟨mv, b1, b2, b3, b4⟩, ⟨h2, h3, h4⟩⟩
def catB (K : PySem.W.Frag) (CR CN : Addr) : Bool := decide (PySem.W.exmOne K (.ref CN) (.ref CN) = some true) && decide (PySem.W.exmOne K (.ref CR) (.ref CN) = some false) && decide (PySem.W.exmOne K (.ref CR) (.ref CR) = some true) && xfB K CN && xfB K CR
theorem catB_ok {K : PySem.W.Frag} {CR CN : Addr} (h : catB K CR CN = true) (nn : PySem.W.findIn K (.ref CN) "index" = some none) (nr : PySem.W.findIn K (.ref CR) "error" = some none) : CatN K CR CN := by
  unfold catB at h
  simp only [Bool.and_eq_true, decide_eq_true_eq] at h
  obtain ⟨⟨⟨⟨h1, h2⟩, h3⟩, h4⟩, h5⟩ := h
  exact ⟨h1, h2, h3, xfB_ok h4, xfB_ok h5, nn, nr⟩
def benB (K : PySem.W.Frag) (C : Addr) (fs : List Addr) : Bool := PySem.W.plainGet K C Str.empty && PySem.W.hasDictIn K C && PySem.W.plainOver K C && decide (findIn K (.ref C) "__setattr__" = some (some (.builtin "object.__setattr__"))) && PySem.W.makesIn K C && keepIn K (.ref C) &&
  (["kind", "signs", "rule", "done", "rules", "gone", "busy"] : List Str).all (fun n => decide (findIn K (.ref C) n = some none)) && fs.all (fun f => PySem.W.isFn K (.ref f) && keepIn K (.ref f))
theorem benB_ok {K : PySem.W.Frag} {C : Addr} {fs : List Addr} (h : benB K C fs = true) : Cls K C ∧ PySem.W.makesIn K C = true ∧ keepIn K (.ref C) = true ∧ (∀ n ∈ (["kind", "signs", "rule", "done", "rules", "gone", "busy"] : List Str), NoAttr K C n) ∧ ∀ f ∈ fs, PySem.W.isFn K (.ref f) = true ∧ keepIn K (.ref f) = true := by
  unfold benB at h
  simp only [Bool.and_eq_true, decide_eq_true_eq, List.all_eq_true] at h
  obtain ⟨⟨⟨⟨⟨⟨⟨h1, h2⟩, h3⟩, h4⟩, h5⟩, h6⟩, h7⟩, h8⟩ := h
  exact ⟨⟨h1, h2, h3, h4⟩, h5, h6, h7, h8⟩
theorem all_mk {l : PySem.W.OpenLaw} {w : World} {K : PySem.W.Frag} {h : Heap} {mg : Str → Option Value} {fa : Addr} (X : K.In h) (G : h.Ns mainGlobals mg) (hfa : mg "law" = some (.ref fa))
    {f22 f23 f24 f25 f26 f36 f37 f38 f41 f42 f58 f59 f60 f64 f65 f66 f67 f68 f69 f70 f71 f72 f73 f74 f75 f76 f77 f78 f79 f80 f81 f82 f83 : Addr} {d22 d23 d24 d25 d26 d36 d37 d38 d41 d42 d58 d59 d60 d64 d65 d66 d67 d68 d69 d70 d71 d72 d73 d74 d75 d76 d77 d78 d79 d80 d81 d82 d83 : FuncData} {t0 t1 t2 t3 t4 t5 t6 : Tok}
    {cP : Addr} {c0 g0 : Addr}
    {nm0 q_0 : Str} {N0 : Addr} {bs0 : List Value} {sn0 : List Str} {sub0 : List Value} {ab0 : Bool} {col0 : Option Bool} {dd0 : Option Addr} {m0_0 m1_0 m2_0 m3_0 m5_0 : Option Value} {oc0 : Value} {od0 an0 : Option Addr} {osl0 : Array (Option Value)} {kV0 doc0 pm0 cdv0 ct0 : Value}
    (C0 : PySem.W.nsIn K mainGlobals "BadRule" = some (some (.ref c0))) (iC0 : PySem.W.findIn K (.ref c0) "__init__" = some (some (.ref g0))) (xL0 : K.lookup c0 = some (excClassObj nm0 q_0 c0 N0 bs0 (.ref cP :: vE) true sn0 sub0 ab0 col0 dd0 m0_0 m1_0 m2_0 m3_0 m5_0 "ValueError.__new__"))
    (ib0 : iniB K c0 g0 "error" = true) (l0 : K.lookup g0 = some ⟨oc0, od0, .func (PySem.W.fnOf "__init__" "BadRule.__init__" (defArgs sI1) (defBody sI1) (defScope sI1) .none kV0 doc0 pm0 an0 cdv0 ct0), osl0⟩) (cd0 : PySem.W.codeIn K cdv0 "BadRule.__init__" = true)
    {cN gN : Addr} {nmN q_N : Str} {NN : Addr} {bsN : List Value} {snN : List Str} {subN : List Value} {abN : Bool} {colN : Option Bool} {ddN : Option Addr} {m0_N m1_N m2_N m3_N m5_N : Option Value} {ocN : Value} {odN anN : Option Addr} {oslN : Array (Option Value)} {kVN docN pmN cdvN ctN : Value} (CN : PySem.W.nsIn K mainGlobals "NoPair" = some (some (.ref cN)))
    (iCN : PySem.W.findIn K (.ref cN) "__init__" = some (some (.ref gN)))
    (xLN : K.lookup cN = some (excClassObj nmN q_N cN NN bsN lE true snN subN abN colN ddN m0_N m1_N m2_N m3_N m5_N "LookupError.__new__"))
    (ibN : iniB K cN gN "index" = true)
    (lN : K.lookup gN = some ⟨ocN, odN, .func (PySem.W.fnOf "__init__" "NoPair.__init__" (defArgs sI2) (defBody sI2) (defScope sI2) .none kVN docN pmN anN cdvN ctN), oslN⟩)
    (cdN : PySem.W.codeIn K cdvN "NoPair.__init__" = true)
    (cat : catB K c0 cN = true)
    {cB : Addr} (CB : PySem.W.nsIn K mainGlobals "Bench" = some (some (.ref cB)))
    {qln : Addr} {ocln : Value} {odln anln : Option Addr} {oslln : Array (Option Value)} {kVln docln pmln cdvln ctln : Value} (qaln : PySem.W.findIn K (.ref cB) "__len__" = some (some (.ref qln)))
    (qlln : K.lookup qln = some ⟨ocln, odln, .func (PySem.W.fnOf "__len__" "Bench.__len__" (defArgs mLn) (defBody mLn) (defScope mLn) .none kVln docln pmln anln cdvln ctln), oslln⟩)
    (qcln : PySem.W.codeIn K cdvln "Bench.__len__" = true)
    {qap : Addr} {ocap : Value} {odap anap : Option Addr} {oslap : Array (Option Value)} {kVap docap pmap cdvap ctap : Value} (qaap : PySem.W.findIn K (.ref cB) "approve" = some (some (.ref qap)))
    (qlap : K.lookup qap = some ⟨ocap, odap, .func (PySem.W.fnOf "approve" "Bench.approve" (defArgs mAp) (defBody mAp) (defScope mAp) .none kVap docap pmap anap cdvap ctap), oslap⟩)
    (qcap : PySem.W.codeIn K cdvap "Bench.approve" = true)
    {qrd : Addr} {ocrd : Value} {odrd anrd : Option Addr} {oslrd : Array (Option Value)} {kVrd docrd pmrd cdvrd ctrd : Value} (qard : PySem.W.findIn K (.ref cB) "ready" = some (some (.ref qrd)))
    (qlrd : K.lookup qrd = some ⟨ocrd, odrd, .func (PySem.W.fnOf "ready" "Bench.ready" (defArgs mRd) (defBody mRd) (defScope mRd) .none kVrd docrd pmrd anrd cdvrd ctrd), oslrd⟩)
    (qcrd : PySem.W.codeIn K cdvrd "Bench.ready" = true)
    {qsd : Addr} {ocsd : Value} {odsd ansd : Option Addr} {oslsd : Array (Option Value)} {kVsd docsd pmsd cdvsd ctsd : Value} (qasd : PySem.W.findIn K (.ref cB) "stand" = some (some (.ref qsd)))
    (qlsd : K.lookup qsd = some ⟨ocsd, odsd, .func (PySem.W.fnOf "stand" "Bench.stand" (defArgs mSt) (defBody mSt) (defScope mSt) .none kVsd docsd pmsd ansd cdvsd ctsd), oslsd⟩)
    (qcsd : PySem.W.codeIn K cdvsd "Bench.stand" = true)
    {qem : Addr} {ocem : Value} {odem anem : Option Addr} {oslem : Array (Option Value)} {kVem docem pmem cdvem ctem : Value} (qaem : PySem.W.findIn K (.ref cB) "edit" = some (some (.ref qem)))
    (qlem : K.lookup qem = some ⟨ocem, odem, .func (PySem.W.fnOf "edit" "Bench.edit" (defArgs mEd) (defBody mEd) (defScope mEd) .none kVem docem pmem anem cdvem ctem), oslem⟩)
    (qcem : PySem.W.codeIn K cdvem "Bench.edit" = true)
    {qad : Addr} {ocad : Value} {odad anad : Option Addr} {oslad : Array (Option Value)} {kVad docad pmad cdvad ctad : Value} (qaad : PySem.W.findIn K (.ref cB) "add" = some (some (.ref qad)))
    (qlad : K.lookup qad = some ⟨ocad, odad, .func (PySem.W.fnOf "add" "Bench.add" (defArgs mAd) (defBody mAd) (defScope mAd) .none kVad docad pmad anad cdvad ctad), oslad⟩)
    (qcad : PySem.W.codeIn K cdvad "Bench.add" = true)
    {qdr : Addr} {ocdr : Value} {oddr andr : Option Addr} {osldr : Array (Option Value)} {kVdr docdr pmdr cdvdr ctdr : Value} (qadr : PySem.W.findIn K (.ref cB) "drop" = some (some (.ref qdr)))
    (qldr : K.lookup qdr = some ⟨ocdr, oddr, .func (PySem.W.fnOf "drop" "Bench.drop" (defArgs mDr) (defBody mDr) (defScope mDr) .none kVdr docdr pmdr andr cdvdr ctdr), osldr⟩)
    (qcdr : PySem.W.codeIn K cdvdr "Bench.drop" = true)
    {qch : Addr} {occh : Value} {odch anch : Option Addr} {oslch : Array (Option Value)} {kVch docch pmch cdvch ctch : Value} (qach : PySem.W.findIn K (.ref cB) "change" = some (some (.ref qch)))
    (qlch : K.lookup qch = some ⟨occh, odch, .func (PySem.W.fnOf "change" "Bench.change" (defArgs mCh) (defBody mCh) (defScope mCh) .none kVch docch pmch anch cdvch ctch), oslch⟩)
    (qcch : PySem.W.codeIn K cdvch "Bench.change" = true)
    {qun : Addr} {ocun : Value} {odun anun : Option Addr} {oslun : Array (Option Value)} {kVun docun pmun cdvun ctun : Value} (qaun : PySem.W.findIn K (.ref cB) "undo" = some (some (.ref qun)))
    (qlun : K.lookup qun = some ⟨ocun, odun, .func (PySem.W.fnOf "undo" "Bench.undo" (defArgs mUn) (defBody mUn) (defScope mUn) .none kVun docun pmun anun cdvun ctun), oslun⟩)
    (qcun : PySem.W.codeIn K cdvun "Bench.undo" = true)
    {qre : Addr} {ocre : Value} {odre anre : Option Addr} {oslre : Array (Option Value)} {kVre docre pmre cdvre ctre : Value} (qare : PySem.W.findIn K (.ref cB) "redo" = some (some (.ref qre)))
    (qlre : K.lookup qre = some ⟨ocre, odre, .func (PySem.W.fnOf "redo" "Bench.redo" (defArgs mRe) (defBody mRe) (defScope mRe) .none kVre docre pmre anre cdvre ctre), oslre⟩)
    (qcre : PySem.W.codeIn K cdvre "Bench.redo" = true)
    {qgi : Addr} {ocgi : Value} {odgi angi : Option Addr} {oslgi : Array (Option Value)} {kVgi docgi pmgi cdvgi ctgi : Value} (qagi : PySem.W.findIn K (.ref cB) "__getitem__" = some (some (.ref qgi)))
    (qlgi : K.lookup qgi = some ⟨ocgi, odgi, .func (PySem.W.fnOf "__getitem__" "Bench.__getitem__" (defArgs mGi) (defBody mGi) (defScope mGi) .none kVgi docgi pmgi angi cdvgi ctgi), oslgi⟩)
    (qcgi : PySem.W.codeIn K cdvgi "Bench.__getitem__" = true)
    {qsi : Addr} {ocsi : Value} {odsi ansi : Option Addr} {oslsi : Array (Option Value)} {kVsi docsi pmsi cdvsi ctsi : Value} (qasi : PySem.W.findIn K (.ref cB) "__setitem__" = some (some (.ref qsi)))
    (qlsi : K.lookup qsi = some ⟨ocsi, odsi, .func (PySem.W.fnOf "__setitem__" "Bench.__setitem__" (defArgs mSi) (defBody mSi) (defScope mSi) .none kVsi docsi pmsi ansi cdvsi ctsi), oslsi⟩)
    (qcsi : PySem.W.codeIn K cdvsi "Bench.__setitem__" = true)
    {qia : Addr} {ocia : Value} {odia ania : Option Addr} {oslia : Array (Option Value)} {kVia docia pmia cdvia ctia : Value} (qaia : PySem.W.findIn K (.ref cB) "__iadd__" = some (some (.ref qia)))
    (qlia : K.lookup qia = some ⟨ocia, odia, .func (PySem.W.fnOf "__iadd__" "Bench.__iadd__" (defArgs mIa) (defBody mIa) (defScope mIa) .none kVia docia pmia ania cdvia ctia), oslia⟩)
    (qcia : PySem.W.codeIn K cdvia "Bench.__iadd__" = true)
    {qis : Addr} {ocis : Value} {odis anis : Option Addr} {oslis : Array (Option Value)} {kVis docis pmis cdvis ctis : Value} (qais : PySem.W.findIn K (.ref cB) "__isub__" = some (some (.ref qis)))
    (qlis : K.lookup qis = some ⟨ocis, odis, .func (PySem.W.fnOf "__isub__" "Bench.__isub__" (defArgs mIs) (defBody mIs) (defScope mIs) .none kVis docis pmis anis cdvis ctis), oslis⟩)
    (qcis : PySem.W.codeIn K cdvis "Bench.__isub__" = true)
    {qes : Addr} {oces : Value} {odes anes : Option Addr} {osles : Array (Option Value)} {kVes doces pmes cdves ctes : Value} (qaes : PySem.W.findIn K (.ref cB) "edits" = some (some (.ref qes)))
    (qles : K.lookup qes = some ⟨oces, odes, .func (PySem.W.fnOf "edits" "Bench.edits" (defArgs mEds) (defBody mEds) (defScope mEds) .none kVes doces pmes anes cdves ctes), osles⟩)
    (qces : PySem.W.codeIn K cdves "Bench.edits" = true)
    {qbi Tbi Ebi : Addr} {ocbi tcbi : Value} {odbi anbi tdbi : Option Addr} {oslbi tslbi : Array (Option Value)} {tnbi : Nat} {kVbi docbi pmbi cdvbi ctbi : Value} (qabi : PySem.W.findIn K (.ref cB) "__init__" = some (some (.ref qbi)))
    (qlbi : K.lookup qbi = some ⟨ocbi, odbi, .func (PySem.W.fnOf "__init__" "Bench.__init__" (defArgs mBi) (defBody mBi) (defScope mBi) (.ref Tbi) kVbi docbi pmbi anbi cdvbi ctbi), oslbi⟩)
    (qcbi : PySem.W.codeIn K cdvbi "Bench.__init__" = true)
    (qtbi : K.lookup Tbi = some ⟨tcbi, tdbi, .seq #[.ref Ebi] tnbi, tslbi⟩)
    {qst Dst : Addr} {ocst : Value} {odst anst : Option Addr} {oslst : Array (Option Value)} {docst pmst cdvst ctst : Value} (qast : PySem.W.findIn K (.ref cB) "state" = some (some (.ref qst)))
    (qlst : K.lookup qst = some ⟨ocst, odst, .func (PySem.W.fnOf "state" "Bench.state" (defArgs mSta) (defBody mSta) (defScope mSta) .none (.ref Dst) docst pmst anst cdvst ctst), oslst⟩)
    (qcst : PySem.W.codeIn K cdvst "Bench.state" = true)
    (qdst : PySem.W.nsIn K Dst "version" = some (some .none))
    {cU cV : Addr} (CUm : PySem.W.nsIn K mainGlobals "NothingToUndo" = some (some (.ref cU)))
    (CVm : PySem.W.nsIn K mainGlobals "NothingToRedo" = some (some (.ref cV)))
    (ex0 : ex0B K cU cV = true)
    (fgi : PySem.W.fnIn K qgi = true)
    (sqb : (PySem.W.selfFirst K cB && PySem.W.noSeq K cB) = true)
    (bq : benB K cB [qln, qap, qrd, qsd, qem, qad, qdr, qch, qun, qre, qgi, qsi, qia, qis, qes, qbi, qst] = true)
    (F22 : DF K "is_number" sNumber f22 d22) (F23 : DF K "is_row" sRow f23 d23) (F24 : DF K "are_rows" sRows f24 d24) (F25 : DF K "are_ends" sEnds f25 d25) (F26 : DF K "machine_error" sMErr f26 d26) (F36 : DF K "is_piece" sPiece f36 d36) (F37 : DF K "is_pair" sPair f37 d37) (F38 : DF K "rule_error" sRErr f38 d38) (F41 : DF K "are_signs" sSigns f41 d41) (F42 : DF K "scheme_error" sSErr f42 d42) (F58 : DF K "is_index" sIdx f58 d58) (F59 : DF K "checked" sChk f59 d59) (F60 : DF K "edited" sEdd f60 d60) (F64 : DF K "_law_deck" sDeck f64 d64) (F65 : DF K "_law_draw" sDraw f65 d65) (F66 : DF K "_law_one" sOne f66 d66) (F67 : DF K "_law_kind" sKind f67 d67) (F68 : DF K "_law_signs" sSgn f68 d68) (F69 : DF K "_law_piece" sPc f69 d69) (F70 : DF K "_law_rule" sRule f70 d70) (F71 : DF K "_law_scheme" sScheme f71 d71) (F72 : DF K "_law_is_pair" sLPair f72 d72) (F73 : DF K "_law_rule_error" sLRErr f73 d73) (F74 : DF K "_law_is_number" sLnm f74 d74) (F75 : DF K "_law_due" sDue f75 d75) (F76 : DF K "_law_some" sSome f76 d76) (F77 : DF K "_law_index" sInd f77 d77) (F78 : DF K "_law_edit" sLed f78 d78) (F79 : DF K "_law_back" sBack f79 d79) (F80 : DF K "_law_by_item" sByIt f80 d80) (F81 : DF K "_law_got" sGot f81 d81) (F82 : DF K "_law_backed" sBackd f82 d82) (F83 : DF K "law" sLaw f83 d83)
    (z0 : PySem.W.nsIn K mainGlobals "int" = some none) (z1 : PySem.W.nsIn K mainGlobals "tuple" = some none) (z2 : PySem.W.nsIn K mainGlobals "len" = some none) (z3 : PySem.W.nsIn K mainGlobals "abs" = some none) (z4 : PySem.W.nsIn K mainGlobals "range" = some none) (z5 : PySem.W.nsIn K mainGlobals "isinstance" = some none) (z6 : PySem.W.nsIn K mainGlobals "str" = some none) (z7 : PySem.W.nsIn K mainGlobals "bool" = some none) (z8 : PySem.W.nsIn K mainGlobals "all" = some none) (z9 : PySem.W.nsIn K mainGlobals "enumerate" = some none) (z10 : PySem.W.nsIn K mainGlobals "list" = some none) (z11 : PySem.W.nsIn K mainGlobals "repr" = some none)
    (m0 : PySem.W.nsIn K mainGlobals "MAX_LETTERS" = some (some (.int 4 t0))) (m1 : PySem.W.nsIn K mainGlobals "MAX_STATES" = some (some (.int 8 t1))) (m2 : PySem.W.nsIn K mainGlobals "MAX_ROWS" = some (some (.int 400 t2))) (m3 : PySem.W.nsIn K mainGlobals "MAX_WINDOW" = some (some (.int 3 t3))) (m4 : PySem.W.nsIn K mainGlobals "MAX_PAIRS" = some (some (.int 6 t4))) (m5 : PySem.W.nsIn K mainGlobals "LETTERS" = some (some (.str "abcd" t5))) (m6 : PySem.W.nsIn K mainGlobals "MAX_EDITS" = some (some (.int 60 t6))) :
    ∃ fd : FuncData, (∀ (s : Shared) (v : Value), BindsTo s fd ⟨[v], []⟩ [("_law_script", v)]) ∧ ∀ base : Heap, K.In base → base.Ns mainGlobals mg → Fg l.prog w K mg base CX0 10 fa fd ["_law_script"] (spLaw K) := by
  have e := hfa.symm.trans (PySem.W.mg_of X G F83.ns)
  cases e
  have C : TxC mg := ⟨PySem.W.mg_none_of X G z0, PySem.W.mg_none_of X G z1, PySem.W.mg_none_of X G z2, PySem.W.mg_none_of X G z3, PySem.W.mg_none_of X G z4⟩
  have T : Txt mg := ⟨C, PySem.W.mg_none_of X G z5, PySem.W.mg_none_of X G z6, PySem.W.mg_none_of X G z7, PySem.W.mg_none_of X G z8, PySem.W.mg_none_of X G z9, PySem.W.mg_none_of X G z10, PySem.W.mg_none_of X G z11, ⟨_, PySem.W.mg_of X G m0⟩, ⟨_, PySem.W.mg_of X G m1⟩, ⟨_, PySem.W.mg_of X G m2⟩, ⟨_, PySem.W.mg_of X G m3⟩, ⟨_, PySem.W.mg_of X G m4⟩, ⟨_, PySem.W.mg_of X G m5⟩⟩
  obtain ⟨cls, mks, kcB, nas, fns⟩ := benB_ok bq
  obtain ⟨XU, XV, CU⟩ := ex0B_ok ex0 (PySem.W.mg_of X G CUm) (PySem.W.mg_of X G CVm)
  obtain ⟨sf, nq⟩ := Bool.and_eq_true_iff.mp sqb
  have BB : BC K mg cB := ⟨cls, nas _ (by simp), nas _ (by simp), nas _ (by simp), nas _ (by simp), nas _ (by simp), nas _ (by simp), nas _ (by simp), PySem.W.mg_of X G CB, ⟨_, PySem.W.mg_of X G m6⟩⟩
  refine ⟨d83, fun s v => ?_, fun base _ _ => ?_⟩
  · obtain ⟨oc, od, kV, doc, pm, an, cdv, ct, osl, rfl, _, _⟩ := F83.fn.ex
    exact .of_eq rfl
  obtain ⟨sa0, kC0, tI0, no0, kf0, su0, ty0⟩ := iniB_ok ib0
  have XC0 : XC K c0 vE "ValueError.__new__" := ⟨⟨_, _, _, _, _, _, _, _, _, _, _, _, _, _, _, xL0, by rfl⟩, sa0, kC0⟩
  have Fi0 : Fun K "__init__" "BadRule.__init__" sI1 g0 _ := fun_mk l0 cd0 kf0
  have X0 : Exn l.prog w K mg base "BadRule" "error" c0 := ⟨PySem.W.mg_of X G C0, ⟨⟨_, _, _, _, _, _, _, _, _, _, _, _, _, _, _, xL0, by rfl⟩, sa0, su0, ty0, kC0⟩, g0, _, iC0, tI0, ok_init1 Fi0 XC0 no0, Fi0.binds fun _ _ _ _ _ _ us hl => match us, hl with | [_, _], _ => rfl⟩
  obtain ⟨saN, kCN, tIN, noN, kfN, suN, tyN⟩ := iniB_ok ibN
  have XCN : XC K cN lE "LookupError.__new__" := ⟨⟨_, _, _, _, _, _, _, _, _, _, _, _, _, _, _, xLN, by rfl⟩, saN, kCN⟩
  have FiN : Fun K "__init__" "NoPair.__init__" sI2 gN _ := fun_mk lN cdN kfN
  have XN : ExG l.prog w K mg base "NoPair" "index" cN := ⟨PySem.W.mg_of X G CN, XCN, suN, tyN, gN, _, iCN, tIN, ok_init2 FiN XCN noN, FiN.binds fun _ _ _ _ _ _ us hl => match us, hl with | [_, _], _ => rfl⟩
  have CA : CatN K c0 cN := catB_ok cat noN no0
  have B22 : L2.Binds K d22 ["value", "low", "high"] [] := F22.fn.binds fun _ _ _ _ _ _ us hl => match us, hl with | [_, _, _], _ => rfl
  have D22 : Dfn l.prog w K mg base "is_number" 1 f22 d22 ["value", "low", "high"] (spNumber K) := ⟨ok_number F22.fn T, B22, PySem.W.mg_of X G F22.ns, F22.fn.kp⟩
  have B23 : L2.Binds K d23 ["value", "letters", "states"] [] := F23.fn.binds fun _ _ _ _ _ _ us hl => match us, hl with | [_, _, _], _ => rfl
  have D23 : Dfn l.prog w K mg base "is_row" 2 f23 d23 ["value", "letters", "states"] (spRow K) := ⟨ok_row F23.fn T D22, B23, PySem.W.mg_of X G F23.ns, F23.fn.kp⟩
  have B24 : L2.Binds K d24 ["value", "letters"] [] := F24.fn.binds fun _ _ _ _ _ _ us hl => match us, hl with | [_, _], _ => rfl
  have D24 : Dfn l.prog w K mg base "are_rows" 3 f24 d24 ["value", "letters"] (spRows K) := ⟨ok_rows F24.fn T D23, B24, PySem.W.mg_of X G F24.ns, F24.fn.kp⟩
  have B25 : L2.Binds K d25 ["value", "states"] [] := F25.fn.binds fun _ _ _ _ _ _ us hl => match us, hl with | [_, _], _ => rfl
  have D25 : Dfn l.prog w K mg base "are_ends" 1 f25 d25 ["value", "states"] (spEnds K) := ⟨ok_ends F25.fn T, B25, PySem.W.mg_of X G F25.ns, F25.fn.kp⟩
  have B26 : L2.Binds K d26 ["value"] [] := F26.fn.binds fun _ _ _ _ _ _ us hl => match us, hl with | [_], _ => rfl
  have D26 : Dfn l.prog w K mg base "machine_error" 4 f26 d26 ["value"] (spErr K) := ⟨ok_merr F26.fn T D22 D24 D25, B26, PySem.W.mg_of X G F26.ns, F26.fn.kp⟩
  have B36 : L2.Binds K d36 ["letters", "value"] [] := F36.fn.binds fun _ _ _ _ _ _ us hl => match us, hl with | [_, _], _ => rfl
  have D36 : Dfn l.prog w K mg base "is_piece" 1 f36 d36 ["letters", "value"] (spPiece K) := ⟨ok_piece F36.fn T, B36, PySem.W.mg_of X G F36.ns, F36.fn.kp⟩
  have B37 : L2.Binds K d37 ["letters", "value"] [] := F37.fn.binds fun _ _ _ _ _ _ us hl => match us, hl with | [_, _], _ => rfl
  have D37 : Dfn l.prog w K mg base "is_pair" 2 f37 d37 ["letters", "value"] (spPair K) := ⟨ok_pair F37.fn T D36, B37, PySem.W.mg_of X G F37.ns, F37.fn.kp⟩
  have B38 : L2.Binds K d38 ["letters", "value"] [] := F38.fn.binds fun _ _ _ _ _ _ us hl => match us, hl with | [_, _], _ => rfl
  have D38 : Dfn l.prog w K mg base "rule_error" 3 f38 d38 ["letters", "value"] (spRErr K) := ⟨ok_rerr F38.fn T D37, B38, PySem.W.mg_of X G F38.ns, F38.fn.kp⟩
  have B41 : L2.Binds K d41 ["value", "letters"] [] := F41.fn.binds fun _ _ _ _ _ _ us hl => match us, hl with | [_, _], _ => rfl
  have D41 : Dfn l.prog w K mg base "are_signs" 1 f41 d41 ["value", "letters"] (spASigns K) := ⟨ok_asigns F41.fn T, B41, PySem.W.mg_of X G F41.ns, F41.fn.kp⟩
  have B42 : L2.Binds K d42 ["value"] [] := F42.fn.binds fun _ _ _ _ _ _ us hl => match us, hl with | [_], _ => rfl
  have D42 : Dfn l.prog w K mg base "scheme_error" 5 f42 d42 ["value"] (spSErr K) := ⟨ok_serr F42.fn T D26 D41 D38, B42, PySem.W.mg_of X G F42.ns, F42.fn.kp⟩
  have B58 : L2.Binds K d58 ["rule", "value"] [] := F58.fn.binds fun _ _ _ _ _ _ us hl => match us, hl with | [_, _], _ => rfl
  have D58 : Dfn l.prog w K mg base "is_index" 2 f58 d58 ["rule", "value"] (spIdx K) := ⟨ok_idx F58.fn T D22, B58, PySem.W.mg_of X G F58.ns, F58.fn.kp⟩
  have B59 : L2.Binds K d59 ["letters", "rule"] [] := F59.fn.binds fun _ _ _ _ _ _ us hl => match us, hl with | [_, _], _ => rfl
  have D59 : Dfx l.prog w K mg base "checked" 4 f59 d59 ["letters", "rule"] (spChk K c0) := ⟨ok_chk F59.fn X0 D38, B59, PySem.W.mg_of X G F59.ns, F59.fn.kp⟩
  have B60 : L2.Binds K d60 ["letters", "rule", "edit"] [] := F60.fn.binds fun _ _ _ _ _ _ us hl => match us, hl with | [_, _, _], _ => rfl
  have D60 : Dfx l.prog w K mg base "edited" 5 f60 d60 ["letters", "rule", "edit"] (spEdd K c0 cN) := ⟨ok_edd F60.fn XN D59 D58, B60, PySem.W.mg_of X G F60.ns, F60.fn.kp⟩
  have Wln : Meth K cB "__len__" qln := ⟨qaln, (fns qln (by simp)).1, (fns qln (by simp)).2⟩
  have Gln : Fun K "__len__" "Bench.__len__" mLn qln _ := fun_mk qlln qcln (fns qln (by simp)).2
  have Bln : L2.Binds K _ ["self"] [] := Gln.binds fun _ _ _ _ _ _ us hl => match us, hl with | [_], _ => rfl
  have Kln : FnOk l.prog w K mg base CX0 1 qln _ ["self"] (spLn cB) := ok_ln Gln T BB
  have Wap : Meth K cB "approve" qap := ⟨qaap, (fns qap (by simp)).1, (fns qap (by simp)).2⟩
  have Gap : Fun K "approve" "Bench.approve" mAp qap _ := fun_mk qlap qcap (fns qap (by simp)).2
  have Bap : L2.Binds K _ ["self", "rule"] [] := Gap.binds fun _ _ _ _ _ _ us hl => match us, hl with | [_, _], _ => rfl
  have Kap : FnOk l.prog w K mg base CX0 1 qap _ ["self", "rule"] spAp := ok_ap Gap
  have Wrd : Meth K cB "ready" qrd := ⟨qard, (fns qrd (by simp)).1, (fns qrd (by simp)).2⟩
  have Grd : Fun K "ready" "Bench.ready" mRd qrd _ := fun_mk qlrd qcrd (fns qrd (by simp)).2
  have Brd : L2.Binds K _ ["self"] [] := Grd.binds fun _ _ _ _ _ _ us hl => match us, hl with | [_], _ => rfl
  have Krd : FnOk l.prog w K mg base CX0 1 qrd _ ["self"] (spRd cB) := ok_rdy Grd T BB
  have Wsd : Meth K cB "stand" qsd := ⟨qasd, (fns qsd (by simp)).1, (fns qsd (by simp)).2⟩
  have Gsd : Fun K "stand" "Bench.stand" mSt qsd _ := fun_mk qlsd qcsd (fns qsd (by simp)).2
  have Bsd : L2.Binds K _ ["self", "edit", "rule"] [] := Gsd.binds fun _ _ _ _ _ _ us hl => match us, hl with | [_, _, _], _ => rfl
  have Ksd : FnOk l.prog w K mg base CX0 2 qsd _ ["self", "edit", "rule"] (spSt K cB) := ok_std Gsd T BB Kap Bap Wap
  have Wem : Meth K cB "edit" qem := ⟨qaem, (fns qem (by simp)).1, (fns qem (by simp)).2⟩
  have Gem : Fun K "edit" "Bench.edit" mEd qem _ := fun_mk qlem qcem (fns qem (by simp)).2
  have Bem : L2.Binds K _ ["self", "edit"] [] := Gem.binds fun _ _ _ _ _ _ us hl => match us, hl with | [_, _], _ => rfl
  have Kem : FnOk l.prog w K mg base (L2.CX l.prog w) 6 qem _ ["self", "edit"] (spEm K cB c0 cN) := ok_em Gem BB Krd Brd Wrd Ksd Bsd Wsd D60
  have Wad : Meth K cB "add" qad := ⟨qaad, (fns qad (by simp)).1, (fns qad (by simp)).2⟩
  have Gad : Fun K "add" "Bench.add" mAd qad _ := fun_mk qlad qcad (fns qad (by simp)).2
  have Bad : L2.Binds K _ ["self", "pair"] [] := Gad.binds fun _ _ _ _ _ _ us hl => match us, hl with | [_, _], _ => rfl
  have Kad : FnOk l.prog w K mg base (L2.CX l.prog w) 7 qad _ ["self", "pair"] (spE1 K cB c0 cN "add") := ok_mAd Gad BB Kem Bem Wem
  have Wdr : Meth K cB "drop" qdr := ⟨qadr, (fns qdr (by simp)).1, (fns qdr (by simp)).2⟩
  have Gdr : Fun K "drop" "Bench.drop" mDr qdr _ := fun_mk qldr qcdr (fns qdr (by simp)).2
  have Bdr : L2.Binds K _ ["self", "index"] [] := Gdr.binds fun _ _ _ _ _ _ us hl => match us, hl with | [_, _], _ => rfl
  have Kdr : FnOk l.prog w K mg base (L2.CX l.prog w) 7 qdr _ ["self", "index"] (spE1 K cB c0 cN "drop") := ok_mDr Gdr BB Kem Bem Wem
  have Wch : Meth K cB "change" qch := ⟨qach, (fns qch (by simp)).1, (fns qch (by simp)).2⟩
  have Gch : Fun K "change" "Bench.change" mCh qch _ := fun_mk qlch qcch (fns qch (by simp)).2
  have Bch : L2.Binds K _ ["self", "index", "pair"] [] := Gch.binds fun _ _ _ _ _ _ us hl => match us, hl with | [_, _, _], _ => rfl
  have Kch : FnOk l.prog w K mg base (L2.CX l.prog w) 7 qch _ ["self", "index", "pair"] (spE2 K cB c0 cN) := ok_mCh Gch BB Kem Bem Wem
  have Wun : Meth K cB "undo" qun := ⟨qaun, (fns qun (by simp)).1, (fns qun (by simp)).2⟩
  have Gun : Fun K "undo" "Bench.undo" mUn qun _ := fun_mk qlun qcun (fns qun (by simp)).2
  have Bun : L2.Binds K _ ["self"] [] := Gun.binds fun _ _ _ _ _ _ us hl => match us, hl with | [_], _ => rfl
  have Kun : FnOk l.prog w K mg base (L2.CX l.prog w) 1 qun _ ["self"] (spUn K cB cU) := ok_un Gun T BB XU
  have Wre : Meth K cB "redo" qre := ⟨qare, (fns qre (by simp)).1, (fns qre (by simp)).2⟩
  have Gre : Fun K "redo" "Bench.redo" mRe qre _ := fun_mk qlre qcre (fns qre (by simp)).2
  have Bre : L2.Binds K _ ["self"] [] := Gre.binds fun _ _ _ _ _ _ us hl => match us, hl with | [_], _ => rfl
  have Kre : FnOk l.prog w K mg base (L2.CX l.prog w) 1 qre _ ["self"] (spRe K cB cV) := ok_re Gre T BB XV
  have Wgi : Meth K cB "__getitem__" qgi := ⟨qagi, (fns qgi (by simp)).1, (fns qgi (by simp)).2⟩
  have Ggi : Fun K "__getitem__" "Bench.__getitem__" mGi qgi _ := fun_mk qlgi qcgi (fns qgi (by simp)).2
  have Bgi : L2.Binds K _ ["self", "at"] [] := Ggi.binds fun _ _ _ _ _ _ us hl => match us, hl with | [_, _], _ => rfl
  have Kgi : FnOk l.prog w K mg base (L2.CX l.prog w) 3 qgi _ ["self", "at"] (spGi K cB cN) := ok_gi Ggi BB XN D58
  have Sgi : Spm K cB "__getitem__" qgi := ⟨qagi, (fns qgi (by simp)).1⟩
  have Wsi : Meth K cB "__setitem__" qsi := ⟨qasi, (fns qsi (by simp)).1, (fns qsi (by simp)).2⟩
  have Gsi : Fun K "__setitem__" "Bench.__setitem__" mSi qsi _ := fun_mk qlsi qcsi (fns qsi (by simp)).2
  have Bsi : L2.Binds K _ ["self", "at", "worth"] [] := Gsi.binds fun _ _ _ _ _ _ us hl => match us, hl with | [_, _, _], _ => rfl
  have Ksi : FnOk l.prog w K mg base (L2.CX l.prog w) 8 qsi _ ["self", "at", "worth"] (spSi K cB c0 cN) := ok_si Gsi BB Kch Bch Wch
  have Ssi : Spm K cB "__setitem__" qsi := ⟨qasi, (fns qsi (by simp)).1⟩
  have Wia : Meth K cB "__iadd__" qia := ⟨qaia, (fns qia (by simp)).1, (fns qia (by simp)).2⟩
  have Gia : Fun K "__iadd__" "Bench.__iadd__" mIa qia _ := fun_mk qlia qcia (fns qia (by simp)).2
  have Bia : L2.Binds K _ ["self", "other"] [] := Gia.binds fun _ _ _ _ _ _ us hl => match us, hl with | [_, _], _ => rfl
  have Kia : FnOk l.prog w K mg base (L2.CX l.prog w) 8 qia _ ["self", "other"] (spIa K cB c0 cN "add") := ok_ia Gia BB Kad Bad Wad
  have Sia : Spm K cB (PySem.dunderI Operator.Add.info.2) qia := ⟨by rw [show PySem.dunderI Operator.Add.info.2 = ("__iadd__" : Str) by decide +kernel]; exact qaia, (fns qia (by simp)).1⟩
  have Wis : Meth K cB "__isub__" qis := ⟨qais, (fns qis (by simp)).1, (fns qis (by simp)).2⟩
  have Gis : Fun K "__isub__" "Bench.__isub__" mIs qis _ := fun_mk qlis qcis (fns qis (by simp)).2
  have Bis : L2.Binds K _ ["self", "other"] [] := Gis.binds fun _ _ _ _ _ _ us hl => match us, hl with | [_, _], _ => rfl
  have Kis : FnOk l.prog w K mg base (L2.CX l.prog w) 8 qis _ ["self", "other"] (spIa K cB c0 cN "drop") := ok_is Gis BB Kdr Bdr Wdr
  have Sis : Spm K cB (PySem.dunderI Operator.Sub.info.2) qis := ⟨by rw [show PySem.dunderI Operator.Sub.info.2 = ("__isub__" : Str) by decide +kernel]; exact qais, (fns qis (by simp)).1⟩
  have Wes : Meth K cB "edits" qes := ⟨qaes, (fns qes (by simp)).1, (fns qes (by simp)).2⟩
  have Ges : Fun K "edits" "Bench.edits" mEds qes _ := fun_mk qles qces (fns qes (by simp)).2
  have Bes : L2.Binds K _ ["self"] [] := Ges.binds fun _ _ _ _ _ _ us hl => match us, hl with | [_], _ => rfl
  have Kes : FnOk l.prog w K mg base CX0 1 qes _ ["self"] (spEds K cB) := ok_eds Ges BB
  have Wst : Meth K cB "state" qst := ⟨qast, (fns qst (by simp)).1, (fns qst (by simp)).2⟩
  have Gst : FunD K "state" "Bench.state" (defArgs mSta) (defBody mSta) (defScope mSta) [] [("version", .non)] qst _ := ⟨⟨_, _, _, _, _, _, _, _, _, _, rfl, qlst, qcst, .inl ⟨rfl, rfl⟩, .inr ⟨Dst, rfl, fun q hq => by rw [List.mem_singleton.mp hq]; exact ⟨.none, qdst, rfl⟩⟩⟩, (fns qst (by simp)).2⟩
  obtain ⟨dsst, rdst, Bst⟩ := Gst.binds0 (ps := ["self", "version"]) 1 (by simp) rfl (fun _ _ _ _ _ _ us ks hl hk => match us, hl, ks, hk with | [_], _, [_], _ => ⟨_, _, _, _, _, _, rfl, rfl, rfl⟩)
  have Kst : FnOk l.prog w K mg base CX0 1 qst _ ["self", "version"] (spSta K cB) := ok_sta Gst BB
  have Gbi : FunD K "__init__" "Bench.__init__" (defArgs mBi) (defBody mBi) (defScope mBi) [V.ref Ebi] [] qbi _ := ⟨⟨_, _, _, _, _, _, _, _, _, _, rfl, qlbi, qcbi, .inr ⟨by simp, Tbi, _, [.ref Ebi], tnbi, rfl, qtbi, rfl, .cons rfl .nil⟩, .inl rfl⟩, (fns qbi (by simp)).2⟩
  obtain ⟨dsb, rdb, Bb0⟩ := Gbi.binds1 (ps := ["self", "kind", "signs", "rule"]) 4 1 (by simp) rfl (fun _ _ _ _ _ _ _ us its hl hi => match us, hl, its, hi with | [_, _, _, _], _, [_], _ => ⟨_, rfl, rfl⟩)
  obtain rfl : dsb = [] := by cases rdb; rfl
  have Bbi : L2.Binds K _ ["self", "kind", "signs", "rule"] [] := Bb0
  have Kbi : FnOk l.prog w K mg base CX0 6 qbi _ ["self", "kind", "signs", "rule"] (spBi K cB) := ok_bi Gbi BB D42
  have B64 : L2.Binds K d64 ["_law_script"] [] := F64.fn.binds fun _ _ _ _ _ _ us hl => match us, hl with | [_], _ => rfl
  have D64 : Dfn l.prog w K mg base "_law_deck" 1 f64 d64 ["_law_script"] (spDeck K) := ⟨ok_deck F64.fn C, B64, PySem.W.mg_of X G F64.ns, F64.fn.kp⟩
  have B65 : L2.Binds K d65 ["_law_deck_here", "_law_many"] [] := F65.fn.binds fun _ _ _ _ _ _ us hl => match us, hl with | [_, _], _ => rfl
  have D65 : Dfn l.prog w K mg base "_law_draw" 1 f65 d65 ["_law_deck_here", "_law_many"] spDraw := ⟨ok_draw F65.fn C, B65, PySem.W.mg_of X G F65.ns, F65.fn.kp⟩
  have B66 : L2.Binds K d66 ["_law_deck_here", "_law_items"] [] := F66.fn.binds fun _ _ _ _ _ _ us hl => match us, hl with | [_, _], _ => rfl
  have D66 : Dfn l.prog w K mg base "_law_one" 2 f66 d66 ["_law_deck_here", "_law_items"] spOne := ⟨ok_one F66.fn C D65, B66, PySem.W.mg_of X G F66.ns, F66.fn.kp⟩
  have D66s : Dfn l.prog w K mg base "_law_one" 2 f66 d66 ["_law_deck_here", "_law_items"] spOneT := ⟨ok_oneT F66.fn T D65, B66, PySem.W.mg_of X G F66.ns, F66.fn.kp⟩
  have B67 : L2.Binds K d67 ["_law_deck_here", "_law_letters", "_law_most"] [] := F67.fn.binds fun _ _ _ _ _ _ us hl => match us, hl with | [_, _, _], _ => rfl
  have D67 : Dfn l.prog w K mg base "_law_kind" 2 f67 d67 ["_law_deck_here", "_law_letters", "_law_most"] spKind := ⟨ok_kind F67.fn T D65, B67, PySem.W.mg_of X G F67.ns, F67.fn.kp⟩
  have B68 : L2.Binds K d68 ["_law_deck_here", "_law_letters"] [] := F68.fn.binds fun _ _ _ _ _ _ us hl => match us, hl with | [_, _], _ => rfl
  have D68 : Dfn l.prog w K mg base "_law_signs" 3 f68 d68 ["_law_deck_here", "_law_letters"] spSgn := ⟨ok_signs F68.fn T D66s, B68, PySem.W.mg_of X G F68.ns, F68.fn.kp⟩
  have B69 : L2.Binds K d69 ["_law_deck_here", "_law_letters", "_law_size"] [] := F69.fn.binds fun _ _ _ _ _ _ us hl => match us, hl with | [_, _, _], _ => rfl
  have D69 : Dfn l.prog w K mg base "_law_piece" 3 f69 d69 ["_law_deck_here", "_law_letters", "_law_size"] spPc := ⟨ok_pc F69.fn T D66s, B69, PySem.W.mg_of X G F69.ns, F69.fn.kp⟩
  have B70 : L2.Binds K d70 ["_law_deck_here", "_law_letters", "_law_most"] [] := F70.fn.binds fun _ _ _ _ _ _ us hl => match us, hl with | [_, _, _], _ => rfl
  have D70 : Dfn l.prog w K mg base "_law_rule" 4 f70 d70 ["_law_deck_here", "_law_letters", "_law_most"] spRl := ⟨ok_rule F70.fn T D65 D66 D69, B70, PySem.W.mg_of X G F70.ns, F70.fn.kp⟩
  have B71 : L2.Binds K d71 ["_law_deck_here", "_law_most"] [] := F71.fn.binds fun _ _ _ _ _ _ us hl => match us, hl with | [_, _], _ => rfl
  have D71 : Dfn l.prog w K mg base "_law_scheme" 5 f71 d71 ["_law_deck_here", "_law_most"] spScheme := ⟨ok_scheme F71.fn D65 D67 D68 D70, B71, PySem.W.mg_of X G F71.ns, F71.fn.kp⟩
  have B72 : L2.Binds K d72 ["_law_letters", "_law_value", "_law_taken"] [] := F72.fn.binds fun _ _ _ _ _ _ us hl => match us, hl with | [_, _, _], _ => rfl
  have D72 : Dfn l.prog w K mg base "_law_is_pair" 1 f72 d72 ["_law_letters", "_law_value", "_law_taken"] (spLPair K) := ⟨ok_lpair F72.fn T, B72, PySem.W.mg_of X G F72.ns, F72.fn.kp⟩
  have B73 : L2.Binds K d73 ["_law_letters", "_law_value"] [] := F73.fn.binds fun _ _ _ _ _ _ us hl => match us, hl with | [_, _], _ => rfl
  have D73 : Dfn l.prog w K mg base "_law_rule_error" 2 f73 d73 ["_law_letters", "_law_value"] (spRErr K) := ⟨ok_lrerr F73.fn T D72, B73, PySem.W.mg_of X G F73.ns, F73.fn.kp⟩
  have B74 : L2.Binds K d74 ["_law_value", "_law_least", "_law_most"] [] := F74.fn.binds fun _ _ _ _ _ _ us hl => match us, hl with | [_, _, _], _ => rfl
  have D74 : Dfn l.prog w K mg base "_law_is_number" 1 f74 d74 ["_law_value", "_law_least", "_law_most"] (spNumber K) := ⟨ok_lnm F74.fn T, B74, PySem.W.mg_of X G F74.ns, F74.fn.kp⟩
  have B75 : L2.Binds K d75 ["_law_letters", "_law_rule_here", "_law_edit_here"] [] := F75.fn.binds fun _ _ _ _ _ _ us hl => match us, hl with | [_, _, _], _ => rfl
  have D75 : Dfn l.prog w K mg base "_law_due" 3 f75 d75 ["_law_letters", "_law_rule_here", "_law_edit_here"] (spDue K) := ⟨ok_due F75.fn T D74 D73, B75, PySem.W.mg_of X G F75.ns, F75.fn.kp⟩
  have B76 : L2.Binds K d76 ["_law_deck_here", "_law_letters"] [] := F76.fn.binds fun _ _ _ _ _ _ us hl => match us, hl with | [_, _], _ => rfl
  have D76 : Dfn l.prog w K mg base "_law_some" 4 f76 d76 ["_law_deck_here", "_law_letters"] (spSome K) := ⟨ok_some F76.fn D65 D66 D69, B76, PySem.W.mg_of X G F76.ns, F76.fn.kp⟩
  have B77 : L2.Binds K d77 ["_law_deck_here", "_law_many"] [] := F77.fn.binds fun _ _ _ _ _ _ us hl => match us, hl with | [_, _], _ => rfl
  have D77 : Dfn l.prog w K mg base "_law_index" 3 f77 d77 ["_law_deck_here", "_law_many"] (spInd K) := ⟨ok_ind F77.fn D65 D66, B77, PySem.W.mg_of X G F77.ns, F77.fn.kp⟩
  have B78 : L2.Binds K d78 ["_law_deck_here", "_law_letters", "_law_rule_here"] [] := F78.fn.binds fun _ _ _ _ _ _ us hl => match us, hl with | [_, _, _], _ => rfl
  have D78 : Dfn l.prog w K mg base "_law_edit" 5 f78 d78 ["_law_deck_here", "_law_letters", "_law_rule_here"] (spLed K) := ⟨ok_led F78.fn T D66 D76 D77, B78, PySem.W.mg_of X G F78.ns, F78.fn.kp⟩
  have B79 : L2.Binds K d79 ["_law_bench", "_law_word"] [] := F79.fn.binds fun _ _ _ _ _ _ us hl => match us, hl with | [_, _], _ => rfl
  have D79 : Dfn l.prog w K mg base "_law_back" 2 f79 d79 ["_law_bench", "_law_word"] (spBack K cB) := ⟨ok_back F79.fn BB XU XV CU Wun Kun Bun Wre Kre Bre, B79, PySem.W.mg_of X G F79.ns, F79.fn.kp⟩
  have B80 : L2.Binds K d80 ["_law_bench", "_law_edit_here"] [] := F80.fn.binds fun _ _ _ _ _ _ us hl => match us, hl with | [_, _], _ => rfl
  have D80 : Dfn l.prog w K mg base "_law_by_item" 9 f80 d80 ["_law_bench", "_law_edit_here"] (spBy K cB) := ⟨ok_by F80.fn T BB X0 XN CA Sia Kia Bia Sis Kis Bis sf nq Ssi Ksi Bsi Wun Kun Bun Wre Kre Bre ⟨qaln, beq_iff_eq.mp (fns qln (by simp)).1⟩ Kln Bln, B80, PySem.W.mg_of X G F80.ns, F80.fn.kp⟩
  have B81 : L2.Binds K d81 ["_law_bench", "_law_index_here"] [] := F81.fn.binds fun _ _ _ _ _ _ us hl => match us, hl with | [_, _], _ => rfl
  have D81 : Dfn l.prog w K mg base "_law_got" 5 f81 d81 ["_law_bench", "_law_index_here"] (spGot K cB) := ⟨ok_got F81.fn XN CA Sgi fgi Kgi Bgi, B81, PySem.W.mg_of X G F81.ns, F81.fn.kp⟩
  have B82 : L2.Binds K d82 ["_law_steps", "_law_undone", "_law_way"] [] := F82.fn.binds fun _ _ _ _ _ _ us hl => match us, hl with | [_, _, _], _ => rfl
  have D82 : Dfn l.prog w K mg base "_law_backed" 1 f82 d82 ["_law_steps", "_law_undone", "_law_way"] spBackd := ⟨ok_backd F82.fn T, B82, PySem.W.mg_of X G F82.ns, F82.fn.kp⟩
  exact ok_law F83.fn T BB D64 D65 D71 ⟨mks, qabi, (fns qbi (by simp)).1, kcB⟩ Kbi Bbi D78 D77 D74 D81 D75 D80 D82 D79 Wst Kst Bst rdst Wes Kes Bes
end K08
open PySem PySem.W PyProof.Rows
/-! The greatest states of the top get no twin: these names are taken, so that the compiled file stays below its limit. -/
theorem PySem.W.Fast.tw9084519778698256833 : True := True.intro
theorem PySem.W.Fast.tw15610395899497283275 : True := True.intro
theorem PySem.W.Fast.tw7471901252995299132 : True := True.intro
set_option maxRecDepth 100000 in
set_option maxHeartbeats 0 in
theorem PySem.Challenge.cw_pairedaway_k08_items_and_operators_of_be_holds : PySem.Challenge.rw_pairedaway_k08_items_and_operators_of_be.Holds := by
  w_on; o_law; k_head; (case hw => w_witness2)
  k_fill
  refine GL.walk_g (l := PySem.Challenge.rw_pairedaway_k08_items_and_operators_of_be) (n := 63) (k := 10) (x := "_law_script") (sp := K08.spLaw) rfl (by decide) rfl ⟨rfl, by decide, by decide⟩ (fun w h Y => PySem.W.kIn_of Y) ?F (fun K H a ns hl _ hS => ⟨a, ns, rfl, hS, hl, fun _ => rfl⟩)
  case F =>
    intro w mg fa h KX G hmg
    refine' K08.all_mk KX G hmg ?C0 ?iC0 ?xL0 ?ib0 ?l0 ?cd0 ?CN ?iCN ?xLN ?ibN ?lN ?cdN ?cat ?CB ?qaln ?qlln ?qcln ?qaap ?qlap ?qcap ?qard ?qlrd ?qcrd ?qasd ?qlsd ?qcsd ?qaem ?qlem ?qcem ?qaad ?qlad ?qcad ?qadr ?qldr ?qcdr ?qach ?qlch ?qcch ?qaun ?qlun ?qcun ?qare ?qlre ?qcre ?qagi ?qlgi ?qcgi ?qasi ?qlsi ?qcsi ?qaia ?qlia ?qcia ?qais ?qlis ?qcis ?qaes ?qles ?qces ?qabi ?qlbi ?qcbi ?qtbi ?qast ?qlst ?qcst ?qdst ?CU ?CV ?ex0 ?fgi ?sqb ?bq (KC.df ?a22 ?n22 ?e22 ?k22) (KC.df ?a23 ?n23 ?e23 ?k23) (KC.df ?a24 ?n24 ?e24 ?k24) (KC.df ?a25 ?n25 ?e25 ?k25) (KC.df ?a26 ?n26 ?e26 ?k26) (KC.df ?a36 ?n36 ?e36 ?k36) (KC.df ?a37 ?n37 ?e37 ?k37) (KC.df ?a38 ?n38 ?e38 ?k38) (KC.df ?a41 ?n41 ?e41 ?k41) (KC.df ?a42 ?n42 ?e42 ?k42) (KC.df ?a58 ?n58 ?e58 ?k58) (KC.df ?a59 ?n59 ?e59 ?k59) (KC.df ?a60 ?n60 ?e60 ?k60) (KC.df ?a64 ?n64 ?e64 ?k64) (KC.df ?a65 ?n65 ?e65 ?k65) (KC.df ?a66 ?n66 ?e66 ?k66) (KC.df ?a67 ?n67 ?e67 ?k67) (KC.df ?a68 ?n68 ?e68 ?k68) (KC.df ?a69 ?n69 ?e69 ?k69) (KC.df ?a70 ?n70 ?e70 ?k70) (KC.df ?a71 ?n71 ?e71 ?k71) (KC.df ?a72 ?n72 ?e72 ?k72) (KC.df ?a73 ?n73 ?e73 ?k73) (KC.df ?a74 ?n74 ?e74 ?k74) (KC.df ?a75 ?n75 ?e75 ?k75) (KC.df ?a76 ?n76 ?e76 ?k76) (KC.df ?a77 ?n77 ?e77 ?k77) (KC.df ?a78 ?n78 ?e78 ?k78) (KC.df ?a79 ?n79 ?e79 ?k79) (KC.df ?a80 ?n80 ?e80 ?k80) (KC.df ?a81 ?n81 ?e81 ?k81) (KC.df ?a82 ?n82 ?e82 ?k82) (KC.df ?a83 ?n83 ?e83 ?k83) ?z0 ?z1 ?z2 ?z3 ?z4 ?z5 ?z6 ?z7 ?z8 ?z9 ?z10 ?z11 ?m0 ?m1 ?m2 ?m3 ?m4 ?m5 ?m6
    (case C0 => k_is); (case iC0 => k_is); (case xL0 => k_is); (case ib0 => kernel_rfl); (case l0 => k_is); (case cd0 => k_is)
    (case CN => k_is)
    (case iCN => k_is)
    (case xLN => k_is)
    (case ibN => kernel_rfl)
    (case lN => k_is)
    (case cdN => k_is)
    (case cat => kernel_rfl)
    (case CB => k_is)
    (case qaln => k_is)
    (case qlln => k_is)
    (case qcln => k_is)
    (case qaap => k_is)
    (case qlap => k_is)
    (case qcap => k_is)
    (case qard => k_is)
    (case qlrd => k_is)
    (case qcrd => k_is)
    (case qasd => k_is)
    (case qlsd => k_is)
    (case qcsd => k_is)
    (case qaem => k_is)
    (case qlem => k_is)
    (case qcem => k_is)
    (case qaad => k_is)
    (case qlad => k_is)
    (case qcad => k_is)
    (case qadr => k_is)
    (case qldr => k_is)
    (case qcdr => k_is)
    (case qach => k_is)
    (case qlch => k_is)
    (case qcch => k_is)
    (case qaun => k_is)
    (case qlun => k_is)
    (case qcun => k_is)
    (case qare => k_is)
    (case qlre => k_is)
    (case qcre => k_is)
    (case qagi => k_is)
    (case qlgi => k_is)
    (case qcgi => k_is)
    (case qasi => k_is)
    (case qlsi => k_is)
    (case qcsi => k_is)
    (case qaia => k_is)
    (case qlia => k_is)
    (case qcia => k_is)
    (case qais => k_is)
    (case qlis => k_is)
    (case qcis => k_is)
    (case qaes => k_is)
    (case qles => k_is)
    (case qces => k_is)
    (case qabi => k_is)
    (case qlbi => k_is)
    (case qcbi => k_is)
    (case qtbi => k_is)
    (case qast => k_is)
    (case qlst => k_is)
    (case qcst => k_is)
    (case qdst => k_is)
    (case CU => k_is)
    (case CV => k_is)
    (case ex0 => kernel_rfl)
    (case fgi => kernel_rfl)
    (case sqb => kernel_rfl)
    (case bq => kernel_rfl)
    (case a22 => k_is); (case n22 => k_is); (case e22 => k_is); (case k22 => k_is)
    (case a23 => k_is); (case n23 => k_is); (case e23 => k_is); (case k23 => k_is)
    (case a24 => k_is); (case n24 => k_is); (case e24 => k_is); (case k24 => k_is)
    (case a25 => k_is); (case n25 => k_is); (case e25 => k_is); (case k25 => k_is)
    (case a26 => k_is); (case n26 => k_is); (case e26 => k_is); (case k26 => k_is)
    (case a36 => k_is); (case n36 => k_is); (case e36 => k_is); (case k36 => k_is)
    (case a37 => k_is); (case n37 => k_is); (case e37 => k_is); (case k37 => k_is)
    (case a38 => k_is); (case n38 => k_is); (case e38 => k_is); (case k38 => k_is)
    (case a41 => k_is); (case n41 => k_is); (case e41 => k_is); (case k41 => k_is)
    (case a42 => k_is); (case n42 => k_is); (case e42 => k_is); (case k42 => k_is)
    (case a58 => k_is); (case n58 => k_is); (case e58 => k_is); (case k58 => k_is)
    (case a59 => k_is); (case n59 => k_is); (case e59 => k_is); (case k59 => k_is)
    (case a60 => k_is); (case n60 => k_is); (case e60 => k_is); (case k60 => k_is)
    (case a64 => k_is); (case n64 => k_is); (case e64 => k_is); (case k64 => k_is)
    (case a65 => k_is); (case n65 => k_is); (case e65 => k_is); (case k65 => k_is)
    (case a66 => k_is); (case n66 => k_is); (case e66 => k_is); (case k66 => k_is)
    (case a67 => k_is); (case n67 => k_is); (case e67 => k_is); (case k67 => k_is)
    (case a68 => k_is); (case n68 => k_is); (case e68 => k_is); (case k68 => k_is)
    (case a69 => k_is); (case n69 => k_is); (case e69 => k_is); (case k69 => k_is)
    (case a70 => k_is); (case n70 => k_is); (case e70 => k_is); (case k70 => k_is)
    (case a71 => k_is); (case n71 => k_is); (case e71 => k_is); (case k71 => k_is)
    (case a72 => k_is); (case n72 => k_is); (case e72 => k_is); (case k72 => k_is)
    (case a73 => k_is); (case n73 => k_is); (case e73 => k_is); (case k73 => k_is)
    (case a74 => k_is); (case n74 => k_is); (case e74 => k_is); (case k74 => k_is)
    (case a75 => k_is); (case n75 => k_is); (case e75 => k_is); (case k75 => k_is)
    (case a76 => k_is); (case n76 => k_is); (case e76 => k_is); (case k76 => k_is)
    (case a77 => k_is); (case n77 => k_is); (case e77 => k_is); (case k77 => k_is)
    (case a78 => k_is); (case n78 => k_is); (case e78 => k_is); (case k78 => k_is)
    (case a79 => k_is); (case n79 => k_is); (case e79 => k_is); (case k79 => k_is)
    (case a80 => k_is); (case n80 => k_is); (case e80 => k_is); (case k80 => k_is)
    (case a81 => k_is); (case n81 => k_is); (case e81 => k_is); (case k81 => k_is)
    (case a82 => k_is); (case n82 => k_is); (case e82 => k_is); (case k82 => k_is)
    (case a83 => k_is); (case n83 => k_is); (case e83 => k_is); (case k83 => k_is)
    (case z0 => k_is)
    (case z1 => k_is)
    (case z2 => k_is)
    (case z3 => k_is)
    (case z4 => k_is)
    (case z5 => k_is)
    (case z6 => k_is)
    (case z7 => k_is)
    (case z8 => k_is)
    (case z9 => k_is)
    (case z10 => k_is)
    (case z11 => k_is)
    (case m0 => k_is)
    (case m1 => k_is)
    (case m2 => k_is)
    (case m3 => k_is)
    (case m4 => k_is)
    (case m5 => k_is)
    (case m6 => k_is)
