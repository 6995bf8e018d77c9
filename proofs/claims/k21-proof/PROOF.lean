import PyProof.Rows.All
import Wide.All
import OpenK.AllK
import Wide.FinOn
import HandS.ForMost
import HandS.IsInst
import HandS.TupAny
import HandS.TupMul
import HandS.Conv
import PyProof.NeKinds
import PyProof.ReprLen
import KE.KRevSl
import PySem.Challenge.RW_pairedaway_k21_machines_with_errors
set_option Elab.async false
set_option maxRecDepth 100000
set_option maxHeartbeats 4000000
/-! Own layer for laws that call repr: promises of defs that run where no repr is under way, data with empty dicts, repr's rule. -/
namespace GL
open PySem PySem.Spec PyProof.Rows L2

/-- a def's promise, claimed only where no guard of repr stands around -/
structure Fg (P : Program) (w : World) (K : PySem.W.Frag) (mg : Str → Option Value) (base : Heap) (CX : CXT) (k : Nat) (f : Addr) (fd : FuncData) (ps : List Str) (sp : Sp) : Prop where
  ln : ∀ vs H Q E, sp vs H Q E → vs.length = ps.length
  go : ∀ (A : Around) (outer : List Env) (s : Shared) (H : Hp) (args : Args) (us : List Value) (vs : List V) (Q : VK) (E : XK), A.guards = some [] → Room k A → Env0 P w K mg base A outer s H →
    BindsTo s fd args (ps.zip us) → Vals vs us → sp vs H Q E → codeAny (model P w) A (.call (.ref f) args) (CR CX outer P w H s Q E) s

theorem Fg.of {P : Program} {w : World} {K : PySem.W.Frag} {mg : Str → Option Value} {base : Heap} {CX : CXT} {k : Nat} {f : Addr} {fd : FuncData} {ps : List Str} {sp : Sp} (F : FnOk P w K mg base CX k f fd ps sp) : Fg P w K mg base CX k f fd ps sp :=
  ⟨F.len, fun A outer s H args us vs Q E _ => F.run A outer s H args us vs Q E⟩

theorem guards_deeper {A : Around} {env : Env} (h : A.guards = some []) : (A.deeper env).guards = some [] := by
  simp [Around.deeper, h]

section
variable {P : Program} {w : World} {K : PySem.W.Frag} {mg : Str → Option Value} {base : Heap}
/-- the rule for such a def: as for any other, with the fact about guards at hand -/
theorem ok_g {x qual : Str} {st : Stmt} {f : Addr} {fd : FuncData} {N ps : List Str} {k : Nat} {sp : Sp} (F : Fun K x qual st f fd) (S : FnScope N ps (defScope st)) (ln : ∀ vs H Q E, sp vs H Q E → vs.length = ps.length)
    (bd : ∀ (cdv : Value) (A : Around) (outer : List Env) (s : Shared) (H : Hp) (vs : List V) (Q : VK) (E : XK), (A.deeper (envOfC qual (defScope st) s.heap.objs.size f cdv)).guards = some [] → Room k (A.deeper (envOfC qual (defScope st) s.heap.objs.size f cdv)) → sp vs H Q E →
      ∃ t, PSs (cxOf CX0 P w K mg base N qual (defScope st) f cdv A outer s H E).nox (defBody st) t ∧ t { nx := fun _ H' => Q .non H', rt := Q } (start N vs) H) : Fg P w K mg base CX0 (k + 1) f fd ps sp := by
  obtain ⟨oc, od, kV, doc, pm, an, cdv, ct, osl, rfl, lk, hcd⟩ := F.ex
  refine ⟨ln, fun A outer s H args us vs Q E hg hr e0 hb r hsp => ?_⟩
  have lv := ln _ _ _ _ hsp
  have KI : K.In s.heap := e0.mod.kin.keeps fun b o q => (e0.bs b o q).1
  have NL : s.heap.NoLimit := e0.mod.nolimit.keeps fun b o q => (e0.bs b o q).1
  have kinds : ∀ y ∈ ps.zip us, (defScope st).names.lookup y.1 = some .local ∨ ((defScope st).names.lookup y.1 = some .cell ∧ ((cellsFrom (s.heap.objs.size + 1) (defScope st).names []).lookup y.1).isSome = true) := by
    rintro ⟨n, v⟩ hy
    cases S.par n (List.of_mem_zip hy).1 with
    | inl q => exact .inl q
    | inr q => exact .inr ⟨q, PySem.W.cellsFrom_some _ _ _ (.inl q)⟩
  refine codeAny_call_function hr.depth (KI _ _ lk) rfl S.co S.gen rfl (PySem.W.codeRec_of KI hcd) (hb _ _ _ _ (wpAny_newFunctionEnv_cells S.kind kinds fun env he s1 x => ?_))
  cases he
  obtain ⟨t, ht, hq⟩ := bd cdv A outer s H vs Q E (guards_deeper hg) (hr.deeper _) hsp
  refine ⟨NL.keeps x.toInCall.keep, codeAny_func (wpAny_mono (ht.nox.run [] s1 (start N vs) H _ (inv_start S hr.hd e0 lv r x) hq) (fun fl s' hs => ?_) fun e s' hs => hs)⟩
  have fin : ∀ {τ : L2.St} {G : Hp} {v : V} {u : Value}, Inv (cxOf CX0 P w K mg base N qual (defScope st) f cdv A outer s H E) [] τ G s' → RelV v u → Q v G → CE outer P w H s Q u s' :=
    fun {τ G v u} J rv q => ⟨v, G, J.os, J.bare, J.base, J.hok, rv, q⟩
  match fl, hs with
  | .ret u, ⟨v, τ, G, J, rv, q⟩ => exact fin J rv q
  | .next, ⟨τ, G, J, q⟩ => exact fin (v := V.non) (u := Value.none) J rfl q
  | .brk, ⟨_, _, _, q⟩ => exact q.elim
  | .cont, ⟨_, _, _, q⟩ => exact q.elim
end

section
variable {X : Cx} {CX : CXT} {k : Nat} {f : Addr} {fd : FuncData} {ps : List Str} {sp : Sp} {E : XK} {x : Str} {p pos : Pos} {e : Expr} {es : List Expr} {t : TA}
/-- f(e, ..) of such a def, without defaults -/
theorem pe_callg (hg : X.A.guards = some []) (F : Fg X.prog X.w X.K X.mg X.base CX k f fd ps sp) (hr : Room k X.A) (gl : Gl X x) (hm : X.mg x = some (.ref f)) (kp : PySem.W.keepIn X.K (.ref f) = true) (hb : Binds X.K fd ps []) (hx : Passes CX X E)
    (ha : PA X (e :: es) t) (hdb : (x == ("__debug__" : Str)) = false := by decide) (se : starEach (e :: es) X.env = (false, eval e X.env) :: starEach es X.env := by rfl) (pl : (backTo pos (starEach es X.env)).any (·.1) = false := by rfl) :
    PE X (.Call (.Name x p) (e :: es) [] pos) (tCall sp [] E t) := by
  refine ⟨fun pins s σ H Q I h => wpAny_Call_Name_kw (ld_glob I gl hm ?_ hdb)⟩
  refine PySem.W.callWith_K (h₀ := X.base) I.ok.mod.kin kp (thn (ha.run pos pins s σ H _ I h) fun us s1 ⟨vs, G, J, r, q⟩ => ⟨J.kIn, ?_⟩) se pl
  replace q : sp vs G Q E := by simpa using q
  have ll : (us ++ ([] : List Value)).length = ps.length := by rw [List.append_nil, ← r.length]; exact F.ln _ _ _ _ q
  have bb := hb s1 us J.kIn ll
  rw [List.append_nil] at bb
  refine wpAny_call (codeAny_mono (F.go X.A X.stack s1 G ⟨us, []⟩ us vs Q E hg hr J.env0 bb r q) fun res s' hq => ?_)
  match res, hq with
  | .error e, hq => exact hx pins σ G s1 e s' J hq
  | .ok (.ret u), hq => exact J.after hq
  | .ok .next, hq => exact hq.elim
  | .ok .brk, hq => exact hq.elim
  | .ok .cont, hq => exact hq.elim
end

/-! ### data, empty dicts among them -/
mutual
inductive Dt (K : PySem.W.Frag) (H : Hp) : V → PyData → Prop
  | non : Dt K H .non .none
  | bl (b : Bool) : Dt K H (.bl b) (.bool b)
  | int (i : Int) : Dt K H (.int i) (.int i)
  | str (x : Str) : Dt K H (.str x) (.str x)
  | lst {a : Addr} {vs : List V} {ds : List PyData} : H a = some (.lst vs) → DtAll K H vs ds → Dt K H (.ref a) (.list ds)
  | tup {a : Addr} {vs : List V} {ds : List PyData} : H a = some (.tup vs) → DtAll K H vs ds → Dt K H (.ref a) (.tuple ds)
  | dic {a : Addr} : H a = some (.dK []) → Dt K H (.ref a) (.dict [])
inductive DtAll (K : PySem.W.Frag) (H : Hp) : List V → List PyData → Prop
  | nil : DtAll K H [] []
  | cons {v : V} {vs : List V} {d : PyData} {ds : List PyData} : Dt K H v d → DtAll K H vs ds → DtAll K H (v :: vs) (d :: ds)
end
section
variable {K : PySem.W.Frag} {H H' : Hp}
mutual
theorem Dt.same (e : Same H H') : ∀ {d : PyData} {v : V}, Dt K H v d → Dt K H' v d
  | _, _, .non => .non
  | _, _, .bl b => .bl b
  | _, _, .int i => .int i
  | _, _, .str x => .str x
  | _, _, .lst h a => .lst (e _ _ h) (DtAll.same e a)
  | _, _, .tup h a => .tup (e _ _ h) (DtAll.same e a)
  | _, _, .dic h => .dic (e _ _ h)
theorem DtAll.same (e : Same H H') : ∀ {ds : List PyData} {vs : List V}, DtAll K H vs ds → DtAll K H' vs ds
  | _, _, .nil => .nil
  | _, _, .cons h a => .cons (Dt.same e h) (DtAll.same e a)
end
theorem DtAll.length {ds : List PyData} : ∀ {vs : List V}, DtAll K H vs ds → vs.length = ds.length := by
  induction ds with
  | nil => intro vs h; cases h; rfl
  | cons d ds ih => intro vs h; cases h with | cons h1 h2 => simp [ih h2]
theorem DtAll.append : ∀ {ds es : List PyData} {vs us : List V}, DtAll K H vs ds → DtAll K H us es → DtAll K H (vs ++ us) (ds ++ es)
  | _, _, _, _, .nil, h => h
  | _, _, _, _, .cons a b, h => .cons a (DtAll.append b h)
theorem DtAll.take : ∀ {ds : List PyData} {vs : List V} (n : Nat), DtAll K H vs ds → DtAll K H (vs.take n) (ds.take n)
  | _, _, 0, _ => .nil
  | _, _, _ + 1, .nil => .nil
  | _, _, n + 1, .cons a b => .cons a (DtAll.take n b)
theorem DtAll.drop : ∀ {ds : List PyData} {vs : List V} (n : Nat), DtAll K H vs ds → DtAll K H (vs.drop n) (ds.drop n)
  | _, _, 0, h => h
  | _, _, _ + 1, .nil => .nil
  | _, _, n + 1, .cons _ b => DtAll.drop n b
theorem DtAll.get : ∀ {ds : List PyData} {vs : List V} {i : Nat} {v : V}, DtAll K H vs ds → vs[i]? = some v → ∃ d, ds[i]? = some d ∧ Dt K H v d
  | _, _, i, _, .nil, h => by simp at h
  | _, _, 0, _, .cons a _, h => by simp at h; subst h; exact ⟨_, rfl, a⟩
  | _, _, i + 1, v, .cons _ b, h => by
    obtain ⟨d, h1, h2⟩ := DtAll.get (i := i) (v := v) b (by simpa using h)
    exact ⟨d, by simpa using h1, h2⟩
end

section
variable {X : Cx} {pins : List (Addr × Obj)} {σ : L2.St} {H : Hp} {s : Shared}
/-- what repr's rules of the library ask of a value -/
structure Shows (prog : Program) (w : World) (h : Heap) (u : Value) (d : PyData) : Prop where
  ex : ∃ as bs, Reads h u d as ∧ ReadAtMost h d.depth bs ∧ ReprK prog w bs h d.depth u d.shown
structure ShowsAll (prog : Program) (w : World) (h : Heap) (us : List Value) (ds : List PyData) : Prop where
  ex : ∃ as bs, ReadsAll h us ds as ∧ ReadAtMost h (PyData.depthAll ds) bs ∧ ReprAllK prog w bs h (PyData.depthAll ds) us (PyData.shownAll ds)
theorem dic_at (I : Inv X pins σ H s) {a : Addr} (h : H a = some (.dK [])) : (a == sysModules) = false ∧ ∃ o es ep, s.heap.get? a = some o ∧ o.cls = .type "dict" ∧ o.data = .dict es ep ∧ es.toList = [] := by
  obtain ⟨_, ne, vs, kv, o, es, ep, h1, h2, h3, _, h5, _⟩ := (show ObjOk X.prog X.w H s.heap a (.dK []) from I.hok a _ h)
  cases kv
  refine ⟨ne, o, es, ep, h1, h2.1, h3, ?_⟩
  cases q : es.toList with
  | nil => rfl
  | cons y ys => rw [q] at h5; cases h5
theorem lst_at (I : Inv X pins σ H s) {a : Addr} {vs : List V} (h : H a = some (.lst vs)) : ∃ its n, Vals vs its ∧ s.heap.get? a = some { cls := .type "list", data := .seq its.toArray n } := by
  obtain ⟨_, its, n, r, e⟩ := (show ObjOk X.prog X.w H s.heap a (.lst vs) from I.hok a _ h)
  exact ⟨its, n, r, e⟩
theorem tup_at (I : Inv X pins σ H s) {a : Addr} {vs : List V} (h : H a = some (.tup vs)) : ∃ its o n, Vals vs its ∧ s.heap.get? a = some o ∧ o.cls = .type "tuple" ∧ o.data = .seq its.toArray n := by
  obtain ⟨_, its, r, o, h1, h2, n, h3⟩ := (show ObjOk X.prog X.w H s.heap a (.tup vs) from I.hok a _ h)
  exact ⟨its, o, n, r, h1, h2, h3⟩
mutual
theorem Dt.shows (I : Inv X pins σ H s) : ∀ (d : PyData) (v : V) (u : Value), Dt X.K H v d → RelV v u → d.showable = true → d.shown.length ≤ sizeLine → Shows X.prog X.w s.heap u d
  | .none, _, _, h, r, _, _ => by
    cases h; cases r
    exact ⟨_, [], .none, (fun _ q => nomatch q), by simp only [PyData.shown]; exact .of_is ReprIs.none _ _ _⟩
  | .bool b, _, _, h, r, _, _ => by
    cases h; cases r
    exact ⟨_, [], .bool b, (fun _ q => nomatch q), by simp only [PyData.shown]; exact .of_is (ReprIs.bool b) _ _ _⟩
  | .int i, _, _, h, r, hs, _ => by
    cases h
    obtain ⟨t, rfl⟩ := r
    exact ⟨_, [], .int i t, (fun _ q => nomatch q), by simp only [PyData.shown]; exact .of_is (ReprIs.int t (by simpa [PyData.showable] using hs)) _ _ _⟩
  | .str x, _, _, h, r, _, hz => by
    cases h
    obtain ⟨t, rfl⟩ := r
    exact ⟨_, [], .str x t, (fun _ q => nomatch q), by simp only [PyData.shown]; exact .of_is (ReprIs.str x t (by simpa only [PyData.shown] using hz)) _ _ _⟩
  | .list ds, _, _, h, r, hs, hz => by
    cases h with
    | @lst a vs _ hl ha =>
      cases r
      have hz' : (listText (PyData.shownAll ds)).length ≤ sizeLine := by simpa only [PyData.shown] using hz
      obtain ⟨its, n, rv, e⟩ := lst_at I hl
      obtain ⟨as, bs, r4, rb, rk⟩ := (Dt.showsAll I ds vs its ha rv (by simpa [PyData.showable] using hs) (fun t ht => Nat.le_trans (listText_mem_le ht) hz')).ex
      have rr : Reads s.heap (.ref a) (.list ds) (a :: as) := .list e rfl rfl r4
      have nm : a ∉ bs := not_mem_of_deeper rr (by simp only [PyData.depth]; omega) rb
      refine ⟨_, a :: bs, rr, ReadAtMost.cons rr (by simp only [PyData.depth]; omega) rb, ?_⟩
      simp only [PyData.depth, PyData.shown]
      cases its with
      | nil =>
        cases r4
        simp only [PyData.shownAll, listText_nil]
        exact ReprK.listEmpty e rfl rfl
      | cons y ys => exact ReprK.list e rfl rfl nm (by simpa using rk.length_eq) (fun i z q => rk.item i z (by simpa using q))
  | .tuple ds, _, _, h, r, hs, hz => by
    cases h with
    | @tup a vs _ hl ha =>
      cases r
      have hz' : (tupleText (PyData.shownAll ds)).length ≤ sizeLine := by simpa only [PyData.shown] using hz
      obtain ⟨its, o, n, rv, e1, e2, e3⟩ := tup_at I hl
      obtain ⟨as, bs, r4, rb, rk⟩ := (Dt.showsAll I ds vs its ha rv (by simpa [PyData.showable] using hs) (fun t ht => Nat.le_trans (tupleText_mem_le ht) hz')).ex
      have rr : Reads s.heap (.ref a) (.tuple ds) as := .tuple e1 e2 e3 r4
      have nm : a ∉ bs := not_mem_of_deeper rr (by simp only [PyData.depth]; omega) rb
      refine ⟨_, a :: bs, rr, ReadAtMost.cons rr (by simp only [PyData.depth]; omega) rb, ?_⟩
      simp only [PyData.depth, PyData.shown]
      exact ReprK.tuple e1 e2 e3 nm rk
  | .dict _, _, _, h, r, _, _ => by
    cases h with
    | @dic a hd =>
      cases r
      obtain ⟨ne, o, es, ep, e1, e2, e3, e4⟩ := dic_at I hd
      have rr : Reads s.heap (.ref a) (.dict []) (a :: [] ++ []) := .dict e1 e2 e3 (by rw [e4]; exact .nil) (by rw [e4]; exact .nil)
      refine ⟨_, [a], rr, ReadAtMost.cons (n := 0) rr (Nat.zero_le _) (fun _ q => nomatch q), ?_⟩
      simp only [PyData.depth, PyData.shown, PyData.shownKv]
      exact ReprK.dict (d := 0) e1 e2 e3 ne (fun q => nomatch q) (by rw [e4]; exact .nil)
theorem Dt.showsAll (I : Inv X pins σ H s) : ∀ (ds : List PyData) (vs : List V) (us : List Value), DtAll X.K H vs ds → Vals vs us → PyData.showableAll ds = true → (∀ t ∈ PyData.shownAll ds, t.length ≤ sizeLine) → ShowsAll X.prog X.w s.heap us ds
  | [], _, _, h, r, _, _ => by
    cases h; cases r
    exact ⟨_, [], .nil, (fun _ q => nomatch q), by simp only [PyData.shownAll]; exact .nil⟩
  | d :: ds, _, _, h, r, hs, hz => by
    cases h with
    | cons h1 h2 =>
      cases r with
      | cons r1 r2 =>
        have hs' : d.showable = true ∧ PyData.showableAll ds = true := by simpa [PyData.showableAll] using hs
        obtain ⟨as, bs, a1, a2, a3⟩ := (Dt.shows I d _ _ h1 r1 hs'.1 (hz _ (by simp only [PyData.shownAll]; exact List.mem_cons_self ..))).ex
        obtain ⟨cs, es, c1, c2, c3⟩ := (Dt.showsAll I ds _ _ h2 r2 hs'.2 (fun t ht => hz t (by simp only [PyData.shownAll]; exact List.mem_cons_of_mem _ ht))).ex
        refine ⟨_, bs ++ es, .cons a1 c1, ?_, ?_⟩
        · simp only [PyData.depthAll]
          exact (a2.mono (Nat.le_max_left _ _)).append (c2.mono (Nat.le_max_right _ _))
        · simp only [PyData.depthAll, PyData.shownAll]
          exact .cons ((a3.more fun b hb => List.mem_append_left _ hb).level_le (Nat.le_max_left _ _)) (c3.more_le (fun b hb => List.mem_append_right _ hb) (Nat.le_max_right _ _))
end
end

/-- repr of data -/
def rReprD (K : PySem.W.Frag) : List V → Hp → VK → Prop := fun xs H Q => ∃ v d, xs = [v] ∧ Dt K H v d ∧ d.showable = true ∧ d.depth ≤ 60 ∧ d.shown.length ≤ sizeLine ∧ Q (.str d.shown) H
theorem call_reprD {X : Cx} (hg : X.A.guards = some []) (hu : X.A.units + 64 < cLine) : CallR X (.builtin "repr") (rReprD X.K) := by
  intro pins s σ H xs us Q I r h
  obtain ⟨v, d, rfl, hd, hs, hdep, hz, q⟩ := h
  obtain ⟨u, rfl, ru⟩ := vals1 r
  have keep : ∀ b o, s.heap.get? b = some o → s.heap.get? b = some o := fun _ _ e => e
  have fin : ∀ (h' : Heap) (t : Tok) (tk : Nat), (∀ b o, s.heap.get? b = some o → h'.get? b = some o) → EP X pins σ Q (.str d.shown t) { s with heap := h', toks := tk } :=
    fun h' t tk k => ⟨.str d.shown, H, I.kept k, ⟨t, rfl⟩, q⟩
  cases hd with
  | non => cases ru; simp only [PyData.shown] at fin; exact PySem.P.repr_of_none (fin _ _ _ keep)
  | bl b => cases ru; simp only [PyData.shown] at fin; exact PySem.P.repr_of_bool (fin _ _ _ keep)
  | int i => obtain ⟨t, rfl⟩ := ru; simp only [PyData.shown] at fin; exact PySem.P.repr_of_int (by simpa [PyData.showable] using hs) (fin _ _ _ keep)
  | str x => obtain ⟨t, rfl⟩ := ru; simp only [PyData.shown] at fin; exact PySem.P.repr_of_str (fin _ _ _ keep) (by simpa only [PyData.shown] using hz)
  | @lst a vs ds hl ha =>
    cases ru
    simp only [PyData.depth] at hdep
    simp only [PyData.shown] at fin
    have hz' : (listText (PyData.shownAll ds)).length ≤ sizeLine := by simpa only [PyData.shown] using hz
    obtain ⟨its, n, rv, e⟩ := lst_at I hl
    obtain ⟨as, bs, r4, rb, rk⟩ := (Dt.showsAll I ds vs its ha rv (by simpa [PyData.showable] using hs) (fun t ht => Nat.le_trans (listText_mem_le ht) hz')).ex
    have rr : Reads s.heap (.ref a) (.list ds) (a :: as) := .list e rfl rfl r4
    have nm : a ∉ bs := not_mem_of_deeper rr (by simp only [PyData.depth]; omega) rb
    refine call_repr_slot (T := "list") (by omega) ⟨_, e, rfl⟩ F.slot_list_repr.toG ?_
    cases its with
    | nil =>
      cases r4
      simp only [PyData.shownAll, listText_nil] at fin
      exact call_list_repr_empty ⟨_, e, rfl⟩ e rfl ⟨_, _, rfl, fin _ _ _ keep⟩
    | cons y ys =>
      exact call_list_reprK e rfl rfl nm (by simpa using rk.length_eq) (fun i z q => rk.item i z (by simpa using q)) (A := X.A.in1) hg (fun b _ => Clear.nil b) (by show X.A.units + 1 + _ < cLine; omega) keep (fun h' t tk k => ⟨_, _, rfl, fin h' t tk k⟩) hz'
  | @tup a vs ds hl ha =>
    cases ru
    simp only [PyData.depth] at hdep
    simp only [PyData.shown] at fin
    have hz' : (tupleText (PyData.shownAll ds)).length ≤ sizeLine := by simpa only [PyData.shown] using hz
    obtain ⟨its, o, n, rv, e1, e2, e3⟩ := tup_at I hl
    obtain ⟨as, bs, r4, rb, rk⟩ := (Dt.showsAll I ds vs its ha rv (by simpa [PyData.showable] using hs) (fun t ht => Nat.le_trans (tupleText_mem_le ht) hz')).ex
    have rr : Reads s.heap (.ref a) (.tuple ds) as := .tuple e1 e2 e3 r4
    have nm : a ∉ bs := not_mem_of_deeper rr (by simp only [PyData.depth]; omega) rb
    refine call_repr_slot (T := "tuple") (by omega) ⟨_, e1, e2⟩ F.slot_tuple_repr ?_
    exact call_tuple_reprK e1 e2 e3 nm rk (A := X.A.in1) hg (fun b _ => Clear.nil b) (by show X.A.units + 1 + _ < cLine; omega) keep (fun h' t tk k => ⟨_, _, rfl, fin h' t tk k⟩) hz'
  | @dic a hdk =>
    cases ru
    simp only [PyData.shown, PyData.shownKv] at fin
    obtain ⟨ne, o, es, ep, e1, e2, e3, e4⟩ := dic_at I hdk
    refine call_repr_slot (T := "dict") (by omega) ⟨_, e1, e2⟩ F.slot_dict_repr ?_
    exact call_dict_reprK (ps := []) (d := 0) (as := []) e1 e2 e3 ne (fun q => nomatch q) (by rw [e4]; exact .nil) (A := X.A.in1) hg (fun b _ => Clear.nil b) (by show X.A.units + 1 + _ < cLine; omega) keep (fun h' t tk k => ⟨_, _, rfl, fin h' t tk k⟩) (by simp only [PyData.shown, PyData.shownKv] at hz; exact hz)
end GL
/-! The end of a law whose def is promised where no guard of repr stands. -/
namespace GL
open PySem PySem.Spec PyProof.Rows L2 PySem.W

section
variable {P : Program} {w : World} {K : PySem.W.Frag} {mg mb : Str → Option Value} {k : Nat} {fa a : Addr} {fd : FuncData} {x : Str} {sp : Sp} {s₁ : Shared} {vs : List Value} {ns : List Int}
theorem nil_no {b : Addr} : b ∉ ([] : List Addr) := fun z => nomatch z
/-- the law's call, from one abstract heap in which the script alone may be tracked -/
theorem law_core (KI : K.In s₁.heap) (g1 : s₁.heap.Ns mainGlobals mg) (g2 : s₁.heap.Ns builtinsNs mb) (g3 : ∀ y : Str, y ≠ "__name__" → mb y = bootBuiltins y) (nl : s₁.heap.NoLimit) (hg : s₁.gens = #[])
    (ha : s₁.heap.get? a = some { cls := .type "list", data := .seq vs.toArray }) (hr : Room k callerA)
    (F : ∀ base : Heap, K.In base → base.Ns mainGlobals mg → Fg P w K mg base CX0 k fa fd [x] sp) (bd : ∀ (s : Shared) (u : Value), BindsTo s fd ⟨[u], []⟩ [(x, u)])
    (H : Hp) (on : Only H) (hq : sp [.ref a] H (fun v _ => v = .bl true) fun _ _ _ => False) (ok : HOk P w H s₁.heap) (one : ∀ b, H b ≠ none → b = a) (nk : H a ≠ none → K.lookup a = none) :
    codeAny (model P w) callerA (.call (.ref fa) ⟨[.ref a], []⟩) (fun r s' => r = .ok (.ret (.bool true)) ∧ OldK s₁.heap s'.heap ∧ s'.os = s₁.os ∧ AllBare s'.gens) s₁ := by
  have out : ∀ {b : Addr} {o : Obj}, s₁.heap.get? b = some o → (b = a → H a = none) → (hidT s₁.heap H).get? b = some o := fun {b o} e n => hidT_get e (by
    by_cases z : H b = none
    · exact z
    · have zz := one b z
      rw [zz]; exact n zz)
  have dct : ∀ {b : Addr} {o : Obj} {es : Array DictEntry} {ep : Nat}, s₁.heap.get? b = some o → o.data = .dict es ep → b ≠ a := fun {b o es ep} e d z => by
    rw [z, ha] at e
    cases e
    exact nomatch (show Data.seq vs.toArray _ = Data.dict es ep from d)
  have nsK : ∀ {b : Addr} {m : Str → Option Value}, s₁.heap.Ns b m → (hidT s₁.heap H).Ns b m := fun {b m} q => by
    obtain ⟨o, es, ep, e, d, r⟩ := q
    exact ⟨o, es, ep, out e (fun z => absurd z (dct e d)), d, r⟩
  have KB : K.In (hidT s₁.heap H) := fun b o e => out (KI b o e) fun z => by
    by_cases y : H a = none
    · exact y
    · rw [z, nk y] at e; cases e
  have md : Mod K mg (hidT s₁.heap H) := ⟨KB, nsK g1, ⟨mb, nsK g2, g3⟩, let ⟨mc, c1, c2⟩ := nl; ⟨mc, nsK c1, c2⟩⟩
  have ev : Env0 P w K mg (hidT s₁.heap H) callerA [] s₁ H := ⟨rfl, md, fun _ _ e => of_hidT e, Nat.le_of_eq (hidT_size _ _), trivial, fun b z => absurd z nil_no, ok, .of_eq hg⟩
  refine codeAny_mono ((F _ KB (nsK g1)).go callerA [] s₁ H ⟨[.ref a], []⟩ [.ref a] [.ref a] _ _ rfl hr ev (bd s₁ (.ref a)) (.cons rfl .nil) hq) fun r s' h => ?_
  match r, h with
  | .error e, h => exact h.elim
  | .ok .next, h => exact h.elim
  | .ok .brk, h => exact h.elim
  | .ok .cont, h => exact h.elim
  | .ok (.ret u), ⟨v, G, os, br, un, okG, rv, q⟩ =>
    cases (show v = .bl true from q)
    cases (show u = Value.bool true from rv)
    refine ⟨rfl, OldK.of_keep fun b o e => ?_, os, br⟩
    rcases on b with z | ⟨ob, xs, z⟩
    · exact un.keep b o e z nil_no nil_no
    · have e1 := (ok b _ z).1
      have e2 := (okG b _ (un.frzs b ob _ z)).1
      rw [e] at e1
      cases e1
      exact e2

theorem law_end (KI : K.In s₁.heap) (g1 : s₁.heap.Ns mainGlobals mg) (g2 : s₁.heap.Ns builtinsNs mb) (g3 : ∀ y : Str, y ≠ "__name__" → mb y = bootBuiltins y) (nl : s₁.heap.NoLimit) (hg : s₁.gens = #[])
    (ha : s₁.heap.get? a = some { cls := .type "list", data := .seq vs.toArray }) (hi : IntsAre vs ns) (hz : ns.length ≤ sizeLine) (hr : Room k callerA)
    (F : ∀ base : Heap, K.In base → base.Ns mainGlobals mg → Fg P w K mg base CX0 k fa fd [x] sp) (bd : ∀ (s : Shared) (u : Value), BindsTo s fd ⟨[u], []⟩ [(x, u)])
    (hsp : ∀ H : Hp, Only H → SqL K H a (ns.map V.int) → sp [.ref a] H (fun v _ => v = .bl true) fun _ _ _ => False) :
    codeAny (model P w) callerA (.call (.ref fa) ⟨[.ref a], []⟩) (fun r s' => r = .ok (.ret (.bool true)) ∧ OldK s₁.heap s'.heap ∧ s'.os = s₁.os ∧ AllBare s'.gens) s₁ := by
  have rv := vals_ints hi
  have ll : vs.length = ns.length := hi.length
  cases hk : K.lookup a with
  | some o =>
    have e := KI a o hk
    rw [ha] at e
    cases e
    have no : ∀ {b : Addr} {u : HO}, ((fun _ => none) : Hp) b ≠ some u := fun {b u} z => nomatch (show (none : Option HO) = some u from z)
    exact law_core KI g1 g2 g3 nl hg ha hr F bd (fun _ => none) (fun _ => .inl rfl) (hsp _ (fun _ => .inl rfl) (.inr ⟨_, vs.toArray, _, hk, rfl, rfl, rfl, by rw [List.size_toArray, ll]; exact hz, by simpa using rv⟩))
      (fun b u z => absurd z (no (b := b))) (fun b z => absurd rfl z) (fun z => absurd rfl z)
  | none =>
    have g : ∃ G : Hp, G a = some (.frz { cls := .type "list", data := .seq vs.toArray } (.lst (ns.map V.int))) ∧ ∀ b, b ≠ a → G b = none := ⟨fun b => if b = a then _ else none, if_pos rfl, fun b n => if_neg n⟩
    obtain ⟨G, y1, y2⟩ := g
    have on : Only G := fun b => by
      by_cases e : b = a
      · exact .inr ⟨_, _, e ▸ y1⟩
      · exact .inl (y2 b e)
    refine law_core KI g1 g2 g3 nl hg ha hr F bd G on (hsp G on (.inl (.inr ⟨_, y1⟩))) (fun b u z => ?_) (fun b z => ?_) fun _ => hk
    · by_cases e : b = a
      · subst e
        rw [y1] at z
        cases z
        exact ⟨ha, by rw [List.length_map]; exact hz, vs, _, rv, ha⟩
      · rw [y2 b e] at z; cases z
    · exact Classical.byContradiction fun e => z (y2 b e)
end

/-- the goal that the head leaves -/
theorem walk_g {l : PySem.W.OpenLaw} {n k : Nat} {q : Program} {loose : List Str} {XP : (Str → Option Value) → Heap → Prop} {YP : World → Heap → Prop} {d : DefRec} {K : Params → PySem.W.Frag} {sp : PySem.W.Frag → Sp} {x : Str}
    (hn : l.most = some n) (n2 : n ≤ sizeLine) (nd : d.params.defaults = []) (hr : Room k callerA) (hY : ∀ (w : World) (h : Heap), YP w h → (K w.params).In h)
    (F : ∀ (w : World) (mg : Str → Option Value) (fa : Addr) (h : Heap), (K w.params).In h → h.Ns mainGlobals mg → mg d.name = some (.ref fa) →
      ∃ fd : FuncData, (∀ (s : Shared) (u : Value), BindsTo s fd ⟨[u], []⟩ [(x, u)]) ∧ ∀ base : Heap, (K w.params).In base → base.Ns mainGlobals mg → Fg l.prog w (K w.params) mg base CX0 k fa fd [x] (sp (K w.params)))
    (hsp : ∀ (K : PySem.W.Frag) (H : Hp) (a : Addr) (ns : List Int), ns.length ≤ n → Only H → SqL K H a (ns.map V.int) → sp K [.ref a] H (fun v _ => v = .bl true) fun _ _ _ => False) :
    PySem.W.WalkO q loose XP YP l.row.toRowW d [] (fun f vs => PySem.call f vs) := by
  refine Att.attach_call hn nd fun w s₀ s₁ mg mb fa o pm cd doc a vs ns G Y ho hd hcd hmg hobj hints hlen hg => ?_
  have KI := hY w _ Y
  obtain ⟨fd, hb, hF⟩ := F w mg fa _ KI G.T.g hmg
  exact law_end KI G.T.g G.T.b G.T.builtins G.T.nolimit hg hobj hints (Nat.le_trans hlen n2) hr hF hb fun H on hS => hsp _ H a ns hlen on hS
end GL
namespace K21
open PySem L2 GL
def top (i : Nat) : Stmt := PySem.Challenge.pw_pairedaway_k21_machines_with_errors.main.body.getD i (.Pass ⟨0, 0, 0, 0⟩)
abbrev sNumber : Stmt := top 3
abbrev sRow : Stmt := top 4
abbrev sRows : Stmt := top 5
abbrev sEnds : Stmt := top 6
abbrev sErr : Stmt := top 7

/-! ### how long a value is when it is shown -/
mutual
def wt : PyData → Nat
  | .none => 4
  | .bool _ => 5
  | .int i => (PyData.int i).shown.length
  | .str x => (PyData.str x).shown.length
  | .list ds => wts ds + 3
  | .tuple ds => wts ds + 3
  | .dict _ => 2
def wts : List PyData → Nat
  | [] => 0
  | d :: ds => wt d + 2 + wts ds
end
theorem len_wts : ∀ ds : List PyData, ds.length ≤ wts ds
  | [] => Nat.le_refl _
  | d :: ds => by have := len_wts ds; simp only [wts, List.length_cons]; omega
theorem mem_wts {d : PyData} : ∀ {ds : List PyData}, d ∈ ds → wt d ≤ wts ds
  | e :: ds, h => by
    simp only [wts]
    rcases List.mem_cons.mp h with rfl | h
    · omega
    · have := mem_wts h; omega
/-- small enough for all that is asked here -/
def Small (d : PyData) : Prop := wt d ≤ 1000000
theorem Small.len {ds : List PyData} (h : Small (.tuple ds)) : ds.length ≤ 1000000 := by
  have := len_wts ds
  have h' : wts ds + 3 ≤ 1000000 := by simpa only [Small, wt] using h
  omega
theorem Small.mem {d : PyData} {ds : List PyData} (h : Small (.tuple ds)) (m : d ∈ ds) : Small d := by
  have := mem_wts m
  have h' : wts ds + 3 ≤ 1000000 := by simpa only [Small, wt] using h
  show wt d ≤ 1000000
  omega

/-! ### what a machine is, over data -/
def isTup : PyData → Bool
  | .tuple _ => true
  | _ => false
def isInt : PyData → Bool
  | .int _ => true
  | .bool _ => true
  | _ => false
def isBl : PyData → Bool
  | .bool _ => true
  | _ => false
def isNon : PyData → Bool
  | .none => true
  | _ => false
/-- an integer from lo to hi -/
def inR (lo hi : Int) : PyData → Bool
  | .int i => decide (lo ≤ i) && decide (i ≤ hi)
  | _ => false
def rowOk (letters states : Int) : PyData → Bool
  | .tuple ds => decide ((ds.length : Int) = letters) && ds.all fun d => isNon d || inR 0 (states - 1) d
  | _ => false
def rowsOk (letters : Int) : PyData → Bool
  | .tuple ds => decide (1 ≤ ds.length) && decide (ds.length ≤ 400) && ds.all (rowOk letters ds.length)
  | _ => false
def endsOk (states : Int) : PyData → Bool
  | .tuple ds => decide ((ds.length : Int) = states) && ds.all isBl
  | _ => false
def len0 : PyData → Int
  | .tuple ds => ds.length
  | _ => 0
def err : PyData → V
  | .tuple [l, r, e] => match l with
    | .int n => if inR 1 4 (.int n) then (if rowsOk n r then (if endsOk (len0 r) e then .non else .str "ends") else .str "rows") else .str "letters"
    | _ => .str "letters"
  | _ => .str "machine"

theorem kf_NoneType_tuple : kitB "NoneType" "tuple" = some false := by decide +kernel
theorem kf_bool_tuple : kitB "bool" "tuple" = some false := by decide +kernel
theorem kf_int_tuple : kitB "int" "tuple" = some false := by decide +kernel
theorem kf_str_tuple : kitB "str" "tuple" = some false := by decide +kernel
theorem kf_list_tuple : kitB "list" "tuple" = some false := by decide +kernel
theorem kf_tuple_tuple : kitB "tuple" "tuple" = some true := by decide +kernel
theorem kf_dict_tuple : kitB "dict" "tuple" = some false := by decide +kernel
theorem kf_NoneType_int : kitB "NoneType" "int" = some false := by decide +kernel
theorem kf_bool_int : kitB "bool" "int" = some true := by decide +kernel
theorem kf_int_int : kitB "int" "int" = some true := by decide +kernel
theorem kf_str_int : kitB "str" "int" = some false := by decide +kernel
theorem kf_list_int : kitB "list" "int" = some false := by decide +kernel
theorem kf_tuple_int : kitB "tuple" "int" = some false := by decide +kernel
theorem kf_dict_int : kitB "dict" "int" = some false := by decide +kernel
theorem kf_NoneType_bool : kitB "NoneType" "bool" = some false := by decide +kernel
theorem kf_bool_bool : kitB "bool" "bool" = some true := by decide +kernel
theorem kf_int_bool : kitB "int" "bool" = some false := by decide +kernel
theorem kf_str_bool : kitB "str" "bool" = some false := by decide +kernel
theorem kf_list_bool : kitB "list" "bool" = some false := by decide +kernel
theorem kf_tuple_bool : kitB "tuple" "bool" = some false := by decide +kernel
theorem kf_dict_bool : kitB "dict" "bool" = some false := by decide +kernel
section
variable {K : PySem.W.Frag} {H : Hp} {v : V} {d : PyData} {Q : VK}
theorem is_tuple (h : Dt K H v d) : ∃ t, TyX K H v t ∧ PySem.W.kitOne K t (.type "tuple") = some (isTup d) := by
  cases h with
  | non => exact ⟨_, .base .non, kit_ty kf_NoneType_tuple⟩
  | bl b => exact ⟨_, .base (.bl b), kit_ty kf_bool_tuple⟩
  | int i => exact ⟨_, .base (.int i), kit_ty kf_int_tuple⟩
  | str x => exact ⟨_, .base (.str x), kit_ty kf_str_tuple⟩
  | lst e _ => exact ⟨_, .base (.lst e), kit_ty kf_list_tuple⟩
  | tup e _ => exact ⟨_, .base (.tup e), kit_ty kf_tuple_tuple⟩
  | dic e => exact ⟨_, .base (.dK e), kit_ty kf_dict_tuple⟩
theorem is_int (h : Dt K H v d) : ∃ t, TyX K H v t ∧ PySem.W.kitOne K t (.type "int") = some (isInt d) := by
  cases h with
  | non => exact ⟨_, .base .non, kit_ty kf_NoneType_int⟩
  | bl b => exact ⟨_, .base (.bl b), kit_ty kf_bool_int⟩
  | int i => exact ⟨_, .base (.int i), kit_ty kf_int_int⟩
  | str x => exact ⟨_, .base (.str x), kit_ty kf_str_int⟩
  | lst e _ => exact ⟨_, .base (.lst e), kit_ty kf_list_int⟩
  | tup e _ => exact ⟨_, .base (.tup e), kit_ty kf_tuple_int⟩
  | dic e => exact ⟨_, .base (.dK e), kit_ty kf_dict_int⟩
theorem is_bool (h : Dt K H v d) : ∃ t, TyX K H v t ∧ PySem.W.kitOne K t (.type "bool") = some (isBl d) := by
  cases h with
  | non => exact ⟨_, .base .non, kit_ty kf_NoneType_bool⟩
  | bl b => exact ⟨_, .base (.bl b), kit_ty kf_bool_bool⟩
  | int i => exact ⟨_, .base (.int i), kit_ty kf_int_bool⟩
  | str x => exact ⟨_, .base (.str x), kit_ty kf_str_bool⟩
  | lst e _ => exact ⟨_, .base (.lst e), kit_ty kf_list_bool⟩
  | tup e _ => exact ⟨_, .base (.tup e), kit_ty kf_tuple_bool⟩
  | dic e => exact ⟨_, .base (.dK e), kit_ty kf_dict_bool⟩
theorem isNon_dt (h : Dt K H v d) : decide (v = .non) = isNon d := by cases h <;> rfl
end

/-- the module's names, as far as they are used -/
structure Txt (mg : Str → Option Value) : Prop where
  isi : mg "isinstance" = none
  int : mg "int" = none
  bool : mg "bool" = none
  tuple : mg "tuple" = none
  len : mg "len" = none
  all : mg "all" = none
  abs : mg "abs" = none
  range : mg "range" = none
  repr : mg "repr" = none
  list : mg "list" = none
  ml : ∃ t, mg "MAX_LETTERS" = some (.int 4 t)
  mr : ∃ t, mg "MAX_ROWS" = some (.int 400 t)

/-! ### promises -/
def spNumber (K : PySem.W.Frag) : Sp := fun vs H Q _ => ∃ (v : V) (d : PyData) (lo hi : Int), vs = [v, .int lo, .int hi] ∧ Dt K H v d ∧ Q (.bl (inR lo hi d)) H
/-- new things may stand in the heap -/
def spRow (K : PySem.W.Frag) : Sp := fun vs H Q _ => ∃ (v : V) (d : PyData) (l n : Int), vs = [v, .int l, .int n] ∧ Dt K H v d ∧ Small d ∧ ∀ H', Same H H' → Q (.bl (rowOk l n d)) H'
def spRows (K : PySem.W.Frag) : Sp := fun vs H Q _ => ∃ (v : V) (d : PyData) (l : Int), vs = [v, .int l] ∧ Dt K H v d ∧ Small d ∧ ∀ H', Same H H' → Q (.bl (rowsOk l d)) H'
def spEnds (K : PySem.W.Frag) : Sp := fun vs H Q _ => ∃ (v : V) (d : PyData) (n : Int), vs = [v, .int n] ∧ Dt K H v d ∧ Small d ∧ ∀ H', Same H H' → Q (.bl (endsOk n d)) H'
def spErr (K : PySem.W.Frag) : Sp := fun vs H Q _ => ∃ (v : V) (d : PyData), vs = [v] ∧ Dt K H v d ∧ Small d ∧ ∀ H', Same H H' → Q (err d) H'

theorem same_new {H : Hp} {p : Addr} (h : H p = none) (o : HO) : Same H (upd H p o) := fun b u q => by rw [upd_ne (ne_of_none q h)]; exact q
/-- the new list grows: all else stays -/
theorem same_grow {H H1 : Hp} {p : Addr} (h : H p = none) (e : Same H H1) (o : HO) : Same H (upd H1 p o) := fun b u q => by rw [upd_ne (ne_of_none q h)]; exact e b u q

/-- len of a list or tuple, the written part by its name -/
def rLenS (K : PySem.W.Frag) : List V → Hp → VK → Prop := fun xs H Q => ∃ (p : Addr) (ys : List V), xs = [.ref p] ∧ (SqL K H p ys ∨ SqT K H p ys) ∧ Q (.int ys.length) H
theorem call_lenS {X : Cx} : CallR X (.builtin "len") (rLenS X.K) := call_len_seq
/-! ### lists of truth values made by a comprehension over data -/
section
variable {K : PySem.W.Frag} {H0 : Hp} {L a : Addr} {p : PyData → Bool} {vs : List V} {ds : List PyData} {g : TG} {tt : TT} {te : TE} {ix : List Nat} {σ : L2.St}
/-- behind i turns -/
def PvB (H0 : Hp) (L : Addr) (p : PyData → Bool) (ds : List PyData) (i : Nat) (G : Hp) : Prop := Same H0 G ∧ G L = some (.lst ((ds.take i).map fun d => V.bl (p d)))
theorem b_start (nL : H0 L = none) : PvB H0 L p ds 0 (upd H0 L (.lst [])) := ⟨same_new nL _, by rw [upd_same]; rfl⟩
theorem b_stay (ha : H0 a = some (.tup vs)) : ∀ i G, i ≤ vs.length → PvB H0 L p ds i G → SqT K G a vs := fun _ _ _ h => .inl (.inl (h.1 _ _ ha))
theorem b_turn (nL : H0 L = none) (hda : DtAll K H0 vs ds) (hz : vs.length ≤ 1000000)
    (step : ∀ (x : V) (d : PyData) (G : Hp) (R : VK) (N : Hp → Prop), d ∈ ds → Same H0 G → Dt K G x d → (∀ G', Same G G' → R (.bl (p d)) G') → g x (wipe σ ix) G fun τ G2 => wipe τ ix = wipe σ ix ∧ tt τ G2 fun b G3 => if b = true then te τ G3 R else N G3) :
    ∀ i x G, vs[i]? = some x → PvB H0 L p ds i G → g x (wipe σ ix) G fun τ G2 => wipe τ ix = wipe σ ix ∧ tt τ G2 fun b G3 =>
      if b = true then te τ G3 (fun y G4 => ∃ acc, G4 L = some (.lst acc) ∧ acc.length < sizeLine ∧ PvB H0 L p ds (i + 1) (upd G4 L (.lst (acc ++ [y])))) else PvB H0 L p ds (i + 1) G3 := by
  intro i x G hx h
  obtain ⟨d, hd, hD⟩ := DtAll.get hda hx
  have il : i < ds.length := (List.getElem?_eq_some_iff.mp hd).1
  refine step x d G _ _ (List.mem_of_getElem? hd) h.1 (hD.same h.1) fun G' e => ⟨_, e _ _ h.2, ?_, same_grow nL (h.1.trans e) _, ?_⟩
  · rw [List.length_map, List.length_take, ← hda.length]
    show min i vs.length < 2 ^ 24
    omega
  · rw [upd_same, List.take_add_one, hd]
    simp
end

section
variable {P : Program} {w : World} {K : PySem.W.Frag} {mg : Str → Option Value} {base : Heap}
theorem scN : FnScope ["value", "low", "high"] ["value", "low", "high"] (defScope sNumber) := ⟨rfl, rfl, rfl, by decide +kernel, rfl, by decide +kernel, by decide +kernel⟩
theorem ok_number {f : Addr} {fd : FuncData} (F : Fun K "is_number" "is_number" sNumber f fd) (T : Txt mg) : FnOk P w K mg base CX0 1 f fd ["value", "low", "high"] (spNumber K) := by
  refine F.ok scN (fun vs H Q E h => ?_) (fun cdv A outer s H vs Q E hr h => ?_)
  · obtain ⟨v, d, lo, hi, rfl, _⟩ := h
    rfl
  obtain ⟨v, d, lo, hi, rfl, hd, q⟩ := h
  refine ⟨_, pss_one (ps_ret (pe_and (pe_callB call_isi (by rfl) T.isi (by decide +kernel) (pa_cons (pv 0) (pa_cons (pe_bltn (v := .ty "int") (by rfl) T.int (by decide +kernel) rfl) pa_nil)))
    (pe_and (pe_not (pe_callB call_isi (by rfl) T.isi (by decide +kernel) (pa_cons (pv 0) (pa_cons (pe_bltn (v := .ty "bool") (by rfl) T.bool (by decide +kernel) rfl) pa_nil))))
    (pe_one (pe_chain op_le op_le (pv 1) (pv 0) (pv 2)))))), ?_⟩
  obtain ⟨ti, i1, i2⟩ := is_int hd
  obtain ⟨tb, b1, b2⟩ := is_bool hd
  refine ⟨_, rfl, _, _, ti, _, _, rfl, .ty _, i1, i2, _, rfl, ?_⟩
  cases hd with
  | int i =>
    refine iteT ⟨_, rfl, _, _, tb, _, _, rfl, .ty _, b1, b2, _, rfl, _, rfl, iteT ⟨_, rfl, _, rfl, _, _, rfl, rfl, _, rfl, ite2 (fun c => ?_) (fun c => ?_)⟩⟩
    · refine ⟨_, rfl, _, _, rfl, rfl, ?_⟩
      have e : inR lo hi (.int i) = decide (i ≤ hi) := by
        show (decide (lo ≤ i) && decide (i ≤ hi)) = _
        rw [c]; rfl
      show Q (.bl (decide (i ≤ hi))) H
      rw [← e]; exact q
    · have e : inR lo hi (.int i) = false := by
        show (decide (lo ≤ i) && decide (i ≤ hi)) = _
        rw [Bool.eq_false_iff.mpr c]; rfl
      show Q (.bl false) H
      rw [← e]; exact q
  | bl b => exact iteT ⟨_, rfl, _, _, tb, _, _, rfl, .ty _, b1, b2, _, rfl, _, rfl, iteF q⟩
  | non => exact iteF q
  | str x => exact iteF q
  | lst _ _ => exact iteF q
  | tup _ _ => exact iteF q
  | dic _ => exact iteF q
/-- a def of the module, as its callers want it -/
structure Dfn (P : Program) (w : World) (K : PySem.W.Frag) (mg : Str → Option Value) (base : Heap) (name : Str) (k : Nat) (f : Addr) (fd : FuncData) (ps : List Str) (sp : Sp) : Prop where
  ok : FnOk P w K mg base CX0 k f fd ps sp
  b : L2.Binds K fd ps []
  m : mg name = some (.ref f)
  kp : PySem.W.keepIn K (.ref f) = true
theorem scR : FnScope ["value", "letters", "states", "item"] ["value", "letters", "states"] (defScope sRow) := ⟨rfl, rfl, rfl, by decide +kernel, rfl, by decide +kernel, by decide +kernel⟩
theorem ok_row {f fN : Addr} {fd fdN : FuncData} (F : Fun K "is_row" "is_row" sRow f fd) (T : Txt mg) (D : Dfn P w K mg base "is_number" 1 fN fdN ["value", "low", "high"] (spNumber K)) :
    FnOk P w K mg base CX0 2 f fd ["value", "letters", "states"] (spRow K) := by
  refine F.ok scR (fun vs H Q E h => ?_) (fun cdv A outer s H vs Q E hr h => ?_)
  · obtain ⟨v, d, l, n, rfl, _⟩ := h
    rfl
  obtain ⟨v, d, l, n, rfl, hd, hw, q⟩ := h
  refine ⟨_, pss_cons (ps_if (PW.pt (pw_or (pt_not (pt_val (pe_callB call_isi (by rfl) T.isi (by decide +kernel) (pa_cons (pv 0) (pa_cons (pe_bltn (v := .ty "tuple") (by rfl) T.tuple (by decide +kernel) rfl) pa_nil)))))
      (pw_or1 (pt_cmpR op_ne (pe_callB call_len_seq (by rfl) T.len PySem.boot_len (pa_cons (pv 0) pa_nil)) (pv 1) (nomark _))))) (pss_one (ps_ret pe_bl)) pss_nil)
    (pss_one (ps_ret (pe_callB (cr_all rfl) (by rfl) T.all (by decide +kernel) (pa_cons (pe_lc (own := [("item", 3)]) (g := gName 3) (tt := tYes) rfl scR.nd (pi_tup (pv 0))
      (blkOk_by (own := [("item", 3)]) (N := ["value", "letters", "states", "item"]) (sc := defScope sRow) (by decide +kernel)) (fun _ _ _ _ _ => pg_name (i := 3) scR.nd rfl (Or.inl rfl)) (fun _ _ _ _ _ => pts_nil)
      (fun _ _ _ _ _ => pe_or (pe_cmp (pc_isN (pv 3)) rfl) (pe_one (pe_call D.ok hr rfl D.m D.kp D.b .nil pass0 (pa_cons (pv 3) (pa_cons pe_int (pa_cons (pe_op op_sub (pv 2) pe_int) pa_nil))))))) pa_nil)))), ?_⟩
  obtain ⟨ti, i1, i2⟩ := is_tuple hd
  refine ⟨_, rfl, _, _, ti, _, _, rfl, .ty _, i1, i2, _, rfl, ?_⟩
  cases hd with
  | @tup a vs ds ha hda =>
    have hl : vs.length = ds.length := hda.length
    refine iteF ⟨_, rfl, _, _, rfl, .inr (.inl (.inl ha)), _, rfl, rfl, _, rfl, ite2 (fun c => ?_) (fun c => ?_)⟩
    · have c' : ¬ ((ds.length : Int) = l) := by rw [← hl]; simpa using c
      have e : rowOk l n (.tuple ds) = false := by
        show (decide ((ds.length : Int) = l) && _) = false
        rw [decide_eq_false c']; rfl
      show Q (.bl false) H
      rw [← e]; exact q H (Same.refl H)
    · have c' : (ds.length : Int) = l := by rw [← hl]; simpa using c
      have e : rowOk l n (.tuple ds) = ds.all fun d => isNon d || inR 0 (n - 1) d := by
        show (decide ((ds.length : Int) = l) && _) = _
        rw [decide_eq_true c']; rfl
      refine ⟨_, rfl, _, rfl, ⟨_, .inl (.inl ha)⟩, fun L nL => lc_tup (K := K) (a := a) (xs := vs) (PvB H L (fun d => isNon d || inR 0 (n - 1) d) ds) (b_start nL) (b_stay ha)
        (b_turn nL hda (by rw [hl]; exact hw.len) fun x d G R N hm hs hD k => ?_) fun G h => ?_⟩
      · refine ⟨rfl, _, rfl, _, rfl, ite2 (fun c2 => ?_) (fun c2 => ?_)⟩
        · have e2 : (isNon d || inR 0 (n - 1) d) = true := by rw [← isNon_dt hD, c2]; rfl
          rw [← e2]; exact k G (Same.refl G)
        · have e2 : (isNon d || inR 0 (n - 1) d) = inR 0 (n - 1) d := by rw [← isNon_dt hD, Bool.eq_false_iff.mpr c2]; rfl
          refine ⟨_, rfl, _, rfl, _, _, rfl, rfl, x, d, 0, n - 1, rfl, hD, ?_⟩
          rw [← e2]; exact k G (Same.refl G)
      · have hb : G L = some (.lst ((ds.map fun d => isNon d || inR 0 (n - 1) d).map V.bl)) := by
          rw [h.2, hl, List.take_length, List.map_map]; rfl
        refine ⟨_, _, rfl, .inl (.inl hb), ?_⟩
        have e2 : (ds.map fun d => isNon d || inR 0 (n - 1) d).all id = rowOk l n (.tuple ds) := by rw [e, List.all_map]; rfl
        rw [e2]
        exact q G h.1
  | int i => exact iteT (q H (Same.refl H))
  | bl b => exact iteT (q H (Same.refl H))
  | non => exact iteT (q H (Same.refl H))
  | str x => exact iteT (q H (Same.refl H))
  | lst _ _ => exact iteT (q H (Same.refl H))
  | dic _ => exact iteT (q H (Same.refl H))
theorem scRs : FnScope ["value", "letters", "row"] ["value", "letters"] (defScope sRows) := ⟨rfl, rfl, rfl, by decide +kernel, rfl, by decide +kernel, by decide +kernel⟩
theorem ok_rows {f fN : Addr} {fd fdN : FuncData} (F : Fun K "are_rows" "are_rows" sRows f fd) (T : Txt mg) (D : Dfn P w K mg base "is_row" 2 fN fdN ["value", "letters", "states"] (spRow K)) :
    FnOk P w K mg base CX0 3 f fd ["value", "letters"] (spRows K) := by
  refine F.ok scRs (fun vs H Q E h => ?_) (fun cdv A outer s H vs Q E hr h => ?_)
  · obtain ⟨v, d, l, rfl, _⟩ := h
    rfl
  obtain ⟨v, d, l, rfl, hd, hw, q⟩ := h
  obtain ⟨tk, mr⟩ := T.mr
  refine ⟨_, pss_cons (ps_if (PW.pt (pw_or (pt_not (pt_val (pe_callB call_isi (by rfl) T.isi (by decide +kernel) (pa_cons (pv 0) (pa_cons (pe_bltn (v := .ty "tuple") (by rfl) T.tuple (by decide +kernel) rfl) pa_nil)))))
      (pw_or1 (pt_not (pt_chain op_le op_le pe_int (pe_callB call_len_seq (by rfl) T.len PySem.boot_len (pa_cons (pv 0) pa_nil)) (pe_glob (v := .int 400) rfl mr ⟨_, rfl⟩)))))) (pss_one (ps_ret pe_bl)) pss_nil)
    (pss_one (ps_ret (pe_callB (cr_all rfl) (by rfl) T.all (by decide +kernel) (pa_cons (pe_lc (own := [("row", 2)]) (g := gName 2) (tt := tYes) rfl scRs.nd (pi_tup (pv 0))
      (blkOk_by (own := [("row", 2)]) (N := ["value", "letters", "row"]) (sc := defScope sRows) (by decide +kernel)) (fun _ _ _ _ _ => pg_name (i := 2) scRs.nd rfl (Or.inl rfl)) (fun _ _ _ _ _ => pts_nil)
      (fun _ _ _ _ _ => pe_call D.ok hr rfl D.m D.kp D.b .nil pass0 (pa_cons (pv 2) (pa_cons (pv 1) (pa_cons (pe_callB (show CallR _ _ (rLenS K) from call_lenS) (by rfl) T.len PySem.boot_len (pa_cons (pv 0) pa_nil)) pa_nil))))) pa_nil)))), ?_⟩
  obtain ⟨ti, i1, i2⟩ := is_tuple hd
  refine ⟨_, rfl, _, _, ti, _, _, rfl, .ty _, i1, i2, _, rfl, ?_⟩
  cases hd with
  | @tup a vs ds ha hda =>
    have hl : vs.length = ds.length := hda.length
    have key : ∀ G : Hp, Same H G → Q (.bl (decide (1 ≤ ds.length) && decide (ds.length ≤ 400) && ds.all (rowOk l ds.length))) G := q
    refine iteF ⟨_, rfl, _, _, rfl, .inr (.inl (.inl ha)), _, _, rfl, rfl, _, rfl, ite2 (fun c => ?_) (fun c => ?_)⟩
    · have c1 : 1 ≤ ds.length := by have := of_decide_eq_true c; omega
      refine ⟨_, _, rfl, rfl, _, rfl, ite2 (fun c2 => ?_) (fun c2 => ?_)⟩
      · have c3 : ¬ ds.length ≤ 400 := by
          intro z
          have z' : ((vs.length : Nat) : Int) ≤ 400 := by omega
          rw [decide_eq_true z'] at c2
          cases c2
        have k2 := key H (Same.refl H)
        rw [decide_eq_false c3, Bool.and_false, Bool.false_and] at k2
        exact k2
      · have c3 : ds.length ≤ 400 := by
          refine Classical.byContradiction fun z => c2 ?_
          have z' : ¬ ((vs.length : Nat) : Int) ≤ 400 := by omega
          rw [decide_eq_false z']
          rfl
        refine ⟨_, rfl, _, rfl, ⟨_, .inl (.inl ha)⟩, fun L nL => lc_tup (K := K) (a := a) (xs := vs) (PvB H L (rowOk l ds.length) ds) (b_start nL) (b_stay ha)
          (b_turn nL hda (by rw [hl]; exact hw.len) fun x d G R N hm hs hD k => ?_) fun G h => ?_⟩
        · exact ⟨rfl, _, rfl, _, rfl, _, rfl, a, vs, rfl, .inr (.inl (.inl (hs _ _ ha))), x, d, l, ds.length, by rw [← hl]; rfl, hD, hw.mem hm, k⟩
        · have hb : G L = some (.lst ((ds.map (rowOk l ds.length)).map V.bl)) := by
            rw [h.2, hl, List.take_length, List.map_map]; rfl
          refine ⟨_, _, rfl, .inl (.inl hb), ?_⟩
          have k2 := key G h.1
          rw [decide_eq_true c1, decide_eq_true c3, Bool.true_and, Bool.true_and] at k2
          have e2 : (ds.map (rowOk l ds.length)).all id = ds.all (rowOk l ds.length) := by rw [List.all_map]; rfl
          rw [e2]
          exact k2
    · have c3 : ¬ 1 ≤ ds.length := by
        intro z
        exact c (decide_eq_true (by omega))
      have k2 := key H (Same.refl H)
      rw [decide_eq_false c3, Bool.false_and, Bool.false_and] at k2
      exact ⟨_, rfl, k2⟩
  | int i => exact iteT (q H (Same.refl H))
  | bl b => exact iteT (q H (Same.refl H))
  | non => exact iteT (q H (Same.refl H))
  | str x => exact iteT (q H (Same.refl H))
  | lst _ _ => exact iteT (q H (Same.refl H))
  | dic _ => exact iteT (q H (Same.refl H))
theorem scE : FnScope ["value", "states", "end"] ["value", "states"] (defScope sEnds) := ⟨rfl, rfl, rfl, by decide +kernel, rfl, by decide +kernel, by decide +kernel⟩
theorem ok_ends {f : Addr} {fd : FuncData} (F : Fun K "are_ends" "are_ends" sEnds f fd) (T : Txt mg) : FnOk P w K mg base CX0 1 f fd ["value", "states"] (spEnds K) := by
  refine F.ok scE (fun vs H Q E h => ?_) (fun cdv A outer s H vs Q E hr h => ?_)
  · obtain ⟨v, d, n, rfl, _⟩ := h
    rfl
  obtain ⟨v, d, n, rfl, hd, hw, q⟩ := h
  refine ⟨_, pss_cons (ps_if (PW.pt (pw_or (pt_not (pt_val (pe_callB call_isi (by rfl) T.isi (by decide +kernel) (pa_cons (pv 0) (pa_cons (pe_bltn (v := .ty "tuple") (by rfl) T.tuple (by decide +kernel) rfl) pa_nil)))))
      (pw_or1 (pt_cmpR op_ne (pe_callB call_len_seq (by rfl) T.len PySem.boot_len (pa_cons (pv 0) pa_nil)) (pv 1) (nomark _))))) (pss_one (ps_ret pe_bl)) pss_nil)
    (pss_one (ps_ret (pe_callB (cr_all rfl) (by rfl) T.all (by decide +kernel) (pa_cons (pe_lc (own := [("end", 2)]) (g := gName 2) (tt := tYes) rfl scE.nd (pi_tup (pv 0))
      (blkOk_by (own := [("end", 2)]) (N := ["value", "states", "end"]) (sc := defScope sEnds) (by decide +kernel)) (fun _ _ _ _ _ => pg_name (i := 2) scE.nd rfl (Or.inl rfl)) (fun _ _ _ _ _ => pts_nil)
      (fun _ _ _ _ _ => pe_callB (show CallR _ _ (rIsi K) from call_isi) (by rfl) T.isi (by decide +kernel) (pa_cons (pv 2) (pa_cons (pe_bltn (v := .ty "bool") (by rfl) T.bool (by decide +kernel) rfl) pa_nil)))) pa_nil)))), ?_⟩
  obtain ⟨ti, i1, i2⟩ := is_tuple hd
  refine ⟨_, rfl, _, _, ti, _, _, rfl, .ty _, i1, i2, _, rfl, ?_⟩
  cases hd with
  | @tup a vs ds ha hda =>
    have hl : vs.length = ds.length := hda.length
    have key : ∀ G : Hp, Same H G → Q (.bl (decide ((ds.length : Int) = n) && ds.all isBl)) G := q
    refine iteF ⟨_, rfl, _, _, rfl, .inr (.inl (.inl ha)), _, rfl, rfl, _, rfl, ite2 (fun c => ?_) (fun c => ?_)⟩
    · have c' : ¬ ((ds.length : Int) = n) := by rw [← hl]; simpa using c
      have k2 := key H (Same.refl H)
      rw [decide_eq_false c', Bool.false_and] at k2
      exact k2
    · have c' : (ds.length : Int) = n := by rw [← hl]; simpa using c
      refine ⟨_, rfl, _, rfl, ⟨_, .inl (.inl ha)⟩, fun L nL => lc_tup (K := K) (a := a) (xs := vs) (PvB H L isBl ds) (b_start nL) (b_stay ha)
        (b_turn nL hda (by rw [hl]; exact hw.len) fun x d G R N hm hs hD k => ?_) fun G h => ?_⟩
      · obtain ⟨tb, b1, b2⟩ := is_bool hD
        exact ⟨rfl, _, rfl, _, _, tb, _, _, rfl, .ty _, b1, b2, k G (Same.refl G)⟩
      · have hb : G L = some (.lst ((ds.map isBl).map V.bl)) := by
          rw [h.2, hl, List.take_length, List.map_map]; rfl
        refine ⟨_, _, rfl, .inl (.inl hb), ?_⟩
        have k2 := key G h.1
        rw [decide_eq_true c', Bool.true_and] at k2
        have e2 : (ds.map isBl).all id = ds.all isBl := by rw [List.all_map]; rfl
        rw [e2]
        exact k2
  | int i => exact iteT (q H (Same.refl H))
  | bl b => exact iteT (q H (Same.refl H))
  | non => exact iteT (q H (Same.refl H))
  | str x => exact iteT (q H (Same.refl H))
  | lst _ _ => exact iteT (q H (Same.refl H))
  | dic _ => exact iteT (q H (Same.refl H))
end
end K21
namespace K21
open PySem L2 GL
section
variable {P : Program} {w : World} {K : PySem.W.Frag} {mg : Str → Option Value} {base : Heap}
theorem inR_int {lo hi : Int} : ∀ {d : PyData}, inR lo hi d = true → ∃ i, d = .int i
  | .int i, _ => ⟨i, rfl⟩
theorem rowsOk_tup {l : Int} : ∀ {d : PyData}, rowsOk l d = true → ∃ rs, d = .tuple rs
  | .tuple rs, _ => ⟨rs, rfl⟩
theorem err_no {d : PyData} (h : ∀ l r e, d ≠ .tuple [l, r, e]) : err d = .str "machine" := by
  unfold err
  split
  · exact absurd rfl (h _ _ _)
  · rfl
theorem err_three {l r e : PyData} : err (.tuple [l, r, e]) = if inR 1 4 l = true then (match l with | .int n => (if rowsOk n r then (if endsOk (len0 r) e then .non else .str "ends") else .str "rows") | _ => .non) else .str "letters" := by
  cases l with
  | int n => rfl
  | _ => rfl
theorem scM : FnScope ["value", "letters", "rows", "ends"] ["value"] (defScope sErr) := ⟨rfl, rfl, rfl, by decide +kernel, rfl, by decide +kernel, by decide +kernel⟩
theorem ok_err {f fN fR fE : Addr} {fd fdN fdR fdE : FuncData} (F : Fun K "machine_error" "machine_error" sErr f fd) (T : Txt mg) (DN : Dfn P w K mg base "is_number" 1 fN fdN ["value", "low", "high"] (spNumber K))
    (DR : Dfn P w K mg base "are_rows" 3 fR fdR ["value", "letters"] (spRows K)) (DE : Dfn P w K mg base "are_ends" 1 fE fdE ["value", "states"] (spEnds K)) : FnOk P w K mg base CX0 4 f fd ["value"] (spErr K) := by
  refine F.ok scM (fun vs H Q E h => ?_) (fun cdv A outer s H vs Q E hr h => ?_)
  · obtain ⟨v, d, rfl, _⟩ := h
    rfl
  obtain ⟨v, d, rfl, hd, hw, q⟩ := h
  obtain ⟨tk, ml⟩ := T.ml
  have hr1 : Room 1 _ := hr.mono (by decide)
  refine ⟨_, pss_cons (ps_if (PW.pt (pw_or (pt_not (pt_val (pe_callB call_isi (by rfl) T.isi (by decide +kernel) (pa_cons (pv 0) (pa_cons (pe_bltn (v := .ty "tuple") (by rfl) T.tuple (by decide +kernel) rfl) pa_nil)))))
      (pw_or1 (pt_cmpR op_ne (pe_callB call_len_seq (by rfl) T.len PySem.boot_len (pa_cons (pv 0) pa_nil)) pe_int (nomark _))))) (pss_one (ps_ret pe_str)) pss_nil)
    (pss_cons (ps_asg (pv 0) (pg_tup (by rfl) (pgs_cons (pg_name (i := 1) scM.nd rfl (Or.inl rfl)) (pgs_cons (pg_name (i := 2) scM.nd rfl (Or.inl rfl)) (pgs_cons (pg_name (i := 3) scM.nd rfl (Or.inl rfl)) pgs_nil)))))
    (pss_cons (ps_if (pt_not (pt_val (pe_call DN.ok hr1 rfl DN.m DN.kp DN.b .nil pass0 (pa_cons (pv 1) (pa_cons pe_int (pa_cons (pe_glob (v := .int 4) rfl ml ⟨_, rfl⟩) pa_nil)))))) (pss_one (ps_ret pe_str)) pss_nil)
    (pss_cons (ps_if (pt_not (pt_val (pe_call DR.ok hr rfl DR.m DR.kp DR.b .nil pass0 (pa_cons (pv 2) (pa_cons (pv 1) pa_nil))))) (pss_one (ps_ret pe_str)) pss_nil)
    (pss_cons (ps_if (pt_not (pt_val (pe_call DE.ok hr1 rfl DE.m DE.kp DE.b .nil pass0 (pa_cons (pv 3) (pa_cons (pe_callB call_len_seq (by rfl) T.len PySem.boot_len (pa_cons (pv 2) pa_nil)) pa_nil))))) (pss_one (ps_ret pe_str)) pss_nil)
    (pss_one (ps_ret pe_non)))))), ?_⟩
  obtain ⟨ti, i1, i2⟩ := is_tuple hd
  refine ⟨_, rfl, _, _, ti, _, _, rfl, .ty _, i1, i2, _, rfl, ?_⟩
  cases hd with
  | @tup a vs ds ha hda =>
    have hl : vs.length = ds.length := hda.length
    refine iteF ⟨_, rfl, _, _, rfl, .inr (.inl (.inl ha)), rfl, _, rfl, ite2 (fun c => ?_) (fun c => ?_)⟩
    · have c' : ds.length ≠ 3 := by
        intro z
        rw [hl, z] at c
        exact absurd c (by decide)
      have k2 := q H (Same.refl H)
      rw [err_no (fun l r e z => by cases z; exact c' rfl)] at k2
      exact k2
    · have c' : ds.length = 3 := by
        refine Classical.byContradiction fun z => c ?_
        have z' : ¬ (V.int ((vs.length : Nat) : Int) = V.int 3) := fun y => z (by have := V.int.inj y; omega)
        rw [decide_eq_false z']
        rfl
      match ds, vs, c', hda, ha, hw, q with
      | [l, r, e], _, _, .cons (v := vl) h1 (.cons (v := vr) h2 (.cons (v := ve) h3 .nil)), ha, hw, q =>
        have wl : Small l := hw.mem (by simp)
        have wr : Small r := hw.mem (by simp)
        have we : Small e := hw.mem (by simp)
        rw [err_three] at q
        refine ⟨_, rfl, a, _, rfl, .inl (.inl ha), rfl, _, _, rfl, _, _, rfl, _, _, rfl, rfl, ?_⟩
        refine ⟨_, rfl, vl, l, 1, 4, rfl, h1, _, rfl, ?_⟩
        cases c1 : inR 1 4 l with
        | false =>
          have k2 := q H (Same.refl H)
          rw [c1] at k2
          exact k2
        | true =>
          obtain ⟨n, rfl⟩ := inR_int c1
          cases h1
          have q2 : ∀ G, Same H G → Q (if rowsOk n r then (if endsOk (len0 r) e then .non else .str "ends") else .str "rows") G := fun G s => by
            have k2 := q G s
            rw [c1] at k2
            exact k2
          refine ⟨_, rfl, _, rfl, vr, r, n, rfl, h2, wr, fun G s1 => ⟨_, rfl, ?_⟩⟩
          cases c2 : rowsOk n r with
          | false =>
            have k2 := q2 G s1
            rw [c2] at k2
            exact k2
          | true =>
            obtain ⟨rs, rfl⟩ := rowsOk_tup c2
            have h2' := h2
            cases h2 with
            | @tup b us _ hb hub =>
              have hul : us.length = rs.length := hub.length
              refine ⟨_, rfl, _, rfl, b, us, rfl, .inr (.inl (.inl (s1 _ _ hb))), ve, e, rs.length, by rw [← hul]; rfl, h3.same s1, we, fun G2 s2 => ⟨_, rfl, ?_⟩⟩
              have k2 := q2 G2 (s1.trans s2)
              rw [c2] at k2
              have k3 : Q (if endsOk (rs.length : Int) e then .non else .str "ends") G2 := k2
              cases c3 : endsOk (rs.length : Int) e with
              | false => rw [c3] at k3; exact k3
              | true => rw [c3] at k3; exact k3
  | int i => exact iteT (q H (Same.refl H))
  | bl b => exact iteT (q H (Same.refl H))
  | non => exact iteT (q H (Same.refl H))
  | str x => exact iteT (q H (Same.refl H))
  | lst _ _ => exact iteT (q H (Same.refl H))
  | dic _ => exact iteT (q H (Same.refl H))
end
end K21
namespace K21
open PySem L2 GL
abbrev sDeck : Stmt := top 9
abbrev sDraw : Stmt := top 10
abbrev sOne : Stmt := top 11
abbrev sMach : Stmt := top 12

/-! ### the deck: a list of a list of numbers and of how many were drawn -/
/-- the heap without the deck's two lists -/
def Hd (d c : Addr) (H : Hp) : Hp := fun b => if b = d ∨ b = c then none else H b
theorem hd_some {d c b : Addr} {H : Hp} {o : HO} (h : Hd d c H b = some o) : H b = some o ∧ b ≠ d ∧ b ≠ c := by
  unfold Hd at h
  by_cases e : b = d ∨ b = c
  · rw [if_pos e] at h; cases h
  · rw [if_neg e] at h; exact ⟨h, fun z => e (.inl z), fun z => e (.inr z)⟩
theorem hd_of {d c b : Addr} {H : Hp} {o : HO} (h : H b = some o) (n1 : b ≠ d) (n2 : b ≠ c) : Hd d c H b = some o := by
  unfold Hd
  rw [if_neg fun e => e.elim n1 n2]; exact h
theorem hd_sub {d c : Addr} {H : Hp} : Same (Hd d c H) H := fun _ _ h => (hd_some h).1
theorem hd_new {d c p : Addr} {H : Hp} (h : H p = none) (o : HO) : Same (Hd d c H) (Hd d c (upd H p o)) := fun b u q => by
  obtain ⟨q1, q2, q3⟩ := hd_some q
  exact hd_of (same_new h o b u q1) q2 q3
theorem hd_put {d c p : Addr} {H : Hp} (h : p = d ∨ p = c) (o : HO) : Same (Hd d c H) (Hd d c (upd H p o)) := fun b u q => by
  obtain ⟨q1, q2, q3⟩ := hd_some q
  refine hd_of ?_ q2 q3
  rw [upd_ne (fun e => h.elim (fun z => q2 (e.trans z)) fun z => q3 (e.trans z))]; exact q1
theorem hd_same {d c : Addr} {H H' : Hp} (h : Same H H') : Same (Hd d c H) (Hd d c H') := fun b u q => by
  obtain ⟨q1, q2, q3⟩ := hd_some q
  exact hd_of (h b u q1) q2 q3

/-- the deck at d, its cells at c, with at most m numbers drawn -/
structure Deck (H : Hp) (d c : Addr) (m : Nat) : Prop where
  ne : d ≠ c
  ex : ∃ (L : List Int) (n : Nat), H d = some (.lst [.ref c, .int n]) ∧ H c = some (.lst (L.map V.int)) ∧ L.length ≤ 63 ∧ (∀ x ∈ L, 0 ≤ x) ∧ n ≤ m
theorem Deck.same {H H' : Hp} {d c : Addr} {m : Nat} (D : Deck H d c m) (s : Same H H') : Deck H' d c m := by
  obtain ⟨L, n, h1, h2, h3⟩ := D.ex
  exact ⟨D.ne, L, n, s _ _ h1, s _ _ h2, h3⟩
theorem Deck.mono {H : Hp} {d c : Addr} {m k : Nat} (D : Deck H d c m) (h : m ≤ k) : Deck H d c k := by
  obtain ⟨L, n, h1, h2, h3, h4, h5⟩ := D.ex
  exact ⟨D.ne, L, n, h1, h2, h3, h4, Nat.le_trans h5 h⟩
theorem Deck.new {H : Hp} {d c : Addr} {m : Nat} (D : Deck H d c m) {p : Addr} (h : H p = none) (o : HO) : Deck (upd H p o) d c m := D.same (same_new h o)

def spDeck (K : PySem.W.Frag) : Sp := fun vs H Q _ => ∃ (a : Addr) (ns : List Int), vs = [.ref a] ∧ SqL K H a (ns.map V.int) ∧ ns.length ≤ 63 ∧ ∀ d c H', Same H H' → H d = none → H c = none → Deck H' d c 0 → Q (.ref d) H'
def spDraw : Sp := fun vs H Q _ => ∃ (d c : Addr) (many : Int) (m : Nat), vs = [.ref d, .int many] ∧ Deck H d c m ∧ m ≤ 1000000000 ∧ 0 < many ∧ many < 1073741824 ∧
  ∀ (r : Int) (H' : Hp), 0 ≤ r → r < many → Deck H' d c (m + 1) → Same (Hd d c H) (Hd d c H') → Q (.int r) H'
def spOne : Sp := fun vs H Q _ => ∃ (d c a : Addr) (xs : List V) (m : Nat), vs = [.ref d, .ref a] ∧ Deck H d c m ∧ m ≤ 1000000000 ∧ Hd d c H a = some (.lst xs) ∧ 0 < xs.length ∧ xs.length ≤ 100000 ∧
  ∀ (v : V) (H' : Hp), v ∈ xs → Deck H' d c (m + 1) → Same (Hd d c H) (Hd d c H') → Q v H'

def rAbs : List V → Hp → VK → Prop := fun xs H Q => ∃ i : Int, xs = [.int i] ∧ Q (.int (if i < 0 then -i else i)) H
theorem call_absS {X : Cx} : CallR X (.builtin "abs") rAbs := call_abs
theorem cut_mem {xs : List V} {lo hi : Option Int} {x : V} (h : x ∈ cutV xs lo hi) : x ∈ xs := List.mem_of_mem_drop (List.mem_of_mem_take h)

section
variable {P : Program} {w : World} {K : PySem.W.Frag} {mg : Str → Option Value} {base : Heap}
theorem scDeck : FnScope ["_law_script", "_law_cell"] ["_law_script"] (defScope sDeck) := ⟨rfl, rfl, rfl, by decide +kernel, rfl, by decide +kernel, by decide +kernel⟩
theorem ok_deck {f : Addr} {fd : FuncData} (F : Fun K "_law_deck" "_law_deck" sDeck f fd) (T : Txt mg) : FnOk P w K mg base CX0 1 f fd ["_law_script"] (spDeck K) := by
  refine F.ok scDeck (fun vs H Q E h => ?_) (fun cdv A outer s H vs Q E hr h => ?_)
  · obtain ⟨a, ns, rfl, _⟩ := h
    rfl
  obtain ⟨a, ns, rfl, hS, hl, q⟩ := h
  refine ⟨_, pss_one (ps_ret (pe_lst (pa_cons (pe_lc (own := [("_law_cell", 1)]) (g := gName 1) (tt := tYes) rfl scDeck.nd (pi_list (pe_slice sl_list (pv 0) po_none (po_some pe_int)))
      (blkOk_by (own := [("_law_cell", 1)]) (N := ["_law_script", "_law_cell"]) (sc := defScope sDeck) (by decide +kernel)) (fun _ _ _ _ _ => pg_name (i := 1) scDeck.nd rfl (Or.inl rfl)) (fun _ _ _ _ _ => pts_nil)
      (fun _ _ _ _ _ => pe_callB call_absS (by rfl) T.abs (by decide +kernel) (pa_cons (pv 1) pa_nil))) (pa_cons pe_int pa_nil)))), ?_⟩
  refine ⟨_, rfl, _, rfl, a, _, rfl, hS, fun p np => ?_⟩
  have isI : ∀ x ∈ cutV (ns.map V.int) none (some 63), ∃ i : Int, x = .int i := fun x hx => by
    obtain ⟨i, _, e⟩ := List.mem_map.mp (cut_mem hx)
    exact ⟨i, e.symm⟩
  have ll : (cutV (ns.map V.int) none (some 63)).length ≤ 63 := by
    have := cutV_length (ns.map V.int) none (some 63)
    rw [List.length_map] at this
    omega
  generalize cutV (ns.map V.int) none (some 63) = xs at isI ll
  have sp : Same H (upd H p (.lst xs)) := same_new np _
  refine ⟨p, rfl, ⟨_, .inl (.inl upd_same)⟩, fun L nL => lc_list (K := K) (a := p) (xs := xs) (fun i G => Same (upd H p (.lst xs)) G ∧ ∃ ys : List Int, G L = some (.lst (ys.map V.int)) ∧ ys.length = i ∧ ∀ y ∈ ys, 0 ≤ y)
    ⟨same_new nL _, [], upd_same, rfl, fun y z => nomatch z⟩ (fun i G _ h => .inl (.inl (h.1 _ _ upd_same))) (fun i x G hx h => ?_) fun G h => ?_⟩
  · obtain ⟨s1, ys, y1, y2, y3⟩ := h
    obtain ⟨z, rfl⟩ := isI x (List.mem_of_getElem? hx)
    have il : i < xs.length := (List.getElem?_eq_some_iff.mp hx).1
    refine ⟨rfl, _, rfl, z, rfl, _, y1, by rw [List.length_map, y2]; show i < 2 ^ 24; omega, same_grow nL s1 _, ys ++ [if z < 0 then -z else z], by rw [upd_same, List.map_append]; rfl, by rw [List.length_append, y2]; rfl, ?_⟩
    intro y hy
    rcases List.mem_append.mp hy with hy | hy
    · exact y3 y hy
    · rw [List.mem_singleton.mp hy]
      split <;> omega
  · obtain ⟨s1, ys, y1, y2, y3⟩ := h
    refine ⟨by show 2 ≤ 2 ^ 24; decide, fun d nd => ?_⟩
    have sG : Same H G := sp.trans s1
    have ndL : d ≠ L := fun e => by rw [e, y1] at nd; cases nd
    have nHL : H L = none := sp.free nL
    refine q d L _ (sG.trans (same_new nd _)) (sG.free nd) nHL ⟨ndL, ys, 0, upd_same, by rw [upd_ne ndL.symm]; exact y1, by omega, y3, Nat.le_refl _⟩
theorem scDraw : FnScope ["_law_deck_here", "_law_many", "_law_cell", "_law_at", "_law_mixed"] ["_law_deck_here", "_law_many"] (defScope sDraw) := ⟨rfl, rfl, rfl, by decide +kernel, rfl, by decide +kernel, by decide +kernel⟩
theorem ok_draw {f : Addr} {fd : FuncData} (F : Fun K "_law_draw" "_law_draw" sDraw f fd) (T : Txt mg) : FnOk P w K mg base CX0 1 f fd ["_law_deck_here", "_law_many"] spDraw := by
  refine F.ok scDraw (fun vs H Q E h => ?_) (fun cdv A outer s H vs Q E hr h => ?_)
  · obtain ⟨d, c, many, m, rfl, _⟩ := h
    rfl
  obtain ⟨d, c, many, m, rfl, D, hm, p1, p2, q⟩ := h
  refine ⟨_, pss_cons (ps_asg (pe_op op_add (pe_ix ix_list (pv 0) pe_int (fun _ _ => rfl)) pe_int) (pg_sub (pv 0) pe_int set_list))
    (pss_cons (ps_asg (pe_tup (pa_cons pe_int (pa_cons (pe_un un_neg pe_int) pa_nil))) (pg_tup (by rfl) (pgs_cons (pg_name (i := 2) scDraw.nd rfl (Or.inl rfl)) (pgs_cons (pg_name (i := 3) scDraw.nd rfl (Or.inl rfl)) pgs_nil))))
    (pss_cons (ps_if (pt_cmpR op_gt (pe_callB call_len_seq (by rfl) T.len PySem.boot_len (pa_cons (pe_ix ix_list (pv 0) pe_int (fun _ _ => rfl)) pa_nil)) pe_int (nomark _))
      (pss_cons (ps_set (i := 3) scDraw.nd rfl (Or.inl rfl) (pe_op op_mod (pe_callTy call_int1 (by rfl) T.int (by decide +kernel) (pa_cons (pe_ix ix_list (pv 0) pe_int (fun _ _ => rfl)) pa_nil)) (pe_callB call_len_seq (by rfl) T.len PySem.boot_len (pa_cons (pe_ix ix_list (pv 0) pe_int (fun _ _ => rfl)) pa_nil))))
      (pss_one (ps_set (i := 2) scDraw.nd rfl (Or.inl rfl) (pe_ix ix_list (pe_ix ix_list (pv 0) pe_int (fun _ _ => rfl)) (pv 3) (fun _ _ => rfl))))) pss_nil)
    (pss_cons (ps_if (pt_cmpR op_ge (pv 2) (pe_op op_pow pe_int pe_int) (nomark _))
      (pss_cons (ps_asg (pe_op op_fdiv (pe_callTy call_int1 (by rfl) T.int (by decide +kernel) (pa_cons (pv 2) pa_nil)) (pv 1)) (pg_sub (pe_ix ix_list (pv 0) pe_int (fun _ _ => rfl)) (pv 3) set_list))
      (pss_one (ps_ret (pe_op op_mod (pe_callTy call_int1 (by rfl) T.int (by decide +kernel) (pa_cons (pv 2) pa_nil)) (pv 1))))) pss_nil)
    (pss_cons (ps_set (i := 4) scDraw.nd rfl (Or.inl rfl) (pe_op op_add (pe_op op_add (pe_op op_mod (pe_callTy call_int1 (by rfl) T.int (by decide +kernel) (pa_cons (pv 2) pa_nil)) pe_int) (pe_op op_mul pe_int (pe_ix ix_list (pv 0) pe_int (fun _ _ => rfl)))) pe_int))
    (pss_one (ps_ret (pe_op op_mod (pe_callTy call_int1 (by rfl) T.int (by decide +kernel) (pa_cons (pe_op op_mod (pe_callTy call_int1 (by rfl) T.int (by decide +kernel) (pa_cons (pe_op op_pow (pv 4) pe_int) pa_nil)) pe_int) pa_nil)) (pv 1)))))))), ?_⟩
  obtain ⟨ne, L, n, h1, h2, h3, h4, h5⟩ := D
  -- the count goes up
  refine ⟨_, rfl, d, _, 1, .int n, rfl, rfl, .inl (.inl h1), rfl, _, _, rfl, rfl, _, rfl, d, _, 1, 1, rfl, rfl, h1, rfl, ?_⟩
  have e1 : (List.set [V.ref c, V.int n] 1 (V.int ((n : Int) + 1))) = [.ref c, .int ((n + 1 : Nat) : Int)] := rfl
  rw [e1]
  have g1 : upd H d (.lst [.ref c, .int ((n + 1 : Nat) : Int)]) d = some (.lst [.ref c, .int ((n + 1 : Nat) : Int)]) := upd_same
  have g2 : upd H d (.lst [.ref c, .int ((n + 1 : Nat) : Int)]) c = some (.lst (L.map V.int)) := by rw [upd_ne ne.symm]; exact h2
  have sH : Same (Hd d c H) (Hd d c (upd H d (.lst [.ref c, .int ((n + 1 : Nat) : Int)]))) := hd_put (.inl rfl) _
  generalize upd H d (.lst [.ref c, .int ((n + 1 : Nat) : Int)]) = H1 at g1 g2 sH
  have D1 : Deck H1 d c (m + 1) := ⟨ne, L, n + 1, g1, g2, h3, h4, Nat.succ_le_succ h5⟩
  -- the cell and its place
  refine ⟨_, rfl, by show 2 ≤ 2 ^ 24; decide, fun p np => ?_⟩
  replace sH := sH.trans (hd_new np (.tup [V.int 0, V.int (-1)]))
  have gt : upd H1 p (.tup [V.int 0, V.int (-1)]) p = some (.tup [V.int 0, V.int (-1)]) := upd_same
  replace g1 := same_new np (.tup [V.int 0, V.int (-1)]) _ _ g1
  replace g2 := same_new np (.tup [V.int 0, V.int (-1)]) _ _ g2
  replace D1 := D1.new np (.tup [V.int 0, V.int (-1)])
  generalize upd H1 p (.tup [V.int 0, V.int (-1)]) = H2 at sH gt g1 g2 D1
  refine ⟨p, _, rfl, .inl (.inl gt), rfl, _, _, rfl, _, _, rfl, rfl, ?_⟩
  refine ⟨_, rfl, d, _, 0, _, rfl, rfl, .inl (.inl g1), rfl, c, _, rfl, .inl (.inl (.inl g2)), _, _, rfl, rfl, _, rfl, ?_⟩
  have hL : ((L.map V.int).length : Int) = (L.length : Int) := by rw [List.length_map]
  refine ite2 (fun c0 => ?_) (fun c0 => ?_)
  · have lp : 0 < L.length := by have := of_decide_eq_true c0; rw [hL] at this; omega
    have k0 : 0 ≤ ((n + 1 : Nat) : Int) % ((L.map V.int).length : Int) := Int.emod_nonneg _ (by rw [hL]; omega)
    have k1 : ((n + 1 : Nat) : Int) % ((L.map V.int).length : Int) < (L.length : Int) := by
      have := Int.emod_lt_of_pos ((n + 1 : Nat) : Int) (b := ((L.map V.int).length : Int)) (by rw [hL]; omega)
      rw [hL] at this ⊢
      exact this
    have hk : ∀ z : Int, (10 : Int) ^ (18 : Int).toNat ≤ z → ∃ j, ixN (L.map V.int).length (((n + 1 : Nat) : Int) % ((L.map V.int).length : Int)) = some j ∧ j < L.length := fun _ _ => ⟨_, by unfold ixN; rw [if_pos k0, if_pos (by omega)], by omega⟩
    obtain ⟨j0, ej⟩ : ∃ j : Nat, ((n + 1 : Nat) : Int) % ((L.map V.int).length : Int) = (j : Int) := ⟨_, (Int.toNat_of_nonneg k0).symm⟩
    have jl : j0 < L.length := by rw [ej] at k1; omega
    obtain ⟨z, hz0⟩ : ∃ z, L[j0]? = some z := ⟨_, List.getElem?_eq_getElem jl⟩
    have hz : 0 ≤ z := h4 _ (List.mem_of_getElem? hz0)
    replace hk := hk z
    refine ⟨_, rfl, d, _, 1, _, rfl, rfl, .inl (.inl g1), rfl, .inl ⟨_, rfl, ?_⟩⟩
    refine ⟨_, rfl, d, _, 0, _, rfl, rfl, .inl (.inl g1), rfl, c, _, rfl, .inl (.inl (.inl g2)), _, _, rfl, rfl, (by rw [hL]; show (0 : Int) < L.length; omega), ?_⟩
    refine ⟨_, rfl, d, _, 0, _, rfl, rfl, .inl (.inl g1), rfl, _, rfl, c, _, _, _, rfl, rfl, .inl (.inl g2), at_of ej (by rw [List.getElem?_map, hz0]; rfl), ?_⟩
    refine ⟨_, rfl, _, _, rfl, rfl, ⟨by decide, by decide, by decide⟩, _, _, rfl, rfl, _, rfl, ite2 (fun c1 => ?_) (fun c1 => ?_)⟩
    · obtain ⟨j, hj, hj2⟩ := hk (of_decide_eq_true c1)
      refine ⟨_, rfl, .inl ⟨_, rfl, _, rfl, _, _, rfl, rfl, ⟨p1, p2⟩, _, rfl, d, _, 0, _, rfl, rfl, .inl (.inl g1), rfl, _, rfl, c, _, _, j, rfl, rfl, g2, hj, ?_⟩⟩
      refine ⟨_, rfl, .inl ⟨_, rfl, _, rfl, _, _, rfl, rfl, p1, ?_⟩⟩
      refine q _ _ (Int.emod_nonneg _ (by omega)) (Int.emod_lt_of_pos _ p1) ⟨ne, L.set j (z / many), n + 1, ?_, ?_, ?_, ?_, Nat.succ_le_succ h5⟩ (sH.trans (hd_put (.inr rfl) _))
      · rw [upd_ne ne]; exact g1
      · rw [upd_same, List.map_set]
      · rw [List.length_set]; exact h3
      · intro x hx
        rcases List.mem_or_eq_of_mem_set hx with hx | hx
        · exact h4 x hx
        · rw [hx]; exact Int.ediv_nonneg hz (by omega)
    · have b1 : 0 ≤ z % 2147483563 := Int.emod_nonneg _ (by decide)
      have b2 : z % 2147483563 < 2147483563 := Int.emod_lt_of_pos _ (by decide)
      refine ⟨_, rfl, .inl ⟨_, rfl, _, _, rfl, rfl, by show (0 : Int) < 2147483563; decide, _, rfl, d, _, 1, _, rfl, rfl, .inl (.inl g1), rfl, _, _, rfl, rfl, .inl ⟨by decide, by decide⟩, _, _, rfl, rfl, _, _, rfl, rfl, ?_⟩⟩
      refine ⟨_, rfl, _, _, rfl, rfl, ⟨by decide, by decide, ?_⟩, .inl ⟨_, rfl, _, _, rfl, rfl, by show (0 : Int) < 2147483629; decide, .inl ⟨_, rfl, _, rfl, _, _, rfl, rfl, p1, ?_⟩⟩⟩
      · show (z % 2147483563 + 8117 * ((n + 1 : Nat) : Int) + 3).natAbs < 2 ^ 64
        omega
      · exact q _ _ (Int.emod_nonneg _ (by omega)) (Int.emod_lt_of_pos _ p1) D1 sH
  · have hz : (0 : Int) ≤ 0 := Int.le_refl 0
    have hk : (10 : Int) ^ (18 : Int).toNat ≤ 0 → ∃ j, ixN (L.map V.int).length (-1) = some j ∧ j < L.length := fun h => absurd h (by decide)
    refine ⟨_, rfl, _, _, rfl, rfl, ⟨by decide, by decide, by decide⟩, _, _, rfl, rfl, _, rfl, ite2 (fun c1 => ?_) (fun c1 => ?_)⟩
    · obtain ⟨j, hj, hj2⟩ := hk (of_decide_eq_true c1)
      refine ⟨_, rfl, .inl ⟨_, rfl, _, rfl, _, _, rfl, rfl, ⟨p1, p2⟩, _, rfl, d, _, 0, _, rfl, rfl, .inl (.inl g1), rfl, _, rfl, c, _, _, j, rfl, rfl, g2, hj, ?_⟩⟩
      refine ⟨_, rfl, .inl ⟨_, rfl, _, rfl, _, _, rfl, rfl, p1, ?_⟩⟩
      refine q _ _ (Int.emod_nonneg _ (by omega)) (Int.emod_lt_of_pos _ p1) ⟨ne, L.set j ((0 : Int) / many), n + 1, ?_, ?_, ?_, ?_, Nat.succ_le_succ h5⟩ (sH.trans (hd_put (.inr rfl) _))
      · rw [upd_ne ne]; exact g1
      · rw [upd_same, List.map_set]
      · rw [List.length_set]; exact h3
      · intro x hx
        rcases List.mem_or_eq_of_mem_set hx with hx | hx
        · exact h4 x hx
        · rw [hx]; exact Int.ediv_nonneg hz (by omega)
    · have b1 : 0 ≤ (0 : Int) % 2147483563 := Int.emod_nonneg _ (by decide)
      have b2 : (0 : Int) % 2147483563 < 2147483563 := Int.emod_lt_of_pos _ (by decide)
      refine ⟨_, rfl, .inl ⟨_, rfl, _, _, rfl, rfl, by show (0 : Int) < 2147483563; decide, _, rfl, d, _, 1, _, rfl, rfl, .inl (.inl g1), rfl, _, _, rfl, rfl, .inl ⟨by decide, by decide⟩, _, _, rfl, rfl, _, _, rfl, rfl, ?_⟩⟩
      refine ⟨_, rfl, _, _, rfl, rfl, ⟨by decide, by decide, ?_⟩, .inl ⟨_, rfl, _, _, rfl, rfl, by show (0 : Int) < 2147483629; decide, .inl ⟨_, rfl, _, rfl, _, _, rfl, rfl, p1, ?_⟩⟩⟩
      · show ((0 : Int) % 2147483563 + 8117 * ((n + 1 : Nat) : Int) + 3).natAbs < 2 ^ 64
        omega
      · exact q _ _ (Int.emod_nonneg _ (by omega)) (Int.emod_lt_of_pos _ p1) D1 sH
end
end K21
namespace K21
open PySem L2 GL
/-! ### machines that are drawn -/
def emp : Hp := fun _ => none
theorem emp_same {H : Hp} : Same emp H := fun _ _ h => nomatch (show (none : Option HO) = some _ from h)
/-- one more thing hidden -/
def Hr (R : Addr) (H : Hp) : Hp := fun b => if b = R then none else H b
theorem hr_some {R b : Addr} {H : Hp} {o : HO} (h : Hr R H b = some o) : H b = some o ∧ b ≠ R := by
  unfold Hr at h
  by_cases e : b = R
  · rw [if_pos e] at h; cases h
  · rw [if_neg e] at h; exact ⟨h, e⟩
theorem hr_of {R b : Addr} {H : Hp} {o : HO} (h : H b = some o) (n : b ≠ R) : Hr R H b = some o := by
  unfold Hr; rw [if_neg n]; exact h
theorem hr_sub {R : Addr} {H : Hp} : Same (Hr R H) H := fun _ _ h => (hr_some h).1
theorem hr_same {R : Addr} {H H' : Hp} (s : Same H H') : Same (Hr R H) (Hr R H') := fun b o h => hr_of (s _ _ (hr_some h).1) (hr_some h).2
theorem hr_put {R d c : Addr} {G : Hp} {o : HO} : Same (Hr R (Hd d c G)) (Hr R (Hd d c (upd G R o))) := fun b u h => by
  obtain ⟨h1, h2⟩ := hr_some h
  obtain ⟨h3, h4, h5⟩ := hd_some h1
  exact hr_of (hd_of (by rw [upd_ne h2]; exact h3) h4 h5) h2
theorem hd_none {d c p : Addr} {H : Hp} (n : H p = none) : Hd d c H p = none := by
  unfold Hd
  split
  · rfl
  · exact n
theorem hd_grow {d c p : Addr} {H G : Hp} (n : Hd d c H p = none) (s : Same (Hd d c H) (Hd d c G)) (o : HO) : Same (Hd d c H) (Hd d c (upd G p o)) := fun b u h => by
  obtain ⟨_, h2, h3⟩ := hd_some h
  exact hd_of (by rw [upd_ne (ne_of_none h n)]; exact (hd_some (s _ _ h)).1) h2 h3
theorem Deck.put {H : Hp} {d c p : Addr} {m : Nat} (D : Deck H d c m) (n1 : p ≠ d) (n2 : p ≠ c) (o : HO) : Deck (upd H p o) d c m := by
  obtain ⟨L, n, h1, h2, h3⟩ := D.ex
  exact ⟨D.ne, L, n, by rw [upd_ne n1.symm]; exact h1, by rw [upd_ne n2.symm]; exact h2, h3⟩
theorem Deck.free {H : Hp} {d c p : Addr} {m : Nat} (D : Deck H d c m) (n : H p = none) : p ≠ d ∧ p ≠ c := by
  obtain ⟨L, k, h1, h2, h3⟩ := D.ex
  exact ⟨(ne_of_none h1 n).symm, (ne_of_none h2 n).symm⟩

def IsRow (l n : Nat) (r : PyData) : Prop := ∃ xs, r = .tuple xs ∧ xs.length = l ∧ ∀ x ∈ xs, x = .none ∨ ∃ i : Int, x = .int i ∧ 0 ≤ i ∧ i < n
def IsMach (l n : Nat) (md : PyData) : Prop := ∃ (rs : List PyData) (bs : List Bool), md = .tuple [.int l, .tuple rs, .tuple (bs.map .bool)] ∧ rs.length = n ∧ bs.length = n ∧ ∀ r ∈ rs, IsRow l n r
def spMach (K : PySem.W.Frag) : Sp := fun vs H Q _ => ∃ (d c : Addr) (l n m : Nat), vs = [.ref d, .int l, .int n] ∧ Deck H d c m ∧ m ≤ 900000000 ∧ 1 ≤ l ∧ l ≤ 4 ∧ 1 ≤ n ∧ n ≤ 400 ∧
  ∀ (p : Addr) (md : PyData) (H' : Hp), IsMach l n md → Dt K (Hd d c H') (.ref p) md → Deck H' d c (m + 4000) → Same (Hd d c H) (Hd d c H') → Q (.ref p) H'
theorem bools_dt {K : PySem.W.Frag} {H : Hp} : ∀ bs : List Bool, DtAll K H (bs.map V.bl) (bs.map .bool)
  | [] => .nil
  | b :: bs => .cons (.bl b) (bools_dt bs)

section
variable {P : Program} {w : World} {K : PySem.W.Frag} {mg : Str → Option Value} {base : Heap}
theorem scOne : FnScope ["_law_deck_here", "_law_items"] ["_law_deck_here", "_law_items"] (defScope sOne) := ⟨rfl, rfl, rfl, by decide +kernel, rfl, by decide +kernel, by decide +kernel⟩
theorem ok_one {f fD : Addr} {fd fdD : FuncData} (F : Fun K "_law_one" "_law_one" sOne f fd) (T : Txt mg) (W : Dfn P w K mg base "_law_draw" 1 fD fdD ["_law_deck_here", "_law_many"] spDraw) :
    FnOk P w K mg base CX0 2 f fd ["_law_deck_here", "_law_items"] spOne := by
  refine F.ok scOne (fun vs H Q E h => ?_) (fun cdv A outer s H vs Q E hr h => ?_)
  · obtain ⟨d, c, a, xs, m, rfl, _⟩ := h
    rfl
  obtain ⟨d, c, a, xs, m, rfl, D, hm, ha, x0, x1, q⟩ := h
  refine ⟨_, pss_one (ps_ret (pe_ix ix_list (pv 1) (pe_call W.ok hr rfl W.m W.kp W.b .nil pass0 (pa_cons (pv 0) (pa_cons (pe_callB call_len_seq (by rfl) T.len PySem.boot_len (pa_cons (pv 1) pa_nil)) pa_nil))) (fun _ _ => rfl))), ?_⟩
  refine ⟨_, rfl, _, rfl, _, rfl, a, xs, rfl, .inl (.inl (.inl (hd_sub _ _ ha))), d, c, xs.length, m, rfl, D, hm, by omega, by omega, fun r G r0 r1 D2 s2 => ?_⟩
  obtain ⟨j, rfl⟩ : ∃ j : Nat, r = (j : Int) := ⟨r.toNat, by omega⟩
  have jl : j < xs.length := by omega
  obtain ⟨v, hv⟩ : ∃ v, xs[j]? = some v := ⟨_, List.getElem?_eq_getElem jl⟩
  exact ⟨a, xs, _, v, rfl, rfl, .inl (.inl (hd_sub _ _ (s2 _ _ ha))), atI_nat hv, q v G (List.mem_of_getElem? hv) D2 s2⟩

theorem scMach : FnScope ["_law_deck_here", "_law_letters", "_law_many", "_law_none", "_law_rows", "_law_k", "_law_row", "_law_j"] ["_law_deck_here", "_law_letters", "_law_many"] (defScope sMach) := ⟨rfl, rfl, rfl, by decide +kernel, rfl, by decide +kernel, by decide +kernel⟩
theorem ok_mach {f fD fO : Addr} {fd fdD fdO : FuncData} (F : Fun K "_law_machine" "_law_machine" sMach f fd) (T : Txt mg) (W : Dfn P w K mg base "_law_draw" 1 fD fdD ["_law_deck_here", "_law_many"] spDraw)
    (O : Dfn P w K mg base "_law_one" 2 fO fdO ["_law_deck_here", "_law_items"] spOne) : FnOk P w K mg base CX0 3 f fd ["_law_deck_here", "_law_letters", "_law_many"] (spMach K) := by
  refine F.ok scMach (fun vs H Q E h => ?_) (fun cdv A outer s H vs Q E hr h => ?_)
  · obtain ⟨d, c, l, n, m, rfl, _⟩ := h
    rfl
  obtain ⟨d, c, l, n, m, rfl, D, hm, l0, l1, n0, n1, q⟩ := h
  have hr1 : Room 1 _ := hr.mono (by decide)
  refine ⟨_, pss_cons (ps_set (i := 3) scMach.nd rfl (Or.inr rfl) (pe_call O.ok hr rfl O.m O.kp O.b .nil pass0 (pa_cons (pv 0) (pa_cons (pe_lst (pa_cons pe_int (pa_cons pe_int (pa_cons pe_int pa_nil)))) pa_nil))))
    (pss_cons (ps_set (i := 4) scMach.nd rfl (Or.inl rfl) (pe_lst pa_nil))
    (pss_cons (ps_for PassesOwn.never rfl (pi_range1 rfl T.range (pa_cons (pv 2) pa_nil)) (pg_name (i := 5) scMach.nd rfl (Or.inl rfl))
      (pss_cons (ps_setLc (i := 6) (own := [("_law_j", 7)]) (g := gName 7) (tt := tYes) rfl scMach.nd rfl rfl (sw_true rfl rfl rfl (by decide +kernel)) (pi_range1 rfl T.range (pa_cons (pv 1) pa_nil))
        (blkOk_by (own := [("_law_j", 7)]) (N := ["_law_deck_here", "_law_letters", "_law_many", "_law_none", "_law_rows", "_law_k", "_law_row", "_law_j"]) (sc := defScope sMach) (by decide +kernel)) (fun _ _ _ _ _ => pg_name (i := 7) scMach.nd rfl (Or.inl rfl)) (fun _ _ _ _ _ => pts_nil)
        (fun _ _ _ _ _ => pe_ifExp (pt_cmpR op_gt (pe_call W.ok hr1 rfl W.m W.kp W.b .nil pass0 (pa_cons (pv 0) (pa_cons (pv 3) pa_nil))) pe_int (nomark _)) (pe_call W.ok hr1 rfl W.m W.kp W.b .nil pass0 (pa_cons (pv 0) (pa_cons (pv 2) pa_nil))) pe_non))
      (pss_one (ps_expr (pe_bm PySem.F.plainAttrs_list PySem.F.slot_list_append PySem.F.type_list_append mt_append (pv 4) (pa_cons (pe_callTy call_tuple_of (by rfl) T.tuple (by decide +kernel) (pa_cons (pv 6) pa_nil)) pa_nil))))))
    (pss_one (ps_ret (pe_tup (pa_cons (pv 1) (pa_cons (pe_callTy call_tuple_of (by rfl) T.tuple (by decide +kernel) (pa_cons (pv 4) pa_nil)) (pa_cons (pe_callTy call_tuple_of (by rfl) T.tuple (by decide +kernel) (pa_cons
      (pe_lc (own := [("_law_k", 5)]) (g := gName 5) (tt := tYes) rfl scMach.nd (pi_range1 rfl T.range (pa_cons (pv 2) pa_nil))
        (blkOk_by (own := [("_law_k", 5)]) (N := ["_law_deck_here", "_law_letters", "_law_many", "_law_none", "_law_rows", "_law_k", "_law_row", "_law_j"]) (sc := defScope sMach) (by decide +kernel)) (fun _ _ _ _ _ => pg_name (i := 5) scMach.nd rfl (Or.inl rfl)) (fun _ _ _ _ _ => pts_nil)
        (fun _ _ _ _ _ => pe_cmp (pc_gt (pe_call W.ok hr1 rfl W.m W.kp W.b .nil pass0 (pa_cons (pv 0) (pa_cons pe_int pa_nil))) pe_int) rfl)) pa_nil)) pa_nil)))))))), ?_⟩
  refine ⟨_, rfl, by show 3 ≤ 2 ^ 24; decide, fun a na => ?_⟩
  have Da := D.new na (.lst [V.int 2, V.int 4, V.int 9])
  have ha : upd H a (.lst [V.int 2, V.int 4, V.int 9]) a = some (.lst [V.int 2, V.int 4, V.int 9]) := upd_same
  have sa : Same (Hd d c H) (Hd d c (upd H a (.lst [V.int 2, V.int 4, V.int 9]))) := hd_new na _
  have fa := D.free na
  refine ⟨d, c, a, _, m, rfl, Da, by omega, hd_of ha fa.1 fa.2, by decide, by decide, fun v G hv D2 s2 => ?_⟩
  obtain ⟨z, rfl, z0, z1⟩ : ∃ z : Int, v = .int z ∧ 0 < z ∧ z < 10 := by
    rcases List.mem_cons.mp hv with rfl | hv
    · exact ⟨2, rfl, by decide, by decide⟩
    · rcases List.mem_cons.mp hv with rfl | hv
      · exact ⟨4, rfl, by decide, by decide⟩
      · exact ⟨9, List.mem_singleton.mp hv, by decide, by decide⟩
  replace s2 := sa.trans s2
  refine ⟨by show 0 ≤ 2 ^ 24; decide, fun R nR => ?_⟩
  have D3 := D2.new nR (.lst [])
  have s3 : Same (Hd d c H) (Hd d c (upd G R (.lst []))) := s2.trans (hd_new nR _)
  have fR := D2.free nR
  have gR : Hd d c (upd G R (.lst [])) R = some (.lst []) := hd_of upd_same fR.1 fR.2
  generalize upd G R (.lst []) = G1 at D3 s3 gR
  refine ⟨_, rfl, n, rfl, by omega, by omega, ?_⟩
  have nHR : Hd d c H R = none := s2.free (hd_none nR)
  refine for_range (lo := 0) (n := n) (fun i σ G => ∃ (k5 k6 : Option V) (us : List V) (rs : List PyData), σ = [some (.ref d), some (.int l), some (.int n), some (.int z), some (.ref R), k5, k6, none] ∧ Deck G d c (m + 1 + 8 * i) ∧
      Same (Hd d c H) (Hd d c G) ∧ Hd d c G R = some (.lst us) ∧ DtAll K (Hr R (Hd d c G)) us rs ∧ rs.length = i ∧ ∀ r ∈ rs, IsRow l n r)
    ⟨none, none, [], [], rfl, D3, s3, gR, .nil, rfl, fun r hr => nomatch hr⟩ ?_ ?_
  · rintro i σ G4 hi ⟨k5, k6, us, rs, rfl, D4, s4, g4, d4, l4, r4⟩
    refine ⟨_, rfl, l, rfl, by omega, by omega, fun L nL => lc_range (lo := 0) (n := l) (fun j G5 => Deck G5 d c (m + 1 + 8 * i + 2 * j) ∧ Same (Hd d c G4) (Hd d c G5) ∧ ∃ (ys : List V) (xs : List PyData), G5 L = some (.lst ys) ∧ DtAll K emp ys xs ∧ xs.length = j ∧
        ∀ x ∈ xs, x = .none ∨ ∃ i : Int, x = .int i ∧ 0 ≤ i ∧ i < n) ⟨D4.new nL _, hd_new nL _, [], [], upd_same, .nil, rfl, fun x hx => nomatch hx⟩ ?_ ?_⟩
    · rintro j G5 hj ⟨D5, s5, ys, xs, y1, y2, y3, y4⟩
      have fL := D4.free nL
      have nHL : Hd d c G4 L = none := hd_none nL
      -- the list grows by a leaf
      have grow : ∀ (G6 : Hp) (k : Nat) (v : V) (x : PyData), k ≤ m + 1 + 8 * i + 2 * (j + 1) → Deck G6 d c k → Same (Hd d c G5) (Hd d c G6) → Dt K emp v x → (x = .none ∨ ∃ i : Int, x = .int i ∧ 0 ≤ i ∧ i < n) →
          ∃ acc, G6 L = some (.lst acc) ∧ acc.length < sizeLine ∧ Deck (upd G6 L (.lst (acc ++ [v]))) d c (m + 1 + 8 * i + 2 * (j + 1)) ∧ Same (Hd d c G4) (Hd d c (upd G6 L (.lst (acc ++ [v])))) ∧
            ∃ (ys : List V) (xs : List PyData), upd G6 L (.lst (acc ++ [v])) L = some (.lst ys) ∧ DtAll K emp ys xs ∧ xs.length = j + 1 ∧ ∀ x ∈ xs, x = .none ∨ ∃ i : Int, x = .int i ∧ 0 ≤ i ∧ i < n := by
        intro G6 k v x hk D6 s6 hv hx
        refine ⟨ys, hd_sub _ _ (s6 _ _ (hd_of y1 fL.1 fL.2)), ?_, (D6.mono hk).put fL.1 fL.2 _, hd_grow nHL (s5.trans s6) _, ys ++ [v], xs ++ [x], upd_same, y2.append (.cons hv .nil), by rw [List.length_append, y3]; rfl, ?_⟩
        · rw [y2.length, y3]
          show j < 2 ^ 24
          omega
        · intro y hy
          rcases List.mem_append.mp hy with hy | hy
          · exact y4 y hy
          · rw [List.mem_singleton.mp hy]; exact hx
      refine ⟨rfl, _, rfl, _, rfl, d, c, z, _, rfl, D5, by omega, z0, by omega, fun r G6 r0 r1 D6 s6 => ⟨_, _, rfl, rfl, _, rfl, ite2 (fun c1 => ?_) (fun c1 => ?_)⟩⟩
      · refine ⟨_, rfl, _, rfl, d, c, n, _, rfl, D6, by omega, by omega, by omega, fun r2 G7 r3 r4 D7 s7 => ?_⟩
        exact grow G7 _ _ _ (by omega) D7 (s6.trans s7) (.int r2) (.inr ⟨r2, rfl, r3, r4⟩)
      · exact grow G6 _ _ _ (by omega) D6 s6 .non (.inl rfl)
    · rintro G5 ⟨D5, s5, ys, xs, y1, y2, y3, y4⟩
      refine ⟨_, rfl, .inl ⟨rfl, _, .inl (.inl (hd_sub _ _ (s5 _ _ g4)))⟩, _, rfl, L, ys, rfl, .inl ⟨.inl (.inl y1), fun t nt => ?_⟩⟩
      have tR : t ≠ R := fun e => by rw [e, hd_sub _ _ (s5 _ _ g4)] at nt; cases nt
      have fT := D5.free nt
      have fRr := hd_some g4
      refine ⟨R, us, .ref t, rfl, rfl, same_new nt _ _ _ (hd_sub _ _ (s5 _ _ g4)), by rw [d4.length, l4]; show i < 2 ^ 24; omega, _, _, us ++ [.ref t], rs ++ [.tuple xs], rfl, ?_, ?_, hd_of upd_same fRr.2.1 fRr.2.2, ?_, ?_, ?_⟩
      · exact ((D5.mono (by omega)).new nt _).put fRr.2.1 fRr.2.2 _
      · exact hd_grow nHR (s4.trans (s5.trans (hd_new nt _))) _
      · refine (d4.same ((hr_same (s5.trans (hd_new nt _))).trans hr_put)).append (.cons (.tup (hr_of (hd_of (by rw [upd_ne tR]; exact upd_same) fT.1 fT.2) tR) (y2.same emp_same)) .nil)
      · rw [List.length_append, l4]; rfl
      · intro r hr'
        rcases List.mem_append.mp hr' with hr' | hr'
        · exact r4 r hr'
        · rw [List.mem_singleton.mp hr']; exact ⟨xs, rfl, y3, y4⟩
  · rintro σ G4 ⟨k5, k6, us, rs, rfl, D4, s4, g4, d4, l4, r4⟩
    refine ⟨_, rfl, _, rfl, R, us, rfl, .inl ⟨.inl (.inl (hd_sub _ _ g4)), fun t nt => ?_⟩⟩
    have fT := D4.free nt
    have D5 := D4.new nt (.tup us)
    have s5 := s4.trans (hd_new nt (.tup us))
    have g5 : Hd d c (upd G4 t (.tup us)) t = some (.tup us) := hd_of upd_same fT.1 fT.2
    have d5 : DtAll K (Hd d c (upd G4 t (.tup us))) us rs := (d4.same hr_sub).same (hd_new nt _)
    generalize upd G4 t (.tup us) = G5 at D5 s5 g5 d5
    refine ⟨_, rfl, n, rfl, by omega, by omega, fun L nL => lc_range (lo := 0) (n := n) (fun j G6 => Deck G6 d c (m + 1 + 8 * n + j) ∧ Same (Hd d c G5) (Hd d c G6) ∧ ∃ bs : List Bool, G6 L = some (.lst (bs.map V.bl)) ∧ bs.length = j)
      ⟨D5.new nL _, hd_new nL _, [], upd_same, rfl⟩ ?_ ?_⟩
    · rintro j G6 hj ⟨D6, s6, bs, y1, y2⟩
      have fL := D5.free nL
      refine ⟨rfl, _, rfl, d, c, 3, _, rfl, D6, by omega, by decide, by decide, fun r G7 r0 r1 D7 s7 => ⟨_, _, rfl, rfl, _, hd_sub _ _ (s7 _ _ (hd_of y1 fL.1 fL.2)), ?_, D7.put fL.1 fL.2 _, hd_grow (hd_none nL) (s6.trans s7) _, bs ++ [decide (r > 0)], ?_, ?_⟩⟩
      · rw [List.length_map, y2]
        show j < 2 ^ 24
        omega
      · rw [upd_same, List.map_append]; rfl
      · rw [List.length_append, y2]; rfl
    · rintro G6 ⟨D6, s6, bs, y1, y2⟩
      refine ⟨L, _, rfl, .inl ⟨.inl (.inl y1), fun e nE => ?_⟩⟩
      have fE := D6.free nE
      refine ⟨by show 3 ≤ 2 ^ 24; decide, fun p np => ?_⟩
      have D7 := D6.new nE (.tup (bs.map V.bl))
      have fP := D7.free np
      refine q p (.tuple [.int l, .tuple rs, .tuple (bs.map .bool)]) _ ⟨rs, bs, rfl, l4, y2, r4⟩ ?_ ((D7.new np _).mono (by omega)) (s5.trans (s6.trans ((hd_new nE _).trans (hd_new np _))))
      have st : Same (Hd d c G6) (Hd d c (upd (upd G6 e (.tup (bs.map V.bl))) p (.tup [.int l, .ref t, .ref e]))) := (hd_new nE _).trans (hd_new np _)
      refine .tup (hd_of upd_same fP.1 fP.2) (.cons (.int _) (.cons (.tup (st _ _ (s6 _ _ g5)) (d5.same (s6.trans st))) (.cons (.tup (hd_of ?_ fE.1 fE.2) (bools_dt bs)) .nil)))
      exact same_new np _ _ _ upd_same
end
end K21
namespace K21
open PySem L2 GL
abbrev sWhole : Stmt := top 13
abbrev sLRows : Stmt := top 14
abbrev sLErr : Stmt := top 15
/-! ### a list against an empty one, a tuple against an empty one -/
def rNe0 : R2 := fun x y H Q => ∃ (a b : Addr) (xs : List V), x = .ref a ∧ y = .ref b ∧ H a = some (.lst xs) ∧ H b = some (.lst []) ∧ Q (.bl (!xs.isEmpty)) H
def rEq0 : R2 := fun x y H Q => ∃ (a b : Addr) (xs : List V), x = .ref a ∧ y = .ref b ∧ H a = some (.tup xs) ∧ H b = some (.tup []) ∧ Q (.bl xs.isEmpty) H
theorem op_ne0 {X : Cx} (hu : X.A.units < cLine) : OpR X (compareOp .NotEq) rNe0 := by
  intro pins s σ H x y v u Q I rx ry h
  obtain ⟨a, b, xs, rfl, rfl, ha, hb, q⟩ := h
  cases rx
  cases ry
  obtain ⟨its, n, rv, e⟩ := lst_at I ha
  obtain ⟨its2, n2, rv2, e2⟩ := lst_at I hb
  cases rv2
  have l1 : s.heap.IsList a its.toArray := ⟨_, e, rfl, n, rfl⟩
  have l2 : s.heap.IsList b ([] : List Value).toArray := ⟨_, e2, rfl, n2, rfl⟩
  cases its with
  | nil =>
    cases rv
    exact SeqAt.RcNeAt.lists (e := fun _ => true) l1 l2 rfl hu (fun j h1 _ => absurd h1 (Nat.not_lt_zero j)) X.prog X.w _ _ ⟨.bl false, H, I, rfl, q⟩
  | cons y ys =>
    cases rv with
    | cons r1 r2 => exact SeqAt.RcNeAt.lists_lengths l1 l2 rfl hu X.prog X.w _ _ ⟨.bl true, H, I, rfl, q⟩
theorem op_eq0 {X : Cx} (hu : X.A.units < cLine) : OpR X (compareOp .Eq) rEq0 := by
  intro pins s σ H x y v u Q I rx ry h
  obtain ⟨a, b, xs, rfl, rfl, ha, hb, q⟩ := h
  cases rx
  cases ry
  obtain ⟨its, o, n, rv, e, ec, ed⟩ := tup_at I ha
  obtain ⟨its2, o2, n2, rv2, e2, ec2, ed2⟩ := tup_at I hb
  cases rv2
  have l1 : s.heap.IsTuple a its.toArray := ⟨_, e, ec, n, ed⟩
  have l2 : s.heap.IsTuple b ([] : List Value).toArray := ⟨_, e2, ec2, n2, ed2⟩
  cases its with
  | nil =>
    cases rv
    exact SeqAt.RcAt.tuples (e := fun _ => true) l1 l2 hu (fun j h1 _ => absurd h1 (Nat.not_lt_zero j)) X.prog X.w _ _ ⟨.bl true, H, I, rfl, q⟩
  | cons y ys =>
    cases rv with
    | cons r1 r2 => exact SeqAt.RcAt.tuples (e := fun _ => true) l1 l2 hu (fun j _ h2 => absurd h2 (Nat.not_lt_zero j)) X.prog X.w _ _ ⟨.bl false, H, I, rfl, q⟩

section
variable {P : Program} {w : World} {K : PySem.W.Frag} {mg : Str → Option Value} {base : Heap}
theorem scW : FnScope ["_law_value", "_law_least", "_law_most"] ["_law_value", "_law_least", "_law_most"] (defScope sWhole) := ⟨rfl, rfl, rfl, by decide +kernel, rfl, by decide +kernel, by decide +kernel⟩
theorem ok_whole {f : Addr} {fd : FuncData} (F : Fun K "_law_whole" "_law_whole" sWhole f fd) (T : Txt mg) : FnOk P w K mg base CX0 1 f fd ["_law_value", "_law_least", "_law_most"] (spNumber K) := by
  refine F.ok scW (fun vs H Q E h => ?_) (fun cdv A outer s H vs Q E hr h => ?_)
  · obtain ⟨v, d, lo, hi, rfl, _⟩ := h
    rfl
  obtain ⟨v, d, lo, hi, rfl, hd, q⟩ := h
  refine ⟨_, pss_one (ps_ret (pe_and (pe_callB call_isi (by rfl) T.isi (by decide +kernel) (pa_cons (pv 0) (pa_cons (pe_bltn (v := .ty "int") (by rfl) T.int (by decide +kernel) rfl) pa_nil)))
    (pe_and (pe_not (pe_callB call_isi (by rfl) T.isi (by decide +kernel) (pa_cons (pv 0) (pa_cons (pe_bltn (v := .ty "bool") (by rfl) T.bool (by decide +kernel) rfl) pa_nil))))
    (pe_one (pe_chain op_le op_le (pv 1) (pv 0) (pv 2)))))), ?_⟩
  obtain ⟨ti, i1, i2⟩ := is_int hd
  obtain ⟨tb, b1, b2⟩ := is_bool hd
  refine ⟨_, rfl, _, _, ti, _, _, rfl, .ty _, i1, i2, _, rfl, ?_⟩
  cases hd with
  | int i =>
    refine iteT ⟨_, rfl, _, _, tb, _, _, rfl, .ty _, b1, b2, _, rfl, _, rfl, iteT ⟨_, rfl, _, rfl, _, _, rfl, rfl, _, rfl, ite2 (fun c => ?_) (fun c => ?_)⟩⟩
    · refine ⟨_, rfl, _, _, rfl, rfl, ?_⟩
      have e : inR lo hi (.int i) = decide (i ≤ hi) := by
        show (decide (lo ≤ i) && decide (i ≤ hi)) = _
        rw [c]; rfl
      show Q (.bl (decide (i ≤ hi))) H
      rw [← e]; exact q
    · have e : inR lo hi (.int i) = false := by
        show (decide (lo ≤ i) && decide (i ≤ hi)) = _
        rw [Bool.eq_false_iff.mpr c]; rfl
      show Q (.bl false) H
      rw [← e]; exact q
  | bl b => exact iteT ⟨_, rfl, _, _, tb, _, _, rfl, .ty _, b1, b2, _, rfl, _, rfl, iteF q⟩
  | non => exact iteF q
  | str x => exact iteF q
  | lst _ _ => exact iteF q
  | tup _ _ => exact iteF q
  | dic _ => exact iteF q

theorem scLR : FnScope ["_law_value", "_law_letters", "_law_row", "_law_item"] ["_law_value", "_law_letters"] (defScope sLRows) := ⟨rfl, rfl, rfl, by decide +kernel, rfl, by decide +kernel, by decide +kernel⟩
theorem ok_lrows {f fW : Addr} {fd fdW : FuncData} (F : Fun K "_law_are_rows" "_law_are_rows" sLRows f fd) (T : Txt mg) (D : Dfn P w K mg base "_law_whole" 1 fW fdW ["_law_value", "_law_least", "_law_most"] (spNumber K)) :
    FnOk P w K mg base CX0 2 f fd ["_law_value", "_law_letters"] (spRows K) := by
  refine F.ok scLR (fun vs H Q E h => ?_) (fun cdv A outer s H vs Q E hr h => ?_)
  · obtain ⟨v, d, l, rfl, _⟩ := h
    rfl
  obtain ⟨v, d, l, rfl, hd, hw, q⟩ := h
  refine ⟨_, pss_cons (ps_if (PW.pt (pw_or (pt_not (pt_val (pe_callB call_isi (by rfl) T.isi (by decide +kernel) (pa_cons (pv 0) (pa_cons (pe_bltn (v := .ty "tuple") (by rfl) T.tuple (by decide +kernel) rfl) pa_nil)))))
      (pw_or1 (pt_not (pt_chain op_le op_le pe_int (pe_callB call_len_seq (by rfl) T.len PySem.boot_len (pa_cons (pv 0) pa_nil)) pe_int))))) (pss_one (ps_ret pe_bl)) pss_nil)
    (pss_cons (ps_for PassesOwn.never rfl (pi_tup (pv 0)) (pg_name (i := 2) scLR.nd rfl (Or.inl rfl))
      (pss_cons (ps_if (PW.pt (pw_or (pt_not (pt_val (pe_callB call_isi (by rfl) T.isi (by decide +kernel) (pa_cons (pv 2) (pa_cons (pe_bltn (v := .ty "tuple") (by rfl) T.tuple (by decide +kernel) rfl) pa_nil)))))
        (pw_or1 (pt_cmpR op_ne (pe_callB call_len_seq (by rfl) T.len PySem.boot_len (pa_cons (pv 2) pa_nil)) (pv 1) (nomark _))))) (pss_one (ps_ret pe_bl)) pss_nil)
      (pss_one (ps_if (pt_cmpR (op_ne0 hr.units0) (pe_lc (own := [("_law_item", 3)]) (g := gName 3) rfl scLR.nd (pi_tup (pv 2))
          (blkOk_by (own := [("_law_item", 3)]) (N := ["_law_value", "_law_letters", "_law_row", "_law_item"]) (sc := defScope sLRows) (by decide +kernel)) (fun _ _ _ _ _ => pg_name (i := 3) scLR.nd rfl (Or.inl rfl))
          (fun _ _ _ _ _ => pts_one (PW.pt (pw_and (pt_cmpR op_notN (pv 3) pe_non (nomark _)) (pw_and1 (pt_not (pt_val (pe_call D.ok hr rfl D.m D.kp D.b .nil pass0 (pa_cons (pv 3) (pa_cons pe_int (pa_cons (pe_op op_sub (pe_callB (show CallR _ _ (rLenS K) from call_lenS) (by rfl) T.len PySem.boot_len (pa_cons (pv 0) pa_nil)) pe_int) pa_nil)))))))))
          ) (fun _ _ _ _ _ => pv 3)) (pe_lst pa_nil) (nomark _)) (pss_one (ps_ret pe_bl)) pss_nil))))
    (pss_one (ps_ret pe_bl))), ?_⟩
  obtain ⟨ti, i1, i2⟩ := is_tuple hd
  refine ⟨_, rfl, _, _, ti, _, _, rfl, .ty _, i1, i2, _, rfl, ?_⟩
  cases hd with
  | @tup a vs ds ha hda =>
    have hl : vs.length = ds.length := hda.length
    have key : ∀ G : Hp, Same H G → Q (.bl (decide (1 ≤ ds.length) && decide (ds.length ≤ 400) && ds.all (rowOk l ds.length))) G := q
    refine iteF ⟨_, rfl, _, _, rfl, .inr (.inl (.inl ha)), _, _, rfl, rfl, _, rfl, ite2 (fun c => ?_) (fun c => ?_)⟩
    · have c1 : 1 ≤ ds.length := by have := of_decide_eq_true c; omega
      refine ⟨_, _, rfl, rfl, _, rfl, ite2 (fun c2 => ?_) (fun c2 => ?_)⟩
      · have c3 : ¬ ds.length ≤ 400 := by
          intro z
          have z' : ((vs.length : Nat) : Int) ≤ 400 := by omega
          rw [decide_eq_true z'] at c2
          cases c2
        have k2 := key H (Same.refl H)
        rw [decide_eq_false c3, Bool.and_false, Bool.false_and] at k2
        exact k2
      · have c3 : ds.length ≤ 400 := by
          refine Classical.byContradiction fun z => c2 ?_
          have z' : ¬ ((vs.length : Nat) : Int) ≤ 400 := by omega
          rw [decide_eq_false z']
          rfl
        have key2 : ∀ G : Hp, Same H G → Q (.bl (ds.all (rowOk l ds.length))) G := fun G s => by
          have k2 := key G s
          rw [decide_eq_true c1, decide_eq_true c3, Bool.true_and, Bool.true_and] at k2
          exact k2
        have no : ∀ (i : Nat) (d' : PyData), ds[i]? = some d' → rowOk l ds.length d' = false → ∀ G, Same H G → Q (.bl false) G := fun i d' e1 e2 G s => by
          have k2 := key2 G s
          have e3 : ds.all (rowOk l ds.length) = false := by
            rw [List.all_eq_false]
            exact ⟨d', List.mem_of_getElem? e1, by rw [e2]; exact Bool.false_ne_true⟩
          rw [e3] at k2
          exact k2
        refine ⟨_, rfl, a, rfl, ⟨_, .inl (.inl ha)⟩, for_tup (K := K) (a := a) (xs := vs) (fun i σ G => ∃ k2 : Option V, σ = [some (.ref a), some (.int l), k2, none] ∧ Same H G ∧ (ds.take i).all (rowOk l ds.length) = true)
          ⟨none, rfl, Same.refl H, rfl⟩ (fun i σ G _ h => let ⟨_, _, s, _⟩ := h; .inl (.inl (s _ _ ha))) ?_ ?_⟩
        · rintro i x σ G hx ⟨k2, rfl, s1, all1⟩
          obtain ⟨d', e1, hD'⟩ := DtAll.get hda hx
          have hD := hD'.same s1
          obtain ⟨tx, x1, x2⟩ := is_tuple hD
          have no' := no i d' e1
          refine ⟨_, rfl, _, _, tx, _, _, rfl, .ty _, x1, x2, _, rfl, ?_⟩
          cases hD with
          | @tup b us xs hb hus =>
            have hul : us.length = xs.length := hus.length
            refine iteF ⟨_, rfl, _, _, rfl, .inr (.inl (.inl hb)), _, rfl, rfl, _, rfl, ite2 (fun c4 => ?_) (fun c4 => ?_)⟩
            · have c5 : ¬ ((xs.length : Int) = l) := by rw [← hul]; simpa using c4
              exact no' (by show (decide ((xs.length : Int) = l) && _) = false; rw [decide_eq_false c5]; rfl) G s1
            · have c5 : (xs.length : Int) = l := by rw [← hul]; simpa using c4
              have hrow : rowOk l ds.length (.tuple xs) = xs.all fun d => isNon d || inR 0 ((ds.length : Int) - 1) d := by
                show (decide ((xs.length : Int) = l) && _) = _
                rw [decide_eq_true c5]; rfl
              have zl : xs.length ≤ 1000000 := (hw.mem (List.mem_of_getElem? e1)).len
              refine ⟨_, rfl, b, rfl, ⟨_, .inl (.inl hb)⟩, fun L nL => lc_tup (K := K) (a := b) (xs := us) (fun j G2 => Same G G2 ∧ ∃ acc : List V, G2 L = some (.lst acc) ∧ acc.length ≤ j ∧
                  acc.isEmpty = ((xs.take j).all fun d => isNon d || inR 0 ((ds.length : Int) - 1) d)) ⟨same_new nL _, [], upd_same, Nat.le_refl _, rfl⟩ (fun j G2 _ h => .inl (.inl (h.1 _ _ hb))) ?_ ?_⟩
              · rintro j y G2 hy ⟨s2, acc, a1, a2, a3⟩
                obtain ⟨dy, y1, hDy'⟩ := DtAll.get hus hy
                have hDy := hDy'.same s2
                have jl : j < xs.length := (List.getElem?_eq_some_iff.mp y1).1
                have tk : (xs.take (j + 1)).all (fun d => isNon d || inR 0 ((ds.length : Int) - 1) d) = (acc.isEmpty && (isNon dy || inR 0 ((ds.length : Int) - 1) dy)) := by
                  rw [List.take_add_one, y1, List.all_append, ← a3]
                  simp
                refine ⟨rfl, ?_⟩
                have drop : ∀ b, b = true → (isNon dy || inR 0 ((ds.length : Int) - 1) dy) = b → Same G G2 ∧ ∃ acc : List V, G2 L = some (.lst acc) ∧ acc.length ≤ j + 1 ∧ acc.isEmpty = ((xs.take (j + 1)).all fun d => isNon d || inR 0 ((ds.length : Int) - 1) d) := by
                  intro b hb2 e2
                  refine ⟨s2, acc, a1, by omega, ?_⟩
                  rw [tk, e2, hb2, Bool.and_true]
                refine ⟨_, rfl, rfl, _, rfl, ite2 (fun c6 => ?_) (fun c6 => ?_)⟩
                · have n1 : isNon dy = false := by rw [← isNon_dt hDy]; simpa using c6
                  refine ⟨_, rfl, _, rfl, a, vs, rfl, .inr (.inl (.inl (s2 _ _ (s1 _ _ ha)))), _, _, rfl, rfl, y, dy, 0, (ds.length : Int) - 1, by rw [← hl]; rfl, hDy, _, rfl, ?_⟩
                  cases c7 : inR 0 ((ds.length : Int) - 1) dy with
                  | true => exact drop _ rfl (by rw [n1, c7]; rfl)
                  | false =>
                    refine ⟨_, rfl, acc, a1, by show acc.length < 2 ^ 24; omega, same_grow nL s2 _, acc ++ [y], upd_same, by rw [List.length_append]; show acc.length + 1 ≤ j + 1; omega, ?_⟩
                    rw [tk, n1, c7]
                    simp
                · have n1 : isNon dy = true := by rw [← isNon_dt hDy]; simpa using c6
                  exact drop _ rfl (by rw [n1]; rfl)
              · rintro G2 ⟨s2, acc, a1, a2, a3⟩
                rw [hul, List.take_length] at a3
                refine ⟨by show 0 ≤ 2 ^ 24; decide, fun e nE => ?_⟩
                refine ⟨L, e, acc, rfl, rfl, same_new nE _ _ _ a1, upd_same, _, rfl, ite2 (fun c6 => ?_) (fun c6 => ?_)⟩
                · refine no' ?_ _ (s1.trans (s2.trans (same_new nE _)))
                  rw [hrow, ← a3]
                  simpa using c6
                · refine ⟨_, rfl, s1.trans (s2.trans (same_new nE _)), ?_⟩
                  rw [List.take_add_one, e1, List.all_append, all1]
                  have h7 : rowOk l ds.length (.tuple xs) = true := by
                    rw [hrow, ← a3]
                    simpa using c6
                  simp [h7]
          | int i => exact iteT (no' rfl G s1)
          | bl b => exact iteT (no' rfl G s1)
          | non => exact iteT (no' rfl G s1)
          | str x => exact iteT (no' rfl G s1)
          | lst _ _ => exact iteT (no' rfl G s1)
          | dic _ => exact iteT (no' rfl G s1)
        · rintro σ G ⟨k2, rfl, s1, all1⟩
          have k3 := key2 G s1
          rw [hl, List.take_length] at all1
          rw [all1] at k3
          exact k3
    · have c3 : ¬ 1 ≤ ds.length := by
        intro z
        exact c (decide_eq_true (by omega))
      have k2 := key H (Same.refl H)
      rw [decide_eq_false c3, Bool.false_and, Bool.false_and] at k2
      exact ⟨_, rfl, k2⟩
  | int i => exact iteT (q H (Same.refl H))
  | bl b => exact iteT (q H (Same.refl H))
  | non => exact iteT (q H (Same.refl H))
  | str x => exact iteT (q H (Same.refl H))
  | lst _ _ => exact iteT (q H (Same.refl H))
  | dic _ => exact iteT (q H (Same.refl H))
end
end K21
namespace K21
open PySem L2 GL
section
variable {P : Program} {w : World} {K : PySem.W.Frag} {mg : Str → Option Value} {base : Heap}
theorem scLE : FnScope ["_law_value", "_law_end"] ["_law_value"] (defScope sLErr) := ⟨rfl, rfl, rfl, by decide +kernel, rfl, by decide +kernel, by decide +kernel⟩
theorem ok_lerr {f fW fR : Addr} {fd fdW fdR : FuncData} (F : Fun K "_law_error" "_law_error" sLErr f fd) (T : Txt mg) (DW : Dfn P w K mg base "_law_whole" 1 fW fdW ["_law_value", "_law_least", "_law_most"] (spNumber K))
    (DR : Dfn P w K mg base "_law_are_rows" 2 fR fdR ["_law_value", "_law_letters"] (spRows K)) : FnOk P w K mg base CX0 3 f fd ["_law_value"] (spErr K) := by
  refine F.ok scLE (fun vs H Q E h => ?_) (fun cdv A outer s H vs Q E hr h => ?_)
  · obtain ⟨v, d, rfl, _⟩ := h
    rfl
  obtain ⟨v, d, rfl, hd, hw, q⟩ := h
  have hr1 : Room 1 _ := hr.mono (by decide)
  refine ⟨_, pss_cons (ps_if (PW.pt (pw_or (pt_not (pt_val (pe_callB call_isi (by rfl) T.isi (by decide +kernel) (pa_cons (pv 0) (pa_cons (pe_bltn (v := .ty "tuple") (by rfl) T.tuple (by decide +kernel) rfl) pa_nil)))))
      (pw_or1 (pt_cmpR op_ne (pe_callB call_len_seq (by rfl) T.len PySem.boot_len (pa_cons (pv 0) pa_nil)) pe_int (nomark _))))) (pss_one (ps_ret pe_str)) pss_nil)
    (pss_cons (ps_if (pt_not (pt_val (pe_call DW.ok hr1 rfl DW.m DW.kp DW.b .nil pass0 (pa_cons (pe_ix ix_tup (pv 0) pe_int (fun _ _ => rfl)) (pa_cons pe_int (pa_cons pe_int pa_nil)))))) (pss_one (ps_ret pe_str)) pss_nil)
    (pss_cons (ps_if (pt_not (pt_val (pe_call DR.ok hr rfl DR.m DR.kp DR.b .nil pass0 (pa_cons (pe_ix ix_tup (pv 0) pe_int (fun _ _ => rfl)) (pa_cons (pe_ix ix_tup (pv 0) pe_int (fun _ _ => rfl)) pa_nil))))) (pss_one (ps_ret pe_str)) pss_nil)
    (pss_cons (ps_if (PW.pt (pw_or (pt_not (pt_val (pe_callB call_isi (by rfl) T.isi (by decide +kernel) (pa_cons (pe_ix ix_tup (pv 0) pe_int (fun _ _ => rfl)) (pa_cons (pe_bltn (v := .ty "tuple") (by rfl) T.tuple (by decide +kernel) rfl) pa_nil)))))
      (pw_or1 (pt_cmpR op_ne (pe_callB call_len_seq (by rfl) T.len PySem.boot_len (pa_cons (pe_ix ix_tup (pv 0) pe_int (fun _ _ => rfl)) pa_nil)) (pe_callB call_len_seq (by rfl) T.len PySem.boot_len (pa_cons (pe_ix ix_tup (pv 0) pe_int (fun _ _ => rfl)) pa_nil)) (nomark _))))) (pss_one (ps_ret pe_str)) pss_nil)
    (pss_one (ps_ret (pe_ifExp (pt_cmpR (op_ne0 hr.units0) (pe_lc (own := [("_law_end", 1)]) (g := gName 1) rfl scLE.nd (pi_tup (pe_ix ix_tup (pv 0) pe_int (fun _ _ => rfl)))
      (blkOk_by (own := [("_law_end", 1)]) (N := ["_law_value", "_law_end"]) (sc := defScope sLErr) (by decide +kernel)) (fun _ _ _ _ _ => pg_name (i := 1) scLE.nd rfl (Or.inl rfl))
      (fun _ _ _ _ _ => pts_one (pt_not (pt_val (pe_callB (show CallR _ _ (rIsi K) from call_isi) (by rfl) T.isi (by decide +kernel) (pa_cons (pv 1) (pa_cons (pe_bltn (v := .ty "bool") (by rfl) T.bool (by decide +kernel) rfl) pa_nil))))))
      (fun _ _ _ _ _ => pv 1)) (pe_lst pa_nil) (nomark _)) pe_str pe_non)))))), ?_⟩
  obtain ⟨ti, i1, i2⟩ := is_tuple hd
  refine ⟨_, rfl, _, _, ti, _, _, rfl, .ty _, i1, i2, _, rfl, ?_⟩
  cases hd with
  | @tup a vs ds ha hda =>
    have hl : vs.length = ds.length := hda.length
    refine iteF ⟨_, rfl, _, _, rfl, .inr (.inl (.inl ha)), rfl, _, rfl, ite2 (fun c => ?_) (fun c => ?_)⟩
    · have c' : ds.length ≠ 3 := by
        intro z
        rw [hl, z] at c
        exact absurd c (by decide)
      have k2 := q H (Same.refl H)
      rw [err_no (fun l r e z => by cases z; exact c' rfl)] at k2
      exact k2
    · have c' : ds.length = 3 := by
        refine Classical.byContradiction fun z => c ?_
        have z' : ¬ (V.int ((vs.length : Nat) : Int) = V.int 3) := fun y => z (by have := V.int.inj y; omega)
        rw [decide_eq_false z']
        rfl
      match ds, vs, c', hda, ha, hw, q with
      | [l, r, e], _, _, .cons (v := vl) h1 (.cons (v := vr) h2 (.cons (v := ve) h3 .nil)), ha, hw, q =>
        have wr : Small r := hw.mem (by simp)
        have we : Small e := hw.mem (by simp)
        rw [err_three] at q
        refine ⟨_, rfl, a, _, 0, vl, rfl, rfl, .inl (.inl ha), rfl, ?_⟩
        refine ⟨vl, l, 1, 4, rfl, h1, _, rfl, ?_⟩
        cases c1 : inR 1 4 l with
        | false =>
          have k2 := q H (Same.refl H)
          rw [c1] at k2
          exact k2
        | true =>
          obtain ⟨n, rfl⟩ := inR_int c1
          cases h1
          have q2 : ∀ G, Same H G → Q (if rowsOk n r then (if endsOk (len0 r) e then .non else .str "ends") else .str "rows") G := fun G s => by
            have k2 := q G s
            rw [c1] at k2
            exact k2
          refine ⟨_, rfl, a, _, 1, vr, rfl, rfl, .inl (.inl ha), rfl, _, rfl, a, _, 0, _, rfl, rfl, .inl (.inl ha), rfl, vr, r, n, rfl, h2, wr, fun G s1 => ⟨_, rfl, ?_⟩⟩
          cases c2 : rowsOk n r with
          | false =>
            have k2 := q2 G s1
            rw [c2] at k2
            exact k2
          | true =>
            obtain ⟨rs, rfl⟩ := rowsOk_tup c2
            cases h2 with
            | @tup b us _ hb hub =>
              have hul : us.length = rs.length := hub.length
              have q3 : ∀ G2, Same G G2 → Q (if endsOk (rs.length : Int) e then .non else .str "ends") G2 := fun G2 s2 => by
                have k2 := q2 G2 (s1.trans s2)
                rw [c2] at k2
                exact k2
              have h3 := h3.same s1
              obtain ⟨te, e1, e2⟩ := is_tuple h3
              refine ⟨_, rfl, a, _, 2, ve, rfl, rfl, .inl (.inl (s1 _ _ ha)), rfl, _, _, te, _, _, rfl, .ty _, e1, e2, _, rfl, ?_⟩
              cases h3 with
              | @tup k zs es hk hes =>
                have hzl : zs.length = es.length := hes.length
                refine iteF ⟨_, rfl, a, _, 2, _, rfl, rfl, .inl (.inl (s1 _ _ ha)), rfl, _, _, rfl, .inr (.inl (.inl hk)), _, rfl, a, _, 1, _, rfl, rfl, .inl (.inl (s1 _ _ ha)), rfl, _, _, rfl, .inr (.inl (.inl (s1 _ _ hb))), rfl, _, rfl, ite2 (fun c4 => ?_) (fun c4 => ?_)⟩
                · have c5 : ¬ ((es.length : Int) = rs.length) := by rw [← hzl, ← hul]; simpa using c4
                  have k2 := q3 G (Same.refl G)
                  have e5 : endsOk (rs.length : Int) (.tuple es) = false := by
                    show (decide ((es.length : Int) = rs.length) && _) = false
                    rw [decide_eq_false c5]; rfl
                  rw [e5] at k2
                  exact k2
                · have c5 : ((es.length : Int) = rs.length) := by rw [← hzl, ← hul]; simpa using c4
                  have e5 : endsOk (rs.length : Int) (.tuple es) = es.all isBl := by
                    show (decide ((es.length : Int) = rs.length) && _) = _
                    rw [decide_eq_true c5]; rfl
                  rw [e5] at q3
                  have zl := we.len
                  refine ⟨_, rfl, a, _, 2, _, rfl, rfl, .inl (.inl (s1 _ _ ha)), rfl, k, rfl, ⟨_, .inl (.inl hk)⟩, fun L nL => lc_tup (K := K) (a := k) (xs := zs) (fun j G2 => Same G G2 ∧ ∃ acc : List V, G2 L = some (.lst acc) ∧ acc.length ≤ j ∧
                    acc.isEmpty = (es.take j).all isBl) ⟨same_new nL _, [], upd_same, Nat.le_refl _, rfl⟩ (fun j G2 _ h => .inl (.inl (h.1 _ _ hk))) ?_ ?_⟩
                  · rintro j y G2 hy ⟨s2, acc, a1, a2, a3⟩
                    obtain ⟨dy, y1, hDy'⟩ := DtAll.get hes hy
                    have hDy := hDy'.same s2
                    have jl : j < es.length := (List.getElem?_eq_some_iff.mp y1).1
                    have tk : (es.take (j + 1)).all isBl = (acc.isEmpty && isBl dy) := by
                      rw [List.take_add_one, y1, List.all_append, ← a3]
                      simp
                    obtain ⟨tb, b1, b2⟩ := is_bool hDy
                    refine ⟨rfl, _, rfl, _, _, tb, _, _, rfl, .ty _, b1, b2, _, rfl, ?_⟩
                    cases c7 : isBl dy with
                    | true =>
                      refine ⟨s2, acc, a1, by omega, ?_⟩
                      rw [tk, c7, Bool.and_true]
                    | false =>
                      refine ⟨_, rfl, acc, a1, by show acc.length < 2 ^ 24; omega, same_grow nL s2 _, acc ++ [y], upd_same, by rw [List.length_append]; show acc.length + 1 ≤ j + 1; omega, ?_⟩
                      rw [tk, c7]
                      simp
                  · rintro G2 ⟨s2, acc, a1, a2, a3⟩
                    rw [hzl, List.take_length] at a3
                    refine ⟨by show 0 ≤ 2 ^ 24; decide, fun e nE => ?_⟩
                    refine ⟨L, e, acc, rfl, rfl, same_new nE _ _ _ a1, upd_same, _, rfl, ?_⟩
                    have k3 := q3 _ (s2.trans (same_new nE (.lst [])))
                    rw [← a3] at k3
                    cases c8 : acc.isEmpty with
                    | true => rw [c8] at k3; exact k3
                    | false => rw [c8] at k3; exact k3
              | int i => exact iteT (q3 G (Same.refl G))
              | bl b => exact iteT (q3 G (Same.refl G))
              | non => exact iteT (q3 G (Same.refl G))
              | str x => exact iteT (q3 G (Same.refl G))
              | lst _ _ => exact iteT (q3 G (Same.refl G))
              | dic _ => exact iteT (q3 G (Same.refl G))
  | int i => exact iteT (q H (Same.refl H))
  | bl b => exact iteT (q H (Same.refl H))
  | non => exact iteT (q H (Same.refl H))
  | str x => exact iteT (q H (Same.refl H))
  | lst _ _ => exact iteT (q H (Same.refl H))
  | dic _ => exact iteT (q H (Same.refl H))
end
end K21
namespace K21
open PySem L2 GL
abbrev sOdd : Stmt := top 16
abbrev sBent : Stmt := top 17
/-! ### what can be shown -/
mutual
theorem shown_wt {K : PySem.W.Frag} {H : Hp} : ∀ (d : PyData) (v : V), Dt K H v d → d.shown.length ≤ wt d
  | .none, _, _ => by decide +kernel
  | .bool b, _, _ => by cases b <;> decide +kernel
  | .int _, _, _ => Nat.le_refl _
  | .str _, _, _ => Nat.le_refl _
  | .list ds, _, h => by
    cases h with
    | lst _ ha =>
      have h1 := listText_len_le (PyData.shownAll ds)
      have h2 := shownAll_wt ds _ ha
      simp only [PyData.shown, wt]
      omega
  | .tuple ds, _, h => by
    cases h with
    | tup _ ha =>
      have h1 := tupleText_len_le (PyData.shownAll ds)
      have h2 := shownAll_wt ds _ ha
      simp only [PyData.shown, wt]
      omega
  | .dict _, _, h => by
    cases h with
    | dic _ =>
      simp only [PyData.shown, PyData.shownKv, wt]
      decide +kernel
theorem shownAll_wt {K : PySem.W.Frag} {H : Hp} : ∀ (ds : List PyData) (vs : List V), DtAll K H vs ds → ((PyData.shownAll ds).map (·.length)).sum + 2 * (PyData.shownAll ds).length ≤ wts ds
  | [], _, _ => by simp [PyData.shownAll, wts]
  | d :: ds, _, h => by
    cases h with
    | cons h1 h2 =>
      have e1 := shown_wt d _ h1
      have e2 := shownAll_wt ds _ h2
      simp only [PyData.shownAll, wts, List.map_cons, List.sum_cons, List.length_cons]
      omega
end
/-- small, shallow, with ints that can be shown -/
structure Fit (n k : Nat) (d : PyData) : Prop where
  w : wt d ≤ n
  k : d.depth ≤ k
  s : d.showable = true
structure FitAll (n k : Nat) (ds : List PyData) : Prop where
  w : wts ds ≤ n
  k : PyData.depthAll ds ≤ k
  s : PyData.showableAll ds = true
theorem Fit.mono {n k m j : Nat} {d : PyData} (h : Fit n k d) (a : n ≤ m) (b : k ≤ j) : Fit m j d := ⟨Nat.le_trans h.w a, Nat.le_trans h.k b, h.s⟩
theorem Fit.tup {n k : Nat} {ds : List PyData} (h : FitAll n k ds) : Fit (n + 3) (k + 1) (.tuple ds) := ⟨by simp only [wt]; have := h.w; omega, by simp only [PyData.depth]; have := h.k; omega, by simp only [PyData.showable]; exact h.s⟩
theorem Fit.lst {n k : Nat} {ds : List PyData} (h : FitAll n k ds) : Fit (n + 3) (k + 1) (.list ds) := ⟨by simp only [wt]; have := h.w; omega, by simp only [PyData.depth]; have := h.k; omega, by simp only [PyData.showable]; exact h.s⟩
theorem FitAll.nil {k : Nat} : FitAll 0 k [] := ⟨by simp only [wts]; exact Nat.le_refl 0, by simp only [PyData.depthAll]; exact Nat.zero_le _, by simp only [PyData.showableAll]⟩
theorem FitAll.cons {n m k : Nat} {d : PyData} {ds : List PyData} (a : Fit n k d) (b : FitAll m k ds) : FitAll (n + 2 + m) k (d :: ds) :=
  ⟨by simp only [wts]; have := a.w; have := b.w; omega, by simp only [PyData.depthAll]; exact Nat.max_le.mpr ⟨a.k, b.k⟩, by simp only [PyData.showableAll, a.s, b.s, Bool.and_self]⟩
theorem FitAll.mono {n k m j : Nat} {ds : List PyData} (h : FitAll n k ds) (a : n ≤ m) (b : k ≤ j) : FitAll m j ds := ⟨Nat.le_trans h.w a, Nat.le_trans h.k b, h.s⟩
theorem FitAll.append {n m k : Nat} : ∀ {ds es : List PyData}, FitAll n k ds → FitAll m k es → FitAll (n + m) k (ds ++ es)
  | [], es, _, b => b.mono (Nat.le_add_left _ _) (Nat.le_refl _)
  | d :: ds, es, a, b => by
    have w := a.w
    have kk := a.k
    have ss := a.s
    simp only [wts] at w
    simp only [PyData.depthAll] at kk
    simp only [PyData.showableAll, Bool.and_eq_true] at ss
    have r : FitAll (wts ds + m) k (ds ++ es) := FitAll.append ⟨Nat.le_refl _, Nat.le_trans (Nat.le_max_right _ _) kk, ss.2⟩ b
    exact (FitAll.cons (n := wt d) ⟨Nat.le_refl _, Nat.le_trans (Nat.le_max_left _ _) kk, ss.1⟩ r).mono (by omega) (Nat.le_refl _)
theorem FitAll.take {n k : Nat} : ∀ {ds : List PyData} (i : Nat), FitAll n k ds → FitAll n k (ds.take i)
  | ds, 0, _ => by rw [List.take_zero]; exact FitAll.nil.mono (Nat.zero_le _) (Nat.le_refl _)
  | [], i + 1, a => a
  | d :: ds, i + 1, a => by
    have w := a.w
    have kk := a.k
    have ss := a.s
    simp only [wts] at w
    simp only [PyData.depthAll] at kk
    simp only [PyData.showableAll, Bool.and_eq_true] at ss
    have r : FitAll (wts ds) k (ds.take i) := FitAll.take i ⟨Nat.le_refl _, Nat.le_trans (Nat.le_max_right _ _) kk, ss.2⟩
    exact (FitAll.cons (n := wt d) ⟨Nat.le_refl _, Nat.le_trans (Nat.le_max_left _ _) kk, ss.1⟩ r).mono (by omega) (Nat.le_refl _)
theorem FitAll.drop {n k : Nat} : ∀ {ds : List PyData} (i : Nat), FitAll n k ds → FitAll n k (ds.drop i)
  | ds, 0, a => a
  | [], i + 1, a => a
  | d :: ds, i + 1, a => by
    have w := a.w
    have kk := a.k
    have ss := a.s
    simp only [wts] at w
    simp only [PyData.depthAll] at kk
    simp only [PyData.showableAll, Bool.and_eq_true] at ss
    have r : FitAll (wts ds) k (ds.drop i) := FitAll.drop i ⟨Nat.le_refl _, Nat.le_trans (Nat.le_max_right _ _) kk, ss.2⟩
    exact r.mono (by omega) (Nat.le_refl _)
theorem FitAll.mem {n k : Nat} {d : PyData} : ∀ {ds : List PyData}, FitAll n k ds → d ∈ ds → Fit n k d
  | e :: ds, a, h => by
    have w := a.w
    have kk := a.k
    have ss := a.s
    simp only [wts] at w
    simp only [PyData.depthAll] at kk
    simp only [PyData.showableAll, Bool.and_eq_true] at ss
    rcases List.mem_cons.mp h with rfl | h
    · exact ⟨by omega, Nat.le_trans (Nat.le_max_left _ _) kk, ss.1⟩
    · exact FitAll.mem (ds := ds) ⟨by omega, Nat.le_trans (Nat.le_max_right _ _) kk, ss.2⟩ h
theorem Fit.all {n k : Nat} {ds : List PyData} (h : Fit n k (.tuple ds)) : FitAll n k ds ∧ PyData.depthAll ds + 1 ≤ k := by
  have w := h.w
  have kk := h.k
  have ss := h.s
  simp only [wt] at w
  simp only [PyData.depth] at kk
  simp only [PyData.showable] at ss
  exact ⟨⟨by omega, by omega, ss⟩, kk⟩
theorem fit_int {i : Int} {n : Nat} (h : i.natAbs < 10 ^ 41) (hn : 42 ≤ n) {k : Nat} : Fit n k (.int i) := by
  have e := int_text_length_le10 (k := 41) (by decide) h
  have l : wt (.int i) = (toString i).length := by simp only [wt, PyData.shown]; exact ofString_length _
  refine ⟨by rw [l]; omega, by simp only [PyData.depth]; exact Nat.zero_le _, ?_⟩
  simp only [PyData.showable, decide_eq_true_eq]
  have h2 : i.natAbs < 2 ^ 1920 := Nat.lt_trans h (by decide +kernel)
  by_cases z : i.natAbs = 0
  · rw [z]; decide
  · exact (Nat.log2_lt z).mpr h2
theorem fit_non {n k : Nat} (h : 5 ≤ n) : Fit n k .none := ⟨by simp only [wt]; omega, by simp only [PyData.depth]; exact Nat.zero_le _, by simp only [PyData.showable]⟩
theorem fit_bl {n k : Nat} {b : Bool} (h : 5 ≤ n) : Fit n k (.bool b) := ⟨by simp only [wt]; omega, by simp only [PyData.depth]; exact Nat.zero_le _, by simp only [PyData.showable]⟩
theorem fit_dic {n k : Nat} (h : 2 ≤ n) (hk : 1 ≤ k) : Fit n k (.dict []) := ⟨by simp only [wt]; omega, by simp only [PyData.depth, PyData.depthKv]; omega, by simp only [PyData.showable, PyData.showableKv]⟩
theorem fit_str {n k m : Nat} {x : Str} (e : (PyData.str x).shown.length ≤ m) (h : m ≤ n) : Fit n k (.str x) := ⟨by simp only [wt]; omega, by simp only [PyData.depth]; exact Nat.zero_le _, by simp only [PyData.showable]⟩
theorem fit_mach {l n : Nat} {md : PyData} (h : IsMach l n md) (hl : l ≤ 4) (hn : n ≤ 400) : Fit (188 * n + 60) 3 md := by
  obtain ⟨rs, bs, rfl, h1, h2, h3⟩ := h
  have row : ∀ xs : List PyData, (∀ x ∈ xs, x = .none ∨ ∃ i : Int, x = .int i ∧ 0 ≤ i ∧ i < n) → FitAll (44 * xs.length) 0 xs := by
    intro xs
    induction xs with
    | nil => intro _; exact FitAll.nil
    | cons x xs ih =>
      intro hx
      have a : Fit 42 0 x := by
        rcases hx x List.mem_cons_self with rfl | ⟨i, rfl, i0, i1⟩
        · exact fit_non (by decide)
        · exact fit_int (by have : i.natAbs < 400 := by omega
                            omega) (by decide)
      exact (FitAll.cons a (ih fun y hy => hx y (List.mem_cons_of_mem _ hy))).mono (by rw [List.length_cons]; omega) (Nat.le_refl _)
  have rows : ∀ rs : List PyData, (∀ r ∈ rs, IsRow l n r) → FitAll (181 * rs.length) 1 rs := by
    intro rs
    induction rs with
    | nil => intro _; exact FitAll.nil
    | cons r rs ih =>
      intro hr
      obtain ⟨xs, rfl, x1, x2⟩ := hr r List.mem_cons_self
      have a := Fit.tup (row xs x2)
      exact (FitAll.cons a (ih fun y hy => hr y (List.mem_cons_of_mem _ hy))).mono (by rw [List.length_cons, x1]; omega) (Nat.le_refl _)
  have bools : ∀ bs : List Bool, FitAll (7 * bs.length) 1 (bs.map PyData.bool) := by
    intro bs
    induction bs with
    | nil => exact FitAll.nil
    | cons b bs ih => exact (FitAll.cons (n := 5) (fit_bl (by decide)) ih).mono (by rw [List.length_cons]; omega) (Nat.le_refl _)
  have r1 := rows rs h3
  rw [h1] at r1
  have r2 := bools bs
  rw [h2] at r2
  have il : (l : Int).natAbs < 10 ^ 41 := Nat.lt_of_lt_of_le (show (l : Int).natAbs < 5 by omega) (by decide +kernel)
  exact (Fit.tup (FitAll.cons (fit_int (n := 42) il (by decide)) (FitAll.cons (Fit.tup r1) (FitAll.cons (Fit.tup r2) FitAll.nil)))).mono (by omega) (Nat.le_refl _)

/-! ### something else -/
/-- a value that may stand for something else -/
def Al (K : PySem.W.Frag) (d c : Addr) (G : Hp) (v : V) : Prop := ∃ x, Dt K (Hd d c G) v x ∧ Fit 100 2 x
theorem Al.same {K : PySem.W.Frag} {d c : Addr} {G G' : Hp} {v : V} (h : Al K d c G v) (s : Same (Hd d c G) (Hd d c G')) : Al K d c G' v := let ⟨x, h1, h2⟩ := h; ⟨x, h1.same s, h2⟩
theorem al_int {K : PySem.W.Frag} {d c : Addr} {G : Hp} {i : Int} (h : i.natAbs < 10 ^ 41) : Al K d c G (.int i) := ⟨_, .int i, fit_int h (by decide)⟩
def spOdd (K : PySem.W.Frag) : Sp := fun vs H Q _ => ∃ (d c : Addr) (many m : Nat), vs = [.ref d, .int many] ∧ Deck H d c m ∧ m ≤ 950000000 ∧ many ≤ 1000 ∧
  ∀ (v : V) (x : PyData) (G : Hp), Dt K (Hd d c G) v x → Fit 100 2 x → Deck G d c (m + 1) → Same (Hd d c H) (Hd d c G) → Q v G
section
variable {P : Program} {w : World} {K : PySem.W.Frag} {mg : Str → Option Value} {base : Heap}
theorem scO : FnScope ["_law_deck_here", "_law_many", "_law_some"] ["_law_deck_here", "_law_many"] (defScope sOdd) := ⟨rfl, rfl, rfl, by decide +kernel, rfl, by decide +kernel, by decide +kernel⟩
theorem ok_odd {f fO : Addr} {fd fdO : FuncData} (F : Fun K "_law_odd" "_law_odd" sOdd f fd) (O : Dfn P w K mg base "_law_one" 2 fO fdO ["_law_deck_here", "_law_items"] spOne) :
    FnOk P w K mg base CX0 3 f fd ["_law_deck_here", "_law_many"] (spOdd K) := by
  refine F.ok scO (fun vs H Q E h => ?_) (fun cdv A outer s H vs Q E hr h => ?_)
  · obtain ⟨d, c, many, m, rfl, _⟩ := h
    rfl
  obtain ⟨d, c, many, m, rfl, D, hm, mm, q⟩ := h
  refine ⟨_, pss_cons (ps_set (i := 2) scO.nd rfl (Or.inl rfl) (pe_lst (pa_cons pe_non (pa_cons pe_bl (pa_cons pe_bl (pa_cons pe_int (pa_cons pe_int (pa_cons pe_int (pa_cons pe_int (pa_cons (pe_un un_neg pe_int) (pa_cons (pv 1) (pa_cons (pe_op op_sub (pv 1) pe_int)
      (pa_cons (pe_op op_pow pe_int pe_int) (pa_cons pe_str (pa_cons pe_str (pa_cons pe_str (pa_cons (pe_tup pa_nil) (pa_cons (pe_lst pa_nil) (pa_cons pe_dnewK (pa_cons (pe_tup (pa_cons pe_int pa_nil)) (pa_cons (pe_lst (pa_cons pe_int pa_nil)) (pa_cons (pe_tup (pa_cons pe_non pa_nil)) pa_nil))))))))))))))))))))))
    (pss_one (ps_ret (pe_call O.ok hr rfl O.m O.kp O.b .nil pass0 (pa_cons (pv 0) (pa_cons (pe_op op_cat (pv 2) (pe_lst (pa_cons (pe_tup (pa_cons pe_bl pa_nil)) (pa_cons (pe_tup (pa_cons (pe_tup pa_nil) pa_nil)) (pa_cons (pe_tup (pa_cons pe_int (pa_cons pe_int pa_nil)))
      (pa_cons (pe_tup (pa_cons pe_int (pa_cons pe_non pa_nil))) (pa_cons pe_str (pa_cons (pe_tup (pa_cons pe_bl (pa_cons pe_bl pa_nil))) (pa_cons pe_int (pa_cons pe_int (pa_cons pe_int (pa_cons pe_int pa_nil)))))))))))) pa_nil))))), ?_⟩
  -- a new thing: the deck and all else stay
  have step : ∀ (G : Hp) (p : Addr) (o : HO), G p = none → Deck G d c m → Same (Hd d c H) (Hd d c G) → Deck (upd G p o) d c m ∧ Same (Hd d c H) (Hd d c (upd G p o)) ∧ Same (Hd d c G) (Hd d c (upd G p o)) ∧ Hd d c (upd G p o) p = some o := fun G p o n DG sG =>
    ⟨DG.new n o, sG.trans (hd_new n o), hd_new n o, hd_of upd_same (DG.free n).1 (DG.free n).2⟩
  refine ⟨_, rfl, _, rfl, _, rfl, _, _, rfl, rfl, _, _, rfl, rfl, ⟨by decide, by decide, by decide⟩, ?_⟩
  refine ⟨by decide, fun t0 n0 => ?_⟩
  obtain ⟨D0, s0, e0, f0⟩ := step _ _ (.tup []) n0 D (Same.refl _)
  generalize upd H t0 (.tup []) = G0 at D0 s0 e0 f0
  have a0 : Al K d c G0 (.ref t0) := ⟨_, .tup f0 .nil, (Fit.tup (FitAll.nil (k := 0))).mono (by decide) (by decide)⟩
  refine ⟨by decide, fun t1 n1 => ?_⟩
  obtain ⟨D1, s1, e1, f1⟩ := step _ _ (.lst []) n1 D0 s0
  generalize upd G0 t1 (.lst []) = G1 at D1 s1 e1 f1
  have a1 : Al K d c G1 (.ref t1) := ⟨_, .lst f1 .nil, (Fit.lst (FitAll.nil (k := 0))).mono (by decide) (by decide)⟩
  intro t2 n2
  obtain ⟨D2, s2, e2, f2⟩ := step _ _ (.dK []) n2 D1 s1
  generalize upd G1 t2 (.dK []) = G2 at D2 s2 e2 f2
  have a2 : Al K d c G2 (.ref t2) := ⟨_, .dic f2, fit_dic (by decide) (by decide)⟩
  refine ⟨by decide, fun t3 n3 => ?_⟩
  obtain ⟨D3, s3, e3, f3⟩ := step _ _ (.tup [.int 0]) n3 D2 s2
  generalize upd G2 t3 (.tup [.int 0]) = G3 at D3 s3 e3 f3
  have a3 : Al K d c G3 (.ref t3) := ⟨_, .tup f3 (.cons (.int 0) .nil), (Fit.tup (FitAll.cons (n := 42) (k := 0) (fit_int (by decide) (by decide)) FitAll.nil)).mono (by decide) (by decide)⟩
  refine ⟨by decide, fun t4 n4 => ?_⟩
  obtain ⟨D4, s4, e4, f4⟩ := step _ _ (.lst [.int 0]) n4 D3 s3
  generalize upd G3 t4 (.lst [.int 0]) = G4 at D4 s4 e4 f4
  have a4 : Al K d c G4 (.ref t4) := ⟨_, .lst f4 (.cons (.int 0) .nil), (Fit.lst (FitAll.cons (n := 42) (k := 0) (fit_int (by decide) (by decide)) FitAll.nil)).mono (by decide) (by decide)⟩
  refine ⟨by decide, fun t5 n5 => ?_⟩
  obtain ⟨D5, s5, e5, f5⟩ := step _ _ (.tup [.non]) n5 D4 s4
  generalize upd G4 t5 (.tup [.non]) = G5 at D5 s5 e5 f5
  have a5 : Al K d c G5 (.ref t5) := ⟨_, .tup f5 (.cons .non .nil), (Fit.tup (FitAll.cons (n := 5) (k := 0) (fit_non (by decide)) FitAll.nil)).mono (by decide) (by decide)⟩
  have mi : ((many : Int)).natAbs < 10 ^ 41 := Nat.lt_of_lt_of_le (show ((many : Int)).natAbs < 1001 by omega) (by decide +kernel)
  have mi2 : ((many : Int) - 1).natAbs < 10 ^ 41 := Nat.lt_of_lt_of_le (show ((many : Int) - 1).natAbs < 1001 by omega) (by decide +kernel)
  have al1 : ∀ v ∈ ([V.non, V.bl true, V.bl false, V.int 0, V.int 1, V.int 4, V.int 5, V.int (-1), V.int (many : Int), V.int ((many : Int) - 1), V.int (10 ^ (40 : Int).toNat), V.str "", V.str "a", V.str "0", V.ref t0, V.ref t1, V.ref t2, V.ref t3, V.ref t4, V.ref t5] : List V), Al K d c G5 v := by
    simp only [List.forall_mem_cons]
    refine ⟨⟨_, .non, fit_non (by decide)⟩, ⟨_, .bl _, fit_bl (by decide)⟩, ⟨_, .bl _, fit_bl (by decide)⟩, al_int (by decide), al_int (by decide), al_int (by decide), al_int (by decide), al_int (by decide), al_int mi, al_int mi2, al_int (by decide +kernel),
      ⟨_, .str _, fit_str (m := 10) (by decide +kernel) (by decide)⟩, ⟨_, .str _, fit_str (m := 10) (by decide +kernel) (by decide)⟩, ⟨_, .str _, fit_str (m := 10) (by decide +kernel) (by decide)⟩,
      a0.same (e1.trans (e2.trans (e3.trans (e4.trans e5)))), a1.same (e2.trans (e3.trans (e4.trans e5))), a2.same (e3.trans (e4.trans e5)), a3.same (e4.trans e5), a4.same e5, a5, fun _ h => nomatch h⟩
  refine ⟨by show 20 ≤ 2 ^ 24; decide, fun la nla => ?_⟩
  obtain ⟨D6, s6, e6, f6⟩ := step _ _ _ nla D5 s5
  have al6 := fun v hv => (al1 v hv).same e6
  refine ⟨_, rfl, _, rfl, by show 1 ≤ 2 ^ 24; decide, fun u0 m0 => ?_⟩
  obtain ⟨D7, s7, e7, f7⟩ := step _ _ _ m0 D6 s6
  have b0 : Al K d c _ (.ref u0) := ⟨_, .tup f7 (.cons (.bl true) .nil), (Fit.tup (FitAll.cons (n := 5) (k := 0) (fit_bl (by decide)) FitAll.nil)).mono (by decide) (by decide)⟩
  refine ⟨by show 0 ≤ 2 ^ 24; decide, fun ue me => ?_⟩
  obtain ⟨D8, s8, e8, f8⟩ := step _ _ _ me D7 s7
  refine ⟨by show 1 ≤ 2 ^ 24; decide, fun u1 m1 => ?_⟩
  obtain ⟨D9, s9, e9, f9⟩ := step _ _ _ m1 D8 s8
  have b1 : Al K d c _ (.ref u1) := ⟨_, .tup f9 (.cons (.tup (e9 _ _ f8) .nil) .nil), (Fit.tup (FitAll.cons (Fit.tup (FitAll.nil (k := 0))) FitAll.nil)).mono (by decide) (by decide)⟩
  refine ⟨by show 2 ≤ 2 ^ 24; decide, fun u2 m2 => ?_⟩
  obtain ⟨D10, s10, e10, f10⟩ := step _ _ _ m2 D9 s9
  have b2 : Al K d c _ (.ref u2) := ⟨_, .tup f10 (.cons (.int 0) (.cons (.int 0) .nil)), (Fit.tup (FitAll.cons (n := 42) (k := 0) (fit_int (by decide) (by decide)) (FitAll.cons (n := 42) (fit_int (by decide) (by decide)) FitAll.nil))).mono (by decide) (by decide)⟩
  refine ⟨by show 2 ≤ 2 ^ 24; decide, fun u3 m3 => ?_⟩
  obtain ⟨D11, s11, e11, f11⟩ := step _ _ _ m3 D10 s10
  have b3 : Al K d c _ (.ref u3) := ⟨_, .tup f11 (.cons (.int 0) (.cons .non .nil)), (Fit.tup (FitAll.cons (n := 42) (k := 0) (fit_int (by decide) (by decide)) (FitAll.cons (n := 5) (fit_non (by decide)) FitAll.nil))).mono (by decide) (by decide)⟩
  refine ⟨by show 2 ≤ 2 ^ 24; decide, fun u4 m4 => ?_⟩
  obtain ⟨D12, s12, e12, f12⟩ := step _ _ _ m4 D11 s11
  have b4 : Al K d c _ (.ref u4) := ⟨_, .tup f12 (.cons (.bl false) (.cons (.bl true) .nil)), (Fit.tup (FitAll.cons (n := 5) (k := 0) (fit_bl (by decide)) (FitAll.cons (n := 5) (fit_bl (by decide)) FitAll.nil))).mono (by decide) (by decide)⟩
  refine ⟨by show 10 ≤ 2 ^ 24; decide, fun lb nlb => ?_⟩
  obtain ⟨D13, s13, e13, f13⟩ := step _ _ _ nlb D12 s12
  have e7' := e7.trans (e8.trans (e9.trans (e10.trans (e11.trans (e12.trans e13)))))
  refine ⟨la, lb, _, _, rfl, rfl, hd_sub _ _ (e7' _ _ f6), hd_sub _ _ f13, by show 30 ≤ 2 ^ 24; decide, fun lc nlc => ?_⟩
  obtain ⟨D14, s14, e14, f14⟩ := step _ _ _ nlc D13 s13
  have mk : ∀ G : Hp, Al K d c G (.ref u0) → Al K d c G (.ref u1) → Al K d c G (.ref u2) → Al K d c G (.ref u3) → Al K d c G (.ref u4) → ∀ v ∈ ([V.ref u0, V.ref u1, V.ref u2, V.ref u3, V.str "ends", V.ref u4, V.int 2, V.int 3, V.int 400, V.int 401] : List V), Al K d c G v := by
    intro G g0 g1 g2 g3 g4
    simp only [List.forall_mem_cons]
    exact ⟨g0, g1, g2, g3, ⟨_, .str _, fit_str (m := 10) (by decide +kernel) (by decide)⟩, g4, al_int (by decide), al_int (by decide), al_int (by decide), al_int (by decide), fun _ h => nomatch h⟩
  have al2 := mk _ (b0.same (e8.trans (e9.trans (e10.trans (e11.trans (e12.trans (e13.trans e14))))))) (b1.same (e10.trans (e11.trans (e12.trans (e13.trans e14))))) (b2.same (e11.trans (e12.trans (e13.trans e14)))) (b3.same (e12.trans (e13.trans e14))) (b4.same (e13.trans e14))
  refine ⟨d, c, lc, _, m, rfl, D14, by omega, f14, by show 0 < 30; decide, by show 30 ≤ 100000; decide, fun v G hv DG sG => ?_⟩
  obtain ⟨x, x1, x2⟩ := ((List.mem_append.mp hv).elim (fun hv => (al6 v hv).same (e7'.trans e14)) (fun hv => al2 v hv)).same sG
  exact q v x G x1 x2 DG (s14.trans sG)
end
end K21
namespace K21
open PySem L2 GL
/-! ### slices and sums of tuples, one way each -/
def rSlD : V → Option Int → Option Int → Hp → VK → Prop := fun x lo hi H Q => ∃ (a : Addr) (xs : List V), x = .ref a ∧ H a = some (.tup xs) ∧ ∀ (b : Addr) (G : Hp), Same H G → G b = some (.tup (cutV xs lo hi)) → Q (.ref b) G
theorem cut_whole {xs : List V} {lo hi : Option Int} (h : HT.sIx xs.length 0 lo = 0 ∧ HT.sIx xs.length xs.length hi = xs.length) : cutV xs lo hi = xs := by
  unfold cutV
  rw [h.1, h.2, List.drop_zero, Nat.sub_zero, List.take_length]
theorem sl_tupD {X : Cx} : SlR X rSlD := by
  intro pins s σ H x v vl vu lo hi sl Q I rx hs pl pu h
  obtain ⟨a, xs, rfl, ha, q⟩ := h
  exact sl_tupA pins s σ H _ v vl vu lo hi sl Q I rx hs pl pu ⟨a, xs, rfl, .inl (.inl ha), fun hw => q a H (Same.refl H) (by rw [cut_whole hw]; exact ha), fun _ p np => q p _ (same_new np _) upd_same⟩
def rCatD : R2 := fun x y H Q => ∃ (a b : Addr) (xs ys : List V), x = .ref a ∧ y = .ref b ∧ H a = some (.tup xs) ∧ H b = some (.tup ys) ∧ xs.length + ys.length ≤ sizeLine ∧ ∀ (p : Addr) (G : Hp), Same H G → G p = some (.tup (xs ++ ys)) → Q (.ref p) G
theorem op_catD {X : Cx} : OpR X (binaryOp .Add) rCatD := by
  intro pins s σ H x y v u Q I rx ry h
  obtain ⟨a, b, xs, ys, rfl, rfl, ha, hb, hz, q⟩ := h
  refine op_catA pins s σ H _ _ v u Q I rx ry ⟨a, b, xs, ys, rfl, rfl, .inl (.inl ha), .inl (.inl hb), hz, fun e => ?_, fun _ e => ?_, fun _ _ p np => q p _ (same_new np _) upd_same⟩
  · subst e; exact q b H (Same.refl H) hb
  · subst e; exact q a H (Same.refl H) (by rw [List.append_nil]; exact ha)
theorem cut_dt {K : PySem.W.Frag} {H : Hp} {vs : List V} {ds : List PyData} (lo hi : Option Int) (h : DtAll K H vs ds) : ∃ es, DtAll K H (cutV vs lo hi) es ∧ ∀ n k, FitAll n k ds → FitAll n k es :=
  ⟨_, (h.drop _).take _, fun _ _ f => (f.drop _).take _⟩
theorem Deck.tup {H : Hp} {d c b : Addr} {m : Nat} {xs : List V} (D : Deck H d c m) (h : H b = some (.tup xs)) : Hd d c H b = some (.tup xs) := by
  obtain ⟨L, n, h1, h2, _⟩ := D.ex
  exact hd_of h (ne_of h h1 fun z => nomatch z) (ne_of h h2 fun z => nomatch z)

def spBent (K : PySem.W.Frag) (n : Nat) : Sp := fun vs H Q _ => ∃ (d c : Addr) (v : V) (x : PyData) (many m sz k deep : Nat), vs = [.ref d, v, .int many, .int deep] ∧ deep + 1 = n ∧ deep ≤ 3 ∧ Deck H d c m ∧ m + 4 * deep ≤ 900000000 ∧ many ≤ 1000 ∧ Dt K (Hd d c H) v x ∧ Fit sz k x ∧ sz ≤ 100000 ∧
  ∀ (v' : V) (x' : PyData) (G : Hp), Dt K (Hd d c G) v' x' → Fit (3 * (deep * sz) + 200 * (deep + 1)) (k + 3) x' → Deck G d c (m + 4 * deep + 1) → Same (Hd d c H) (Hd d c G) → Q v' G
theorem fit_len {n k : Nat} {ds : List PyData} (h : FitAll n k ds) : ds.length ≤ n := Nat.le_trans (len_wts ds) h.w

section
variable {P : Program} {w : World} {K : PySem.W.Frag} {mg : Str → Option Value} {base : Heap}
theorem scB : FnScope ["_law_deck_here", "_law_value", "_law_many", "_law_deep", "_law_at", "_law_way"] ["_law_deck_here", "_law_value", "_law_many", "_law_deep"] (defScope sBent) := ⟨rfl, rfl, rfl, by decide +kernel, rfl, by decide +kernel, by decide +kernel⟩
theorem ok_bent_step {f fD fO : Addr} {fd fdD fdO : FuncData} {n : Nat} (F : Fun K "_law_bent" "_law_bent" sBent f fd) (T : Txt mg) (W : Dfn P w K mg base "_law_draw" 1 fD fdD ["_law_deck_here", "_law_many"] spDraw)
    (O : Dfn P w K mg base "_law_odd" 3 fO fdO ["_law_deck_here", "_law_many"] (spOdd K)) (B : Dfn P w K mg base "_law_bent" (n + 3) f fd ["_law_deck_here", "_law_value", "_law_many", "_law_deep"] (spBent K n)) :
    FnOk P w K mg base CX0 (n + 4) f fd ["_law_deck_here", "_law_value", "_law_many", "_law_deep"] (spBent K (n + 1)) := by
  refine F.ok scB (fun vs H Q E h => ?_) (fun cdv A outer s H vs Q E hr h => ?_)
  · obtain ⟨d, c, v, x, many, m, sz, k, deep, rfl, _⟩ := h
    rfl
  obtain ⟨d, c, v, x, many, m, sz, k, deep, rfl, hn, d3, D, hm, mm, hd, hf, hsz, q⟩ := h
  have hr1 : Room 1 _ := hr.mono (by omega)
  have hr3 : Room 3 _ := hr.mono (by omega)
  refine ⟨_, pss_cons (ps_if (PW.pt (pw_or (pt_cmpR op_eq (pv 3) pe_int (nomark _)) (pw_or (pt_not (pt_val (pe_callB call_isi (by rfl) T.isi (by decide +kernel) (pa_cons (pv 1) (pa_cons (pe_bltn (v := .ty "tuple") (by rfl) T.tuple (by decide +kernel) rfl) pa_nil)))))
      (pw_or1 (pt_cmpR (op_eq0 hr.units0) (pv 1) (pe_tup pa_nil) (nomark _)))))) (pss_one (ps_ret (pe_call O.ok hr3 rfl O.m O.kp O.b .nil pass0 (pa_cons (pv 0) (pa_cons (pv 2) pa_nil))))) pss_nil)
    (pss_cons (ps_par (i := 4) (j := 5) (by rfl) scB.nd rfl rfl (by decide) rfl rfl (pa_cons (pe_call W.ok hr1 rfl W.m W.kp W.b .nil pass0 (pa_cons (pv 0) (pa_cons (pe_callB call_len_seq (by rfl) T.len PySem.boot_len (pa_cons (pv 1) pa_nil)) pa_nil)))
      (pa_cons (pe_call W.ok hr1 rfl W.m W.kp W.b .nil pass0 (pa_cons (pv 0) (pa_cons pe_int pa_nil))) pa_nil)) (by rfl))
    (pss_cons (ps_if (pt_cmpR op_eq (pv 5) pe_int (nomark _)) (pss_one (ps_ret (pe_op op_catD (pe_slice sl_tupD (pv 1) po_none (po_some (pv 4))) (pe_slice sl_tupD (pv 1) (po_some (pe_op op_add (pv 4) pe_int)) po_none)))) pss_nil)
    (pss_cons (ps_if (pt_cmpR op_eq (pv 5) pe_int (nomark _)) (pss_one (ps_ret (pe_op op_catD (pe_op op_catD (pe_slice sl_tupD (pv 1) po_none (po_some (pv 4))) (pe_slice sl_tupD (pv 1) (po_some (pv 4)) (po_some (pe_op op_add (pv 4) pe_int)))) (pe_slice sl_tupD (pv 1) (po_some (pv 4)) po_none)))) pss_nil)
    (pss_cons (ps_if (pt_cmpR op_eq (pv 5) pe_int (nomark _)) (pss_one (ps_ret (pe_callTy call_list_of (by rfl) T.list (by decide +kernel) (pa_cons (pv 1) pa_nil)))) pss_nil)
    (pss_cons (ps_if (pt_cmpR op_eq (pv 5) pe_int (nomark _)) (pss_one (ps_ret (pe_op op_catD (pe_op op_catD (pe_slice sl_tupD (pv 1) po_none (po_some (pv 4))) (pe_tup (pa_cons (pe_call O.ok hr3 rfl O.m O.kp O.b .nil pass0 (pa_cons (pv 0) (pa_cons (pv 2) pa_nil))) pa_nil))) (pe_slice sl_tupD (pv 1) (po_some (pe_op op_add (pv 4) pe_int)) po_none)))) pss_nil)
    (pss_one (ps_ret (pe_op op_catD (pe_op op_catD (pe_slice sl_tupD (pv 1) po_none (po_some (pv 4))) (pe_tup (pa_cons (pe_call B.ok hr rfl B.m B.kp B.b .nil pass0 (pa_cons (pv 0) (pa_cons (pe_ix ix_tup (pv 1) (pv 4) (fun _ _ => rfl)) (pa_cons (pv 2) (pa_cons (pe_op op_sub (pv 3) pe_int) pa_nil))))) pa_nil)))
      (pe_slice sl_tupD (pv 1) (po_some (pe_op op_add (pv 4) pe_int)) po_none))))))))), ?_⟩
  have odd : ∀ (v' : V) (x' : PyData) (G : Hp), Dt K (Hd d c G) v' x' → Fit 100 2 x' → Deck G d c (m + 1) → Same (Hd d c H) (Hd d c G) → Q v' G := fun v' x' G h1 h2 h3 h4 =>
    q v' x' G h1 (h2.mono (by omega) (by omega)) (h3.mono (by omega)) h4
  refine ⟨_, rfl, rfl, _, rfl, ite2 (fun c0 => ?_) (fun c0 => ?_)⟩
  · exact ⟨_, rfl, _, rfl, d, c, many, m, rfl, D, by omega, mm, odd⟩
  have dp : 0 < deep := by
    refine Nat.pos_of_ne_zero fun z => c0 ?_
    subst z
    rfl
  obtain ⟨tt, t1, t2⟩ := is_tuple (hd.same hd_sub)
  refine ⟨_, rfl, _, _, tt, _, _, rfl, .ty _, t1, t2, _, rfl, ?_⟩
  cases hd with
  | @tup a vs ds ha hda =>
    obtain ⟨fa, fk⟩ := hf.all
    refine iteF ⟨_, rfl, by show 0 ≤ 2 ^ 24; decide, fun e nE => ?_⟩
    have s1 : Same (Hd d c H) (Hd d c (upd H e (.tup []))) := hd_new nE _
    have D1 := D.new nE (.tup [])
    have g1 : upd H e (.tup []) a = some (.tup vs) := hd_sub _ _ (s1 _ _ ha)
    have ge : upd H e (.tup []) e = some (.tup []) := upd_same
    generalize upd H e (.tup []) = H1 at s1 D1 g1 ge
    refine ⟨a, e, vs, rfl, rfl, g1, ge, _, rfl, ite2 (fun c1 => ?_) (fun c1 => ?_)⟩
    · exact ⟨_, rfl, _, rfl, d, c, many, m, rfl, D1, by omega, mm, fun v' x' G h1 h2 h3 h4 => odd v' x' G h1 h2 h3 (s1.trans h4)⟩
    have vl : 0 < vs.length := by
      cases vs with
      | nil => exact absurd rfl c1
      | cons y ys => exact Nat.succ_pos _
    have ll : vs.length = ds.length := hda.length
    have lz := fit_len fa
    refine ⟨_, rfl, _, rfl, a, vs, rfl, .inr (.inl (.inl g1)), d, c, vs.length, m, rfl, D1, by omega, by omega, by omega, fun at' G a0 a1 D2 s2 => ⟨_, rfl, d, c, 10, _, rfl, D2, by omega, by decide, by decide, fun way G2 w0 w1 D3 s3 => ⟨_, _, rfl, ?_⟩⟩⟩
    have sH := s1.trans (s2.trans s3)
    have ga : G2 a = some (.tup vs) := hd_sub _ _ (sH _ _ ha)
    have dd : DtAll K (Hd d c G2) vs ds := hda.same sH
    -- the end: a tuple of data
    have fin : ∀ (us : List V) (es : List PyData) (p : Addr) (G : Hp) (N j mz : Nat), G p = some (.tup us) → DtAll K (Hd d c G) us es → FitAll N j es → N + 3 ≤ 3 * (deep * sz) + 200 * (deep + 1) → j + 1 ≤ k + 3 → Deck G d c mz → mz ≤ m + 4 * deep + 1 →
        Same (Hd d c H) (Hd d c G) → Q (.ref p) G := fun us es p G N j mz gp hd' hf' hN hj D' hm' hs => q (.ref p) (.tuple es) G (.tup (D'.tup gp) hd') ((Fit.tup hf').mono hN hj) (D'.mono hm') hs
    have dz : sz ≤ deep * sz := Nat.le_mul_of_pos_left sz dp
    have cl : ∀ lo hi, (cutV vs lo hi).length ≤ vs.length := fun lo hi => cutV_length vs lo hi
    refine ⟨_, rfl, rfl, _, rfl, ite2 (fun _ => ?_) (fun _ => ?_)⟩
    · obtain ⟨e1, x1, y1⟩ := cut_dt none (some at') dd
      obtain ⟨e2, x2, y2⟩ := cut_dt (some (at' + 1)) none dd
      have l1 := cl none (some at')
      have l2 := cl (some (at' + 1)) none
      refine ⟨_, rfl, _, rfl, _, rfl, a, vs, rfl, ga, fun b1 G3 s4 g3 => ⟨_, rfl, _, rfl, _, _, rfl, rfl, _, rfl, a, vs, rfl, s4 _ _ ga, fun b2 G4 s5 g4 => ⟨b1, b2, _, _, rfl, rfl, s5 _ _ g3, g4, by show _ ≤ 2 ^ 24; omega, fun p G5 s6 gp => ?_⟩⟩⟩
      have st := s4.trans (s5.trans s6)
      exact fin _ _ p G5 (sz + sz) k _ gp ((x1.append x2).same (hd_same st)) ((y1 _ _ fa).append (y2 _ _ fa)) (by omega) (by omega) (D3.same st) (by omega) (sH.trans (hd_same st))
    refine ⟨_, rfl, rfl, _, rfl, ite2 (fun _ => ?_) (fun _ => ?_)⟩
    · obtain ⟨e1, x1, y1⟩ := cut_dt none (some at') dd
      obtain ⟨e2, x2, y2⟩ := cut_dt (some at') (some (at' + 1)) dd
      obtain ⟨e3, x3, y3⟩ := cut_dt (some at') none dd
      have l1 := cl none (some at')
      have l2 := cl (some at') (some (at' + 1))
      have l3 := cl (some at') none
      refine ⟨_, rfl, _, rfl, _, rfl, a, vs, rfl, ga, fun b1 G3 s4 g3 => ⟨_, rfl, _, rfl, _, rfl, _, rfl, _, _, rfl, rfl, _, rfl, a, vs, rfl, s4 _ _ ga, fun b2 G4 s5 g4 => ⟨b1, b2, _, _, rfl, rfl, s5 _ _ g3, g4, by show _ ≤ 2 ^ 24; omega, fun p G5 s6 gp => ?_⟩⟩⟩
      refine ⟨_, rfl, _, rfl, _, rfl, a, vs, rfl, s6 _ _ (s5 _ _ (s4 _ _ ga)), fun b3 G6 s7 g7 => ⟨p, b3, _, _, rfl, rfl, s7 _ _ gp, g7, by rw [List.length_append]; show _ ≤ 2 ^ 24; omega, fun p2 G7 s8 gp2 => ?_⟩⟩
      have st := s4.trans (s5.trans (s6.trans (s7.trans s8)))
      exact fin _ _ p2 G7 (sz + sz + sz) k _ gp2 (((x1.append x2).append x3).same (hd_same st)) (((y1 _ _ fa).append (y2 _ _ fa)).append (y3 _ _ fa)) (by omega) (by omega) (D3.same st) (by omega) (sH.trans (hd_same st))
    refine ⟨_, rfl, rfl, _, rfl, ite2 (fun _ => ?_) (fun _ => ?_)⟩
    · refine ⟨_, rfl, a, vs, rfl, .inr (.inl (.inl ga)), fun l nl => ?_⟩
      have fl := D3.free nl
      exact q (.ref l) (.list ds) _ (.lst (hd_of upd_same fl.1 fl.2) (dd.same (hd_new nl _))) ((Fit.lst fa).mono (by omega) (by omega)) ((D3.new nl _).mono (by omega)) (sH.trans (hd_new nl _))
    refine ⟨_, rfl, rfl, _, rfl, ite2 (fun _ => ?_) (fun _ => ?_)⟩
    · obtain ⟨e1, x1, y1⟩ := cut_dt none (some at') dd
      obtain ⟨e2, x2, y2⟩ := cut_dt (some (at' + 1)) none dd
      have l1 := cl none (some at')
      have l2 := cl (some (at' + 1)) none
      refine ⟨_, rfl, _, rfl, _, rfl, a, vs, rfl, ga, fun b1 G3 s4 g3 => ⟨_, rfl, _, rfl, d, c, many, _, rfl, D3.same s4, by omega, mm, fun v' x' G4 h1 h2 h3 h4 => ⟨by show 1 ≤ 2 ^ 24; decide, fun t nt => ?_⟩⟩⟩
      have gb : upd G4 t (.tup [v']) b1 = some (.tup (cutV vs none (some at'))) := same_new nt _ _ _ (hd_sub _ _ (h4 _ _ ((D3.same s4).tup g3)))
      have ga2 : upd G4 t (.tup [v']) a = some (.tup vs) := same_new nt _ _ _ (hd_sub _ _ (h4 _ _ ((D3.same s4).tup (s4 _ _ ga))))
      refine ⟨b1, t, _, _, rfl, rfl, gb, upd_same, by show _ ≤ 2 ^ 24; rw [List.length_singleton]; omega, fun p G5 s6 gp => ?_⟩
      refine ⟨_, rfl, _, rfl, _, _, rfl, rfl, _, rfl, a, vs, rfl, s6 _ _ ga2, fun b2 G6 s7 g7 => ⟨p, b2, _, _, rfl, rfl, s7 _ _ gp, g7, by rw [List.length_append, List.length_singleton]; show _ ≤ 2 ^ 24; omega, fun p2 G7 s8 gp2 => ?_⟩⟩
      have sA : Same (Hd d c G2) (Hd d c G4) := (hd_same s4).trans h4
      have sB : Same (Hd d c G4) (Hd d c G7) := (hd_new nt _).trans (hd_same (s6.trans (s7.trans s8)))
      exact fin _ _ p2 G7 (sz + (100 + 2 + 0) + sz) (k + 2) _ gp2 ((((x1.same sA).append (.cons h1 .nil)).append (x2.same sA)).same sB)
        ((((y1 _ _ fa).mono (Nat.le_refl _) (by omega)).append (.cons (h2.mono (Nat.le_refl _) (by omega)) .nil)).append ((y2 _ _ fa).mono (Nat.le_refl _) (by omega))) (by omega) (by omega) ((h3.new nt _).same (s6.trans (s7.trans s8))) (by omega) (sH.trans (sA.trans sB))
    · obtain ⟨e1, x1, y1⟩ := cut_dt none (some at') dd
      obtain ⟨e2, x2, y2⟩ := cut_dt (some (at' + 1)) none dd
      have l1 := cl none (some at')
      have l2 := cl (some (at' + 1)) none
      obtain ⟨j, rfl⟩ : ∃ j : Nat, at' = (j : Int) := ⟨at'.toNat, by omega⟩
      have jl : j < vs.length := by omega
      obtain ⟨y, hy⟩ : ∃ y, vs[j]? = some y := ⟨_, List.getElem?_eq_getElem jl⟩
      obtain ⟨dy, z1, z2⟩ := dd.get hy
      have fy := fa.mem (List.mem_of_getElem? z1)
      obtain ⟨dp', rfl⟩ : ∃ dp', deep = dp' + 1 := ⟨deep - 1, by omega⟩
      have fy2 : Fit sz (k - 1) dy := ⟨fy.w, by
        have h9 : ∀ (l : List PyData), dy ∈ l → dy.depth ≤ PyData.depthAll l := by
          intro l
          induction l with
          | nil => intro z; cases z
          | cons u l ih =>
            intro z
            simp only [PyData.depthAll]
            rcases List.mem_cons.mp z with rfl | z
            · exact Nat.le_max_left _ _
            · exact Nat.le_trans (ih z) (Nat.le_max_right _ _)
        have := h9 ds (List.mem_of_getElem? z1)
        omega, fy.s⟩
      refine ⟨_, rfl, _, rfl, _, rfl, a, vs, rfl, ga, fun b1 G3 s4 g3 => ⟨_, rfl, _, rfl, _, rfl, a, vs, _, y, rfl, rfl, .inl (.inl (s4 _ _ ga)), atI_nat hy, _, rfl, _, rfl, _, _, rfl, rfl, d, c, y, dy, many, _, sz, k - 1, dp', ?_, by omega, by omega, D3.same s4, by omega, mm, z2.same (hd_same s4), fy2, hsz,
        fun v' x' G4 h1 h2 h3 h4 => ⟨by show 1 ≤ 2 ^ 24; decide, fun t nt => ?_⟩⟩⟩
      · have e9 : (((dp' + 1 : Nat) : Int) - 1) = (dp' : Int) := by omega
        show [V.ref d, y, V.int (many : Int), V.int (((dp' + 1 : Nat) : Int) - 1)] = _
        rw [e9]
      have gb : upd G4 t (.tup [v']) b1 = some (.tup (cutV vs none (some (j : Int)))) := same_new nt _ _ _ (hd_sub _ _ (h4 _ _ ((D3.same s4).tup g3)))
      have ga2 : upd G4 t (.tup [v']) a = some (.tup vs) := same_new nt _ _ _ (hd_sub _ _ (h4 _ _ ((D3.same s4).tup (s4 _ _ ga))))
      refine ⟨b1, t, _, _, rfl, rfl, gb, upd_same, by show _ ≤ 2 ^ 24; rw [List.length_singleton]; omega, fun p G5 s6 gp => ?_⟩
      refine ⟨_, rfl, _, rfl, _, _, rfl, rfl, _, rfl, a, vs, rfl, s6 _ _ ga2, fun b2 G6 s7 g7 => ⟨p, b2, _, _, rfl, rfl, s7 _ _ gp, g7, by rw [List.length_append, List.length_singleton]; show _ ≤ 2 ^ 24; omega, fun p2 G7 s8 gp2 => ?_⟩⟩
      have sA : Same (Hd d c G2) (Hd d c G4) := (hd_same s4).trans h4
      have sB : Same (Hd d c G4) (Hd d c G7) := (hd_new nt _).trans (hd_same (s6.trans (s7.trans s8)))
      have e8 : (dp' + 1) * sz = dp' * sz + sz := Nat.succ_mul _ _
      exact fin _ _ p2 G7 (sz + (3 * (dp' * sz) + 200 * (dp' + 1) + 2 + 0) + sz) (k + 2) _ gp2 ((((x1.same sA).append (.cons h1 .nil)).append (x2.same sA)).same sB)
        ((((y1 _ _ fa).mono (Nat.le_refl _) (by omega)).append (.cons (h2.mono (Nat.le_refl _) (by omega)) .nil)).append ((y2 _ _ fa).mono (Nat.le_refl _) (by omega))) (by omega) (by omega) ((h3.new nt _).same (s6.trans (s7.trans s8))) (by omega) (sH.trans (sA.trans sB))
  | int i => exact iteT ⟨_, rfl, _, rfl, d, c, many, m, rfl, D, by omega, mm, odd⟩
  | bl b => exact iteT ⟨_, rfl, _, rfl, d, c, many, m, rfl, D, by omega, mm, odd⟩
  | non => exact iteT ⟨_, rfl, _, rfl, d, c, many, m, rfl, D, by omega, mm, odd⟩
  | str x => exact iteT ⟨_, rfl, _, rfl, d, c, many, m, rfl, D, by omega, mm, odd⟩
  | lst _ _ => exact iteT ⟨_, rfl, _, rfl, d, c, many, m, rfl, D, by omega, mm, odd⟩
  | dic _ => exact iteT ⟨_, rfl, _, rfl, d, c, many, m, rfl, D, by omega, mm, odd⟩
theorem no_bent {f : Addr} {fd : FuncData} : FnOk P w K mg base CX0 3 f fd ["_law_deck_here", "_law_value", "_law_many", "_law_deep"] (spBent K 0) := by
  have no : ∀ vs H Q E, ¬ spBent K 0 vs H Q E := fun vs H Q E h => by
    obtain ⟨d, c, v, x, many, m, sz, k, deep, _, z, _⟩ := h
    exact absurd z (Nat.succ_ne_zero _)
  exact ⟨fun vs H Q E h => (no vs H Q E h).elim, fun A outer s H args us vs Q E _ _ _ _ h => (no vs H Q E h).elim⟩
theorem ok_bent {f fD fO : Addr} {fd fdD fdO : FuncData} (F : Fun K "_law_bent" "_law_bent" sBent f fd) (b : L2.Binds K fd ["_law_deck_here", "_law_value", "_law_many", "_law_deep"] []) (m : mg "_law_bent" = some (.ref f)) (T : Txt mg)
    (W : Dfn P w K mg base "_law_draw" 1 fD fdD ["_law_deck_here", "_law_many"] spDraw) (O : Dfn P w K mg base "_law_odd" 3 fO fdO ["_law_deck_here", "_law_many"] (spOdd K)) :
    ∀ n : Nat, FnOk P w K mg base CX0 (n + 3) f fd ["_law_deck_here", "_law_value", "_law_many", "_law_deep"] (spBent K n)
  | 0 => no_bent
  | n + 1 => ok_bent_step F T W O ⟨ok_bent F b m T W O n, b, m, F.kp⟩
end
end K21
/-! t[::-1] of a tuple -/
namespace GL
open PySem PySem.Spec PyProof.Rows L2 HT
theorem back_places (n : Nat) : Builtin.Slice.sliceAdjust none none (-1) (n : Int) = ((n : Int) - 1, -1) ∧ Builtin.Slice.slicePlaces ((n : Int) - 1) (-1) (-1) = n := by
  refine ⟨rfl, ?_⟩
  unfold Builtin.Slice.slicePlaces
  rw [if_neg (by decide)]
  by_cases h : (n : Int) - 1 > -1
  · rw [if_pos h]
    have e : ((n : Int) - 1 - -1 - 1) / (- -1) = (n : Int) - 1 := by
      rw [show ((n : Int) - 1 - -1 - 1) = (n : Int) - 1 by omega, Int.neg_neg, Int.ediv_one]
    rw [e]
    omega
  · rw [if_neg h]
    omega
theorem back_pick (xs : Array Value) : ((List.range xs.size).filterMap fun (k : Nat) => xs[(((xs.size : Nat) : Int) - 1 + (k : Int) * (-1)).toNat]?).toArray = xs.toList.reverse.toArray := by
  have e1 : (fun (k : Nat) => xs[(((xs.size : Nat) : Int) - 1 + (k : Int) * (-1)).toNat]?) = (fun i => xs[i]?) ∘ fun k => xs.size - 1 - k := by
    funext k
    show xs[_]? = xs[xs.size - 1 - k]?
    congr 1
    omega
  have e2 := pick_gen xs 0 xs.size
  have e3 : (fun (m : Nat) => xs[(((0 : Nat) : Int) + (m : Int) * 1).toNat]?) = fun i => xs[i]? := by
    funext m
    congr 1
    omega
  rw [e3] at e2
  have e4 : (List.range xs.size).filterMap (fun i => xs[i]?) = xs.toList := by
    have e5 : (List.range xs.size).filterMap (fun i => xs[i]?) = List.take xs.size xs.toList := by simpa using congrArg Array.toList e2
    rw [e5]
    exact List.take_of_length_le (by simp)
  rw [e1, ← List.filterMap_map, PySem.W.krv_range, List.filterMap_reverse, e4]
section
variable {prog : Program} {w : World} {A : Around} {E : Value → Shared → Prop} {s : Shared}
theorem back_applied {sl : Addr} {vc : Value} {n : Nat} {Q : Int × Int × Nat → Shared → Prop} (hs : s.heap.IsSliceOf sl .none .none vc) (pc : IsPart vc (some (-1))) (h : Q (((n : Int) - 1), -1, n) s) :
    wpAny (model prog w) A (Builtin.Slice.sliceApplied (.ref sl) (pure (n : Int))) Q E s := by
  obtain ⟨os, ho, hc, hd⟩ := id hs
  unfold Builtin.Slice.sliceApplied Builtin.Slice.sliceFields
  refine wpAny_bind (wpAny_bind (wpAny_field ho hd (x := .none) rfl (wpAny_bind (wpAny_field ho hd (x := .none) rfl (wpAny_bind (wpAny_field ho hd (x := vc) rfl (wpAny_pure ?_)))))))
  refine wpAny_bind (slicePart_ pc ?_)
  show wpAny _ _ (if ((-1 : Int) == 0) = true then _ else _) _ _ s
  rw [if_neg (by decide)]
  refine wpAny_bind (slicePart_ .none (wpAny_bind (slicePart_ .none (wpAny_bind (wpAny_pure ?_)))))
  show wpAny _ _ (match Builtin.Slice.sliceAdjust none none (-1) (n : Int) with | (lo, hi) => pure (lo, (-1 : Int), Builtin.Slice.slicePlaces lo hi (-1))) _ _ s
  rw [(back_places n).1]
  show wpAny _ _ (pure (((n : Int) - 1), (-1 : Int), Builtin.Slice.slicePlaces ((n : Int) - 1) (-1) (-1))) _ _ s
  rw [(back_places n).2]
  exact wpAny_pure h
theorem back_item {t sl : Addr} {xs : Array Value} {vc : Value} {Q : Value → Shared → Prop} (ht : IsTup s.heap t xs) (hs : s.heap.IsSliceOf sl .none .none vc) (pc : IsPart vc (some (-1)))
    (h : Q (.ref s.heap.objs.size) { s with heap := s.heap.push { cls := .type "tuple", data := .seq xs.toList.reverse.toArray } }) (hz : xs.size ≤ sizeLine) : wpAny (model prog w) A (getItem (.ref t) (.ref sl)) Q E s := by
  have ok : sizeOk (.seq xs.toList.reverse.toArray) := by
    show xs.toList.reverse.toArray.size ≤ sizeLine
    rw [List.size_toArray, List.length_reverse, Array.length_toList]
    exact hz
  obtain ⟨os, ho, hc, hd⟩ := id hs
  have ty : s.TypeIs (.ref sl) "slice" := ⟨os, ho, hc⟩
  unfold getItem
  try with_reducible refine wpAny_holding ?_
  first | refine wpAny_bind (wpAny_pure ?_) | skip
  refine wpAny_bind (wpAny_sequenceKey ht.typeIs (by decide) (wpAny_bind (wpAny_callSpecial?_slot (name := Str.ofString "__getitem__") ht.typeIs PyProof.Rows.slot_tuple_getitem
    (wpAny_call_entry PyProof.Rows.slot_tuple_getitem ht.typeIs entry_tuple_getitem ?_ (args_tuple_getitem _ _)))))
  show wpAny _ _ (Builtin.Tuple.tupleItemsOf (.ref t) >>= _) _ _ s
  refine wpAny_bind (tupleItemsOf_ ht (wpAny_bind (wpAny_typeOf ty ?_)))
  rw [if_pos (by decide)]
  refine wpAny_bind (back_applied hs pc ?_)
  have no : ¬ ((((xs.size : Nat) : Int) - 1 == 0 && (-1 : Int) == 1 && xs.size == xs.size) = true) := by
    rw [show ((-1 : Int) == 1) = false from rfl, Bool.and_false, Bool.false_and]
    exact Bool.false_ne_true
  show wpAny _ _ (if ((((xs.size : Nat) : Int) - 1 == 0 && (-1 : Int) == 1 && xs.size == xs.size) = true) then _ else _) _ _ s
  rw [if_neg no, back_pick]
  first
    | exact wpAny_bind (m := Builtin.Tuple.tupleExact _) (wpAny_newObj_type (wpAny_pure ⟨_, rfl, wpAny_pure h⟩) ok)
    | exact wpAny_bind (m := Builtin.Tuple.tupleExact _) (wpAny_newObj_type (wpAny_bind (wpAny_pure (wpAny_pure ⟨_, rfl, wpAny_pure h⟩))) ok)
    | exact wpAny_bind (wpAny_bind (m := Builtin.Tuple.tupleExact _) (wpAny_newObj_type (wpAny_pure (wpAny_pure ⟨_, rfl, wpAny_pure h⟩)) ok))
    | exact wpAny_bind (wpAny_bind (m := Builtin.Tuple.tupleExact _) (wpAny_newObj_type (wpAny_pure ⟨_, rfl, wpAny_pure h⟩) ok))
end
section
variable {X : Cx}
def tRevT (te : TE) : TE := fun σ H Q => te σ H fun x G => ∃ (a : Addr) (xs : List V), x = .ref a ∧ G a = some (.tup xs) ∧ ∀ p, G p = none → Q (.ref p) (upd G p (.tup xs.reverse))
theorem Vals.rev : ∀ {xs : List V} {us : List Value}, Vals xs us → Vals xs.reverse us.reverse
  | _, _, .nil => .nil
  | _, _, .cons r t => by
    rw [List.reverse_cons, List.reverse_cons]
    exact (Vals.rev t).append (.cons r .nil)
theorem pe_revT {e : Expr} {te : TE} {k : Nat} {p1 p2 p3 pos : Pos} (he : PE X e te) : PE X (.Subscript e (.Slice none none (some (.UnaryOp .USub (.Constant (.int 1) k p1) p2)) p3) pos) (tRevT te) := by
  refine ⟨fun pins s σ H Q I h => Subscript_ (thn (he.run pins s σ H _ I h) fun v s1 ⟨x, H1, I1, r1, a, xs, ex, hx, q⟩ => ?_)⟩
  subst ex
  cases r1
  have st : PO X (some (.UnaryOp .USub (.Constant (.int 1) k p1) p2)) (tPart (tUn (rU fun i => .int (-i)) (tC (.int 1)))) := po_some (pe_un un_neg pe_int)
  refine wpAny_Slice (thn (po_none.run pins s1 σ H1 (fun o G => o = none ∧ G = H1) I1 ⟨rfl, rfl⟩) fun vl s2 ⟨o2, H2, I2, pl, el, e2⟩ => ?_)
  cases el
  cases e2
  refine thn (po_none.run pins s2 σ H1 (fun o G => o = none ∧ G = H1) I2 ⟨rfl, rfl⟩) fun vu s3 ⟨o3, H3, I3, pu, eu, e3⟩ => ?_
  cases eu
  cases e3
  refine thn (st.run pins s3 σ H1 (fun o G => o = some (-1) ∧ G = H1) I3 ⟨1, rfl, -1, rfl, rfl, rfl⟩) fun vc s4 ⟨o4, H4, I4, pc, ec, e4⟩ => ?_
  cases ec
  cases e4
  have J : Inv X pins σ H1 { s4 with heap := s4.heap.push { cls := .type "slice", data := .fields #[vl, vu, vc] } } := I4.kept (t' := s4.toks) fun b ob z => Heap.get?_push_of_some _ z
  obtain ⟨its, o, n, r, t1, t2, t3⟩ := tup_at J hx
  have hz : its.length ≤ sizeLine := by
    obtain ⟨z, _⟩ := (show ObjOk X.prog X.w H1 _ a (.tup xs) from J.hok a _ hx)
    rw [← r.length]; exact z
  have tt : IsTup { s4 with heap := s4.heap.push { cls := .type "slice", data := .fields #[vl, vu, vc] } }.heap a its.toArray := ⟨o, t1, t2, n, t3⟩
  cases pl
  cases pu
  show wpAny (model X.prog X.w) X.A (subscriptTail e (.Slice none none (some (.UnaryOp .USub (.Constant (.int 1) k p1) p2)) p3) (.ref a) (.ref s4.heap.objs.size)) (EP X pins σ Q) X.xe { s4 with heap := s4.heap.push { cls := .type "slice", data := .fields #[.none, .none, vc] } }
  refine tail_any (ops := [.ref a, .ref s4.heap.objs.size]) tt.typeIs PyProof.Rows.slot_tuple_getitem.lookup ?_ (by with_unfolding_all rfl)
  refine back_item tt (Heap.IsSliceOf.new _ .none .none vc) pc ?_ (by rw [List.size_toArray]; exact hz)
  refine ⟨.ref _, _, J.laid (t' := s4.toks) (o := .tup xs.reverse) (fun b ob z => Heap.get?_push_of_some _ z) (Nat.le_refl _) ?_, rfl, q _ (J.hok.fresh (Nat.le_refl _))⟩
  refine ⟨by rw [List.length_reverse, r.length]; exact hz, its.reverse, Vals.rev r, ⟨_, Heap.get?_push_size _ rfl, rfl, _, rfl⟩⟩
end
end GL
namespace K21
open PySem L2 GL
abbrev sRight : Stmt := top 18
theorem err_cases (d : PyData) : err d = .non ∨ err d = .str "machine" ∨ err d = .str "letters" ∨ err d = .str "rows" ∨ err d = .str "ends" := by
  unfold err
  split
  · split
    · split
      · split
        · split
          · exact .inl rfl
          · exact .inr (.inr (.inr (.inr rfl)))
        · exact .inr (.inr (.inr (.inl rfl)))
      · exact .inr (.inr (.inl rfl))
    · exact .inr (.inr (.inl rfl))
  · exact .inr (.inl rfl)
theorem err_dt {K : PySem.W.Frag} {H : Hp} (d : PyData) : ∃ x, Dt K H (err d) x ∧ Fit 20 0 x := by
  rcases err_cases d with e | e | e | e | e <;> rw [e]
  · exact ⟨_, .non, fit_non (by decide)⟩
  · exact ⟨_, .str _, fit_str (m := 20) (by decide +kernel) (by decide)⟩
  · exact ⟨_, .str _, fit_str (m := 20) (by decide +kernel) (by decide)⟩
  · exact ⟨_, .str _, fit_str (m := 20) (by decide +kernel) (by decide)⟩
  · exact ⟨_, .str _, fit_str (m := 20) (by decide +kernel) (by decide)⟩
theorem Fit.shown {K : PySem.W.Frag} {H : Hp} {n k : Nat} {d : PyData} {v : V} (f : Fit n k d) (h : Dt K H v d) (hn : n ≤ 1000000) : d.shown.length ≤ sizeLine := by
  have a := shown_wt d v h
  have b := f.w
  show _ ≤ 2 ^ 24
  omega
def spRight (K : PySem.W.Frag) : Sp := fun vs H Q _ => ∃ (v : V) (d : PyData), vs = [v] ∧ Dt K H v d ∧ Fit 1000000 20 d ∧ ∀ G, Same H G → Q (.bl true) G
section
variable {P : Program} {w : World} {K : PySem.W.Frag} {mg : Str → Option Value} {base : Heap}
theorem scRt : FnScope ["_law_value", "_law_told"] ["_law_value"] (defScope sRight) := ⟨rfl, rfl, rfl, by decide +kernel, rfl, by decide +kernel, by decide +kernel⟩
theorem ok_right {f fM fL : Addr} {fd fdM fdL : FuncData} (F : Fun K "_law_right" "_law_right" sRight f fd) (T : Txt mg) (M : Dfn P w K mg base "machine_error" 4 fM fdM ["value"] (spErr K)) (E' : Dfn P w K mg base "_law_error" 3 fL fdL ["_law_value"] (spErr K)) :
    Fg P w K mg base CX0 5 f fd ["_law_value"] (spRight K) := by
  refine ok_g F scRt (fun vs H Q E h => ?_) (fun cdv A outer s H vs Q E hg hr h => ?_)
  · obtain ⟨v, d, rfl, _⟩ := h
    rfl
  obtain ⟨v, d, rfl, hd, hf, q⟩ := h
  have hr3 : Room 3 _ := hr.mono (by decide)
  refine ⟨_, pss_cons (ps_set (i := 1) scRt.nd rfl (Or.inl rfl) (pe_callB (call_reprD hg hr.units) (by rfl) T.repr (by decide +kernel) (pa_cons (pv 0) pa_nil)))
    (pss_one (ps_ret (pe_and (pe_cmpR op_eq (pe_callB (call_reprD hg hr.units) (by rfl) T.repr (by decide +kernel) (pa_cons (pe_call M.ok hr rfl M.m M.kp M.b .nil pass0 (pa_cons (pv 0) pa_nil)) pa_nil))
        (pe_callB (call_reprD hg hr.units) (by rfl) T.repr (by decide +kernel) (pa_cons (pe_call E'.ok hr3 rfl E'.m E'.kp E'.b .nil pass0 (pa_cons (pv 0) pa_nil)) pa_nil)) (nomark _))
      (pe_one (pe_cmpR op_eq (pe_callB (call_reprD hg hr.units) (by rfl) T.repr (by decide +kernel) (pa_cons (pv 0) pa_nil)) (pv 1) (nomark _)))))), ?_⟩
  have sz := hf.shown hd (Nat.le_refl _)
  have dk : d.depth ≤ 60 := Nat.le_trans hf.k (by decide)
  refine ⟨_, rfl, _, _, rfl, hd, hf.s, dk, sz, ?_⟩
  refine ⟨_, rfl, v, d, rfl, hd, hf.w, fun G1 s1 => ?_⟩
  obtain ⟨x1, x2, x3⟩ := err_dt (K := K) (H := G1) d
  refine ⟨_, _, rfl, x2, x3.s, Nat.le_trans x3.k (by decide), x3.shown x2 (by decide), _, rfl, v, d, rfl, hd.same s1, hf.w, fun G2 s2 => ?_⟩
  refine ⟨_, _, rfl, x2.same s2, x3.s, Nat.le_trans x3.k (by decide), x3.shown x2 (by decide), rfl, _, rfl, ?_⟩
  refine ite2 (fun _ => ?_) (fun c => absurd (decide_eq_true rfl) c)
  refine ⟨_, rfl, _, _, rfl, (hd.same s1).same s2, hf.s, dk, sz, _, rfl, rfl, ?_⟩
  have e : decide (V.str d.shown = V.str d.shown) = true := decide_eq_true rfl
  show Q (.bl (decide (V.str d.shown = V.str d.shown))) G2
  rw [e]
  exact q G2 (s1.trans s2)
end
end K21
namespace K21
open PySem L2 GL
abbrev sLaw : Stmt := top 19
def spLaw (K : PySem.W.Frag) : Sp := fun vs H Q _ => ∃ (a : Addr) (ns : List Int), vs = [.ref a] ∧ SqL K H a (ns.map V.int) ∧ ns.length ≤ 63 ∧ ∀ H', Q (.bl true) H'
/-- a def promised where no guard of repr stands -/
structure Gfn (P : Program) (w : World) (K : PySem.W.Frag) (mg : Str → Option Value) (base : Heap) (name : Str) (k : Nat) (f : Addr) (fd : FuncData) (ps : List Str) (sp : Sp) : Prop where
  ok : Fg P w K mg base CX0 k f fd ps sp
  b : L2.Binds K fd ps []
  m : mg name = some (.ref f)
  kp : PySem.W.keepIn K (.ref f) = true
theorem DtAll.rev {K : PySem.W.Frag} {H : Hp} : ∀ {ds : List PyData} {vs : List V}, DtAll K H vs ds → DtAll K H vs.reverse ds.reverse
  | _, _, .nil => .nil
  | _, _, .cons a b => by
    rw [List.reverse_cons, List.reverse_cons]
    exact (DtAll.rev b).append (.cons a .nil)
theorem FitAll.rev {k : Nat} : ∀ {n : Nat} {ds : List PyData}, FitAll n k ds → FitAll n k ds.reverse
  | n, [], h => h
  | n, d :: ds, a => by
    have w := a.w
    have kk := a.k
    have ss := a.s
    simp only [wts] at w
    simp only [PyData.depthAll] at kk
    simp only [PyData.showableAll, Bool.and_eq_true] at ss
    have r : FitAll (wts ds) k ds.reverse := FitAll.rev ⟨Nat.le_refl _, Nat.le_trans (Nat.le_max_right _ _) kk, ss.2⟩
    rw [List.reverse_cons]
    exact (r.append (FitAll.cons (n := wt d) ⟨Nat.le_refl _, Nat.le_trans (Nat.le_max_left _ _) kk, ss.1⟩ FitAll.nil)).mono (by omega) (Nat.le_refl _)
theorem rep_bl (b : Bool) : ∀ n : Nat, (List.replicate n [V.bl b]).flatten = (List.replicate n b).map V.bl
  | 0 => rfl
  | n + 1 => by
    rw [List.replicate_succ, List.flatten_cons, rep_bl b n, List.replicate_succ, List.map_cons]
    rfl
theorem fit_bools : ∀ bs : List Bool, FitAll (7 * bs.length) 0 (bs.map PyData.bool)
  | [] => FitAll.nil
  | b :: bs => (FitAll.cons (n := 5) (fit_bl (by decide)) (fit_bools bs)).mono (by rw [List.length_cons]; omega) (Nat.le_refl _)
/-- a good value to ask of -/
def Gd (K : PySem.W.Frag) (d c : Addr) (G : Hp) (v : V) : Prop := ∃ x, Dt K (Hd d c G) v x ∧ Fit 400000 12 x
theorem Gd.same {K : PySem.W.Frag} {d c : Addr} {G G' : Hp} {v : V} (h : Gd K d c G v) (s : Same (Hd d c G) (Hd d c G')) : Gd K d c G' v := let ⟨x, h1, h2⟩ := h; ⟨x, h1.same s, h2⟩
theorem hr_put0 {R : Addr} {G : Hp} {o : HO} : Same (Hr R G) (Hr R (upd G R o)) := fun b u h => by
  obtain ⟨h1, h2⟩ := hr_some h
  exact hr_of (by rw [upd_ne h2]; exact h1) h2
/-- rows of one item each -/
def Rows1 (K : PySem.W.Frag) (H : Hp) (us : List V) (n : Nat) : Prop := ∃ rs, DtAll K H us rs ∧ FitAll (49 * n) 1 rs ∧ rs.length = n
theorem three {K : PySem.W.Frag} {G : Hp} {t p2 p3 : Addr} {us : List V} {n : Nat} {b : Bool} (hn : n ≤ 401) (r : Rows1 K G us n) (g1 : G t = some (.tup us)) (g2 : G p2 = some (.tup ((List.replicate n [V.bl b]).flatten))) (g3 : G p3 = some (.tup [.int 1, .ref t, .ref p2])) :
    ∃ d, Dt K G (.ref p3) d ∧ Fit 1000000 20 d := by
  obtain ⟨rs, h1, h2, h3⟩ := r
  rw [rep_bl] at g2
  have fb := fit_bools (List.replicate n b)
  rw [List.length_replicate] at fb
  exact ⟨_, .tup g3 (.cons (.int 1) (.cons (.tup g1 h1) (.cons (.tup g2 (bools_dt _)) .nil))),
    (Fit.tup (FitAll.cons (n := 42) (k := 2) (fit_int (by decide) (by decide)) (FitAll.cons (Fit.tup h2) (FitAll.cons ((Fit.tup fb).mono (Nat.le_refl _) (by omega)) FitAll.nil)))).mono (by omega) (by omega)⟩
theorem bools_are {K : PySem.W.Frag} {H : Hp} : ∀ {bs : List Bool} {ws : List V}, DtAll K H ws (bs.map PyData.bool) → ws = bs.map V.bl
  | [], _, h => by cases h; rfl
  | b :: bs, _, h => by
    cases h with
    | cons a r =>
      cases a
      rw [bools_are r]
      rfl
theorem fit_ints : ∀ zs : List Int, (∀ z ∈ zs, z.natAbs < 10 ^ 41) → FitAll (44 * zs.length) 0 (zs.map PyData.int)
  | [], _ => FitAll.nil
  | z :: zs, h => (FitAll.cons (n := 42) (fit_int (h z List.mem_cons_self) (by decide)) (fit_ints zs fun y hy => h y (List.mem_cons_of_mem _ hy))).mono (by rw [List.length_cons]; omega) (Nat.le_refl _)
theorem dt_ints {K : PySem.W.Frag} {H : Hp} : ∀ zs : List Int, DtAll K H (zs.map V.int) (zs.map PyData.int)
  | [] => .nil
  | z :: zs => .cons (.int z) (dt_ints zs)
theorem Gd.tup {K : PySem.W.Frag} {d c p : Addr} {G : Hp} {us : List V} {es : List PyData} {n k m : Nat} (D : Deck G d c m) (g : G p = some (.tup us)) (h : DtAll K (Hd d c G) us es) (f : FitAll n k es) (hn : n ≤ 390000) (hk : k ≤ 11) : Gd K d c G (.ref p) :=
  ⟨_, .tup (D.tup g) h, (Fit.tup f).mono (by omega) (by omega)⟩
theorem hr_fresh {L : Addr} {H G : Hp} (n : H L = none) (s : Same H G) : Same H (Hr L G) := fun _ _ h => hr_of (s _ _ h) (ne_of_none h n)
abbrev NL : List Str := ["_law_script", "_law_deck_here", "_law_many", "_law_rows", "_law_turn", "_law_letters", "_law_machine_here", "_law_bent_here", "_law_values", "_law_value", "_law_k", "_law_end", "_law_letter"]
section
variable {P : Program} {w : World} {K : PySem.W.Frag} {mg : Str → Option Value} {base : Heap}
theorem scL : FnScope ["_law_script", "_law_deck_here", "_law_many", "_law_rows", "_law_turn", "_law_letters", "_law_machine_here", "_law_bent_here", "_law_values", "_law_value", "_law_k", "_law_end", "_law_letter"] ["_law_script"] (defScope sLaw) := ⟨rfl, rfl, rfl, by decide +kernel, rfl, by decide +kernel, by decide +kernel⟩
theorem ok_law {f fK fW fM fB fO fR fE : Addr} {fd fdK fdW fdM fdB fdO fdR fdE : FuncData} (F : Fun K "law" "law" sLaw f fd) (T : Txt mg)
    (DK : Dfn P w K mg base "_law_deck" 1 fK fdK ["_law_script"] (spDeck K)) (W : Dfn P w K mg base "_law_draw" 1 fW fdW ["_law_deck_here", "_law_many"] spDraw)
    (MM : Dfn P w K mg base "_law_machine" 3 fM fdM ["_law_deck_here", "_law_letters", "_law_many"] (spMach K)) (B : Dfn P w K mg base "_law_bent" 7 fB fdB ["_law_deck_here", "_law_value", "_law_many", "_law_deep"] (spBent K 4))
    (O : Dfn P w K mg base "_law_odd" 3 fO fdO ["_law_deck_here", "_law_many"] (spOdd K)) (R : Gfn P w K mg base "_law_right" 5 fR fdR ["_law_value"] (spRight K)) (ME : Dfn P w K mg base "machine_error" 4 fE fdE ["value"] (spErr K)) :
    Fg P w K mg base CX0 8 f fd ["_law_script"] (spLaw K) := by
  refine ok_g F scL (fun vs H Q E h => ?_) (fun cdv A outer s H vs Q E hg hr h => ?_)
  · obtain ⟨a, ns, rfl, _⟩ := h
    rfl
  obtain ⟨a, ns, rfl, hS, hl, q⟩ := h
  have hr1 : Room 1 _ := hr.mono (by decide)
  have hr3 : Room 3 _ := hr.mono (by decide)
  have hr4 : Room 4 _ := hr.mono (by decide)
  have hr5 : Room 5 _ := hr.mono (by decide)
  refine ⟨_, pss_cons (ps_set (i := 1) scL.nd rfl (Or.inl rfl) (pe_call DK.ok hr1 rfl DK.m DK.kp DK.b .nil pass0 (pa_cons (pv 0) pa_nil)))
    (pss_cons (ps_for PassesOwn.never rfl (pi_list (pe_lst (pa_cons pe_int (pa_cons pe_int (pa_cons pe_int pa_nil))))) (pg_name (i := 2) scL.nd rfl (Or.inl rfl))
      (pss_cons (ps_set (i := 3) scL.nd rfl (Or.inl rfl) (pe_callTy call_tuple_of (by rfl) T.tuple (by decide +kernel) (pa_cons (pe_lc (own := [("_law_k", 10)]) (g := gName 10) (tt := tYes) rfl scL.nd (pi_range1 rfl T.range (pa_cons (pv 2) pa_nil))
          (blkOk_by (own := [("_law_k", 10)]) (N := NL) (sc := defScope sLaw) (by decide +kernel)) (fun _ _ _ _ _ => pg_name (i := 10) scL.nd rfl (Or.inl rfl)) (fun _ _ _ _ _ => pts_nil)
          (fun _ _ _ _ _ => pe_tup (pa_cons (pe_ifExp (pt_cmpR op_gt (pv 10) pe_int (nomark _)) (pe_op op_sub (pv 10) pe_int) pe_non) pa_nil))) pa_nil)))
      (pss_one (ps_if (PW.pt (pw_or (pt_not (pt_val (pe_callg hg R.ok hr5 rfl R.m R.kp R.b pass0 (pa_cons (pe_tup (pa_cons pe_int (pa_cons (pv 3) (pa_cons (pe_op op_repT (pe_tup (pa_cons pe_bl pa_nil)) (pv 2)) pa_nil)))) pa_nil))))
        (pw_or1 (pt_not (pt_val (pe_callg hg R.ok hr5 rfl R.m R.kp R.b pass0 (pa_cons (pe_tup (pa_cons pe_int (pa_cons (pe_revT (pv 3)) (pa_cons (pe_op op_repT (pe_tup (pa_cons pe_bl pa_nil)) (pv 2)) pa_nil)))) pa_nil))))))) (pss_one (ps_ret pe_bl)) pss_nil))))
    (pss_cons (ps_for PassesOwn.never rfl (pi_range1 rfl T.range (pa_cons pe_int pa_nil)) (pg_name (i := 4) scL.nd rfl (Or.inl rfl))
      (pss_cons (ps_par (i := 5) (j := 2) (by rfl) scL.nd rfl rfl (by decide) rfl rfl (pa_cons (pe_op op_add pe_int (pe_call W.ok hr1 rfl W.m W.kp W.b .nil pass0 (pa_cons (pv 1) (pa_cons pe_int pa_nil))))
        (pa_cons (pe_op op_add pe_int (pe_call W.ok hr1 rfl W.m W.kp W.b .nil pass0 (pa_cons (pv 1) (pa_cons pe_int pa_nil)))) pa_nil)) (by rfl))
      (pss_cons (ps_set (i := 6) scL.nd rfl (Or.inr rfl) (pe_call MM.ok hr3 rfl MM.m MM.kp MM.b .nil pass0 (pa_cons (pv 1) (pa_cons (pv 5) (pa_cons (pv 2) pa_nil)))))
      (pss_cons (ps_set (i := 7) scL.nd rfl (Or.inl rfl) (pe_call B.ok hr rfl B.m B.kp B.b .nil pass0 (pa_cons (pv 1) (pa_cons (pv 6) (pa_cons (pv 2) (pa_cons pe_int pa_nil))))))
      (pss_cons (ps_set (i := 8) scL.nd rfl (Or.inl rfl) (pe_lst (pa_cons (pv 6) (pa_cons (pv 7) (pa_cons (pe_call B.ok hr rfl B.m B.kp B.b .nil pass0 (pa_cons (pv 1) (pa_cons (pv 7) (pa_cons (pv 2) (pa_cons pe_int pa_nil)))))
        (pa_cons (pe_call O.ok hr3 rfl O.m O.kp O.b .nil pass0 (pa_cons (pv 1) (pa_cons (pv 2) pa_nil))) (pa_cons (pe_callTy call_list_of (by rfl) T.list (by decide +kernel) (pa_cons (pv 6) pa_nil))
        (pa_cons (pe_op op_catD (pv 6) (pe_tup (pa_cons pe_int pa_nil))) pa_nil))))))))
      (pss_cons (ps_set (i := 8) scL.nd rfl (Or.inl rfl) (pe_op op_cat (pv 8) (pe_lst (pa_cons (pe_op op_catD (pe_op op_catD (pe_tup (pa_cons (pv 5) pa_nil)) (pe_slice sl_tupD (pv 6) (po_some pe_int) (po_some pe_int)))
          (pe_tup (pa_cons (pe_callTy call_tuple_of (by rfl) T.tuple (by decide +kernel) (pa_cons (pe_lc (own := [("_law_end", 11)]) (g := gName 11) (tt := tYes) rfl scL.nd (pi_tup (pe_ix ix_tup (pv 6) pe_int (fun _ _ => rfl)))
            (blkOk_by (own := [("_law_end", 11)]) (N := NL) (sc := defScope sLaw) (by decide +kernel)) (fun _ _ _ _ _ => pg_name (i := 11) scL.nd rfl (Or.inl rfl)) (fun _ _ _ _ _ => pts_nil)
            (fun _ _ _ _ _ => pe_callTy call_int1 (by rfl) T.int (by decide +kernel) (pa_cons (pv 11) pa_nil))) pa_nil)) pa_nil))) (pa_cons (pe_slice sl_tupD (pv 6) po_none (po_some pe_int)) pa_nil)))))
      (pss_cons (ps_set (i := 8) scL.nd rfl (Or.inl rfl) (pe_op op_cat (pv 8) (pe_lc (own := [("_law_letter", 12)]) (g := gName 12) (tt := tYes) rfl scL.nd
          (pi_list (pe_lst (pa_cons pe_int (pa_cons pe_int (pa_cons pe_bl (pa_cons pe_non (pa_cons pe_str (pa_cons pe_int (pa_cons (pe_un un_neg pe_int) pa_nil)))))))))
          (blkOk_by (own := [("_law_letter", 12)]) (N := NL) (sc := defScope sLaw) (by decide +kernel)) (fun _ _ _ _ _ => pg_name (i := 12) scL.nd rfl (Or.inl rfl)) (fun _ _ _ _ _ => pts_nil)
          (fun _ _ _ _ _ => pe_op op_catD (pe_tup (pa_cons (pv 12) pa_nil)) (pe_slice sl_tupD (pv 6) (po_some pe_int) po_none)))))
      (pss_cons (ps_set (i := 8) scL.nd rfl (Or.inl rfl) (pe_op op_cat (pv 8) (pe_lst (pa_cons (pe_op op_catD (pe_tup (pa_cons (pe_op op_add pe_int (pe_op op_mod (pv 5) pe_int)) pa_nil)) (pe_slice sl_tupD (pv 6) (po_some pe_int) po_none))
          (pa_cons (pe_op op_catD (pe_op op_catD (pe_slice sl_tupD (pv 6) po_none (po_some pe_int)) (pe_tup (pa_cons (pe_tup pa_nil) pa_nil))) (pe_slice sl_tupD (pv 6) (po_some pe_int) po_none))
          (pa_cons (pe_tup (pa_cons (pv 5) (pa_cons (pe_tup pa_nil) (pa_cons (pe_tup pa_nil) pa_nil)))) pa_nil))))))
      (pss_one (ps_for PassesOwn.never rfl (pi_list (pv 8)) (pg_name (i := 9) scL.nd rfl (Or.inl rfl))
        (pss_one (ps_if (pt_not (pt_val (pe_callg hg R.ok hr5 rfl R.m R.kp R.b pass0 (pa_cons (pv 9) pa_nil)))) (pss_one (ps_ret pe_bl)) pss_nil))))))))))))
    (pss_one (ps_ret (pe_cmpR op_eq (pe_callB (call_reprD hg hr.units) (by rfl) T.repr (by decide +kernel) (pa_cons (pe_call ME.ok hr4 rfl ME.m ME.kp ME.b .nil pass0 (pa_cons (pe_tup (pa_cons pe_bl (pa_cons (pe_tup (pa_cons (pe_tup (pa_cons pe_int pa_nil)) pa_nil))
        (pa_cons (pe_tup (pa_cons pe_bl pa_nil)) pa_nil)))) pa_nil)) pa_nil)) (pe_callB (call_reprD hg hr.units) (by rfl) T.repr (by decide +kernel) (pa_cons pe_str pa_nil)) (nomark _)))))), ?_⟩
  refine ⟨_, rfl, a, ns, rfl, hS, hl, fun d c G0 s0 nd nc D0 => ?_⟩
  refine ⟨by show 3 ≤ 2 ^ 24; decide, fun la nla => ?_⟩
  have Da := D0.new nla (.lst [V.int 399, V.int 400, V.int 401])
  have ga : upd G0 la (.lst [V.int 399, V.int 400, V.int 401]) la = some (.lst [V.int 399, V.int 400, V.int 401]) := upd_same
  generalize upd G0 la (.lst [V.int 399, V.int 400, V.int 401]) = Ga at Da ga
  refine ⟨la, rfl, ⟨_, .inl (.inl ga)⟩, for_list (K := K) (a := la) (xs := [V.int 399, V.int 400, V.int 401]) (fun i σ G => ∃ (k2 k3 : Option V), σ = [some (.ref a), some (.ref d), k2, k3, none, none, none, none, none, none, none, none, none] ∧ Deck G d c 0 ∧ G la = some (.lst [V.int 399, V.int 400, V.int 401]))
    ⟨none, none, rfl, Da, ga⟩ (fun i σ G _ h => let ⟨_, _, _, _, g⟩ := h; .inl (.inl g)) ?_ ?_⟩
  · rintro i x σ G hx ⟨k2, k3, rfl, DG, gG⟩
    obtain ⟨n, rfl, n0, n1⟩ : ∃ n : Nat, x = .int (n : Int) ∧ 399 ≤ n ∧ n ≤ 401 := by
      have m := List.mem_of_getElem? hx
      rcases List.mem_cons.mp m with rfl | m
      · exact ⟨399, rfl, by decide, by decide⟩
      · rcases List.mem_cons.mp m with rfl | m
        · exact ⟨400, rfl, by decide, by decide⟩
        · rw [List.mem_singleton.mp m]; exact ⟨401, rfl, by decide, by decide⟩
    refine ⟨_, rfl, n, rfl, by omega, by omega, fun L nL => lc_range (lo := 0) (n := n) (fun j G2 => Same G G2 ∧ ∃ us, G2 L = some (.lst us) ∧ us.length = j ∧ Rows1 K (Hr L G2) us j)
      ⟨same_new nL _, [], upd_same, rfl, [], .nil, FitAll.nil, rfl⟩ ?_ ?_⟩
    · rintro j G2 hj ⟨s2, us, u1, u2, rs, r1, r2, r3⟩
      have grow : ∀ (v : V) (y : PyData), Dt K emp v y → Fit 42 0 y → ∀ p, G2 p = none → ∃ acc, upd G2 p (.tup [v]) L = some (.lst acc) ∧ acc.length < sizeLine ∧ Same G (upd (upd G2 p (.tup [v])) L (.lst (acc ++ [.ref p]))) ∧
          ∃ us, upd (upd G2 p (.tup [v])) L (.lst (acc ++ [.ref p])) L = some (.lst us) ∧ us.length = j + 1 ∧ Rows1 K (Hr L (upd (upd G2 p (.tup [v])) L (.lst (acc ++ [.ref p])))) us (j + 1) := by
        intro v y hv hy p np
        have pL : p ≠ L := fun e => by rw [e, u1] at np; cases np
        refine ⟨us, by rw [upd_ne pL.symm]; exact u1, by rw [u2]; show j < 2 ^ 24; omega, same_grow nL (s2.trans (same_new np _)) _, us ++ [.ref p], upd_same, by rw [List.length_append, u2]; rfl, rs ++ [.tuple [y]], ?_, ?_, ?_⟩
        · refine (r1.same ((hr_same (same_new np _)).trans hr_put0)).append (.cons (.tup (hr_of (by rw [upd_ne pL]; exact upd_same) pL) (.cons (hv.same emp_same) .nil)) .nil)
        · exact (r2.append (FitAll.cons (Fit.tup (FitAll.cons hy FitAll.nil)) FitAll.nil)).mono (by omega) (Nat.le_refl _)
        · rw [List.length_append, r3]; rfl
      refine ⟨rfl, _, rfl, _, _, rfl, rfl, _, rfl, ite2 (fun c1 => ?_) (fun c1 => ?_)⟩
      · refine ⟨_, rfl, _, _, rfl, rfl, by show 1 ≤ 2 ^ 24; decide, fun p np => ?_⟩
        have bi : ((0 : Int) + (j : Int) - 1).natAbs < 10 ^ 41 := Nat.lt_of_lt_of_le (show ((0 : Int) + (j : Int) - 1).natAbs < 500 by omega) (by decide +kernel)
        exact grow _ _ (.int _) (fit_int bi (by decide)) p np
      · exact ⟨by show 1 ≤ 2 ^ 24; decide, fun p np => grow _ _ .non (fit_non (by decide)) p np⟩
    · rintro G2 ⟨s2, us, u1, u2, r⟩
      refine ⟨L, us, rfl, .inl ⟨.inl (.inl u1), fun t nt => ?_⟩⟩
      have D2 := DG.same s2
      have g2 := s2 _ _ gG
      have r2 : Rows1 K G2 us n := let ⟨rs, q1, q2⟩ := r; ⟨rs, q1.same hr_sub, q2⟩
      have rn : ∀ (G' : Hp), Same G2 G' → Rows1 K G' us n := fun G' s => let ⟨rs, q1, q2⟩ := r2; ⟨rs, q1.same s, q2⟩
      have rr : ∀ (G' : Hp), Same G2 G' → Rows1 K G' us.reverse n := fun G' s => let ⟨rs, q1, q2, q3⟩ := r2; ⟨rs.reverse, DtAll.rev (q1.same s), FitAll.rev q2, by rw [List.length_reverse]; exact q3⟩
      have s3 : Same G2 (upd G2 t (.tup us)) := same_new nt _
      have g3 : upd G2 t (.tup us) t = some (.tup us) := upd_same
      generalize upd G2 t (.tup us) = G3 at s3 g3
      refine ⟨_, rfl, by show 1 ≤ 2 ^ 24; decide, fun p1 m1 => ⟨_, rfl, p1, n, [.bl true], rfl, rfl, .inl (.inl upd_same), by simp, by omega, by omega, by decide, fun p2 m2 => ⟨by show 3 ≤ 2 ^ 24; decide, fun p3 m3 => ?_⟩⟩⟩
      have s4 := ((same_new m1 (.tup [V.bl true])).trans (same_new m2 (.tup (List.replicate (Int.toNat (n : Int)) [V.bl true]).flatten))).trans (same_new m3 (.tup [V.int 1, V.ref t, V.ref p2]))
      obtain ⟨x1, x2, x3⟩ := three n1 (rn _ (s3.trans s4)) (s4 _ _ g3) (same_new m3 _ _ _ upd_same) upd_same
      refine ⟨.ref p3, x1, rfl, x2, x3, fun G5 s5 => ⟨_, rfl, ?_⟩⟩
      have s6 := s4.trans s5
      refine ⟨_, rfl, t, us, rfl, s6 _ _ g3, fun p4 m4 => ⟨by show 1 ≤ 2 ^ 24; decide, fun p5 m5 => ⟨_, rfl, p5, n, [.bl false], rfl, rfl, .inl (.inl upd_same), by simp, by omega, by omega, by decide, fun p6 m6 => ⟨by show 3 ≤ 2 ^ 24; decide, fun p7 m7 => ?_⟩⟩⟩⟩
      have s7 := (((same_new m4 (.tup us.reverse)).trans (same_new m5 (.tup [V.bl false]))).trans (same_new m6 (.tup (List.replicate (Int.toNat (n : Int)) [V.bl false]).flatten))).trans (same_new m7 (.tup [V.int 1, V.ref p4, V.ref p6]))
      obtain ⟨y1, y2, y3⟩ := three n1 (rr _ (s3.trans (s6.trans s7))) (((same_new m5 (.tup [V.bl false])).trans ((same_new m6 (.tup (List.replicate (Int.toNat (n : Int)) [V.bl false]).flatten)).trans (same_new m7 (.tup [V.int 1, V.ref p4, V.ref p6])))) _ _ upd_same) (same_new m7 _ _ _ upd_same) upd_same
      refine ⟨.ref p7, y1, rfl, y2, y3, fun G8 s8 => ⟨_, rfl, _, _, rfl, ?_, ?_⟩⟩
      · exact D2.same (s3.trans (s6.trans (s7.trans s8)))
      · exact (s3.trans (s6.trans (s7.trans s8))) _ _ g2
  · rintro σ G ⟨k2, k3, rfl, DG, _⟩
    refine ⟨12, rfl, by decide, by decide, for_range (lo := 0) (n := 12) (fun i σ G => ∃ (k2 k3 k4 k5 k6 k7 k8 k9 : Option V), σ = [some (.ref a), some (.ref d), k2, k3, k4, k5, k6, k7, k8, k9, none, none, none] ∧ Deck G d c (i * 10000))
      ⟨k2, k3, none, none, none, none, none, none, rfl, DG⟩ ?_ ?_⟩
    · rintro i σ G hi ⟨k2, k3, k4, k5, k6, k7, k8, k9, rfl, DG⟩
      have ib : i * 10000 ≤ 120000 := by omega
      refine ⟨_, rfl, d, c, 4, _, rfl, DG, by omega, by decide, by decide, fun r1 G1 r10 r11 D1 s1 => ⟨_, _, rfl, rfl, _, rfl, d, c, 12, _, rfl, D1, by omega, by decide, by decide, fun r2 G2 r20 r21 D2 s2 => ?_⟩⟩
      obtain ⟨l, el⟩ : ∃ l : Nat, 1 + r1 = (l : Int) := ⟨(1 + r1).toNat, by omega⟩
      obtain ⟨n, en⟩ : ∃ n : Nat, 1 + r2 = (n : Int) := ⟨(1 + r2).toNat, by omega⟩
      refine ⟨_, _, rfl, rfl, .int l, .int n, by show [V.int (1 + r1), V.int (1 + r2)] = _; rw [el, en], ?_⟩
      refine ⟨_, rfl, _, rfl, _, rfl, d, c, l, n, _, rfl, D2, by omega, by omega, by omega, by omega, by omega, fun p md G3 im dm D3 s3 => ?_⟩
      have fm := (fit_mach im (by omega) (by omega)).mono (show 188 * n + 60 ≤ 2400 by omega) (Nat.le_refl 3)
      refine ⟨_, rfl, _, rfl, _, rfl, d, c, .ref p, md, n, _, 2400, 3, 3, rfl, rfl, by decide, D3, by omega, by omega, dm, fm, by decide, fun v1 x1 G4 h1 f1 D4 s4 => ?_⟩
      refine ⟨_, rfl, _, rfl, _, rfl, _, rfl, _, rfl, d, c, v1, x1, n, _, 22400, 6, 3, rfl, rfl, by decide, D4, by omega, by omega, h1, f1.mono (by decide) (Nat.le_refl _), by decide, fun v2 x2 G5 h2 f2 D5 s5 => ?_⟩
      refine ⟨_, rfl, _, rfl, d, c, n, _, rfl, D5, by omega, by omega, fun v3 x3 G6 h3 f3 D6 s6 => ?_⟩
      obtain ⟨rs, bs, rfl, i1, i2, i3⟩ := im
      have sM : Same (Hd d c G3) (Hd d c G6) := s4.trans (s5.trans s6)
      obtain ⟨fmA, _⟩ := fm.all
      have gm : Gd K d c G6 (.ref p) := ⟨_, dm.same sM, fm.mono (by decide) (by decide)⟩
      have gv1 : Gd K d c G6 v1 := ⟨_, h1.same (s5.trans s6), f1.mono (by decide) (by decide)⟩
      have gv2 : Gd K d c G6 v2 := ⟨_, h2.same s6, f2.mono (by decide) (by decide)⟩
      have gv3 : Gd K d c G6 v3 := ⟨_, h3, f3.mono (by decide) (by decide)⟩
      cases dm with
      | @tup _ ms _ hp0 hms0 =>
      have hms := hms0.same sM
      have hp := sM _ _ hp0
      have msl : ms.length = 3 := hms0.length
      -- list(machine), machine + (1,)
      refine ⟨_, rfl, p, _, rfl, .inr (.inl (.inl (hd_sub _ _ hp))), fun t4 n4 => ?_⟩
      have D7 := D6.new n4 (.lst ms)
      have s7 : Same (Hd d c G6) (Hd d c (upd G6 t4 (.lst ms))) := hd_new n4 _
      have g4 : Hd d c (upd G6 t4 (.lst ms)) t4 = some (.lst ms) := hd_of upd_same (D6.free n4).1 (D6.free n4).2
      generalize upd G6 t4 (.lst ms) = G7 at D7 s7 g4
      refine ⟨_, rfl, by show 1 ≤ 2 ^ 24; decide, fun t5 n5 => ⟨p, t5, _, _, rfl, rfl, same_new n5 _ _ _ (hd_sub _ _ (s7 _ _ hp)), upd_same, by rw [msl]; show 3 + 1 ≤ 2 ^ 24; decide, fun t6 G8 s8 g6 => ⟨by show 6 ≤ 2 ^ 24; decide, fun lv nlv => ?_⟩⟩⟩
      have D8 : Deck G8 d c _ := (D7.new n5 _).same s8
      have s9 : Same (Hd d c G7) (Hd d c G8) := (hd_new n5 _).trans (hd_same s8)
      have gt4 : Gd K d c G8 (.ref t4) := ⟨_, .lst (s9 _ _ g4) (hms.same (s7.trans s9)), (Fit.lst fmA).mono (by decide) (by decide)⟩
      have gt6 : Gd K d c G8 (.ref t6) := Gd.tup D8 g6 ((hms.same (s7.trans s9)).append (.cons (.int 1) .nil)) (fmA.append (FitAll.cons (n := 42) (fit_int (by decide) (by decide)) FitAll.nil)) (by decide) (by decide)
      have D9 := D8.new nlv (.lst [V.ref p, v1, v2, v3, V.ref t4, V.ref t6])
      have s10 : Same (Hd d c G8) (Hd d c (upd G8 lv (.lst [V.ref p, v1, v2, v3, V.ref t4, V.ref t6]))) := hd_new nlv _
      have glv : Hd d c (upd G8 lv (.lst [V.ref p, v1, v2, v3, V.ref t4, V.ref t6])) lv = some (.lst [V.ref p, v1, v2, v3, V.ref t4, V.ref t6]) := hd_of upd_same (D8.free nlv).1 (D8.free nlv).2
      have al : ∀ v ∈ [V.ref p, v1, v2, v3, V.ref t4, V.ref t6], Gd K d c (upd G8 lv (.lst [V.ref p, v1, v2, v3, V.ref t4, V.ref t6])) v := by
        simp only [List.forall_mem_cons]
        exact ⟨gm.same (s7.trans (s9.trans s10)), gv1.same (s7.trans (s9.trans s10)), gv2.same (s7.trans (s9.trans s10)), gv3.same (s7.trans (s9.trans s10)), gt4.same s10, gt6.same s10, fun _ h => nomatch h⟩
      have xl : [V.ref p, v1, v2, v3, V.ref t4, V.ref t6].length ≤ 6 := Nat.le_refl 6
      have sP := s7.trans (s9.trans s10)
      generalize upd G8 lv (.lst [V.ref p, v1, v2, v3, V.ref t4, V.ref t6]) = GA at D9 s10 glv al sP
      generalize [V.ref p, v1, v2, v3, V.ref t4, V.ref t6] = xsA at glv al xl
      replace hp := sP _ _ hp
      replace hms := hms.same sP
      obtain ⟨w2, hw2⟩ : ∃ w2, ms[2]? = some w2 := ⟨_, List.getElem?_eq_getElem (by omega)⟩
      obtain ⟨dd, dd1, dd2⟩ := hms.get hw2
      obtain rfl : PyData.tuple (bs.map .bool) = dd := by simpa using dd1
      cases dd2 with
      | @tup pe ws _ hpe hws =>
      have wsb := bools_are hws
      -- [(letters,) + machine[1:2] + (tuple([int(end) for end in machine[2]]),), machine[:2]]
      refine ⟨_, rfl, _, rfl, by show 1 ≤ 2 ^ 24; decide, fun q1 nq1 => ?_⟩
      have t1 := same_new nq1 (.tup [V.int (l : Int)])
      refine ⟨_, rfl, _, rfl, _, rfl, p, ms, rfl, t1 _ _ (hd_sub _ _ hp), fun q2 B1 t2 b1 => ⟨q1, q2, _, _, rfl, rfl, t2 _ _ upd_same, b1, by have := cutV_length ms (some 1) (some 2); show 1 + _ ≤ 2 ^ 24; omega, fun q3 B2 t3 b2 => ?_⟩⟩
      have u1 := t1.trans (t2.trans t3)
      refine ⟨_, rfl, p, ms, 2, .ref pe, rfl, rfl, .inl (.inl (u1 _ _ (hd_sub _ _ hp))), atI_nat (j := 2) hw2, pe, rfl, ⟨_, .inl (.inl (u1 _ _ (hd_sub _ _ hpe)))⟩, fun L nL => lc_tup (K := K) (a := pe) (xs := ws) (fun j G' => Same B2 G' ∧ ∃ zs : List Int, G' L = some (.lst (zs.map V.int)) ∧ zs.length = j ∧ ∀ z ∈ zs, z.natAbs < 10 ^ 41)
        ⟨same_new nL _, [], upd_same, rfl, fun z h => nomatch h⟩ (fun j G' _ h => .inl (.inl (h.1 _ _ (u1 _ _ (hd_sub _ _ hpe))))) ?_ ?_⟩
      · rintro j y G' hy ⟨e1, zs, z1, z2, z3⟩
        have jl : j < ws.length := (List.getElem?_eq_some_iff.mp hy).1
        rw [wsb, List.length_map] at jl
        obtain ⟨b, rfl⟩ : ∃ b, y = V.bl b := by
          rw [wsb, List.getElem?_map] at hy
          cases e : bs[j]? with
          | none => rw [e] at hy; cases hy
          | some b => rw [e] at hy; exact ⟨b, (Option.some.inj hy).symm⟩
        refine ⟨rfl, _, rfl, .inr ⟨b, rfl, _, z1, by rw [List.length_map, z2]; show j < 2 ^ 24; omega, same_grow nL e1 _, zs ++ [if b then 1 else 0], by rw [upd_same, List.map_append]; rfl, by rw [List.length_append, z2]; rfl, ?_⟩⟩
        intro z hz
        rcases List.mem_append.mp hz with hz | hz
        · exact z3 z hz
        · rw [List.mem_singleton.mp hz]
          cases b <;> decide +kernel
      rintro B3 ⟨t4', zs, z1, z2, z3⟩
      rw [wsb, List.length_map] at z2
      refine ⟨L, _, rfl, .inl ⟨.inl (.inl z1), fun q4 nq4 => ⟨by show 1 ≤ 2 ^ 24; decide, fun q5 nq5 => ?_⟩⟩⟩
      have t5 := (same_new nq4 (.tup (zs.map V.int))).trans (same_new nq5 (.tup [V.ref q4]))
      refine ⟨q3, q5, _, _, rfl, rfl, t5 _ _ (t4' _ _ b2), upd_same, by have := cutV_length ms (some 1) (some 2); rw [List.length_append]; show 1 + _ + 1 ≤ 2 ^ 24; omega, fun q6 B4 t6 b4 => ?_⟩
      have u2 := u1.trans (t4'.trans (t5.trans t6))
      refine ⟨_, rfl, _, rfl, p, ms, rfl, u2 _ _ (hd_sub _ _ hp), fun q7 B5 t7 b5 => ⟨by show 2 ≤ 2 ^ 24; decide, fun l2 nl2 => ?_⟩⟩
      have u3 := u2.trans t7
      have D10 := D9.same u3
      obtain ⟨e1, x1, y1⟩ := cut_dt (some 1) (some 2) hms
      obtain ⟨e2, x2, y2⟩ := cut_dt none (some 2) hms
      have gq6 : Gd K d c B5 (.ref q6) := by
        refine Gd.tup D10 (t7 _ _ b4) (DtAll.append (DtAll.append (.cons (.int l) .nil) (x1.same (hd_same u3))) (.cons (.tup (D10.tup ((t6.trans t7) _ _ (same_new nq5 _ _ _ upd_same))) (dt_ints zs)) .nil))
          (((FitAll.cons (n := 42) (k := 3) (fit_int (Nat.lt_of_lt_of_le (show ((l : Int)).natAbs < 5 by omega) (by decide +kernel)) (by decide)) FitAll.nil).append (y1 _ _ fmA)).append (FitAll.cons ((Fit.tup (fit_ints zs z3)).mono (Nat.le_refl _) (by decide)) FitAll.nil)) (by omega) (by decide)
      have gq7 : Gd K d c B5 (.ref q7) := Gd.tup D10 b5 (x2.same (hd_same u3)) (y2 _ _ fmA) (by decide) (by decide)
      have f2a := same_new nl2 (.lst [V.ref q6, V.ref q7])
      refine ⟨lv, l2, _, _, rfl, rfl, f2a _ _ (u3 _ _ (hd_sub _ _ glv)), upd_same, by show _ + 2 ≤ 2 ^ 24; omega, fun lv2 nlv2 => ?_⟩
      have D11 := (D10.new nl2 (.lst [V.ref q6, V.ref q7])).new nlv2 (.lst (xsA ++ [V.ref q6, V.ref q7]))
      have sQ : Same (Hd d c GA) (Hd d c (upd (upd B5 l2 (.lst [V.ref q6, V.ref q7])) lv2 (.lst (xsA ++ [V.ref q6, V.ref q7])))) := (hd_same u3).trans ((hd_new nl2 _).trans (hd_new nlv2 _))
      have sR : Same (Hd d c B5) (Hd d c (upd (upd B5 l2 (.lst [V.ref q6, V.ref q7])) lv2 (.lst (xsA ++ [V.ref q6, V.ref q7])))) := (hd_new nl2 _).trans (hd_new nlv2 _)
      have glv2 : upd (upd B5 l2 (.lst [V.ref q6, V.ref q7])) lv2 (.lst (xsA ++ [V.ref q6, V.ref q7])) lv2 = some (.lst (xsA ++ [V.ref q6, V.ref q7])) := upd_same
      have flv2 := (D10.new nl2 (.lst [V.ref q6, V.ref q7])).free nlv2
      replace al : ∀ v ∈ xsA ++ [V.ref q6, V.ref q7], Gd K d c (upd (upd B5 l2 (.lst [V.ref q6, V.ref q7])) lv2 (.lst (xsA ++ [V.ref q6, V.ref q7]))) v := by
        intro v hv
        rcases List.mem_append.mp hv with hv | hv
        · exact (al v hv).same sQ
        · rcases List.mem_cons.mp hv with rfl | hv
          · exact gq6.same sR
          · rw [List.mem_singleton.mp hv]; exact gq7.same sR
      have xl2 : (xsA ++ [V.ref q6, V.ref q7]).length ≤ 8 := by rw [List.length_append]; show _ + 2 ≤ 8; omega
      generalize upd (upd B5 l2 (.lst [V.ref q6, V.ref q7])) lv2 (.lst (xsA ++ [V.ref q6, V.ref q7])) = GB at D11 sQ al glv2
      generalize xsA ++ [V.ref q6, V.ref q7] = xsB at al glv2 xl2
      replace hp := sQ _ _ hp
      replace hms := hms.same sQ
      -- [(letter,) + machine[1:] for letter in ..]
      have itm : ∀ x ∈ ([V.int 0, V.int 5, V.bl true, V.non, V.str "2", V.int 4, V.int (-1)] : List V), ∃ y, Dt K emp x y ∧ Fit 42 0 y := by
        simp only [List.forall_mem_cons]
        exact ⟨⟨_, .int _, fit_int (by decide) (by decide)⟩, ⟨_, .int _, fit_int (by decide) (by decide)⟩, ⟨_, .bl _, fit_bl (by decide)⟩, ⟨_, .non, fit_non (by decide)⟩, ⟨_, .str _, fit_str (m := 10) (by decide +kernel) (by decide)⟩,
          ⟨_, .int _, fit_int (by decide) (by decide)⟩, ⟨_, .int _, fit_int (by decide) (by decide)⟩, fun _ h => nomatch h⟩
      obtain ⟨e3, x3', y3'⟩ := cut_dt (some 1) none hms
      have cl1 := cutV_length ms (some 1) none
      refine ⟨_, rfl, _, rfl, by show 7 ≤ 2 ^ 24; decide, fun l3 nl3 => ?_⟩
      have v1' := same_new nl3 (.lst ([V.int 0, V.int 5, V.bl true, V.non, V.str "2", V.int 4, V.int (-1)] : List V))
      have D12 := D11.new nl3 (.lst ([V.int 0, V.int 5, V.bl true, V.non, V.str "2", V.int 4, V.int (-1)] : List V))
      have gl3 : upd GB l3 (.lst ([V.int 0, V.int 5, V.bl true, V.non, V.str "2", V.int 4, V.int (-1)] : List V)) l3 = some (.lst [V.int 0, V.int 5, V.bl true, V.non, V.str "2", V.int 4, V.int (-1)]) := upd_same
      refine ⟨l3, rfl, ⟨_, .inl (.inl gl3)⟩, fun L2 nL2 => lc_list (K := K) (a := l3) (xs := [V.int 0, V.int 5, V.bl true, V.non, V.str "2", V.int 4, V.int (-1)]) (fun j G' => Same (upd GB l3 (.lst ([V.int 0, V.int 5, V.bl true, V.non, V.str "2", V.int 4, V.int (-1)] : List V))) G' ∧ ∃ us, G' L2 = some (.lst us) ∧ us.length = j ∧ ∀ v ∈ us, ∃ y, Dt K (Hr L2 (Hd d c G')) v y ∧ Fit 400000 12 y)
        ⟨same_new nL2 _, [], upd_same, rfl, fun v h => nomatch h⟩ (fun j G' _ h => .inl (.inl (h.1 _ _ gl3))) ?_ ?_⟩
      · rintro j x G' hx ⟨e1', us, z1', z2', z3'⟩
        obtain ⟨y, hy1, hy2⟩ := itm x (List.mem_of_getElem? hx)
        have jl : j < 7 := (List.getElem?_eq_some_iff.mp hx).1
        refine ⟨rfl, _, rfl, by show 1 ≤ 2 ^ 24; decide, fun a1 m1 => ?_⟩
        have t1 := same_new m1 (.tup [x])
        refine ⟨_, rfl, _, rfl, p, ms, rfl, t1 _ _ (e1' _ _ (v1' _ _ (hd_sub _ _ hp))), fun a2 B1' t2 b1' => ⟨a1, a2, _, _, rfl, rfl, t2 _ _ upd_same, b1', by show 1 + _ ≤ 2 ^ 24; omega, fun a3 B2' t3 b2' => ?_⟩⟩
        have t4 := t1.trans (t2.trans t3)
        have uL := t4 _ _ z1'
        have aL : a3 ≠ L2 := ne_of b2' uL fun z => nomatch z
        have D13 := D12.same (e1'.trans t4)
        have nGB : Hd d c GB L2 = none := hd_none (v1'.free nL2)
        have sX : Same (Hr L2 (Hd d c G')) (Hr L2 (Hd d c (upd B2' L2 (.lst (us ++ [.ref a3]))))) := (hr_same (hd_same t4)).trans hr_put
        refine ⟨us, uL, by rw [z2']; show j < 2 ^ 24; omega, same_grow nL2 (e1'.trans t4) _, us ++ [.ref a3], upd_same, by rw [List.length_append, z2']; rfl, ?_⟩
        intro v hv
        rcases List.mem_append.mp hv with hv | hv
        · obtain ⟨y', k1, k2⟩ := z3' v hv
          exact ⟨y', k1.same sX, k2⟩
        · rw [List.mem_singleton.mp hv]
          have gA : Hr L2 (Hd d c (upd B2' L2 (.lst (us ++ [.ref a3])))) a3 = some (.tup ([x] ++ cutV ms (some 1) none)) := hr_put _ _ (hr_of (D13.tup b2') aL)
          have cA := x3'.same ((hr_fresh nGB (hd_same (v1'.trans (e1'.trans t4)))).trans (hr_put (R := L2) (o := .lst (us ++ [.ref a3]))))
          exact ⟨_, .tup gA (DtAll.append (.cons (hy1.same emp_same) .nil) cA), (Fit.tup ((FitAll.cons (hy2.mono (Nat.le_refl _) (by decide)) (FitAll.nil (k := 3))).append (y3' _ _ fmA))).mono (by decide) (by decide)⟩
      rintro B6 ⟨e1', us, z1', z2', z3'⟩
      have u4 := v1'.trans e1'
      have D14 := D11.same u4
      have gus : ∀ v ∈ us, Gd K d c B6 v := fun v hv => let ⟨y, k1, k2⟩ := z3' v hv; ⟨y, k1.same hr_sub, k2⟩
      refine ⟨lv2, L2, _, _, rfl, rfl, u4 _ _ glv2, z1', by rw [z2']; show _ + 7 ≤ 2 ^ 24; omega, fun lv3 nlv3 => ?_⟩
      have D15 := D14.new nlv3 (.lst (xsB ++ us))
      have sS : Same (Hd d c B6) (Hd d c (upd B6 lv3 (.lst (xsB ++ us)))) := hd_new nlv3 _
      have sT : Same (Hd d c GB) (Hd d c (upd B6 lv3 (.lst (xsB ++ us)))) := (hd_same u4).trans sS
      have glv3 : upd B6 lv3 (.lst (xsB ++ us)) lv3 = some (.lst (xsB ++ us)) := upd_same
      replace al : ∀ v ∈ xsB ++ us, Gd K d c (upd B6 lv3 (.lst (xsB ++ us))) v := by
        intro v hv
        rcases List.mem_append.mp hv with hv | hv
        · exact (al v hv).same sT
        · exact (gus v hv).same sS
      have xl3 : (xsB ++ us).length ≤ 15 := by rw [List.length_append, z2']; show _ + 7 ≤ 15; omega
      generalize upd B6 lv3 (.lst (xsB ++ us)) = GD at D15 sT al glv3
      generalize xsB ++ us = xsC at al glv3 xl3
      replace hp := sT _ _ hp
      replace hms := hms.same sT
      -- [(1 + letters % 4,) + machine[1:], machine[:1] + ((),) + machine[2:], (letters, (), ())]
      have bl1 : ((l : Int)).natAbs < 10 ^ 41 := Nat.lt_of_lt_of_le (show ((l : Int)).natAbs < 5 by omega) (by decide +kernel)
      have bl2 : (1 + (l : Int) % 4).natAbs < 10 ^ 41 := Nat.lt_of_lt_of_le (show (1 + (l : Int) % 4).natAbs < 5 by omega) (by decide +kernel)
      obtain ⟨e4, x4', y4'⟩ := cut_dt (some 1) none hms
      obtain ⟨e5, x5', y5'⟩ := cut_dt none (some 1) hms
      obtain ⟨e6, x6', y6'⟩ := cut_dt (some 2) none hms
      have cl2 := cutV_length ms none (some 1)
      have cl3 := cutV_length ms (some 2) none
      refine ⟨_, rfl, _, rfl, _, _, rfl, rfl, by show (0 : Int) < 4; decide, _, _, rfl, rfl, by show 1 ≤ 2 ^ 24; decide, fun c1 n1 => ?_⟩
      have t1 := same_new n1 (.tup [V.int (1 + (l : Int) % 4)])
      refine ⟨_, rfl, _, rfl, p, ms, rfl, t1 _ _ (hd_sub _ _ hp), fun c2 C1 t2 g2 => ⟨c1, c2, _, _, rfl, rfl, t2 _ _ upd_same, g2, by show 1 + _ ≤ 2 ^ 24; omega, fun c3 C2 t3 g3 => ?_⟩⟩
      have r1' := t1.trans (t2.trans t3)
      refine ⟨_, rfl, _, rfl, p, ms, rfl, r1' _ _ (hd_sub _ _ hp), fun c4 C3 t4 g4' => ⟨by show 0 ≤ 2 ^ 24; decide, fun c5 n5' => ⟨by show 1 ≤ 2 ^ 24; decide, fun c6 n6 => ?_⟩⟩⟩
      have t5 := (same_new n5' (.tup [])).trans (same_new n6 (.tup [V.ref c5]))
      have g5' := same_new n6 (.tup [V.ref c5]) _ _ (upd_same (H := C3) (a := c5) (o := .tup []))
      refine ⟨c4, c6, _, _, rfl, rfl, t5 _ _ g4', upd_same, by show _ + 1 ≤ 2 ^ 24; omega, fun c7 C4 t6 g7 => ?_⟩
      have r2' := r1'.trans (t4.trans (t5.trans t6))
      refine ⟨_, rfl, _, rfl, p, ms, rfl, r2' _ _ (hd_sub _ _ hp), fun c8 C5 t7 g8 => ⟨c7, c8, _, _, rfl, rfl, t7 _ _ g7, g8, by rw [List.length_append]; show _ + 1 + _ ≤ 2 ^ 24; omega, fun c9 C6 t8 g9 => ?_⟩⟩
      have r3' := r2'.trans (t7.trans t8)
      have D16 := D15.same r3'
      refine ⟨_, rfl, by show 0 ≤ 2 ^ 24; decide, fun c10 n10 => ⟨by show 0 ≤ 2 ^ 24; decide, fun c11 n11 => ⟨by show 3 ≤ 2 ^ 24; decide, fun c12 n12 => ⟨by show 3 ≤ 2 ^ 24; decide, fun l4 nl4 => ?_⟩⟩⟩⟩
      have w1 := same_new n10 (.tup [])
      have w2' := same_new n11 (.tup [])
      have w3 := same_new n12 (.tup [V.int (l : Int), V.ref c10, V.ref c11])
      have w4 := same_new nl4 (.lst [V.ref c3, V.ref c9, V.ref c12])
      have w123 := w1.trans (w2'.trans w3)
      have D17 := D16.same w123
      have gc3 : Gd K d c C6 (.ref c3) := Gd.tup D16 ((t4.trans (t5.trans (t6.trans (t7.trans t8)))) _ _ g3) (DtAll.append (.cons (.int _) .nil) (x4'.same (hd_same r3'))) ((FitAll.cons (n := 42) (k := 3) (fit_int bl2 (by decide)) FitAll.nil).append (y4' _ _ fmA)) (by decide) (by decide)
      have gc9 : Gd K d c C6 (.ref c9) := Gd.tup D16 g9 (DtAll.append (DtAll.append (x5'.same (hd_same r3')) (.cons (.tup (D16.tup ((t6.trans (t7.trans t8)) _ _ g5')) .nil) .nil)) (x6'.same (hd_same r3')))
        (((y5' _ _ fmA).append (FitAll.cons ((Fit.tup (FitAll.nil (k := 0))).mono (Nat.le_refl _) (by decide)) FitAll.nil)).append (y6' _ _ fmA)) (by decide) (by decide)
      have gc12 : Gd K d c _ (.ref c12) := Gd.tup D17 upd_same (.cons (.int _) (.cons (.tup (D17.tup ((w2'.trans w3) _ _ upd_same)) .nil) (.cons (.tup (D17.tup (w3 _ _ upd_same)) .nil) .nil)))
        (FitAll.cons (n := 42) (k := 1) (fit_int bl1 (by decide)) (FitAll.cons (Fit.tup (FitAll.nil (k := 0))) (FitAll.cons (Fit.tup (FitAll.nil (k := 0))) FitAll.nil))) (by decide) (by decide)
      have r4 := r3'.trans (w123.trans w4)
      refine ⟨lv3, l4, _, _, rfl, rfl, r4 _ _ glv3, upd_same, by show _ + 3 ≤ 2 ^ 24; omega, fun lv4 nlv4 => ?_⟩
      have w5 := same_new nlv4 (.lst (xsC ++ [V.ref c3, V.ref c9, V.ref c12]))
      have D18 := D17.same (w4.trans w5)
      have mk : ∀ G' : Hp, (∀ v ∈ xsC, Gd K d c G' v) → Gd K d c G' (.ref c3) → Gd K d c G' (.ref c9) → Gd K d c G' (.ref c12) → ∀ v ∈ xsC ++ [V.ref c3, V.ref c9, V.ref c12], Gd K d c G' v := by
        intro G' b0 b1 b2 b3 v hv
        rcases List.mem_append.mp hv with hv | hv
        · exact b0 v hv
        · rcases List.mem_cons.mp hv with rfl | hv
          · exact b1
          · rcases List.mem_cons.mp hv with rfl | hv
            · exact b2
            · rw [List.mem_singleton.mp hv]; exact b3
      have alE := mk _ (fun v hv => (al v hv).same (hd_same (r4.trans w5))) (gc3.same (hd_same (w123.trans (w4.trans w5)))) (gc9.same (hd_same (w123.trans (w4.trans w5)))) (gc12.same (hd_same (w4.trans w5)))
      -- for value in values
      have glvE : (upd (upd (upd (upd (upd C6 c10 (.tup [])) c11 (.tup [])) c12 (.tup [V.int (l : Int), V.ref c10, V.ref c11])) l4 (.lst [V.ref c3, V.ref c9, V.ref c12])) lv4 (.lst (xsC ++ [V.ref c3, V.ref c9, V.ref c12]))) lv4 = some (.lst (xsC ++ [V.ref c3, V.ref c9, V.ref c12])) := upd_same
      generalize upd (upd (upd (upd (upd C6 c10 (.tup [])) c11 (.tup [])) c12 (.tup [V.int (l : Int), V.ref c10, V.ref c11])) l4 (.lst [V.ref c3, V.ref c9, V.ref c12])) lv4 (.lst (xsC ++ [V.ref c3, V.ref c9, V.ref c12])) = GE at D18 alE glvE
      refine ⟨_, rfl, lv4, rfl, ⟨_, .inl (.inl glvE)⟩, for_list (K := K) (a := lv4) (xs := xsC ++ [V.ref c3, V.ref c9, V.ref c12]) (fun j σ G' => ∃ k9' : Option V, σ = [some (.ref a), some (.ref d), some (.int n), k3, some (.int (0 + i)), some (.int l), some (.ref p), some v1, some (.ref lv4), k9', none, none, none] ∧
          Same GE G') ⟨_, rfl, Same.refl _⟩ (fun j σ G' _ h => let ⟨_, _, s⟩ := h; .inl (.inl (s _ _ glvE))) ?_ ?_⟩
      · rintro j v σ G' hv ⟨k9', rfl, sG⟩
        obtain ⟨x, gx1, gx2⟩ := (alE v (List.mem_of_getElem? hv)).same (hd_same sG)
        refine ⟨_, rfl, v, x, rfl, gx1.same hd_sub, gx2.mono (by decide) (by decide), fun G'' sG2 => ⟨_, rfl, _, rfl, sG.trans sG2⟩⟩
      · rintro σ G' ⟨k9', rfl, sG⟩
        exact ⟨_, _, _, _, _, _, _, _, rfl, (D18.same sG).mono (by omega)⟩
    · rintro σ G1 ⟨k2, k3, k4, k5, k6, k7, k8, k9, rfl, DG1⟩
      refine ⟨by show 1 ≤ 2 ^ 24; decide, fun p1 m1 => ⟨by show 1 ≤ 2 ^ 24; decide, fun p2 m2 => ⟨by show 1 ≤ 2 ^ 24; decide, fun p3 m3 => ⟨by show 3 ≤ 2 ^ 24; decide, fun p4 m4 => ?_⟩⟩⟩⟩
      have s1 := same_new m1 (.tup [V.int 0])
      have s2 := same_new m2 (.tup [V.ref p1])
      have s3 := same_new m3 (.tup [V.bl true])
      have s4 := same_new m4 (.tup [V.bl true, V.ref p2, V.ref p3])
      refine ⟨.ref p4, .tuple [.bool true, .tuple [.tuple [.int 0]], .tuple [.bool true]], rfl, .tup upd_same (.cons (.bl true) (.cons (.tup (s4 _ _ (s3 _ _ upd_same)) (.cons (.tup (s4 _ _ (s3 _ _ (s2 _ _ upd_same))) (.cons (.int 0) .nil)) .nil)) (.cons (.tup (s4 _ _ upd_same) (.cons (.bl true) .nil)) .nil))), by unfold Small; decide +kernel, fun G2 s5 => ?_⟩
      have e1 : err (.tuple [.bool true, .tuple [.tuple [.int 0]], .tuple [.bool true]]) = .str "letters" := rfl
      rw [e1]
      have f1 : Fit 20 0 (.str "letters") := fit_str (m := 20) (by decide +kernel) (by decide)
      refine ⟨_, _, rfl, .str _, f1.s, by decide +kernel, f1.shown (K := K) (H := G2) (.str _) (by decide), ⟨_, _, rfl, .str _, f1.s, by decide +kernel, f1.shown (K := K) (H := G2) (.str _) (by decide), rfl, ?_⟩⟩
      show Q (.bl (decide (V.str (PyData.str "letters").shown = V.str (PyData.str "letters").shown))) G2
      rw [decide_eq_true rfl]
      exact q G2
end
end K21
namespace K21
open PySem L2 GL
/-- where the top has left a def -/
structure DF (K : PySem.W.Frag) (x : Str) (st : Stmt) (f : Addr) (fd : FuncData) : Prop where
  ns : PySem.W.nsIn K mainGlobals x = some (some (.ref f))
  fn : Fun K x x st f fd
theorem df {K : PySem.W.Frag} {x : Str} {st : Stmt} {f : Addr} {oc : Value} {od an : Option Addr} {osl : Array (Option Value)} {kV doc pm cdv ct : Value} (a : PySem.W.nsIn K mainGlobals x = some (some (.ref f)))
    (l : K.lookup f = some ⟨oc, od, .func (PySem.W.fnOf x x (defArgs st) (defBody st) (defScope st) .none kV doc pm an cdv ct), osl⟩) (c : PySem.W.codeIn K cdv x = true) (k : PySem.W.keepIn K (.ref f) = true) :
    DF K x st f (PySem.W.fnOf x x (defArgs st) (defBody st) (defScope st) .none kV doc pm an cdv ct) := ⟨a, fun_mk l c k⟩
theorem all_mk {l : PySem.W.OpenLaw} {w : World} {K : PySem.W.Frag} {h : Heap} {mg : Str → Option Value} {fa : Addr} (X : K.In h) (G : h.Ns mainGlobals mg) (hfa : mg "law" = some (.ref fa))
    {f3 f4 f5 f6 f7 f9 f10 f11 f12 f13 f14 f15 f16 f17 f18 f19 : Addr} {d3 d4 d5 d6 d7 d9 d10 d11 d12 d13 d14 d15 d16 d17 d18 d19 : FuncData} {t1 t2 : Tok}
    (F3 : DF K "is_number" sNumber f3 d3) (F4 : DF K "is_row" sRow f4 d4) (F5 : DF K "are_rows" sRows f5 d5) (F6 : DF K "are_ends" sEnds f6 d6) (F7 : DF K "machine_error" sErr f7 d7)
    (F9 : DF K "_law_deck" sDeck f9 d9) (F10 : DF K "_law_draw" sDraw f10 d10) (F11 : DF K "_law_one" sOne f11 d11) (F12 : DF K "_law_machine" sMach f12 d12) (F13 : DF K "_law_whole" sWhole f13 d13) (F14 : DF K "_law_are_rows" sLRows f14 d14)
    (F15 : DF K "_law_error" sLErr f15 d15) (F16 : DF K "_law_odd" sOdd f16 d16) (F17 : DF K "_law_bent" sBent f17 d17) (F18 : DF K "_law_right" sRight f18 d18) (F19 : DF K "law" sLaw f19 d19)
    (z1 : PySem.W.nsIn K mainGlobals "isinstance" = some none) (z2 : PySem.W.nsIn K mainGlobals "int" = some none) (z3 : PySem.W.nsIn K mainGlobals "bool" = some none) (z4 : PySem.W.nsIn K mainGlobals "tuple" = some none) (z5 : PySem.W.nsIn K mainGlobals "len" = some none)
    (z6 : PySem.W.nsIn K mainGlobals "all" = some none) (z7 : PySem.W.nsIn K mainGlobals "abs" = some none) (z8 : PySem.W.nsIn K mainGlobals "range" = some none) (z9 : PySem.W.nsIn K mainGlobals "repr" = some none) (z10 : PySem.W.nsIn K mainGlobals "list" = some none)
    (m1 : PySem.W.nsIn K mainGlobals "MAX_LETTERS" = some (some (.int 4 t1))) (m2 : PySem.W.nsIn K mainGlobals "MAX_ROWS" = some (some (.int 400 t2))) :
    ∃ fd : FuncData, (∀ (s : Shared) (v : Value), BindsTo s fd ⟨[v], []⟩ [("_law_script", v)]) ∧ ∀ base : Heap, K.In base → base.Ns mainGlobals mg → Fg l.prog w K mg base CX0 8 fa fd ["_law_script"] (spLaw K) := by
  have e := hfa.symm.trans (PySem.W.mg_of X G F19.ns)
  cases e
  have T : Txt mg := ⟨PySem.W.mg_none_of X G z1, PySem.W.mg_none_of X G z2, PySem.W.mg_none_of X G z3, PySem.W.mg_none_of X G z4, PySem.W.mg_none_of X G z5, PySem.W.mg_none_of X G z6, PySem.W.mg_none_of X G z7, PySem.W.mg_none_of X G z8,
    PySem.W.mg_none_of X G z9, PySem.W.mg_none_of X G z10, ⟨_, PySem.W.mg_of X G m1⟩, ⟨_, PySem.W.mg_of X G m2⟩⟩
  refine ⟨d19, fun s v => ?_, fun base _ _ => ?_⟩
  · obtain ⟨oc, od, kV, doc, pm, an, cdv, ct, osl, rfl, _, _⟩ := F19.fn.ex
    exact .of_eq rfl
  have D3 : Dfn l.prog w K mg base "is_number" 1 f3 d3 ["value", "low", "high"] (spNumber K) := ⟨ok_number F3.fn T, F3.fn.binds fun _ _ _ _ _ _ us hl => match us, hl with | [_, _, _], _ => rfl, PySem.W.mg_of X G F3.ns, F3.fn.kp⟩
  have D4 : Dfn l.prog w K mg base "is_row" 2 f4 d4 ["value", "letters", "states"] (spRow K) := ⟨ok_row F4.fn T D3, F4.fn.binds fun _ _ _ _ _ _ us hl => match us, hl with | [_, _, _], _ => rfl, PySem.W.mg_of X G F4.ns, F4.fn.kp⟩
  have D5 : Dfn l.prog w K mg base "are_rows" 3 f5 d5 ["value", "letters"] (spRows K) := ⟨ok_rows F5.fn T D4, F5.fn.binds fun _ _ _ _ _ _ us hl => match us, hl with | [_, _], _ => rfl, PySem.W.mg_of X G F5.ns, F5.fn.kp⟩
  have D6 : Dfn l.prog w K mg base "are_ends" 1 f6 d6 ["value", "states"] (spEnds K) := ⟨ok_ends F6.fn T, F6.fn.binds fun _ _ _ _ _ _ us hl => match us, hl with | [_, _], _ => rfl, PySem.W.mg_of X G F6.ns, F6.fn.kp⟩
  have D7 : Dfn l.prog w K mg base "machine_error" 4 f7 d7 ["value"] (spErr K) := ⟨ok_err F7.fn T D3 D5 D6, F7.fn.binds fun _ _ _ _ _ _ us hl => match us, hl with | [_], _ => rfl, PySem.W.mg_of X G F7.ns, F7.fn.kp⟩
  have D9 : Dfn l.prog w K mg base "_law_deck" 1 f9 d9 ["_law_script"] (spDeck K) := ⟨ok_deck F9.fn T, F9.fn.binds fun _ _ _ _ _ _ us hl => match us, hl with | [_], _ => rfl, PySem.W.mg_of X G F9.ns, F9.fn.kp⟩
  have D10 : Dfn l.prog w K mg base "_law_draw" 1 f10 d10 ["_law_deck_here", "_law_many"] spDraw := ⟨ok_draw F10.fn T, F10.fn.binds fun _ _ _ _ _ _ us hl => match us, hl with | [_, _], _ => rfl, PySem.W.mg_of X G F10.ns, F10.fn.kp⟩
  have D11 : Dfn l.prog w K mg base "_law_one" 2 f11 d11 ["_law_deck_here", "_law_items"] spOne := ⟨ok_one F11.fn T D10, F11.fn.binds fun _ _ _ _ _ _ us hl => match us, hl with | [_, _], _ => rfl, PySem.W.mg_of X G F11.ns, F11.fn.kp⟩
  have D12 : Dfn l.prog w K mg base "_law_machine" 3 f12 d12 ["_law_deck_here", "_law_letters", "_law_many"] (spMach K) := ⟨ok_mach F12.fn T D10 D11, F12.fn.binds fun _ _ _ _ _ _ us hl => match us, hl with | [_, _, _], _ => rfl, PySem.W.mg_of X G F12.ns, F12.fn.kp⟩
  have D13 : Dfn l.prog w K mg base "_law_whole" 1 f13 d13 ["_law_value", "_law_least", "_law_most"] (spNumber K) := ⟨ok_whole F13.fn T, F13.fn.binds fun _ _ _ _ _ _ us hl => match us, hl with | [_, _, _], _ => rfl, PySem.W.mg_of X G F13.ns, F13.fn.kp⟩
  have D14 : Dfn l.prog w K mg base "_law_are_rows" 2 f14 d14 ["_law_value", "_law_letters"] (spRows K) := ⟨ok_lrows F14.fn T D13, F14.fn.binds fun _ _ _ _ _ _ us hl => match us, hl with | [_, _], _ => rfl, PySem.W.mg_of X G F14.ns, F14.fn.kp⟩
  have D15 : Dfn l.prog w K mg base "_law_error" 3 f15 d15 ["_law_value"] (spErr K) := ⟨ok_lerr F15.fn T D13 D14, F15.fn.binds fun _ _ _ _ _ _ us hl => match us, hl with | [_], _ => rfl, PySem.W.mg_of X G F15.ns, F15.fn.kp⟩
  have D16 : Dfn l.prog w K mg base "_law_odd" 3 f16 d16 ["_law_deck_here", "_law_many"] (spOdd K) := ⟨ok_odd F16.fn D11, F16.fn.binds fun _ _ _ _ _ _ us hl => match us, hl with | [_, _], _ => rfl, PySem.W.mg_of X G F16.ns, F16.fn.kp⟩
  have B17 : L2.Binds K d17 ["_law_deck_here", "_law_value", "_law_many", "_law_deep"] [] := F17.fn.binds fun _ _ _ _ _ _ us hl => match us, hl with | [_, _, _, _], _ => rfl
  have D17 : Dfn l.prog w K mg base "_law_bent" 7 f17 d17 ["_law_deck_here", "_law_value", "_law_many", "_law_deep"] (spBent K 4) := ⟨ok_bent F17.fn B17 (PySem.W.mg_of X G F17.ns) T D10 D16 4, B17, PySem.W.mg_of X G F17.ns, F17.fn.kp⟩
  have D18 : Gfn l.prog w K mg base "_law_right" 5 f18 d18 ["_law_value"] (spRight K) := ⟨ok_right F18.fn T D7 D15, F18.fn.binds fun _ _ _ _ _ _ us hl => match us, hl with | [_], _ => rfl, PySem.W.mg_of X G F18.ns, F18.fn.kp⟩
  exact ok_law F19.fn T D9 D10 D12 D17 D16 D18 D7
end K21
open PySem PySem.W PyProof.Rows
set_option maxRecDepth 100000 in
set_option maxHeartbeats 0 in
theorem PySem.Challenge.cw_pairedaway_k21_machines_with_errors_holds : PySem.Challenge.rw_pairedaway_k21_machines_with_errors.Holds := by
  w_on; o_law; k_head; (case hw => w_witness2)
  k_fill
  refine GL.walk_g (l := PySem.Challenge.rw_pairedaway_k21_machines_with_errors) (n := 63) (k := 8) (x := "_law_script") (sp := K21.spLaw) rfl (by decide) rfl ⟨rfl, by decide, by decide⟩ (fun w h Y => PySem.W.kIn_of Y) ?F (fun K H a ns hl _ hS => ⟨a, ns, rfl, hS, hl, fun _ => rfl⟩)
  case F =>
    intro w mg fa h KX G hmg
    refine' K21.all_mk KX G hmg (K21.df ?a3 ?l3 ?c3 ?k3) (K21.df ?a4 ?l4 ?c4 ?k4) (K21.df ?a5 ?l5 ?c5 ?k5) (K21.df ?a6 ?l6 ?c6 ?k6) (K21.df ?a7 ?l7 ?c7 ?k7) (K21.df ?a9 ?l9 ?c9 ?k9) (K21.df ?a10 ?l10 ?c10 ?k10) (K21.df ?a11 ?l11 ?c11 ?k11) (K21.df ?a12 ?l12 ?c12 ?k12) (K21.df ?a13 ?l13 ?c13 ?k13) (K21.df ?a14 ?l14 ?c14 ?k14) (K21.df ?a15 ?l15 ?c15 ?k15) (K21.df ?a16 ?l16 ?c16 ?k16) (K21.df ?a17 ?l17 ?c17 ?k17) (K21.df ?a18 ?l18 ?c18 ?k18) (K21.df ?a19 ?l19 ?c19 ?k19) ?z1 ?z2 ?z3 ?z4 ?z5 ?z6 ?z7 ?z8 ?z9 ?z10 ?m1 ?m2
    (case a3 => k_is); (case l3 => k_is); (case c3 => k_is); (case k3 => k_is)
    (case a4 => k_is); (case l4 => k_is); (case c4 => k_is); (case k4 => k_is)
    (case a5 => k_is); (case l5 => k_is); (case c5 => k_is); (case k5 => k_is)
    (case a6 => k_is); (case l6 => k_is); (case c6 => k_is); (case k6 => k_is)
    (case a7 => k_is); (case l7 => k_is); (case c7 => k_is); (case k7 => k_is)
    (case a9 => k_is); (case l9 => k_is); (case c9 => k_is); (case k9 => k_is)
    (case a10 => k_is); (case l10 => k_is); (case c10 => k_is); (case k10 => k_is)
    (case a11 => k_is); (case l11 => k_is); (case c11 => k_is); (case k11 => k_is)
    (case a12 => k_is); (case l12 => k_is); (case c12 => k_is); (case k12 => k_is)
    (case a13 => k_is); (case l13 => k_is); (case c13 => k_is); (case k13 => k_is)
    (case a14 => k_is); (case l14 => k_is); (case c14 => k_is); (case k14 => k_is)
    (case a15 => k_is); (case l15 => k_is); (case c15 => k_is); (case k15 => k_is)
    (case a16 => k_is); (case l16 => k_is); (case c16 => k_is); (case k16 => k_is)
    (case a17 => k_is); (case l17 => k_is); (case c17 => k_is); (case k17 => k_is)
    (case a18 => k_is); (case l18 => k_is); (case c18 => k_is); (case k18 => k_is)
    (case a19 => k_is); (case l19 => k_is); (case c19 => k_is); (case k19 => k_is)
    (case z1 => k_is)
    (case z2 => k_is)
    (case z3 => k_is)
    (case z4 => k_is)
    (case z5 => k_is)
    (case z6 => k_is)
    (case z7 => k_is)
    (case z8 => k_is)
    (case z9 => k_is)
    (case z10 => k_is)
    (case m1 => k_is); (case m2 => k_is)
