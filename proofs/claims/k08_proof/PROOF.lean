import PyProof.Rows.All
import Wide.All
import OpenK.AllK
import Wide.FinOn
import HandS.ForMost
import HandS.DictComp
import HandS.SortRule
import HandS.Conv
import HandS.More
import HandS.Iter
import KE.KDictWalk
import KE.KDictDisplayH
import KE.GoesEnum
import HandS.Zip
import KE.KDictZip
import HandS.Wide
import HandS.Evl
import HandS.IsInst
import HandS.Property
import HandS.Style
import HandS.Codes
import HandS.Walk
import HandS.DictTup
import KE.KDictPairs
import KE.KDictCopyH
import HandS.Dict
import HandS.DictEq
import HandS.Words
import HandS.OwnEq
import HandS.Exc
import HandS.ExcIs
import HandS.ExcField
import HandS.Lambda
import HandS.ExcInit
import KE.KSuper
import KE.KExcSuper
import HandS.WordsExc
import HandS.TupAny
import HandS.MakeKwOnly
import HandS.Base
import HandS.Call
import HandS.Defaults
import HandS.HeadHook1
import HandS.HeadHook2
import HandS.HeadHook4
import HandS.EndTab
import HandS.HeadWalk
import HandS.AnyAll
import HandS.SortInts
import KE.KStateDown
import HandS.Ends
import HandS.Head0
import HandS.Head1
import HandS.Head2
import HandS.HeadEnd
import PySem.Challenge.RW_blindweirs_k08_points_hidden
set_option Elab.async false
set_option linter.all false
set_option maxRecDepth 100000
set_option maxHeartbeats 4000000
/-! A dict comprehension whose keys are tuples. -/
namespace Bw
open PySem PySem.Spec PyProof.Rows L2
/-- a store into a dict that a comprehension makes, whatever its keys -/
theorem set_made {X : Cx} {pins : List (Addr × Obj)} {σ : L2.St} {H H' : Hp} {s : Shared} {E : Value → Shared → Prop} {D : Addr} {y v : V} {u r : Value} {Q : Unit → Shared → Prop} (hu : X.A.units + 1 < cLine)
    (I : Inv X pins σ H s) (g : DPut H D y v H') (ry : RelV y u) (rv : RelV v r) (k : ∀ s', Inv X pins σ H' s' → Q () s') : wpAny (model X.prog X.w) X.A (dictSet D u r) Q E s := by
  rcases g with ⟨kvs, key, e, ey, l, eH⟩ | ⟨kvs, key, b, e, ey, eb, l, eH⟩
  · rw [ey] at ry
    rw [eH] at k
    exact d_dictSet I e l ry rv k
  · rw [ey] at ry
    rw [eH] at k
    obtain rfl : u = Value.ref b := ry
    obtain ⟨z, hd, xs, rel, dd⟩ := dt_of I.hok e
    have z2 := length_putK kvs key v
    refine wpAny_dictSet_heap (hsz := by have := Paired.length rel; omega) (show X.A.units < cLine by omega) (key_of I.hok eb) dd fun h' dn sb => k _ ?_
    obtain ⟨q, es, ep, q1, q2, q3, q4, _, q5⟩ := dn
    have keep : KT (upd H D (.dT (putK kvs key v))) (putK kvs key v) (storedH xs key b r) := (rel.put key eb rv).keeps fun c ys ec => (upd_ne (ne_of ec e fun z => nomatch z)).trans ec
    exact d_write I (by rw [e]; exact True.intro) sb ⟨q, q1⟩ ⟨by omega, hd, _, keep, q, es, ep, q1, q2, q3, q4, q5⟩
section
variable {X : Cx}
/-- {k: v for target in iter if ..}, keys tuples: D the new dict -/
def tDt (wi : TI) (g : TG) (tt : TT) (tk tv : TE) (vs : List Nat) : TE := fun σ H Q => wi σ H fun J H1 => ∀ D, H1 D = none → ∃ W : Nat → Nat → Hp → Prop, (∃ m, W 0 m (upd H1 D (.dT []))) ∧ ∀ i m H, W i m H →
  (J.stop i H ∧ Q (.ref D) H) ∨ (J.go i H ∧ ∃ Nx : Hp → Prop, (∀ H', Nx H' → ∃ m', m' < m ∧ W (i + 1) m' H') ∧ ∀ x H', J.yld i H x H' → g x (wipe σ vs) H' fun σ2 H2 => wipe σ2 vs = wipe σ vs ∧ tt σ2 H2 fun b H3 =>
    if b = true then tk σ2 H3 fun y H4 => tv σ2 H4 fun z H5 => ∃ H6, DPut H5 D y z H6 ∧ Nx H6 else Nx H3)
abbrev newD : Obj := { cls := .type "dict", data := .dict #[] }
theorem pe_dt {kx vx tg iter : Expr} {ifs : List Expr} {scope : Scope} {own : List (Str × Nat)} {pos : Pos} {wi : TI} {g : TG} {tt : TT} {tk tv : TE} (hu : X.A.units + 1 < cLine) (hc : X.calm = true) (hN : X.N.Nodup) (hi : PI X tg iter wi) (ok : BlkOk X.N X.env.scope scope own)
    (hg : ∀ s H C cl fp, PG (X.blk s H scope (compEnvC scope cl C X.env) fp) tg g) (ht : ∀ s H C cl fp, PTs (X.blk s H scope (compEnvC scope cl C X.env) fp) ifs tt)
    (hk : ∀ s H C cl fp, PE (X.blk s H scope (compEnvC scope cl C X.env) fp) kx tk) (he : ∀ s H C cl fp, PE (X.blk s H scope (compEnvC scope cl C X.env) fp) vx tv)
    (hs : ∀ x, foldedSetIterable iter X.env x = pure x := by intro _; rfl) : PE X (.DictComp kx vx [⟨tg, iter, ifs, 0⟩] scope pos) (tDt wi g tt tk tv (own.map (·.2))) := by
  refine ⟨fun pins s0 σ H0 Q I0 hw => ?_⟩
  rw [arm_eval_DictComp]
  have hfree : ∀ y ∈ scope.names, y.2 = .free → ∃ c, X.env.cells.lookup y.1 = some c := fun y hy e => I0.ok.has _ ((ok.free y hy e).imp id id)
  refine wpAny_comprehension_free rfl hs (closure_ok hfree) ok.kind (fun y hy e => by rw [ok.uniq y hy, e]) (thn (hi.run pins s0 σ H0 _ I0 hw) fun _ sa ha => thn ha fun _ sb hb => ?_)
  obtain ⟨it, fp, tn, J, Hb, rfl, Ib, T, tb, fb, q⟩ := hb
  refine wpAny_newObj_type (newEnv_comp ?_)
  -- the new dict stands at D, what the block looks up at C
  obtain ⟨D, eD⟩ : ∃ D, D = sb.heap.objs.size := ⟨_, rfl⟩
  have nD : Hb D = none := Ib.hok.fresh (by rw [eD]; exact Nat.le_refl _)
  obtain ⟨W, ⟨m0, w0⟩, turn⟩ := q D nD
  obtain ⟨sd, ed⟩ : ∃ sd : Shared, sd = { sb with heap := sb.heap.push newD } := ⟨_, rfl⟩
  have kd : ∀ b o, sb.heap.get? b = some o → sd.heap.get? b = some o := fun b o e => by rw [ed]; exact Heap.get?_push_of_some _ e
  obtain ⟨Hd, eH⟩ : ∃ Hd, Hd = upd Hb D (.dT []) := ⟨_, rfl⟩
  have Id : Inv X pins σ Hd sd := by
    rw [ed, eH, eD]
    exact Ib.laid (t' := sb.toks) (fun b o e => Heap.get?_push_of_some _ e) (Nat.le_refl _) (dt_empty sb.heap Ib.big)
  have fd : ∀ b ∈ fp, FpOk X pins Hd b ∧ b < sd.heap.objs.size := fun b hb => by
    obtain ⟨o, e, _⟩ := T.obj _ _ tb b hb
    have lt := Heap.lt_size e
    have ne : b ≠ D := by rw [eD]; exact Nat.ne_of_lt lt
    exact ⟨⟨by rw [eH, upd_ne ne]; exact (fb b hb).1, (fb b hb).2⟩, Heap.lt_size (kd b o e)⟩
  have Ie := block_start Id ok hN fd
  obtain ⟨cl, ecl⟩ : ∃ cl, cl = cellsFrom (sd.heap.objs.size + 1) scope.names (cloFrom X.env.cells scope.names []) := ⟨_, rfl⟩
  obtain ⟨C, eC⟩ : ∃ C, C = sd.heap.objs.size := ⟨_, rfl⟩
  obtain ⟨se, ee⟩ : ∃ se : Shared, se = { sd with heap := pushCells (sd.heap.push newD) scope.names } := ⟨_, rfl⟩
  have te : tn 0 se.heap := T.keep _ _ _ tb fun b _ o e => by rw [ee]; exact pushCells_keeps _ _ _ _ (Heap.get?_push_of_some _ (kd b o e))
  have pg := hg sd Hd C cl fp
  have pt := ht sd Hd C cl fp
  have pk := hk sd Hd C cl fp
  have pv := he sd Hd C cl fp
  have e1 : sb.heap.objs.size = D := eD.symm
  have e2 : ({ sb with heap := pushCells ((sb.heap.push newD).push newD) scope.names } : Shared) = se := by rw [ee, ed]
  have e3 : (sb.heap.push newD).objs.size = C := by rw [eC, ed]
  have goal : codeAny (model X.prog X.w) X.A (.compStart (.DictComp kx vx [⟨tg, iter, ifs, 0⟩] scope pos) 0 (.ref it) (.ref D) (compEnvC scope cl C X.env)) (compPost (model X.prog X.w) X.A X.xe none (EP X pins σ Q) (.ref D) C) se := by
    rw [← ecl, ← eC, ← ee] at Ie
    generalize hB : compEnvC scope cl C X.env = ce at Ie pg pt pk pv ⊢
    have cC : ce.locals = C := by rw [← hB]; rfl
    -- what is known of the walked thing's own objects within the block
    have own_ok : ∀ {σ' : L2.St} {H' : Hp} {s' : Shared}, Inv (X.blk sd Hd scope ce fp) [] σ' H' s' → (∀ b ∈ fp, H' b = none) → ∀ b ∈ fp, FpOk (X.blk sd Hd scope ce fp) [] H' b := fun J' hn b hb => by
      have z := J'.ok.exf b hb
      exact ⟨hn b hb, z.1, J'.ok.exfs b hb, Or.inl hb, fun x c e => z.2 x c e, fun p hp => by cases hp⟩
    refine codeAny_compStart_dict ?_ (T.self X.A 0 _ _ _ te ?_)
    all_goals
      refine compLoop_anyD (fun n s' => ∃ i H', Inv (X.blk sd Hd scope ce fp) [] (wipe σ (own.map (·.2))) H' s' ∧ tn i s'.heap ∧ (∀ b ∈ fp, H' b = none) ∧ W i n H') ?_ m0 ⟨0, Hd, Ie, te, fun b hb => (fd b hb).1.1, by rw [eH]; exact w0⟩
      rintro n s5 ⟨i, H5, I5, t5, n5, w5⟩
      rcases turn i n H5 w5 with ⟨stop, qq⟩ | ⟨go, Nx, hNx, step⟩
      · refine thnF (T.done (X.blk sd Hd scope ce fp) rfl rfl rfl hc i [] s5 _ H5 (fun _ _ => False) I5 (own_ok I5 n5) t5 stop) fun r s6 hr => ?_
        obtain ⟨rfl, I6⟩ := hr
        have I7 : Inv X pins σ H5 s6 := Id.call' (ch := fp) I6.os I6.base I6.hok I6.bare fun b hb => by
          obtain ⟨_, p1, _, p3, p4, p5⟩ := (fd b hb).1
          exact ⟨p3, p1, p4, p5⟩
        have nC : H5 C = none := by
          rw [← cC]
          exact I6.free
        obtain ⟨m, hm, _⟩ := I6.loc
        have hm2 : s6.heap.Ns C m := by
          rw [← cC]
          exact hm
        refine ⟨m, hm2, fun h'' sb => ?_⟩
        obtain ⟨f0, f1, _, f3, f4, f5⟩ := Id.fpOk (H' := H5) (b := C) (by rw [eC]; exact Nat.le_refl _) nC
        exact ⟨.ref D, H5, I7.turned (t' := s6.toks) (fun b o hb e => (sb.2 b hb).trans e) f0 f1 f3 f4 f5, rfl, qq⟩
      · refine thnF (T.item (X.blk sd Hd scope ce fp) rfl rfl rfl hc i [] s5 _ H5 (fun _ _ => False) I5 (own_ok I5 n5) t5 go) fun r s6 hr => ?_
        obtain ⟨u, rfl, h6⟩ := hr
        refine thnF h6 fun _ s7 ⟨x, H7, I7, r7, y7, t7, n7⟩ => ?_
        have P7 := I7.pinned (own_ok I7 n7) (T.obj _ _ t7)
        -- the end of a turn: back in the block's own state
        have fin : ∀ {σ8 : L2.St} {s' : Shared} {H' : Hp}, wipe σ8 (own.map (·.2)) = wipe σ (own.map (·.2)) → Inv (X.blk sd Hd scope ce fp) ([] ++ pinsAt fp s7.heap) σ8 H' s' → Nx H' →
            ∃ m, m < n ∧ ∃ i H', Inv (X.blk sd Hd scope ce fp) [] (wipe σ (own.map (·.2))) H' s' ∧ tn i s'.heap ∧ (∀ b ∈ fp, H' b = none) ∧ W i m H' := fun hw8 J8 nx => by
          obtain ⟨m, hm, w'⟩ := hNx _ nx
          have still : ∀ b ∈ fp, ∀ o, s7.heap.get? b = some o → _ := fun b hb o e => J8.pin (b, o) (List.mem_append_right _ (List.mem_append_right _ (mem_pinsAt hb e)))
          refine ⟨m, hm, i + 1, _, (J8.unpinned (pins := [])).weak (by rw [← hw8, wipe_length]) (fun j v e => ?_), T.keep _ _ _ t7 fun b hb o e => (still b hb o e).1, fun b hb => ?_, w'⟩
          · rw [← hw8] at e
            exact (wipe_some e).1
          · obtain ⟨o, e, _⟩ := T.obj _ _ t7 b hb
            exact (still b hb o e).2.1
        refine thnF (pg.run _ s7 _ H7 x u _ P7 r7 (step x H7 y7)) fun _ s8 ⟨σ8, H8, I8, hw8, q8⟩ => ?_
        refine thnF (pt.run _ s8 σ8 H8 _ I8 q8) fun b s9 ⟨H9, I9, q9⟩ => ?_
        cases b with
        | false => exact fin hw8 I9 q9
        | true =>
          refine thnF (pk.run _ s9 σ8 H9 _ I9 q9) fun z s10 ⟨yk, H10, I10, r10, q10⟩ => ?_
          refine thnF (pv.run _ s10 σ8 H10 _ I10 q10) fun z2 s11 ⟨yv, H11, I11, r11, H12, put, nx⟩ => ?_
          exact set_made (X := X.blk sd Hd scope ce fp) hu I11 put r10 r11 fun s12 I12 => fin hw8 I12 nx
  rw [← e2] at goal
  rw [ecl, ← eC, ← e3, ← e1] at goal
  exact goal
end
end Bw
/-! sorted() of a dict whose keys are pairs of numbers. -/
namespace Bw
open PySem PySem.Spec PyProof.Rows L2
abbrev pk (q : Int × Int) : List Key := [Sum.inl q.1, Sum.inl q.2]
/-- the pair of numbers at b -/
def pairAt (H : Hp) (b : Addr) : Int × Int := match H b with
  | some (.tup [.int x, .int y]) => (x, y)
  | _ => (0, 0)
def adr : Value → Addr
  | .ref a => a
  | _ => 0
theorem pairAt_of {H : Hp} {b : Addr} {x y : Int} (e : H b = some (.tup [.int x, .int y])) : pairAt H b = (x, y) := by
  unfold pairAt
  rw [e]
/-- the tuples cs hold the pairs qs -/
def Prs (H : Hp) (qs : List (Int × Int)) (cs : List Addr) : Prop := cs.map (pairAt H) = qs ∧ ∀ c ∈ cs, H c = some (.tup [.int (pairAt H c).1, .int (pairAt H c).2])
theorem prs_at {H : Hp} {qs : List (Int × Int)} {cs : List Addr} (h : Prs H qs cs) {i : Nat} {c : Addr} (e : cs[i]? = some c) : ∃ q, qs[i]? = some q ∧ H c = some (.tup [.int q.1, .int q.2]) := by
  refine ⟨pairAt H c, ?_, h.2 c (List.mem_of_getElem? e)⟩
  rw [← h.1, List.getElem?_map, e]
  rfl
theorem prs_len {H : Hp} {qs : List (Int × Int)} {cs : List Addr} (h : Prs H qs cs) : qs.length = cs.length := by rw [← h.1, List.length_map]
theorem isKeys_prs {H : Hp} : ∀ {kvs : List (List Key × V)} {ks : List (Int × Int)} {bs : List Addr}, IsKeys H kvs bs → kvs.map (·.1) = ks.map pk → Prs H ks bs := by
  intro kvs ks bs h
  unfold IsKeys at h
  induction h generalizing ks with
  | nil =>
    intro e
    cases ks with
    | nil => exact ⟨rfl, fun c hc => nomatch hc⟩
    | cons q r => exact nomatch e
  | @cons p b ps bs hp t ih =>
    intro e
    cases ks with
    | nil => exact nomatch e
    | cons q r =>
      have e1 : p.1 = pk q := (List.cons.inj e).1
      have e2 := ih (List.cons.inj e).2
      have hb : H b = some (.tup [.int q.1, .int q.2]) := by rw [hp, e1]; rfl
      have pa : pairAt H b = q := pairAt_of hb
      refine ⟨by rw [List.map_cons, pa, e2.1], fun c hc => ?_⟩
      rcases List.mem_cons.mp hc with z | hc
      · rw [z, pa, hb]
      · exact e2.2 c hc
/-- sorted by first, then second -/
abbrev SrtP (qs : List (Int × Int)) : Prop := SrtO.Srtd SrtO.lexB qs
def rSortedDT : List V → Hp → VK → Prop := fun vs H Q => ∃ (a : Addr) (kvs : List (List Key × V)) (ks : List (Int × Int)), vs = [V.ref a] ∧ Rd H a (.dT kvs) ∧ kvs.map (·.1) = ks.map pk ∧
  ∀ (qs : List (Int × Int)) (cs : List Addr) (p : Addr), qs.Perm ks → SrtP qs → Prs H qs cs → H p = none → Q (.ref p) (upd H p (.lst (cs.map V.ref)))
section
variable {X : Cx}
theorem cr_sortedDT (hcalm : X.calm = true) : CallR X (.builtin "sorted") rSortedDT := by
  intro pins s σ H xs us Q I r q
  obtain ⟨a, kvs, ks, rfl, hd, hks, q⟩ := q
  obtain ⟨u, rfl, rx⟩ := vals1 r
  cases rx
  obtain ⟨z, hs, kx, pr, o, es, ep, ho, hx, hdt, he, hn⟩ := (show ObjOk X.prog X.w H s.heap a (.dT kvs) from hd.ok I.hok)
  have l1 : es.size = kx.length := size_of_entries he
  have l2 : kvs.length = kx.length := Paired.length pr
  have ik := isKeys_prs (isKeys_of pr) hks
  refine Calls.call_function_entry PyProof.Rows.kind_sorted PyProof.Rows.plain_sorted PyProof.Rows.entry_sorted (PyProof.Rows.args_sorted1 _) ?_
  unfold Builtin.«sorted»
  refine wpAny_bind (m := checkCount "sorted" 1 1 _) (wpAny_pure ?_)
  refine wpAny_bind (PySem.W.kdu_collect (A := X.A.in1) (kdl_raw hs hx hdt) (I.ok.hd hcalm) ho (by omega) fun h' tk acc kp it => ?_)
  have ea : acc.toList = (kx.map fun x => x.2.1).map Value.ref := by
    have hl : acc.toList.length = kx.length := by rw [Array.length_toList, it.1]; exact l1
    apply List.ext_getElem?
    intro j
    rw [List.getElem?_map, List.getElem?_map]
    cases hj : acc.toList[j]? with
    | none =>
      have h1 := List.getElem?_eq_none_iff.mp hj
      rw [List.getElem?_eq_none (by omega)]
      rfl
    | some v =>
      obtain ⟨en, hen, hv⟩ := it.2 j v (by rw [← Array.getElem?_toList]; exact hj)
      have qe := entry_at he j
      rw [hen] at qe
      cases hb : kx[j]? with
      | none =>
        rw [hb] at qe
        exact nomatch (show some en = none from qe)
      | some b =>
        rw [hb] at qe
        have e2 : en = entryOfKey (tupleKind (mixKind X.prog X.w)) b := Option.some.inj qe
        rw [hv, e2]
        rfl
  generalize ebs : (kx.map fun x => x.2.1) = bs at ea ik
  have lb : bs.length = kx.length := by rw [← ebs, List.length_map]
  have hal : acc.toList.length = bs.length := by rw [ea, List.length_map]
  have I1 : Inv X pins σ H { s with heap := h', toks := tk } := I.kept kp
  have hz : acc.toList.length ≤ sizeLine := by rw [hal, lb, ← l2]; exact z
  refine wpAny_bind (wpAny_newList ?_ hz)
  have hoL : (h'.push (seqObj "list" acc.toList.toArray 0)).get? h'.objs.size = some (seqObj "list" acc.toList.toArray 0) := Heap.get?_push_size _ rfl
  show wpAny _ _ _ _ _ { s with heap := h'.push (seqObj "list" acc.toList.toArray 0), toks := tk }
  have hp : ∀ v ∈ acc.toList, Srt.IsPair (h'.push (seqObj "list" acc.toList.toArray 0)) v (pairAt H (adr v)).1 (pairAt H (adr v)).2 := by
    intro v hv
    rw [ea] at hv
    obtain ⟨b, hb, rfl⟩ := List.mem_map.mp hv
    obtain ⟨_, its2, r2, o2, ho2, hc, n, hd2⟩ := I1.hok _ _ (ik.2 b hb)
    obtain ⟨u1, u2, rfl, ri, rj⟩ := vals2 r2
    obtain ⟨t1, rfl⟩ := ri
    obtain ⟨t2, rfl⟩ := rj
    exact ⟨b, o2, t1, t2, n, rfl, Heap.get?_push_of_some _ ho2, hc, hd2⟩
  refine wpAny_bind (wpAny_holding (wpAny_call_entry PyProof.Rows.slot_list_sort ⟨_, hoL, rfl⟩ PyProof.Rows.entry_list_sort
    (SrtO.list_sort_ord (s := { s with heap := h'.push (seqObj "list" acc.toList.toArray 0), toks := tk }) (SrtO.swo_lex fun v => pairAt H (adr v)) hoL hz (fun h2 => SrtO.pairs_sortableO (by omega) hp ?_) fun out g1 g2 => ⟨_, rfl, ?_⟩) (PyProof.Rows.args_list_sort _)))
  · intro o2 e c
    have e' : some o2 = some (seqObj "list" acc.toList.toArray 0) := e.symm.trans hoL
    cases e'
    exact absurd (Value.type.inj c) (by decide)
  obtain ⟨e', he'⟩ := PyProof.Rows.sortedHeap_at (vs := acc.toList) (out := out.toArray) hoL
  have ho3 : ∀ v ∈ out, ∃ b ∈ bs, v = Value.ref b := fun v hv => by
    have hv2 := g2.perm.mem_iff.mp hv
    rw [ea] at hv2
    obtain ⟨b, hb, e⟩ := List.mem_map.mp hv2
    exact ⟨b, hb, e.symm⟩
  have eo : out = (out.map adr).map Value.ref := by
    rw [List.map_map]
    have e1 : out.map (Value.ref ∘ adr) = out.map id := List.map_congr_left fun v hv => by
      obtain ⟨b, hb, rfl⟩ := ho3 v hv
      rfl
    rw [e1, List.map_id]
  have hcs : ∀ c ∈ out.map adr, c ∈ bs := fun c hc => by
    obtain ⟨v, hv, e⟩ := List.mem_map.mp hc
    obtain ⟨b, hb, ev⟩ := ho3 v hv
    rw [ev] at e
    exact (show b = c from e) ▸ hb
  have hperm : (out.map adr).Perm bs := by
    have h1 := g2.perm.map adr
    rw [ea, List.map_map] at h1
    have h2 : bs.map (adr ∘ Value.ref) = bs := by
      have : (adr ∘ Value.ref) = id := rfl
      rw [this, List.map_id]
    rw [h2] at h1
    exact h1
  have hlen : ((out.map adr).map V.ref).length ≤ sizeLine := by
    rw [List.length_map, hperm.length_eq, lb, ← l2]
    exact z
  have hprs : Prs H ((out.map adr).map (pairAt H)) (out.map adr) := ⟨rfl, fun c hc => ik.2 c (hcs c hc)⟩
  have hpm : ((out.map adr).map (pairAt H)).Perm ks := by
    rw [← ik.1]
    exact hperm.map _
  have hst : SrtP ((out.map adr).map (pairAt H)) := by
    rw [List.map_map]
    exact SrtO.srtd_map g1
  have rvo : Vals ((out.map adr).map V.ref) out := by
    have e2 := vals_refs (out.map adr)
    rw [← eo] at e2
    exact e2
  refine wpAny_pure ⟨_, rfl, .ref h'.objs.size, upd H h'.objs.size (.lst ((out.map adr).map V.ref)), I1.laid (t' := tk) (fun b u e => ?_) (Nat.le_refl _)
    (show ObjOk X.prog X.w _ _ _ (.lst ((out.map adr).map V.ref)) from ⟨hlen, out, e', rvo, he'⟩), rfl, q _ _ _ hpm hst hprs (I1.hok.fresh (Nat.le_refl _))⟩
  · have hb : b < h'.objs.size := Heap.lt_size e
    rw [PyProof.Rows.sortedHeap_old (Nat.ne_of_lt hb) (by rw [size_push']; exact Nat.lt_succ_of_lt hb)]
    exact Heap.get?_push_of_some _ e
end
end Bw
/-! A walk over the pairs of a passing dict whose keys are tuples: the dict stays locked from then on. -/
namespace Bw
open PySem PySem.Spec PyProof.Rows L2
def Itp (d : Addr) (o : Obj) (kvs : List (List Key × V)) : It :=
  ⟨fun i H => H d = some (.frz o (.dT kvs)) ∧ i < kvs.length, fun i H x H' => ∃ (T q : Addr) (k : List Key) (v : V), kvs[i]? = some (k, v) ∧ x = .ref T ∧ H T = none ∧ H q = some (.tup (k.map kV)) ∧ H' = upd H T (.tup [.ref q, v]), fun i H => H d = some (.frz o (.dT kvs)) ∧ kvs.length ≤ i⟩
section
variable {X : Cx} {pins : List (Addr × Obj)} {σ : L2.St} {H : Hp} {s : Shared}
theorem frzTv {d : Addr} {o : Obj} {kvs : List (List Key × V)} (I : Inv X pins σ H s) (h : H d = some (.frz o (.dT kvs))) :
    (d == sysModules) = false ∧ s.heap.get? d = some o ∧ ∃ (es : Array DictEntry) (ep : Nat), s.heap.DictRaw d es ep ∧ o.data = .dict es ep ∧ es.size = kvs.length ∧
      ∀ (i : Nat) (k : List Key) (v : V), kvs[i]? = some (k, v) → ∃ (en : DictEntry) (q : Addr), es[i]? = some en ∧ en.key = .ref q ∧ RelV v en.val ∧ H q = some (.tup (k.map kV)) := by
  obtain ⟨hd, z, hs, xs, pr, o', es, ep, ho, hx, hdt, he, _⟩ := I.hok d _ h
  rw [hd] at ho
  cases ho
  refine ⟨hs, hd, es, ep, ⟨o, hd, hx, hdt⟩, hdt, ?_, fun i k v e => ?_⟩
  · have l1 : es.size = xs.length := size_of_entries he
    have l2 : kvs.length = xs.length := Paired.length pr
    omega
  · obtain ⟨b, hb, e1, e2, e3⟩ := L2.paired_get pr e
    have q := entry_at he i
    rw [hb] at q
    exact ⟨_, b.2.1, q, rfl, e3, e2⟩
end
theorem turn_itemsT {P : Program} {w : World} {K : PySem.W.Frag} {d : Addr} {o : Obj} {es : Array DictEntry} {ep : Nat} {kvs : List (List Key × V)} {elts : List Expr} {kk : Nat} {tpos : Pos} (it : Addr) (hod : o.data = .dict es ep) :
    Turn P w K (.Tuple elts kk tpos) (Itp d o kvs) [it] it (fun i h => ∃ ok ov, IsItemIter h it d i kvs.length ep ok ov) where
  mem := by simp
  obj := fun i h st b hb => by
    have e : b = it := by simpa using hb
    subst e
    obtain ⟨ok, ov, e⟩ := st
    exact ⟨_, e, fun v z => nomatch z⟩
  keep := fun i h h' st k => let ⟨ok, ov, e⟩ := st; ⟨ok, ov, k it (by simp) _ e⟩
  item := by
    intro X hP hw hK hc i pins s σ H E I hf st hg
    subst hP hw hK
    obtain ⟨hd, hi⟩ := hg
    obtain ⟨hs, hgd, es', ep', hraw, hdt, hsz, ent⟩ := frzTv I hd
    obtain ⟨rfl, rfl⟩ := L2.dict_ep hod hdt
    obtain ⟨⟨k, v⟩, hkv⟩ : ∃ p, kvs[i]? = some p := ⟨kvs[i], List.getElem?_eq_getElem hi⟩
    obtain ⟨en, q, hen, hkey, rv, hq⟩ := ent i k v hkv
    obtain ⟨ok, ov, he⟩ := st
    rw [← hsz] at he
    have hi2 : i < es'.size := by omega
    have hlt : it < s.heap.objs.size := Heap.lt_size he
    have een : es'[i] = en := by
      rw [Array.getElem?_eq_getElem hi2] at hen
      exact Option.some.inj hen
    refine wpAny_pyNext_items_item_raw he hraw hi2 fun h' ho hT hz hk => ?_
    rw [een] at ho hT
    refine ⟨_, rfl, wpAny_letOwnedTupleGo_items (s := { s with heap := h' }) ho fun h'' he' sb => ?_⟩
    have hT2 : h''.get? s.heap.objs.size = some { cls := .type "tuple", data := .seq #[en.key, en.val] } := (sb.2 _ (Nat.ne_of_gt hlt)).trans hT
    have new : ObjOk X.prog X.w (upd H s.heap.objs.size (.tup [.ref q, v])) h'' s.heap.objs.size (.tup [.ref q, v]) :=
      ⟨by show 2 ≤ sizeLine; decide, [en.key, en.val], .cons hkey (.cons rv .nil), ⟨_, hT2, rfl, _, rfl⟩⟩
    have I1 : Inv X pins σ (upd H s.heap.objs.size (.tup [.ref q, v])) { s with heap := h'' } :=
      I.turnedNew (t' := s.toks) (ch := [it]) (fun b ob hb e => (sb.2 b (by simpa using hb)).trans (hk b ob (by simpa using hb) e)) hf (Nat.le_refl _) new
    refine ⟨.ref s.heap.objs.size, _, I1, rfl, ⟨_, q, k, v, hkv, rfl, I.hok.fresh (Nat.le_refl _), hq, rfl⟩, ⟨en.key, en.val, ?_⟩, fun b hb => ?_⟩
    · rw [← hsz]; exact he'
    · have e : b = it := by simpa using hb
      rw [e, upd_ne (Nat.ne_of_lt hlt)]
      exact (hf it (by simp)).1
  done := by
    intro X hP hw hK hc i pins s σ H E I hf st hg
    subst hP hw hK
    obtain ⟨hd, hi⟩ := hg
    obtain ⟨f0, f1, f2, f3, f4, f5⟩ := hf it (by simp)
    obtain ⟨hs, hgd, es', ep', hraw, hdt, hsz, ent⟩ := frzTv I hd
    obtain ⟨rfl, rfl⟩ := L2.dict_ep hod hdt
    obtain ⟨ok, ov, he⟩ := st
    rw [← hsz] at he
    exact wpAny_pyNext_items_end_raw (I.ok.hd hc) he hraw (by omega) fun h' eb => ⟨rfl, I.turned (t' := s.toks) (fun b ob hb e => eb b ob hb e) f0 f1 f3 f4 f5⟩
  self := fun A i s Q E st h => let ⟨_, _, e⟩ := st; PySem.W.kcp_self e h
/-- the dict is locked as the walk begins, and stays so -/
def iItemsT (td : TE) : TI := fun σ H R => td σ H fun x H1 => ∃ (d : Addr) (kvs : List (List Key × V)), x = .ref d ∧ H1 d = some (.dT kvs) ∧ ∀ o, R (Itp d o kvs) (upd H1 d (.frz o (.dT kvs)))
theorem pi_itemsT {X : Cx} {e : Expr} {td : TE} {apos cpos : Pos} {elts : List Expr} {kk : Nat} {tpos : Pos} (he : PE X e td) (hbase : attributeBase e "items" X.env (eval e X.env) = eval e X.env := by rfl) (hline : (apos.endLine == cpos.line) = true := by rfl) :
    PI X (.Tuple elts kk tpos) (.Call (.Attribute e "items" apos) [] [] cpos) (iItemsT td) := by
  refine ⟨fun pins s σ H R I h => ?_⟩
  refine wpAny_Call_method (T := "dict") (id := "dict.items") hbase rfl hline F.plainAttrs_dict F.slot_dict_items F.type_dict_items (thn (he.run pins s σ H _ I h) fun u s1 ⟨x, H0, I0, rx, d, kvs, ex, hd0, q0⟩ => ?_)
  subst ex
  obtain rfl : u = Value.ref d := rx
  obtain ⟨o, I1⟩ := I0.lock hd0 True.intro
  have q := q0 o
  have hd : upd H0 d (.frz o (.dT kvs)) d = some (.frz o (.dT kvs)) := upd_same
  obtain ⟨H1, eH⟩ : ∃ H1, H1 = upd H0 d (.frz o (.dT kvs)) := ⟨_, rfl⟩
  rw [← eH] at I1 q hd
  obtain ⟨hs, hgd, es, ep, hm, hdt, hsz, ent⟩ := frzTv I1 hd
  obtain ⟨om, hom, hxm, hdm⟩ := id hm
  refine ⟨hm.typeIs, fun a e => ⟨om, by cases e; exact hom, hxm.2.1⟩, ?_⟩
  have I2 : Inv X pins σ H1 { s1 with heap := s1.heap.push { cls := .type "dict_items", data := .fields #[.ref d] } } := I1.kept (t' := s1.toks) fun b ob q => Heap.get?_push_of_some _ q
  have hm2 : (s1.heap.push { cls := .type "dict_items", data := .fields #[.ref d] }).DictRaw d es ep := hm.at fun o e => Heap.get?_push_of_some _ e
  have fin : wpAny (model X.prog X.w) X.A (pyIter (.ref s1.heap.objs.size)) (PIE X pins σ (.Tuple elts kk tpos) R) X.xe { s1 with heap := s1.heap.push { cls := .type "dict_items", data := .fields #[.ref d] } } := by
    refine wpAny_pyIter_items_raw (d := d) ⟨_, Heap.get?_push_size _ rfl, rfl, rfl⟩ hm2 (pi_one (tk := s1.toks) I2 _ (turn_itemsT _ hdt) ⟨.none, .none, ?_⟩ q)
    rw [← hsz]
    exact Heap.get?_push_size _ rfl
  show wpAny _ _ (callWith cpos (.builtin "dict.items") [.ref d] [] []) _ X.xe s1
  exact method_meetsIn F.slot_dict_items F.entry_dict_items rfl (PySem.evalArgs_none ⟨rfl, hm.typeIs, F.args_dict_items_1 _, _, meets_dict_items_raw d hs, ⟨⟨es, ep, hm⟩, fin⟩⟩)
end Bw
/-! A dict display whose keys are tuples. -/
namespace Bw
open PySem PySem.Spec PyProof.Rows L2
def putAll (D : Addr) : List (V × V) → Hp → (Hp → Prop) → Prop
  | [], H, R => R H
  | (x, y) :: r, H, R => ∃ H', DPut H D x y H' ∧ putAll D r H' R
def tDispT (trs : List (TE × TE)) : TE := fun σ H Q => ∀ p, H p = none → tPairs trs σ (upd H p (.dT [])) fun ps H2 => putAll p ps H2 fun H3 => Q (.ref p) H3
section
variable {X : Cx} {pins : List (Addr × Obj)} {σ : L2.St}
theorem put_loop {D : Addr} {R : Hp → Prop} (hu : X.A.units + 1 < cLine) : ∀ {ps : List (V × V)} {vs : List (Value × Value)} {H : Hp} {s : Shared}, VV ps vs → Inv X pins σ H s → putAll D ps H R →
    wpAny (model X.prog X.w) X.A (forIn vs PUnit.unit fun (x : Value × Value) (_ : PUnit) => (do dictSet D x.1 x.2; pure (ForInStep.yield PUnit.unit) : Sem (ForInStep PUnit))) (fun _ s' => ∃ H', Inv X pins σ H' s' ∧ R H') X.xe s := by
  intro ps vs H s r
  induction r generalizing H s with
  | nil =>
    intro I q
    rw [List.forIn_nil]
    exact wpAny_pure ⟨H, I, q⟩
  | @cons p v ps vs h t ih =>
    intro I q
    obtain ⟨x, y⟩ := p
    obtain ⟨H', g, q⟩ := q
    rw [List.forIn_cons]
    exact wpAny_bind (wpAny_bind (set_made hu I g h.1 h.2 fun s' I' => wpAny_pure (ih I' q)))
theorem pe_dispT {pos : Pos} {keys : List (Option Expr)} {values : List Expr} {trs : List (TE × TE)} (hu : X.A.units + 1 < cLine) (h : PPs X pos keys values trs) (hall : keys.all (·.isSome) = true) (hl : keys.length = values.length) (h0 : keys ≠ [])
    (h15 : keys.length ≤ 15) : PE X (.Dict keys values pos) (tDispT trs) := by
  refine ⟨fun pins s σ H Q I q => ?_⟩
  have hn := I.hok.fresh (Nat.le_refl s.heap.objs.size)
  have I1 := I.laid (a := s.heap.objs.size) (o := .dT []) (h' := s.heap.push { cls := .type "dict", data := .dict #[] }) (t' := s.toks) (fun _ _ q => Heap.get?_push_of_some _ q) (Nat.le_refl _) (dt_empty s.heap I.big)
  have ln := pairTrees_length keys values X.env pos hall hl
  have hp0 : pairTrees keys values X.env pos ≠ [] := fun z => by
    rw [z] at ln
    exact h0 (List.length_eq_zero_iff.mp ln.symm)
  rw [arm_eval_Dict, zip_pairTrees keys values X.env pos hall hl, dictDisplay_pairs _ hp0 (by omega)]
  refine wpAny_bind (wpAny_standAt (wpAny_bind ?_))
  unfold subDict
  refine wpAny_bind (wpAny_alloc ?_)
  refine wpAny_bind (wpAny_holding ?_)
  rw [if_pos (by omega)]
  refine wpAny_bind (thn (h.run pins _ σ _ _ I1 (q _ hn)) fun ws s2 ⟨ps, H2, I2, rel, q2⟩ => ?_)
  refine wpAny_holding ?_
  refine wpAny_bind (thn (put_loop hu rel I2 q2) fun _ s3 ⟨H3, I3, q3⟩ => ?_)
  exact wpAny_pure (wpAny_pure (wpAny_pure ⟨.ref s.heap.objs.size, H3, I3, rfl, q3⟩))
end
end Bw
/-! enumerate of a tuple. -/
namespace Bw
open PySem PySem.Spec PyProof.Rows L2
theorem newE {v : Value} {o : Obj} {G : Heap → Prop} (B : Begins v o G) :
    Meets (Builtin.«enumerate.__new__» ⟨[.type "enumerate", v], []⟩) (fun _ R s => G s.heap ∧
      R (.ok (.ret (.ref (s.heap.push o).objs.size))) { s with heap := (s.heap.push o).push { cls := .type "enumerate", data := .fields #[.none, .bool false, .ref s.heap.objs.size, rawInt 0, .none, .none] } }) :=
  .of_wp fun prog w A R s h => by
    obtain ⟨hp, gs, dr, tk, os⟩ := s
    obtain ⟨hG, h⟩ := h
    have hsub := sub_enumerate
    have q1 : ∀ {A' : Around} {E : Value → Shared → Prop} {Q : Value → Shared → Prop}, Q (.ref hp.objs.size) ⟨hp.push o, gs, dr, tk, os⟩ → wpAny (model prog w) A' (pyIter v) Q E ⟨hp, gs, dr, tk, os⟩ :=
      fun q => B.iter prog w _ _ ⟨hp, gs, dr, tk, os⟩ _ hG q
    wp_walk using q1
    refine wpAny_stack_any fun st => wpAny_pure ?_
    split
    · rename_i c _ _ _ _ _
      by_cases hc : (c == Value.type "enumerate") = true
      all_goals (wp_walk using q1)
      all_goals exact ⟨_, rfl, h⟩
    · wp_walk using q1
      exact ⟨_, rfl, h⟩
theorem callE {prog : Program} {w : World} {A : Around} {E : Value → Shared → Prop} {s : Shared} {v : Value} {o : Obj} {G : Heap → Prop} {Q : Value → Shared → Prop} (B : Begins v o G) (hG : G s.heap)
    (h : ∀ h', IsEnum h' (s.heap.objs.size + 1) s.heap.objs.size 0 .none → h'.get? s.heap.objs.size = some o → (∀ b u, s.heap.get? b = some u → h'.get? b = some u) → Q (.ref (s.heap.objs.size + 1)) { s with heap := h' }) :
    wpAny (model prog w) A (call (.type "enumerate") [v]) Q E s := by
  refine callType_new F.called_enumerate (by decide) (F.typeCall_enumerate_1 _) (F.newCall_enumerate_1 _) (fun obj => F.args_object_init_2 obj _) F.entry_enumerate_new (newE B) ⟨hG, ?_⟩
  obtain ⟨n, en⟩ : ∃ n, n = s.heap.objs.size := ⟨_, rfl⟩
  have hz : (s.heap.push o).objs.size = n + 1 := by rw [Heap.size_push, en]
  show _ ∧ _
  rw [hz, ← en]
  obtain ⟨oe, eoe⟩ : ∃ oe : Obj, oe = { cls := .type "enumerate", data := .fields #[.none, .bool false, .ref n, rawInt 0, .none, .none] } := ⟨_, rfl⟩
  rw [← eoe]
  have he : ((s.heap.push o).push oe).get? (n + 1) = some oe := by
    rw [← hz]
    exact Heap.get?_push_size _ (by rw [eoe]; rfl)
  have ho : ((s.heap.push o).push oe).get? n = some o := by
    rw [en]
    exact Heap.get?_push_of_some _ (Heap.get?_push_size _ B.free)
  refine ⟨⟨_, he, by rw [eoe]⟩, ?_⟩
  rw [← en] at h
  exact h _ (he.trans (by rw [eoe])) ho fun b u e => Heap.get?_push_of_some _ (Heap.get?_push_of_some _ e)
/-- the items of the tuple at a, each in a new pair behind its index -/
def IteT (K : PySem.W.Frag) (a : Addr) : It :=
  ⟨fun i H => ∃ (xs : List V) (x : V), SqT K H a xs ∧ xs[i]? = some x, fun i H v H' => ∃ T x, v = .ref T ∧ H T = none ∧ H' = upd H T (.tup [.int (i : Nat), x]) ∧ ∀ xs, SqT K H a xs → xs[i]? = some x, fun i H => ∃ xs : List V, SqT K H a xs ∧ xs.length ≤ i⟩
theorem turnET {P : Program} {w : World} {K : PySem.W.Frag} {elts : List Expr} {kk : Nat} {tpos : Pos} (a e it : Addr) :
    Turn P w K (.Tuple elts kk tpos) (IteT K a) [e, it] e (fun i h => (∃ old, IsEnum h e it ((i : Nat) : Int) old) ∧ h.IsTupleIter it a i ∧ e ≠ it ∧ e ≠ a ∧ a ≠ it) where
  mem := List.mem_cons_self ..
  obj := fun i h st b hb => by
    obtain ⟨⟨old, he⟩, ⟨o, ho, _, hd⟩, _⟩ := st
    rcases List.mem_cons.mp hb with z | hb
    · rw [z]
      exact ⟨_, he, fun v q => nomatch q⟩
    · rw [List.mem_singleton.mp hb]
      exact ⟨o, ho, fun v q => by rw [hd] at q; cases q⟩
  keep := fun i h h' st k => by
    obtain ⟨⟨old, he⟩, hi, r⟩ := st
    exact ⟨⟨old, k e (by simp) _ he⟩, hi.at fun o q => k it (by simp) o q, r⟩
  item := fun X hP hw hK hc i pins s σ H E I hf st hg => by
    subst hP hw hK
    obtain ⟨⟨old, he⟩, hit, n1, n2, n3⟩ := st
    obtain ⟨xs, x, hq, hx⟩ := hg
    obtain ⟨its, rv, p, _⟩ := I.tuple hq
    obtain ⟨u, hu, ru⟩ := rv.get hx
    have D := Draws.tuple (prog := X.prog) (w := X.w) (A := X.A.in1) (I.ok.hd hc) it a n3 its.toArray
    have elt : e < s.heap.objs.size := Heap.lt_size he
    have ilt : it < s.heap.objs.size := let ⟨_, q, _⟩ := hit; Heap.lt_size q
    have hiz : i < its.toArray.size := by
      have h1 := rv.length
      have h2 := (List.getElem?_eq_some_iff.mp hx).1
      simp only [List.size_toArray]
      omega
    refine wpAny_pyNext_enum_itemD D he ⟨hit, p⟩ hiz n1 (by simp [n1, n2]) fun y h1 tk hy ho hst hT hsz hk => ?_
    have ey : y = u := by
      have hu2 : its.toArray[i]? = some u := by simpa using hu
      rw [hu2] at hy
      exact (Option.some.inj hy).symm
    rw [ey] at ho hT
    refine ⟨_, rfl, wpAny_letOwnedTupleGo_enum (s := { s with heap := h1, toks := tk + 1 }) ho fun h2 he2 sb => ?_⟩
    have hT2 : h2.get? s.heap.objs.size = some { cls := .type "tuple", data := .seq #[.int i tk, u] } := (sb.2 _ (Nat.ne_of_gt elt)).trans hT
    have ok : ObjOk X.prog X.w (upd H s.heap.objs.size (.tup [.int (i : Nat), x])) h2 s.heap.objs.size (.tup [.int (i : Nat), x]) :=
      ⟨by show 2 ≤ sizeLine; decide, [.int i tk, u], .cons ⟨_, rfl⟩ (.cons ru .nil), ⟨_, hT2, rfl, _, rfl⟩⟩
    have I1 : Inv X pins σ (upd H s.heap.objs.size (.tup [.int (i : Nat), x])) { s with heap := h2, toks := tk + 1 } := I.turnedNew (ch := [e, it]) (fun b ob hb q => by
      have b1 : b ≠ e := fun z => hb (by simp [z])
      have b2 : b ≠ it := fun z => hb (by simp [z])
      exact (sb.2 b b1).trans (hk b ob b1 b2 q)) hf (Nat.le_refl _) ok
    have i1 : ((i + 1 : Nat) : Int) = (i : Int) + 1 := by omega
    refine ⟨.ref s.heap.objs.size, _, I1, rfl, ⟨_, x, rfl, I.hok.fresh (Nat.le_refl _), rfl, fun ys hy => by rw [I.tuple_inj hy hq]; exact hx⟩, ⟨⟨u, by rw [i1]; exact he2⟩, hst.1.at fun o q => (sb.2 it (Ne.symm n1)).trans q, n1, n2, n3⟩, fun b hb => ?_⟩
    have hb2 : b < s.heap.objs.size := by
      rcases List.mem_cons.mp hb with z | z
      · rw [z]; exact elt
      · rw [List.mem_singleton.mp z]; exact ilt
    rw [upd_ne (Nat.ne_of_lt hb2)]
    exact (hf b hb).1
  done := fun X hP hw hK hc i pins s σ H E I hf st hg => by
    subst hP hw hK
    obtain ⟨⟨old, he⟩, hit, n1, n2, n3⟩ := st
    obtain ⟨xs, hq, hx⟩ := hg
    obtain ⟨its, rv, p, _⟩ := I.tuple hq
    obtain ⟨f0, f1, f2, f3, f4, f5⟩ := hf it (by simp)
    have hl := rv.length
    have hTy : s.TypeIs (.ref e) "enumerate" := ⟨_, he, rfl⟩
    unfold pyNext
    refine wpAny_bind (wpAny_attempt (wpAny_callSpecial?_slot (name := Str.ofString "__next__") hTy F.slot_enumerate_next (wpAny_call_entry F.slot_enumerate_next hTy F.entry_enumerate_next ?_ (F.args_enumerate_next_1 _))))
    show wpAny _ _ (field (.ref e) 2 >>= _) _ _ _
    refine wpAny_bind (wpAny_field he rfl (x := .ref it) rfl ?_)
    refine wpAny_bind (RZ.nextOf_tuple_end (I.ok.hd hc) hit p (by simp; omega) fun h1 ex hk hx1 => ?_)
    obtain ⟨ox, hox, hcx⟩ := hx1
    refine wpAny_bind (wpAny_isInstance (T := "StopIteration") (b := true) ⟨ox, hox, hcx⟩ isSubtype_stop ?_)
    exact wpAny_pure ⟨rfl, I.turned (t' := s.toks) (fun b o hb q => hk b o hb q) f0 f1 f3 f4 f5⟩
  self := fun A i s Q E st h => by
    obtain ⟨⟨_, he⟩, _⟩ := st
    exact wpAny_pyIter_enum he h
def iEnumT (K : PySem.W.Frag) (ta : TA) : TI := fun σ H R => ta σ H fun vs H1 => ∃ a xs, vs = [.ref a] ∧ SqT K H1 a xs ∧ R (IteT K a) H1
theorem pi_enumT {X : Cx} {e : Expr} {ta : TA} {p pos tpos : Pos} {elts : List Expr} {kk : Nat} (hg : Gl X "enumerate") (hm : X.mg "enumerate" = none) (ha : PA X [e] ta) (hs : starEach [e] X.env = [(false, eval e X.env)] := by rfl) :
    PI X (.Tuple elts kk tpos) (.Call (.Name "enumerate" p) [e] [] pos) (iEnumT X.K ta) := by
  constructor
  intro pins s σ H R I h
  refine Call_ (ld_blt I hg hm boot_enumerate (PyProof.Rows.callWith_type1 (thn (ha.run pos pins s σ H _ I h) fun us s1 ⟨vs, H1, I1, r1, q1⟩ => ?_) hs rfl))
  obtain ⟨a, xs, ex, hq, q⟩ := q1
  subst ex
  obtain ⟨u, rfl, ru⟩ := vals1 r1
  cases ru
  obtain ⟨its, rv, p1, _⟩ := I1.tuple hq
  obtain ⟨n, en⟩ : ∃ n, n = s1.heap.objs.size := ⟨_, rfl⟩
  have la : a < n := by
    obtain ⟨o, ho, _⟩ := id p1
    rw [en]
    exact Heap.lt_size ho
  refine callE (begins_tuple a its.toArray) p1 fun h1 he ho hk => wpAny_pyIter_enum he ?_
  rw [← en] at he ho
  have I2 : Inv X pins σ H1 { s1 with heap := h1 } := I1.kept (t' := s1.toks) hk
  refine ⟨n + 1, [n + 1, n], _, _, H1, by rw [en], I2, turnET a (n + 1) n, ⟨⟨.none, he⟩, ⟨_, ho, rfl, rfl⟩, Nat.succ_ne_self _, Nat.ne_of_gt (Nat.lt_succ_of_lt la), Nat.ne_of_lt la⟩, fun b hb => ?_, q⟩
  have hle : s1.heap.objs.size ≤ b := by
    rw [← en]
    rcases List.mem_cons.mp hb with z | z
    · rw [z]; exact Nat.le_succ n
    · rw [List.mem_singleton.mp z]; exact Nat.le_refl n
  exact I1.fpOk hle (I1.hok.fresh hle)
end Bw
/-! zip of two tuples walked by ONE name: the pair of a turn stays where it is. -/
namespace Bw
open PySem PySem.Spec PyProof.Rows L2
def zo (f0 f1 : Value) (TI TO : Addr) : Obj := { cls := .type "zip", dict := none, data := .fields #[f0, f1, .bool false, .ref TI, .ref TO], slots := #[] }
def ZAny (h : Heap) (z TI TO : Addr) : Prop := ∃ f0 f1, h.get? z = some (zo f0 f1 TI TO) ∧ (f0 = .none ∨ ∃ T : Nat, f0 = rawInt (T : Int))
section
variable {prog : Program} {w : World} {A : Around} {E : Value → Shared → Prop} {s : Shared} {z TI TO i1 i2 l1 l2 : Addr} {k1 k2 : Nat} {xs ys : Array Value} {x y : Value}
theorem z_free {Q : Bool → Shared → Prop} (hz : ZAny s.heap z TI TO) (ht : Q true s) (hf : ∀ h', ZAny h' z TI TO → Heap.SameBut z s.heap h' → Q false { s with heap := h' }) : wpAny (model prog w) A (Builtin.SmallTypes.ownedTupleIsFree (.ref z)) Q E s := by
  obtain ⟨f0, f1, hg, hk⟩ := hz
  unfold Builtin.SmallTypes.ownedTupleIsFree
  refine wpAny_bind (wpAny_field hg rfl (x := f0) rfl ?_)
  rcases hk with rfl | ⟨T, rfl⟩
  · exact wpAny_pure ht
  · show wpAny _ _ (loadIfAlive ((T : Int).toNat) >>= _) _ _ _
    rw [Int.toNat_natCast]
    have la : ∀ {R : Option Obj → Shared → Prop}, R (s.heap.get? T) s → wpAny (model prog w) A (loadIfAlive T) R E s := fun h => fun _ _ _ => h
    refine wpAny_bind (la ?_)
    cases hT : s.heap.get? T with
    | none => exact wpAny_pure ht
    | some oT =>
      simp only [Option.isNone_some, Bool.false_eq_true, if_false]
      refine wpAny_bind (wpAny_field hg rfl (x := f1) rfl ?_)
      by_cases c : (f1 != Value.bool true) = true
      · rw [if_pos c]
        exact wpAny_bind (wpAny_setField_rec hg (by simp) fun h1 g1 b1 => wpAny_pure (hf h1 ⟨_, _, g1, Or.inr ⟨T, rfl⟩⟩ b1))
      · rw [if_neg c]
        exact wpAny_pure (hf s.heap ⟨_, _, hg, Or.inr ⟨T, rfl⟩⟩ (Heap.SameBut.refl _ _))
theorem zt_item {Q : Value → Shared → Prop} (D : ZipApart z TI TO i1 i2 l1 l2) (hz : ZAny s.heap z TI TO) (hTI : PySem.IsPair s.heap TI (.ref i1) (.ref i2)) (hTO : ∃ a b, PySem.IsPair s.heap TO a b)
    (h1 : s.heap.IsTupleIter i1 l1 k1) (h2 : s.heap.IsTupleIter i2 l2 k2) (t1 : s.heap.IsTuple l1 xs) (t2 : s.heap.IsTuple l2 ys) (hx : xs[k1]? = some x) (hy : ys[k2]? = some y)
    (hQ : ∀ h', ZAny h' z TI TO → (∃ a b, PySem.IsPair h' TO a b) → h'.IsTupleIter i1 l1 (k1 + 1) → h'.IsTupleIter i2 l2 (k2 + 1) → PySem.IsPair h' s.heap.objs.size x y →
      (∀ c o, c ≠ z → c ≠ TO → c ≠ i1 → c ≠ i2 → s.heap.get? c = some o → h'.get? c = some o) → Q (.ref s.heap.objs.size) { s with heap := h' }) :
    wpAny (model prog w) A (Builtin.«zip.__next__» ⟨[.ref z], []⟩) (fun fin s' => ∃ v, fin = .done (.ret v) ∧ Q v s') E s := by
  obtain ⟨f0, f1, hg, hk⟩ := id hz
  obtain ⟨a, b, hTO⟩ := hTO
  show wpAny _ _ (field (.ref z) 2 >>= _) _ _ _
  refine wpAny_bind (wpAny_field hg rfl (x := .bool false) rfl ?_)
  show wpAny _ _ (field (.ref z) 3 >>= _) _ _ _
  refine wpAny_bind (wpAny_field hg rfl (x := .ref TI) rfl (wpAny_bind (wpAny_seqItems hTI rfl ?_)))
  show wpAny _ _ (Builtin.SmallTypes.ownedTupleIsFree (.ref z) >>= _) _ _ _
  refine wpAny_bind (z_free hz ?_ fun n1 z1 b1 => ?_)
  · -- the pair is its own: used again within, a new one handed out
    simp only [if_true]
    refine wpAny_bind (wpAny_rule (wpAny_bind (wpAny_field hg rfl (x := .ref TO) rfl (wpAny_bind (wpAny_setField_rec hg (by simp) fun n1 g1 b1 => ?_)))))
    replace g1 : n1.get? z = some (zo .ellipsis f1 TI TO) := g1
    refine wpAny_bind ?_
    simp only [List.zipIdx_cons, List.zipIdx_nil, List.forIn_cons, List.forIn_nil]
    refine wpAny_bind (wpAny_bind (wpAny_onRaise ?_))
    show wpAny _ _ (Builtin.SmallTypes.nextOf (.ref i1) >>= _) _ _ _
    refine wpAny_bind (RZ.nextOf_tuple_item (h1.extBut b1.extBut D.i1z) (t1.extBut b1.extBut D.l1z) hx fun n2 j1 b2 => wpAny_pure ?_)
    have p2 : PySem.IsPair n2 TO a b := b2.extBut _ _ D.TOi1 (b1.extBut _ _ D.TOz hTO)
    refine wpAny_bind (wpAny_seqItems p2 rfl (wpAny_bind (wpAny_updateSeq_pair p2 fun n3 p3 b3 => wpAny_bind (wpAny_letGo (wpAny_pure ?_)))))
    replace p3 : PySem.IsPair n3 TO x b := p3
    refine wpAny_bind (wpAny_bind (wpAny_onRaise ?_))
    show wpAny _ _ (Builtin.SmallTypes.nextOf (.ref i2) >>= _) _ _ _
    have q2 : n3.IsTupleIter i2 l2 k2 := ((h2.extBut b1.extBut D.i2z).extBut b2.extBut D.i12.symm).extBut b3.extBut D.TOi2.symm
    have q3 : n3.IsTuple l2 ys := ((t2.extBut b1.extBut D.l2z).extBut b2.extBut D.l2i1).extBut b3.extBut D.l2TO
    refine wpAny_bind (RZ.nextOf_tuple_item q2 q3 hy fun n4 j2 b4 => wpAny_pure ?_)
    have p4 : PySem.IsPair n4 TO x b := b4.extBut _ _ D.TOi2 p3
    refine wpAny_bind (wpAny_seqItems p4 rfl (wpAny_bind (wpAny_updateSeq_pair p4 fun n5 p5 b5 => wpAny_bind (wpAny_letGo (wpAny_pure (wpAny_pure ?_))))))
    replace p5 : PySem.IsPair n5 TO x y := p5
    refine wpAny_bind (wpAny_seqItems p5 rfl (wpAny_bind (wpAny_newTuple ?_)))
    have sz : n5.objs.size = s.heap.objs.size := by rw [b5.1, b4.1, b3.1, b2.1, b1.1]
    have g5 : n5.get? z = some (zo .ellipsis f1 TI TO) := b5.extBut _ _ D.TOz.symm (b4.extBut _ _ D.i2z.symm (b3.extBut _ _ D.TOz.symm (b2.extBut _ _ D.i1z.symm g1)))
    have kp : ∀ c o, c ≠ z → c ≠ TO → c ≠ i1 → c ≠ i2 → s.heap.get? c = some o → n5.get? c = some o := fun c o c1 c2 c3 c4 e =>
      b5.extBut _ _ c2 (b4.extBut _ _ c4 (b3.extBut _ _ c2 (b2.extBut _ _ c3 (b1.extBut _ _ c1 e))))
    have j15 : n5.IsTupleIter i1 l1 (k1 + 1) := ((j1.extBut b3.extBut D.TOi1.symm).extBut b4.extBut D.i12).extBut b5.extBut D.TOi1.symm
    have j25 : n5.IsTupleIter i2 l2 (k2 + 1) := j2.extBut b5.extBut D.TOi2.symm
    have zlt : z < n5.objs.size := Heap.lt_size g5
    show wpAny _ _ (Builtin.SmallTypes.ownedTupleHandOut (.ref z) (.ref n5.objs.size) >>= _) _ _ _
    refine wpAny_bind ?_
    unfold Builtin.SmallTypes.ownedTupleHandOut
    have g6 : (n5.push { cls := .type "tuple", data := .seq #[x, y] }).get? z = some (zo .ellipsis f1 TI TO) := Heap.get?_push_of_some _ g5
    refine wpAny_bind (wpAny_setField_rec g6 (by simp) fun n7 g7 b7 => ?_)
    replace g7 : n7.get? z = some (zo (rawInt n5.objs.size) f1 TI TO) := g7
    refine wpAny_setField_rec g7 (by simp) fun n8 g8 b8 => ?_
    replace g8 : n8.get? z = some (zo (rawInt n5.objs.size) (.bool false) TI TO) := g8
    have up : ∀ c o, c ≠ z → n5.get? c = some o → n8.get? c = some o := fun c o c1 e => b8.extBut _ _ c1 (b7.extBut _ _ c1 (Heap.get?_push_of_some _ e))
    have pT : PySem.IsPair n8 n5.objs.size x y := b8.extBut _ _ (Nat.ne_of_gt zlt) (b7.extBut _ _ (Nat.ne_of_gt zlt) (Heap.get?_push_size _ rfl))
    rw [sz] at pT
    refine wpAny_pure ⟨_, rfl, ?_⟩
    show Q (.ref n5.objs.size) _
    rw [sz]
    exact hQ n8 ⟨_, _, g8, Or.inr ⟨_, rfl⟩⟩ ⟨x, y, up _ _ D.TOz p5⟩ (j15.at fun o e => up _ o D.i1z e) (j25.at fun o e => up _ o D.i2z e) pT fun c o c1 c2 c3 c4 e => up c o c1 (kp c o c1 c2 c3 c4 e)
  · -- it is still out: a new one beside
    simp only [Bool.false_eq_true, if_false]
    refine wpAny_bind ?_
    rw [← Array.forIn_toList]
    simp only [List.forIn_cons, List.forIn_nil]
    refine wpAny_bind (wpAny_bind (wpAny_holding ?_))
    show wpAny _ _ (Builtin.SmallTypes.nextOf (.ref i1) >>= _) _ _ _
    refine wpAny_bind (RZ.nextOf_tuple_item (s := { s with heap := n1 }) (h1.extBut b1.extBut D.i1z) (t1.extBut b1.extBut D.l1z) hx fun n2 j1 b2 => wpAny_pure (wpAny_pure ?_))
    refine wpAny_bind (wpAny_bind (wpAny_holding ?_))
    show wpAny _ _ (Builtin.SmallTypes.nextOf (.ref i2) >>= _) _ _ _
    have q2 : n2.IsTupleIter i2 l2 k2 := (h2.extBut b1.extBut D.i2z).extBut b2.extBut D.i12.symm
    refine wpAny_bind (RZ.nextOf_tuple_item (s := { s with heap := n2 }) q2 ((t2.extBut b1.extBut D.l2z).extBut b2.extBut D.l2i1) hy fun n3 j2 b3 => wpAny_pure (wpAny_pure (wpAny_pure ?_)))
    show wpAny _ _ (newTuple [x, y] >>= _) _ _ _
    refine wpAny_bind (wpAny_newTuple ?_)
    have sz : n3.objs.size = s.heap.objs.size := by rw [b3.1, b2.1, b1.1]
    obtain ⟨u0, u1, g1, e1⟩ := z1
    have g3 : n3.get? z = some (zo u0 u1 TI TO) := b3.extBut _ _ D.i2z.symm (b2.extBut _ _ D.i1z.symm g1)
    have kp : ∀ c o, c ≠ z → c ≠ i1 → c ≠ i2 → s.heap.get? c = some o → n3.get? c = some o := fun c o c1 c2 c3 e => b3.extBut _ _ c3 (b2.extBut _ _ c2 (b1.extBut _ _ c1 e))
    have j13 : n3.IsTupleIter i1 l1 (k1 + 1) := j1.extBut b3.extBut D.i12
    have pT : PySem.IsPair (n3.push { cls := .type "tuple", data := .seq #[x, y] }) n3.objs.size x y := Heap.get?_push_size _ rfl
    refine wpAny_pure ⟨_, rfl, ?_⟩
    show Q (.ref n3.objs.size) _
    rw [sz] at pT ⊢
    exact hQ _ ⟨u0, u1, Heap.get?_push_of_some _ g3, e1⟩ ⟨a, b, Heap.get?_push_of_some _ (kp _ _ D.TOz D.TOi1 D.TOi2 hTO)⟩ (j13.at fun o e => Heap.get?_push_of_some _ e) (j2.at fun o e => Heap.get?_push_of_some _ e) pT
      fun c o c1 c2 c3 c4 e => Heap.get?_push_of_some _ (kp c o c1 c3 c4 e)
end
end Bw
/-! .. its end, and the walk as a rule. -/
namespace Bw
open PySem PySem.Spec PyProof.Rows L2
section
variable {prog : Program} {w : World} {A : Around} {E : Value → Shared → Prop} {s : Shared} {z TI TO i1 i2 l1 l2 : Addr} {k1 k2 : Nat} {xs ys : Array Value} {x y : Value}
theorem zt_end {Q : PySem.Fin → Shared → Prop} (hh : A.handled = none) (D : ZipApart z TI TO i1 i2 l1 l2) (hz : ZAny s.heap z TI TO) (hTI : PySem.IsPair s.heap TI (.ref i1) (.ref i2)) (hTO : ∃ a b, PySem.IsPair s.heap TO a b)
    (h1 : s.heap.IsTupleIter i1 l1 k1) (h2 : s.heap.IsTupleIter i2 l2 k2) (t1 : s.heap.IsTuple l1 xs) (t2 : s.heap.IsTuple l2 ys) (hend : xs[k1]? = none ∨ ys[k2]? = none)
    (hE : ∀ h' e, (∀ c o, c ≠ z → c ≠ TO → c ≠ i1 → c ≠ i2 → s.heap.get? c = some o → h'.get? c = some o) → (∃ o, h'.get? e = some o ∧ o.cls = .type "StopIteration") → E (.ref e) { s with heap := h' }) :
    wpAny (model prog w) A (Builtin.«zip.__next__» ⟨[.ref z], []⟩) Q E s := by
  obtain ⟨f0, f1, hg, hk⟩ := id hz
  obtain ⟨a, b, hTO⟩ := hTO
  show wpAny _ _ (field (.ref z) 2 >>= _) _ _ _
  refine wpAny_bind (wpAny_field hg rfl (x := .bool false) rfl ?_)
  show wpAny _ _ (field (.ref z) 3 >>= _) _ _ _
  refine wpAny_bind (wpAny_field hg rfl (x := .ref TI) rfl (wpAny_bind (wpAny_seqItems hTI rfl ?_)))
  show wpAny _ _ (Builtin.SmallTypes.ownedTupleIsFree (.ref z) >>= _) _ _ _
  refine wpAny_bind (z_free hz ?_ fun n1 z1 b1 => ?_)
  · simp only [if_true]
    refine wpAny_bind (wpAny_rule (wpAny_bind (wpAny_field hg rfl (x := .ref TO) rfl (wpAny_bind (wpAny_setField_rec hg (by simp) fun n1 g1 b1 => ?_)))))
    replace g1 : n1.get? z = some (zo .ellipsis f1 TI TO) := g1
    refine wpAny_bind ?_
    simp only [List.zipIdx_cons, List.zipIdx_nil, List.forIn_cons, List.forIn_nil]
    refine wpAny_bind (wpAny_bind (wpAny_onRaise ?_))
    show wpAny _ _ (Builtin.SmallTypes.nextOf (.ref i1) >>= _) _ _ _
    cases hx : xs[k1]? with
    | none =>
      refine wpAny_bind (RZ.nextOf_tuple_end hh (h1.extBut b1.extBut D.i1z) (t1.extBut b1.extBut D.l1z) hx fun n2 e b2 he => ?_)
      obtain ⟨oe, hoe, hce⟩ := he
      have g2 : n2.get? z = some (zo .ellipsis f1 TI TO) := b2 _ _ D.i1z.symm g1
      have nez : e ≠ z := fun q => by
        rw [q, g2] at hoe
        cases hoe
        exact absurd (Value.type.inj hce) (by decide)
      exact wpAny_setField_rec g2 (by simp) fun n3 _ b3 => hE n3 e (fun c o c1 _ c3 _ q => b3.extBut _ _ c1 (b2 _ _ c3 (b1.extBut _ _ c1 q))) ⟨oe, b3.extBut _ _ nez hoe, hce⟩
    | some x =>
      have hy : ys[k2]? = none := by
        rcases hend with q | q
        · rw [hx] at q; exact nomatch q
        · exact q
      refine wpAny_bind (RZ.nextOf_tuple_item (h1.extBut b1.extBut D.i1z) (t1.extBut b1.extBut D.l1z) hx fun n2 j1 b2 => wpAny_pure ?_)
      have p2 : PySem.IsPair n2 TO a b := b2.extBut _ _ D.TOi1 (b1.extBut _ _ D.TOz hTO)
      refine wpAny_bind (wpAny_seqItems p2 rfl (wpAny_bind (wpAny_updateSeq_pair p2 fun n3 p3 b3 => wpAny_bind (wpAny_letGo (wpAny_pure ?_)))))
      refine wpAny_bind (wpAny_bind (wpAny_onRaise ?_))
      show wpAny _ _ (Builtin.SmallTypes.nextOf (.ref i2) >>= _) _ _ _
      have q2 : n3.IsTupleIter i2 l2 k2 := ((h2.extBut b1.extBut D.i2z).extBut b2.extBut D.i12.symm).extBut b3.extBut D.TOi2.symm
      have q3 : n3.IsTuple l2 ys := ((t2.extBut b1.extBut D.l2z).extBut b2.extBut D.l2i1).extBut b3.extBut D.l2TO
      refine wpAny_bind (RZ.nextOf_tuple_end hh q2 q3 hy fun n4 e b4 he => ?_)
      obtain ⟨oe, hoe, hce⟩ := he
      have g4 : n4.get? z = some (zo .ellipsis f1 TI TO) := b4 _ _ D.i2z.symm (b3.extBut _ _ D.TOz.symm (b2.extBut _ _ D.i1z.symm g1))
      have nez : e ≠ z := fun q => by
        rw [q, g4] at hoe
        cases hoe
        exact absurd (Value.type.inj hce) (by decide)
      exact wpAny_setField_rec g4 (by simp) fun n5 _ b5 => hE n5 e (fun c o c1 c2 c3 c4 q => b5.extBut _ _ c1 (b4 _ _ c4 (b3.extBut _ _ c2 (b2.extBut _ _ c3 (b1.extBut _ _ c1 q))))) ⟨oe, b5.extBut _ _ nez hoe, hce⟩
  · simp only [Bool.false_eq_true, if_false]
    refine wpAny_bind ?_
    rw [← Array.forIn_toList]
    simp only [List.forIn_cons, List.forIn_nil]
    refine wpAny_bind (wpAny_bind (wpAny_holding ?_))
    show wpAny _ _ (Builtin.SmallTypes.nextOf (.ref i1) >>= _) _ _ _
    cases hx : xs[k1]? with
    | none =>
      refine wpAny_bind (RZ.nextOf_tuple_end (s := { s with heap := n1 }) hh (h1.extBut b1.extBut D.i1z) (t1.extBut b1.extBut D.l1z) hx fun n2 e b2 he => ?_)
      exact hE n2 e (fun c o c1 _ c3 _ q => b2 _ _ c3 (b1.extBut _ _ c1 q)) he
    | some x =>
      have hy : ys[k2]? = none := by
        rcases hend with q | q
        · rw [hx] at q; exact nomatch q
        · exact q
      refine wpAny_bind (RZ.nextOf_tuple_item (s := { s with heap := n1 }) (h1.extBut b1.extBut D.i1z) (t1.extBut b1.extBut D.l1z) hx fun n2 j1 b2 => wpAny_pure (wpAny_pure ?_))
      refine wpAny_bind (wpAny_bind (wpAny_holding ?_))
      show wpAny _ _ (Builtin.SmallTypes.nextOf (.ref i2) >>= _) _ _ _
      have q2 : n2.IsTupleIter i2 l2 k2 := (h2.extBut b1.extBut D.i2z).extBut b2.extBut D.i12.symm
      refine wpAny_bind (RZ.nextOf_tuple_end (s := { s with heap := n2 }) hh q2 ((t2.extBut b1.extBut D.l2z).extBut b2.extBut D.l2i1) hy fun n3 e b3 he => ?_)
      exact hE n3 e (fun c o c1 _ c3 c4 q => b3 _ _ c4 (b2.extBut _ _ c3 (b1.extBut _ _ c1 q))) he
end
theorem zn_self {prog : Program} {w : World} {A : Around} {E : Value → Shared → Prop} {s : Shared} {z TI TO : Addr} {f0 f1 : Value} {Q : Value → Shared → Prop} (g : s.heap.get? z = some (zo f0 f1 TI TO)) (h : Q (.ref z) s) : wpAny (model prog w) A (pyIter (.ref z)) Q E s := by
  have ty : s.TypeIs (.ref z) "zip" := ⟨_, g, rfl⟩
  refine wpAny_pyIter_slot ty F.slot_zip_iter (wpAny_call_entry F.slot_zip_iter ty F.entry_zip_iter ?_ (F.args_zip_iter_1 _))
  exact (show wpAny _ _ (ret (.ref z)) _ _ s from wpAny_pure ⟨_, rfl, "zip", _, ty, F.slot_zip_next.lookup, h⟩)
theorem turnZN {P : Program} {w : World} {K : PySem.W.Frag} {nm : Str} {np : Pos} {a b z TI TO i1 i2 : Addr} (D : ZipApart z TI TO i1 i2 a b) :
    Turn P w K (.Name nm np) (RZ.ItzT K a b) [z, TI, TO, i1, i2] z (fun i h => ZAny h z TI TO ∧ PySem.IsPair h TI (.ref i1) (.ref i2) ∧ (∃ x y, PySem.IsPair h TO x y) ∧ h.IsTupleIter i1 a i ∧ h.IsTupleIter i2 b i) where
  mem := List.mem_cons_self ..
  obj := fun i h st c hc => by
    obtain ⟨⟨f0, f1, hz, _⟩, hTI, ⟨x, y, hTO⟩, ⟨o1, e1, _, d1⟩, ⟨o2, e2, _, d2⟩⟩ := st
    simp only [List.mem_cons, List.not_mem_nil, or_false] at hc
    rcases hc with q | q | q | q | q <;> rw [q]
    · exact ⟨_, hz, fun v q => nomatch q⟩
    · exact ⟨_, hTI, fun v q => nomatch q⟩
    · exact ⟨_, hTO, fun v q => nomatch q⟩
    · exact ⟨o1, e1, fun v q => by rw [d1] at q; cases q⟩
    · exact ⟨o2, e2, fun v q => by rw [d2] at q; cases q⟩
  keep := fun i h h' st k => by
    obtain ⟨⟨f0, f1, hz, r⟩, hTI, ⟨x, y, hTO⟩, h1, h2⟩ := st
    exact ⟨⟨f0, f1, k z (by simp) _ hz, r⟩, k TI (by simp) _ hTI, ⟨x, y, k TO (by simp) _ hTO⟩, h1.at fun o q => k i1 (by simp) o q, h2.at fun o q => k i2 (by simp) o q⟩
  item := fun X hP hw hK hc i pins s σ H E I hf st hg => by
    subst hP hw hK
    obtain ⟨hz, hTI, hTO, h1, h2⟩ := st
    obtain ⟨xs, ys, x, y, hqx, hqy, hx, hy⟩ := hg
    obtain ⟨its, rv, p, _⟩ := I.tuple hqx
    obtain ⟨its2, rv2, p2, _⟩ := I.tuple hqy
    obtain ⟨u, hu, ru⟩ := rv.get hx
    obtain ⟨u2, hu2, ru2⟩ := rv2.get hy
    have all : ∀ c ∈ [z, TI, TO, i1, i2], c < s.heap.objs.size := fun c hcm => by
      obtain ⟨⟨_, _, gz, _⟩, ⟨_, _, gO⟩⟩ := And.intro hz hTO
      obtain ⟨_, g1, _⟩ := id h1
      obtain ⟨_, g2, _⟩ := id h2
      simp only [List.mem_cons, List.not_mem_nil, or_false] at hcm
      rcases hcm with q | q | q | q | q <;> rw [q]
      · exact Heap.lt_size gz
      · exact Heap.lt_size hTI
      · exact Heap.lt_size gO
      · exact Heap.lt_size g1
      · exact Heap.lt_size g2
    have hTy : s.TypeIs (.ref z) "zip" := let ⟨_, _, g, _⟩ := hz; ⟨_, g, rfl⟩
    unfold pyNext
    refine wpAny_bind (wpAny_attempt (wpAny_callSpecial?_slot (name := Str.ofString "__next__") hTy F.slot_zip_next (wpAny_call_entry F.slot_zip_next hTy F.entry_zip_next
      (zt_item D hz hTI hTO h1 h2 p p2 (x := u) (y := u2) (by simpa using hu) (by simpa using hu2) fun n1 z1 o1 j1 j2 hT hk => wpAny_pure ⟨_, rfl, ?_⟩) (F.args_zip_next_1 _))))
    refine (show ∀ {Q : Unit → Shared → Prop}, Q () _ → wpAny _ X.A (letOwnedTupleGo (.Name nm np) (.ref z) (.ref s.heap.objs.size)) Q E _ from fun h => wpAny_pure h) ?_
    have ok : ObjOk X.prog X.w (upd H s.heap.objs.size (.tup [x, y])) n1 s.heap.objs.size (.tup [x, y]) := ⟨by show 2 ≤ sizeLine; decide, [u, u2], .cons ru (.cons ru2 .nil), ⟨_, hT, rfl, _, rfl⟩⟩
    have I1 : Inv X pins σ (upd H s.heap.objs.size (.tup [x, y])) { s with heap := n1 } := I.turnedNew (t' := s.toks) (ch := [z, TI, TO, i1, i2]) (fun c o hb q =>
      hk c o (fun q' => hb (by simp [q'])) (fun q' => hb (by simp [q'])) (fun q' => hb (by simp [q'])) (fun q' => hb (by simp [q'])) q) hf (Nat.le_refl _) ok
    refine ⟨.ref s.heap.objs.size, _, I1, rfl, ⟨_, x, y, rfl, I.hok.fresh (Nat.le_refl _), rfl, fun l hl => by rw [I.tuple_inj hl hqx]; exact hx, fun l hl => by rw [I.tuple_inj hl hqy]; exact hy⟩, ⟨z1, hk _ _ D.TIz D.TITO D.TIi1 D.TIi2 hTI, o1, j1, j2⟩, fun c hcm => ?_⟩
    rw [upd_ne (Nat.ne_of_lt (all c hcm))]
    exact (hf c hcm).1
  done := fun X hP hw hK hc i pins s σ H E I hf st hg => by
    subst hP hw hK
    obtain ⟨hz, hTI, hTO, h1, h2⟩ := st
    obtain ⟨xs, ys, hqx, hqy, hend⟩ := hg
    obtain ⟨its, rv, p, _⟩ := I.tuple hqx
    obtain ⟨its2, rv2, p2, _⟩ := I.tuple hqy
    have l1 := rv.length
    have l2 := rv2.length
    have he : its.toArray[i]? = none ∨ its2.toArray[i]? = none := by
      rcases hend with q | q
      · left; simp; omega
      · right; simp; omega
    have hTy : s.TypeIs (.ref z) "zip" := let ⟨_, _, g, _⟩ := hz; ⟨_, g, rfl⟩
    unfold pyNext
    refine wpAny_bind (wpAny_attempt (wpAny_callSpecial?_slot (name := Str.ofString "__next__") hTy F.slot_zip_next (wpAny_call_entry F.slot_zip_next hTy F.entry_zip_next (zt_end (I.ok.hd hc) D hz hTI hTO h1 h2 p p2 he fun n1 e hk hx => ?_) (F.args_zip_next_1 _))))
    obtain ⟨o, ho, hcl⟩ := hx
    refine wpAny_bind (wpAny_isInstance (T := "StopIteration") (b := true) ⟨o, ho, hcl⟩ isSubtype_stop ?_)
    exact wpAny_pure ⟨rfl, I.turnedL (t' := s.toks) (ch := [z, TI, TO, i1, i2]) (fun c o hb q => hk c o (fun q' => hb (by simp [q'])) (fun q' => hb (by simp [q'])) (fun q' => hb (by simp [q'])) (fun q' => hb (by simp [q'])) q) hf⟩
  self := fun A i s Q E st h => by
    obtain ⟨⟨f0, f1, g, _⟩, _⟩ := st
    exact zn_self g h
def iZipN (K : PySem.W.Frag) (ta : TA) : TI := fun σ H R => ta σ H fun vs H1 => ∃ a b xs ys, vs = [.ref a, .ref b] ∧ SqT K H1 a xs ∧ SqT K H1 b ys ∧ R (RZ.ItzT K a b) H1
theorem pi_zipN {X : Cx} {e e2 : Expr} {ta : TA} {p pos np : Pos} {nm : Str} (hg : Gl X "zip") (hm : X.mg "zip" = none) (ha : PA X [e, e2] ta)
    (hs : starEach [e, e2] X.env = (false, eval e X.env) :: starEach [e2] X.env := by rfl) (hpl : (backTo pos (starEach [e2] X.env)).any (·.1) = false := by rfl) :
    PI X (.Name nm np) (.Call (.Name "zip" p) [e, e2] [] pos) (iZipN X.K ta) := by
  constructor
  intro pins s σ H R I h
  refine Call_ (ld_blt I hg hm PyProof.Rows.boot_zip (PyProof.Rows.callWith_type1 (thn (ha.run pos pins s σ H _ I h) fun us s1 ⟨vs, H1, I1, r1, q1⟩ => ?_) hs hpl))
  obtain ⟨a, b, xs, ys, ex, hqx, hqy, q⟩ := q1
  subst ex
  obtain ⟨u, u2, rfl, ra, rb⟩ := vals2 r1
  cases ra
  cases rb
  obtain ⟨its, rv, p1, _⟩ := I1.tuple hqx
  obtain ⟨its2, rv2, p2, _⟩ := I1.tuple hqy
  obtain ⟨o1, ho1, _⟩ := id p1
  obtain ⟨o2, ho2, _⟩ := id p2
  obtain ⟨n, en⟩ : ∃ n, n = s1.heap.objs.size := ⟨_, rfl⟩
  have la : a < n := by rw [en]; exact Heap.lt_size ho1
  have lb : b < n := by rw [en]; exact Heap.lt_size ho2
  refine RZ.call_zipT (show s1.heap.IsTuple a its.toArray from p1) (show s1.heap.IsTuple b its2.toArray from p2) fun h1 hz hTI hTO j1 j2 hsz hk => wpAny_pyIter_zip hz ?_
  have I2 : Inv X pins σ H1 { s1 with heap := h1 } := I1.kept (t' := s1.toks) hk
  rw [← en] at hz hTI hTO j1 j2
  refine ⟨n + 4, [n + 4, n + 2, n + 3, n, n + 1], _, _, H1, by rw [en], I2, turnZN (PySem.W.ktu_apart n a b la lb), ⟨⟨.none, .bool false, hz, Or.inl rfl⟩, hTI, ⟨_, _, hTO⟩, j1, j2⟩, fun c hcm => ?_, q⟩
  have hle : s1.heap.objs.size ≤ c := by
    rw [← en]
    simp only [List.mem_cons, List.not_mem_nil, or_false] at hcm
    rcases hcm with w | w | w | w | w <;> rw [w]
    · exact Nat.le_add_right ..
    · exact Nat.le_add_right ..
    · exact Nat.le_add_right ..
    · exact Nat.le_refl _
    · exact Nat.le_add_right ..
  exact I1.fpOk hle (I1.hok.fresh hle)
end Bw
/-! The laws' source of draws: a dict of a list of large numbers, a list of cells, a rest and a turn. -/
namespace Bw
open PySem PySem.Spec PyProof.Rows L2
/-! ### the source of draws -/
def stK (lg cs : Addr) (r t : Int) : List (Key × V) := [(Sum.inr "large", .ref lg), (Sum.inr "cells", .ref cs), (Sum.inr "rest", .int r), (Sum.inr "turn", .int t)]
theorem ne_lc : ¬ ((Sum.inr ("large" : Str) : Key) = Sum.inr ("cells" : Str)) := by decide +kernel
theorem ne_lr : ¬ ((Sum.inr ("large" : Str) : Key) = Sum.inr ("rest" : Str)) := by decide +kernel
theorem ne_lt : ¬ ((Sum.inr ("large" : Str) : Key) = Sum.inr ("turn" : Str)) := by decide +kernel
theorem ne_cr : ¬ ((Sum.inr ("cells" : Str) : Key) = Sum.inr ("rest" : Str)) := by decide +kernel
theorem ne_ct : ¬ ((Sum.inr ("cells" : Str) : Key) = Sum.inr ("turn" : Str)) := by decide +kernel
theorem ne_rt : ¬ ((Sum.inr ("rest" : Str) : Key) = Sum.inr ("turn" : Str)) := by decide +kernel
section
variable {lg cs st : Addr} {r t y : Int} {H : Hp}
theorem stK_large : valV (stK lg cs r t) (Sum.inr "large" : Key) = some (.ref lg) := valV_pos rfl
theorem stK_cells : valV (stK lg cs r t) (Sum.inr "cells" : Key) = some (.ref cs) := by
  unfold stK
  rw [valV_neg ne_lc, valV_pos rfl]
theorem stK_rest : valV (stK lg cs r t) (Sum.inr "rest" : Key) = some (.int r) := by
  unfold stK
  rw [valV_neg ne_lr, valV_neg ne_cr, valV_pos rfl]
theorem stK_turn : valV (stK lg cs r t) (Sum.inr "turn" : Key) = some (.int t) := by
  unfold stK
  rw [valV_neg ne_lt, valV_neg ne_ct, valV_neg ne_rt, valV_pos rfl]
theorem put_rest : putK (stK lg cs r t) (Sum.inr "rest" : Key) (.int y) = stK lg cs y t := by
  have h : ((stK lg cs r t).any fun kv => decide (kv.1 = (Sum.inr "rest" : Key))) = true := by rw [valV_any, stK_rest]; rfl
  unfold putK
  rw [if_pos h]
  unfold stK
  simp only [List.map_cons, List.map_nil, if_neg ne_lr, if_neg ne_cr, if_neg (fun z => ne_rt (Eq.symm z)), if_true]
theorem put_turn : putK (stK lg cs r t) (Sum.inr "turn" : Key) (.int y) = stK lg cs r y := by
  have h : ((stK lg cs r t).any fun kv => decide (kv.1 = (Sum.inr "turn" : Key))) = true := by rw [valV_any, stK_turn]; rfl
  unfold putK
  rw [if_pos h]
  unfold stK
  simp only [List.map_cons, List.map_nil, if_neg ne_lt, if_neg ne_ct, if_neg ne_rt, if_true]
theorem get_large (h : H st = some (.dK (stK lg cs r t))) : DGet H st (.str "large") (some (.ref lg)) := by
  rw [← stK_large (lg := lg) (cs := cs) (r := r) (t := t)]
  exact DGet.k (k := Sum.inr "large") h
theorem get_cells (h : H st = some (.dK (stK lg cs r t))) : DGet H st (.str "cells") (some (.ref cs)) := by
  rw [← stK_cells (lg := lg) (cs := cs) (r := r) (t := t)]
  exact DGet.k (k := Sum.inr "cells") h
theorem get_rest (h : H st = some (.dK (stK lg cs r t))) : DGet H st (.str "rest") (some (.int r)) := by
  rw [← stK_rest (lg := lg) (cs := cs) (r := r) (t := t)]
  exact DGet.k (k := Sum.inr "rest") h
theorem get_turn (h : H st = some (.dK (stK lg cs r t))) : DGet H st (.str "turn") (some (.int t)) := by
  rw [← stK_turn (lg := lg) (cs := cs) (r := r) (t := t)]
  exact DGet.k (k := Sum.inr "turn") h
theorem dput_rest (h : H st = some (.dK (stK lg cs r t))) : DPut H st (.str "rest") (.int y) (upd H st (.dK (stK lg cs y t))) := by
  rw [← put_rest (lg := lg) (cs := cs) (r := r) (t := t) (y := y)]
  exact DPut.k (k := Sum.inr "rest") h (by show 4 < sizeLine; decide)
theorem dput_turn (h : H st = some (.dK (stK lg cs r t))) : DPut H st (.str "turn") (.int y) (upd H st (.dK (stK lg cs r y))) := by
  rw [← put_turn (lg := lg) (cs := cs) (r := r) (t := t) (y := y)]
  exact DPut.k (k := Sum.inr "turn") h (by show 4 < sizeLine; decide)
end
/-- the source stands at st, its large numbers at lg; at most n turns were made -/
structure Src (H : Hp) (st lg cs : Addr) (n : Nat) : Prop where
  ex : ∃ (large cells : List Nat) (r t : Nat), H st = some (.dK (stK lg cs (r : Int) (t : Int))) ∧ H lg = some (.lst (large.map fun x : Nat => V.int (x : Int))) ∧ H cs = some (.lst (cells.map fun x : Nat => V.int (x : Int))) ∧ t ≤ n ∧ large.length ≤ 1000 ∧ cells.length ≤ 1000
  nlc : lg ≠ cs
/-- all that is tracked stands, but the source's own -/
def But (H H' : Hp) (st lg : Addr) : Prop := ∀ b o, H b = some o → b ≠ st → b ≠ lg → H' b = some o
theorem But.refl {H : Hp} {st lg : Addr} : But H H st lg := fun _ _ h _ _ => h
theorem But.trans {H H1 H2 : Hp} {st lg : Addr} (a : But H H1 st lg) (b : But H1 H2 st lg) : But H H2 st lg := fun x o h h1 h2 => b x o (a x o h h1 h2) h1 h2
theorem But.new {H H1 : Hp} {st lg p : Addr} {o : HO} (a : But H H1 st lg) (h : H1 p = none) : But H (upd H1 p o) st lg := fun x u q h1 h2 => by
  have z := a x u q h1 h2
  rw [upd_ne (ne_of_none z h)]
  exact z
theorem But.st {H H1 : Hp} {st lg : Addr} {o : HO} (a : But H H1 st lg) : But H (upd H1 st o) st lg := fun x u q h1 h2 => by
  rw [upd_ne h1]
  exact a x u q h1 h2
theorem But.lg {H H1 : Hp} {st lg : Addr} {o : HO} (a : But H H1 st lg) : But H (upd H1 lg o) st lg := fun x u q h1 h2 => by
  rw [upd_ne h2]
  exact a x u q h1 h2
/-- a draw below m -/
def spDraw : Sp := fun vs H Q _ => ∃ (st lg cs : Addr) (m n : Nat), vs = [.ref st, .int (m : Int)] ∧ 0 < m ∧ m < 2 ^ 100 ∧ n < 2 ^ 40 ∧ Src H st lg cs n ∧
  ∀ (r : Nat) (H' : Hp), r < m → Src H' st lg cs (n + 1) → But H H' st lg → Q (.int (r : Int)) H'
/-- nothing is large: dict and list of different kind stand apart -/
theorem ne_dl {H : Hp} {a b : Addr} {k : List (Key × V)} {l : List V} (h : H a = some (.dK k)) (h2 : H b = some (.lst l)) : a ≠ b := ne_of h h2 (by intro z; cases z)
theorem dInts {K : PySem.W.Frag} {H : Hp} : ∀ (l : List Nat), DpAll K H (l.map fun x : Nat => V.int (x : Int)) (l.map fun x : Nat => PyData.int (x : Int))
  | [] => .nil
  | x :: r => .cons (.int _) (dInts r)
/-! ### small words -/
theorem ite_t {c A B : Prop} [Decidable c] (h : c) (a : A) : if decide c = true then A else B := by
  rw [decide_eq_true h]
  exact iteT a
theorem ite_f {c A B : Prop} [Decidable c] (h : ¬ c) (b : B) : if decide c = true then A else B := by
  rw [decide_eq_false h]
  exact iteF b
theorem ite_b {b : Bool} {A B : Prop} (h1 : b = true → A) (h2 : b = false → B) : if b = true then A else B := by
  cases b with
  | true => exact iteT (h1 rfl)
  | false => exact iteF (h2 rfl)
theorem natsLay : ∀ l : List Nat, PyData.canLayAll0 (l.map fun x : Nat => PyData.int (x : Int)) = true
  | [] => by simp [PyData.canLayAll0]
  | x :: r => by simp [PyData.canLayAll0, PyData.canLay0, natsLay r]
theorem natsDepth : ∀ l : List Nat, PyData.depthAll (l.map fun x : Nat => PyData.int (x : Int)) ≤ 1
  | [] => by simp [PyData.depthAll]
  | x :: r => by
    have h := natsDepth r
    simp only [List.map_cons, PyData.depthAll, PyData.depth]
    omega
theorem natsShaped (l : List Nat) : SeqAt.shaped (.list (l.map fun x : Nat => PyData.int (x : Int))) = true := by
  have h1 := natsDepth l
  have h2 : PyData.depth (.list (l.map fun x : Nat => PyData.int (x : Int))) ≤ 64 := by
    simp only [PyData.depth]
    omega
  show (PyData.canLay0 (.list _) && decide (PyData.depth (.list _) ≤ 64)) = true
  rw [Bool.and_eq_true]
  exact ⟨by simp only [PyData.canLay0]; exact natsLay l, decide_eq_true h2⟩
theorem nilShaped : SeqAt.shaped (.list []) = true := by decide
theorem natsNil (l : List Nat) : (!PyData.eqv (.list (l.map fun x : Nat => PyData.int (x : Int))) (.list [])) = !l.isEmpty := by
  cases l with
  | nil => simp [PyData.eqv, PyData.eqvAll]
  | cons x r => simp [PyData.eqv, PyData.eqvAll]
theorem sz0 : (0 : Nat) ≤ sizeLine := Nat.zero_le _
/-- xs != [] of numbers -/
theorem ne_nil {K : PySem.W.Frag} {H : Hp} {a p : Addr} {l : List Nat} {Q : VK} (ha : H a = some (.lst (l.map fun x : Nat => V.int (x : Int)))) (hp : H p = some (.lst [])) (q : Q (.bl (!l.isEmpty)) H) : rNeD K (.ref a) (.ref p) H Q :=
  ⟨_, _, .lst (SqL.of ha) (dInts l), .lst (SqL.of hp) .nil, natsShaped l, nilShaped, by rw [natsNil]; exact q⟩
/-! ### readings of operators, by short names -/
abbrev rAddI : R2 := rI0 fun i j => .int (i + j)
abbrev rSubI : R2 := rI0 fun i j => .int (i - j)
abbrev rMulI : R2 := rI CMul fun i j => .int (i * j)
abbrev rModI : R2 := rI (fun _ j => 0 < j) fun i j => .int (i % j)
abbrev rDivI : R2 := rI CDiv fun i j => .int (i / j)
abbrev rDivW : R2 := rI CDivW fun i j => .int (i / j)
abbrev rPowI : R2 := rI CPow fun i j => .int (i ^ j.toNat)
abbrev rLtI : R2 := rI0 fun i j => .bl (decide (i < j))
abbrev rLeI : R2 := rI0 fun i j => .bl (decide (i ≤ j))
abbrev rGtI : R2 := rI0 fun i j => .bl (decide (j < i))
abbrev rGeI : R2 := rI0 fun i j => .bl (decide (j ≤ i))
abbrev rNegI : V → Hp → VK → Prop := rU fun i => .int (-i)
abbrev cInt1 : List V → Hp → VK → Prop := fun xs H Q => (∃ i, xs = [.int i] ∧ Q (.int i) H) ∨ ∃ k, xs = [.bl k] ∧ Q (.int (if k then 1 else 0)) H
abbrev cAbs : List V → Hp → VK → Prop := fun xs H Q => ∃ i, xs = [.int i] ∧ Q (.int (if i < 0 then -i else i)) H
abbrev cLen (K : PySem.W.Frag) : List V → Hp → VK → Prop := fun xs H Q => ∃ x n, xs = [x] ∧ LenV K x H n ∧ Q (.int n) H
theorem len_l {K : PySem.W.Frag} {H : Hp} {a : Addr} {xs : List V} {Q : VK} (h : H a = some (.lst xs)) (q : Q (.int (xs.length : Nat)) H) : cLen K [.ref a] H Q := ⟨_, _, rfl, Or.inl ⟨xs, SqL.of h, rfl⟩, q⟩
theorem int1 {i : Int} {H : Hp} {Q : VK} (q : Q (.int i) H) : cInt1 [.int i] H Q := Or.inl ⟨i, rfl, q⟩
end Bw
/-! More of what a reading evaluates to. -/
namespace Bw
open PySem PySem.Spec PyProof.Rows L2 Evl
section
variable {K : PySem.W.Frag} {σ : L2.St} {H : Hp} {te : TE} {t : TT}
/-- what a comprehension has made behind i turns -/
def CwF (H : Hp) (f : V → Option V) (xs : List V) (Dl : Addr) (i : Nat) (H' : Hp) : Prop := H Dl = none ∧ Ex H H' ∧ H' Dl = some (.lst ((xs.take i).filterMap f))
theorem take_step {α : Type} {xs : List α} {i : Nat} {x : α} (h : xs[i]? = some x) : xs.take (i + 1) = xs.take i ++ [x] := by
  obtain ⟨hi, e⟩ := List.getElem?_eq_some_iff.mp h
  rw [List.take_add_one, h]
  rfl
theorem cwF_turn {H H' : Hp} {f : V → Option V} {xs : List V} {x : V} {Dl : Addr} {i : Nat} {σ2 : L2.St} (p : CwF H f xs Dl i H') (hi : i < 50000) (hx : xs[i]? = some x) (ht : EvT t σ2 H (f x).isSome) (he : ∀ y, f x = some y → Ev te σ2 H y) :
    t σ2 H' fun b H3 => if b = true then te σ2 H3 fun y H4 => ∃ acc, H4 Dl = some (.lst acc) ∧ acc.length < sizeLine ∧ CwF H f xs Dl (i + 1) (upd H4 Dl (.lst (acc ++ [y]))) else CwF H f xs Dl (i + 1) H3 := by
  obtain ⟨p1, p2, p3⟩ := p
  refine ht H' p2 _ fun H3 e3 => ?_
  cases hf : f x with
  | some y =>
    show (if true = true then _ else _)
    refine iteT ?_
    refine he y hf H3 (p2.trans e3) _ fun H4 e4 => ?_
    refine ⟨_, e4 _ _ (e3 _ _ p3), ?_, p1, ?_, ?_⟩
    · refine Nat.lt_of_le_of_lt (List.length_filterMap_le _ _) ?_
      rw [List.length_take]
      exact sz_lt (by omega)
    · exact Ex.mut ((p2.trans e3).trans e4) p1
    · rw [upd_same, take_step hx, List.filterMap_append]
      show some (HO.lst (_ ++ [y])) = some (HO.lst (_ ++ List.filterMap f [x]))
      rw [List.filterMap_cons, hf]
      rfl
  | none =>
    show (if false = true then _ else _)
    refine iteF ⟨p1, p2.trans e3, ?_⟩
    rw [take_step hx, List.filterMap_append, List.filterMap_cons, hf, List.filterMap_nil, List.append_nil]
    exact e3 _ _ p3
/-- [e for x in xs if t], xs at a -/
theorem el_fm {a : Addr} {xs : List V} {tl : TE} {j : Nat} {vs : List Nat} (f : V → Option V) (h : Ev tl σ H (.ref a)) (hx : SqL K H a xs) (hz : xs.length ≤ 40000) (hw : ∀ x, wipe ((wipe σ vs).set j (some x)) vs = wipe σ vs)
    (ht : ∀ (x : V) H1, Ex H H1 → x ∈ xs → EvT t ((wipe σ vs).set j (some x)) H1 (f x).isSome) (he : ∀ (x y : V) H1, Ex H H1 → x ∈ xs → f x = some y → Ev te ((wipe σ vs).set j (some x)) H1 y) :
    EvL (tLc (iList K tl) (gName j) t te vs) σ H (xs.filterMap f) := fun H0 e Q q => h H0 e _ fun H1 e1 => ⟨a, rfl, ⟨xs, ex_l (e.trans e1) hx⟩, fun Dl hD => by
  refine lc_list (xs := xs) (CwF H1 f xs Dl) ⟨hD, Ex.new hD, upd_same⟩ (fun i H' _ p => ex_l ((e.trans e1).trans p.2.1) hx) (fun i x H' hi p => ⟨hw x, ?_⟩) (fun H' p => ?_)
  · have hlt := (List.getElem?_eq_some_iff.mp hi).1
    exact cwF_turn p (by omega) hi (ht x H1 (e.trans e1) (List.mem_of_getElem? hi)) (fun y hf => he x y H1 (e.trans e1) (List.mem_of_getElem? hi) hf)
  · have p3 := p.2.2
    rw [List.take_length] at p3
    exact q Dl H' (fresh_back e1 p.1) (e1.trans p.2.1) p3⟩
theorem et_yes : EvT tYes σ H true := fun H1 _ _ q => q H1 (Ex.refl H1)
/-- [e for x in xs] -/
theorem el_mp {a : Addr} {xs : List V} {tl : TE} {j : Nat} {vs : List Nat} (f : V → V) (h : Ev tl σ H (.ref a)) (hx : SqL K H a xs) (hz : xs.length ≤ 40000) (hw : ∀ x, wipe ((wipe σ vs).set j (some x)) vs = wipe σ vs)
    (he : ∀ (x : V) H1, Ex H H1 → x ∈ xs → Ev te ((wipe σ vs).set j (some x)) H1 (f x)) : EvL (tLc (iList K tl) (gName j) tYes te vs) σ H (xs.map f) := by
  have e : xs.map f = xs.filterMap fun x => some (f x) := by simp
  rw [e]
  refine el_fm _ h hx hz hw (fun x H1 _ _ => et_yes) (fun x y H1 e1 hm hf => ?_)
  cases hf
  exact he x H1 e1 hm
theorem ev_abs {ta : TE} {i : Int} (h : Ev ta σ H (.int i)) : Ev (tCB cAbs (tCons ta tNil)) σ H (.int (if i < 0 then -i else i)) := fun H1 e Q q => h H1 e _ fun H2 e2 => ⟨i, rfl, q H2 e2⟩
theorem ev_int1 {ta : TE} {i : Int} (h : Ev ta σ H (.int i)) : Ev (tCB cInt1 (tCons ta tNil)) σ H (.int i) := fun H1 e Q q => h H1 e _ fun H2 e2 => Or.inl ⟨i, rfl, q H2 e2⟩
end
end Bw
namespace Bw
open PySem PySem.Spec PyProof.Rows L2
def t_draw_6 (K : PySem.W.Frag) : TS := (tRet (tOp rModI (tCB cInt1 (tCons (tOp rDivI (tOp rModI (tCB cInt1 (tCons (tOp rPowI (tOp rAddI (tVar 4) (tOp rMulI (tC (.int 104917)) (tVar 2))) (tC (.int 5))) tNil)) (tC (.int 2147483579))) (tC (.int 29))) tNil)) (tVar 1)))
def t_draw_5 (K : PySem.W.Frag) : TS := tSeq (tAsg (tOp rModI (tCB cInt1 (tCons (tOp rPowI (tOp rAddI (tOp rAddI (tOp rModI (tCB cInt1 (tCons (tVar 3) tNil)) (tC (.int 2147483563))) (tOp rMulI (tC (.int 40692)) (tVar 2))) (tC (.int 24681))) (tC (.int 3))) tNil)) (tC (.int 2147483629))) (gName 4)) (t_draw_6 K)
def t_draw_4 (K : PySem.W.Frag) : TS := tSeq (tAsg (tIf (tTest (tOp (rNeD K) (tDGet (tVar 0) (tC (.str "cells"))) (tLst tNil))) (tOp (rIxL K) (tDGet (tVar 0) (tC (.str "cells"))) (tOp rModI (tCB cInt1 (tCons (tVar 2) tNil)) (tCB (cLen K) (tCons (tDGet (tVar 0) (tC (.str "cells"))) tNil)))) (tC (.int 0))) (gName 3)) (t_draw_5 K)
def t_draw_3 (K : PySem.W.Frag) : TS := tSeq (sDPut (tVar 0) (tC (.str "turn")) (tVar 2)) (t_draw_4 K)
def t_draw_2 (K : PySem.W.Frag) : TS := tSeq (tAsg (tOp rAddI (tDGet (tVar 0) (tC (.str "turn"))) (tC (.int 1))) (gName 2)) (t_draw_3 K)
def t_draw_1 (K : PySem.W.Frag) : TS := tSeq (tIfS (tTest (tOp rGtI (tDGet (tVar 0) (tC (.str "rest"))) (tC (.int 0)))) (tSeq (tAsg (tOp rModI (tCB cInt1 (tCons (tDGet (tVar 0) (tC (.str "rest"))) tNil)) (tVar 1)) (gName 5)) (tSeq (sDPut (tVar 0) (tC (.str "rest")) (tOp rDivW (tDGet (tVar 0) (tC (.str "rest"))) (tVar 1))) (tRet (tVar 5)))) tNext) (t_draw_2 K)
def t_draw_0 (K : PySem.W.Frag) : TS := tSeq (tWhile (tAnd (tTest (tOp rEq (tDGet (tVar 0) (tC (.str "rest"))) (tC (.int 0)))) (tTest (tOp (rNeD K) (tDGet (tVar 0) (tC (.str "large"))) (tLst tNil)))) (sDPut (tVar 0) (tC (.str "rest")) (tBM K "list" rPopAt (tDGet (tVar 0) (tC (.str "large"))) (tCons (tC (.int 0)) tNil)))) (t_draw_1 K)
section
variable {K : PySem.W.Frag} {st lg cs : Addr} {m n : Nat} {H H1 : Hp} {large cells : List Nat} {r t : Nat} {D : Ends}
abbrev natL (l : List Nat) : List V := l.map fun x : Nat => V.int (x : Int)
theorem mod_nat (x : Int) {m : Nat} (hm : 0 < m) : ∃ r : Nat, r < m ∧ x % (m : Int) = (r : Int) := by
  have h1 := Int.emod_nonneg x (show (m : Int) ≠ 0 by omega)
  have h2 := Int.emod_lt_of_pos x (show (0 : Int) < (m : Int) by omega)
  exact ⟨(x % (m : Int)).toNat, by omega, by omega⟩
/-- the last row -/
theorem pure_draw_6 {v3 : Option V} {mx : Nat} (hm : 0 < m) (ht : t < 2 ^ 41) (hx : mx < 2147483629) (k : ∀ r : Nat, r < m → D.rt (.int (r : Int)) H1) :
    t_draw_6 K D [some (.ref st), some (.int (m : Int)), some (.int (t : Int)), v3, some (.int (mx : Int)), none] H1 := by
  refine ⟨_, rfl, _, rfl, _, _, rfl, rfl, Or.inl ⟨by decide, by decide⟩, _, _, rfl, rfl, _, _, rfl, rfl, ⟨by decide, by decide, by omega⟩, Or.inl ⟨_, rfl, _, _, rfl, rfl, (by show (0 : Int) < 2147483579; decide), _, _, rfl, rfl, ⟨by decide, by decide⟩, Or.inl ⟨_, rfl, _, rfl, _, _, rfl, rfl, by omega, ?_⟩⟩⟩
  obtain ⟨r, hr, e⟩ := mod_nat (((mx : Int) + 104917 * (t : Int)) ^ (Int.toNat 5) % 2147483579 / 29) hm
  show D.rt (.int (((mx : Int) + 104917 * (t : Int)) ^ (Int.toNat 5) % 2147483579 / 29 % (m : Int))) H1
  rw [e]
  exact k r hr
/-- behind the loop, no rest: the turn's own number -/
theorem pure_draw_5 {v : Nat} (hm : 0 < m) (ht : t < 2 ^ 41) (k : ∀ r : Nat, r < m → D.rt (.int (r : Int)) H1) :
    t_draw_5 K D [some (.ref st), some (.int (m : Int)), some (.int (t : Int)), some (.int (v : Int)), none, none] H1 := by
  refine ⟨_, rfl, Or.inl ⟨_, rfl, _, _, rfl, rfl, (by show (0 : Int) < 2147483563; decide), _, rfl, _, _, rfl, rfl, Or.inl ⟨by decide, by decide⟩, _, _, rfl, rfl, _, _, rfl, rfl, _, _, rfl, rfl, ⟨by decide, by decide, ?_⟩, Or.inl ⟨_, rfl, _, _, rfl, rfl, (by show (0 : Int) < 2147483629; decide), ?_⟩⟩⟩
  · have h1 := Int.emod_nonneg (v : Int) (show (2147483563 : Int) ≠ 0 by omega)
    have h2 := Int.emod_lt_of_pos (v : Int) (show (0 : Int) < 2147483563 by omega)
    omega
  · obtain ⟨mx, hx, e⟩ := mod_nat (((v : Int) % 2147483563 + 40692 * (t : Int) + 24681) ^ (Int.toNat 3)) (m := 2147483629) (by decide)
    show t_draw_6 K D [some (.ref st), some (.int (m : Int)), some (.int (t : Int)), some (.int (v : Int)), some (.int (((v : Int) % 2147483563 + 40692 * (t : Int) + 24681) ^ (Int.toNat 3) % 2147483629)), none] H1
    rw [show (2147483629 : Int) = ((2147483629 : Nat) : Int) from rfl, e]
    exact pure_draw_6 hm ht hx k
theorem pure_draw_4 (hm : 0 < m) (ht : t < 2 ^ 41) (h1 : H st = some (.dK (stK lg cs (r : Int) (t : Int)))) (h3 : H cs = some (.lst (natL cells))) (hc : cells.length ≤ 1000)
    (k : ∀ (r : Nat) (p : Addr), r < m → H p = none → D.rt (.int (r : Int)) (upd H p (.lst []))) :
    t_draw_4 K D [some (.ref st), some (.int (m : Int)), some (.int (t : Int)), none, none, none] H := by
  refine ⟨_, rfl, st, _, rfl, get_cells h1, sz0, fun p hp => ?_⟩
  have npc : cs ≠ p := ne_of_none h3 hp
  have nps : st ≠ p := ne_of_none h1 hp
  have g3 : upd H p (.lst []) cs = some (.lst (natL cells)) := by rw [upd_ne npc]; exact h3
  have g1 : upd H p (.lst []) st = some (.dK (stK lg cs (r : Int) (t : Int))) := by rw [upd_ne nps]; exact h1
  refine ne_nil g3 upd_same ⟨_, rfl, ite_b (fun hb => ?_) (fun _ => ?_)⟩
  · have hl : 0 < cells.length := by
      cases cells with
      | nil => cases hb
      | cons x l => exact Nat.succ_pos _
    refine ⟨_, rfl, st, _, rfl, get_cells g1, _, rfl, Or.inl ⟨_, rfl, _, rfl, st, _, rfl, get_cells g1, _, _, rfl, Or.inl ⟨_, SqL.of g3, rfl⟩, _, _, rfl, rfl, ?_, ?_⟩⟩
    · rw [List.length_map]
      omega
    · rw [List.length_map]
      obtain ⟨j, hj, e⟩ := mod_nat (t : Int) hl
      show rIxL K (.ref cs) (.int ((t : Int) % (cells.length : Int))) _ _
      rw [e]
      have hi : (natL cells)[j]? = some (.int ((cells[j] : Nat) : Int)) := by rw [List.getElem?_map, List.getElem?_eq_getElem hj]; rfl
      exact ⟨cs, _, _, _, rfl, rfl, SqL.of g3, atI_nat hi, pure_draw_5 hm ht fun r hr => k r p hr hp⟩
  · exact pure_draw_5 (v := 0) hm ht fun r hr => k r p hr hp
/-- behind the loop -/
theorem pure_draw_1 (hm : 0 < m) (hm2 : m < 2 ^ 100) (hn : n < 2 ^ 40) (ht : t ≤ n) (hl : large.length ≤ 1000) (hc : cells.length ≤ 1000) (nlc : lg ≠ cs) (h1 : H1 st = some (.dK (stK lg cs (r : Int) (t : Int)))) (h2 : H1 lg = some (.lst (natL large))) (h3 : H1 cs = some (.lst (natL cells)))
    (hb : But H H1 st lg) (k : ∀ (r : Nat) (H' : Hp), r < m → Src H' st lg cs (n + 1) → But H H' st lg → D.rt (.int (r : Int)) H') :
    t_draw_1 K D [some (.ref st), some (.int (m : Int)), none, none, none, none] H1 := by
  have nsl : st ≠ lg := ne_dl h1 h2
  have nsc : st ≠ cs := ne_dl h1 h3
  refine ⟨_, rfl, st, _, rfl, get_rest h1, _, _, rfl, rfl, _, rfl, ite2 (fun hp => ?_) (fun hp => ?_)⟩
  · refine ⟨_, rfl, st, _, rfl, get_rest h1, Or.inl ⟨_, rfl, _, rfl, _, _, rfl, rfl, by omega, ?_⟩⟩
    refine ⟨_, rfl, st, _, rfl, get_rest h1, _, rfl, _, _, rfl, rfl, wide_div (b := 100) (by omega) (by omega) (by decide) (by decide), ?_⟩
    refine ⟨_, rfl, st, _, rfl, dput_rest h1, ?_⟩
    refine ⟨_, rfl, ?_⟩
    obtain ⟨v, hv, e⟩ := mod_nat (r : Int) hm
    show D.rt (.int ((r : Int) % (m : Int))) _
    rw [e]
    refine k v _ hv ⟨⟨large, cells, r / m, t, ?_, ?_, ?_, by omega, hl, hc⟩, nlc⟩ hb.st
    · rw [upd_same, ← Int.natCast_ediv]
    · rw [upd_ne nsl.symm]
      exact h2
    · rw [upd_ne nsc.symm]
      exact h3
  · refine ⟨_, rfl, st, _, rfl, get_turn h1, _, _, rfl, rfl, ?_⟩
    refine ⟨_, rfl, _, rfl, st, _, rfl, dput_turn h1, ?_⟩
    have e : (t : Int) + 1 = ((t + 1 : Nat) : Int) := by omega
    show t_draw_4 K D [some (.ref st), some (.int (m : Int)), some (.int ((t : Int) + 1)), none, none, none] (upd H1 st (.dK (stK lg cs (r : Int) ((t : Int) + 1))))
    rw [e]
    refine pure_draw_4 (cells := cells) (t := t + 1) hm (by omega) upd_same (by rw [upd_ne nsc.symm]; exact h3) hc fun v p hv hp => ?_
    have q1 : st ≠ p := ne_of_none upd_same hp
    have q2 : lg ≠ p := ne_of_none (o := .lst (natL large)) (by rw [upd_ne nsl.symm]; exact h2) hp
    have q3 : cs ≠ p := ne_of_none (o := .lst (natL cells)) (by rw [upd_ne nsc.symm]; exact h3) hp
    refine k v _ hv ⟨⟨large, cells, r, t + 1, ?_, ?_, ?_, by omega, hl, hc⟩, nlc⟩ (hb.st.new hp)
    · rw [upd_ne q1, upd_same]
    · rw [upd_ne q2, upd_ne nsl.symm]
      exact h2
    · rw [upd_ne q3, upd_ne nsc.symm]
      exact h3
theorem pure_draw (vs : List V) (H : Hp) (Q : VK) (E : XK) (h : spDraw vs H Q E) : t_draw_0 K { nx := fun _ H' => Q .non H', rt := Q } (start ["_law_state", "_law_many", "_law_turn", "_law_cell", "_law_mixed", "_law_found"] vs) H := by
  obtain ⟨st, lg, cs, m, n, rfl, hm, hm2, hn, S, k⟩ := h
  have nlc := S.nlc
  -- while the rest is 0 and there are large ones
  refine ⟨fun mm σ H' => ∃ (large cells : List Nat) (r t : Nat), σ = [some (.ref st), some (.int (m : Int)), none, none, none, none] ∧ mm = large.length ∧ H' st = some (.dK (stK lg cs (r : Int) (t : Int))) ∧
    H' lg = some (.lst (natL large)) ∧ H' cs = some (.lst (natL cells)) ∧ t ≤ n ∧ large.length ≤ 1000 ∧ cells.length ≤ 1000 ∧ But H H' st lg, ?_, fun mm σ H' hW => ?_⟩
  · obtain ⟨large, cells, r, t, h1, h2, h3, h4, h5, h6⟩ := S.ex
    exact ⟨_, large, cells, r, t, rfl, rfl, h1, h2, h3, h4, h5, h6, But.refl⟩
  · obtain ⟨large, cells, r, t, rfl, rfl, h1, h2, h3, h4, h5, h6, hb⟩ := hW
    have nsl : st ≠ lg := ne_dl h1 h2
    have nsc : st ≠ cs := ne_dl h1 h3
    refine ⟨_, rfl, st, _, rfl, get_rest h1, rfl, _, rfl, ?_⟩
    by_cases e0 : r = 0
    · subst e0
      refine ite_t (c := V.int ((0 : Nat) : Int) = V.int 0) rfl ?_
      refine ⟨_, rfl, st, _, rfl, get_large h1, sz0, fun p hp => ?_⟩
      have npl : p ≠ lg := (ne_of_none h2 hp).symm
      have nps : p ≠ st := (ne_of_none h1 hp).symm
      have npc : p ≠ cs := (ne_of_none h3 hp).symm
      have b1 : But H (upd H' p (.lst [])) st lg := hb.new hp
      have g1 : upd H' p (.lst []) st = some (.dK (stK lg cs ((0 : Nat) : Int) (t : Int))) := by rw [upd_ne nps.symm]; exact h1
      have g2 : upd H' p (.lst []) lg = some (.lst (natL large)) := by rw [upd_ne npl.symm]; exact h2
      have g3 : upd H' p (.lst []) cs = some (.lst (natL cells)) := by rw [upd_ne npc.symm]; exact h3
      refine ne_nil g2 upd_same ⟨_, rfl, ?_⟩
      cases large with
      | nil =>
        refine iteF ?_
        exact pure_draw_1 hm hm2 hn h4 h5 h6 nlc g1 g2 g3 b1 k
      | cons x l =>
        refine iteT ?_
        refine ⟨fun σ' H2 => ∃ r', σ' = [some (.ref st), some (.int (m : Int)), none, none, none, none] ∧ H2 st = some (.dK (stK lg cs ((r' : Nat) : Int) (t : Int))) ∧ H2 lg = some (.lst (natL l)) ∧ H2 cs = some (.lst (natL cells)) ∧ But H H2 st lg, ?_, ?_⟩
        · rintro σ' H2 ⟨r', rfl, f1, f2, f3, f4⟩
          exact ⟨l.length, by simp, l, cells, r', t, rfl, rfl, f1, f2, f3, h4, by simp at h5; omega, h6, f4⟩
        · refine ⟨_, rfl, st, _, rfl, get_large g1, .inl ⟨rfl, _, SqL.of g2⟩, lg, _, 0, 0, V.int (x : Int), rfl, rfl, g2, by decide, by decide, by simp [seqIndex?], rfl, ?_⟩
          refine ⟨_, rfl, st, _, rfl, dput_rest (y := (x : Int)) (by rw [upd_ne nsl]; exact g1), ?_⟩
          refine ⟨x, rfl, upd_same, ?_, ?_, (b1.lg).st⟩
          · rw [upd_ne nsl.symm, upd_same]
            rfl
          · rw [upd_ne nsc.symm, upd_ne nlc.symm]
            exact g3
    · refine ite_f (c := V.int (r : Int) = V.int 0) (fun z => e0 (by injection z with z; omega)) ?_
      exact pure_draw_1 hm hm2 hn h4 h5 h6 nlc h1 h2 h3 hb k
end
def t_begun_1 (K : PySem.W.Frag) : TS := (tRet (tDisp [((tC (.str "large")), (tLc (iList K (tVar 1)) (gName 2) (tTest (tOp rGeI (tVar 2) (tOp rPowI (tC (.int 10)) (tC (.int 18))))) (tOp rSubI (tVar 2) (tOp rPowI (tC (.int 10)) (tC (.int 18)))) [2])), ((tC (.str "cells")), (tVar 1)), ((tC (.str "rest")), (tC (.int 0))), ((tC (.str "turn")), (tC (.int 0)))]))
def t_begun_0 (K : PySem.W.Frag) : TS := tSeq (tAsg (tLc (iList K (tVar 0)) (gName 2) tYes (tCB cAbs (tCons (tVar 2) tNil)) [2]) (gName 1)) (t_begun_1 K)
def t_pick_0 (K : PySem.W.Frag) : TS := (tRet (tOp (rIxL K) (tVar 1) (tCall spDraw [] E0 (tCons (tVar 0) (tCons (tCB (cLen K) (tCons (tVar 1) tNil)) tNil)))))
/-- the source is made of the script -/
def spBegun (K : PySem.W.Frag) : Sp := fun vs H Q _ => ∃ (a : Addr) (ns : List Int), vs = [.ref a] ∧ SqL K H a (ns.map V.int) ∧ ns.length ≤ 1000 ∧
  ∀ (st lg cs : Addr) (H' : Hp), H st = none → H lg = none → Src H' st lg cs 0 → Evl.Ex H H' → Q (.ref st) H'
section
open Evl
variable {K : PySem.W.Frag} {H : Hp}
def absV : V → V
  | .int i => .int (if i < 0 then -i else i)
  | x => x
def bigV : V → Option V
  | .int i => if 1000000000000000000 ≤ i then some (.int (i - 1000000000000000000)) else none
  | _ => none
theorem abs_nat (ns : List Int) : (ns.map V.int).map absV = natL (ns.map Int.natAbs) := by
  rw [List.map_map]
  show _ = (ns.map Int.natAbs).map fun x : Nat => V.int (x : Int)
  rw [List.map_map]
  refine List.map_congr_left fun i _ => ?_
  show V.int (if i < 0 then -i else i) = V.int ((i.natAbs : Nat) : Int)
  congr 1
  split <;> omega
theorem big_nat : ∀ ns : List Nat, (natL ns).filterMap bigV = natL (ns.filterMap fun n => if 1000000000000000000 ≤ n then some (n - 1000000000000000000) else none)
  | [] => rfl
  | n :: r => by
    have ih := big_nat r
    show List.filterMap bigV (V.int (n : Int) :: natL r) = _
    rw [List.filterMap_cons, List.filterMap_cons]
    by_cases h : 1000000000000000000 ≤ n
    · rw [if_pos h, show bigV (V.int (n : Int)) = some (V.int ((n - 1000000000000000000 : Nat) : Int)) by
        show (if (1000000000000000000 : Int) ≤ (n : Int) then some (V.int ((n : Int) - 1000000000000000000)) else none) = _
        rw [if_pos (by omega)]
        congr 2
        omega]
      show _ :: _ = natL (_ :: _)
      rw [ih]
      rfl
    · rw [if_neg h, show bigV (V.int (n : Int)) = none by
        show (if (1000000000000000000 : Int) ≤ (n : Int) then some (V.int ((n : Int) - 1000000000000000000)) else none) = _
        rw [if_neg (by omega)]]
      exact ih
theorem ev_ten {σ : L2.St} : Ev (tOp rPowI (tC (.int 10)) (tC (.int 18))) σ H (.int 1000000000000000000) := by
  have h : RV rPowI (.int 10) (.int 18) H (.int ((10 : Int) ^ (Int.toNat 18))) := rv_I ⟨by decide, by decide, by decide⟩
  exact ev_op ev_c ev_c h
theorem pairs_cons {tk tv : TE} {r : List (TE × TE)} {σ : L2.St} {Q : List (V × V) → Hp → Prop} (h : tk σ H fun x H1 => tv σ H1 fun y H2 => tPairs r σ H2 fun ps H3 => Q ((x, y) :: ps) H3) : tPairs ((tk, tv) :: r) σ H Q := by
  unfold tPairs
  exact h
theorem pairs_nil {σ : L2.St} {Q : List (V × V) → Hp → Prop} (h : Q [] H) : tPairs [] σ H Q := by
  unfold tPairs
  exact h
theorem tc_go {v : V} {σ : L2.St} {Q : VK} (h : Q v H) : tC v σ H Q := h
theorem stK_merge {lg cs : Addr} {r t : Int} : mergeK [] (stK lg cs r t) = stK lg cs r t := by
  have a1 : putK ([] : List (Key × V)) (Sum.inr ("large" : Str)) (.ref lg) = [(Sum.inr ("large" : Str), .ref lg)] := rfl
  have a2 : putK [((Sum.inr ("large" : Str) : Key), V.ref lg)] (Sum.inr ("cells" : Str)) (.ref cs) = [(Sum.inr ("large" : Str), .ref lg), (Sum.inr ("cells" : Str), .ref cs)] := putK_new _ (by rw [valV_neg ne_lc]; rfl)
  have a3 : putK [((Sum.inr ("large" : Str) : Key), V.ref lg), (Sum.inr ("cells" : Str), .ref cs)] (Sum.inr ("rest" : Str)) (.int r) = [(Sum.inr ("large" : Str), .ref lg), (Sum.inr ("cells" : Str), .ref cs), (Sum.inr ("rest" : Str), .int r)] := putK_new _ (by rw [valV_neg ne_lr, valV_neg ne_cr]; rfl)
  have a4 : putK [((Sum.inr ("large" : Str) : Key), V.ref lg), (Sum.inr ("cells" : Str), .ref cs), (Sum.inr ("rest" : Str), .int r)] (Sum.inr ("turn" : Str)) (.int t) = stK lg cs r t := putK_new _ (by rw [valV_neg ne_lt, valV_neg ne_ct, valV_neg ne_rt]; rfl)
  show putK (putK (putK (putK ([] : List (Key × V)) (Sum.inr ("large" : Str)) (.ref lg)) (Sum.inr ("cells" : Str)) (.ref cs)) (Sum.inr ("rest" : Str)) (.int r)) (Sum.inr ("turn" : Str)) (.int t) = _
  rw [a1, a2, a3, a4]
theorem pure_begun (vs : List V) (H : Hp) (Q : VK) (E : XK) (h : spBegun K vs H Q E) : t_begun_0 K { nx := fun _ H' => Q .non H', rt := Q } (start ["_law_script", "_law_cells", "_law_cell"] vs) H := by
  obtain ⟨a, ns, rfl, hS, hl, k⟩ := h
  refine s_asgL (el_mp (xs := ns.map V.int) absV (ev_var rfl) hS (by rw [List.length_map]; omega) (fun x => rfl) (fun x H1 e hx => ?_)) fun cs H1 hcs e1 h1 => ?_
  · obtain ⟨i, _, rfl⟩ := List.mem_map.mp hx
    exact ev_abs (ev_var rfl)
  · rw [abs_nat] at h1
    show t_begun_1 K _ [some (.ref a), some (.ref cs), none] H1
    intro st hst
    have e2 : Ex H1 (upd H1 st (.dK [])) := Ex.new hst
    have hcst : cs ≠ st := ne_of_none h1 hst
    have g1 : upd H1 st (.dK []) cs = some (.lst (natL (ns.map Int.natAbs))) := e2 _ _ h1
    have L : EvL (tLc (iList K (tVar 1)) (gName 2) (tTest (tOp rGeI (tVar 2) (tOp rPowI (tC (.int 10)) (tC (.int 18))))) (tOp rSubI (tVar 2) (tOp rPowI (tC (.int 10)) (tC (.int 18)))) [2]) [some (.ref a), some (.ref cs), none] (upd H1 st (.dK [])) ((natL (ns.map Int.natAbs)).filterMap bigV) := by
      refine el_fm bigV (ev_var rfl) (SqL.of g1) (by rw [List.length_map, List.length_map]; omega) (fun x => rfl) (fun x H2 e hx => ?_) (fun x y H2 e hx hf => ?_)
      · obtain ⟨i, _, rfl⟩ := List.mem_map.mp hx
        have q : (bigV (V.int (i : Int))).isSome = decide ((1000000000000000000 : Int) ≤ (i : Int)) := by
          show (if (1000000000000000000 : Int) ≤ (i : Int) then some (V.int ((i : Int) - 1000000000000000000)) else none).isSome = _
          by_cases h : (1000000000000000000 : Int) ≤ (i : Int)
          · rw [if_pos h, decide_eq_true h]
            rfl
          · rw [if_neg h, decide_eq_false h]
            rfl
        rw [q]
        exact et_test (ev_op (ev_var rfl) ev_ten rv_I0)
      · obtain ⟨i, _, rfl⟩ := List.mem_map.mp hx
        have q : y = .int ((i : Int) - 1000000000000000000) := by
          have hf' : (if (1000000000000000000 : Int) ≤ (i : Int) then some (V.int ((i : Int) - 1000000000000000000)) else none) = some y := hf
          split at hf'
          · exact (Option.some.inj hf').symm
          · cases hf'
        rw [q]
        exact ev_op (ev_var rfl) ev_ten rv_I0
    refine pairs_cons (tc_go (L _ (Ex.refl _) _ fun lg H2 hlg e3 h3 => ?_))
    rw [big_nat] at h3
    have hst2 : H2 st = some (.dK []) := e3 _ _ upd_same
    have hcs2 : H2 cs = some (.lst (natL (ns.map Int.natAbs))) := e3 _ _ g1
    have nls : lg ≠ st := fun z => by rw [z, upd_same] at hlg; cases hlg
    have nlc : lg ≠ cs := fun z => by rw [z, g1] at hlg; cases hlg
    refine pairs_cons (tc_go ⟨_, rfl, pairs_cons (tc_go (tc_go (pairs_cons (tc_go (tc_go (pairs_nil ?_))))))⟩)
    refine ⟨hst2, stK lg cs 0 0, rfl, by show 4 ≤ 15; decide, ?_⟩
    have hH1 : H1 st = none := hst
    have hlg1 : H lg = none := by
      cases q : H lg with
      | none => rfl
      | some o =>
        have z := e2 lg o (e1 lg o q)
        rw [hlg] at z
        cases z
    refine k st lg cs _ (fresh_back e1 hst) hlg1 ⟨⟨(ns.map Int.natAbs).filterMap (fun n => if 1000000000000000000 ≤ n then some (n - 1000000000000000000) else none), ns.map Int.natAbs, 0, 0, ?_, ?_, ?_, Nat.le_refl 0, ?_, ?_⟩, nlc⟩ (Ex.mut ((e1.trans e2).trans e3) (fresh_back e1 hst))
    · rw [upd_same, stK_merge]
      rfl
    · rw [upd_ne nls]
      exact h3
    · rw [upd_ne hcst]
      exact hcs2
    · refine Nat.le_trans (List.length_filterMap_le _ _) ?_
      rw [List.length_map]
      exact hl
    · rw [List.length_map]
      exact hl
/-- one of several -/
def spPick (K : PySem.W.Frag) : Sp := fun vs H Q _ => ∃ (st lg cs p : Addr) (xs : List V) (n : Nat), vs = [.ref st, .ref p] ∧ SqL K H p xs ∧ p ≠ st ∧ p ≠ lg ∧ 0 < xs.length ∧ xs.length ≤ 100000 ∧ n < 2 ^ 40 ∧ Src H st lg cs n ∧
  ∀ (x : V) (H' : Hp), x ∈ xs → Src H' st lg cs (n + 1) → But H H' st lg → Q x H'
theorem But.seq {H H' : Hp} {st lg p : Addr} {xs : List V} (b : But H H' st lg) (h : SqL K H p xs) (h1 : p ≠ st) (h2 : p ≠ lg) : SqL K H' p xs := by
  rcases h with (h | ⟨o, h⟩) | h
  · exact .inl (.inl (b _ _ h h1 h2))
  · exact .inl (.inr ⟨o, b _ _ h h1 h2⟩)
  · exact .inr h
theorem pure_pick (vs : List V) (H : Hp) (Q : VK) (E : XK) (h : spPick K vs H Q E) : t_pick_0 K { nx := fun _ H' => Q .non H', rt := Q } (start ["_law_state", "_law_several"] vs) H := by
  obtain ⟨st, lg, cs, p, xs, n, rfl, hp, n1, n2, hl0, hl, hn, S, k⟩ := h
  refine ⟨_, rfl, _, rfl, _, rfl, _, _, rfl, Or.inl ⟨_, hp, rfl⟩, ?_⟩
  refine ⟨st, lg, cs, xs.length, n, rfl, hl0, by omega, hn, S, fun r H' hr S' b => ?_⟩
  have hi : xs[r]? = some xs[r] := List.getElem?_eq_getElem hr
  exact ⟨p, xs, _, _, rfl, rfl, b.seq hp n1 n2, atI_nat hi, k _ H' (List.getElem_mem hr) S' b⟩
end
end Bw
/-! Bounds between points: the least ways of bounds, and that they are met. -/
namespace Bw
abbrev Mat := Nat → Nat → Option Int
def mn : Option Int → Option Int → Option Int
  | none, y => y
  | some x, none => some x
  | some x, some y => some (if y < x then y else x)
def ad : Option Int → Option Int → Option Int
  | some x, some y => some (x + y)
  | _, _ => none
/-- x ≤ y, none being beyond all -/
def Lo (x y : Option Int) : Prop := ∀ v, y = some v → ∃ u, x = some u ∧ u ≤ v
theorem Lo.refl {x : Option Int} : Lo x x := fun v h => ⟨v, h, Int.le_refl v⟩
theorem Lo.trans {x y z : Option Int} (a : Lo x y) (b : Lo y z) : Lo x z := fun v h => by
  obtain ⟨u, h1, l1⟩ := b v h
  obtain ⟨t, h2, l2⟩ := a u h1
  exact ⟨t, h2, by omega⟩
theorem mn_some {x y : Option Int} {v : Int} (h : mn x y = some v) : x = some v ∨ y = some v := by
  cases x with
  | none => exact Or.inr h
  | some p =>
    cases y with
    | none => exact Or.inl h
    | some q =>
      have e : (if q < p then q else p) = v := Option.some.inj h
      by_cases c : q < p
      · rw [if_pos c] at e; exact Or.inr (by rw [e])
      · rw [if_neg c] at e; exact Or.inl (by rw [e])
theorem mn_lo1 (x y : Option Int) : Lo (mn x y) x := fun v h => by
  subst h
  cases y with
  | none => exact ⟨v, rfl, Int.le_refl v⟩
  | some q =>
    refine ⟨if q < v then q else v, rfl, ?_⟩
    split <;> omega
theorem mn_lo2 (x y : Option Int) : Lo (mn x y) y := fun v h => by
  subst h
  cases x with
  | none => exact ⟨v, rfl, Int.le_refl v⟩
  | some q =>
    refine ⟨if v < q then v else q, rfl, ?_⟩
    split <;> omega
theorem ad_some {x y : Option Int} {v : Int} (h : ad x y = some v) : ∃ p q, x = some p ∧ y = some q ∧ v = p + q := by
  cases x with
  | none => exact nomatch h
  | some p =>
    cases y with
    | none => exact nomatch h
    | some q => exact ⟨p, q, rfl, rfl, (Option.some.inj h).symm⟩
theorem ad_of {x y : Option Int} {p q : Int} (h1 : x = some p) (h2 : y = some q) : ad x y = some (p + q) := by rw [h1, h2]; rfl
def NonNeg (x : Option Int) : Prop := ∀ v, x = some v → 0 ≤ v
/-- one more point in the middle -/
def fwS (m : Nat) (M : Mat) : Mat := fun a b => mn (M a b) (ad (M a m) (M m b))
def Tri (N k : Nat) (M : Mat) : Prop := ∀ a b c, a < N → b < N → c < k → Lo (M a b) (ad (M a c) (M c b))
theorem tri_get {N k : Nat} {M : Mat} (t : Tri N k M) {a b c : Nat} (ha : a < N) (hb : b < N) (hc : c < k) {p q : Int} (h1 : M a c = some p) (h2 : M c b = some q) : ∃ u, M a b = some u ∧ u ≤ p + q := t a b c ha hb hc _ (ad_of h1 h2)
theorem fwS_lo (m : Nat) (M : Mat) (a b : Nat) : Lo (fwS m M a b) (M a b) := mn_lo1 _ _
theorem fwS_mid {m : Nat} {M : Mat} {a b : Nat} {p q : Int} (h1 : M a m = some p) (h2 : M m b = some q) : ∃ u, fwS m M a b = some u ∧ u ≤ p + q := mn_lo2 _ _ _ (ad_of h1 h2)
theorem fwS_some {m : Nat} {M : Mat} {a b : Nat} {v : Int} (h : fwS m M a b = some v) : M a b = some v ∨ ∃ p q, M a m = some p ∧ M m b = some q ∧ v = p + q := by
  rcases mn_some h with e | e
  · exact Or.inl e
  · exact Or.inr (ad_some e)
theorem tri_step {N k : Nat} {M : Mat} (hk : k < N) (t : Tri N k M) (nn : NonNeg (M k k)) : Tri N (k + 1) (fwS k M) := by
  intro a b c ha hb hc v hv
  obtain ⟨x, y, hx, hy, rfl⟩ := ad_some hv
  by_cases e : c = k
  · subst e
    -- M' a c is M a c, M' c b is M c b
    have h1 : ∃ p, M a c = some p ∧ p ≤ x := by
      rcases fwS_some hx with q | ⟨p, q, h1, h2, rfl⟩
      · exact ⟨x, q, Int.le_refl _⟩
      · exact ⟨p, h1, by have := nn q h2; omega⟩
    have h2 : ∃ q, M c b = some q ∧ q ≤ y := by
      rcases fwS_some hy with q | ⟨p, q, h1, h2, rfl⟩
      · exact ⟨y, q, Int.le_refl _⟩
      · exact ⟨q, h2, by have := nn p h1; omega⟩
    obtain ⟨p, h1, l1⟩ := h1
    obtain ⟨q, h2, l2⟩ := h2
    obtain ⟨u, hu, l⟩ := fwS_mid h1 h2
    exact ⟨u, hu, by omega⟩
  · have hc' : c < k := by omega
    rcases fwS_some hx with h1 | ⟨p1, q1, h1, h2, rfl⟩ <;> rcases fwS_some hy with h3 | ⟨p2, q2, h3, h4, rfl⟩
    · obtain ⟨u, hu, l⟩ := tri_get t ha hb hc' h1 h3
      obtain ⟨w, hw, l2⟩ := fwS_lo k M a b u hu
      exact ⟨w, hw, by omega⟩
    · obtain ⟨u, hu, l⟩ := tri_get t ha hk hc' h1 h3
      obtain ⟨w, hw, l2⟩ := fwS_mid hu h4
      exact ⟨w, hw, by omega⟩
    · obtain ⟨u, hu, l⟩ := tri_get t hk hb hc' h2 h3
      obtain ⟨w, hw, l2⟩ := fwS_mid h1 hu
      exact ⟨w, hw, by omega⟩
    · obtain ⟨u, hu, l⟩ := tri_get t hk hk hc' h2 h3
      have z := nn u hu
      obtain ⟨w, hw, l2⟩ := fwS_mid h1 h4
      exact ⟨w, hw, by omega⟩
/-- s keeps all bounds -/
def Fits (N : Nat) (s : Nat → Int) (M : Mat) : Prop := ∀ a b x, a < N → b < N → M a b = some x → s a - s b ≤ x
theorem fits_step {N m : Nat} {s : Nat → Int} {M : Mat} (hm : m < N) (f : Fits N s M) : Fits N s (fwS m M) := by
  intro a b x ha hb hx
  rcases fwS_some hx with h | ⟨p, q, h1, h2, rfl⟩
  · exact f a b x ha hb h
  · have := f a m p ha hm h1
    have := f m b q hm hb h2
    omega
theorem fits_lo {N : Nat} {s : Nat → Int} {M M' : Mat} (h : ∀ a b, a < N → b < N → Lo (M' a b) (M a b)) (f : Fits N s M') : Fits N s M := by
  intro a b x ha hb hx
  obtain ⟨u, hu, l⟩ := h a b ha hb x hx
  have := f a b u ha hb hu
  omega
structure Fwi (N : Nat) (D0 : Mat) (k : Nat) (M : Mat) : Prop where
  tri : Tri N k M
  nn : ∀ a, a < k → NonNeg (M a a)
  dg : ∀ a, a < N → ∃ u, M a a = some u ∧ u ≤ 0
  sound : ∀ s, Fits N s D0 → Fits N s M
  lo : ∀ a b, a < N → b < N → Lo (M a b) (D0 a b)
theorem fwi_start {N : Nat} {D0 : Mat} (h : ∀ a, a < N → D0 a a = some 0) : Fwi N D0 0 D0 where
  tri := fun a b c _ _ hc => absurd hc (Nat.not_lt_zero c)
  nn := fun a ha => absurd ha (Nat.not_lt_zero a)
  dg := fun a ha => ⟨0, h a ha, Int.le_refl _⟩
  sound := fun s f => f
  lo := fun a b _ _ => Lo.refl
theorem fwi_step {N k : Nat} {D0 M : Mat} (I : Fwi N D0 k M) (hk : k < N) (nn : NonNeg (M k k)) : Fwi N D0 (k + 1) (fwS k M) where
  tri := tri_step hk I.tri nn
  nn := by
    intro a ha v hv
    rcases fwS_some hv with h | ⟨p, q, h1, h2, rfl⟩
    · by_cases e : a = k
      · subst e; exact nn v h
      · exact I.nn a (by omega) v h
    · by_cases e : a = k
      · subst e
        have := nn p h1
        have := nn q h2
        omega
      · have hak : a < k := by omega
        obtain ⟨u, hu, l⟩ := tri_get I.tri hk hk hak h2 h1
        have := nn u hu
        omega
  dg := fun a ha => by
    obtain ⟨u, hu, l⟩ := I.dg a ha
    obtain ⟨w, hw, l2⟩ := fwS_lo k M a a u hu
    exact ⟨w, hw, by omega⟩
  sound := fun s f => fits_step hk (I.sound s f)
  lo := fun a b ha hb => (fwS_lo k M a b).trans (I.lo a b ha hb)
structure Closed (N : Nat) (D : Mat) : Prop where
  dg : ∀ a, a < N → D a a = some 0
  tri : Tri N N D
theorem fwi_end {N : Nat} {D0 M : Mat} (I : Fwi N D0 N M) : Closed N M where
  dg := fun a ha => by
    obtain ⟨u, hu, l⟩ := I.dg a ha
    have := I.nn a ha u hu
    rw [hu, show u = 0 by omega]
  tri := I.tri
theorem fwi_neg {N k : Nat} {D0 M : Mat} (I : Fwi N D0 k M) (hk : k < N) {v : Int} (h : M k k = some v) (hv : v < 0) (s : Nat → Int) : ¬ Fits N s D0 := fun f => by
  have := I.sound s f k k v hk hk h
  omega
/-! ### closed bounds are met -/
/-- the least of a row -/
theorem row_min {N : Nat} (f : Nat → Option Int) (h : ∃ c, c < N ∧ ∃ v, f c = some v) : ∃ c v, c < N ∧ f c = some v ∧ ∀ d w, d < N → f d = some w → v ≤ w := by
  induction N with
  | zero => obtain ⟨c, hc, _⟩ := h; exact absurd hc (Nat.not_lt_zero c)
  | succ n ih =>
    by_cases g : ∃ c, c < n ∧ ∃ v, f c = some v
    · obtain ⟨c, v, hc, hv, hm⟩ := ih g
      cases e : f n with
      | none =>
        refine ⟨c, v, by omega, hv, fun d w hd hw => ?_⟩
        by_cases z : d = n
        · subst z; rw [e] at hw; exact nomatch hw
        · exact hm d w (by omega) hw
      | some x =>
        by_cases z : x < v
        · refine ⟨n, x, by omega, e, fun d w hd hw => ?_⟩
          by_cases z2 : d = n
          · subst z2; rw [e] at hw; cases hw; exact Int.le_refl _
          · have := hm d w (by omega) hw
            omega
        · refine ⟨c, v, by omega, hv, fun d w hd hw => ?_⟩
          by_cases z2 : d = n
          · subst z2; rw [e] at hw; cases hw; omega
          · exact hm d w (by omega) hw
    · obtain ⟨c, hc, v, hv⟩ := h
      have ec : c = n := Classical.byContradiction fun z => g ⟨c, by omega, v, hv⟩
      subst ec
      refine ⟨c, v, by omega, hv, fun d w hd hw => ?_⟩
      by_cases z2 : d = c
      · subst z2; rw [hv] at hw; cases hw; exact Int.le_refl _
      · exact absurd ⟨d, by omega, w, hw⟩ g
theorem feas {N : Nat} {D : Mat} (C : Closed N D) : ∃ t, Fits N t D := by
  have h : ∀ p, ∃ v : Int, p < N → (∃ c, c < N ∧ D p c = some v) ∧ ∀ d w, d < N → D p d = some w → v ≤ w := fun p => by
    by_cases hp : p < N
    · obtain ⟨c, v, hc, hv, hm⟩ := row_min (N := N) (D p) ⟨p, hp, 0, C.dg p hp⟩
      exact ⟨v, fun _ => ⟨⟨c, hc, hv⟩, hm⟩⟩
    · exact ⟨0, fun z => absurd z hp⟩
  refine ⟨fun p => Classical.choose (h p), fun a b x ha hb hx => ?_⟩
  obtain ⟨⟨c, hc, hv⟩, _⟩ := Classical.choose_spec (h b) hb
  obtain ⟨_, hm⟩ := Classical.choose_spec (h a) ha
  obtain ⟨u, hu, l⟩ := tri_get C.tri ha hc hb hx hv
  have := hm c u hc hu
  show Classical.choose (h a) - Classical.choose (h b) ≤ x
  omega
/-- something above all of f -/
theorem above (N : Nat) (f : Nat → Int) : ∃ M, ∀ p, p < N → f p ≤ M := by
  induction N with
  | zero => exact ⟨0, fun p hp => absurd hp (Nat.not_lt_zero p)⟩
  | succ n ih =>
    obtain ⟨M, h⟩ := ih
    by_cases z : f n ≤ M
    · refine ⟨M, fun p hp => ?_⟩
      by_cases e : p = n
      · subst e; exact z
      · exact h p (by omega)
    · refine ⟨f n, fun p hp => ?_⟩
      by_cases e : p = n
      · subst e; exact Int.le_refl _
      · have := h p (by omega)
        omega
theorem above2 (N : Nat) (f : Nat → Nat → Int) : ∃ M, ∀ p q, p < N → q < N → f p q ≤ M := by
  have h : ∀ p, ∃ M, ∀ q, q < N → f p q ≤ M := fun p => above N (f p)
  obtain ⟨M, hM⟩ := above N fun p => Classical.choose (h p)
  exact ⟨M, fun p q hp hq => Int.le_trans (Classical.choose_spec (h p) q hq) (hM p hp)⟩
/-- any distance up to the bound is met -/
theorem feas_at {N : Nat} {D : Mat} (C : Closed N D) {a b : Nat} (ha : a < N) (hb : b < N) {x : Int} (hx : ∀ v, D a b = some v → x ≤ v) : ∃ s, Fits N s D ∧ x ≤ s a - s b := by
  obtain ⟨t, ft⟩ := feas C
  obtain ⟨M, hM⟩ := above2 N fun p q => (D p b).getD 0 - (D p q).getD 0 - t q
  obtain ⟨s, es⟩ : ∃ s : Nat → Int, ∀ p, s p = match D p b with | some v => v | none => (if M < x - t a then x - t a else M) + t p := ⟨_, fun p => rfl⟩
  have sm : ∀ {p : Nat} {v : Int}, D p b = some v → s p = v := fun h => by rw [es, h]
  have no : ∀ {p : Nat}, D p b = none → s p = (if M < x - t a then x - t a else M) + t p := fun h => by rw [es, h]
  refine ⟨s, fun p q y hp hq hy => ?_, ?_⟩
  · cases ep : D p b with
    | none =>
      cases eq : D q b with
      | none =>
        rw [no ep, no eq]
        have := ft p q y hp hq hy
        omega
      | some w =>
        obtain ⟨u, hu, _⟩ := tri_get C.tri hp hb hq hy eq
        rw [ep] at hu
        exact nomatch hu
    | some v =>
      cases eq : D q b with
      | none =>
        rw [sm ep, no eq]
        have := hM p q hp hq
        rw [ep, hy] at this
        simp only [Option.getD_some] at this
        split <;> omega
      | some w =>
        rw [sm ep, sm eq]
        obtain ⟨u, hu, l⟩ := tri_get C.tri hp hb hq hy eq
        rw [ep] at hu
        cases hu
        omega
  · rw [sm (C.dg b hb)]
    cases ea : D a b with
    | none =>
      rw [no ea]
      split <;> omega
    | some v =>
      rw [sm ea]
      have := hx v ea
      omega
end Bw
/-! Rounds of shorter reaches: what was changed in the last of N rounds has a ring behind it. -/
namespace Bw
theorem pigeon : ∀ (N : Nat) (p : Nat → Nat), (∀ i, i ≤ N → p i < N) → ∃ i j, i < j ∧ j ≤ N ∧ p i = p j := by
  intro N
  induction N with
  | zero => intro p h; exact absurd (h 0 (Nat.le_refl 0)) (Nat.not_lt_zero _)
  | succ n ih =>
    intro p h
    by_cases g : ∃ i, i ≤ n ∧ p i = p (n + 1)
    · obtain ⟨i, hi, e⟩ := g
      exact ⟨i, n + 1, by omega, by omega, e⟩
    · have ne : ∀ i, i ≤ n → p i ≠ p (n + 1) := fun i hi e => g ⟨i, hi, e⟩
      obtain ⟨i, j, h1, h2, h3⟩ := ih (fun i => if p i = n then p (n + 1) else p i) fun i hi => by
        show (if p i = n then p (n + 1) else p i) < n
        have := h i (by omega)
        have := h (n + 1) (by omega)
        have := ne i hi
        split <;> omega
      refine ⟨i, j, h1, by omega, ?_⟩
      have h3' : (if p i = n then p (n + 1) else p i) = (if p j = n then p (n + 1) else p j) := h3
      have := ne i (by omega)
      have := ne j (by omega)
      split at h3' <;> split at h3' <;> omega
structure RSt where
  r : Nat → Int
  ah : Nat → Option Nat
  ch : Option Nat
abbrev Edge := Nat × Nat × Int
def setF {α : Type} (f : Nat → α) (b : Nat) (y : α) : Nat → α := fun x => if x = b then y else f x
theorem setF_same {α : Type} {f : Nat → α} {b : Nat} {y : α} : setF f b y b = y := if_pos rfl
theorem setF_ne {α : Type} {f : Nat → α} {b x : Nat} {y : α} (h : x ≠ b) : setF f b y x = f x := if_neg h
def relax (S : RSt) (e : Edge) : RSt := if S.r e.1 + e.2.2 < S.r e.2.1 then ⟨setF S.r e.2.1 (S.r e.1 + e.2.2), setF S.ah e.2.1 (some e.1), some e.2.1⟩ else S
def GoodE (N : Nat) (E : List Edge) : Prop := ∀ e ∈ E, e.1 < N ∧ e.2.1 < N ∧ e.1 ≠ e.2.1
/-- round k, the first m edges looked at; t tells in which round each was changed last, u when -/
structure RI0 (N : Nat) (E : List Edge) (k m : Nat) (S : RSt) (t u : Nat → Nat) (n : Nat) : Prop where
  tk : ∀ v, t v ≤ k
  un : ∀ v, u v ≤ n
  no : ∀ v, S.ah v = none → t v = 0
  ar : ∀ v a, S.ah v = some a → a < N ∧ v < N ∧ t v ≤ t a + 1 ∧ ∃ c, (a, v, c) ∈ E ∧ S.r a + c ≤ S.r v ∧ (u v ≤ u a → S.r a + c < S.r v)
  lo : ∀ i e, E[i]? = some e → i < m → S.r e.2.1 ≤ S.r e.1 + e.2.2 ∨ k ≤ t e.1
  hi : ∀ i e, E[i]? = some e → m ≤ i → S.r e.2.1 ≤ S.r e.1 + e.2.2 ∨ k ≤ t e.1 + 1
  chs : ∀ v, S.ch = some v → k ≤ t v ∧ v < N
  chn : S.ch = none → ∀ i e, E[i]? = some e → i < m → S.r e.2.1 ≤ S.r e.1 + e.2.2
def RI (N : Nat) (E : List Edge) (k m : Nat) (S : RSt) : Prop := ∃ t u n, RI0 N E k m S t u n
theorem ri_start {N : Nat} {E : List Edge} : RI N E 1 0 ⟨fun _ => 0, fun _ => none, none⟩ :=
  ⟨fun _ => 0, fun _ => 0, 0, fun _ => Nat.zero_le _, fun _ => Nat.le_refl _, fun _ _ => rfl, fun v a h => (nomatch h), fun i e _ h => absurd h (Nat.not_lt_zero _), fun i e _ _ => Or.inr (Nat.le_refl _), fun v h => (nomatch h), fun _ i e _ h => absurd h (Nat.not_lt_zero _)⟩
theorem ri_next {N k : Nat} {E : List Edge} {S : RSt} (h : RI N E k E.length S) : RI N E (k + 1) 0 ⟨S.r, S.ah, none⟩ := by
  obtain ⟨t, u, n, I⟩ := h
  refine ⟨t, u, n, fun v => Nat.le_succ_of_le (I.tk v), I.un, I.no, I.ar, fun i e _ h => absurd h (Nat.not_lt_zero _), fun i e he _ => ?_, fun v h => (nomatch h), fun _ i e _ h => absurd h (Nat.not_lt_zero _)⟩
  have hi : i < E.length := by
    rcases Nat.lt_or_ge i E.length with z | z
    · exact z
    · rw [List.getElem?_eq_none z] at he; exact nomatch he
  rcases I.lo i e he hi with h | h
  · exact Or.inl h
  · exact Or.inr (by omega)
theorem ri_step {N k m : Nat} {E : List Edge} {S : RSt} {e : Edge} (G : GoodE N E) (he : E[m]? = some e) (h : RI N E k m S) : RI N E k (m + 1) (relax S e) := by
  obtain ⟨t, u, n, I⟩ := h
  obtain ⟨a, b, c⟩ := e
  have hm : (a, b, c) ∈ E := List.mem_of_getElem? he
  obtain ⟨ha, hb, hab⟩ := G _ hm
  have ha : a < N := ha
  have hb : b < N := hb
  have hab : a ≠ b := hab
  by_cases g : S.r a + c < S.r b
  · have er : relax S (a, b, c) = ⟨setF S.r b (S.r a + c), setF S.ah b (some a), some b⟩ := if_pos g
    rw [er]
    have hk : k ≤ t a + 1 := by
      rcases I.hi m _ he (Nat.le_refl _) with z | z
      · have z : S.r b ≤ S.r a + c := z
        omega
      · exact z
    -- t never falls
    have tup : ∀ v, t v ≤ setF t b k v := fun v => by
      by_cases z : v = b
      · subst z; rw [setF_same]; exact I.tk v
      · rw [setF_ne z]; exact Nat.le_refl _
    have rdn : ∀ v, setF S.r b (S.r a + c) v ≤ S.r v := fun v => by
      by_cases z : v = b
      · subst z; rw [setF_same]; omega
      · rw [setF_ne z]; exact Int.le_refl _
    refine ⟨setF t b k, setF u b (n + 1), n + 1, fun v => ?_, fun v => ?_, fun v hv => ?_, fun v a' hv => ?_, fun i e hi hl => ?_, fun i e hi hl => ?_, fun v hv => ?_, fun z => nomatch z⟩
    · by_cases z : v = b
      · subst z; rw [setF_same]; exact Nat.le_refl _
      · rw [setF_ne z]; exact I.tk v
    · by_cases z : v = b
      · subst z; rw [setF_same]; exact Nat.le_refl _
      · rw [setF_ne z]; exact Nat.le_succ_of_le (I.un v)
    · by_cases z : v = b
      · subst z
        have hv : setF S.ah v (some a) v = none := hv
        rw [setF_same] at hv
        exact nomatch hv
      · have hv : setF S.ah b (some a) v = none := hv
        rw [setF_ne z] at hv
        rw [setF_ne z]
        exact I.no v hv
    · have hv : setF S.ah b (some a) v = some a' := hv
      show a' < N ∧ v < N ∧ setF t b k v ≤ setF t b k a' + 1 ∧ ∃ c', (a', v, c') ∈ E ∧ setF S.r b (S.r a + c) a' + c' ≤ setF S.r b (S.r a + c) v ∧ (setF u b (n + 1) v ≤ setF u b (n + 1) a' → setF S.r b (S.r a + c) a' + c' < setF S.r b (S.r a + c) v)
      by_cases z : v = b
      · subst z
        rw [setF_same] at hv
        cases hv
        refine ⟨ha, hb, ?_, c, hm, ?_, fun q => ?_⟩
        · rw [setF_same, setF_ne hab]; exact hk
        · rw [setF_same, setF_ne hab]; exact Int.le_refl _
        · rw [setF_same, setF_ne hab] at q
          have := I.un a
          omega
      · rw [setF_ne z] at hv
        obtain ⟨h1, h2, h3, c', h4, h5, h6⟩ := I.ar v a' hv
        refine ⟨h1, h2, ?_, c', h4, ?_, fun q => ?_⟩
        · have := tup a'
          rw [setF_ne z]
          omega
        · have := rdn a'
          rw [setF_ne z]
          omega
        · rw [setF_ne z] at q
          rw [setF_ne z]
          by_cases z2 : a' = b
          · rw [z2] at h5 ⊢
            rw [setF_same]
            omega
          · rw [setF_ne z2] at q
            rw [setF_ne z2]
            exact h6 q
    · show setF S.r b (S.r a + c) e.2.1 ≤ setF S.r b (S.r a + c) e.1 + e.2.2 ∨ k ≤ setF t b k e.1
      by_cases z : e.1 = b
      · exact Or.inr (by rw [z, setF_same]; exact Nat.le_refl _)
      · rw [setF_ne z, setF_ne z]
        by_cases zi : i = m
        · rw [zi, he] at hi
          cases hi
          show setF S.r b (S.r a + c) b ≤ S.r a + c ∨ _
          rw [setF_same]
          exact Or.inl (Int.le_refl _)
        · rcases I.lo i e hi (by omega) with q | q
          · have := rdn e.2.1
            exact Or.inl (by omega)
          · exact Or.inr q
    · show setF S.r b (S.r a + c) e.2.1 ≤ setF S.r b (S.r a + c) e.1 + e.2.2 ∨ k ≤ setF t b k e.1 + 1
      by_cases z : e.1 = b
      · exact Or.inr (by rw [z, setF_same]; omega)
      · rw [setF_ne z, setF_ne z]
        rcases I.hi i e hi (by omega) with q | q
        · have := rdn e.2.1
          exact Or.inl (by omega)
        · exact Or.inr q
    · have hv : some b = some v := hv
      cases hv
      exact ⟨by rw [setF_same]; exact Nat.le_refl _, hb⟩
  · have er : relax S (a, b, c) = S := if_neg g
    rw [er]
    refine ⟨t, u, n, I.tk, I.un, I.no, I.ar, fun i e hi hl => ?_, fun i e hi hl => I.hi i e hi (by omega), I.chs, fun z i e hi hl => ?_⟩
    · by_cases zi : i = m
      · rw [zi, he] at hi
        cases hi
        exact Or.inl (by show S.r b ≤ S.r a + c; omega)
      · exact I.lo i e hi (by omega)
    · by_cases zi : i = m
      · rw [zi, he] at hi
        cases hi
        show S.r b ≤ S.r a + c
        omega
      · exact I.chn z i e hi (by omega)
/-- nothing changed in a whole round: the reaches keep all -/
theorem ri_none {N k : Nat} {E : List Edge} {S : RSt} (h : RI N E k E.length S) (hc : S.ch = none) : ∀ e ∈ E, S.r e.2.1 ≤ S.r e.1 + e.2.2 := by
  obtain ⟨t, u, n, I⟩ := h
  intro e he
  obtain ⟨i, hi, e1⟩ := List.mem_iff_getElem.mp he
  exact I.chn hc i e (by rw [List.getElem?_eq_getElem hi, e1]) hi
/-- a ring behind v: the points met, hop by hop -/
structure Back (N : Nat) (E : List Edge) (S : RSt) (v : Nat) (p : Nat → Nat) (L : Nat) : Prop where
  p0 : p 0 = v
  lt : ∀ n, p n < N
  ah : ∀ n, S.ah (p n) = some (p (n + 1))
  pos : 0 < L
  le : L ≤ N
  per : ∀ n, N ≤ n → p (n + L) = p n
  dn : ∀ n, ∃ c, (p (n + 1), p n, c) ∈ E ∧ S.r (p (n + 1)) + c ≤ S.r (p n)
  st : ∀ i, N ≤ i → ∃ m, i ≤ m ∧ m < i + L ∧ ∃ c, (p (m + 1), p m, c) ∈ E ∧ S.r (p (m + 1)) + c < S.r (p m)
theorem max_at (f : Nat → Nat) (i : Nat) : ∀ L, ∃ m, i ≤ m ∧ m ≤ i + L ∧ ∀ x, i ≤ x → x ≤ i + L → f x ≤ f m
  | 0 => ⟨i, Nat.le_refl _, Nat.le_refl _, fun x h1 h2 => by rw [show x = i by omega]; exact Nat.le_refl _⟩
  | L + 1 => by
    obtain ⟨m, h1, h2, h3⟩ := max_at f i L
    by_cases z : f m ≤ f (i + L + 1)
    · refine ⟨i + L + 1, by omega, by omega, fun x q1 q2 => ?_⟩
      by_cases e : x = i + L + 1
      · rw [e]; exact Nat.le_refl _
      · have := h3 x q1 (by omega)
        omega
    · refine ⟨m, h1, by omega, fun x q1 q2 => ?_⟩
      by_cases e : x = i + L + 1
      · rw [e]; omega
      · exact h3 x q1 (by omega)
theorem ri_back {N : Nat} {E : List Edge} {S : RSt} {v : Nat} (h : RI N E N E.length S) (hc : S.ch = some v) : ∃ p L, Back N E S v p L := by
  obtain ⟨t, u, n, I⟩ := h
  obtain ⟨htv, hv⟩ := I.chs v hc
  obtain ⟨f, ef⟩ : ∃ f : Nat → Nat, ∀ x, f x = (S.ah x).getD 0 := ⟨_, fun _ => rfl⟩
  obtain ⟨p, p0, ps⟩ : ∃ p : Nat → Nat, p 0 = v ∧ ∀ n, p (n + 1) = f (p n) := ⟨fun n => Nat.rec v (fun _ x => f x) n, rfl, fun _ => rfl⟩
  have hop : ∀ x, 1 ≤ t x → S.ah x = some (f x) := fun x hx => by
    cases e : S.ah x with
    | none => have := I.no x e; omega
    | some a => rw [ef, e]; rfl
  have early : ∀ i, i ≤ N → p i < N ∧ N ≤ t (p i) + i := by
    intro i
    induction i with
    | zero => intro _; rw [p0]; exact ⟨hv, htv⟩
    | succ i ih =>
      intro hi
      obtain ⟨_, h2⟩ := ih (by omega)
      have e := hop (p i) (by omega)
      obtain ⟨q1, q2, q3, _⟩ := I.ar _ _ e
      rw [ps]
      exact ⟨q1, by omega⟩
  have hopN : ∀ i, i < N → S.ah (p i) = some (p (i + 1)) := fun i hi => by
    rw [ps]
    exact hop _ (by have := (early i (by omega)).2; omega)
  obtain ⟨i, j, hij, hj, e⟩ := pigeon N p fun i hi => (early i hi).1
  obtain ⟨L, eL⟩ : ∃ L, L = j - i := ⟨_, rfl⟩
  have perI : ∀ x, p (i + x + L) = p (i + x) := by
    intro x
    induction x with
    | zero => rw [show i + 0 + L = j by omega, show i + 0 = i by omega]; exact e.symm
    | succ x ih =>
      rw [show i + (x + 1) + L = i + x + L + 1 by omega, show i + (x + 1) = i + x + 1 by omega, ps, ps, ih]
  have per : ∀ n, i ≤ n → p (n + L) = p n := fun n hn => by
    have := perI (n - i)
    rw [show i + (n - i) = n by omega] at this
    exact this
  have hops : ∀ n, S.ah (p n) = some (p (n + 1)) := by
    intro n
    induction n using Nat.strongRecOn with
    | ind n ih =>
      by_cases z : n < N
      · exact hopN n z
      · have h1 := per (n - L) (by omega)
        have h2 := per (n - L + 1) (by omega)
        rw [show n - L + L = n by omega] at h1
        rw [show n - L + 1 + L = n + 1 by omega] at h2
        rw [h1, h2]
        exact ih (n - L) (by omega)
  have dn : ∀ n, ∃ c, (p (n + 1), p n, c) ∈ E ∧ S.r (p (n + 1)) + c ≤ S.r (p n) ∧ (u (p n) ≤ u (p (n + 1)) → S.r (p (n + 1)) + c < S.r (p n)) := fun n => by
    obtain ⟨_, _, _, c, h1, h2, h3⟩ := I.ar _ _ (hops n)
    exact ⟨c, h1, h2, h3⟩
  refine ⟨p, L, p0, fun n => (I.ar _ _ (hops n)).2.1, hops, by omega, by omega, fun n hn => per n (by omega), fun n => ?_, fun x hx => ?_⟩
  · obtain ⟨c, h1, h2, _⟩ := dn n
    exact ⟨c, h1, h2⟩
  · -- the one changed last
    obtain ⟨m, h1, h2, h3⟩ := max_at (fun y => u (p y)) (x + 1) (L - 1)
    refine ⟨m - 1, by omega, by omega, ?_⟩
    obtain ⟨c, q1, q2, q3⟩ := dn (m - 1)
    refine ⟨c, q1, q3 ?_⟩
    rw [show m - 1 + 1 = m by omega]
    by_cases z : m = x + 1
    · have hh := h3 (x + L) (by omega) (by omega)
      have hh : u (p (x + L)) ≤ u (p m) := hh
      rw [per x (by omega)] at hh
      rw [show m - 1 = x by omega]
      exact hh
    · exact h3 (m - 1) (by omega) (by omega)
/-- a ring: nothing fits -/
theorem back_unfit {N : Nat} {E : List Edge} {S : RSt} {v : Nat} {p : Nat → Nat} {L : Nat} (B : Back N E S v p L) (s : Nat → Int) (f : ∀ e ∈ E, s e.1 - s e.2.1 ≤ e.2.2) : False := by
  obtain ⟨w, ew⟩ : ∃ w : Nat → Int, ∀ n, w n = s (p n) + S.r (p n) := ⟨_, fun _ => rfl⟩
  have dn : ∀ n, w (n + 1) ≤ w n := fun n => by
    obtain ⟨c, h1, h2⟩ := B.dn n
    have h3 : s (p (n + 1)) - s (p n) ≤ c := f _ h1
    rw [ew, ew]
    omega
  have dns : ∀ d n, w (n + d) ≤ w n := by
    intro d
    induction d with
    | zero => intro n; exact Int.le_refl _
    | succ d ih =>
      intro n
      have h1 := ih n
      have h2 := dn (n + d)
      rw [show n + (d + 1) = n + d + 1 by omega]
      omega
  obtain ⟨m, h1, h2, c, h3, h4⟩ := B.st N (Nat.le_refl _)
  have h5 : s (p (m + 1)) - s (p m) ≤ c := f _ h3
  have h6 : w (m + 1) < w m := by rw [ew, ew]; omega
  have h7 := dns (m - N) N
  rw [show N + (m - N) = m by omega] at h7
  have h8 := dns (N + L - (m + 1)) (m + 1)
  rw [show m + 1 + (N + L - (m + 1)) = N + L by omega] at h8
  have h9 : w (N + L) = w N := by rw [ew, ew, B.per N (Nat.le_refl _)]
  omega
end Bw
/-! What the defs of the tables promise. -/
namespace Bw
open PySem PySem.Spec PyProof.Rows L2 Evl
abbrev cTupleOf (K : PySem.W.Frag) : List V → Hp → VK → Prop := fun xs H Q => ∃ p ys, xs = [.ref p] ∧ ((SqL K H p ys ∧ ∀ l, H l = none → Q (.ref l) (upd H l (.tup ys))) ∨ (SqT K H p ys ∧ Q (.ref p) H))
/-- the value and the heap behind -/
abbrev Post := V → Hp → Prop
/-- a promise that only lays new things -/
def spOf (Pre : List V → Hp → Post → Prop) : Sp := fun vs H Q _ => ∃ P : Post, Pre vs H P ∧ ∀ v H2, Ex H H2 → P v H2 → Q v H2
def isV (z : V) : Post := fun v _ => v = z
def isT (xs : List V) : Post := fun v H2 => ∃ p, v = .ref p ∧ H2 p = some (.tup xs)
def isL (xs : List V) : Post := fun v H2 => ∃ p, v = .ref p ∧ H2 p = some (.lst xs)
def EvP (te : TE) (σ : L2.St) (H : Hp) (P : Post) : Prop := ∀ H1, Ex H H1 → ∀ Q : VK, (∀ v H2, Ex H1 H2 → P v H2 → Q v H2) → te σ H1 Q
section
variable {K : PySem.W.Frag} {σ : L2.St} {H : Hp} {te : TE} {P : Post} {z : V} {D : Ends}
theorem evp_v (h : Ev te σ H z) : EvP te σ H (isV z) := fun H1 e Q q => h H1 e Q fun H2 e2 => q z H2 e2 rfl
theorem ev_of (h : EvP te σ H (isV z)) : Ev te σ H z := fun H1 e Q q => h H1 e Q fun v H2 e2 hv => by
  rw [show v = z from hv]
  exact q H2 e2
theorem evp_call {Pre : List V → Hp → Post → Prop} {E : XK} {ta : TA} {vs : List V} (h : EvA ta σ H vs) (hp : ∀ H1, Ex H H1 → Pre vs H1 P) : EvP (tCall (spOf Pre) [] E ta) σ H P := fun H1 e Q q => h H1 e _ fun H2 e2 => by
  refine ⟨P, ?_, fun v H3 e3 p => q v H3 (e2.trans e3) p⟩
  rw [List.append_nil]
  exact hp H2 (e.trans e2)
theorem ev_callV {Pre : List V → Hp → Post → Prop} {E : XK} {ta : TA} {vs : List V} (h : EvA ta σ H vs) (hp : ∀ H1, Ex H H1 → Pre vs H1 (isV z)) : Ev (tCall (spOf Pre) [] E ta) σ H z := ev_of (evp_call h hp)
theorem p_ret (h : EvP te σ H P) (k : ∀ v H1, Ex H H1 → P v H1 → D.rt v H1) : tRet te D σ H := h H (Ex.refl H) _ k
theorem p_asg {i : Nat} (h : EvP te σ H P) (k : ∀ v H1, Ex H H1 → P v H1 → D.nx (σ.set i (some v)) H1) : tAsg te (gName i) D σ H := h H (Ex.refl H) _ k
/-- isinstance, the type being told -/
theorem rc_isi {x : V} {t c : String} {b : Bool} (ty : ∀ H1, Ex H H1 → TyX K H1 x (.type t)) (e : PySem.W.kitOne K (.type t) (.type c) = some b) : RC (rIsi K) [x, .ty c] H (.bl b) := fun H1 e1 Q q => ⟨x, .ty c, _, _, b, rfl, .ty c, ty H1 e1, e, q H1 (Ex.refl H1)⟩
theorem ty_int {i : Int} {H1 : Hp} : TyX K H1 (.int i) (.type "int") := .base (.int i)
theorem ty_tup {a : Addr} {xs : List V} {H1 : Hp} (h : H1 a = some (.tup xs)) : TyX K H1 (.ref a) (.type "tuple") := .base (.tup h)
theorem ev_isi {x : V} {t c : String} {b : Bool} (h : Ev te σ H x) (ty : ∀ H1, Ex H H1 → TyX K H1 x (.type t)) (e : PySem.W.kitOne K (.type t) (.type c) = some b) : Ev (tCB (rIsi K) (tCons te (tCons (tC (.ty c)) tNil))) σ H (.bl b) :=
  ev_cb (ea_cons h (ea_cons ev_c ea_nil)) (rc_isi ty e)
end
/-! ### the promises -/
def sp_is_number (C : Addr) : Sp := spOf fun vs H P => ∃ i : Int, vs = [.int i] ∧ P = isV (.bl true)
def sp_is_number_between (C : Addr) : Sp := spOf fun vs H P => ∃ i lo hi : Int, vs = [.int i, .int lo, .int hi] ∧ P = isV (.bl (decide (lo ≤ i) && decide (i ≤ hi)))
def sp_is_pair (C : Addr) : Sp := spOf fun vs H P => ∃ a xs, vs = [.ref a] ∧ H a = some (.tup xs) ∧ P = isV (.bl (decide ((xs.length : Int) = 2)))
abbrev intL (xs : List Int) : List V := xs.map V.int
/-- the sums ahead of each point -/
def preA (t : Int) : List Int → List Int
  | [] => [t]
  | x :: r => t :: preA (t + x) r
abbrev pre (xs : List Int) : List Int := preA 0 xs
def difs : List Int → List Int
  | x :: y :: r => (y - x) :: difs (y :: r)
  | _ => []
def sp_is_water (C : Addr) : Sp := spOf fun vs H P => ∃ a xs, vs = [.ref a] ∧ H a = some (.tup (intL xs)) ∧ 1 ≤ xs.length ∧ xs.length ≤ 12 ∧ P = isV (.bl true)
def sp_sums (C : Addr) : Sp := spOf fun vs H P => ∃ a xs, vs = [.ref a] ∧ H a = some (.tup (intL xs)) ∧ 1 ≤ xs.length ∧ xs.length ≤ 12 ∧ P = isT (intL (pre xs))
def sp__water_of (C : Addr) : Sp := spOf fun vs H P => ∃ a xs, vs = [.ref a] ∧ H a = some (.lst (intL xs)) ∧ xs.length ≤ 13 ∧ P = isT (intL (difs xs))
end Bw
/-! The small defs: numbers, pairs, waters, sums. -/
namespace Bw
open PySem PySem.Spec PyProof.Rows L2 Evl
def t_is_number_0 (K : PySem.W.Frag) (C : Addr) : TS := (tRet (tAndV (tCB (rIsi K) (tCons (tVar 0) (tCons (tC (.ty "int")) tNil))) (tNotV (tCB (rIsi K) (tCons (tVar 0) (tCons (tC (.ty "bool")) tNil))))))
def t_is_number_between_0 (K : PySem.W.Frag) (C : Addr) : TS := (tRet (tAndV (tCall (sp_is_number C) [] E0 (tCons (tVar 0) tNil)) (tChain rLeI rLeI (tVar 1) (tVar 0) (tVar 2))))
def t_is_pair_0 (K : PySem.W.Frag) (C : Addr) : TS := (tRet (tAndV (tCB (rIsi K) (tCons (tVar 0) (tCons (tC (.ty "tuple")) tNil))) (tOp rEq (tCB (cLen K) (tCons (tVar 0) tNil)) (tC (.int 2)))))
def t_is_water_1 (K : PySem.W.Frag) (C : Addr) : TS := (tRet (tCB (rAll K) (tCons (tLc (iTup K (tVar 0)) (gName 1) tYes (tCall (sp_is_number C) [] E0 (tCons (tVar 1) tNil)) [1]) tNil)))
def t_is_water_0 (K : PySem.W.Frag) (C : Addr) : TS := tSeq (tIfS (tOr (tNot (tB (tCB (rIsi K) (tCons (tVar 0) (tCons (tC (.ty "tuple")) tNil))))) (tNot (tTest (tChain rLeI rLeI (tC (.int 1)) (tCB (cLen K) (tCons (tVar 0) tNil)) (tC (.int 12)))))) (tRet (tC (.bl false))) tNext) (t_is_water_1 K C)
def t_sums_3 (K : PySem.W.Frag) (C : Addr) : TS := (tRet (tCB (cTupleOf K) (tCons (tVar 1) tNil)))
def t_sums_2 (K : PySem.W.Frag) (C : Addr) : TS := tSeq (tFor (iTup K (tVar 0)) (gName 2) (tDrop (tBM K "list" rAppend (tVar 1) (tCons (tOp rAddI (tOp (rIxL K) (tVar 1) (tUn rNegI (tC (.int 1)))) (tVar 2)) tNil)))) (t_sums_3 K C)
def t_sums_1 (K : PySem.W.Frag) (C : Addr) : TS := tSeq (tAsg (tLst (tCons (tC (.int 0)) tNil)) (gName 1)) (t_sums_2 K C)
def t_sums_0 (K : PySem.W.Frag) (C : Addr) : TS := tSeq (tIfS (tNot (tB (tCall (sp_is_water C) [] E0 (tCons (tVar 0) tNil)))) tNever tNext) (t_sums_1 K C)
def t__water_of_0 (K : PySem.W.Frag) (C : Addr) : TS := (tRet (tCB (cTupleOf K) (tCons (tLc (iZip K (tCons (tVar 0) (tCons (tSl (rSlL K) (tVar 0) (tPart (tC (.int 1))) tNoPart) tNil))) (gTup K 2 (gCons (gName 1) (gCons (gName 2) gNil))) tYes (tOp rSubI (tVar 2) (tVar 1)) [1, 2]) tNil)))
section
variable {K : PySem.W.Frag} {C : Addr} {σ : L2.St} {H : Hp} {ta tb tc te : TE} {D : Ends}
theorem ev_chain {i j k : Int} (ha : Ev ta σ H (.int i)) (hb : Ev tb σ H (.int j)) (hc : Ev tc σ H (.int k)) : Ev (tChain rLeI rLeI ta tb tc) σ H (.bl (decide (i ≤ j) && decide (j ≤ k))) := fun H1 e Q q =>
  ha H1 e _ fun H2 e2 => hb H2 (e.trans e2) _ fun H3 e3 => ⟨i, j, rfl, rfl, decide (i ≤ j), rfl, by
    cases hd : decide (i ≤ j) with
    | true =>
      refine iteT ?_
      rw [hd] at q
      exact hc H3 ((e.trans e2).trans e3) _ fun H4 e4 => ⟨j, k, rfl, rfl, by simpa using q H4 ((e2.trans e3).trans e4)⟩
    | false =>
      refine iteF ?_
      rw [hd] at q
      exact by simpa using q H3 (e2.trans e3)⟩
theorem ev_lenT {a : Addr} {xs : List V} (ha : Ev ta σ H (.ref a)) (h : SqT K H a xs) : Ev (tCB (cLen K) (tCons ta tNil)) σ H (.int (xs.length : Int)) := fun H1 e Q q => ha H1 e _ fun H2 e2 => ⟨.ref a, xs.length, rfl, Or.inr ⟨xs, ex_t (e.trans e2) h, rfl⟩, q H2 e2⟩
theorem ev_lenL {a : Addr} {xs : List V} (ha : Ev ta σ H (.ref a)) (h : SqL K H a xs) : Ev (tCB (cLen K) (tCons ta tNil)) σ H (.int (xs.length : Int)) := fun H1 e Q q => ha H1 e _ fun H2 e2 => ⟨.ref a, xs.length, rfl, Or.inl ⟨xs, ex_l (e.trans e2) h, rfl⟩, q H2 e2⟩
/-- [e for x in xs], xs a tuple -/
theorem el_mpT {a : Addr} {xs : List V} {tl : TE} {j : Nat} {vs : List Nat} (f : V → V) (h : Ev tl σ H (.ref a)) (hx : SqT K H a xs) (hz : xs.length ≤ 40000) (hw : ∀ x, wipe ((wipe σ vs).set j (some x)) vs = wipe σ vs)
    (he : ∀ (x : V) H1, Ex H H1 → x ∈ xs → Ev te ((wipe σ vs).set j (some x)) H1 (f x)) : EvL (tLc (iTup K tl) (gName j) tYes te vs) σ H (xs.map f) := fun H0 e Q q => h H0 e _ fun H1 e1 => ⟨a, rfl, ⟨xs, ex_t (e.trans e1) hx⟩, fun Dl hD => by
  refine lc_it (walk_tup (xs := xs)) (CwF H1 (fun x => some (f x)) xs Dl) ⟨hD, Ex.new hD, upd_same⟩ (fun i H' _ p => ex_t ((e.trans e1).trans p.2.1) hx) (fun i x H' H2 hi p y => ?_) (fun H' p => ?_)
  · obtain ⟨rfl, hx2⟩ := y
    exact ⟨hw x, cwF_turn p (by omega) hx2 (et_yes) (fun y hf => by
      cases hf
      exact he x H1 (e.trans e1) (List.mem_of_getElem? hx2))⟩
  · have p3 := p.2.2
    rw [List.take_length] at p3
    refine q Dl H' (fresh_back e1 p.1) (e1.trans p.2.1) ?_
    rw [p3]
    simp⟩
theorem ev_all {bs : List Bool} (h : EvL te σ H (bs.map V.bl)) : Ev (tCB (rAll K) (tCons te tNil)) σ H (.bl (bs.all id)) := fun H1 e Q q => h H1 e _ fun p H2 hp e2 h2 => ⟨p, bs, rfl, sq_of h2, q H2 e2⟩
theorem eu_tupleOf {xs : List V} {a : Addr} (h : Ev te σ H (.ref a)) (hx : H a = some (.lst xs)) : EvU (tCB (cTupleOf K) (tCons te tNil)) σ H xs := fun H1 e Q q => h H1 e _ fun H2 e2 =>
  ⟨a, xs, rfl, Or.inl ⟨sq_of ((e.trans e2) _ _ hx), fun l hl => q l _ (fresh_back e2 hl) (e2.trans (Ex.new hl)) upd_same⟩⟩
theorem eu_tupleOfN {xs : List V} (h : EvL te σ H xs) : EvU (tCB (cTupleOf K) (tCons te tNil)) σ H xs := fun H1 e Q q => h H1 e _ fun p H2 hp e2 h2 =>
  ⟨p, xs, rfl, Or.inl ⟨sq_of h2, fun l hl => q l _ (fresh_back e2 hl) (e2.trans (Ex.new hl)) upd_same⟩⟩
/-- what a walk over pairs has made behind i turns -/
def Zw (H : Hp) (f : V → V → V) (xs ys : List V) (Dl : Addr) (i : Nat) (H' : Hp) : Prop := H Dl = none ∧ Ex H H' ∧ H' Dl = some (.lst ((List.zipWith f xs ys).take i))
theorem zw_turn {H1 H' H2 : Hp} {f : V → V → V} {xs ys : List V} {x y : V} {Dl T : Addr} {i i1 i2 : Nat} {vs : List Nat} (p : Zw H1 f xs ys Dl i H') (hi : i < 40000) (hx : xs[i]? = some x) (hy : ys[i]? = some y) (hT : H' T = none) (e2 : H2 = upd H' T (.tup [x, y]))
    (hw : wipe (((wipe σ vs).set i1 (some x)).set i2 (some y)) vs = wipe σ vs) (he : Ev te (((wipe σ vs).set i1 (some x)).set i2 (some y)) H1 (f x y)) :
    gTup K 2 (gCons (gName i1) (gCons (gName i2) gNil)) (.ref T) (wipe σ vs) H2 fun σ2 H2 => wipe σ2 vs = wipe σ vs ∧ tYes σ2 H2 fun b H3 => if b = true then te σ2 H3 fun z H4 => ∃ acc, H4 Dl = some (.lst acc) ∧ acc.length < sizeLine ∧ Zw H1 f xs ys Dl (i + 1) (upd H4 Dl (.lst (acc ++ [z]))) else Zw H1 f xs ys Dl (i + 1) H3 := by
  obtain ⟨p1, p2, p3⟩ := p
  subst e2
  have eT : Ex H' (upd H' T (.tup [x, y])) := Ex.new hT
  refine ⟨T, [x, y], rfl, st_of upd_same, rfl, x, [y], rfl, y, [], rfl, rfl, hw, ?_⟩
  unfold tYes
  refine iteT (he _ (p2.trans eT) _ fun H4 e4 => ⟨_, e4 _ _ (eT _ _ p3), ?_, p1, Ex.mut ((p2.trans eT).trans e4) p1, ?_⟩)
  · refine Nat.lt_of_le_of_lt (List.length_take_le _ _) (sz_lt (by omega))
  · rw [upd_same]
    have hz : (List.zipWith f xs ys)[i]? = some (f x y) := by rw [List.getElem?_zipWith, hx, hy]
    rw [take_step hz]
theorem el_zipL {xs ys : List V} {ta : TA} {i1 i2 : Nat} {vs : List Nat} (f : V → V → V) (h : ∀ H0, Ex H H0 → ∀ Q : List V → Hp → Prop, (∀ a b H1, Ex H0 H1 → SqL K H1 a xs → SqL K H1 b ys → Q [.ref a, .ref b] H1) → ta σ H0 Q) (hz : xs.length ≤ 30000)
    (hw : ∀ x y, wipe (((wipe σ vs).set i1 (some x)).set i2 (some y)) vs = wipe σ vs) (he : ∀ (i : Nat) (x y : V) H1, Ex H H1 → xs[i]? = some x → ys[i]? = some y → Ev te (((wipe σ vs).set i1 (some x)).set i2 (some y)) H1 (f x y)) :
    EvL (tLc (iZip K ta) (gTup K 2 (gCons (gName i1) (gCons (gName i2) gNil))) tYes te vs) σ H (List.zipWith f xs ys) := fun H0 e Q q => h H0 e _ fun a b H1 e1 hx hy => ⟨a, b, xs, ys, rfl, hx, hy, fun Dl hD => by
  refine lc_it (walk_zip (xs := xs) (ys := ys) rfl) (Zw H1 f xs ys Dl) ⟨hD, Ex.new hD, upd_same⟩ (fun i H' _ p => ⟨ex_l p.2.1 hx, ex_l p.2.1 hy⟩) (fun i v H' H2 hi p y => ?_) (fun H' p => ?_)
  · obtain ⟨T, x, z, rfl, hT, e2, h1, h2⟩ := y
    exact zw_turn p (by have := (List.getElem?_eq_some_iff.mp h1).1; omega) h1 h2 hT e2 (hw x z) (he i x z H1 (e.trans e1) h1 h2)
  · have p3 := p.2.2
    refine q Dl H' (fresh_back e1 p.1) (e1.trans p.2.1) ?_
    rw [p3, List.take_of_length_le (by rw [List.length_zipWith]; exact Nat.le_refl _)]⟩
theorem cut1 (xs : List V) : cutV xs (some 1) none = xs.drop 1 := by
  unfold cutV
  have h1 : HT.sIx xs.length 0 (some 1) = min 1 xs.length := HT.sIx_nat xs.length 0 1
  have h2 : HT.sIx xs.length xs.length none = xs.length := rfl
  rw [h1, h2]
  cases xs with
  | nil => rfl
  | cons x r =>
    have e : min 1 (x :: r).length = 1 := by simp
    rw [e]
    simp
/-! ### the defs -/
abbrev ends (Q : VK) : Ends := { nx := fun _ H' => Q .non H', rt := Q }
theorem pure_is_number {i : Int} {Q : VK} (k : ∀ H1, Ex H H1 → Q (.bl true) H1) : t_is_number_0 K C (ends Q) [some (.int i)] H := by
  have a : Ev (tVar 0) [some (.int i)] H (.int i) := ev_var rfl
  refine s_ret (v := .bl (true && !false)) (ev_andV (ev_isi a (fun _ _ => ty_int) (kit_ty (by decide +kernel))) fun _ => ev_notV (ev_isi a (fun _ _ => ty_int) (kit_ty (by decide +kernel)))) k
theorem pure_is_number_between {i lo hi : Int} {Q : VK} (k : ∀ H1, Ex H H1 → Q (.bl (decide (lo ≤ i) && decide (i ≤ hi))) H1) : t_is_number_between_0 K C (ends Q) [some (.int i), some (.int lo), some (.int hi)] H := by
  refine s_ret (v := .bl (true && (decide (lo ≤ i) && decide (i ≤ hi)))) (ev_andV (ev_callV (ea_cons (ev_var rfl) ea_nil) fun _ _ => ⟨i, rfl, rfl⟩) fun _ => ev_chain (ev_var rfl) (ev_var rfl) (ev_var rfl)) ?_
  rw [Bool.true_and]
  exact k
theorem pure_is_pair {a : Addr} {xs : List V} {Q : VK} (h : H a = some (.tup xs)) (k : ∀ H1, Ex H H1 → Q (.bl (decide ((xs.length : Int) = 2))) H1) : t_is_pair_0 K C (ends Q) [some (.ref a)] H := by
  refine s_ret (v := .bl (true && decide ((V.int (xs.length : Int)) = V.int 2))) (ev_andV (ev_isi (ev_var rfl) (fun H1 e => ty_tup (e _ _ h)) (kit_ty (by decide +kernel))) fun _ => ev_op (ev_lenT (ev_var rfl) (st_of h)) ev_c (rv_eq rfl)) ?_
  intro H1 e
  have := k H1 e
  simpa using this
theorem ints_tests {xs : List Int} : (intL xs).map (fun x => V.bl true) = (xs.map fun _ => true).map V.bl := by
  simp [List.map_map, Function.comp_def]
theorem pure_is_water {a : Addr} {xs : List Int} {Q : VK} (h : H a = some (.tup (intL xs))) (h1 : 1 ≤ xs.length) (h2 : xs.length ≤ 12) (k : ∀ H1, Ex H H1 → Q (.bl true) H1) : t_is_water_0 K C (ends Q) [some (.ref a), none] H := by
  have hl : (intL xs).length = xs.length := List.length_map ..
  have va : Ev (tVar 0) [some (.ref a), none] H (.ref a) := ev_var rfl
  refine q_when (b := (!true) || (!(decide ((1 : Int) ≤ ((intL xs).length : Int)) && decide (((intL xs).length : Int) ≤ 12)))) (et_or (et_not (et_B (ev_isi va (fun H1 e => ty_tup (e _ _ h)) (kit_ty (by decide +kernel))))) fun _ => et_not (et_test (ev_chain ev_c (ev_lenT va (st_of h)) ev_c))) (fun hb => ?_) (fun _ H1 e => ?_)
  · rw [hl, decide_eq_true (show (1 : Int) ≤ (xs.length : Int) by omega), decide_eq_true (show (xs.length : Int) ≤ 12 by omega)] at hb
    exact nomatch hb
  · refine s_ret (v := .bl ((xs.map fun _ => true).all id)) (ev_all ?_) (fun H2 e2 => ?_)
    · rw [← ints_tests]
      refine el_mpT (fun _ => V.bl true) (ev_var rfl) (st_of (e _ _ h)) (by rw [hl]; omega) (fun x => rfl) fun x H3 e3 hm => ?_
      obtain ⟨i, _, rfl⟩ := List.mem_map.mp hm
      exact ev_callV (ea_cons (ev_var rfl) ea_nil) fun _ _ => ⟨i, rfl, rfl⟩
    · have : ((xs.map fun _ => true).all id) = true := by simp
      rw [this]
      exact k H2 (e.trans e2)
theorem preA_length (t : Int) (xs : List Int) : (preA t xs).length = xs.length + 1 := by
  induction xs generalizing t with
  | nil => rfl
  | cons x r ih => show (preA (t + x) r).length + 1 = r.length + 1 + 1; rw [ih]
theorem preA_snoc (t : Int) (xs : List Int) (x : Int) : ∃ y, (preA t xs).getLast? = some y ∧ preA t (xs ++ [x]) = preA t xs ++ [y + x] := by
  induction xs generalizing t with
  | nil => exact ⟨t, rfl, rfl⟩
  | cons z r ih =>
    obtain ⟨y, h1, h2⟩ := ih (t + z)
    refine ⟨y, ?_, ?_⟩
    · show (t :: preA (t + z) r).getLast? = some y
      cases e : preA (t + z) r with
      | nil => rw [e] at h1; exact nomatch h1
      | cons w s => rw [e] at h1; rw [List.getLast?_cons_cons]; exact h1
    · show t :: preA (t + z) (r ++ [x]) = _
      rw [h2]
      rfl
theorem at_last {xs : List V} {y : V} (h : xs.getLast? = some y) : atI xs (-1) = some y := by
  obtain ⟨ys, rfl⟩ := List.getLast?_eq_some_iff.mp h
  exact L2.atI_last ys y
theorem pure_sums {a : Addr} {xs : List Int} {Q : VK} (h : H a = some (.tup (intL xs))) (h1 : 1 ≤ xs.length) (h2 : xs.length ≤ 12) (k : ∀ p H1, Ex H H1 → H1 p = some (.tup (intL (pre xs))) → Q (.ref p) H1) : t_sums_0 K C (ends Q) [some (.ref a), none, none] H := by
  have hl : (intL xs).length = xs.length := List.length_map ..
  refine q_when (b := !true) (et_not (et_B (ev_callV (ea_cons (ev_var rfl) ea_nil) fun H1 e => ⟨a, xs, rfl, e _ _ h, h1, h2, rfl⟩))) (fun hb => nomatch hb) (fun _ H1 e => ?_)
  refine q_asgL (el_lst (ea_cons ev_c ea_nil) (by decide)) (fun p H2 hp e2 h2' => ?_)
  have ep : H p = none := fresh_back e hp
  refine q_forT (a := a) (xs := intL xs) (ev_var rfl) (st_of (e2 _ _ (e _ _ h))) (fun i σ' H' => ∃ v, σ' = [some (.ref a), some (.ref p), v] ∧ Ex H H' ∧ H' p = some (.lst (intL (pre (xs.take i))))) (fun H3 e3 => ⟨none, rfl, (e.trans e2).trans e3, e3 _ _ h2'⟩)
    (fun i σ' H' _ ⟨v, _, ex, _⟩ => st_of (ex _ _ h)) (fun i x σ' H' hx ⟨v, es, ex, hq⟩ => ?_) (fun σ' H' ⟨v, es, ex, hq⟩ => ?_)
  · subst es
    have hx2 : (intL xs)[i]? = some x := hx
    rw [List.getElem?_map] at hx2
    obtain ⟨y, hy, rfl⟩ := Option.map_eq_some_iff.mp hx2
    have hi := (List.getElem?_eq_some_iff.mp hy).1
    obtain ⟨z, z1, z2⟩ := preA_snoc 0 (xs.take i) y
    have lz : (intL (pre (xs.take i))).getLast? = some (.int z) := by
      rw [List.getLast?_map, z1]
      rfl
    show tDrop _ _ [some (.ref a), some (.ref p), some (.int y)] H'
    refine s_app (l := p) hq (ev_var rfl) (v := .int (z + y)) (ev_op (ev_op (ev_var rfl) (ev_un ev_c ru_neg) (rv_ixL (sq_of hq) (at_last lz))) (ev_var rfl) rv_I0) ?_ (fun H3 e3 => ?_)
    · have := preA_length 0 (xs.take i)
      rw [List.length_map, this, List.length_take]
      omega
    · refine ⟨_, rfl, Ex.mut (ex.trans e3) ep, ?_⟩
      rw [upd_same]
      have et : xs.take (i + 1) = xs.take i ++ [y] := take_step hy
      rw [et]
      show _ = some (HO.lst (intL (preA 0 (xs.take i ++ [y]))))
      rw [z2, show intL (preA 0 (xs.take i) ++ [z + y]) = intL (preA 0 (xs.take i)) ++ intL [z + y] from List.map_append ..]
      rfl
  · subst es
    rw [hl, List.take_length] at hq
    refine s_retU (eu_tupleOf (a := p) (ev_var rfl) hq) fun q H3 hqn e3 h3 => k q H3 (ex.trans e3) h3
theorem difs_zip : ∀ xs : List Int, List.zipWith (fun x y : V => match x, y with | .int i, .int j => V.int (j - i) | _, _ => .non) (intL xs) ((intL xs).drop 1) = intL (difs xs)
  | [] => rfl
  | [_] => rfl
  | x :: y :: r => by
    have ih := difs_zip (y :: r)
    show V.int (y - x) :: List.zipWith _ (intL (y :: r)) (intL r) = V.int (y - x) :: intL (difs (y :: r))
    rw [← ih]
    rfl
theorem pure_water_of {a : Addr} {xs : List Int} {Q : VK} (h : H a = some (.lst (intL xs))) (hz : xs.length ≤ 13) (k : ∀ p H1, Ex H H1 → H1 p = some (.tup (intL (difs xs))) → Q (.ref p) H1) : t__water_of_0 K C (ends Q) [some (.ref a), none, none] H := by
  have hl : (intL xs).length = xs.length := List.length_map ..
  refine s_retU (eu_tupleOfN (xs := intL (difs xs)) ?_) fun p H1 _ e h1 => k p H1 e h1
  rw [← difs_zip]
  have cut : cutV (intL xs) (some 1) none = (intL xs).drop 1 := cut1 _
  refine el_zipL _ (fun H0 e R r => ?_) (by rw [hl]; omega) (fun x y => rfl) (fun i x y H1 e hx hy => ?_)
  · refine ⟨_, rfl, ?_⟩
    refine el_sl (ev_var rfl) (eo_some ev_c) eo_none (sq_of h) H0 e _ fun p H1 hp e1 h1 => ?_
    rw [cut] at h1
    exact r a p H1 e1 (sq_of (e1 _ _ (e _ _ h))) (sq_of h1)
  · have hx2 : (xs.map V.int)[i]? = some x := hx
    have hy2 : ((xs.map V.int).drop 1)[i]? = some y := hy
    rw [List.getElem?_map] at hx2
    rw [List.getElem?_drop, List.getElem?_map] at hy2
    obtain ⟨u, _, rfl⟩ := Option.map_eq_some_iff.mp hx2
    obtain ⟨w, _, rfl⟩ := Option.map_eq_some_iff.mp hy2
    exact ev_op (ev_var rfl) (ev_var rfl) rv_I0
end
end Bw
/-! Tables: what stands where, and their own defs. -/
namespace Bw
open PySem PySem.Spec PyProof.Rows L2 Evl
/-- a dict comprehension over a walk: Pv by the turn and the heap, the new dict at D within -/
theorem dt_it {J : It} {n : Nat} {G : Hp → Prop} {Y : Nat → Hp → V → Hp → Prop} (w : Walk J n G Y) {g : TG} {tt : TT} {tk tv : TE} {vs : List Nat} {σ : L2.St} {H1 : Hp} {D : Addr} {R : Hp → Prop} (Pv : Nat → Hp → Prop) (h0 : Pv 0 (upd H1 D (.dT []))) (hG : ∀ i H, i ≤ n → Pv i H → G H)
    (hs : ∀ i x H H', i < n → Pv i H → Y i H x H' → g x (wipe σ vs) H' fun σ2 H2 => wipe σ2 vs = wipe σ vs ∧ tt σ2 H2 fun b H3 => if b = true then tk σ2 H3 fun y H4 => tv σ2 H4 fun z H5 => ∃ H6, DPut H5 D y z H6 ∧ Pv (i + 1) H6 else Pv (i + 1) H3) (hd : ∀ H, Pv n H → R H) :
    ∃ W : Nat → Nat → Hp → Prop, (∃ m, W 0 m (upd H1 D (.dT []))) ∧ ∀ i m H, W i m H →
      (J.stop i H ∧ R H) ∨ (J.go i H ∧ ∃ Nx : Hp → Prop, (∀ H', Nx H' → ∃ m', m' < m ∧ W (i + 1) m' H') ∧ ∀ x H', J.yld i H x H' → g x (wipe σ vs) H' fun σ2 H2 => wipe σ2 vs = wipe σ vs ∧ tt σ2 H2 fun b H3 =>
        if b = true then tk σ2 H3 fun y H4 => tv σ2 H4 fun z H5 => ∃ H6, DPut H5 D y z H6 ∧ Nx H6 else Nx H3) := by
  refine ⟨fun i m H => m = n - i ∧ i ≤ n ∧ Pv i H, ⟨n, rfl, Nat.zero_le _, h0⟩, fun i m H ⟨em, hi, p⟩ => ?_⟩
  subst em
  rcases Nat.lt_or_ge i n with hlt | hge
  · exact Or.inr ⟨w.goes i H hlt (hG i H hi p), Pv (i + 1), fun H' p' => ⟨n - (i + 1), by omega, rfl, hlt, p'⟩, fun x H' y => hs i x H H' hlt p (w.yields i H x H' hlt (hG i H hi p) y)⟩
  · have e : i = n := by omega
    subst e
    exact Or.inl ⟨w.stops H (hG i H hi p), hd H p⟩
/-! ### the tables -/
def ekey (e : Edge) : List Key := pk ((e.1 : Int), (e.2.1 : Int))
def kvE (e : Edge) : List Key × V := (ekey e, .int e.2.2)
def TabAt (C : Addr) (H : Hp) (t n : Nat) (E : List Edge) : Prop := ∃ dx d : Addr, H t = some (.ins C dx [("_size", .int (n : Int)), ("_bounds", .ref d)]) ∧ H d = some (.dT (E.map kvE)) ∧ GoodE (n + 1) E ∧ (E.map ekey).Nodup ∧ 1 ≤ n ∧ n ≤ 12
theorem TabAt.ex {C : Addr} {H H' : Hp} {t n : Nat} {E : List Edge} (h : TabAt C H t n E) (e : Ex H H') : TabAt C H' t n E := by
  obtain ⟨dx, d, h1, h2, r⟩ := h
  exact ⟨dx, d, e _ _ h1, e _ _ h2, r⟩
theorem ekey_inj {a b : Edge} (h : ekey a = ekey b) : a.1 = b.1 ∧ a.2.1 = b.2.1 := by
  have h1 : (Sum.inl (a.1 : Int) : Key) = Sum.inl (b.1 : Int) := (List.cons.inj h).1
  have h2 : (Sum.inl (a.2.1 : Int) : Key) = Sum.inl (b.2.1 : Int) := (List.cons.inj (List.cons.inj h).2).1
  exact ⟨by have := Sum.inl.inj h1; omega, by have := Sum.inl.inj h2; omega⟩
/-- bounds as a matrix -/
def matE (E : List Edge) : Mat := fun a b => if a = b then some 0 else (E.find? fun e => decide (e.1 = a) && decide (e.2.1 = b)).map (·.2.2)
def sp_Table_size (C : Addr) : Sp := spOf fun vs H P => ∃ t n E, vs = [.ref t] ∧ TabAt C H t n E ∧ P = isV (.int (n : Int))
def sp_Table_bounds (C : Addr) : Sp := fun vs H Q _ => ∃ t n E, vs = [.ref t] ∧ TabAt C H t n E ∧ ∀ d H2, H d = none → Ex H H2 → H2 d = some (.dT (E.map kvE)) → Q (.ref d) H2
/-- the own names of a table are no names of the class -/
structure TabF (K : PySem.W.Frag) (C : Addr) : Prop where
  cl : Cls K C
  ns : NoAttr K C "_size"
  nb : NoAttr K C "_bounds"
  ty : ∀ (H : Hp) (a dx : Addr) (fs : List (Str × V)), H a = some (.ins C dx fs) → TyX K H (.ref a) (.ref C)
  kit : PySem.W.kitOne K (.ref C) (.ref C) = some true
def t_Table_size_0 (K : PySem.W.Frag) (C : Addr) : TS := (tRet (tFld K (tVar 0) "_size"))
def t_Table_bounds_0 (K : PySem.W.Frag) (C : Addr) : TS := (tRet (tLockE (tDt (iKeys (tFld K (tVar 0) "_bounds")) (gName 1) tYes (tVar 1) (tDGet (tFld K (tVar 0) "_bounds") (tVar 1)) [1])))
def t_Table_fits_2 (K : PySem.W.Frag) (C : Addr) : TS := (tRet (tLockE (tCB (rAll K) (tCons (tLc (iKeys (tFld K (tVar 0) "_bounds")) (gTup K 2 (gCons (gName 3) (gCons (gName 4) gNil))) tYes (tOp rLeI (tOp rSubI (tOp (rIxT K) (tVar 2) (tVar 3)) (tOp (rIxT K) (tVar 2) (tVar 4))) (tDGet (tFld K (tVar 0) "_bounds") (tTup (tCons (tVar 3) (tCons (tVar 4) tNil))))) [3, 4]) tNil))))
def t_Table_fits_1 (K : PySem.W.Frag) (C : Addr) : TS := tSeq (tIfS (tTest (tOp rNe (tCB (cLen K) (tCons (tVar 1) tNil)) (tFld K (tVar 0) "_size"))) tNever tNext) (t_Table_fits_2 K C)
def t_Table_fits_0 (K : PySem.W.Frag) (C : Addr) : TS := tSeq (tAsg (tCall (sp_sums C) [] E0 (tCons (tVar 1) tNil)) (gName 2)) (t_Table_fits_1 K C)
section
variable {K : PySem.W.Frag} {C : Addr} {σ : L2.St} {H : Hp} {ta tb tc te : TE} {D : Ends} {t n : Nat} {E : List Edge}
theorem lk_size {d : Addr} : List.lookup ("_size" : Str) [(("_size" : Str), V.int (n : Int)), ("_bounds", V.ref d)] = some (.int (n : Int)) := by
  rw [List.lookup_cons]
  have : (("_size" : Str) == ("_size" : Str)) = true := by decide +kernel
  rw [this]
theorem lk_bounds {d : Addr} : List.lookup ("_bounds" : Str) [(("_size" : Str), V.int (n : Int)), ("_bounds", V.ref d)] = some (.ref d) := by
  rw [List.lookup_cons, List.lookup_cons]
  have h1 : (("_bounds" : Str) == ("_size" : Str)) = false := by decide +kernel
  have h2 : (("_bounds" : Str) == ("_bounds" : Str)) = true := by decide +kernel
  rw [h1, h2]
theorem ev_size (F : TabF K C) {dx d : Addr} (h : Ev te σ H (.ref t)) (ht : H t = some (.ins C dx [("_size", .int (n : Int)), ("_bounds", .ref d)])) : Ev (tFld K te "_size") σ H (.int (n : Int)) := fun H1 e Q q => h H1 e _ fun H2 e2 =>
  ⟨t, C, dx, _, _, rfl, (e.trans e2) _ _ ht, F.cl, F.ns, lk_size, q H2 e2⟩
theorem ev_bounds (F : TabF K C) {dx d : Addr} (h : Ev te σ H (.ref t)) (ht : H t = some (.ins C dx [("_size", .int (n : Int)), ("_bounds", .ref d)])) : Ev (tFld K te "_bounds") σ H (.ref d) := fun H1 e Q q => h H1 e _ fun H2 e2 =>
  ⟨t, C, dx, _, _, rfl, (e.trans e2) _ _ ht, F.cl, F.nb, lk_bounds, q H2 e2⟩
theorem pure_size (F : TabF K C) {Q : VK} (h : TabAt C H t n E) (k : ∀ H1, Ex H H1 → Q (.int (n : Int)) H1) : t_Table_size_0 K C (ends Q) [some (.ref t)] H := by
  obtain ⟨dx, d, h1, h2, r⟩ := h
  exact s_ret (ev_size F (ev_var rfl) h1) k
/-- behind a lock -/
theorem ex_unlock {H' : Hp} {d : Addr} {u : HO} {od : Obj} (hd : H d = some u) (e : Ex (upd H d (.frz od u)) H') : Ex H (upd H' d u) := fun b o hb => by
  by_cases c : b = d
  · subst c
    rw [upd_same]
    rw [hd] at hb
    exact hb
  · rw [upd_ne c]
    exact e b o (by rw [upd_ne c]; exact hb)
theorem len_take_kv {E : List Edge} {i : Nat} : ((E.take i).map kvE).length ≤ E.length := by
  rw [List.length_map, List.length_take]
  omega
theorem valV_out {kvs : List (List Key × V)} {k : List Key} (h : k ∉ kvs.map (·.1)) : valV kvs k = none := by
  induction kvs with
  | nil => rfl
  | cons p r ih =>
    rw [List.map_cons, List.mem_cons, not_or] at h
    rw [valV_neg (fun z => h.1 z.symm)]
    exact ih h.2
theorem valV_at {kvs : List (List Key × V)} (hn : (kvs.map (·.1)).Nodup) {i : Nat} {k : List Key} {v : V} (h : kvs[i]? = some (k, v)) : valV kvs k = some v := by
  induction kvs generalizing i with
  | nil => exact nomatch h
  | cons p r ih =>
    rw [List.map_cons, List.nodup_cons] at hn
    cases i with
    | zero =>
      rw [List.getElem?_cons_zero] at h
      cases h
      exact valV_pos rfl
    | succ j =>
      rw [List.getElem?_cons_succ] at h
      have hm : k ∈ r.map (·.1) := List.mem_map.mpr ⟨_, List.mem_of_getElem? h, rfl⟩
      rw [valV_neg (fun z => hn.1 (by rw [z]; exact hm))]
      exact ih hn.2 h
theorem put_step {kvs : List (List Key × V)} (hn : (kvs.map (·.1)).Nodup) {i : Nat} {k : List Key} {v : V} (h : kvs[i]? = some (k, v)) : putK (kvs.take i) k v = kvs.take (i + 1) := by
  have hk : k ∉ (kvs.take i).map (·.1) := fun hm => by
    rw [List.map_take] at hm
    obtain ⟨j, hj, ej⟩ := List.mem_iff_getElem.mp hm
    rw [List.length_take, List.length_map] at hj
    have hi := (List.getElem?_eq_some_iff.mp h).1
    rw [List.getElem_take] at ej
    have e2 : (kvs.map (·.1))[i]? = some k := by rw [List.getElem?_map, h]; rfl
    obtain ⟨hi2, e3⟩ := List.getElem?_eq_some_iff.mp e2
    have hji : j < i := by omega
    exact List.pairwise_iff_getElem.mp hn j i (by rw [List.length_map]; omega) hi2 hji (ej.trans e3.symm)
  rw [L2.putK_new v (valV_out hk), take_step h]
theorem keys_kvE (E : List Edge) : (E.map kvE).map (·.1) = E.map ekey := by
  rw [List.map_map]
  rfl
theorem pure_bounds (F : TabF K C) {Q : VK} (h : TabAt C H t n E) (hz : E.length ≤ 40000) (k : ∀ d H2, H d = none → Ex H H2 → H2 d = some (.dT (E.map kvE)) → Q (.ref d) H2) : t_Table_bounds_0 K C (ends Q) [some (.ref t), none] H := by
  obtain ⟨dx, b, h1, h2, hg, hn, _⟩ := h
  have hn2 : ((E.map kvE).map (·.1)).Nodup := by rw [keys_kvE]; exact hn
  refine ⟨b, .dT (E.map kvE), h2, True.intro, fun od => ?_⟩
  have tb : t ≠ b := ne_of h1 h2 (by intro z; cases z)
  obtain ⟨HL, eL⟩ : ∃ HL, HL = upd H b (.frz od (.dT (E.map kvE))) := ⟨_, rfl⟩
  rw [← eL]
  have g1 : HL t = some (.ins C dx [("_size", .int (n : Int)), ("_bounds", .ref b)]) := by rw [eL, upd_ne tb]; exact h1
  have g2 : HL b = some (.frz od (.dT (E.map kvE))) := by rw [eL]; exact upd_same
  have at_b : ∀ (x : Option V) (H3 : Hp), Ex HL H3 → Ev (tFld K (tVar 0) "_bounds") [some (.ref t), x] H3 (.ref b) := fun x H3 e3 => ev_bounds F (ev_var rfl) (e3 _ _ g1)
  unfold tDt iKeys
  refine at_b none HL (Ex.refl _) HL (Ex.refl _) _ fun H1 e1 => ?_
  refine ⟨b, od, rfl, Or.inr ⟨_, e1 _ _ g2, fun Dn hD => ?_⟩⟩
  have kz : (E.map kvE).length = E.length := List.length_map ..
  refine dt_it walk_keysT (fun i H' => Ex H1 H' ∧ H' Dn = some (.dT ((E.map kvE).take i))) ⟨Ex.new hD, upd_same⟩ (fun i H' _ p => p.1 _ _ (e1 _ _ g2)) (fun i x H' H2 hi p y => ?_) (fun H' p => ?_)
  · obtain ⟨rfl, key, v, q, hkv, rfl, hq⟩ := y
    obtain ⟨p1, p2⟩ := p
    refine ⟨rfl, ?_⟩
    unfold tYes
    refine iteT ⟨.ref q, rfl, ?_⟩
    refine at_b _ H2 (e1.trans p1) H2 (Ex.refl _) _ fun H3 e3 => ?_
    refine ⟨.ref q, rfl, b, v, rfl, ?_, _, DPut.t (e3 _ _ p2) (e3 _ _ hq) ?_, Ex.mut (p1.trans e3) hD, ?_⟩
    · exact Or.inr ⟨_, key, q, Or.inr ⟨od, e3 _ _ (p1 _ _ (e1 _ _ g2))⟩, rfl, e3 _ _ hq, (valV_at hn2 hkv).symm⟩
    · rw [List.length_take]
      exact sz_lt (by omega)
    · rw [upd_same, put_step hn2 hkv]
  · obtain ⟨p1, p2⟩ := p
    rw [List.take_length] at p2
    have hDL : HL Dn = none := fresh_back e1 hD
    have nb : Dn ≠ b := fun z => by rw [z, g2] at hDL; exact nomatch hDL
    have hDH : H Dn = none := by
      rw [eL, upd_ne nb] at hDL
      exact hDL
    have e2 : Ex HL H' := e1.trans p1
    rw [eL] at e2
    exact ⟨p1 _ _ (e1 _ _ g2), k Dn _ hDH (ex_unlock h2 e2) (by rw [upd_ne nb]; exact p2)⟩
end
end Bw
/-! Rows of least ways: a row gone through by a point in the middle. -/
namespace Bw
open PySem PySem.Spec PyProof.Rows L2 Evl
abbrev cListOf (K : PySem.W.Frag) : List V → Hp → VK → Prop := fun xs H Q => ∃ p ys, xs = [.ref p] ∧ (SqL K H p ys ∨ SqT K H p ys) ∧ ∀ l, H l = none → Q (.ref l) (upd H l (.lst ys))
def ov : Option Int → V
  | none => .non
  | some x => .int x
def rowV (D : Mat) (N a : Nat) : List V := (List.range N).map fun b => ov (D a b)
theorem rowV_at {D : Mat} {N a b : Nat} (hb : b < N) : (rowV D N a)[b]? = some (ov (D a b)) := by
  unfold rowV
  rw [List.getElem?_map, List.getElem?_range hb]
  rfl
theorem rowV_len {D : Mat} {N a : Nat} : (rowV D N a).length = N := by
  unfold rowV
  rw [List.length_map, List.length_range]
theorem rowV_ext {D E : Mat} {N a : Nat} (h : ∀ b, b < N → D a b = E a b) : rowV D N a = rowV E N a := by
  unfold rowV
  exact List.map_congr_left fun b hb => by rw [h b (List.mem_range.mp hb)]
theorem rowV_set {D E : Mat} {N a i : Nat} {x : Int} (hi : i < N) (h1 : E a i = some x) (h2 : ∀ b, b < N → b ≠ i → E a b = D a b) : (rowV D N a).set i (.int x) = rowV E N a := by
  apply List.ext_getElem?
  intro j
  rw [List.getElem?_set, rowV_len]
  by_cases hj : j < N
  · rw [rowV_at hj, rowV_at hj]
    by_cases e : i = j
    · subst e
      rw [if_pos rfl, if_pos hi, h1]
      rfl
    · rw [if_neg e, h2 j hj (fun z => e z.symm)]
  · rw [List.getElem?_eq_none (by rw [rowV_len]; omega), List.getElem?_eq_none (by rw [rowV_len]; omega)]
    by_cases e : i = j
    · exact absurd (e ▸ hi) hj
    · rw [if_neg e]
/-- the rows at rs (told by the list at p) hold D -/
structure RowsAt (H : Hp) (p : Addr) (rs : List Addr) (D : Mat) (N : Nat) : Prop where
  top : H p = some (.lst (rs.map V.ref))
  len : rs.length = N
  nd : rs.Nodup
  row : ∀ a r, rs[a]? = some r → H r = some (.lst (rowV D N a))
theorem RowsAt.ex {H H' : Hp} {p : Addr} {rs : List Addr} {D : Mat} {N : Nat} (h : RowsAt H p rs D N) (e : Ex H H') : RowsAt H' p rs D N := ⟨e _ _ h.top, h.len, h.nd, fun a r hr => e _ _ (h.row a r hr)⟩
theorem RowsAt.get {H : Hp} {p : Addr} {rs : List Addr} {D : Mat} {N a : Nat} (h : RowsAt H p rs D N) (ha : a < N) : ∃ r, rs[a]? = some r ∧ H r = some (.lst (rowV D N a)) := by
  have : a < rs.length := by rw [h.len]; exact ha
  exact ⟨rs[a], List.getElem?_eq_getElem this, h.row a _ (List.getElem?_eq_getElem this)⟩
/-- the list of the rows is none of them -/
theorem RowsAt.apart {H : Hp} {p : Addr} {rs : List Addr} {D : Mat} {N a : Nat} {r : Addr} (h : RowsAt H p rs D N) (hr : rs[a]? = some r) : p ≠ r := fun z => by
  have ha : a < N := by
    have := (List.getElem?_eq_some_iff.mp hr).1
    rw [h.len] at this
    exact this
  have h1 := h.row a r hr
  rw [← z, h.top] at h1
  have h2 : rs.map V.ref = rowV D N a := HO.lst.inj (Option.some.inj h1)
  have h3 : (rs.map V.ref)[a]? = some (V.ref r) := by rw [List.getElem?_map, hr]; rfl
  rw [h2, rowV_at ha] at h3
  cases e : D a a with
  | none => rw [e] at h3; exact nomatch h3
  | some x => rw [e] at h3; exact nomatch h3
/-- row a gone through by m, its first i numbers -/
def goP (D : Mat) (a m i : Nat) : Mat := fun x y => if x = a ∧ y < i then mn (D x y) (ad (D x m) (D m y)) else D x y
def goR (D : Mat) (a m : Nat) : Mat := fun x y => if x = a then mn (D x y) (ad (D x m) (D m y)) else D x y
def sp__go_through (C : Addr) : Sp := fun vs H Q _ => ∃ (p : Addr) (rs : List Addr) (D : Mat) (N a m : Nat) (st : Int) (r : Addr), vs = [.ref p, .int (a : Int), .int (m : Int)] ∧ RowsAt H p rs D N ∧ a < N ∧ m < N ∧ N ≤ 13 ∧ D a m = some st ∧ rs[a]? = some r ∧
  ∀ H2, (∀ b o, b ≠ r → H b = some o → H2 b = some o) → H2 r = some (.lst (rowV (goR D a m) N a)) → Q .non H2
def t__go_through_1 (K : PySem.W.Frag) (C : Addr) : TS := (tFor (iEnum K (tCons (tCB (cListOf K) (tCons (tOp (rIxL K) (tVar 0) (tVar 2)) tNil)) tNil)) (gTup K 2 (gCons (gName 4) (gCons (gName 5) gNil))) (tIfS (tAnd (tB (tNotN (tVar 5))) (tOr (tB (tIsN (tOp (rIxL K) (tOp (rIxL K) (tVar 0) (tVar 1)) (tVar 4)))) (tTest (tOp rLtI (tOp rAddI (tVar 3) (tVar 5)) (tOp (rIxL K) (tOp (rIxL K) (tVar 0) (tVar 1)) (tVar 4)))))) (tAsg (tOp rAddI (tVar 3) (tVar 5)) (gSub (tOp (rIxL K) (tVar 0) (tVar 1)) (tVar 4) rSetL)) tNext))
def t__go_through_0 (K : PySem.W.Frag) (C : Addr) : TS := tSeq (tAsg (tOp (rIxL K) (tOp (rIxL K) (tVar 0) (tVar 1)) (tVar 2)) (gName 3)) (t__go_through_1 K C)
section
variable {K : PySem.W.Frag} {C : Addr} {σ : L2.St} {H : Hp} {ta tb tc te : TE} {D : Ends}
theorem ev_notN {v : V} (h : Ev te σ H v) : Ev (tNotN te) σ H (.bl (!decide (v = .non))) := fun H1 e Q q => h H1 e _ fun H2 e2 => q H2 e2
theorem ev_isN {v : V} (h : Ev te σ H v) : Ev (tIsN te) σ H (.bl (decide (v = .non))) := fun H1 e Q q => h H1 e _ fun H2 e2 => q H2 e2
/-- least[a][b] -/
theorem ev_at {p : Addr} {rs : List Addr} {M : Mat} {N a b : Nat} {r : Addr} (h0 : Ev ta σ H (.ref p)) (h1 : Ev tb σ H (.int (a : Int))) (h2 : Ev tc σ H (.int (b : Int))) (hp : H p = some (.lst (rs.map V.ref))) (hr : rs[a]? = some r) (hq : H r = some (.lst (rowV M N a))) (hb : b < N) :
    Ev (tOp (rIxL K) (tOp (rIxL K) ta tb) tc) σ H (ov (M a b)) :=
  ev_op (ev_op h0 h1 (rv_ixL (sq_of hp) (atI_nat (by rw [List.getElem?_map, hr]; rfl)))) h2 (rv_ixL (sq_of hq) (atI_nat (rowV_at hb)))
theorem ev_row {p : Addr} {rs : List Addr} {a : Nat} {r : Addr} (h0 : Ev ta σ H (.ref p)) (h1 : Ev tb σ H (.int (a : Int))) (hp : H p = some (.lst (rs.map V.ref))) (hr : rs[a]? = some r) : Ev (tOp (rIxL K) ta tb) σ H (.ref r) :=
  ev_op h0 h1 (rv_ixL (sq_of hp) (atI_nat (by rw [List.getElem?_map, hr]; rfl)))
theorem el_listOf {xs : List V} {a : Addr} (h : Ev te σ H (.ref a)) (hx : H a = some (.lst xs)) : EvL (tCB (cListOf K) (tCons te tNil)) σ H xs := fun H1 e Q q => h H1 e _ fun H2 e2 =>
  ⟨a, xs, rfl, Or.inl (sq_of ((e.trans e2) _ _ hx)), fun l hl => q l _ (fresh_back e2 hl) (e2.trans (Ex.new hl)) upd_same⟩
theorem goP_step {M : Mat} {a m i : Nat} {st : Int} (hs : M a m = some st) : ∀ b, goP M a m (i + 1) a b = if b = i then mn (M a i) (ad (some st) (M m i)) else goP M a m i a b := fun b => by
  unfold goP
  by_cases e : b = i
  · subst e
    rw [if_pos rfl, if_pos ⟨rfl, Nat.lt_succ_self _⟩, hs]
  · rw [if_neg e]
    by_cases c : b < i
    · rw [if_pos ⟨rfl, by omega⟩, if_pos ⟨rfl, c⟩]
    · rw [if_neg (fun z => by omega), if_neg (fun z => c z.2)]
theorem goP_self {M : Mat} {a m i : Nat} : goP M a m i a i = M a i := by
  unfold goP
  rw [if_neg (fun z => Nat.lt_irrefl _ z.2)]
theorem pure_go_through {p : Addr} {rs : List Addr} {M : Mat} {N a m : Nat} {st : Int} {r : Addr} {Q : VK} (R : RowsAt H p rs M N) (ha : a < N) (hm : m < N) (hN : N ≤ 13) (hs : M a m = some st) (hr : rs[a]? = some r)
    (k : ∀ H2, (∀ b o, b ≠ r → H b = some o → H2 b = some o) → H2 r = some (.lst (rowV (goR M a m) N a)) → Q .non H2) : t__go_through_0 K C (ends Q) [some (.ref p), some (.int (a : Int)), some (.int (m : Int)), none, none, none] H := by
  obtain ⟨rm, hrm, hqm⟩ := R.get hm
  have hqr := R.row a r hr
  have npr := R.apart hr
  have h0 := ev_at (K := K) (ta := tVar 0) (tb := tVar 1) (tc := tVar 2) (σ := [some (.ref p), some (.int (a : Int)), some (.int (m : Int)), none, none, none]) (H := H) (ev_var rfl) (ev_var rfl) (ev_var rfl) R.top hr hqr hm
  rw [hs] at h0
  refine q_asg (v := .int st) h0 fun H1 e1 => ?_
  refine el_listOf (ev_row (ev_var rfl) (ev_var rfl) (e1 _ _ R.top) hrm) (e1 _ _ hqm) H1 (Ex.refl _) _ fun L H2 hL e2 h2 => ?_
  have hLH : H L = none := fresh_back e1 hL
  have e12 : Ex H H2 := e1.trans e2
  refine ⟨L, _, rfl, sq_of h2, ?_⟩
  have ln : (rowV M N m).length = N := rowV_len
  refine for_it (walk_enum (K := K) (a := L) (xs := rowV M N m)) (fun i σ' H' => ∃ v4 v5, σ' = [some (.ref p), some (.int (a : Int)), some (.int (m : Int)), some (.int st), v4, v5] ∧ (∀ b o, b ≠ r → H2 b = some o → H' b = some o) ∧ H' r = some (.lst (rowV (goP M a m i) N a)))
    ⟨none, none, rfl, fun b o _ h => h, ?_⟩ (fun i σ' H' _ ⟨v4, v5, _, hk, _⟩ => sq_of (hk L _ (fun z => by rw [z, hqr] at hLH; exact nomatch hLH) h2)) (fun i x σ' H' H3 hi ⟨v4, v5, es, hk, hq⟩ y => ?_) (fun σ' H' ⟨v4, v5, es, hk, hq⟩ => ?_)
  · rw [e12 _ _ hqr, rowV_ext (D := M) (E := goP M a m 0) fun b _ => by unfold goP; rw [if_neg (fun z => Nat.not_lt_zero _ z.2)]]
  · subst es
    rw [ln] at hi
    obtain ⟨T, u, w, rfl, hT, rfl, hu, hw⟩ := y
    cases hu
    have hw2 : (rowV M N m)[i]? = some w := hw
    rw [rowV_at hi] at hw2
    cases hw2
    have eT : Ex H' (upd H' T (.tup [.int (i : Nat), ov (M m i)])) := Ex.new hT
    refine ⟨T, _, rfl, st_of upd_same, rfl, _, _, rfl, _, _, rfl, rfl, ?_⟩
    obtain ⟨H3, e3⟩ : ∃ H3, H3 = upd H' T (.tup [.int (i : Nat), ov (M m i)]) := ⟨_, rfl⟩
    rw [← e3] at eT ⊢
    have hk3 : ∀ b o, b ≠ r → H2 b = some o → H3 b = some o := fun b o hb h => eT _ _ (hk b o hb h)
    have hq3 : H3 r = some (.lst (rowV (goP M a m i) N a)) := eT _ _ hq
    have hp3 : H3 p = some (.lst (rs.map V.ref)) := hk3 p _ npr (e12 _ _ R.top)
    show tIfS _ _ _ _ [some (.ref p), some (.int (a : Int)), some (.int (m : Int)), some (.int st), some (.int (i : Nat)), some (ov (M m i))] H3
    have at_i : Ev (tOp (rIxL K) (tOp (rIxL K) (tVar 0) (tVar 1)) (tVar 4)) [some (.ref p), some (.int (a : Int)), some (.int (m : Int)), some (.int st), some (.int (i : Nat)), some (ov (M m i))] H3 (ov (M a i)) := by
      have := ev_at (K := K) (ta := tVar 0) (tb := tVar 1) (tc := tVar 4) (σ := [some (.ref p), some (.int (a : Int)), some (.int (m : Int)), some (.int st), some (.int (i : Nat)), some (ov (M m i))]) (H := H3) (ev_var rfl) (ev_var rfl) (ev_var rfl) hp3 hr hq3 hi
      rw [goP_self] at this
      exact this
    -- nothing to do
    have stay : mn (M a i) (ad (some st) (M m i)) = M a i → ∀ H4, Ex H3 H4 → ∃ v4 v5, [some (V.ref p), some (.int (a : Int)), some (.int (m : Int)), some (.int st), some (.int (i : Nat)), some (ov (M m i))] = [some (.ref p), some (.int (a : Int)), some (.int (m : Int)), some (.int st), v4, v5] ∧ (∀ b o, b ≠ r → H2 b = some o → H4 b = some o) ∧ H4 r = some (.lst (rowV (goP M a m (i + 1)) N a)) := fun hm2 H4 e4 => by
      refine ⟨_, _, rfl, fun b o hb h => e4 _ _ (hk3 b o hb h), ?_⟩
      rw [e4 _ _ hq3, rowV_ext (D := goP M a m i) (E := goP M a m (i + 1)) fun b _ => ?_]
      rw [goP_step hs]
      by_cases c : b = i
      · rw [if_pos c, hm2, c, goP_self]
      · rw [if_neg c]
    cases ef : M m i with
    | none =>
      have er : mn (M a i) (ad (some st) (M m i)) = M a i := by
        rw [ef]
        cases M a i <;> rfl
      have at5 : Ev (tVar 5) [some (.ref p), some (.int (a : Int)), some (.int (m : Int)), some (.int st), some (.int (i : Nat)), some (ov (M m i))] H3 .non := by
        rw [ef]
        exact ev_var rfl
      rw [← ef]
      exact s_when (b := false && false) (et_and (a := false) (b := false) (et_B (ev_notN at5)) fun z => nomatch z) (fun z => nomatch z) fun _ H4 e4 => stay er H4 e4
    | some f =>
      have at5 : Ev (tVar 5) [some (.ref p), some (.int (a : Int)), some (.int (m : Int)), some (.int st), some (.int (i : Nat)), some (ov (M m i))] H3 (.int f) := by
        rw [ef]
        exact ev_var rfl
      have sum : Ev (tOp rAddI (tVar 3) (tVar 5)) [some (.ref p), some (.int (a : Int)), some (.int (m : Int)), some (.int st), some (.int (i : Nat)), some (ov (M m i))] H3 (.int (st + f)) := ev_op (ev_var rfl) at5 rv_I0
      rw [← ef]
      have put : mn (M a i) (ad (some st) (M m i)) = some (st + f) → ∀ H4, Ex H3 H4 → tAsg (tOp rAddI (tVar 3) (tVar 5)) (gSub (tOp (rIxL K) (tVar 0) (tVar 1)) (tVar 4) rSetL) { ends Q with nx := fun σ' H' => ∃ v4 v5, σ' = [some (V.ref p), some (.int (a : Int)), some (.int (m : Int)), some (.int st), v4, v5] ∧ (∀ b o, b ≠ r → H2 b = some o → H' b = some o) ∧ H' r = some (.lst (rowV (goP M a m (i + 1)) N a)), ct := fun σ' H' => ∃ v4 v5, σ' = [some (V.ref p), some (.int (a : Int)), some (.int (m : Int)), some (.int st), v4, v5] ∧ (∀ b o, b ≠ r → H2 b = some o → H' b = some o) ∧ H' r = some (.lst (rowV (goP M a m (i + 1)) N a)), bk := (ends Q).nx } [some (.ref p), some (.int (a : Int)), some (.int (m : Int)), some (.int st), some (.int (i : Nat)), some (ov (M m i))] H4 := fun he H4 e4 => by
        refine s_setL (l := r) (xs := rowV (goP M a m i) N a) (j := i) (v := .int (st + f)) (e4 _ _ hq3) (sum.mono e4) (ev_row (ev_var rfl) (ev_var rfl) (e4 _ _ hp3) hr) (ev_var rfl) (by rw [rowV_len]; exact hi) fun H5 e5 => ?_
        refine ⟨_, _, rfl, fun b o hb h => by rw [upd_ne hb]; exact e5 _ _ (e4 _ _ (hk3 b o hb h)), ?_⟩
        rw [upd_same]
        refine congrArg (fun l => some (HO.lst l)) (rowV_set hi ?_ fun b hb hne => ?_)
        · rw [goP_step hs, if_pos rfl, he]
        · rw [goP_step hs, if_neg hne]
      cases ec : M a i with
      | none =>
        rw [ec] at at_i
        have he : mn (M a i) (ad (some st) (M m i)) = some (st + f) := by rw [ec, ef]; rfl
        exact s_when (b := true && (true || true)) (et_and (a := true) (b := true || true) (et_B (ev_notN at5)) fun _ => et_or (a := true) (et_B (ev_isN at_i)) fun z => nomatch z) (fun _ H4 e4 => put he H4 e4) fun z => nomatch z
      | some c =>
        rw [ec] at at_i
        have tst : EvT (tAnd (tB (tNotN (tVar 5))) (tOr (tB (tIsN (tOp (rIxL K) (tOp (rIxL K) (tVar 0) (tVar 1)) (tVar 4)))) (tTest (tOp rLtI (tOp rAddI (tVar 3) (tVar 5)) (tOp (rIxL K) (tOp (rIxL K) (tVar 0) (tVar 1)) (tVar 4)))))) [some (.ref p), some (.int (a : Int)), some (.int (m : Int)), some (.int st), some (.int (i : Nat)), some (ov (M m i))] H3 (true && (false || decide (st + f < c))) :=
          et_and (a := true) (et_B (ev_notN at5)) fun _ => et_or (a := false) (et_B (ev_isN at_i)) fun _ => et_test (ev_op sum at_i rv_I0)
        rw [Bool.true_and, Bool.false_or] at tst
        refine s_when tst (fun hb H4 e4 => put ?_ H4 e4) fun hb H4 e4 => stay ?_ H4 e4
        · rw [ec, ef]
          show some (if st + f < c then st + f else c) = _
          rw [if_pos (of_decide_eq_true hb)]
        · rw [ec, ef]
          show some (if st + f < c then st + f else c) = _
          rw [if_neg (of_decide_eq_false hb)]
  · subst es
    rw [ln] at hq
    refine k H' (fun b o hb h => hk b o hb (e12 _ _ h)) ?_
    rw [hq]
    refine congrArg (fun l => some (HO.lst l)) (rowV_ext fun b hb => ?_)
    unfold goP goR
    rw [if_pos ⟨rfl, hb⟩, if_pos rfl]
end
end Bw
/-! The least ways of a table. -/
namespace Bw
open PySem PySem.Spec PyProof.Rows L2 Evl
def lookE (E : List Edge) (a b : Nat) : Option Int := (E.find? fun e => decide (e.1 = a) && decide (e.2.1 = b)).map (·.2.2)
def sp__least_ways (C : Addr) : Sp := spOf fun vs H P => ∃ t n E, vs = [.ref t] ∧ TabAt C H t n E ∧ P = fun v H2 => (v = .non ∧ ∀ s, ¬ Fits (n + 1) s (matE E)) ∨
  ∃ p rs D, v = .ref p ∧ RowsAt H2 p rs D (n + 1) ∧ Closed (n + 1) D ∧ (∀ s, Fits (n + 1) s (matE E) ↔ Fits (n + 1) s D) ∧ ∀ a b, a < n + 1 → b < n + 1 → Lo (D a b) (matE E a b)
def t__least_ways_5 (K : PySem.W.Frag) (C : Addr) : TS := (tRet (tVar 3))
def t__least_ways_4 (K : PySem.W.Frag) (C : Addr) : TS := tSeq (tFor (iRng1 (tCons (tVar 1) tNil)) (gName 5) (tSeq (tIfS (tTest (tOp rLtI (tOp (rIxL K) (tOp (rIxL K) (tVar 3) (tVar 5)) (tVar 5)) (tC (.int 0)))) (tRet (tC .non)) tNext) (tFor (iRng1 (tCons (tVar 1) tNil)) (gName 4) (tIfS (tB (tNotN (tOp (rIxL K) (tOp (rIxL K) (tVar 3) (tVar 4)) (tVar 5)))) (tDrop (tCall (sp__go_through C) [] E0 (tCons (tVar 3) (tCons (tVar 4) (tCons (tVar 5) tNil))))) tNext)))) (t__least_ways_5 K C)
def t__least_ways_3 (K : PySem.W.Frag) (C : Addr) : TS := tSeq (tFor (iRng1 (tCons (tVar 1) tNil)) (gName 4) (tAsg (tC (.int 0)) (gSub (tOp (rIxL K) (tVar 3) (tVar 4)) (tVar 4) rSetL))) (t__least_ways_4 K C)
def t__least_ways_2 (K : PySem.W.Frag) (C : Addr) : TS := tSeq (tAsg (tLc (iRng1 (tCons (tVar 1) tNil)) (gName 6) tYes (tLc (iRng1 (tCons (tVar 1) tNil)) (gName 7) tYes (tDGet1 (tVar 2) (tTup (tCons (tVar 6) (tCons (tVar 7) tNil)))) [7]) [6]) (gName 3)) (t__least_ways_3 K C)
def t__least_ways_1 (K : PySem.W.Frag) (C : Addr) : TS := tSeq (tAsg (tProp C (sp_Table_bounds C) [] E0 (tVar 0)) (gName 2)) (t__least_ways_2 K C)
def t__least_ways_0 (K : PySem.W.Frag) (C : Addr) : TS := tSeq (tAsg (tOp rAddI (tProp C (sp_Table_size C) [] E0 (tVar 0)) (tC (.int 1))) (gName 1)) (t__least_ways_1 K C)
section
variable {K : PySem.W.Frag} {C : Addr} {σ : L2.St} {H : Hp} {ta tb tc te : TE} {D : Ends} {t n : Nat} {E : List Edge}
theorem ev_propSize (h : Ev te σ H (.ref t)) (T : TabAt C H t n E) : Ev (tProp C (sp_Table_size C) [] E0 te) σ H (.int (n : Int)) := fun H1 e Q q => h H1 e _ fun H2 e2 => by
  have T2 := T.ex (e.trans e2)
  obtain ⟨dx, d, h1, _⟩ := id T2
  exact ⟨t, dx, _, rfl, h1, isV (.int (n : Int)), ⟨t, n, E, rfl, T2, rfl⟩, fun v H3 e3 hv => by
    rw [show v = .int (n : Int) from hv]
    exact q H3 (e2.trans e3)⟩
theorem q_bounds {i : Nat} {tz : TS} (h : Ev te σ H (.ref t)) (T : TabAt C H t n E) (k : ∀ d H1, H d = none → Ex H H1 → H1 d = some (.dT (E.map kvE)) → tz D (σ.set i (some (.ref d))) H1) : tSeq (tAsg (tProp C (sp_Table_bounds C) [] E0 te) (gName i)) tz D σ H := by
  refine h H (Ex.refl H) _ fun H2 e2 => ?_
  have T2 := T.ex e2
  obtain ⟨dx, d, h1, _⟩ := id T2
  exact ⟨t, dx, _, rfl, h1, t, n, E, rfl, T2, fun d' H3 hd e3 h3 => k d' H3 (fresh_back e2 hd) (e2.trans e3) h3⟩
theorem val_look {a b : Nat} : valV (E.map kvE) (pk ((a : Int), (b : Int))) = (lookE E a b).map V.int := by
  induction E with
  | nil => rfl
  | cons e r ih =>
    rw [List.map_cons]
    by_cases c : e.1 = a ∧ e.2.1 = b
    · rw [valV_pos (show (kvE e).1 = pk ((a : Int), (b : Int)) by rw [← c.1, ← c.2]; rfl)]
      unfold lookE
      rw [List.find?_cons_of_pos (by simp [c.1, c.2])]
      rfl
    · rw [valV_neg (fun z => c (by
        have h1 : (Sum.inl (e.1 : Int) : Key) = Sum.inl (a : Int) := (List.cons.inj z).1
        have h2 : (Sum.inl (e.2.1 : Int) : Key) = Sum.inl (b : Int) := (List.cons.inj (List.cons.inj z).2).1
        have h1 := Sum.inl.inj h1
        have h2 := Sum.inl.inj h2
        exact ⟨by omega, by omega⟩)), ih]
      unfold lookE
      rw [List.find?_cons_of_neg (by
        intro z
        rw [Bool.and_eq_true, decide_eq_true_eq, decide_eq_true_eq] at z
        exact c z)]
theorem ov_get (o : Option Int) : (o.map V.int).getD .non = ov o := by cases o <;> rfl
/-- bounds.get((a, b)) -/
theorem ev_get {d : Addr} {a b : Nat} (h0 : Ev ta σ H (.ref d)) (h1 : Ev tb σ H (.int (a : Int))) (h2 : Ev tc σ H (.int (b : Int))) (hd : H d = some (.dT (E.map kvE))) : Ev (tDGet1 ta (tTup (tCons tb (tCons tc tNil)))) σ H (ov (lookE E a b)) := fun H1 e Q q =>
  h0 H1 e _ fun H2 e2 => ⟨d, rfl, Or.inr ⟨_, Or.inl ((e.trans e2) _ _ hd)⟩, eu_tup (ea_cons h1 (ea_cons h2 ea_nil)) (show 2 ≤ 100000 by decide) H2 (e.trans e2) _ fun p H3 hp e3 h3 => ⟨_, DGet.t (k := pk ((a : Int), (b : Int))) (((e.trans e2).trans e3) _ _ hd) h3, by
    rw [val_look, ov_get]
    exact q H3 (e2.trans e3)⟩⟩
/-- a list of new lists -/
theorem rows_made {ta : TA} {j : Nat} {vs : List Nat} {N : Nat} {row : Nat → List V} (h : EvA ta σ H [.int (N : Int)]) (hN : N ≤ 30000) (hw : ∀ x, wipe ((wipe σ vs).set j (some x)) vs = wipe σ vs)
    (he : ∀ (a : Nat) H1, Ex H H1 → a < N → EvL te ((wipe σ vs).set j (some (.int (a : Int)))) H1 (row a)) {Q : VK}
    (q : ∀ (p : Addr) (rs : List Addr) (H2 : Hp), Ex H H2 → H p = none → H2 p = some (.lst (rs.map V.ref)) → rs.length = N → rs.Nodup → (∀ r ∈ rs, H r = none) → (∀ a r, rs[a]? = some r → H2 r = some (.lst (row a))) → Q (.ref p) H2) : tLc (iRng1 ta) (gName j) tYes te vs σ H Q := by
  refine h H (Ex.refl H) _ fun H1 e1 => ⟨(N : Int), rfl, by omega, by omega, fun Dl hD => ?_⟩
  refine lc_it (walk_range (lo := 0) (n := (N : Int).toNat)) (fun i H' => Ex H1 H' ∧ ∃ rs : List Addr, H' Dl = some (.lst (rs.map V.ref)) ∧ rs.length = i ∧ rs.Nodup ∧ (∀ r ∈ rs, H1 r = none ∧ r ≠ Dl) ∧ ∀ a r, rs[a]? = some r → H' r = some (.lst (row a)))
    ⟨Ex.new hD, [], upd_same, rfl, List.nodup_nil, fun r hr => (nomatch hr), fun a r hr => by cases hr⟩ (fun _ _ _ _ => True.intro) (fun i x H' H2 hi ⟨ex, rs, r1, r2, r3, r4, r5⟩ y => ?_) (fun H' ⟨ex, rs, r1, r2, r3, r4, r5⟩ => ?_)
  · obtain ⟨rfl, rfl⟩ := y
    have hiN : i < N := by omega
    refine ⟨hw _, ?_⟩
    unfold tYes
    refine iteT ?_
    show te ((wipe σ vs).set j (some (.int ((0 : Int) + (i : Int))))) H2 _
    rw [show (0 : Int) + (i : Int) = (i : Int) from Int.zero_add _]
    refine he i H2 (e1.trans ex) hiN H2 (Ex.refl _) _ fun p H3 hp e3 h3 => ?_
    have npD : p ≠ Dl := fun z => by rw [z, r1] at hp; exact nomatch hp
    have npr : p ∉ rs := fun hm => by
      obtain ⟨a, ha, er⟩ := List.mem_iff_getElem.mp hm
      have := r5 a p (by rw [List.getElem?_eq_getElem ha, er])
      rw [this] at hp
      exact nomatch hp
    have hp1 : H1 p = none := fresh_back ex hp
    refine ⟨_, e3 _ _ r1, by rw [List.length_map, r2]; exact sz_lt (by omega), Ex.mut (ex.trans e3) hD, rs ++ [p], ?_, by rw [List.length_append, r2]; rfl, ?_, fun r hr => ?_, fun a r hr => ?_⟩
    · rw [upd_same, List.map_append]
      rfl
    · rw [List.nodup_append]
      refine ⟨r3, by simp, fun x hx y hy => ?_⟩
      rw [List.mem_singleton.mp hy]
      exact fun z => npr (z ▸ hx)
    · rcases List.mem_append.mp hr with hr | hr
      · exact r4 r hr
      · rw [List.mem_singleton.mp hr]
        exact ⟨hp1, npD⟩
    · rcases Nat.lt_or_ge a rs.length with ha | ha
      · rw [List.getElem?_append_left ha] at hr
        rw [upd_ne (r4 r (List.mem_of_getElem? hr)).2]
        exact e3 _ _ (r5 a r hr)
      · rw [List.getElem?_append_right ha] at hr
        have ea : a - rs.length = 0 := by
          have := (List.getElem?_eq_some_iff.mp hr).1
          simp at this
          omega
        rw [ea] at hr
        cases hr
        have : a = i := by omega
        rw [upd_ne npD, this]
        exact h3
  · refine q Dl rs H' (e1.trans ex) (fresh_back e1 hD) r1 (by rw [r2]; omega) r3 (fun r hr => fresh_back e1 (r4 r hr).1) r5
/-- the rows are new since H -/
structure LW (H : Hp) (p : Addr) (rs : List Addr) (M : Mat) (N : Nat) (H' : Hp) : Prop where
  ex : Ex H H'
  rows : RowsAt H' p rs M N
  new : ∀ r ∈ rs, H r = none
theorem LW.go {H' H2 : Hp} {p : Addr} {rs : List Addr} {M : Mat} {N : Nat} (w : LW H p rs M N H') (e : Ex H' H2) : LW H p rs M N H2 := ⟨w.ex.trans e, w.rows.ex e, w.new⟩
/-- one row otherwise -/
theorem LW.put {H' H2 : Hp} {p : Addr} {rs : List Addr} {M M' : Mat} {N a : Nat} {r : Addr} (w : LW H p rs M N H') (hr : rs[a]? = some r) (k : ∀ b o, b ≠ r → H' b = some o → H2 b = some o) (h : H2 r = some (.lst (rowV M' N a))) (hM : ∀ x y, x ≠ a → x < N → y < N → M' x y = M x y) : LW H p rs M' N H2 := by
  have hm : r ∈ rs := List.mem_of_getElem? hr
  refine ⟨fun b o hb => k b o (fun z => ?_) (w.ex b o hb), ⟨k _ _ (w.rows.apart hr) w.rows.top, w.rows.len, w.rows.nd, fun x q hq => ?_⟩, w.new⟩
  · rw [z, w.new r hm] at hb
    exact nomatch hb
  · have hx : x < N := by
      have := (List.getElem?_eq_some_iff.mp hq).1
      rw [w.rows.len] at this
      exact this
    by_cases c : x = a
    · rw [c] at hq
      rw [hr] at hq
      cases hq
      rw [c]
      exact h
    · have nq : q ≠ r := fun z => by
        obtain ⟨i1, g1⟩ := List.getElem?_eq_some_iff.mp hq
        obtain ⟨i2, g2⟩ := List.getElem?_eq_some_iff.mp hr
        have := List.pairwise_iff_getElem.mp w.rows.nd
        rcases Nat.lt_or_gt_of_ne c with l | l
        · exact this x a i1 i2 l (by rw [g1, g2, z])
        · exact this a x i2 i1 l (by rw [g1, g2, z])
      rw [k _ _ nq (w.rows.row x q hq), rowV_ext fun b hb => (hM x b c hx hb)]
theorem LW.mat {H' : Hp} {p : Addr} {rs : List Addr} {M M' : Mat} {N : Nat} (w : LW H p rs M N H') (h : ∀ x y, x < N → y < N → M' x y = M x y) : LW H p rs M' N H' := by
  refine ⟨w.ex, ⟨w.rows.top, w.rows.len, w.rows.nd, fun x q hq => ?_⟩, w.new⟩
  have hx : x < N := by
    have := (List.getElem?_eq_some_iff.mp hq).1
    rw [w.rows.len] at this
    exact this
  rw [w.rows.row x q hq, rowV_ext fun b hb => (h x b hx hb)]
theorem given_all {N : Nat} {v : Nat → V} : given N (fun _ => true) v = (List.range N).map v := by
  unfold given
  rw [List.filter_eq_self.mpr (fun _ _ => rfl)]
def diag (E : List Edge) (i : Nat) : Mat := fun x y => if x = y ∧ x < i then some 0 else lookE E x y
def part (M : Mat) (m a : Nat) : Mat := fun x y => if x < a then fwS m M x y else M x y
abbrev sLW (t N d p : V) (v4 v5 : Option V) : L2.St := [some t, some N, some d, some p, v4, v5, none, none]
theorem pure_least_ways {Q : VK} (T : TabAt C H t n E)
    (k : ∀ v H2, Ex H H2 → ((v = .non ∧ ∀ s, ¬ Fits (n + 1) s (matE E)) ∨ ∃ p rs D, v = .ref p ∧ RowsAt H2 p rs D (n + 1) ∧ Closed (n + 1) D ∧ (∀ s, Fits (n + 1) s (matE E) ↔ Fits (n + 1) s D) ∧ ∀ a b, a < n + 1 → b < n + 1 → Lo (D a b) (matE E a b)) → Q v H2) :
    t__least_ways_0 K C (ends Q) [some (.ref t), none, none, none, none, none, none, none] H := by
  obtain ⟨N, eN⟩ : ∃ N, N = n + 1 := ⟨_, rfl⟩
  have hn : n ≤ 12 := by obtain ⟨_, _, _, _, _, _, _, h⟩ := id T; exact h
  rw [← eN] at k
  have hN : N ≤ 13 := by omega
  refine q_asg (v := .int (N : Int)) (ev_is (ev_op (ev_propSize (ev_var rfl) T) ev_c rv_I0) (by rw [eN]; rfl)) fun H1 e1 => ?_
  refine q_bounds (ev_var rfl) (T.ex e1) fun d H2 hd e2 h2 => ?_
  unfold t__least_ways_2 tSeq tAsg
  refine rows_made (σ := [some (.ref t), some (.int (N : Int)), some (.ref d), none, none, none, none, none]) (ta := tCons (tVar 1) tNil) (j := 6) (vs := [6]) (N := N) (row := fun a => rowV (lookE E) N a) (ea_cons (ev_var rfl) ea_nil) (by omega) (fun x => rfl) (fun a H3 e3 ha => ?_) (fun p rs H3 e3 hp htop hlen hnd hnew hrow => ?_)
  · have := el_lcR1 (σ := (wipe [some (V.ref t), some (.int (N : Int)), some (.ref d), none, none, none, none, none] [6]).set 6 (some (.int (a : Int)))) (H := H3) (ta := tCons (tVar 1) tNil) (te := tDGet1 (tVar 2) (tTup (tCons (tVar 6) (tCons (tVar 7) tNil)))) (t := tYes) (j := 7) (vs := [7]) (n := (N : Int)) (fun _ => true) (fun b => ov (lookE E a b))
      (ea_cons (ev_var rfl) ea_nil) (by omega) (fun x => rfl) (fun b H4 e4 hb => et_yes) (fun b H4 e4 hb _ => ev_get (ev_var rfl) (ev_var rfl) (ev_var rfl) (e4 _ _ (e3 _ _ h2)))
    rw [given_all, Int.toNat_natCast] at this
    exact this
  show t__least_ways_3 K C (ends Q) [some (.ref t), some (.int (N : Int)), some (.ref d), some (.ref p), none, none, none, none] H3
  have w0 : LW H p rs (lookE E) N H3 := ⟨e1.trans (e2.trans e3), ⟨htop, hlen, hnd, hrow⟩, fun r hr => fresh_back (e1.trans e2) (hnew r hr)⟩
  refine q_forR1 (n := (N : Int)) (ea_cons (ev_var rfl) ea_nil) (by omega) (fun i σ' H' => ∃ v4, σ' = sLW (.ref t) (.int (N : Int)) (.ref d) (.ref p) v4 none ∧ LW H p rs (diag E i) N H') (fun H4 e4 => ⟨none, rfl, (w0.go e4).mat fun x y _ _ => ?_⟩) (fun i σ' H' hi ⟨v4, es, w⟩ => ?_) (fun σ' H' ⟨v4, es, w⟩ => ?_)
  · unfold diag
    rw [if_neg (fun z => Nat.not_lt_zero _ z.2)]
  · subst es
    have hiN : i < N := by omega
    obtain ⟨r, hr, hq⟩ := w.rows.get hiN
    show tAsg _ _ _ (sLW (.ref t) (.int (N : Int)) (.ref d) (.ref p) (some (.int (i : Int))) none) H'
    refine s_setL (l := r) (xs := rowV (diag E i) N i) (j := i) (v := .int 0) hq ev_c (ev_row (ev_var rfl) (ev_var rfl) w.rows.top hr) (ev_var rfl) (by rw [rowV_len]; exact hiN) fun H5 e5 => ?_
    refine ⟨_, rfl, (w.go e5).put hr (fun b o hb h => by rw [upd_ne hb]; exact h) ?_ (fun x y hx _ _ => ?_)⟩
    · rw [upd_same]
      refine congrArg (fun l => some (HO.lst l)) (rowV_set hiN ?_ fun b _ hb => ?_)
      · unfold diag
        rw [if_pos ⟨rfl, Nat.lt_succ_self i⟩]
      · unfold diag
        rw [if_neg (fun z => hb z.1.symm), if_neg (fun z => hb z.1.symm)]
    · unfold diag
      by_cases c : x = y
      · by_cases l : x < i
        · rw [if_pos ⟨c, by omega⟩, if_pos ⟨c, l⟩]
        · rw [if_neg (fun z => by omega), if_neg (fun z => l z.2)]
      · rw [if_neg (fun z => c z.1), if_neg (fun z => c z.1)]
  subst es
  rw [Int.toNat_natCast] at w
  have w1 : LW H p rs (matE E) N H' := w.mat fun x y hx _ => by
    unfold matE diag
    by_cases c : x = y
    · rw [if_pos c, if_pos ⟨c, hx⟩]
    · rw [if_neg c, if_neg (fun z => c z.1)]
      rfl
  refine q_forR1 (n := (N : Int)) (ea_cons (ev_var rfl) ea_nil) (by omega) (fun m σ' H' => ∃ v4 v5 M, σ' = sLW (.ref t) (.int (N : Int)) (.ref d) (.ref p) v4 v5 ∧ LW H p rs M N H' ∧ Fwi N (matE E) m M)
    (fun H4 e4 => ⟨_, _, _, rfl, w1.go e4, fwi_start fun a _ => by unfold matE; rw [if_pos rfl]⟩) (fun m σ' H' hm ⟨v4, v5, M, es, w, I⟩ => ?_) (fun σ' H' ⟨v4, v5, M, es, w, I⟩ => ?_)
  · subst es
    have hmN : m < N := by omega
    obtain ⟨x, hx, _⟩ := I.dg m hmN
    obtain ⟨r, hr, hq⟩ := w.rows.get hmN
    show tSeq _ _ _ (sLW (.ref t) (.int (N : Int)) (.ref d) (.ref p) v4 (some (.int (m : Int)))) H'
    have atm := ev_at (K := K) (ta := tVar 3) (tb := tVar 5) (tc := tVar 5) (σ := sLW (.ref t) (.int (N : Int)) (.ref d) (.ref p) v4 (some (.int (m : Int)))) (H := H') (ev_var rfl) (ev_var rfl) (ev_var rfl) w.rows.top hr hq hmN
    rw [hx] at atm
    refine q_when (b := decide (x < 0)) (et_test (ev_op atm ev_c rv_I0)) (fun hb H4 e4 => ?_) (fun hb H4 e4 => ?_)
    · refine s_ret ev_c fun H5 e5 => k .non H5 (w.ex.trans (e4.trans e5)) (Or.inl ⟨rfl, fun s => ?_⟩)
      exact fwi_neg I hmN hx (of_decide_eq_true hb) s
    · have nn : NonNeg (M m m) := fun v hv => by
        rw [hx] at hv
        have hb := of_decide_eq_false hb
        cases hv
        omega
      refine s_forR1 (n := (N : Int)) (ea_cons (ev_var rfl) ea_nil) (by omega) (fun a σ' H' => ∃ v4, σ' = sLW (.ref t) (.int (N : Int)) (.ref d) (.ref p) v4 (some (.int (m : Int))) ∧ LW H p rs (part M m a) N H')
        (fun H5 e5 => ⟨_, rfl, (w.go (e4.trans e5)).mat fun x y _ _ => by unfold part; rw [if_neg (Nat.not_lt_zero _)]⟩) (fun a σ' H' ha ⟨v4, es, w⟩ => ?_) (fun σ' H' ⟨v4, es, w⟩ => ?_)
      · subst es
        have haN : a < N := by omega
        obtain ⟨ra, hra, hqa⟩ := w.rows.get haN
        show tIfS _ _ _ _ (sLW (.ref t) (.int (N : Int)) (.ref d) (.ref p) (some (.int (a : Int))) (some (.int (m : Int)))) H'
        have ata := ev_at (K := K) (ta := tVar 3) (tb := tVar 4) (tc := tVar 5) (σ := sLW (.ref t) (.int (N : Int)) (.ref d) (.ref p) (some (.int (a : Int))) (some (.int (m : Int)))) (H := H') (ev_var rfl) (ev_var rfl) (ev_var rfl) w.rows.top hra hqa hmN
        have pam : part M m a a m = M a m := by unfold part; rw [if_neg (Nat.lt_irrefl a)]
        rw [pam] at ata
        have pmy : ∀ y, part M m a m y = M m y := fun y => by
          unfold part
          by_cases c : m < a
          · rw [if_pos c]
            show mn (M m y) (ad (M m m) (M m y)) = M m y
            rw [hx]
            have x0 := nn x hx
            cases M m y with
            | none => rfl
            | some v =>
              show some (if x + v < v then x + v else v) = some v
              rw [if_neg (by omega)]
          · rw [if_neg c]
        cases em : M a m with
        | none =>
          rw [em] at ata
          refine s_when (b := false) (et_B (ev_notN ata)) (fun z => nomatch z) fun _ H5 e5 => ⟨_, rfl, (w.go e5).mat fun x y _ _ => ?_⟩
          unfold part
          by_cases c : x < a
          · rw [if_pos c, if_pos (by omega)]
          · by_cases c2 : x = a
            · rw [if_neg c, if_pos (by omega), c2]
              show mn (M a y) (ad (M a m) (M m y)) = M a y
              rw [em]
              cases M a y <;> rfl
            · rw [if_neg c, if_neg (by omega)]
        | some st =>
          rw [em] at ata
          refine s_when (b := true) (et_B (ev_notN ata)) (fun _ H5 e5 => ?_) fun z => nomatch z
          have w5 := w.go e5
          have args : EvA (tCons (tVar 3) (tCons (tVar 4) (tCons (tVar 5) tNil))) (sLW (.ref t) (.int (N : Int)) (.ref d) (.ref p) (some (.int (a : Int))) (some (.int (m : Int)))) H5 [.ref p, .int (a : Int), .int (m : Int)] := ea_cons (ev_var rfl) (ea_cons (ev_var rfl) (ea_cons (ev_var rfl) ea_nil))
          unfold tDrop tCall
          refine args H5 (Ex.refl _) _ fun H6 e6 => ?_
          have w6 := w5.go e6
          refine ⟨p, rs, part M m a, N, a, m, st, ra, rfl, w6.rows, haN, hmN, hN, by rw [pam]; exact em, hra, fun H7 kp hrow7 => ⟨_, rfl, w6.put hra kp ?_ fun x y hxa _ _ => ?_⟩⟩
          · rw [hrow7]
            refine congrArg (fun l => some (HO.lst l)) (rowV_ext fun b _ => ?_)
            unfold goR
            rw [if_pos rfl, pam, pmy]
            unfold part
            rw [if_neg (Nat.lt_irrefl a), if_pos (Nat.lt_succ_self a)]
            rfl
          · unfold part
            by_cases c : x < a
            · rw [if_pos c, if_pos (by omega)]
            · rw [if_neg c, if_neg (by omega)]
      · subst es
        rw [Int.toNat_natCast] at w
        exact ⟨_, _, fwS m M, rfl, w.mat fun x y hx _ => by unfold part; rw [if_pos hx], fwi_step I hmN nn⟩
  · subst es
    rw [Int.toNat_natCast] at I
    refine s_ret (ev_var rfl) fun H5 e5 => k (.ref p) H5 (w.ex.trans e5) (Or.inr ⟨p, rs, M, rfl, w.rows.ex e5, fwi_end I, fun s => ⟨I.sound s, fits_lo I.lo⟩, I.lo⟩)
end
end Bw
/-! Tables made. -/
namespace Bw
open PySem PySem.Spec PyProof.Rows L2 Evl
def sp__are_bounds (C : Addr) : Sp := spOf fun vs H P => ∃ (b : Addr) (n : Nat) (E : List Edge), vs = [.ref b, .int (n : Int)] ∧ H b = some (.dT (E.map kvE)) ∧ GoodE (n + 1) E ∧ (E.map ekey).Nodup ∧ P = isV (.bl true)
def sp_Table___init__ (C : Addr) : Sp := fun vs H Q _ => ∃ (x dx b : Addr) (n : Nat) (E : List Edge), vs = [.ref x, .int (n : Int), .ref b] ∧ H x = some (.ins C dx []) ∧ H b = some (.dT (E.map kvE)) ∧ GoodE (n + 1) E ∧ (E.map ekey).Nodup ∧ 1 ≤ n ∧ n ≤ 12 ∧ E.length ≤ 1000 ∧
  ∀ H2 E', (∀ c o, c ≠ x → H c = some o → H2 c = some o) → TabAt C H2 x n E' → E'.Perm E → Q .non H2
def t__are_bounds_2 (K : PySem.W.Frag) (C : Addr) : TS := (tRet (tC (.bl true)))
def t__are_bounds_1 (K : PySem.W.Frag) (C : Addr) : TS := tSeq (tLock (tFor (iKeys (tVar 0)) (gName 2) (tSeq (tIfS (tOr (tNot (tB (tCall (sp_is_pair C) [] E0 (tCons (tVar 2) tNil)))) (tNot (tB (tCall (sp_is_number C) [] E0 (tCons (tDGet (tVar 0) (tVar 2)) tNil))))) (tRet (tC (.bl false))) tNext) (tIfS (tOr (tNot (tB (tCB (rAll K) (tCons (tLc (iTup K (tVar 2)) (gName 3) tYes (tCall (sp_is_number_between C) [] E0 (tCons (tVar 3) (tCons (tC (.int 0)) (tCons (tVar 1) tNil)))) [3]) tNil)))) (tTest (tOp rEq (tOp (rIxT K) (tVar 2) (tC (.int 0))) (tOp (rIxT K) (tVar 2) (tC (.int 1)))))) (tRet (tC (.bl false))) tNext)))) (t__are_bounds_2 K C)
def t__are_bounds_0 (K : PySem.W.Frag) (C : Addr) : TS := tSeq (tIfS (tNot (tB (tCB (rIsi K) (tCons (tVar 0) (tCons (tC (.ty "dict")) tNil))))) (tRet (tC (.bl false))) tNext) (t__are_bounds_1 K C)
def t_Table___init___4 (K : PySem.W.Frag) (C : Addr) : TS := (sFld K (tVar 0) (tDt (iList K (tCB rSortedDT (tCons (tVar 2) tNil))) (gName 3) tYes (tVar 3) (tDGet (tVar 2) (tVar 3)) [3]) "_bounds")
def t_Table___init___3 (K : PySem.W.Frag) (C : Addr) : TS := tSeq (sFld K (tVar 0) (tVar 1) "_size") (t_Table___init___4 K C)
def t_Table___init___2 (K : PySem.W.Frag) (C : Addr) : TS := tSeq (tIfS (tNot (tB (tCall (sp__are_bounds C) [] E0 (tCons (tVar 2) (tCons (tVar 1) tNil))))) tNever tNext) (t_Table___init___3 K C)
def t_Table___init___1 (K : PySem.W.Frag) (C : Addr) : TS := tSeq (tIfS (tB (tIsN (tVar 2))) (tAsg tDNewT (gName 2)) tNext) (t_Table___init___2 K C)
def t_Table___init___0 (K : PySem.W.Frag) (C : Addr) : TS := tSeq (tIfS (tNot (tB (tCall (sp_is_number_between C) [] E0 (tCons (tVar 1) (tCons (tC (.int 1)) (tCons (tC (.int 12)) tNil)))))) tNever tNext) (t_Table___init___1 K C)
section
variable {K : PySem.W.Frag} {C : Addr} {σ : L2.St} {H : Hp} {ta tb tc te : TE} {D : Ends} {t n : Nat} {E : List Edge}
theorem ev_dget {d q : Addr} {k : List Key} {v : V} {kvs : List (List Key × V)} (h0 : Ev ta σ H (.ref d)) (h1 : Ev tb σ H (.ref q)) (hd : Rd H d (.dT kvs)) (hq : H q = some (.tup (k.map kV))) (hv : valV kvs k = some v) : Ev (tDGet ta tb) σ H v := fun H1 e Q r =>
  h0 H1 e _ fun H2 e2 => h1 H2 (e.trans e2) _ fun H3 e3 => ⟨d, v, rfl, Or.inr ⟨kvs, k, q, ex_rd ((e.trans e2).trans e3) hd, rfl, ((e.trans e2).trans e3) _ _ hq, hv.symm⟩, r H3 (e2.trans e3)⟩
theorem edge_at {i : Nat} {k : List Key} {v : V} (h : (E.map kvE)[i]? = some (k, v)) : ∃ e, E[i]? = some e ∧ k = ekey e ∧ v = .int e.2.2 := by
  rw [List.getElem?_map] at h
  obtain ⟨e, he, z⟩ := Option.map_eq_some_iff.mp h
  cases z
  exact ⟨e, he, rfl, rfl⟩
/-- a statement while a dict is locked, and what is behind it -/
theorem q_lock {tu tz : TS} {d : Addr} {u : HO} (hd : H d = some u) (mu : Mut (some u)) (h : ∀ od, tu ⟨fun σ' H' => H' d = some (.frz od u) ∧ tz D σ' (upd H' d u), fun v H' => H' d = some (.frz od u) ∧ D.rt v (upd H' d u), fun σ' H' => H' d = some (.frz od u) ∧ D.bk σ' (upd H' d u), fun σ' H' => H' d = some (.frz od u) ∧ D.ct σ' (upd H' d u)⟩ σ (upd H d (.frz od u))) : tSeq (tLock tu) tz D σ H := ⟨d, u, hd, mu, h⟩
/-- a for over the keys of a locked dict -/
theorem s_forKT {td : TE} {g : TG} {tu : TS} {d : Addr} {od : Obj} {kvs : List (List Key × V)} (h : Ev td σ H (.ref d)) (hd : H d = some (.frz od (.dT kvs))) (Pv : Nat → L2.St → Hp → Prop) (h0 : ∀ H1, Ex H H1 → Pv 0 σ H1) (hG : ∀ i σ' H', i ≤ kvs.length → Pv i σ' H' → H' d = some (.frz od (.dT kvs)))
    (hs : ∀ i k v q σ' H', kvs[i]? = some (k, v) → H' q = some (.tup (k.map kV)) → Pv i σ' H' → g (.ref q) σ' H' fun σ2 H2 => tu { D with nx := Pv (i + 1), ct := Pv (i + 1), bk := D.nx } σ2 H2) (he : ∀ σ' H', Pv kvs.length σ' H' → D.nx σ' H') : tFor (iKeys td) g tu D σ H :=
  h H (Ex.refl H) _ fun H1 e => ⟨d, od, rfl, Or.inr ⟨kvs, e _ _ hd, for_it walk_keysT Pv (h0 H1 e) hG (fun i x σ' H' H2 hi p y => by
    obtain ⟨rfl, k, v, q, hkv, rfl, hq⟩ := y
    exact hs i k v q σ' H2 hkv hq p) he⟩⟩
theorem pure_are_bounds {b : Addr} {Q : VK} (h : H b = some (.dT (E.map kvE))) (hg : GoodE (n + 1) E) (hn : (E.map ekey).Nodup) (k : ∀ H1, Ex H H1 → Q (.bl true) H1) : t__are_bounds_0 K C (ends Q) [some (.ref b), some (.int (n : Int)), none, none] H := by
  have hn2 : ((E.map kvE).map (·.1)).Nodup := by rw [keys_kvE]; exact hn
  refine q_when (b := !true) (et_not (et_B (ev_isi (ev_var rfl) (fun H1 e => .base (.dT (e _ _ h))) (kit_ty (by decide +kernel))))) (fun z => nomatch z) (fun _ H0 e0 => ?_)
  have h := e0 _ _ h
  have k : ∀ H1, Ex H0 H1 → Q (.bl true) H1 := fun H1 e => k H1 (e0.trans e)
  refine q_lock h True.intro fun od => ?_
  obtain ⟨HL, eL⟩ : ∃ HL, HL = upd H0 b (.frz od (.dT (E.map kvE))) := ⟨_, rfl⟩
  rw [← eL]
  have gb : HL b = some (.frz od (.dT (E.map kvE))) := by rw [eL]; exact upd_same
  refine s_forKT (ev_var rfl) gb (fun i σ' H' => ∃ v2 v3, σ' = [some (.ref b), some (.int (n : Int)), v2, v3] ∧ Ex HL H') (fun H1 e => ⟨_, _, rfl, e⟩) (fun i σ' H' _ ⟨_, _, _, e⟩ => e _ _ gb) (fun i key v q σ' H2 hkv hq ⟨v2, v3, es, ex⟩ => ?_) (fun σ' H' ⟨v2, v3, es, ex⟩ => ?_)
  · subst es
    obtain ⟨e, he, rfl, rfl⟩ := edge_at hkv
    obtain ⟨g1, g2, g3⟩ := hg e (List.mem_of_getElem? he)
    have hq2 : H2 q = some (.tup [.int (e.1 : Int), .int (e.2.1 : Int)]) := hq
    have hv := valV_at hn2 hkv
    show tSeq _ _ _ [some (.ref b), some (.int (n : Int)), some (.ref q), v3] H2
    have dg : Ev (tDGet (tVar 0) (tVar 2)) [some (.ref b), some (.int (n : Int)), some (.ref q), v3] H2 (.int e.2.2) := ev_dget (ev_var rfl) (ev_var rfl) (Or.inr ⟨od, ex _ _ gb⟩) hq hv
    refine q_when (b := !true || !true) (et_or (et_not (et_B (ev_callV (ea_cons (ev_var rfl) ea_nil) fun H3 e3 => ⟨q, _, rfl, e3 _ _ hq2, rfl⟩))) fun _ => et_not (et_B (ev_callV (ea_cons dg ea_nil) fun H3 e3 => ⟨_, rfl, rfl⟩))) (fun z => nomatch z) (fun _ H3 e3 => ?_)
    refine s_when (b := !true || false) (et_or (a := !true) (et_not (et_B (ev_is (w := .bl true) (ev_all (bs := [true, true]) ?_) rfl))) fun _ => ?_) (fun z => nomatch z) (fun _ H4 e4 => ⟨_, _, rfl, ex.trans (e3.trans e4)⟩)
    · have := el_mpT (K := K) (σ := [some (.ref b), some (.int (n : Int)), some (.ref q), v3]) (H := H3) (te := tCall (sp_is_number_between C) [] E0 (tCons (tVar 3) (tCons (tC (.int 0)) (tCons (tVar 1) tNil)))) (tl := tVar 2) (j := 3) (vs := [3]) (fun _ => V.bl true) (ev_var rfl) (st_of (e3 _ _ hq2)) (by show 2 ≤ 40000; decide) (fun x => rfl) (fun x H4 e4 hm => by
        have hx : ∃ i : Nat, x = .int (i : Int) ∧ i ≤ n := by
          rcases List.mem_cons.mp hm with z | hm
          · exact ⟨_, z, by omega⟩
          · exact ⟨_, List.mem_singleton.mp hm, by omega⟩
        obtain ⟨i, rfl, hin⟩ := hx
        exact ev_callV (ea_cons (ev_var rfl) (ea_cons ev_c (ea_cons (ev_var rfl) ea_nil))) fun H5 e5 => ⟨(i : Int), 0, (n : Int), rfl, by
          rw [decide_eq_true (show (0 : Int) ≤ (i : Int) by omega), decide_eq_true (show (i : Int) ≤ (n : Int) by omega)]
          rfl⟩)
      exact this
    · refine et_is (et_test (ev_op (ev_op (ev_var rfl) ev_c (rv_ixT (st_of (e3 _ _ hq2)) (atI_nat (j := 0) rfl))) (ev_op (ev_var rfl) ev_c (rv_ixT (st_of (e3 _ _ hq2)) (atI_nat (j := 1) rfl))) (rv_eq rfl))) (decide_eq_false fun z => g3 ?_)
      have := V.int.inj z
      omega
  · subst es
    refine ⟨ex _ _ gb, ?_⟩
    show t__are_bounds_2 K C (ends Q) _ _
    rw [eL] at ex
    exact s_ret ev_c fun H5 e5 => k H5 ((ex_unlock h ex).trans e5)
theorem perm_lift {α β : Type} (f : α → β) : ∀ (qs : List β) (l : List α), qs.Perm (l.map f) → ∃ l' : List α, l'.Perm l ∧ l'.map f = qs := by
  intro qs
  induction qs with
  | nil =>
    intro l h
    have : l.map f = [] := List.Perm.nil_eq h |>.symm
    exact ⟨[], by rw [List.map_eq_nil_iff.mp this], rfl⟩
  | cons q r ih =>
    intro l h
    have hm : q ∈ l.map f := h.mem_iff.mp (List.mem_cons_self ..)
    obtain ⟨e, he, rfl⟩ := List.mem_map.mp hm
    obtain ⟨s, u, rfl⟩ := List.append_of_mem he
    have hp : (s ++ e :: u).Perm (e :: (s ++ u)) := List.perm_middle
    have h2 : (f e :: r).Perm (f e :: (s ++ u).map f) := h.trans (hp.map f)
    obtain ⟨l', p1, p2⟩ := ih (s ++ u) h2.cons_inv
    exact ⟨e :: l', (p1.cons e).trans hp.symm, by rw [List.map_cons, p2]⟩
def key2 (e : Edge) : Int × Int := ((e.1 : Int), (e.2.1 : Int))
theorem val_mem {e : Edge} (hn : (E.map ekey).Nodup) (he : e ∈ E) : valV (E.map kvE) (ekey e) = some (.int e.2.2) := by
  obtain ⟨j, hj, ej⟩ := List.mem_iff_getElem.mp he
  have h1 : (E.map kvE)[j]? = some (ekey e, .int e.2.2) := by
    rw [List.getElem?_map, List.getElem?_eq_getElem hj, ej]
    rfl
  exact valV_at (by rw [keys_kvE]; exact hn) h1
theorem putF1 {d : Addr} : putF ("_bounds" : Str) (.ref d) [(("_size" : Str), V.int (n : Int))] = [(("_size" : Str), V.int (n : Int)), ("_bounds", .ref d)] := by
  have ne : ¬ ("_size" : Str) = "_bounds" := by decide +kernel
  show (if ("_size" : Str) = "_bounds" then _ else _) = _
  rw [if_neg ne]
  rfl
theorem pure_init (F : TabF K C) {x dx b : Addr} {Q : VK} (hx : H x = some (.ins C dx [])) (h : H b = some (.dT (E.map kvE))) (hg : GoodE (n + 1) E) (hn : (E.map ekey).Nodup) (n1 : 1 ≤ n) (n2 : n ≤ 12) (hz : E.length ≤ 1000)
    (k : ∀ H2 E', (∀ c o, c ≠ x → H c = some o → H2 c = some o) → TabAt C H2 x n E' → E'.Perm E → Q .non H2) : t_Table___init___0 K C (ends Q) [some (.ref x), some (.int (n : Int)), some (.ref b), none] H := by
  refine q_when (b := !true) (et_not (et_B (ev_callV (ea_cons (ev_var rfl) (ea_cons ev_c (ea_cons ev_c ea_nil))) fun H1 e => ⟨(n : Int), 1, 12, rfl, by
    rw [decide_eq_true (show (1 : Int) ≤ (n : Int) by omega), decide_eq_true (show (n : Int) ≤ 12 by omega)]
    rfl⟩))) (fun z => nomatch z) (fun _ H1 e1 => ?_)
  refine q_when (b := decide (V.ref b = V.non)) (et_B (ev_isN (ev_var rfl))) (fun z => nomatch (of_decide_eq_true z)) (fun _ H2 e2 => ?_)
  have g2 : Ex H H2 := e1.trans e2
  refine q_when (b := !true) (et_not (et_B (ev_callV (ea_cons (ev_var rfl) (ea_cons (ev_var rfl) ea_nil)) fun H3 e3 => ⟨b, n, E, rfl, e3 _ _ (g2 _ _ h), hg, hn, rfl⟩))) (fun z => nomatch z) (fun _ H3 e3 => ?_)
  have g3 : Ex H H3 := g2.trans e3
  refine ⟨.int (n : Int), rfl, .ref x, rfl, x, C, dx, [], rfl, g3 _ _ hx, F.cl, F.ns, by decide, ?_⟩
  have nbx : b ≠ x := ne_of h hx (by intro z; cases z)
  obtain ⟨Ha, ea⟩ : ∃ Ha, Ha = upd H3 x (.ins C dx (putF ("_size" : Str) (.int (n : Int)) [])) := ⟨_, rfl⟩
  show t_Table___init___4 K C (ends Q) [some (.ref x), some (.int (n : Int)), some (.ref b), none] (upd H3 x (.ins C dx (putF ("_size" : Str) (.int (n : Int)) [])))
  rw [← ea]
  have xa : Ha x = some (.ins C dx [(("_size" : Str), .int (n : Int))]) := by rw [ea, upd_same]; rfl
  have ka : ∀ c o, c ≠ x → H c = some o → Ha c = some o := fun c o hc ho => by rw [ea, upd_ne hc]; exact g3 _ _ ho
  have ba := ka b _ nbx h
  unfold t_Table___init___4 sFld tDt iList
  refine ⟨.ref b, rfl, b, _, E.map key2, rfl, Or.inl ba, by rw [keys_kvE, List.map_map]; rfl, fun qs cs p hperm hsrt hprs hp => ?_⟩
  obtain ⟨E', hE, hq⟩ := perm_lift key2 qs E hperm
  obtain ⟨Hs, es⟩ : ∃ Hs, Hs = upd Ha p (.lst (cs.map V.ref)) := ⟨_, rfl⟩
  rw [← es]
  have eas : Ex Ha Hs := by rw [es]; exact Ex.new hp
  have ps : Hs p = some (.lst (cs.map V.ref)) := by rw [es]; exact upd_same
  refine ⟨p, rfl, ⟨_, sq_of ps⟩, fun Dn hD => ?_⟩
  have lc : cs.length = E'.length := by rw [← prs_len hprs, ← hq, List.length_map]
  have hn' : (E'.map ekey).Nodup := (hE.map ekey).nodup_iff.mpr hn
  have hn2 : ((E'.map kvE).map (·.1)).Nodup := by rw [keys_kvE]; exact hn'
  refine dt_it (walk_list (xs := cs.map V.ref)) (fun i H' => Ex Hs H' ∧ H' Dn = some (.dT ((E'.map kvE).take i))) ⟨Ex.new hD, upd_same⟩ (fun i H' _ pq => sq_of (pq.1 _ _ ps)) (fun i v H' H5 hi ⟨p1, p2⟩ y => ?_) (fun H' ⟨p1, p2⟩ => ?_)
  · obtain ⟨rfl, hv⟩ := y
    rw [List.getElem?_map] at hv
    obtain ⟨c, hc, rfl⟩ := Option.map_eq_some_iff.mp hv
    obtain ⟨q, hq1, hq2⟩ := prs_at hprs hc
    rw [← hq, List.getElem?_map] at hq1
    obtain ⟨e, he, eq⟩ := Option.map_eq_some_iff.mp hq1
    subst eq
    have hc5 : H5 c = some (.tup ((ekey e).map kV)) := p1 _ _ (eas _ _ hq2)
    have hem : e ∈ E := hE.mem_iff.mp (List.mem_of_getElem? he)
    refine ⟨rfl, ?_⟩
    unfold tYes
    refine iteT ⟨.ref c, rfl, .ref b, rfl, .ref c, rfl, b, .int e.2.2, rfl, ?_, _, DPut.t p2 hc5 ?_, Ex.mut p1 hD, ?_⟩
    · exact Or.inr ⟨_, ekey e, c, Or.inl (p1 _ _ (eas _ _ ba)), rfl, hc5, (val_mem hn hem).symm⟩
    · rw [List.length_take, List.length_map]
      have := hE.length_eq
      exact sz_lt (by omega)
    · rw [upd_same]
      have hkv : (E'.map kvE)[i]? = some (ekey e, .int e.2.2) := by rw [List.getElem?_map, he]; rfl
      rw [put_step hn2 hkv]
  · have hl : (cs.map V.ref).length = (E'.map kvE).length := by rw [List.length_map, List.length_map, lc]
    rw [hl, List.take_length] at p2
    have x5 : H' x = some (.ins C dx [(("_size" : Str), .int (n : Int))]) := p1 _ _ (eas _ _ xa)
    refine ⟨.ref x, rfl, x, C, dx, _, rfl, x5, F.cl, F.nb, by show 1 < 1000; decide, ?_⟩
    rw [putF1]
    have nDx : Dn ≠ x := fun z => by rw [z, eas _ _ xa] at hD; exact nomatch hD
    refine k _ E' (fun c o hc ho => by rw [upd_ne hc]; exact p1 _ _ (eas _ _ (ka c o hc ho))) ⟨dx, Dn, upd_same, by rw [upd_ne nDx]; exact p2, fun e he => hg e (hE.mem_iff.mp he), hn', n1, n2⟩ hE
end
end Bw
/-! Tables told by displays, by rows; the closed one. -/
namespace Bw
open PySem PySem.Spec PyProof.Rows L2 Evl
abbrev E0n : List Edge := [(0, 1, -1), (1, 0, 0)]
def sp_nothing (C : Addr) : Sp := spOf fun vs H P => ∃ n : Nat, vs = [.int (n : Int)] ∧ 1 ≤ n ∧ n ≤ 12 ∧ P = fun v H2 => ∃ t E, v = .ref t ∧ TabAt C H2 t n E ∧ E.Perm E0n
def sp__table_of (C : Addr) : Sp := spOf fun vs H P => ∃ p rs D n, vs = [.ref p] ∧ RowsAt H p rs D (n + 1) ∧ 1 ≤ n ∧ n ≤ 12 ∧ P = fun v H2 => ∃ t E, v = .ref t ∧ TabAt C H2 t n E ∧ ∀ a b, a < n + 1 → b < n + 1 → a ≠ b → matE E a b = D a b
def sp__need_table (C : Addr) : Sp := spOf fun vs H P => ∃ t n E w, vs = [.ref t, w] ∧ TabAt C H t n E ∧ P = isV .non
def sp__need_two (C : Addr) : Sp := spOf fun vs H P => ∃ t u n E E2, vs = [.ref t, .ref u] ∧ TabAt C H t n E ∧ TabAt C H u n E2 ∧ P = isV .non
def t_nothing_0 (K : PySem.W.Frag) (C : Addr) : TS := (tRet (tMake C (sp_Table___init__ C) [] E0 (tCons (tVar 0) (tCons (tDispT [((tTup (tCons (tC (.int 0)) (tCons (tC (.int 1)) tNil))), (tUn rNegI (tC (.int 1)))), ((tTup (tCons (tC (.int 1)) (tCons (tC (.int 0)) tNil))), (tC (.int 0)))]) tNil))))
def t__table_of_2 (K : PySem.W.Frag) (C : Addr) : TS := (tRet (tMake C (sp_Table___init__ C) [] E0 (tCons (tOp rSubI (tCB (cLen K) (tCons (tVar 0) tNil)) (tC (.int 1))) (tCons (tVar 1) tNil))))
def t__table_of_1 (K : PySem.W.Frag) (C : Addr) : TS := tSeq (tFor (iEnum K (tCons (tVar 0) tNil)) (gTup K 2 (gCons (gName 2) (gCons (gName 3) gNil))) (tFor (iEnum K (tCons (tVar 3) tNil)) (gTup K 2 (gCons (gName 4) (gCons (gName 5) gNil))) (tIfS (tAnd (tTest (tOp rNe (tVar 2) (tVar 4))) (tB (tNotN (tVar 5)))) (sDPut (tVar 1) (tTup (tCons (tVar 2) (tCons (tVar 4) tNil))) (tVar 5)) tNext))) (t__table_of_2 K C)
def t__table_of_0 (K : PySem.W.Frag) (C : Addr) : TS := tSeq (tAsg tDNewT (gName 1)) (t__table_of_1 K C)
def t__need_table_0 (K : PySem.W.Frag) (C : Addr) : TS := (tIfS (tNot (tB (tCB (rIsi K) (tCons (tVar 0) (tCons (tC (.ref C)) tNil))))) tNever tNext)
def t__need_two_2 (K : PySem.W.Frag) (C : Addr) : TS := (tIfS (tTest (tOp rNe (tProp C (sp_Table_size C) [] E0 (tVar 0)) (tProp C (sp_Table_size C) [] E0 (tVar 1)))) tNever tNext)
def t__need_two_1 (K : PySem.W.Frag) (C : Addr) : TS := tSeq (tDrop (tCall (sp__need_table C) [] E0 (tCons (tVar 1) (tCons (tC (.str "other")) tNil)))) (t__need_two_2 K C)
def t__need_two_0 (K : PySem.W.Frag) (C : Addr) : TS := tSeq (tDrop (tCall (sp__need_table C) [] E0 (tCons (tVar 0) (tCons (tC (.str "one")) tNil)))) (t__need_two_1 K C)
section
variable {K : PySem.W.Frag} {C : Addr} {σ : L2.St} {H : Hp} {ta tb tc te : TE} {D : Ends} {t n : Nat} {E : List Edge}
/-- Table(.., ..) -/
theorem make_tab {tA : TA} {Q : VK} (h : ∀ R : List V → Hp → Prop, (∀ b H1, Ex H H1 → H1 b = some (.dT (E.map kvE)) → R [.int (n : Int), .ref b] H1) → tA σ H R) (hg : GoodE (n + 1) E) (hn : (E.map ekey).Nodup) (n1 : 1 ≤ n) (n2 : n ≤ 12) (hz : E.length ≤ 1000)
    (q : ∀ x H2 E', Ex H H2 → TabAt C H2 x n E' → E'.Perm E → Q (.ref x) H2) : tMake C (sp_Table___init__ C) [] E0 tA σ H Q := by
  refine h _ fun b H1 e1 hb => ?_
  intro x dx hx hdx ne
  have nbx : b ≠ x := ne_of_none hb hx
  have nbd : b ≠ dx := ne_of_none hb hdx
  refine ⟨x, dx, b, n, E, rfl, upd_same, by rw [upd_ne nbx, upd_ne nbd]; exact hb, hg, hn, n1, n2, hz, fun H2 E' k T p => ⟨rfl, q x H2 E' (e1.trans fun c o hc => ?_) T p⟩⟩
  have c1 : c ≠ x := ne_of_none hc hx
  have c2 : c ≠ dx := ne_of_none hc hdx
  refine k c o c1 ?_
  rw [upd_ne c1, upd_ne c2]
  exact hc
abbrev eTup (e : Edge) : List V := [.int (e.1 : Int), .int (e.2.1 : Int)]
theorem pairs_go : ∀ (trs : List (TE × TE)) (es : List Edge), Paired (fun (tr : TE × TE) (e : Edge) => EvU tr.1 σ H (eTup e) ∧ Ev tr.2 σ H (.int e.2.2)) trs es → ∀ H1, Ex H H1 → ∀ R : List (V × V) → Hp → Prop,
    (∀ ps H2, Ex H1 H2 → Paired (fun (p : V × V) (e : Edge) => ∃ q, p = (.ref q, .int e.2.2) ∧ H2 q = some (.tup (eTup e))) ps es → R ps H2) → tPairs trs σ H1 R := by
  intro trs es hp
  induction hp with
  | nil => intro H1 e1 R r; exact r [] H1 (Ex.refl _) .nil
  | @cons tr e trs es h t ih =>
    intro H1 e1 R r
    obtain ⟨tk, tv⟩ := tr
    refine h.1 H1 e1 _ fun p H2 hpn e2 h2 => ?_
    refine h.2 H2 (e1.trans e2) _ fun H3 e3 => ?_
    refine ih H3 ((e1.trans e2).trans e3) _ fun ps H4 e4 hps => r _ H4 ((e2.trans e3).trans e4) (.cons ⟨p, rfl, e4 _ _ (e3 _ _ h2)⟩ hps)
theorem put_go {p : Addr} {H0 : Hp} : ∀ (ps : List (V × V)) (es : List Edge), Paired (fun (q : V × V) (e : Edge) => ∃ b, q = (.ref b, .int e.2.2) ∧ H b = some (.tup (eTup e))) ps es → ∀ (ahead : List Edge) (H1 : Hp), (∀ b xs, H b = some (.tup xs) → H1 b = some (.tup xs)) → H1 p = some (.dT (ahead.map kvE)) → ((ahead ++ es).map ekey).Nodup → ahead.length + es.length ≤ 1000 → Ex H0 H1 → H0 p = none → ∀ R : Hp → Prop,
    (∀ H2, Ex H0 H2 → H2 p = some (.dT ((ahead ++ es).map kvE)) → R H2) → putAll p ps H1 R := by
  intro ps es hp
  induction hp with
  | nil =>
    intro ahead H1 ht hd hn hl e0 hp0 R r
    refine r H1 e0 ?_
    rw [List.append_nil]
    exact hd
  | @cons q e ps es h t ih =>
    intro ahead H1 ht hd hn hl e0 hp0 R r
    obtain ⟨b, rfl, hb⟩ := h
    have hb1 : H1 b = some (.tup ((ekey e).map kV)) := ht _ _ hb
    rw [List.length_cons] at hl
    refine ⟨_, DPut.t hd hb1 (by rw [List.length_map]; exact sz_lt (by omega)), ?_⟩
    have out : ekey e ∉ (ahead.map kvE).map (·.1) := by
      rw [keys_kvE]
      rw [List.map_append, List.map_cons] at hn
      intro hm
      exact (List.nodup_append.mp hn).2.2 _ hm _ (List.mem_cons_self ..) rfl
    rw [L2.putK_new _ (valV_out out)]
    have eq : ahead.map kvE ++ [(ekey e, V.int e.2.2)] = (ahead ++ [e]).map kvE := by
      rw [List.map_append]
      rfl
    rw [eq]
    refine ih (ahead ++ [e]) _ (fun c xs hc => ?_) upd_same (by rw [List.append_assoc]; exact hn) (by rw [List.length_append, List.length_singleton]; omega) (Ex.mut e0 hp0) hp0 R (fun H2 e2 h2 => r H2 e2 ?_)
    · have nc : c ≠ p := fun z => by
        have h5 := ht _ _ hc
        rw [z, hd] at h5
        exact nomatch h5
      rw [upd_ne nc]
      exact ht _ _ hc
    · rw [h2, List.append_assoc]
      rfl
/-- a display of bounds -/
theorem disp_go {trs : List (TE × TE)} {es : List Edge} (h : Paired (fun (tr : TE × TE) (e : Edge) => EvU tr.1 σ H (eTup e) ∧ Ev tr.2 σ H (.int e.2.2)) trs es) (hn : (es.map ekey).Nodup) (hl : es.length ≤ 1000) : ∀ H1, Ex H H1 → ∀ Q : VK, (∀ p H2, H1 p = none → Ex H1 H2 → H2 p = some (.dT (es.map kvE)) → Q (.ref p) H2) → tDispT trs σ H1 Q := by
  intro H1 e1 Q q p hp
  refine pairs_go trs es h _ (e1.trans (Ex.new hp)) _ fun ps H2 e2 hps => ?_
  refine put_go (H0 := H1) ps es hps [] H2 (fun _ _ z => z) (e2 _ _ upd_same) hn (by simpa using hl) ((Ex.new hp).trans e2) hp _ fun H3 e3 h3 => q p H3 hp e3 h3
theorem pure_nothing {Q : VK} (n1 : 1 ≤ n) (n2 : n ≤ 12) (k : ∀ t H2 E, Ex H H2 → TabAt C H2 t n E → E.Perm E0n → Q (.ref t) H2) : t_nothing_0 K C (ends Q) [some (.int (n : Int))] H := by
  refine make_tab (H := H) (E := E0n) (n := n) (fun R r => ?_) (fun e he => ?_) ?_ n1 n2 (by show 2 ≤ 1000; decide) fun x H2 E' e T p => k x H2 E' e T p
  · refine ⟨.int (n : Int), rfl, ?_⟩
    refine disp_go (σ := [some (.int (n : Int))]) (H := H) (es := E0n) (.cons ⟨eu_tup (ea_cons ev_c (ea_cons ev_c ea_nil)) (by show 2 ≤ 100000; decide), (show Ev (tUn rNegI (tC (.int 1))) _ _ (.int (-1)) from ev_un ev_c ru_neg)⟩ (.cons ⟨eu_tup (ea_cons ev_c (ea_cons ev_c ea_nil)) (by show 2 ≤ 100000; decide), ev_c⟩ .nil)) ?_ (by show 2 ≤ 1000; decide) H (Ex.refl _) _ fun p H2 hp e2 h2 => r p H2 e2 h2
    decide +kernel
  · rcases List.mem_cons.mp he with z | he
    · rw [z]; exact ⟨by show 0 < n + 1; omega, by show 1 < n + 1; omega, by show 0 ≠ 1; decide⟩
    · rw [List.mem_singleton.mp he]; exact ⟨by show 1 < n + 1; omega, by show 0 < n + 1; omega, by show 1 ≠ 0; decide⟩
  · decide +kernel
end
end Bw
/-! A table of rows. -/
namespace Bw
open PySem PySem.Spec PyProof.Rows L2 Evl
def cellE (D : Mat) (a b : Nat) : List Edge := if a = b then [] else match D a b with
  | some x => [(a, b, x)]
  | none => []
def rowE (D : Mat) (a : Nat) : Nat → List Edge
  | 0 => []
  | k + 1 => rowE D a k ++ cellE D a k
def allE (D : Mat) (N : Nat) : Nat → List Edge
  | 0 => []
  | k + 1 => allE D N k ++ rowE D k N
theorem mem_cell {D : Mat} {a b : Nat} {e : Edge} : e ∈ cellE D a b ↔ e.1 = a ∧ e.2.1 = b ∧ a ≠ b ∧ D a b = some e.2.2 := by
  obtain ⟨x, y, z⟩ := e
  unfold cellE
  by_cases c : a = b
  · rw [if_pos c]
    exact ⟨fun h => (nomatch h), fun h => absurd c h.2.2.1⟩
  · rw [if_neg c]
    cases h : D a b with
    | none => exact ⟨fun h => (nomatch h), fun h => nomatch h.2.2.2⟩
    | some w =>
      constructor
      · intro h
        have := List.mem_singleton.mp h
        cases this
        exact ⟨rfl, rfl, c, rfl⟩
      · intro ⟨h1, h2, _, h4⟩
        have h1 : x = a := h1
        have h2 : y = b := h2
        have h4 : w = z := Option.some.inj h4
        rw [h1, h2, h4]
        exact List.mem_singleton.mpr rfl
theorem mem_row {D : Mat} {a : Nat} {e : Edge} : ∀ {k : Nat}, e ∈ rowE D a k ↔ e.1 = a ∧ e.2.1 < k ∧ a ≠ e.2.1 ∧ D a e.2.1 = some e.2.2
  | 0 => ⟨fun h => (nomatch h), fun h => absurd h.2.1 (Nat.not_lt_zero _)⟩
  | k + 1 => by
    show e ∈ rowE D a k ++ cellE D a k ↔ _
    rw [List.mem_append, mem_row, mem_cell]
    constructor
    · rintro (⟨h1, h2, h3, h4⟩ | ⟨h1, h2, h3, h4⟩)
      · exact ⟨h1, by omega, h3, h4⟩
      · exact ⟨h1, by omega, by rw [h2]; exact h3, by rw [h2]; exact h4⟩
    · rintro ⟨h1, h2, h3, h4⟩
      by_cases c : e.2.1 = k
      · exact Or.inr ⟨h1, c, by rw [← c]; exact h3, by rw [← c]; exact h4⟩
      · exact Or.inl ⟨h1, by omega, h3, h4⟩
theorem mem_all {D : Mat} {N : Nat} {e : Edge} : ∀ {k : Nat}, e ∈ allE D N k ↔ e.1 < k ∧ e.2.1 < N ∧ e.1 ≠ e.2.1 ∧ D e.1 e.2.1 = some e.2.2
  | 0 => ⟨fun h => (nomatch h), fun h => absurd h.1 (Nat.not_lt_zero _)⟩
  | k + 1 => by
    show e ∈ allE D N k ++ rowE D k N ↔ _
    rw [List.mem_append, mem_all, mem_row]
    constructor
    · rintro (⟨h1, h2, h3, h4⟩ | ⟨h1, h2, h3, h4⟩)
      · exact ⟨by omega, h2, h3, h4⟩
      · exact ⟨by omega, h2, by rw [h1]; exact h3, by rw [h1]; exact h4⟩
    · rintro ⟨h1, h2, h3, h4⟩
      by_cases c : e.1 = k
      · exact Or.inr ⟨c, h2, by rw [← c]; exact h3, by rw [← c]; exact h4⟩
      · exact Or.inl ⟨by omega, h2, h3, h4⟩
theorem nodup_app {l m : List Edge} (h1 : (l.map ekey).Nodup) (h2 : (m.map ekey).Nodup) (h : ∀ e ∈ l, ∀ e' ∈ m, ¬ (e.1 = e'.1 ∧ e.2.1 = e'.2.1)) : ((l ++ m).map ekey).Nodup := by
  rw [List.map_append, List.nodup_append]
  refine ⟨h1, h2, fun x hx y hy z => ?_⟩
  obtain ⟨e, he, rfl⟩ := List.mem_map.mp hx
  obtain ⟨e', he', rfl⟩ := List.mem_map.mp hy
  exact h e he e' he' (ekey_inj z)
theorem nodup_cell {D : Mat} {a b : Nat} : ((cellE D a b).map ekey).Nodup := by
  unfold cellE
  by_cases c : a = b
  · rw [if_pos c]; exact List.nodup_nil
  · rw [if_neg c]
    cases D a b with
    | none => exact List.nodup_nil
    | some x => simp
theorem nodup_row {D : Mat} {a : Nat} : ∀ k, ((rowE D a k).map ekey).Nodup
  | 0 => List.nodup_nil
  | k + 1 => nodup_app (nodup_row k) nodup_cell fun e he e' he' z => by
    have h1 := (mem_row.mp he).2.1
    have h2 := (mem_cell.mp he').2.1
    omega
theorem nodup_all {D : Mat} {N : Nat} : ∀ k, ((allE D N k).map ekey).Nodup
  | 0 => List.nodup_nil
  | k + 1 => nodup_app (nodup_all k) (nodup_row N) fun e he e' he' z => by
    have h1 := (mem_all.mp he).1
    have h2 := (mem_row.mp he').1
    omega
theorem len_cell {D : Mat} {a b : Nat} : (cellE D a b).length ≤ 1 := by
  unfold cellE
  by_cases c : a = b
  · rw [if_pos c]; exact Nat.zero_le _
  · rw [if_neg c]
    cases D a b with
    | none => exact Nat.zero_le _
    | some x => exact Nat.le_refl _
theorem len_row {D : Mat} {a : Nat} : ∀ k, (rowE D a k).length ≤ k
  | 0 => Nat.le_refl _
  | k + 1 => by
    have h1 := len_row (D := D) (a := a) k
    have h2 := len_cell (D := D) (a := a) (b := k)
    show (rowE D a k ++ cellE D a k).length ≤ k + 1
    rw [List.length_append]
    omega
theorem len_all {D : Mat} {N : Nat} : ∀ k, (allE D N k).length ≤ k * N
  | 0 => Nat.zero_le _
  | k + 1 => by
    have h1 := len_all (D := D) (N := N) k
    have h2 := len_row (D := D) (a := k) N
    show (allE D N k ++ rowE D k N).length ≤ (k + 1) * N
    rw [List.length_append, Nat.succ_mul]
    omega
/-- what is looked up is there -/
theorem look_mem {E : List Edge} {a b : Nat} {x : Int} (hn : (E.map ekey).Nodup) : lookE E a b = some x ↔ (a, b, x) ∈ E := by
  induction E with
  | nil => exact ⟨fun h => (nomatch h), fun h => nomatch h⟩
  | cons e r ih =>
    rw [List.map_cons, List.nodup_cons] at hn
    have ih := ih hn.2
    by_cases c : e.1 = a ∧ e.2.1 = b
    · have : lookE (e :: r) a b = some e.2.2 := by
        unfold lookE
        rw [List.find?_cons_of_pos (by simp [c.1, c.2])]
        rfl
      rw [this, List.mem_cons]
      constructor
      · intro h
        left
        obtain ⟨e1, e2, e3⟩ := e
        have c1 : e1 = a := c.1
        have c2 : e2 = b := c.2
        have c3 : e3 = x := Option.some.inj h
        rw [c1, c2, c3]
      · rintro (h | h)
        · rw [← h]
        · exact absurd (List.mem_map.mpr ⟨_, h, by show ekey (a, b, x) = ekey e; unfold ekey; rw [c.1, c.2]⟩) hn.1
    · have : lookE (e :: r) a b = lookE r a b := by
        unfold lookE
        rw [List.find?_cons_of_neg (by
          intro z
          rw [Bool.and_eq_true, decide_eq_true_eq, decide_eq_true_eq] at z
          exact c z)]
      rw [this, ih, List.mem_cons]
      constructor
      · intro h; exact Or.inr h
      · rintro (h | h)
        · exact absurd ⟨by rw [← h], by rw [← h]⟩ c
        · exact h
theorem look_perm {E E' : List Edge} (hn : (E.map ekey).Nodup) (p : E'.Perm E) (a b : Nat) : lookE E' a b = lookE E a b := by
  have hn' : (E'.map ekey).Nodup := (p.map ekey).nodup_iff.mpr hn
  cases h : lookE E a b with
  | some x => exact (look_mem hn').mpr (p.mem_iff.mpr ((look_mem hn).mp h))
  | none =>
    cases h' : lookE E' a b with
    | none => rfl
    | some x =>
      have := (look_mem hn).mpr (p.mem_iff.mp ((look_mem hn').mp h'))
      rw [h] at this
      exact nomatch this
theorem mat_perm {E E' : List Edge} (hn : (E.map ekey).Nodup) (p : E'.Perm E) (a b : Nat) : matE E' a b = matE E a b := by
  have := look_perm hn p a b
  unfold matE
  by_cases c : a = b
  · rw [if_pos c, if_pos c]
  · rw [if_neg c, if_neg c]
    exact this
theorem mat_all {D : Mat} {N a b : Nat} (ha : a < N) (hb : b < N) (c : a ≠ b) : matE (allE D N N) a b = D a b := by
  show (if a = b then _ else lookE (allE D N N) a b) = _
  rw [if_neg c]
  have hn := nodup_all (D := D) (N := N) N
  cases h : D a b with
  | some x => exact (look_mem hn).mpr (mem_all.mpr ⟨ha, hb, c, h⟩)
  | none =>
    cases h' : lookE (allE D N N) a b with
    | none => rfl
    | some x =>
      have := (mem_all.mp ((look_mem hn).mp h')).2.2.2
      rw [h] at this
      exact nomatch this
section
variable {K : PySem.W.Frag} {C : Addr} {σ : L2.St} {H : Hp} {ta tb tc te : TE} {D : Ends} {t n : Nat} {E : List Edge}
/-- for i, x in enumerate(list) -/
theorem s_forEn {a : Addr} {xs : List V} {tA : TA} {tu : TS} {i1 i2 : Nat} (h : EvA tA σ H [.ref a]) (hx : SqL K H a xs) (Pv : Nat → L2.St → Hp → Prop) (h0 : ∀ H1, Ex H H1 → Pv 0 σ H1) (hl : ∀ i σ' H', i ≤ xs.length → Pv i σ' H' → SqL K H' a xs)
    (hs : ∀ i x σ' H' H2, xs[i]? = some x → Pv i σ' H' → Ex H' H2 → tu { D with nx := Pv (i + 1), ct := Pv (i + 1), bk := D.nx } ((σ'.set i1 (some (.int (i : Nat)))).set i2 (some x)) H2) (hd : ∀ σ' H', Pv xs.length σ' H' → D.nx σ' H') :
    tFor (iEnum K tA) (gTup K 2 (gCons (gName i1) (gCons (gName i2) gNil))) tu D σ H :=
  h H (Ex.refl H) _ fun H1 e => ⟨a, xs, rfl, ex_l e hx, for_it walk_enum Pv (h0 H1 e) hl (fun i v σ' H' H2 hi p y => by
    obtain ⟨T, u, w, rfl, hT, rfl, hu, hw⟩ := y
    cases hu
    exact ⟨T, _, rfl, st_of upd_same, rfl, _, _, rfl, _, _, rfl, rfl, hs i w σ' H' _ hw p (Ex.new hT)⟩) hd⟩
theorem pure_table_of {p : Addr} {rs : List Addr} {M : Mat} {Q : VK} (R : RowsAt H p rs M (n + 1)) (n1 : 1 ≤ n) (n2 : n ≤ 12)
    (k : ∀ t H2 E, Ex H H2 → TabAt C H2 t n E → (∀ a b, a < n + 1 → b < n + 1 → a ≠ b → matE E a b = M a b) → Q (.ref t) H2) : t__table_of_0 K C (ends Q) [some (.ref p), none, none, none, none, none] H := by
  obtain ⟨N, eN⟩ : ∃ N, N = n + 1 := ⟨_, rfl⟩
  rw [← eN] at R
  have hN : N ≤ 13 := by omega
  intro d hd
  have e1 : Ex H (upd H d (.dT [])) := Ex.new hd
  obtain ⟨H1, eH1⟩ : ∃ H1, H1 = upd H d (.dT []) := ⟨_, rfl⟩
  have d1 : H1 d = some (.dT []) := by rw [eH1]; exact upd_same
  rw [← eH1] at e1
  show t__table_of_1 K C (ends Q) [some (.ref p), some (.ref d), none, none, none, none] (upd H d (.dT []))
  rw [← eH1]
  have lr : (rs.map V.ref).length = N := by rw [List.length_map, R.len]
  -- the word of the loops
  have putc : ∀ (L : List Edge) (a b : Nat) (x : Int) (H2 : Hp), H2 d = some (.dT (L.map kvE)) → (∀ e ∈ L, ¬ (e.1 = a ∧ e.2.1 = b)) → putK (L.map kvE) (ekey (a, b, x)) (.int x) = (L ++ [(a, b, x)]).map kvE := fun L a b x H2 _ ho => by
    rw [L2.putK_new _ (valV_out (by
      rw [keys_kvE]
      intro hm
      obtain ⟨e, he, z⟩ := List.mem_map.mp hm
      exact ho e he (ekey_inj z))), List.map_append]
    rfl
  refine s_forEn (D := { ends Q with nx := t__table_of_2 K C (ends Q) }) (a := p) (xs := rs.map V.ref) (ea_cons (ev_var rfl) ea_nil) (sq_of (e1 _ _ R.top)) (fun a σ' H' => ∃ v2 v3 v4 v5, σ' = [some (.ref p), some (.ref d), v2, v3, v4, v5] ∧ Ex H H' ∧ H' d = some (.dT ((allE M N a).map kvE)))
    (fun H2 e2 => ⟨_, _, _, _, rfl, e1.trans e2, e2 _ _ d1⟩) (fun a σ' H' _ ⟨_, _, _, _, _, e, _⟩ => sq_of (e _ _ R.top)) (fun a x σ' H' H2 hx ⟨v2, v3, v4, v5, es, e, hdd⟩ e2 => ?_) (fun σ' H' ⟨v2, v3, v4, v5, es, e, hdd⟩ => ?_)
  · subst es
    rw [List.getElem?_map] at hx
    obtain ⟨r, hr, rfl⟩ := Option.map_eq_some_iff.mp hx
    have ha : a < N := by
      have := (List.getElem?_eq_some_iff.mp hr).1
      rw [R.len] at this
      exact this
    have hq := R.row a r hr
    have lrow : (rowV M N a).length = N := rowV_len
    show tFor _ _ _ _ [some (.ref p), some (.ref d), some (.int (a : Nat)), some (.ref r), v4, v5] H2
    refine s_forEn (a := r) (xs := rowV M N a) (ea_cons (ev_var rfl) ea_nil) (sq_of ((e.trans e2) _ _ hq)) (fun b σ' H' => ∃ v4 v5, σ' = [some (.ref p), some (.ref d), some (.int (a : Nat)), some (.ref r), v4, v5] ∧ Ex H H' ∧ H' d = some (.dT ((allE M N a ++ rowE M a b).map kvE)))
      (fun H3 e3 => ⟨_, _, rfl, e.trans (e2.trans e3), by rw [e3 _ _ (e2 _ _ hdd)]; show _ = some (HO.dT ((allE M N a ++ []).map kvE)); rw [List.append_nil]⟩) (fun b σ' H' _ ⟨_, _, _, e, _⟩ => sq_of (e _ _ hq)) (fun b x σ' H' H3 hx ⟨v4, v5, es, e, hdd⟩ e3 => ?_) (fun σ' H' ⟨v4, v5, es, e, hdd⟩ => ?_)
    · subst es
      have hb : b < N := by
        have := (List.getElem?_eq_some_iff.mp hx).1
        rw [lrow] at this
        exact this
      rw [rowV_at hb] at hx
      cases hx
      show tIfS _ _ _ _ [some (.ref p), some (.ref d), some (.int (a : Nat)), some (.ref r), some (.int (b : Nat)), some (ov (M a b))] H3
      have ne : EvT (tTest (tOp rNe (tVar 2) (tVar 4))) [some (.ref p), some (.ref d), some (.int (a : Nat)), some (.ref r), some (.int (b : Nat)), some (ov (M a b))] H3 (!decide ((V.int (a : Nat)) = V.int (b : Nat))) := et_test (ev_op (ev_var rfl) (ev_var rfl) (rv_ne rfl))
      have nn : EvT (tB (tNotN (tVar 5))) [some (.ref p), some (.ref d), some (.int (a : Nat)), some (.ref r), some (.int (b : Nat)), some (ov (M a b))] H3 (!decide (ov (M a b) = .non)) := et_B (ev_notN (ev_var rfl))
      have stay : cellE M a b = [] → ∀ H4, Ex H3 H4 → ∃ v4 v5, [some (V.ref p), some (.ref d), some (.int (a : Nat)), some (.ref r), some (.int (b : Nat)), some (ov (M a b))] = [some (.ref p), some (.ref d), some (.int (a : Nat)), some (.ref r), v4, v5] ∧ Ex H H4 ∧ H4 d = some (.dT ((allE M N a ++ rowE M a (b + 1)).map kvE)) := fun hc H4 e4 => ⟨_, _, rfl, e.trans (e3.trans e4), by
        rw [e4 _ _ (e3 _ _ hdd)]
        show _ = some (HO.dT ((allE M N a ++ (rowE M a b ++ cellE M a b)).map kvE))
        rw [hc, List.append_nil]⟩
      by_cases c : a = b
      · refine s_when (et_and ne fun _ => nn) (fun z => ?_) fun _ H4 e4 => stay (by unfold cellE; rw [if_pos c]) H4 e4
        rw [c, decide_eq_true rfl] at z
        exact nomatch z
      · have cd : decide ((V.int (a : Nat)) = V.int (b : Nat)) = false := decide_eq_false fun z => c (by have := V.int.inj z; omega)
        rw [cd] at ne
        cases em : M a b with
        | none =>
          rw [← em]
          refine s_when (et_and ne fun _ => nn) (fun z => ?_) fun _ H4 e4 => stay (by unfold cellE; rw [if_neg c, em]) H4 e4
          rw [em] at z
          exact nomatch z
        | some x =>
          rw [← em]
          refine s_when (b := !false && !decide (ov (M a b) = .non)) (et_and ne fun _ => nn) (fun _ H4 e4 => ?_) (fun z => ?_)
          · have hv : ov (M a b) = .int x := by rw [em]; rfl
            refine ⟨.int x, by rw [hv]; rfl, .ref d, rfl, ?_⟩
            have e34 := e3.trans e4
            refine eu_tup (σ := [some (.ref p), some (.ref d), some (.int (a : Nat)), some (.ref r), some (.int (b : Nat)), some (ov (M a b))]) (H := H4) (ea_cons (ev_var rfl) (ea_cons (ev_var rfl) ea_nil)) (by show 2 ≤ 100000; decide) H4 (Ex.refl _) _ fun q H5 hq5 e5 h5 => ?_
            have hd5 := e5 _ _ (e34 _ _ hdd)
            have hk : H5 q = some (.tup ((ekey (a, b, x)).map kV)) := h5
            refine ⟨d, _, rfl, DPut.t hd5 hk ?_, _, _, rfl, Ex.mut (e.trans (e34.trans e5)) hd, ?_⟩
            · have l1 := len_all (D := M) (N := N) a
              have l2 := len_row (D := M) (a := a) b
              have l3 : a * N ≤ 13 * 13 := Nat.mul_le_mul (by omega) hN
              rw [List.length_map, List.length_append]
              exact sz_lt (by omega)
            · rw [upd_same, putc _ a b x H5 hd5]
              · show _ = some (HO.dT ((allE M N a ++ (rowE M a b ++ cellE M a b)).map kvE))
                have hc : cellE M a b = [(a, b, x)] := by unfold cellE; rw [if_neg c, em]
                rw [hc, List.append_assoc]
              · intro e he ⟨z1, z2⟩
                rcases List.mem_append.mp he with he | he
                · have := (mem_all.mp he).1
                  omega
                · have := (mem_row.mp he).2.1
                  omega
          · rw [em] at z
            exact nomatch z
    · subst es
      rw [lrow] at hdd
      exact ⟨_, _, _, _, rfl, e, hdd⟩
  · subst es
    rw [lr] at hdd
    have lt : Ev (tOp rSubI (tCB (cLen K) (tCons (tVar 0) tNil)) (tC (.int 1))) [some (.ref p), some (.ref d), v2, v3, v4, v5] H' (.int (n : Int)) := by
      refine ev_is (ev_op (ev_lenL (ev_var rfl) (sq_of (e _ _ R.top))) ev_c rv_I0) ?_
      rw [lr, eN]
      show V.int (((n + 1 : Nat) : Int) - 1) = _
      congr 1
      omega
    have hga : GoodE (n + 1) (allE M N N) := fun x hx => by
      obtain ⟨h1, h2, h3, _⟩ := mem_all.mp hx
      exact ⟨by omega, by omega, h3⟩
    have l1 := len_all (D := M) (N := N) N
    have l3 : N * N ≤ 13 * 13 := Nat.mul_le_mul hN hN
    show tMake C (sp_Table___init__ C) [] E0 (tCons (tOp rSubI (tCB (cLen K) (tCons (tVar 0) tNil)) (tC (.int 1))) (tCons (tVar 1) tNil)) [some (.ref p), some (.ref d), v2, v3, v4, v5] H' Q
    refine make_tab (H := H') (E := allE M N N) (n := n) (fun S s => ?_) hga (nodup_all N) n1 n2 (by omega) fun x H2 E' e2 T pm => k x H2 E' (e.trans e2) T fun a b ha hb hab => ?_
    · have args : EvA (tCons (tOp rSubI (tCB (cLen K) (tCons (tVar 0) tNil)) (tC (.int 1))) (tCons (tVar 1) tNil)) [some (.ref p), some (.ref d), v2, v3, v4, v5] H' [.int (n : Int), .ref d] := ea_cons lt (ea_cons (ev_var rfl) ea_nil)
      exact args H' (Ex.refl _) _ fun H3 e3 => s d H3 e3 (e3 _ _ hdd)
    · rw [mat_perm (nodup_all N) pm]
      exact mat_all (by omega) (by omega) hab
end
end Bw
/-! Tables closed, compared, joined. -/
namespace Bw
open PySem PySem.Spec PyProof.Rows L2 Evl
/-- s keeps the table's bounds -/
abbrev FitE (n : Nat) (E : List Edge) (s : Nat → Int) : Prop := Fits (n + 1) s (matE E)
def sp_closed (C : Addr) : Sp := spOf fun vs H P => ∃ t n E, vs = [.ref t] ∧ TabAt C H t n E ∧ P = fun v H2 => ∃ u E', v = .ref u ∧ TabAt C H2 u n E' ∧ (∀ s, FitE n E' s ↔ FitE n E s) ∧ ((∀ s, ¬ FitE n E s) ∨ Closed (n + 1) (matE E'))
def t_closed_3 (K : PySem.W.Frag) (C : Addr) : TS := (tRet (tCall (sp__table_of C) [] E0 (tCons (tVar 1) tNil)))
def t_closed_2 (K : PySem.W.Frag) (C : Addr) : TS := tSeq (tIfS (tB (tIsN (tVar 1))) (tRet (tCall (sp_nothing C) [] E0 (tCons (tProp C (sp_Table_size C) [] E0 (tVar 0)) tNil))) tNext) (t_closed_3 K C)
def t_closed_1 (K : PySem.W.Frag) (C : Addr) : TS := tSeq (tAsg (tCall (sp__least_ways C) [] E0 (tCons (tVar 0) tNil)) (gName 1)) (t_closed_2 K C)
def t_closed_0 (K : PySem.W.Frag) (C : Addr) : TS := tSeq (tDrop (tCall (sp__need_table C) [] E0 (tCons (tVar 0) (tCons (tC .non) tNil)))) (t_closed_1 K C)
section
variable {K : PySem.W.Frag} {C : Addr} {σ : L2.St} {H : Hp} {ta tb tc te : TE} {D : Ends} {t n : Nat} {E : List Edge}
theorem q_pasg {i : Nat} {tz : TS} {P : Post} (h : EvP te σ H P) (k : ∀ v H1, Ex H H1 → P v H1 → tz D (σ.set i (some v)) H1) : tSeq (tAsg te (gName i)) tz D σ H := p_asg (D := { D with nx := tz D }) h k
theorem fits_edges (hn : (E.map ekey).Nodup) (hg : GoodE (n + 1) E) (s : Nat → Int) : FitE n E s ↔ ∀ e ∈ E, s e.1 - s e.2.1 ≤ e.2.2 := by
  constructor
  · intro h e he
    obtain ⟨h1, h2, h3⟩ := hg e he
    refine h e.1 e.2.1 e.2.2 h1 h2 ?_
    unfold matE
    rw [if_neg h3]
    exact (look_mem hn).mpr he
  · intro h a b x ha hb hx
    unfold matE at hx
    by_cases c : a = b
    · rw [if_pos c] at hx
      cases hx
      rw [c]
      omega
    · rw [if_neg c] at hx
      exact h _ ((look_mem hn).mp hx)
theorem TabAt.good {u : Nat} (T : TabAt C H u n E) : GoodE (n + 1) E ∧ (E.map ekey).Nodup ∧ 1 ≤ n ∧ n ≤ 12 := by
  obtain ⟨_, _, _, _, h1, h2, h3, h4⟩ := T
  exact ⟨h1, h2, h3, h4⟩
theorem TabAt.fits {u : Nat} (T : TabAt C H u n E) (s : Nat → Int) : FitE n E s ↔ ∀ e ∈ E, s e.1 - s e.2.1 ≤ e.2.2 := fits_edges T.good.2.1 T.good.1 s
theorem nothing_unfit {u : Nat} (T : TabAt C H u n E) (p : E.Perm E0n) (s : Nat → Int) : ¬ FitE n E s := fun f => by
  have h := (T.fits s).mp f
  have h1 := h (0, 1, -1) (p.mem_iff.mpr (List.mem_cons_self ..))
  have h2 := h (1, 0, 0) (p.mem_iff.mpr (List.mem_cons_of_mem _ (List.mem_cons_self ..)))
  have h1 : s 0 - s 1 ≤ -1 := h1
  have h2 : s 1 - s 0 ≤ 0 := h2
  omega
theorem fits_congr {N : Nat} {M M' : Mat} {s : Nat → Int} (h : ∀ a b, a < N → b < N → M a b = M' a b) (f : Fits N s M) : Fits N s M' := fun a b x ha hb hx => f a b x ha hb (by rw [h a b ha hb]; exact hx)
theorem pure_need_table (F : TabF K C) {w : V} {Q : VK} (T : TabAt C H t n E) (k : ∀ H1, Ex H H1 → Q .non H1) : t__need_table_0 K C (ends Q) [some (.ref t), some w] H := by
  obtain ⟨dx, d, h1, _⟩ := id T
  have isi : Ev (tCB (rIsi K) (tCons (tVar 0) (tCons (tC (.ref C)) tNil))) [some (.ref t), some w] H (.bl true) := ev_cb (ea_cons (ev_var rfl) (ea_cons ev_c ea_nil)) fun H1 e1 R q => ⟨.ref t, .ref C, _, _, true, rfl, .own C, F.ty H1 t dx _ (e1 _ _ h1), F.kit, q H1 (Ex.refl _)⟩
  exact s_when (b := !true) (et_not (et_B isi)) (fun z => nomatch z) fun _ H1 e1 => k H1 e1
theorem q_need {tz : TS} {w : V} (h : EvA (tCons ta (tCons tb tNil)) σ H [.ref t, w]) (T : TabAt C H t n E) (k : ∀ H1, Ex H H1 → tz D σ H1) : tSeq (tDrop (tCall (sp__need_table C) [] E0 (tCons ta (tCons tb tNil)))) tz D σ H :=
  q_drop (ev_callV h fun H1 e1 => ⟨t, n, E, w, rfl, T.ex e1, rfl⟩) k
theorem pure_need_two {u : Nat} {E2 : List Edge} {Q : VK} (T : TabAt C H t n E) (U : TabAt C H u n E2) (k : ∀ H1, Ex H H1 → Q .non H1) : t__need_two_0 K C (ends Q) [some (.ref t), some (.ref u)] H := by
  refine q_need (ea_cons (ev_var rfl) (ea_cons ev_c ea_nil)) T fun H1 e1 => ?_
  refine q_need (ea_cons (ev_var rfl) (ea_cons ev_c ea_nil)) (U.ex e1) fun H2 e2 => ?_
  have e12 := e1.trans e2
  refine s_when (b := !decide ((V.int (n : Int)) = V.int (n : Int))) (et_test (ev_op (ev_propSize (ev_var rfl) (T.ex e12)) (ev_propSize (ev_var rfl) (U.ex e12)) (rv_ne rfl))) (fun z => ?_) fun _ H3 e3 => k H3 (e12.trans e3)
  rw [decide_eq_true rfl] at z
  exact nomatch z
theorem pure_closed {Q : VK} (T : TabAt C H t n E) (k : ∀ u H2 E', Ex H H2 → TabAt C H2 u n E' → (∀ s, FitE n E' s ↔ FitE n E s) → ((∀ s, ¬ FitE n E s) ∨ Closed (n + 1) (matE E')) → Q (.ref u) H2) : t_closed_0 K C (ends Q) [some (.ref t), none] H := by
  obtain ⟨_, _, n1, n2⟩ := T.good
  refine q_need (ea_cons (ev_var rfl) (ea_cons ev_c ea_nil)) T fun H1 e1 => ?_
  refine q_pasg (evp_call (ea_cons (ev_var rfl) ea_nil) fun H2 e2 => ⟨t, n, E, rfl, T.ex (e1.trans e2), rfl⟩) fun v H2 e2 hv => ?_
  have e12 := e1.trans e2
  rcases hv with ⟨rfl, hno⟩ | ⟨p, rs, M, rfl, R, Cl, fit, lo⟩
  · refine q_when (b := decide (V.non = V.non)) (et_B (ev_isN (ev_var rfl))) (fun _ H3 e3 => ?_) (fun z => nomatch (of_decide_eq_false z rfl))
    have e13 := e12.trans e3
    refine p_ret (P := fun v H2 => ∃ t E, v = .ref t ∧ TabAt C H2 t n E ∧ E.Perm E0n) (evp_call (ea_cons (ev_propSize (ev_var rfl) (T.ex e13)) ea_nil) fun H4 e4 => ⟨n, rfl, n1, n2, rfl⟩) fun v H4 e4 ⟨u, E', hv, U, pm⟩ => ?_
    subst hv
    exact k u H4 E' (e13.trans e4) U (fun s => ⟨fun f => absurd f (nothing_unfit U pm s), fun f => absurd f (hno s)⟩) (Or.inl hno)
  · refine q_when (b := decide (V.ref p = V.non)) (et_B (ev_isN (ev_var rfl))) (fun z => nomatch (of_decide_eq_true z)) (fun _ H3 e3 => ?_)
    refine p_ret (P := fun v H2 => ∃ t E, v = .ref t ∧ TabAt C H2 t n E ∧ ∀ a b, a < n + 1 → b < n + 1 → a ≠ b → matE E a b = M a b) (evp_call (ea_cons (ev_var rfl) ea_nil) fun H4 e4 => ⟨p, rs, M, n, rfl, R.ex (e3.trans e4), n1, n2, rfl⟩) fun v H4 e4 ⟨u, E', hv, U, hm⟩ => ?_
    subst hv
    have all : ∀ a b, a < n + 1 → b < n + 1 → matE E' a b = M a b := fun a b ha hb => by
      by_cases c : a = b
      · rw [← c, Cl.dg a ha]
        unfold matE
        rw [if_pos rfl]
      · exact hm a b ha hb c
    refine k u H4 E' (e12.trans (e3.trans e4)) U (fun s => ?_) (Or.inr ⟨fun a ha => by rw [all a a ha ha]; exact Cl.dg a ha, fun a b c ha hb hc => by rw [all a b ha hb, all a c ha hc, all c b hc hb]; exact Cl.tri a b c ha hb hc⟩)
    exact ⟨fun f => (fit s).mpr (fits_congr all f), fun f => fits_congr (fun a b ha hb => (all a b ha hb).symm) ((fit s).mp f)⟩
end
end Bw
/-! Tables compared, joined, asked. -/
namespace Bw
open PySem PySem.Spec PyProof.Rows L2 Evl
def leB : Option Int → Int → Bool
  | none, _ => false
  | some x, c => decide (x ≤ c)
open Classical in
def sp_is_within (C : Addr) : Sp := spOf fun vs H P => ∃ t u n E E2, vs = [.ref t, .ref u] ∧ TabAt C H t n E ∧ TabAt C H u n E2 ∧ P = isV (.bl (decide (∀ s, FitE n E s → FitE n E2 s)))
open Classical in
def sp_is_same (C : Addr) : Sp := spOf fun vs H P => ∃ t u n E E2, vs = [.ref t, .ref u] ∧ TabAt C H t n E ∧ TabAt C H u n E2 ∧ P = isV (.bl (decide (∀ s, FitE n E s ↔ FitE n E2 s)))
def fitsB (E : List Edge) (ps : List Int) : Bool := E.all fun e => decide (ps.getD e.1 0 - ps.getD e.2.1 0 ≤ e.2.2)
def sp_Table_fits (C : Addr) : Sp := spOf fun vs H P => ∃ t w n E xs, vs = [.ref t, .ref w] ∧ TabAt C H t n E ∧ H w = some (.tup (intL xs)) ∧ xs.length = n ∧ P = isV (.bl (fitsB E (pre xs)))
def t_is_within_4 (K : PySem.W.Frag) (C : Addr) : TS := (tRet (tLockE (tCB (rAll K) (tCons (tLc (iKeys (tVar 3)) (gTup K 2 (gCons (gName 4) (gCons (gName 5) gNil))) tYes (tAndV (tNotN (tOp (rIxL K) (tOp (rIxL K) (tVar 2) (tVar 4)) (tVar 5))) (tOp rLeI (tOp (rIxL K) (tOp (rIxL K) (tVar 2) (tVar 4)) (tVar 5)) (tDGet (tVar 3) (tTup (tCons (tVar 4) (tCons (tVar 5) tNil)))))) [4, 5]) tNil))))
def t_is_within_3 (K : PySem.W.Frag) (C : Addr) : TS := tSeq (tAsg (tProp C (sp_Table_bounds C) [] E0 (tVar 1)) (gName 3)) (t_is_within_4 K C)
def t_is_within_2 (K : PySem.W.Frag) (C : Addr) : TS := tSeq (tIfS (tB (tIsN (tVar 2))) (tRet (tC (.bl true))) tNext) (t_is_within_3 K C)
def t_is_within_1 (K : PySem.W.Frag) (C : Addr) : TS := tSeq (tAsg (tCall (sp__least_ways C) [] E0 (tCons (tVar 0) tNil)) (gName 2)) (t_is_within_2 K C)
def t_is_within_0 (K : PySem.W.Frag) (C : Addr) : TS := tSeq (tDrop (tCall (sp__need_two C) [] E0 (tCons (tVar 0) (tCons (tVar 1) tNil)))) (t_is_within_1 K C)
def t_is_same_0 (K : PySem.W.Frag) (C : Addr) : TS := (tRet (tAndV (tCall (sp_is_within C) [] E0 (tCons (tVar 0) (tCons (tVar 1) tNil))) (tCall (sp_is_within C) [] E0 (tCons (tVar 1) (tCons (tVar 0) tNil)))))
section
variable {K : PySem.W.Frag} {C : Addr} {σ : L2.St} {H : Hp} {ta tb tc te : TE} {D : Ends} {t n : Nat} {E : List Edge}
/-- a value told while a dict is locked -/
theorem lock_v {d : Addr} {u : HO} {v : V} {Q : VK} (hd : H d = some u) (mu : Mut (some u)) (h : ∀ od, Ev te σ (upd H d (.frz od u)) v) (k : ∀ H2, Ex H H2 → Q v H2) : tLockE te σ H Q :=
  ⟨d, u, hd, mu, fun od => h od _ (Ex.refl _) _ fun H2 e2 => ⟨e2 _ _ upd_same, k _ (ex_unlock hd e2)⟩⟩
/-- [.. for a, b in bounds] -/
theorem el_keysE {td : TE} {d : Addr} {od : Obj} {i1 i2 : Nat} {vs : List Nat} (f : Edge → V) (h : Ev td σ H (.ref d)) (hd : H d = some (.frz od (.dT (E.map kvE)))) (hz : E.length ≤ 30000) (hw : ∀ x y, wipe (((wipe σ vs).set i1 (some x)).set i2 (some y)) vs = wipe σ vs)
    (he : ∀ (e : Edge) H1, Ex H H1 → e ∈ E → Ev te (((wipe σ vs).set i1 (some (.int (e.1 : Int)))).set i2 (some (.int (e.2.1 : Int)))) H1 (f e)) : EvL (tLc (iKeys td) (gTup K 2 (gCons (gName i1) (gCons (gName i2) gNil))) tYes te vs) σ H (E.map f) := fun H0 e0 Q q => h H0 e0 _ fun H1 e1 => ⟨d, od, rfl, Or.inr ⟨_, e1 _ _ (e0 _ _ hd), fun Dl hD => by
  have hd1 := e1 _ _ (e0 _ _ hd)
  refine lc_it walk_keysT (fun i H' => H1 Dl = none ∧ Ex H1 H' ∧ H' Dl = some (.lst ((E.map f).take i))) ⟨hD, Ex.new hD, upd_same⟩ (fun i H' _ p => p.2.1 _ _ hd1) (fun i x H' H2 hi p y => ?_) (fun H' p => ?_)
  · obtain ⟨rfl, key, v, q, hkv, rfl, hq⟩ := y
    obtain ⟨p1, p2, p3⟩ := p
    obtain ⟨e, hE, rfl, rfl⟩ := edge_at hkv
    refine ⟨q, _, rfl, st_of hq, rfl, _, _, rfl, _, _, rfl, rfl, hw _ _, ?_⟩
    unfold tYes
    refine iteT (he e H2 ((e0.trans e1).trans p2) (List.mem_of_getElem? hE) H2 (Ex.refl _) _ fun H4 e4 => ⟨_, e4 _ _ p3, ?_, p1, Ex.mut (p2.trans e4) p1, ?_⟩)
    · refine Nat.lt_of_le_of_lt (List.length_take_le _ _) ?_
      rw [List.length_map] at hi
      exact sz_lt (by omega)
    · rw [upd_same]
      have hz : (E.map f)[i]? = some (f e) := by rw [List.getElem?_map, hE]; rfl
      rw [take_step hz]
  · have p3 := p.2.2
    rw [List.length_map, ← List.length_map (as := E) (f := f), List.take_length] at p3
    exact q Dl H' (fresh_back e1 p.1) (e1.trans p.2.1) p3⟩⟩
theorem all_map {g : Edge → Bool} : (E.map fun e => V.bl (g e)) = (E.map g).map V.bl := by
  rw [List.map_map]
  rfl
theorem all_id {g : Edge → Bool} : (E.map g).all id = E.all g := by
  rw [List.all_map]
  rfl
theorem ev_leB {x : Option Int} {c : Int} (h1 : Ev ta σ H (ov x)) (h2 : Ev tb σ H (.int c)) : Ev (tAndV (tNotN ta) (tOp rLeI ta tb)) σ H (.bl (leB x c)) := by
  cases x with
  | none => exact ev_is (ev_andV (a := false) (b := false) (ev_notN h1) fun z => nomatch z) rfl
  | some y => exact ev_is (ev_andV (a := true) (ev_notN h1) fun _ => ev_op h1 h2 rv_I0) (by rw [Bool.true_and]; rfl)
theorem lenE {u : Nat} (T : TabAt C H u n E) : E.length ≤ 1000 := by
  obtain ⟨hg, hn, _, n2⟩ := T.good
  obtain ⟨N, eN⟩ : ∃ N, N = n + 1 := ⟨_, rfl⟩
  rw [← eN] at hg
  have hNN : N * N ≤ 13 * 13 := Nat.mul_le_mul (by omega) (by omega)
  rcases Nat.lt_or_ge (N * N) E.length with hlt | hge
  · exfalso
    have cd : ∀ i (hi : i < E.length), E[i].1 * N + E[i].2.1 < N * N := fun i hi => by
      obtain ⟨g1, g2, _⟩ := hg E[i] (List.getElem_mem hi)
      have : E[i].1 * N + N ≤ N * N := by
        rw [← Nat.succ_mul]
        exact Nat.mul_le_mul_right N g1
      omega
    obtain ⟨i, j, hij, hj, e⟩ := pigeon (N * N) (fun i => if h : i < E.length then E[i].1 * N + E[i].2.1 else 0) fun i hi => by
      have h : i < E.length := by omega
      show (if h : i < E.length then E[i].1 * N + E[i].2.1 else 0) < N * N
      rw [dif_pos h]
      exact cd i h
    have hi' : i < E.length := by omega
    have hj' : j < E.length := by omega
    have e : (if h : i < E.length then E[i].1 * N + E[i].2.1 else 0) = (if h : j < E.length then E[j].1 * N + E[j].2.1 else 0) := e
    rw [dif_pos hi', dif_pos hj'] at e
    obtain ⟨_, gi, _⟩ := hg E[i] (List.getElem_mem hi')
    obtain ⟨_, gj, _⟩ := hg E[j] (List.getElem_mem hj')
    have hN0 : 0 < N := by omega
    have d1 : E[i].1 = E[j].1 := by
      have q1 : (E[i].1 * N + E[i].2.1) / N = E[i].1 := by rw [Nat.mul_comm, Nat.mul_add_div hN0, Nat.div_eq_of_lt gi]; rfl
      have q2 : (E[j].1 * N + E[j].2.1) / N = E[j].1 := by rw [Nat.mul_comm, Nat.mul_add_div hN0, Nat.div_eq_of_lt gj]; rfl
      rw [← q1, ← q2, e]
    have d2 : E[i].2.1 = E[j].2.1 := by
      rw [d1] at e
      omega
    have hk := List.pairwise_iff_getElem.mp hn i j (by rw [List.length_map]; exact hi') (by rw [List.length_map]; exact hj') hij
    rw [List.getElem_map, List.getElem_map] at hk
    exact hk (by unfold ekey; rw [d1, d2])
  · omega
open Classical in
theorem within_iff {E2 : List Edge} {M : Mat} (Cl : Closed (n + 1) M) (fit : ∀ s, FitE n E s ↔ Fits (n + 1) s M) (hg : GoodE (n + 1) E2) (hn : (E2.map ekey).Nodup) : (E2.all fun e => leB (M e.1 e.2.1) e.2.2) = decide (∀ s, FitE n E s → FitE n E2 s) := by
  by_cases h : (E2.all fun e => leB (M e.1 e.2.1) e.2.2) = true
  · rw [h]
    refine (decide_eq_true fun s f => (fits_edges hn hg s).mpr fun e he => ?_).symm
    have h1 := List.all_eq_true.mp h e he
    obtain ⟨g1, g2, _⟩ := hg e he
    cases em : M e.1 e.2.1 with
    | none => rw [em] at h1; exact nomatch h1
    | some x =>
      rw [em] at h1
      have h2 : x ≤ e.2.2 := of_decide_eq_true h1
      have h3 := (fit s).mp f e.1 e.2.1 x g1 g2 em
      omega
  · have h0 : (E2.all fun e => leB (M e.1 e.2.1) e.2.2) = false := by
      cases hh : (E2.all fun e => leB (M e.1 e.2.1) e.2.2) with
      | true => exact absurd hh h
      | false => rfl
    rw [h0]
    refine (decide_eq_false fun z => ?_).symm
    obtain ⟨e, he, hb⟩ : ∃ e ∈ E2, ¬ leB (M e.1 e.2.1) e.2.2 = true := Classical.byContradiction fun w => h (List.all_eq_true.mpr fun e he => Classical.byContradiction fun w2 => w ⟨e, he, w2⟩)
    obtain ⟨g1, g2, _⟩ := hg e he
    obtain ⟨s, f, hs⟩ := feas_at Cl g1 g2 (x := e.2.2 + 1) fun v hv => by
      rw [hv] at hb
      have : ¬ v ≤ e.2.2 := fun w => hb (decide_eq_true w)
      omega
    have := (fits_edges hn hg s).mp (z s ((fit s).mpr f)) e he
    omega
open Classical in
theorem pure_is_within {u : Nat} {E2 : List Edge} {Q : VK} (T : TabAt C H t n E) (U : TabAt C H u n E2) (k : ∀ H1, Ex H H1 → Q (.bl (decide (∀ s, FitE n E s → FitE n E2 s))) H1) : t_is_within_0 K C (ends Q) [some (.ref t), some (.ref u), none, none, none, none] H := by
  refine q_drop (v := .non) (ev_callV (ea_cons (ev_var rfl) (ea_cons (ev_var rfl) ea_nil)) fun H1 e1 => ⟨t, u, n, E, E2, rfl, T.ex e1, U.ex e1, rfl⟩) fun H1 e1 => ?_
  refine q_pasg (evp_call (ea_cons (ev_var rfl) ea_nil) fun H2 e2 => ⟨t, n, E, rfl, T.ex (e1.trans e2), rfl⟩) fun v H2 e2 hv => ?_
  have e12 := e1.trans e2
  rcases hv with ⟨rfl, hno⟩ | ⟨p, rs, M, rfl, R, Cl, fit, lo⟩
  · refine q_when (b := decide (V.non = V.non)) (et_B (ev_isN (ev_var rfl))) (fun _ H3 e3 => ?_) (fun z => nomatch (of_decide_eq_false z rfl))
    refine s_ret ev_c fun H4 e4 => ?_
    have := k H4 (e12.trans (e3.trans e4))
    rw [decide_eq_true (fun s f => absurd f (hno s))] at this
    exact this
  · refine q_when (b := decide (V.ref p = V.non)) (et_B (ev_isN (ev_var rfl))) (fun z => nomatch (of_decide_eq_true z)) (fun _ H3 e3 => ?_)
    have e13 := e12.trans e3
    refine q_bounds (ev_var rfl) (U.ex e13) fun d H4 hd e4 h4 => ?_
    have R4 := R.ex (e3.trans e4)
    obtain ⟨hg, hn, _, _⟩ := U.good
    refine lock_v (v := .bl ((E2.map fun e => leB (M e.1 e.2.1) e.2.2).all id)) h4 True.intro (fun od => ev_all ?_) fun H5 e5 => ?_
    · rw [← all_map]
      have nd : ∀ c xs, H4 c = some (.lst xs) → upd H4 d (.frz od (.dT (E2.map kvE))) c = some (.lst xs) := fun c xs hc => by
        rw [upd_ne (fun z => by rw [z, h4] at hc; exact nomatch hc)]
        exact hc
      refine el_keysE (fun e => V.bl (leB (M e.1 e.2.1) e.2.2)) (ev_var rfl) upd_same (Nat.le_trans (lenE U) (by decide)) (fun x y => rfl) fun e H5 e5 he => ?_
      obtain ⟨g1, g2, _⟩ := hg e he
      obtain ⟨r, hr, hq⟩ := R4.get g1
      have at_ : Ev (tOp (rIxL K) (tOp (rIxL K) (tVar 2) (tVar 4)) (tVar 5)) [some (.ref t), some (.ref u), some (.ref p), some (.ref d), some (.int (e.1 : Int)), some (.int (e.2.1 : Int))] H5 (ov (M e.1 e.2.1)) :=
        ev_at (ev_var rfl) (ev_var rfl) (ev_var rfl) (e5 _ _ (nd _ _ R4.top)) hr (e5 _ _ (nd _ _ hq)) g2
      refine ev_leB at_ ?_
      intro H6 e6 S s
      refine ⟨.ref d, rfl, eu_tup (σ := [some (.ref t), some (.ref u), some (.ref p), some (.ref d), some (.int (e.1 : Int)), some (.int (e.2.1 : Int))]) (H := H6) (ea_cons (ev_var rfl) (ea_cons (ev_var rfl) ea_nil)) (by show 2 ≤ 100000; decide) H6 (Ex.refl _) _ fun q H7 hq7 e7 h7 => ?_⟩
      have h7 : H7 q = some (.tup ((ekey e).map kV)) := h7
      exact ⟨d, _, rfl, Or.inr ⟨_, ekey e, q, Or.inr ⟨od, (e5.trans (e6.trans e7)) _ _ upd_same⟩, rfl, h7, (val_mem hn he).symm⟩, s H7 e7⟩
    · rw [all_id, within_iff Cl fit hg hn]
      exact k H5 ((e13.trans e4).trans e5)
open Classical in
theorem pure_is_same {u : Nat} {E2 : List Edge} {Q : VK} (T : TabAt C H t n E) (U : TabAt C H u n E2) (k : ∀ H1, Ex H H1 → Q (.bl (decide (∀ s, FitE n E s ↔ FitE n E2 s))) H1) : t_is_same_0 K C (ends Q) [some (.ref t), some (.ref u)] H := by
  refine s_ret (v := .bl (decide (∀ s, FitE n E s → FitE n E2 s) && decide (∀ s, FitE n E2 s → FitE n E s))) (ev_andV (ev_callV (ea_cons (ev_var rfl) (ea_cons (ev_var rfl) ea_nil)) fun H1 e1 => ⟨t, u, n, E, E2, rfl, T.ex e1, U.ex e1, rfl⟩) fun _ => ev_callV (ea_cons (ev_var rfl) (ea_cons (ev_var rfl) ea_nil)) fun H1 e1 => ⟨u, t, n, E2, E, rfl, U.ex e1, T.ex e1, rfl⟩) fun H1 e1 => ?_
  have e : (decide (∀ s, FitE n E s → FitE n E2 s) && decide (∀ s, FitE n E2 s → FitE n E s)) = decide (∀ s, FitE n E s ↔ FitE n E2 s) := by
    rw [← Bool.decide_and]
    refine decide_eq_decide.mpr ⟨fun ⟨a, b⟩ s => ⟨a s, b s⟩, fun a => ⟨fun s => (a s).mp, fun s => (a s).mpr⟩⟩
  rw [e]
  exact k H1 e1
theorem getD_at {xs : List Int} {i : Nat} (hi : i < xs.length) : (intL xs)[i]? = some (V.int (xs.getD i 0)) := by
  rw [List.getElem?_map, List.getElem?_eq_getElem hi, List.getD_eq_getElem?_getD, List.getElem?_eq_getElem hi]
  rfl
theorem pure_fits (F : TabF K C) {w : Addr} {xs : List Int} {Q : VK} (T : TabAt C H t n E) (hw : H w = some (.tup (intL xs))) (hl : xs.length = n) (k : ∀ H1, Ex H H1 → Q (.bl (fitsB E (pre xs))) H1) : t_Table_fits_0 K C (ends Q) [some (.ref t), some (.ref w), none, none, none] H := by
  obtain ⟨hg, hn, n1, n2⟩ := T.good
  refine q_pasg (evp_call (ea_cons (ev_var rfl) ea_nil) fun H1 e1 => ⟨w, xs, rfl, e1 _ _ hw, by omega, by omega, rfl⟩) fun v H1 e1 ⟨p, hv, hp⟩ => ?_
  subst hv
  obtain ⟨dx, d, t1, t2, _⟩ := id (T.ex e1)
  have lw : (intL xs).length = n := by rw [List.length_map, hl]
  refine q_when (b := !decide ((V.int (((intL xs).length : Nat) : Int)) = V.int (n : Int))) (et_test (ev_op (ev_lenT (ev_var rfl) (st_of (e1 _ _ hw))) (ev_size F (ev_var rfl) t1) (rv_ne rfl))) (fun z => ?_) (fun _ H2 e2 => ?_)
  · rw [lw, decide_eq_true rfl] at z
    exact nomatch z
  have d2 := e2 _ _ t2
  have t2' := e2 _ _ t1
  have p2 := e2 _ _ hp
  have lp : (pre xs).length = n + 1 := by
    show (preA 0 xs).length = _
    rw [preA_length, hl]
  refine lock_v (v := .bl ((E.map fun e => decide ((pre xs).getD e.1 0 - (pre xs).getD e.2.1 0 ≤ e.2.2)).all id)) d2 True.intro (fun od => ev_all ?_) fun H5 e5 => ?_
  · rw [← all_map]
    have nt : t ≠ d := ne_of t2' d2 (by intro z; cases z)
    have np : p ≠ d := ne_of p2 d2 (by intro z; cases z)
    have gt : upd H2 d (.frz od (.dT (E.map kvE))) t = some (.ins C dx [("_size", .int (n : Int)), ("_bounds", .ref d)]) := by rw [upd_ne nt]; exact t2'
    have gp : upd H2 d (.frz od (.dT (E.map kvE))) p = some (.tup (intL (pre xs))) := by rw [upd_ne np]; exact p2
    refine el_keysE (fun e => V.bl (decide ((pre xs).getD e.1 0 - (pre xs).getD e.2.1 0 ≤ e.2.2))) (ev_bounds F (ev_var rfl) gt) upd_same (Nat.le_trans (lenE T) (by decide)) (fun x y => rfl) fun e H5 e5 he => ?_
    obtain ⟨g1, g2, _⟩ := hg e he
    refine ev_op (ev_op (ev_op (ev_var rfl) (ev_var rfl) (rv_ixT (st_of (e5 _ _ gp)) (atI_nat (getD_at (by omega))))) (ev_op (ev_var rfl) (ev_var rfl) (rv_ixT (st_of (e5 _ _ gp)) (atI_nat (getD_at (by omega))))) rv_I0) ?_ rv_I0
    intro H6 e6 S s
    refine ev_bounds F (σ := [some (.ref t), some (.ref w), some (.ref p), some (.int (e.1 : Int)), some (.int (e.2.1 : Int))]) (ev_var rfl) ((e5.trans e6) _ _ gt) H6 (Ex.refl _) _ fun H8 e8 => ?_
    refine eu_tup (σ := [some (.ref t), some (.ref w), some (.ref p), some (.int (e.1 : Int)), some (.int (e.2.1 : Int))]) (H := H8) (ea_cons (ev_var rfl) (ea_cons (ev_var rfl) ea_nil)) (by show 2 ≤ 100000; decide) H8 (Ex.refl _) _ fun q H7 hq7 e7 h7 => ?_
    have h7 : H7 q = some (.tup ((ekey e).map kV)) := h7
    exact ⟨d, _, rfl, Or.inr ⟨_, ekey e, q, Or.inr ⟨od, (e5.trans (e6.trans (e8.trans e7))) _ _ upd_same⟩, rfl, h7, (val_mem hn he).symm⟩, s H7 (e8.trans e7)⟩
  · rw [all_id]
    exact k H5 (e1.trans (e2.trans e5))
end
end Bw
/-! The highest and the lowest water. -/
namespace Bw
open PySem PySem.Spec PyProof.Rows L2 Evl
def sp_highest (C : Addr) : Sp := spOf fun vs H P => ∃ t n E, vs = [.ref t] ∧ TabAt C H t n E ∧ P = fun v H2 => v = .non ∨ ∃ w xs, v = .ref w ∧ H2 w = some (.tup (intL xs)) ∧ xs.length = n ∧ ∀ s, FitE n E s → ∀ a, a < n + 1 → s a - s 0 ≤ (pre xs).getD a 0
def sp_lowest (C : Addr) : Sp := spOf fun vs H P => ∃ t n E, vs = [.ref t] ∧ TabAt C H t n E ∧ P = fun v H2 => v = .non ∨ ∃ w xs, v = .ref w ∧ H2 w = some (.tup (intL xs)) ∧ xs.length = n ∧ ∀ s, FitE n E s → ∀ a, a < n + 1 → (pre xs).getD a 0 ≤ s a - s 0
def t_highest_5 (K : PySem.W.Frag) (C : Addr) : TS := (tRet (tCall (sp__water_of C) [] E0 (tCons (tVar 2) tNil)))
def t_highest_4 (K : PySem.W.Frag) (C : Addr) : TS := tSeq (tIfS (tTest (tOp (rIn K false) (tC .non) (tVar 2))) (tRet (tC .non)) tNext) (t_highest_5 K C)
def t_highest_3 (K : PySem.W.Frag) (C : Addr) : TS := tSeq (tAsg (tLc (iList K (tVar 1)) (gName 3) tYes (tOp (rIxL K) (tVar 3) (tC (.int 0))) [3]) (gName 2)) (t_highest_4 K C)
def t_highest_2 (K : PySem.W.Frag) (C : Addr) : TS := tSeq (tIfS (tB (tIsN (tVar 1))) (tRet (tC .non)) tNext) (t_highest_3 K C)
def t_highest_1 (K : PySem.W.Frag) (C : Addr) : TS := tSeq (tAsg (tCall (sp__least_ways C) [] E0 (tCons (tVar 0) tNil)) (gName 1)) (t_highest_2 K C)
def t_highest_0 (K : PySem.W.Frag) (C : Addr) : TS := tSeq (tDrop (tCall (sp__need_table C) [] E0 (tCons (tVar 0) (tCons (tC .non) tNil)))) (t_highest_1 K C)
def t_lowest_3 (K : PySem.W.Frag) (C : Addr) : TS := (tRet (tCall (sp__water_of C) [] E0 (tCons (tLc (iList K (tOp (rIxL K) (tVar 1) (tC (.int 0)))) (gName 2) tYes (tUn rNegI (tVar 2)) [2]) tNil)))
def t_lowest_2 (K : PySem.W.Frag) (C : Addr) : TS := tSeq (tIfS (tOr (tB (tIsN (tVar 1))) (tTest (tOp (rIn K false) (tC .non) (tOp (rIxL K) (tVar 1) (tC (.int 0)))))) (tRet (tC .non)) tNext) (t_lowest_3 K C)
def t_lowest_1 (K : PySem.W.Frag) (C : Addr) : TS := tSeq (tAsg (tCall (sp__least_ways C) [] E0 (tCons (tVar 0) tNil)) (gName 1)) (t_lowest_2 K C)
def t_lowest_0 (K : PySem.W.Frag) (C : Addr) : TS := tSeq (tDrop (tCall (sp__need_table C) [] E0 (tCons (tVar 0) (tCons (tC .non) tNil)))) (t_lowest_1 K C)
section
variable {K : PySem.W.Frag} {C : Addr} {σ : L2.St} {H : Hp} {ta tb tc te : TE} {D : Ends} {t n : Nat} {E : List Edge}
theorem pre_difs : ∀ (x : Int) (r : List Int), preA x (difs (x :: r)) = x :: r
  | x, [] => rfl
  | x, y :: r => by
    have ih := pre_difs y r
    show x :: preA (x + (y - x)) (difs (y :: r)) = x :: y :: r
    rw [show x + (y - x) = y by omega, ih]
theorem difs_len : ∀ (x : Int) (r : List Int), (difs (x :: r)).length = r.length
  | _, [] => rfl
  | x, y :: r => by
    show (difs (y :: r)).length + 1 = r.length + 1
    rw [difs_len y r]
theorem flat_ov (o : Option Int) : flatV (ov o) = true := by cases o <;> rfl
/-- all of a row or column told -/
theorem all_some {N : Nat} {f : Nat → Option Int} (h : inV .non ((List.range N).map fun b => ov (f b)) = false) : ∀ b, b < N → ∃ x, f b = some x := fun b hb => by
  cases e : f b with
  | some x => exact ⟨x, rfl⟩
  | none =>
    have hm : ov (f b) ∈ (List.range N).map fun b => ov (f b) := List.mem_map.mpr ⟨b, List.mem_range.mpr hb, rfl⟩
    have := List.any_eq_false.mp h _ hm
    rw [e] at this
    exact absurd rfl this
theorem flats {N : Nat} {f : Nat → Option Int} : ((List.range N).map fun b => ov (f b)).all flatV = true := List.all_eq_true.mpr fun x hx => by
  obtain ⟨b, _, rfl⟩ := List.mem_map.mp hx
  exact flat_ov _
/-- the numbers told -/
def nums (N : Nat) (f : Nat → Option Int) : List Int := (List.range N).map fun b => (f b).getD 0
theorem nums_ov {N : Nat} {f : Nat → Option Int} (h : ∀ b, b < N → ∃ x, f b = some x) : ((List.range N).map fun b => ov (f b)) = intL (nums N f) := by
  unfold nums intL
  rw [List.map_map]
  refine List.map_congr_left fun b hb => ?_
  obtain ⟨x, hx⟩ := h b (List.mem_range.mp hb)
  show ov (f b) = V.int ((f b).getD 0)
  rw [hx]
  rfl
theorem nums_at {N : Nat} {f : Nat → Option Int} {b : Nat} (hb : b < N) : (nums N f).getD b 0 = (f b).getD 0 := by
  unfold nums
  rw [List.getD_eq_getElem?_getD, List.getElem?_map, List.getElem?_range hb]
  rfl
theorem nums_cons {f : Nat → Option Int} : ∃ r, nums (n + 1) f = (f 0).getD 0 :: r ∧ r.length = n := by
  unfold nums
  rw [List.range_succ_eq_map, List.map_cons]
  exact ⟨_, rfl, by rw [List.length_map, List.length_map, List.length_range]⟩
/-- the water whose sums are told -/
theorem water_told {f : Nat → Option Int} (h0 : (f 0).getD 0 = 0) : (difs (nums (n + 1) f)).length = n ∧ pre (difs (nums (n + 1) f)) = nums (n + 1) f := by
  obtain ⟨r, e, hr⟩ := nums_cons (n := n) (f := f)
  rw [e, h0]
  exact ⟨by rw [difs_len, hr], pre_difs 0 r⟩
theorem pure_highest {Q : VK} (T : TabAt C H t n E) (k : ∀ v H2, Ex H H2 → (v = .non ∨ ∃ w xs, v = .ref w ∧ H2 w = some (.tup (intL xs)) ∧ xs.length = n ∧ ∀ s, FitE n E s → ∀ a, a < n + 1 → s a - s 0 ≤ (pre xs).getD a 0) → Q v H2) : t_highest_0 K C (ends Q) [some (.ref t), none, none, none] H := by
  obtain ⟨_, _, n1, n2⟩ := T.good
  refine q_need (ea_cons (ev_var rfl) (ea_cons ev_c ea_nil)) T fun H1 e1 => ?_
  refine q_pasg (evp_call (ea_cons (ev_var rfl) ea_nil) fun H2 e2 => ⟨t, n, E, rfl, T.ex (e1.trans e2), rfl⟩) fun v H2 e2 hv => ?_
  have e12 := e1.trans e2
  rcases hv with ⟨rfl, hno⟩ | ⟨p, rs, M, rfl, R, Cl, fit, lo⟩
  · refine q_when (b := decide (V.non = V.non)) (et_B (ev_isN (ev_var rfl))) (fun _ H3 e3 => ?_) (fun z => nomatch (of_decide_eq_false z rfl))
    exact s_ret ev_c fun H4 e4 => k .non H4 (e12.trans (e3.trans e4)) (Or.inl rfl)
  · refine q_when (b := decide (V.ref p = V.non)) (et_B (ev_isN (ev_var rfl))) (fun z => nomatch (of_decide_eq_true z)) (fun _ H3 e3 => ?_)
    have e13 := e12.trans e3
    have R3 := R.ex e3
    have lr : (rs.map V.ref).length = n + 1 := by rw [List.length_map, R3.len]
    have gl : given (rs.map V.ref).length (fun _ => true) (fun i => ov (M i 0)) = (List.range (n + 1)).map fun i => ov (M i 0) := by rw [given_all, lr]
    refine q_asgL (xs := (List.range (n + 1)).map fun i => ov (M i 0)) ?_ fun g H4 hg e4 h4 => ?_
    · rw [← gl]
      refine el_lcL (fun _ => true) (fun i => ov (M i 0)) (ev_var rfl) (sq_of R3.top) (by omega) (fun x => rfl) (fun _ _ _ _ _ => et_yes) fun i x H4 e4 hx _ => ?_
      rw [List.getElem?_map] at hx
      obtain ⟨r, hr, rfl⟩ := Option.map_eq_some_iff.mp hx
      have hi := (List.getElem?_eq_some_iff.mp hr).1
      exact ev_op (ev_var rfl) ev_c (rv_ixL (sq_of (e4 _ _ (R3.row i r hr))) (atI_nat (j := 0) (rowV_at (by omega))))
    · refine q_when (et_test (ev_op ev_c (ev_var rfl) (rv_isL (sq_of h4) rfl flats))) (fun _ H5 e5 => ?_) (fun hb H5 e5 => ?_)
      · exact s_ret ev_c fun H6 e6 => k .non H6 (e13.trans (e4.trans (e5.trans e6))) (Or.inl rfl)
      · have some_ := all_some hb
        have h00 : M 0 0 = some 0 := Cl.dg 0 (by omega)
        obtain ⟨w1, w2⟩ := water_told (n := n) (f := fun i => M i 0) (by rw [h00]; rfl)
        have h5 := e5 _ _ h4
        rw [nums_ov some_] at h5
        refine p_ret (evp_call (ea_cons (ev_var rfl) ea_nil) fun H6 e6 => ⟨g, _, rfl, e6 _ _ h5, by unfold nums; rw [List.length_map, List.length_range]; omega, rfl⟩) fun v H6 e6 ⟨w, hv, hw⟩ => ?_
        refine k v H6 (e13.trans (e4.trans (e5.trans e6))) (Or.inr ⟨w, _, hv, hw, w1, fun s f a ha => ?_⟩)
        rw [w2, nums_at ha]
        obtain ⟨x, hx⟩ := some_ a ha
        rw [hx]
        exact (fit s).mp f a 0 x ha (by omega) hx
theorem evp_callL {Pre : List V → Hp → Post → Prop} {X : XK} {xs : List V} {P : Post} (h : EvL te σ H xs) (hp : ∀ p H1, Ex H H1 → H1 p = some (.lst xs) → Pre [.ref p] H1 P) : EvP (tCall (spOf Pre) [] X (tCons te tNil)) σ H P := fun H1 e Q q => h H1 e _ fun p H2 _ e2 h2 =>
  ⟨P, hp p H2 (e.trans e2) h2, fun v H3 e3 pv => q v H3 (e2.trans e3) pv⟩
theorem pure_lowest {Q : VK} (T : TabAt C H t n E) (k : ∀ v H2, Ex H H2 → (v = .non ∨ ∃ w xs, v = .ref w ∧ H2 w = some (.tup (intL xs)) ∧ xs.length = n ∧ ∀ s, FitE n E s → ∀ a, a < n + 1 → (pre xs).getD a 0 ≤ s a - s 0) → Q v H2) : t_lowest_0 K C (ends Q) [some (.ref t), none, none] H := by
  obtain ⟨_, _, n1, n2⟩ := T.good
  refine q_need (ea_cons (ev_var rfl) (ea_cons ev_c ea_nil)) T fun H1 e1 => ?_
  refine q_pasg (evp_call (ea_cons (ev_var rfl) ea_nil) fun H2 e2 => ⟨t, n, E, rfl, T.ex (e1.trans e2), rfl⟩) fun v H2 e2 hv => ?_
  have e12 := e1.trans e2
  rcases hv with ⟨rfl, hno⟩ | ⟨p, rs, M, rfl, R, Cl, fit, lo⟩
  · refine q_when (b := true || true) (et_or (a := true) (et_B (ev_isN (v := .non) (ev_var rfl))) fun z => nomatch z) (fun _ H3 e3 => ?_) (fun z => nomatch z)
    exact s_ret ev_c fun H4 e4 => k .non H4 (e12.trans (e3.trans e4)) (Or.inl rfl)
  · obtain ⟨r0, hr0, hq0⟩ := R.get (a := 0) (by omega)
    have row0 : ∀ H3, Ex H2 H3 → Ev (tOp (rIxL K) (tVar 1) (tC (.int 0))) [some (.ref t), some (.ref p), none] H3 (.ref r0) := fun H3 e3 => ev_row (a := 0) (ev_var rfl) ev_c (e3 _ _ R.top) hr0
    refine q_when (b := false || inV .non (rowV M (n + 1) 0)) (et_or (a := false) (et_B (ev_isN (v := .ref p) (ev_var rfl))) fun _ => et_test (ev_op ev_c (row0 H2 (Ex.refl _)) (rv_isL (sq_of hq0) rfl flats))) (fun _ H3 e3 => ?_) (fun hb H3 e3 => ?_)
    · exact s_ret ev_c fun H6 e6 => k .non H6 (e12.trans (e3.trans e6)) (Or.inl rfl)
    · rw [Bool.false_or] at hb
      have some_ := all_some hb
      have h00 : M 0 0 = some 0 := Cl.dg 0 (by omega)
      obtain ⟨w1, w2⟩ := water_told (n := n) (f := fun i => (M 0 i).map fun x => -x) (by rw [h00]; rfl)
      have q3 := e3 _ _ hq0
      have row_ints : rowV M (n + 1) 0 = intL (nums (n + 1) (M 0)) := nums_ov some_
      have neg : (rowV M (n + 1) 0).map (fun x => match x with | .int i => V.int (-i) | _ => .non) = intL (nums (n + 1) fun i => (M 0 i).map fun x => -x) := by
        unfold rowV nums intL
        rw [List.map_map, List.map_map]
        refine List.map_congr_left fun b hb => ?_
        obtain ⟨x, hx⟩ := some_ b (List.mem_range.mp hb)
        show (match ov (M 0 b) with | .int i => V.int (-i) | _ => .non) = V.int (((M 0 b).map fun x => -x).getD 0)
        rw [hx]
        rfl
      have made : EvL (tLc (iList K (tOp (rIxL K) (tVar 1) (tC (.int 0)))) (gName 2) tYes (tUn rNegI (tVar 2)) [2]) [some (.ref t), some (.ref p), none] H3 (intL (nums (n + 1) fun i => (M 0 i).map fun x => -x)) := by
        rw [← neg]
        refine el_mp _ (row0 H3 e3) (sq_of q3) (by rw [rowV_len]; omega) (fun x => rfl) fun x H4 e4 hx => ?_
        rw [row_ints] at hx
        obtain ⟨y, _, rfl⟩ := List.mem_map.mp hx
        exact ev_un (ev_var rfl) ru_neg
      refine p_ret (evp_callL made fun g H6 e6 h6 => ⟨g, _, rfl, h6, by unfold nums; rw [List.length_map, List.length_range]; omega, rfl⟩) fun v H6 e6 ⟨w, hv, hw⟩ => ?_
      refine k v H6 (e12.trans (e3.trans e6)) (Or.inr ⟨w, _, hv, hw, w1, fun s f a ha => ?_⟩)
      rw [w2, nums_at ha]
      obtain ⟨x, hx⟩ := some_ a ha
      rw [hx]
      show -x ≤ s a - s 0
      have := (fit s).mp f 0 a x (by omega) ha hx
      omega
end
end Bw
/-! Two tables joined. -/
namespace Bw
open PySem PySem.Spec PyProof.Rows L2 Evl
def sp_both (C : Addr) : Sp := spOf fun vs H P => ∃ t u n E E2, vs = [.ref t, .ref u] ∧ TabAt C H t n E ∧ TabAt C H u n E2 ∧ P = fun v H2 => ∃ w E', v = .ref w ∧ TabAt C H2 w n E' ∧ ∀ s, FitE n E' s ↔ (FitE n E s ∧ FitE n E2 s)
def t_both_4 (K : PySem.W.Frag) (C : Addr) : TS := (tRet (tMake C (sp_Table___init__ C) [] E0 (tCons (tProp C (sp_Table_size C) [] E0 (tVar 0)) (tCons (tVar 2) tNil))))
def t_both_3 (K : PySem.W.Frag) (C : Addr) : TS := tSeq (tLock (tFor (iKeys (tVar 3)) (gName 4) (tIfS (tOr (tB (tDNotIn (tVar 4) (tVar 2))) (tTest (tOp rLtI (tDGet (tVar 3) (tVar 4)) (tDGet (tVar 2) (tVar 4))))) (sDPut (tVar 2) (tVar 4) (tDGet (tVar 3) (tVar 4))) tNext))) (t_both_4 K C)
def t_both_2 (K : PySem.W.Frag) (C : Addr) : TS := tSeq (tAsg (tProp C (sp_Table_bounds C) [] E0 (tVar 1)) (gName 3)) (t_both_3 K C)
def t_both_1 (K : PySem.W.Frag) (C : Addr) : TS := tSeq (tAsg (tProp C (sp_Table_bounds C) [] E0 (tVar 0)) (gName 2)) (t_both_2 K C)
def t_both_0 (K : PySem.W.Frag) (C : Addr) : TS := tSeq (tDrop (tCall (sp__need_two C) [] E0 (tCons (tVar 0) (tCons (tVar 1) tNil)))) (t_both_1 K C)
section
variable {K : PySem.W.Frag} {C : Addr} {σ : L2.St} {H : Hp} {ta tb tc te : TE} {D : Ends} {t n : Nat} {E : List Edge}
abbrev okE (s : Nat → Int) (e : Edge) : Prop := s e.1 - s e.2.1 ≤ e.2.2
def repE (L : List Edge) (e : Edge) : List Edge := L.map fun f => if f.1 = e.1 ∧ f.2.1 = e.2.1 then e else f
theorem rep_keys {L : List Edge} {e : Edge} : (repE L e).map ekey = L.map ekey := by
  unfold repE
  rw [List.map_map]
  refine List.map_congr_left fun f _ => ?_
  show ekey (if f.1 = e.1 ∧ f.2.1 = e.2.1 then e else f) = ekey f
  by_cases c : f.1 = e.1 ∧ f.2.1 = e.2.1
  · rw [if_pos c]
    unfold ekey
    rw [c.1, c.2]
  · rw [if_neg c]
theorem put_there {L : List Edge} {e : Edge} {x : Int} (h : lookE L e.1 e.2.1 = some x) : putK (L.map kvE) (ekey e) (.int e.2.2) = (repE L e).map kvE := by
  have hv : (valV (L.map kvE) (ekey e)).isSome = true := by
    show (valV (L.map kvE) (pk ((e.1 : Int), (e.2.1 : Int)))).isSome = true
    rw [val_look, h]
    rfl
  unfold putK
  rw [if_pos (by rw [valV_any]; exact hv)]
  unfold repE
  rw [List.map_map, List.map_map]
  refine List.map_congr_left fun f _ => ?_
  show (if (kvE f).1 = ekey e then ((kvE f).1, V.int e.2.2) else kvE f) = kvE (if f.1 = e.1 ∧ f.2.1 = e.2.1 then e else f)
  by_cases c : f.1 = e.1 ∧ f.2.1 = e.2.1
  · have hk : (kvE f).1 = ekey e := by show ekey f = ekey e; unfold ekey; rw [c.1, c.2]
    rw [if_pos c, if_pos hk, hk]
    rfl
  · have nk : ¬ (kvE f).1 = ekey e := fun z => c (ekey_inj z)
    rw [if_neg c, if_neg nk]
theorem ok_rep {L : List Edge} {e : Edge} {x : Int} {s : Nat → Int} (hn : (L.map ekey).Nodup) (h : lookE L e.1 e.2.1 = some x) (hx : e.2.2 < x) : (∀ f ∈ repE L e, okE s f) ↔ (∀ f ∈ L, okE s f) ∧ okE s e := by
  have hm := (look_mem hn).mp h
  constructor
  · intro a
    have he : okE s e := a e (List.mem_map.mpr ⟨_, hm, by rw [if_pos ⟨rfl, rfl⟩]⟩)
    refine ⟨fun f hf => ?_, he⟩
    by_cases c : f.1 = e.1 ∧ f.2.1 = e.2.1
    · have : lookE L e.1 e.2.1 = some f.2.2 := (look_mem hn).mpr (by rw [← c.1, ← c.2]; exact hf)
      rw [h] at this
      have hfx : x = f.2.2 := Option.some.inj this
      have he : s e.1 - s e.2.1 ≤ e.2.2 := he
      show s f.1 - s f.2.1 ≤ f.2.2
      rw [c.1, c.2]
      omega
    · exact a f (List.mem_map.mpr ⟨f, hf, by rw [if_neg c]⟩)
  · rintro ⟨a, b⟩ f hf
    obtain ⟨g, hg, rfl⟩ := List.mem_map.mp hf
    by_cases c : g.1 = e.1 ∧ g.2.1 = e.2.1
    · rw [if_pos c]; exact b
    · rw [if_neg c]; exact a g hg
theorem look_none {L : List Edge} {a b : Nat} (hn : (L.map ekey).Nodup) (h : lookE L a b = none) : ∀ f ∈ L, ¬ (f.1 = a ∧ f.2.1 = b) := fun f hf z => by
  have := (look_mem (a := f.1) (b := f.2.1) (x := f.2.2) hn).mpr hf
  rw [z.1, z.2, h] at this
  exact nomatch this
theorem lenG (hg : GoodE (n + 1) E) (hn : (E.map ekey).Nodup) (n1 : 1 ≤ n) (n2 : n ≤ 12) : E.length ≤ 1000 :=
  lenE (C := 0) (H := upd (upd (fun _ => none) 1 (.dT (E.map kvE))) 0 (.ins 0 0 [("_size", .int (n : Int)), ("_bounds", .ref 1)])) (u := 0) (n := n) ⟨0, 1, upd_same, by rw [upd_ne (by decide)]; exact upd_same, hg, hn, n1, n2⟩
/-- the word of the walk: the joined bounds as far as they are -/
def BothI (t u d d2 : Addr) (HL : Hp) (n : Nat) (E E2 : List Edge) (i : Nat) (σ' : L2.St) (H' : Hp) : Prop := ∃ v4 L, σ' = [some (.ref t), some (.ref u), some (.ref d), some (.ref d2), v4] ∧ (∀ b o, b ≠ d → HL b = some o → H' b = some o) ∧ H' d = some (.dT (L.map kvE)) ∧ GoodE (n + 1) L ∧ (L.map ekey).Nodup ∧ ∀ s, (∀ f ∈ L, okE s f) ↔ (∀ f ∈ E, okE s f) ∧ ∀ f ∈ E2.take i, okE s f
theorem ev_dnotin {d q : Addr} {k : List Key} {kvs : List (List Key × V)} (h0 : Ev ta σ H (.ref q)) (h1 : Ev tb σ H (.ref d)) (hd : H d = some (.dT kvs)) (hq : H q = some (.tup (k.map kV))) : Ev (tDNotIn ta tb) σ H (.bl (!(valV kvs k).isSome)) := fun H1 e Q r =>
  h0 H1 e _ fun H2 e2 => h1 H2 (e.trans e2) _ fun H3 e3 => ⟨d, _, rfl, DGet.t (((e.trans e2).trans e3) _ _ hd) (((e.trans e2).trans e3) _ _ hq), r H3 (e2.trans e3)⟩
theorem pure_both {u : Nat} {E2 : List Edge} {Q : VK} (T : TabAt C H t n E) (U : TabAt C H u n E2) (k : ∀ w H2 E', Ex H H2 → TabAt C H2 w n E' → (∀ s, FitE n E' s ↔ (FitE n E s ∧ FitE n E2 s)) → Q (.ref w) H2) : t_both_0 K C (ends Q) [some (.ref t), some (.ref u), none, none, none] H := by
  obtain ⟨hg, hn, n1, n2⟩ := T.good
  obtain ⟨hg2, hn2, _, _⟩ := U.good
  refine q_drop (v := .non) (ev_callV (ea_cons (ev_var rfl) (ea_cons (ev_var rfl) ea_nil)) fun H1 e1 => ⟨t, u, n, E, E2, rfl, T.ex e1, U.ex e1, rfl⟩) fun H1 e1 => ?_
  refine q_bounds (ev_var rfl) (T.ex e1) fun d H2 hd e2 h2 => ?_
  have e12 := e1.trans e2
  refine q_bounds (ev_var rfl) (U.ex e12) fun d2 H3 hd2 e3 h3 => ?_
  have e13 := e12.trans e3
  have hdH : H d = none := fresh_back e1 hd
  have hd2H : H d2 = none := fresh_back e12 hd2
  have ndd : d ≠ d2 := fun z => by rw [← z, h2] at hd2; exact nomatch hd2
  have h23 := e3 _ _ h2
  refine q_lock h3 True.intro fun od => ?_
  obtain ⟨HL, eL⟩ : ∃ HL, HL = upd H3 d2 (.frz od (.dT (E2.map kvE))) := ⟨_, rfl⟩
  rw [← eL]
  have gb : HL d2 = some (.frz od (.dT (E2.map kvE))) := by rw [eL]; exact upd_same
  have gd : HL d = some (.dT (E.map kvE)) := by rw [eL, upd_ne ndd]; exact h23
  have gH : ∀ b o, H b = some o → HL b = some o := fun b o hb => by
    rw [eL, upd_ne (ne_of_none hb hd2H)]
    exact e13 _ _ hb
  have kn2 : ((E2.map kvE).map (·.1)).Nodup := by rw [keys_kvE]; exact hn2
  have l2 := lenE U
  have l1 := lenE T
  refine s_forKT (ev_var rfl) gb (BothI t u d d2 HL n E E2)
    (fun H4 e4 => ⟨_, E, rfl, fun b o _ h => e4 _ _ h, e4 _ _ gd, hg, hn, fun s => ⟨fun a => ⟨a, fun f hf => nomatch hf⟩, fun a => a.1⟩⟩) (fun i σ' H' _ ⟨_, _, _, e, _⟩ => e _ _ (fun z => ndd z.symm) gb) (fun i key v q σ' H' hkv hq ⟨v4, L, es, ex, hL, gL, nL, okL⟩ => ?_) (fun σ' H' ⟨v4, L, es, ex, hL, gL, nL, okL⟩ => ?_)
  · subst es
    obtain ⟨e, he, rfl, rfl⟩ := edge_at hkv
    have hem := List.mem_of_getElem? he
    obtain ⟨g1, g2, g3⟩ := hg2 e hem
    have hb2 : H' d2 = some (.frz od (.dT (E2.map kvE))) := ex _ _ (fun z => ndd z.symm) gb
    have tk : E2.take (i + 1) = E2.take i ++ [e] := take_step he
    show tIfS _ _ _ _ [some (.ref t), some (.ref u), some (.ref d), some (.ref d2), some (.ref q)] H'
    have e3' : Ev (tDGet (tVar 3) (tVar 4)) [some (.ref t), some (.ref u), some (.ref d), some (.ref d2), some (.ref q)] H' (.int e.2.2) := ev_dget (ev_var rfl) (ev_var rfl) (Or.inr ⟨od, hb2⟩) hq (val_mem hn2 hem)
    have nin : Ev (tDNotIn (tVar 4) (tVar 2)) [some (.ref t), some (.ref u), some (.ref d), some (.ref d2), some (.ref q)] H' (.bl (!(valV (L.map kvE) (ekey e)).isSome)) := ev_dnotin (ev_var rfl) (ev_var rfl) hL hq
    have vl : valV (L.map kvE) (ekey e) = (lookE L e.1 e.2.1).map V.int := val_look
    have zl : (L.map kvE).length < sizeLine := by
      rw [List.length_map]
      have := lenG gL nL n1 n2
      exact sz_lt (by omega)
    have nxt : ∀ s, ((∀ f ∈ E, okE s f) ∧ ∀ f ∈ E2.take i, okE s f) ∧ okE s e ↔ (∀ f ∈ E, okE s f) ∧ ∀ f ∈ E2.take (i + 1), okE s f := fun s => by
      rw [tk]
      constructor
      · rintro ⟨⟨a, b⟩, c⟩
        refine ⟨a, fun f hf => ?_⟩
        rcases List.mem_append.mp hf with hf | hf
        · exact b f hf
        · rw [List.mem_singleton.mp hf]; exact c
      · rintro ⟨a, b⟩
        exact ⟨⟨a, fun f hf => b f (List.mem_append_left _ hf)⟩, b e (List.mem_append_right _ (List.mem_singleton.mpr rfl))⟩
    have put : ∀ (L' : List Edge), putK (L.map kvE) (ekey e) (.int e.2.2) = L'.map kvE → GoodE (n + 1) L' → (L'.map ekey).Nodup → (∀ s, (∀ f ∈ L', okE s f) ↔ (∀ f ∈ L, okE s f) ∧ okE s e) → ∀ (D' : Ends), (∀ σ' H', BothI t u d d2 HL n E E2 (i + 1) σ' H' → D'.nx σ' H') → ∀ H4, Ex H' H4 →
        sDPut (tVar 2) (tVar 4) (tDGet (tVar 3) (tVar 4)) D' [some (.ref t), some (.ref u), some (.ref d), some (.ref d2), some (.ref q)] H4 := fun L' hp gL' nL' ok' D' hD H4 e4 => by
      refine e3' H4 e4 _ fun H5 e5 => ?_
      have e45 := e4.trans e5
      refine ⟨.ref d, rfl, .ref q, rfl, d, _, rfl, DPut.t (e45 _ _ hL) (e45 _ _ hq) zl, hD _ _ ⟨_, L', rfl, fun b o hb h => ?_, ?_, gL', nL', fun s => ?_⟩⟩
      · rw [upd_ne hb]
        exact e45 _ _ (ex b o hb h)
      · rw [upd_same, hp]
      · rw [ok' s, okL s]
        exact nxt s
    cases el : lookE L e.1 e.2.1 with
    | none =>
      rw [vl, el] at nin
      have out := look_none nL el
      have hp : putK (L.map kvE) (ekey e) (.int e.2.2) = (L ++ [e]).map kvE := by
        rw [L2.putK_new _ (by rw [vl, el]; rfl), List.map_append]
        rfl
      refine s_when (b := true || false) (et_or (a := true) (et_B nin) fun z => nomatch z) (fun _ H4 e4 => put (L ++ [e]) hp (fun f hf => ?_) ?_ (fun s => ?_) _ (fun σ' H' h => h) H4 e4) fun z => nomatch z
      · rcases List.mem_append.mp hf with hf | hf
        · exact gL f hf
        · rw [List.mem_singleton.mp hf]; exact ⟨g1, g2, g3⟩
      · refine nodup_app nL (by simp) fun f hf f' hf' z => ?_
        rw [List.mem_singleton.mp hf'] at z
        exact out f hf z
      · constructor
        · intro a
          exact ⟨fun f hf => a f (List.mem_append_left _ hf), a e (List.mem_append_right _ (List.mem_singleton.mpr rfl))⟩
        · rintro ⟨a, b⟩ f hf
          rcases List.mem_append.mp hf with hf | hf
          · exact a f hf
          · rw [List.mem_singleton.mp hf]; exact b
    | some x =>
      rw [vl, el] at nin
      have bget : Ev (tDGet (tVar 2) (tVar 4)) [some (.ref t), some (.ref u), some (.ref d), some (.ref d2), some (.ref q)] H' (.int x) := ev_dget (ev_var rfl) (ev_var rfl) (Or.inl hL) hq (by rw [vl, el]; rfl)
      have tst : EvT (tOr (tB (tDNotIn (tVar 4) (tVar 2))) (tTest (tOp rLtI (tDGet (tVar 3) (tVar 4)) (tDGet (tVar 2) (tVar 4))))) [some (.ref t), some (.ref u), some (.ref d), some (.ref d2), some (.ref q)] H' (false || decide (e.2.2 < x)) := et_or (a := false) (et_B nin) fun _ => et_test (ev_op e3' bget rv_I0)
      rw [Bool.false_or] at tst
      refine s_when tst (fun hb H4 e4 => put (repE L e) (put_there el) (fun f hf => ?_) (by rw [rep_keys]; exact nL) (fun s => ok_rep nL el (of_decide_eq_true hb)) _ (fun σ' H' h => h) H4 e4) fun hb H4 e4 => ⟨_, L, rfl, fun b o hb h => e4 _ _ (ex b o hb h), e4 _ _ hL, gL, nL, fun s => ?_⟩
      · obtain ⟨g, hgm, rfl⟩ := List.mem_map.mp hf
        by_cases c : g.1 = e.1 ∧ g.2.1 = e.2.1
        · rw [if_pos c]; exact ⟨g1, g2, g3⟩
        · rw [if_neg c]; exact gL g hgm
      · rw [okL s, ← nxt s]
        refine ⟨fun a => ⟨a, ?_⟩, fun a => a.1⟩
        have h1 := (okL s).mpr a _ ((look_mem nL).mp el)
        have h1 : s e.1 - s e.2.1 ≤ x := h1
        have h2 := of_decide_eq_false hb
        show s e.1 - s e.2.1 ≤ e.2.2
        omega
  · subst es
    rw [List.length_map, List.take_length] at okL
    refine ⟨ex _ _ (fun z => ndd z.symm) gb, ?_⟩
    obtain ⟨HZ, eZ⟩ : ∃ HZ, HZ = upd H' d2 (.dT (E2.map kvE)) := ⟨_, rfl⟩
    have exZ : Ex H HZ := fun b o hb => by
      rw [eZ, upd_ne (ne_of_none hb hd2H)]
      exact ex b o (ne_of_none hb hdH) (gH b o hb)
    have dZ : HZ d = some (.dT (L.map kvE)) := by rw [eZ, upd_ne ndd]; exact hL
    rw [← eZ]
    show tMake C (sp_Table___init__ C) [] E0 (tCons (tProp C (sp_Table_size C) [] E0 (tVar 0)) (tCons (tVar 2) tNil)) [some (.ref t), some (.ref u), some (.ref d), some (.ref d2), v4] HZ Q
    have args : EvA (tCons (tProp C (sp_Table_size C) [] E0 (tVar 0)) (tCons (tVar 2) tNil)) [some (.ref t), some (.ref u), some (.ref d), some (.ref d2), v4] HZ [.int (n : Int), .ref d] := ea_cons (ev_propSize (ev_var rfl) (T.ex exZ)) (ea_cons (ev_var rfl) ea_nil)
    refine make_tab (H := HZ) (E := L) (n := n) (fun S s => args HZ (Ex.refl _) _ fun H3 e3 => s d H3 e3 (e3 _ _ dZ)) gL nL n1 n2 ?_ fun x H2 E' e2 W pm => k x H2 E' (exZ.trans e2) W fun s => ?_
    · exact lenG gL nL n1 n2
    · rw [W.fits s, T.fits s, U.fits s, ← okL s]
      exact ⟨fun a f hf => a f (pm.mem_iff.mpr hf), fun a f hf => a f (pm.mem_iff.mp hf)⟩
end
end Bw
/-! Rings. -/
namespace Bw
open PySem PySem.Spec PyProof.Rows L2 Evl
def on : Option Nat → V
  | none => .non
  | some x => .int (x : Int)
abbrev ahL (N : Nat) (f : Nat → Option Nat) : List V := (List.range N).map fun x => on (f x)
abbrev rL (N : Nat) (f : Nat → Int) : List V := (List.range N).map fun x => V.int (f x)
theorem map_at {N i : Nat} {f : Nat → V} (hi : i < N) : ((List.range N).map f)[i]? = some (f i) := by
  rw [List.getElem?_map, List.getElem?_range hi]
  rfl
theorem map_len {N : Nat} {f : Nat → V} : ((List.range N).map f).length = N := by rw [List.length_map, List.length_range]
theorem map_set {N i : Nat} {f g : Nat → V} {v : V} (hi : i < N) (h1 : g i = v) (h2 : ∀ x, x ≠ i → g x = f x) : ((List.range N).map f).set i v = (List.range N).map g := by
  apply List.ext_getElem?
  intro j
  rw [List.getElem?_set, map_len]
  by_cases hj : j < N
  · rw [map_at hj, map_at hj]
    by_cases e : i = j
    · subst e
      rw [if_pos rfl, if_pos hi, h1]
    · rw [if_neg e, h2 j (fun z => e z.symm)]
  · rw [List.getElem?_eq_none (by rw [map_len]; omega), List.getElem?_eq_none (by rw [map_len]; omega)]
    by_cases e : i = j
    · exact absurd (e ▸ hi) hj
    · rw [if_neg e]
def sp__ring_behind (C : Addr) : Sp := spOf fun vs H P => ∃ (a : Addr) (v N L : Nat) (f : Nat → Option Nat) (p : Nat → Nat), vs = [.ref a, .int (v : Int)] ∧ H a = some (.lst (ahL N f)) ∧ p 0 = v ∧ (∀ n, p n < N) ∧ (∀ n, f (p n) = some (p (n + 1))) ∧ 0 < L ∧ L ≤ N ∧ p (N + L) = p N ∧ N ≤ 13 ∧
  P = fun w H2 => ∃ q xs, w = .ref q ∧ H2 q = some (.lst xs)
def sp_ring (C : Addr) : Sp := spOf fun vs H P => ∃ t n E, vs = [.ref t] ∧ TabAt C H t n E ∧ P = fun v H2 => v = .non ∨ ((∀ s, ¬ FitE n E s) ∧ ∃ q xs, v = .ref q ∧ H2 q = some (.lst xs))
def t__ring_behind_5 (K : PySem.W.Frag) (C : Addr) : TS := (tRet (tRevL K (tVar 4)))
def t__ring_behind_4 (K : PySem.W.Frag) (C : Addr) : TS := tSeq (tWhile (tTest (tOp rNe (tVar 5) (tVar 2))) (tSeq (tDrop (tBM K "list" rAppend (tVar 4) (tCons (tVar 5) tNil))) (tAsg (tOp (rIxL K) (tVar 0) (tVar 5)) (gName 5)))) (t__ring_behind_5 K C)
def t__ring_behind_3 (K : PySem.W.Frag) (C : Addr) : TS := tSeq (tAsg (tOp (rIxL K) (tVar 0) (tVar 2)) (gName 5)) (t__ring_behind_4 K C)
def t__ring_behind_2 (K : PySem.W.Frag) (C : Addr) : TS := tSeq (tAsg (tLst (tCons (tVar 2) tNil)) (gName 4)) (t__ring_behind_3 K C)
def t__ring_behind_1 (K : PySem.W.Frag) (C : Addr) : TS := tSeq (tFor (iRng1 (tCons (tCB (cLen K) (tCons (tVar 0) tNil)) tNil)) (gName 3) (tAsg (tOp (rIxL K) (tVar 0) (tVar 2)) (gName 2))) (t__ring_behind_2 K C)
def t__ring_behind_0 (K : PySem.W.Frag) (C : Addr) : TS := tSeq (tAsg (tVar 1) (gName 2)) (t__ring_behind_1 K C)
def t_ring_8 (K : PySem.W.Frag) (C : Addr) : TS := (tRet (tCall (sp__ring_behind C) [] E0 (tCons (tVar 4) (tCons (tVar 5) tNil))))
def t_ring_7 (K : PySem.W.Frag) (C : Addr) : TS := tSeq (tIfS (tB (tIsN (tVar 5))) (tRet (tC .non)) tNext) (t_ring_8 K C)
def t_ring_6 (K : PySem.W.Frag) (C : Addr) : TS := tSeq (tFor (iRng1 (tCons (tVar 1) tNil)) (gName 6) (tSeq (tAsg (tC .non) (gName 5)) (tLock (tFor (iKeys (tVar 2)) (gTup K 2 (gCons (gName 7) (gCons (gName 8) gNil))) (tIfS (tTest (tOp rLtI (tOp rAddI (tOp (rIxL K) (tVar 3) (tVar 7)) (tDGet (tVar 2) (tTup (tCons (tVar 7) (tCons (tVar 8) tNil))))) (tOp (rIxL K) (tVar 3) (tVar 8)))) (tSeq (tAsg (tOp rAddI (tOp (rIxL K) (tVar 3) (tVar 7)) (tDGet (tVar 2) (tTup (tCons (tVar 7) (tCons (tVar 8) tNil))))) (gSub (tVar 3) (tVar 8) rSetL)) (tSeq (tAsg (tVar 7) (gSub (tVar 4) (tVar 8) rSetL)) (tAsg (tVar 8) (gName 5)))) tNext))))) (t_ring_7 K C)
def t_ring_5 (K : PySem.W.Frag) (C : Addr) : TS := tSeq (tAsg (tC .non) (gName 5)) (t_ring_6 K C)
def t_ring_4 (K : PySem.W.Frag) (C : Addr) : TS := tSeq (tAsg (tOp rRep (tLst (tCons (tC .non) tNil)) (tVar 1)) (gName 4)) (t_ring_5 K C)
def t_ring_3 (K : PySem.W.Frag) (C : Addr) : TS := tSeq (tAsg (tOp rRep (tLst (tCons (tC (.int 0)) tNil)) (tVar 1)) (gName 3)) (t_ring_4 K C)
def t_ring_2 (K : PySem.W.Frag) (C : Addr) : TS := tSeq (tAsg (tProp C (sp_Table_bounds C) [] E0 (tVar 0)) (gName 2)) (t_ring_3 K C)
def t_ring_1 (K : PySem.W.Frag) (C : Addr) : TS := tSeq (tAsg (tOp rAddI (tProp C (sp_Table_size C) [] E0 (tVar 0)) (tC (.int 1))) (gName 1)) (t_ring_2 K C)
def t_ring_0 (K : PySem.W.Frag) (C : Addr) : TS := tSeq (tDrop (tCall (sp__need_table C) [] E0 (tCons (tVar 0) (tCons (tC .non) tNil)))) (t_ring_1 K C)
section
variable {K : PySem.W.Frag} {C : Addr} {σ : L2.St} {H : Hp} {ta tb tc te : TE} {D : Ends} {t n : Nat} {E : List Edge}
theorem pure_ring_behind {a : Addr} {v N L : Nat} {f : Nat → Option Nat} {p : Nat → Nat} {Q : VK} (ha : H a = some (.lst (ahL N f))) (p0 : p 0 = v) (hp : ∀ n, p n < N) (hf : ∀ n, f (p n) = some (p (n + 1))) (h0 : 0 < L) (hL : L ≤ N) (per : p (N + L) = p N) (hN : N ≤ 13)
    (k : ∀ q xs H2, Ex H H2 → H2 q = some (.lst xs) → Q (.ref q) H2) : t__ring_behind_0 K C (ends Q) [some (.ref a), some (.int (v : Int)), none, none, none, none] H := by
  have ix : ∀ (σ : L2.St) (H1 : Hp) (te : TE) (i : Nat), σ[0]? = some (some (.ref a)) → Ex H H1 → Ev te σ H1 (.int ((p i : Nat) : Int)) → Ev (tOp (rIxL K) (tVar 0) te) σ H1 (.int ((p (i + 1) : Nat) : Int)) := fun σ H1 te i h0 e h =>
    ev_op (ev_var h0) h (rv_ixL (sq_of (e _ _ ha)) (atI_nat (by rw [map_at (hp i), hf i]; rfl)))
  refine q_asg (v := .int (v : Int)) (ev_var rfl) fun H1 e1 => ?_
  refine q_forR1 (n := (N : Int)) (ea_cons (ev_is (ev_lenL (ev_var rfl) (sq_of (e1 _ _ ha))) (by rw [map_len])) ea_nil) (by omega) (fun i σ' H' => ∃ v3, σ' = [some (.ref a), some (.int (v : Int)), some (.int ((p i : Nat) : Int)), v3, none, none] ∧ Ex H H') (fun H2 e2 => ⟨_, by rw [p0]; rfl, e1.trans e2⟩) (fun i σ' H' hi ⟨v3, es, e⟩ => ?_) (fun σ' H' ⟨v3, es, e⟩ => ?_)
  · subst es
    show tAsg _ _ _ [some (.ref a), some (.int (v : Int)), some (.int ((p i : Nat) : Int)), some (.int (i : Int)), none, none] H'
    exact s_asg (ix _ H' _ i rfl e (ev_var rfl)) fun H2 e2 => ⟨_, rfl, e.trans e2⟩
  · subst es
    rw [Int.toNat_natCast]
    refine q_asgL (el_lst (ea_cons (ev_var rfl) ea_nil) (by show 1 ≤ 100000; decide)) fun q H2 hq e2 h2 => ?_
    have hqH : H q = none := fresh_back e hq
    refine q_asg (v := .int ((p (N + 1) : Nat) : Int)) (ix _ H2 _ N rfl (e.trans e2) (ev_var rfl)) fun H3 e3 => ?_
    refine q_while (fun m σ' H' => ∃ i xs, σ' = [some (.ref a), some (.int (v : Int)), some (.int ((p N : Nat) : Int)), v3, some (.ref q), some (.int ((p (N + 1 + i) : Nat) : Int))] ∧ i < L ∧ m = L - i ∧ H' q = some (.lst xs) ∧ xs.length = i + 1 ∧ Ex H H') L ⟨0, _, rfl, h0, rfl, e3 _ _ h2, rfl, e.trans (e2.trans e3)⟩ (fun m σ' H' ⟨i, xs, es, hi, em, hx, lx, ex⟩ => ?_)
    subst es
    refine ⟨_, et_test (ev_op (ev_var rfl) (ev_var rfl) (rv_ne rfl)), fun hb H4 e4 => ?_, fun hb H4 e4 => ?_⟩
    · have ne : p (N + 1 + i) ≠ p N := fun z => by
        rw [z, decide_eq_true rfl] at hb
        exact nomatch hb
      have hi2 : i + 1 < L := by
        rcases Nat.lt_or_ge (i + 1) L with c | c
        · exact c
        · have : N + 1 + i = N + L := by omega
          rw [this, per] at ne
          exact absurd rfl ne
      refine ⟨fun σ2 H2 => ∃ i xs, σ2 = [some (.ref a), some (.int (v : Int)), some (.int ((p N : Nat) : Int)), v3, some (.ref q), some (.int ((p (N + 1 + i) : Nat) : Int))] ∧ i < L ∧ L - i < m ∧ H2 q = some (.lst xs) ∧ xs.length = i + 1 ∧ Ex H H2, fun σ2 H2 ⟨i, xs, h1, h2, h3, h4⟩ => ⟨L - i, h3, i, xs, h1, h2, rfl, h4⟩, ?_⟩
      refine q_app (l := q) (e4 _ _ hx) (ev_var rfl) (ev_var rfl) (by omega) fun H5 e5 => ?_
      have e5H : Ex H (upd H5 q (.lst (xs ++ [V.int ((p (N + 1 + i) : Nat) : Int)]))) := Ex.mut (ex.trans (e4.trans e5)) hqH
      refine s_asg (ix _ _ _ (N + 1 + i) rfl e5H (ev_var rfl)) fun H6 e6 => ⟨i + 1, _, rfl, hi2, by omega, e6 _ _ upd_same, by rw [List.length_append, lx]; rfl, e5H.trans e6⟩
    · have hx4 := e4 _ _ hx
      refine ⟨.ref q, rfl, q, xs, rfl, sq_of hx4, fun z hz => k z _ _ ((ex.trans e4).trans (Ex.new hz)) upd_same⟩
/-- the state of the rounds -/
structure RgAt (H : Hp) (r3 r4 d : Addr) (N : Nat) (E : List Edge) (S : RSt) (H' : Hp) : Prop where
  ex : Ex H H'
  rr : H' r3 = some (.lst (rL N S.r))
  aa : H' r4 = some (.lst (ahL N S.ah))
  bd : H' d = some (.dT (E.map kvE))
abbrev sRg (t N d r3 r4 c : V) (v6 v7 v8 : Option V) : L2.St := [some t, some N, some d, some r3, some r4, some c, v6, v7, v8]
theorem rep_len {N : Nat} {v : V} : List.replicate N v = (List.range N).map fun _ => v := by
  apply List.ext_getElem?
  intro j
  by_cases hj : j < N
  · rw [map_at hj, List.getElem?_replicate, if_pos hj]
  · rw [List.getElem?_eq_none (by rw [List.length_replicate]; omega), List.getElem?_eq_none (by rw [map_len]; omega)]
theorem el_rep {v : V} {N : Nat} (h1 : EvL ta σ H [v]) (h2 : Ev tb σ H (.int (N : Int))) (hN : N ≤ 1000) : EvL (tOp rRep ta tb) σ H (List.replicate N v) := fun H1 e Q q => h1 H1 e _ fun p H2 hp e2 hl => h2 H2 (e.trans e2) _ fun H3 e3 => ⟨p, (N : Int), [v], rfl, rfl, e3 _ _ hl, by omega, by omega, by
    rw [Int.toNat_natCast]
    exact sz_of (by simp; omega), fun p' hp' => by
    have er : (List.replicate (N : Int).toNat [v]).flatten = List.replicate N v := by
      rw [Int.toNat_natCast]
      exact List.flatten_replicate_singleton
    rw [er]
    exact q p' _ (fresh_back (e2.trans e3) hp') ((e2.trans e3).trans (Ex.new hp')) upd_same⟩
theorem pure_ring {Q : VK} (T : TabAt C H t n E) (k : ∀ v H2, Ex H H2 → (v = .non ∨ ((∀ s, ¬ FitE n E s) ∧ ∃ q xs, v = .ref q ∧ H2 q = some (.lst xs))) → Q v H2) : t_ring_0 K C (ends Q) [some (.ref t), none, none, none, none, none, none, none, none] H := by
  obtain ⟨hg, hn, n1, n2⟩ := T.good
  obtain ⟨N, eN⟩ : ∃ N, N = n + 1 := ⟨_, rfl⟩
  have hN : N ≤ 13 := by omega
  rw [← eN] at hg
  refine q_need (ea_cons (ev_var rfl) (ea_cons ev_c ea_nil)) T fun H1 e1 => ?_
  refine q_asg (v := .int (N : Int)) (ev_is (ev_op (ev_propSize (ev_var rfl) (T.ex e1)) ev_c rv_I0) (by rw [eN]; rfl)) fun H2 e2 => ?_
  have e12 := e1.trans e2
  refine q_bounds (ev_var rfl) (T.ex e12) fun d H3 hd e3 h3 => ?_
  have e13 := e12.trans e3
  have hdH : H d = none := fresh_back e12 hd
  refine q_asgL (el_rep (N := N) (el_lst (ea_cons ev_c ea_nil) (by show 1 ≤ 100000; decide)) (ev_var rfl) (by omega)) fun r3 H4 h3n e4 h4 => ?_
  have e14 := e13.trans e4
  have hr3H : H r3 = none := fresh_back e13 h3n
  refine q_asgL (el_rep (N := N) (el_lst (ea_cons ev_c ea_nil) (by show 1 ≤ 100000; decide)) (ev_var rfl) (by omega)) fun r4 H5 h4n e5 h5 => ?_
  have hr4H : H r4 = none := fresh_back e14 h4n
  have n34 : r3 ≠ r4 := fun z => by rw [z] at h4; rw [h4] at h4n; exact nomatch h4n
  have n3d : r3 ≠ d := fun z => by rw [z, h3] at h3n; exact nomatch h3n
  have n4d : r4 ≠ d := fun z => by rw [z, e4 _ _ h3] at h4n; exact nomatch h4n
  rw [rep_len] at h4 h5
  refine q_asg (v := .non) ev_c fun H6 e6 => ?_
  have w0 : RgAt H r3 r4 d N E ⟨fun _ => 0, fun _ => none, none⟩ H6 := ⟨e14.trans (e5.trans e6), e6 _ _ (e5 _ _ h4), e6 _ _ h5, e6 _ _ (e5 _ _ (e4 _ _ h3))⟩
  refine q_forR1 (n := (N : Int)) (ea_cons (ev_var rfl) ea_nil) (by omega) (fun i σ' H' => ∃ S v6 v7 v8, σ' = sRg (.ref t) (.int (N : Int)) (.ref d) (.ref r3) (.ref r4) (on S.ch) v6 v7 v8 ∧ RgAt H r3 r4 d N E S H' ∧ ((i = 0 ∧ S = ⟨fun _ => 0, fun _ => none, none⟩) ∨ (1 ≤ i ∧ RI N E i E.length S)))
    (fun H7 e7 => ⟨_, _, _, _, rfl, ⟨w0.ex.trans e7, e7 _ _ w0.rr, e7 _ _ w0.aa, e7 _ _ w0.bd⟩, Or.inl ⟨rfl, rfl⟩⟩) (fun i σ' H' hi ⟨S, v6, v7, v8, es, w, I⟩ => ?_) (fun σ' H' ⟨S, v6, v7, v8, es, w, I⟩ => ?_)
  · subst es
    show tSeq _ _ _ (sRg (.ref t) (.int (N : Int)) (.ref d) (.ref r3) (.ref r4) (on S.ch) (some (.int (i : Int))) v7 v8) H'
    refine q_asg (v := .non) ev_c fun H7 e7 => ?_
    have R0 : RI N E (i + 1) 0 ⟨S.r, S.ah, none⟩ := by
      rcases I with ⟨rfl, rfl⟩ | ⟨_, I⟩
      · exact ri_start
      · exact ri_next I
    have bd7 := e7 _ _ w.bd
    refine ⟨d, _, bd7, True.intro, fun od => ?_⟩
    obtain ⟨HL, eL⟩ : ∃ HL, HL = upd H7 d (.frz od (.dT (E.map kvE))) := ⟨_, rfl⟩
    rw [← eL]
    have gb : HL d = some (.frz od (.dT (E.map kvE))) := by rw [eL]; exact upd_same
    have gH : ∀ b o, H b = some o → HL b = some o := fun b o hb => by
      rw [eL, upd_ne (ne_of_none hb hdH)]
      exact e7 _ _ (w.ex _ _ hb)
    have g3 : HL r3 = some (.lst (rL N S.r)) := by rw [eL, upd_ne n3d]; exact e7 _ _ w.rr
    have g4 : HL r4 = some (.lst (ahL N S.ah)) := by rw [eL, upd_ne n4d]; exact e7 _ _ w.aa
    refine s_forKT (ev_var rfl) gb (fun j σ' H' => ∃ S v7 v8, σ' = sRg (.ref t) (.int (N : Int)) (.ref d) (.ref r3) (.ref r4) (on S.ch) (some (.int (i : Int))) v7 v8 ∧ (∀ b o, b ≠ r3 → b ≠ r4 → HL b = some o → H' b = some o) ∧ H' r3 = some (.lst (rL N S.r)) ∧ H' r4 = some (.lst (ahL N S.ah)) ∧ RI N E (i + 1) j S)
      (fun H8 e8 => ⟨⟨S.r, S.ah, none⟩, _, _, rfl, fun b o _ _ h => e8 _ _ h, e8 _ _ g3, e8 _ _ g4, R0⟩) (fun j σ' H' _ ⟨_, _, _, _, kp, _⟩ => kp _ _ (fun z => n3d z.symm) (fun z => n4d z.symm) gb) (fun j key v q σ' H' hkv hq ⟨S, v7, v8, es, kp, q3, q4, R⟩ => ?_) (fun σ' H' ⟨S, v7, v8, es, kp, q3, q4, R⟩ => ?_)
    · subst es
      obtain ⟨e, he, rfl, rfl⟩ := edge_at hkv
      have hem := List.mem_of_getElem? he
      obtain ⟨ga, gb', _⟩ := hg e hem
      have hd' : H' d = some (.frz od (.dT (E.map kvE))) := kp _ _ (fun z => n3d z.symm) (fun z => n4d z.symm) gb
      have R' := ri_step hg he R
      refine ⟨q, _, rfl, st_of hq, rfl, _, _, rfl, _, _, rfl, rfl, ?_⟩
      show tIfS _ _ _ _ (sRg (.ref t) (.int (N : Int)) (.ref d) (.ref r3) (.ref r4) (on S.ch) (some (.int (i : Int))) (some (.int (e.1 : Int))) (some (.int (e.2.1 : Int)))) H'
      have at3 : ∀ (x : Nat) (te : TE), x < N → Ev te (sRg (.ref t) (.int (N : Int)) (.ref d) (.ref r3) (.ref r4) (on S.ch) (some (.int (i : Int))) (some (.int (e.1 : Int))) (some (.int (e.2.1 : Int)))) H' (.int (x : Int)) → Ev (tOp (rIxL K) (tVar 3) te) (sRg (.ref t) (.int (N : Int)) (.ref d) (.ref r3) (.ref r4) (on S.ch) (some (.int (i : Int))) (some (.int (e.1 : Int))) (some (.int (e.2.1 : Int)))) H' (.int (S.r x)) :=
        fun x te hx h => ev_op (ev_var rfl) h (rv_ixL (sq_of q3) (atI_nat (map_at hx)))
      have bval : Ev (tDGet (tVar 2) (tTup (tCons (tVar 7) (tCons (tVar 8) tNil)))) (sRg (.ref t) (.int (N : Int)) (.ref d) (.ref r3) (.ref r4) (on S.ch) (some (.int (i : Int))) (some (.int (e.1 : Int))) (some (.int (e.2.1 : Int)))) H' (.int e.2.2) := by
        intro H8 e8 W w
        refine ⟨.ref d, rfl, eu_tup (σ := sRg (.ref t) (.int (N : Int)) (.ref d) (.ref r3) (.ref r4) (on S.ch) (some (.int (i : Int))) (some (.int (e.1 : Int))) (some (.int (e.2.1 : Int)))) (H := H8) (ea_cons (ev_var rfl) (ea_cons (ev_var rfl) ea_nil)) (by show 2 ≤ 100000; decide) H8 (Ex.refl _) _ fun q' H9 _ e9 h9 => ?_⟩
        have h9 : H9 q' = some (.tup ((ekey e).map kV)) := h9
        exact ⟨d, _, rfl, Or.inr ⟨_, ekey e, q', Or.inr ⟨od, (e8.trans e9) _ _ hd'⟩, rfl, h9, (val_mem hn hem).symm⟩, w H9 e9⟩
      have sum := ev_op (r := rAddI) (at3 e.1 (tVar 7) ga (ev_var rfl)) bval rv_I0
      refine s_when (b := decide (S.r e.1 + e.2.2 < S.r e.2.1)) (et_test (ev_op sum (at3 e.2.1 (tVar 8) gb' (ev_var rfl)) rv_I0)) (fun hb H8 e8 => ?_) (fun hb H8 e8 => ?_)
      · have er : relax S e = ⟨setF S.r e.2.1 (S.r e.1 + e.2.2), setF S.ah e.2.1 (some e.1), some e.2.1⟩ := if_pos (of_decide_eq_true hb)
        rw [er] at R'
        refine q_setL (l := r3) (xs := rL N S.r) (j := e.2.1) (v := .int (S.r e.1 + e.2.2)) (e8 _ _ q3) (sum.mono e8) (ev_var rfl) (ev_var rfl) (by rw [map_len]; exact gb') fun H9 e9 => ?_
        have q49 : upd H9 r3 (.lst ((rL N S.r).set e.2.1 (.int (S.r e.1 + e.2.2)))) r4 = some (.lst (ahL N S.ah)) := by
          rw [upd_ne (fun z => n34 z.symm)]
          exact e9 _ _ (e8 _ _ q4)
        refine q_setL (l := r4) (xs := ahL N S.ah) (j := e.2.1) (v := .int (e.1 : Int)) q49 (ev_var rfl) (ev_var rfl) (ev_var rfl) (by rw [map_len]; exact gb') fun H10 e10 => ?_
        refine s_asg (v := .int (e.2.1 : Int)) (ev_var rfl) fun H11 e11 => ⟨_, _, _, rfl, fun b o b3 b4 h => e11 _ _ ?_, e11 _ _ ?_, e11 _ _ ?_, R'⟩
        · rw [upd_ne b4]
          refine e10 _ _ ?_
          rw [upd_ne b3]
          exact e9 _ _ (e8 _ _ (kp b o b3 b4 h))
        · rw [upd_ne n34]
          refine e10 _ _ ?_
          rw [upd_same]
          refine congrArg (fun l => some (HO.lst l)) (map_set gb' ?_ fun x hx => ?_)
          · show V.int (setF S.r e.2.1 (S.r e.1 + e.2.2) e.2.1) = _
            rw [setF_same]
          · show V.int (setF S.r e.2.1 (S.r e.1 + e.2.2) x) = _
            rw [setF_ne hx]
        · rw [upd_same]
          refine congrArg (fun l => some (HO.lst l)) (map_set gb' ?_ fun x hx => ?_)
          · show on (setF S.ah e.2.1 (some e.1) e.2.1) = _
            rw [setF_same]
            rfl
          · show on (setF S.ah e.2.1 (some e.1) x) = _
            rw [setF_ne hx]
      · have er : relax S e = S := if_neg (of_decide_eq_false hb)
        rw [er] at R'
        exact ⟨S, _, _, rfl, fun b o b3 b4 h => e8 _ _ (kp b o b3 b4 h), e8 _ _ q3, e8 _ _ q4, R'⟩
    · subst es
      rw [List.length_map] at R
      refine ⟨kp _ _ (fun z => n3d z.symm) (fun z => n4d z.symm) gb, S, _, _, _, rfl, ⟨fun b o hb => ?_, ?_, ?_, upd_same⟩, Or.inr ⟨by omega, R⟩⟩
      · rw [upd_ne (ne_of_none hb hdH)]
        exact kp b o (ne_of_none hb hr3H) (ne_of_none hb hr4H) (gH b o hb)
      · rw [upd_ne n3d]; exact q3
      · rw [upd_ne n4d]; exact q4
  · subst es
    rw [Int.toNat_natCast] at I
    have RN : RI N E N E.length S := by
      rcases I with ⟨z, _⟩ | ⟨_, I⟩
      · omega
      · exact I
    cases hc : S.ch with
    | none =>
      refine q_when (b := true) (et_B (ev_isN (v := .non) (ev_var rfl))) (fun _ H7 e7 => ?_) (fun z => nomatch z)
      exact s_ret ev_c fun H8 e8 => k .non H8 (w.ex.trans (e7.trans e8)) (Or.inl rfl)
    | some v =>
      obtain ⟨p, L, B⟩ := ri_back RN hc
      have unfit : ∀ s, ¬ FitE n E s := fun s f => back_unfit B s ((T.fits s).mp f)
      refine q_when (b := false) (et_B (ev_isN (v := .int (v : Int)) (ev_var rfl))) (fun z => nomatch z) (fun _ H7 e7 => ?_)
      refine p_ret (evp_call (ea_cons (ev_var rfl) (ea_cons (ev_var (v := .int (v : Int)) rfl) ea_nil)) fun H8 e8 => ⟨r4, v, N, L, S.ah, p, rfl, e8 _ _ (e7 _ _ w.aa), B.p0, B.lt, B.ah, B.pos, B.le, B.per N (Nat.le_refl _), hN, rfl⟩) fun x H8 e8 ⟨q, xs, hv, hq⟩ => k x H8 (w.ex.trans (e7.trans e8)) (Or.inr ⟨unfit, q, xs, hv, hq⟩)
end
end Bw
/-! A point hidden. -/
namespace Bw
open PySem PySem.Spec PyProof.Rows L2 Evl
/-- the points but one -/
def lfs (n sp : Nat) : List Nat := (List.range (n + 1)).filter fun i => !decide (i = sp)
def sp__can_hide (C : Addr) : Sp := spOf fun vs H P => ∃ (p : Addr) (x n : Nat), vs = [.ref p, .int (n : Int)] ∧ H p = some (.tup [.int (x : Int)]) ∧ 1 ≤ x ∧ x ≤ n ∧ 2 ≤ n ∧ P = isV (.bl true)
def sp_hidden (C : Addr) : Sp := spOf fun vs H P => ∃ (t p : Addr) (x n : Nat) (E : List Edge), vs = [.ref t, .ref p] ∧ TabAt C H t n E ∧ H p = some (.tup [.int (x : Int)]) ∧ 1 ≤ x ∧ x ≤ n ∧ 2 ≤ n ∧
  P = fun v H2 => ∃ u E', v = .ref u ∧ TabAt C H2 u (n - 1) E' ∧ ∀ s, FitE n E s → FitE (n - 1) E' fun i => s ((lfs n x).getD i 0)
def t__can_hide_2 (K : PySem.W.Frag) (C : Addr) : TS := (tRet (tCB (rAll K) (tCons (tLc (RZ.iZipA K (tCons (tVar 0) (tCons (tSl (rSlT K) (tVar 0) (tPart (tC (.int 1))) tNoPart) tNil))) (gTup K 2 (gCons (gName 3) (gCons (gName 4) gNil))) tYes (tOp rLtI (tVar 3) (tVar 4)) [3, 4]) tNil)))
def t__can_hide_1 (K : PySem.W.Frag) (C : Addr) : TS := tSeq (tIfS (tNot (tB (tCB (rAll K) (tCons (tLc (iTup K (tVar 0)) (gName 2) tYes (tCall (sp_is_number_between C) [] E0 (tCons (tVar 2) (tCons (tC (.int 1)) (tCons (tVar 1) tNil)))) [2]) tNil)))) (tRet (tC (.bl false))) tNext) (t__can_hide_2 K C)
def t__can_hide_0 (K : PySem.W.Frag) (C : Addr) : TS := tSeq (tIfS (tOr (tNot (tB (tCB (rIsi K) (tCons (tVar 0) (tCons (tC (.ty "tuple")) tNil))))) (tTest (tOp rGeI (tCB (cLen K) (tCons (tVar 0) tNil)) (tVar 1)))) (tRet (tC (.bl false))) tNext) (t__can_hide_1 K C)
def t_hidden_5 (K : PySem.W.Frag) (C : Addr) : TS := (tRet (tCall (sp__table_of C) [] E0 (tCons (tLc (iList K (tVar 2)) (gName 5) tYes (tLc (iList K (tVar 2)) (gName 6) tYes (tOp (rIxL K) (tOp (rIxL K) (tVar 3) (tVar 5)) (tVar 6)) [6]) [5]) tNil)))
def t_hidden_4 (K : PySem.W.Frag) (C : Addr) : TS := tSeq (tIfS (tB (tIsN (tVar 3))) (tRet (tCall (sp_nothing C) [] E0 (tCons (tOp rSubI (tCB (cLen K) (tCons (tVar 2) tNil)) (tC (.int 1))) tNil))) tNext) (t_hidden_5 K C)
def t_hidden_3 (K : PySem.W.Frag) (C : Addr) : TS := tSeq (tAsg (tCall (sp__least_ways C) [] E0 (tCons (tVar 0) tNil)) (gName 3)) (t_hidden_4 K C)
def t_hidden_2 (K : PySem.W.Frag) (C : Addr) : TS := tSeq (tAsg (tLc (iRng1 (tCons (tOp rAddI (tProp C (sp_Table_size C) [] E0 (tVar 0)) (tC (.int 1))) tNil)) (gName 4) (tTest (tOp (rIn K true) (tVar 4) (tVar 1))) (tVar 4) [4]) (gName 2)) (t_hidden_3 K C)
def t_hidden_1 (K : PySem.W.Frag) (C : Addr) : TS := tSeq (tIfS (tNot (tB (tCall (sp__can_hide C) [] E0 (tCons (tVar 1) (tCons (tProp C (sp_Table_size C) [] E0 (tVar 0)) tNil))))) tNever tNext) (t_hidden_2 K C)
def t_hidden_0 (K : PySem.W.Frag) (C : Addr) : TS := tSeq (tDrop (tCall (sp__need_table C) [] E0 (tCons (tVar 0) (tCons (tC .non) tNil)))) (t_hidden_1 K C)
section
variable {K : PySem.W.Frag} {C : Addr} {σ : L2.St} {H : Hp} {ta tb tc te : TE} {D : Ends} {t n : Nat} {E : List Edge}
theorem walk_zT {a b : Addr} {xs ys : List V} {m : Nat} (hm : m = min xs.length ys.length) : Walk (RZ.ItzT K a b) m (fun H => SqT K H a xs ∧ SqT K H b ys) (YPair (fun i => xs[i]?) (fun i => ys[i]?)) where
  goes := fun i H hi q => ⟨xs, ys, xs[i]'(by omega), ys[i]'(by omega), q.1, q.2, List.getElem?_eq_getElem _, List.getElem?_eq_getElem _⟩
  stops := fun H q => ⟨xs, ys, q.1, q.2, by omega⟩
  yields := fun i H v H' _ q y => by
    obtain ⟨T, x, z, h1, h2, h3, h4, h5⟩ := y
    exact ⟨T, x, z, h1, h2, h3, h4 xs q.1, h5 ys q.2⟩
theorem el_zipT {xs ys : List V} {tA : TA} {i1 i2 : Nat} {vs : List Nat} (f : V → V → V) (h : ∀ H0, Ex H H0 → ∀ Q : List V → Hp → Prop, (∀ a b H1, Ex H0 H1 → SqT K H1 a xs → SqT K H1 b ys → Q [.ref a, .ref b] H1) → tA σ H0 Q) (hz : xs.length ≤ 30000)
    (hw : ∀ x y, wipe (((wipe σ vs).set i1 (some x)).set i2 (some y)) vs = wipe σ vs) (he : ∀ (i : Nat) (x y : V) H1, Ex H H1 → xs[i]? = some x → ys[i]? = some y → Ev te (((wipe σ vs).set i1 (some x)).set i2 (some y)) H1 (f x y)) :
    EvL (tLc (RZ.iZipA K tA) (gTup K 2 (gCons (gName i1) (gCons (gName i2) gNil))) tYes te vs) σ H (List.zipWith f xs ys) := fun H0 e Q q => h H0 e _ fun a b H1 e1 hx hy => ⟨a, b, xs, ys, rfl, Or.inr ⟨hx, hy, fun Dl hD => by
  refine lc_it (walk_zT (xs := xs) (ys := ys) rfl) (Zw H1 f xs ys Dl) ⟨hD, Ex.new hD, upd_same⟩ (fun i H' _ p => ⟨ex_t p.2.1 hx, ex_t p.2.1 hy⟩) (fun i v H' H2 hi p y => ?_) (fun H' p => ?_)
  · obtain ⟨T, x, z, rfl, hT, e2, h1, h2⟩ := y
    exact zw_turn p (by have := (List.getElem?_eq_some_iff.mp h1).1; omega) h1 h2 hT e2 (hw x z) (he i x z H1 (e.trans e1) h1 h2)
  · have p3 := p.2.2
    refine q Dl H' (fresh_back e1 p.1) (e1.trans p.2.1) ?_
    rw [p3, List.take_of_length_le (by rw [List.length_zipWith]; exact Nat.le_refl _)]⟩⟩
theorem pure_can_hide {p : Addr} {x : Nat} {Q : VK} (hp : H p = some (.tup [.int (x : Int)])) (x1 : 1 ≤ x) (x2 : x ≤ n) (n2 : 2 ≤ n) (k : ∀ H1, Ex H H1 → Q (.bl true) H1) : t__can_hide_0 K C (ends Q) [some (.ref p), some (.int (n : Int)), none, none, none] H := by
  refine q_when (b := !true || decide ((n : Int) ≤ ((1 : Nat) : Int))) (et_or (a := !true) (et_not (et_B (ev_isi (ev_var rfl) (fun H1 e => ty_tup (e _ _ hp)) (kit_ty (by decide +kernel))))) fun _ => et_test (ev_op (ev_lenT (ev_var rfl) (st_of hp)) (ev_var rfl) rv_I0)) (fun hb => ?_) (fun _ H1 e1 => ?_)
  · have : decide ((n : Int) ≤ ((1 : Nat) : Int)) = false := decide_eq_false (by omega)
    rw [this] at hb
    exact nomatch hb
  · refine q_when (b := !true) (et_not (et_B (ev_is (w := .bl true) (ev_all (bs := [true]) ?_) rfl))) (fun z => nomatch z) (fun _ H2 e2 => ?_)
    · have := el_mpT (K := K) (σ := [some (.ref p), some (.int (n : Int)), none, none, none]) (H := H1) (te := tCall (sp_is_number_between C) [] E0 (tCons (tVar 2) (tCons (tC (.int 1)) (tCons (tVar 1) tNil)))) (tl := tVar 0) (j := 2) (vs := [2]) (fun _ => V.bl true) (ev_var rfl) (st_of (e1 _ _ hp)) (by show 1 ≤ 40000; decide) (fun y => rfl) (fun y H4 e4 hm => by
        obtain rfl := List.mem_singleton.mp hm
        exact ev_callV (ea_cons (ev_var rfl) (ea_cons ev_c (ea_cons (ev_var rfl) ea_nil))) fun H5 e5 => ⟨(x : Int), 1, (n : Int), rfl, by
          rw [decide_eq_true (show (1 : Int) ≤ (x : Int) by omega), decide_eq_true (show (x : Int) ≤ (n : Int) by omega)]
          rfl⟩)
      exact this
    · refine s_ret (v := .bl (([] : List Bool).all id)) (ev_all ?_) fun H3 e3 => k H3 (e1.trans (e2.trans e3))
      have := el_zipT (K := K) (σ := [some (.ref p), some (.int (n : Int)), none, none, none]) (H := H2) (te := tOp rLtI (tVar 3) (tVar 4)) (tA := tCons (tVar 0) (tCons (tSl (rSlT K) (tVar 0) (tPart (tC (.int 1))) tNoPart) tNil)) (i1 := 3) (i2 := 4) (vs := [3, 4]) (xs := [.int (x : Int)]) (ys := []) (fun _ _ => .non) (fun H0 e0 R r => ?_) (by show 1 ≤ 30000; decide) (fun _ _ => rfl) (fun i y z H5 e5 hy hz => by cases hz)
      · exact this
      · have hp0 := (e1.trans (e2.trans e0)) _ _ hp
        refine ⟨_, rfl, .ref p, rfl, ?_⟩
        refine ⟨1, rfl, p, _, rfl, st_of hp0, (fun z => by cases z.1), fun q hq => ?_⟩
        exact r p q _ (Ex.new hq) (st_of ((Ex.new hq) _ _ hp0)) (st_of (by rw [upd_same]; rfl))
theorem rows_madeL {a : Addr} {xs : List V} {tl : TE} {j : Nat} {vs : List Nat} {row : Nat → List V} (h : Ev tl σ H (.ref a)) (hx : SqL K H a xs) (hz : xs.length ≤ 30000) (hw : ∀ x, wipe ((wipe σ vs).set j (some x)) vs = wipe σ vs)
    (he : ∀ (i : Nat) (x : V) H1, Ex H H1 → xs[i]? = some x → EvL te ((wipe σ vs).set j (some x)) H1 (row i)) {Q : VK}
    (q : ∀ (p : Addr) (rs : List Addr) (H2 : Hp), Ex H H2 → H2 p = some (.lst (rs.map V.ref)) → rs.length = xs.length → rs.Nodup → (∀ i r, rs[i]? = some r → H2 r = some (.lst (row i))) → Q (.ref p) H2) : tLc (iList K tl) (gName j) tYes te vs σ H Q := by
  refine h H (Ex.refl H) _ fun H1 e1 => ⟨a, rfl, ⟨xs, ex_l e1 hx⟩, fun Dl hD => ?_⟩
  have hx1 := ex_l e1 hx
  refine lc_it (walk_list (xs := xs)) (fun i H' => Ex H1 H' ∧ ∃ rs : List Addr, H' Dl = some (.lst (rs.map V.ref)) ∧ rs.length = i ∧ rs.Nodup ∧ (∀ r ∈ rs, H1 r = none ∧ r ≠ Dl) ∧ ∀ b r, rs[b]? = some r → H' r = some (.lst (row b)))
    ⟨Ex.new hD, [], upd_same, rfl, List.nodup_nil, fun r hr => (nomatch hr), fun b r hr => by cases hr⟩ (fun _ _ _ p => ex_l p.1 hx1) (fun i x H' H2 hi ⟨ex, rs, r1, r2, r3, r4, r5⟩ y => ?_) (fun H' ⟨ex, rs, r1, r2, r3, r4, r5⟩ => ?_)
  · obtain ⟨rfl, hxi⟩ := y
    refine ⟨hw _, ?_⟩
    unfold tYes
    refine iteT ?_
    refine he i x H2 (e1.trans ex) hxi H2 (Ex.refl _) _ fun p H3 hp e3 h3 => ?_
    have npD : p ≠ Dl := fun z => by rw [z, r1] at hp; exact nomatch hp
    have npr : p ∉ rs := fun hm => by
      obtain ⟨b, hb, er⟩ := List.mem_iff_getElem.mp hm
      have := r5 b p (by rw [List.getElem?_eq_getElem hb, er])
      rw [this] at hp
      exact nomatch hp
    have hp1 : H1 p = none := fresh_back ex hp
    refine ⟨_, e3 _ _ r1, by rw [List.length_map, r2]; exact sz_lt (by omega), Ex.mut (ex.trans e3) hD, rs ++ [p], ?_, by rw [List.length_append, r2]; rfl, ?_, fun r hr => ?_, fun b r hr => ?_⟩
    · rw [upd_same, List.map_append]
      rfl
    · rw [List.nodup_append]
      refine ⟨r3, by simp, fun u hu y hy => ?_⟩
      rw [List.mem_singleton.mp hy]
      exact fun z => npr (z ▸ hu)
    · rcases List.mem_append.mp hr with hr | hr
      · exact r4 r hr
      · rw [List.mem_singleton.mp hr]
        exact ⟨hp1, npD⟩
    · rcases Nat.lt_or_ge b rs.length with hb | hb
      · rw [List.getElem?_append_left hb] at hr
        rw [upd_ne (r4 r (List.mem_of_getElem? hr)).2]
        exact e3 _ _ (r5 b r hr)
      · rw [List.getElem?_append_right hb] at hr
        have eb : b - rs.length = 0 := by
          have := (List.getElem?_eq_some_iff.mp hr).1
          simp at this
          omega
        rw [eb] at hr
        cases hr
        have : b = i := by omega
        rw [upd_ne npD, this]
        exact h3
  · exact q Dl rs H' (e1.trans ex) r1 r2 r3 r5
theorem lfs_len1 (x : Nat) : ∀ m, ((List.range m).filter fun i => !decide (i = x)).length = if x < m then m - 1 else m
  | 0 => rfl
  | m + 1 => by
    rw [List.range_succ, List.filter_append, List.length_append, lfs_len1 x m]
    by_cases c : m = x
    · subst c
      rw [List.filter_cons_of_neg (by simp), if_neg (Nat.lt_irrefl m), if_pos (Nat.lt_succ_self m)]
      simp
    · rw [List.filter_cons_of_pos (by simp [c])]
      by_cases l : x < m
      · rw [if_pos l, if_pos (by omega)]
        simp
        omega
      · rw [if_neg l, if_neg (by omega)]
        simp
theorem lfs_len {x : Nat} (h : x ≤ n) : (lfs n x).length = n := by
  unfold lfs
  rw [lfs_len1, if_pos (by omega)]
  omega
theorem lfs_lt {x i : Nat} (hx : x ≤ n) (hi : i < n) : (lfs n x).getD i 0 < n + 1 ∧ (lfs n x)[i]? = some ((lfs n x).getD i 0) := by
  have hl : i < (lfs n x).length := by rw [lfs_len hx]; exact hi
  have e : (lfs n x).getD i 0 = (lfs n x)[i] := by rw [List.getD_eq_getElem?_getD, List.getElem?_eq_getElem hl]; rfl
  rw [e, List.getElem?_eq_getElem hl]
  exact ⟨List.mem_range.mp (List.mem_filter.mp (List.getElem_mem hl)).1, rfl⟩
theorem in_one (i x : Nat) : inV (.int (i : Int)) [V.int (x : Int)] = decide (i = x) := by
  have : inV (.int (i : Int)) [V.int (x : Int)] = (decide ((x : Int) = (i : Int)) || false) := rfl
  rw [this, Bool.or_false]
  refine decide_eq_decide.mpr ⟨fun h => by omega, fun h => by omega⟩
theorem pure_hidden {p : Addr} {x : Nat} {Q : VK} (T : TabAt C H t n E) (hp : H p = some (.tup [.int (x : Int)])) (x1 : 1 ≤ x) (x2 : x ≤ n) (n2 : 2 ≤ n)
    (k : ∀ u H2 E', Ex H H2 → TabAt C H2 u (n - 1) E' → (∀ s, FitE n E s → FitE (n - 1) E' fun i => s ((lfs n x).getD i 0)) → Q (.ref u) H2) : t_hidden_0 K C (ends Q) [some (.ref t), some (.ref p), none, none, none, none, none] H := by
  obtain ⟨_, _, n1, n3⟩ := T.good
  refine q_need (ea_cons (ev_var rfl) (ea_cons ev_c ea_nil)) T fun H1 e1 => ?_
  refine q_when (b := !true) (et_not (et_B (ev_callV (ea_cons (ev_var rfl) (ea_cons (ev_propSize (ev_var rfl) (T.ex e1)) ea_nil)) fun H2 e2 => ⟨p, x, n, rfl, (e1.trans e2) _ _ hp, x1, x2, n2, rfl⟩))) (fun z => nomatch z) (fun _ H2 e2 => ?_)
  have e12 := e1.trans e2
  have hp2 := e12 _ _ hp
  have gv : given (n + 1) (fun i => !(inV (.int (i : Int)) [V.int (x : Int)])) (fun i => .int (i : Int)) = (lfs n x).map fun i : Nat => V.int (i : Int) := by
    unfold given lfs
    refine congrArg (List.map _) (List.filter_congr fun i _ => ?_)
    rw [in_one]
  refine q_asgL (xs := (lfs n x).map fun i : Nat => V.int (i : Int)) ?_ fun l H3 hl e3 h3 => ?_
  · rw [← gv]
    have := el_lcR1 (σ := [some (.ref t), some (.ref p), none, none, none, none, none]) (H := H2) (ta := tCons (tOp rAddI (tProp C (sp_Table_size C) [] E0 (tVar 0)) (tC (.int 1))) tNil) (te := tVar 4) (t := tTest (tOp (rIn K true) (tVar 4) (tVar 1))) (j := 4) (vs := [4]) (n := ((n + 1 : Nat) : Int)) (fun i => !(inV (.int (i : Int)) [V.int (x : Int)])) (fun i => .int (i : Int))
      (ea_cons (ev_is (ev_op (ev_propSize (ev_var rfl) (T.ex e12)) ev_c rv_I0) rfl) ea_nil) (by omega) (fun _ => rfl) (fun i H3 e3 _ => et_test (ev_op (ev_var rfl) (ev_var rfl) (rv_niT (st_of (e3 _ _ hp2)) rfl rfl))) (fun i H3 e3 _ _ => ev_var rfl)
    rw [Int.toNat_natCast] at this
    exact this
  have e13 := e12.trans e3
  have ll : ((lfs n x).map fun i : Nat => V.int (i : Int)).length = n := by rw [List.length_map, lfs_len x2]
  refine q_pasg (evp_call (ea_cons (ev_var rfl) ea_nil) fun H4 e4 => ⟨t, n, E, rfl, T.ex (e13.trans e4), rfl⟩) fun v H4 e4 hv => ?_
  have e14 := e13.trans e4
  rcases hv with ⟨rfl, hno⟩ | ⟨q, rs, M, rfl, R, Cl, fit, lo⟩
  · refine q_when (b := true) (et_B (ev_isN (v := .non) (ev_var rfl))) (fun _ H5 e5 => ?_) (fun z => nomatch z)
    have ln : Ev (tOp rSubI (tCB (cLen K) (tCons (tVar 2) tNil)) (tC (.int 1))) [some (.ref t), some (.ref p), some (.ref l), some .non, none, none, none] H5 (.int ((n - 1 : Nat) : Int)) := by
      refine ev_is (ev_op (ev_lenL (ev_var rfl) (sq_of ((e4.trans e5) _ _ h3))) ev_c rv_I0) ?_
      rw [ll]
      congr 1
      omega
    refine p_ret (P := fun v H2 => ∃ t E, v = .ref t ∧ TabAt C H2 t (n - 1) E ∧ E.Perm E0n) (evp_call (ea_cons ln ea_nil) fun H6 e6 => ⟨n - 1, rfl, by omega, by omega, rfl⟩) fun v H6 e6 ⟨u, E', hv, U, pm⟩ => ?_
    subst hv
    exact k u H6 E' (e14.trans (e5.trans e6)) U fun s f => absurd f (hno s)
  · refine q_when (b := false) (et_B (ev_isN (v := .ref q) (ev_var rfl))) (fun z => nomatch z) (fun _ H5 e5 => ?_)
    have h5 := (e4.trans e5) _ _ h3
    have R5 := R.ex e5
    unfold t_hidden_5 tRet tCall
    have at_l : ∀ i w, ((lfs n x).map fun i : Nat => V.int (i : Int))[i]? = some w → i < n ∧ w = .int (((lfs n x).getD i 0 : Nat) : Int) := fun i w hw => by
      have hi := (List.getElem?_eq_some_iff.mp hw).1
      rw [ll] at hi
      rw [List.getElem?_map, (lfs_lt x2 hi).2] at hw
      exact ⟨hi, (Option.some.inj hw).symm⟩
    refine rows_madeL (σ := [some (.ref t), some (.ref p), some (.ref l), some (.ref q), none, none, none]) (a := l) (xs := (lfs n x).map fun i : Nat => V.int (i : Int)) (row := fun i => rowV (fun a b => M ((lfs n x).getD a 0) ((lfs n x).getD b 0)) n i) (ev_var rfl) (sq_of h5) (by omega) (fun _ => rfl) (fun i w H6 e6 hw => ?_) (fun p' rs' H6 e6 htop hlen hnd hrow => ?_)
    · obtain ⟨hi, rfl⟩ := at_l i w hw
      obtain ⟨r, hr, hq⟩ := (R5.ex e6).get (lfs_lt x2 hi).1
      have gl : given ((lfs n x).map fun i : Nat => V.int (i : Int)).length (fun _ => true) (fun b => ov (M ((lfs n x).getD i 0) ((lfs n x).getD b 0))) = rowV (fun a b => M ((lfs n x).getD a 0) ((lfs n x).getD b 0)) n i := by
        rw [given_all, ll]
        rfl
      rw [← gl]
      refine el_lcL (fun _ => true) _ (ev_var rfl) (sq_of (e6 _ _ h5)) (by omega) (fun _ => rfl) (fun _ _ _ _ _ => et_yes) fun b w H7 e7 hw _ => ?_
      obtain ⟨hb, rfl⟩ := at_l b w hw
      exact ev_at (ev_var rfl) (ev_var rfl) (ev_var rfl) ((R5.ex (e6.trans e7)).top) hr (e7 _ _ hq) (lfs_lt x2 hb).1
    · have en : n - 1 + 1 = n := by omega
      refine ⟨fun v H2 => ∃ u E', v = .ref u ∧ TabAt C H2 u (n - 1) E' ∧ ∀ a b, a < n - 1 + 1 → b < n - 1 + 1 → a ≠ b → matE E' a b = M ((lfs n x).getD a 0) ((lfs n x).getD b 0), ⟨p', rs', fun a b => M ((lfs n x).getD a 0) ((lfs n x).getD b 0), n - 1, rfl, ⟨htop, by rw [en, hlen, ll], hnd, fun a r hr => by rw [en]; exact hrow a r hr⟩, by omega, by omega, rfl⟩, fun v H7 e7 ⟨u, E', hv, U, hm⟩ => ?_⟩
      subst hv
      refine k u H7 E' (e14.trans (e5.trans (e6.trans e7))) U fun s f a b y ha hb hy => ?_
      by_cases c : a = b
      · subst c
        unfold matE at hy
        rw [if_pos rfl] at hy
        cases hy
        show s _ - s _ ≤ 0
        omega
      · rw [hm a b ha hb c] at hy
        exact (fit s).mp f _ _ y (lfs_lt x2 (by omega)).1 (lfs_lt x2 (by omega)).1 hy
end
end Bw
/-! The law's own small defs. -/
namespace Bw
open PySem PySem.Spec PyProof.Rows L2 Evl
/-- None, or a water whose sums are not passed upward -/
def TopOk (H : Hp) (n : Nat) (xs : List Int) (v : V) : Prop := v = .non ∨ ∃ w ys, v = .ref w ∧ H w = some (.tup (intL ys)) ∧ ys.length = n ∧ ∀ a, a < n + 1 → (pre xs).getD a 0 ≤ (pre ys).getD a 0
def LowOk (H : Hp) (n : Nat) (xs : List Int) (v : V) : Prop := v = .non ∨ ∃ w ys, v = .ref w ∧ H w = some (.tup (intL ys)) ∧ ys.length = n ∧ ∀ a, a < n + 1 → (pre ys).getD a 0 ≤ (pre xs).getD a 0
theorem TopOk.ex {H H' : Hp} {n : Nat} {xs : List Int} {v : V} (h : TopOk H n xs v) (e : Ex H H') : TopOk H' n xs v := by
  rcases h with h | ⟨w, ys, h1, h2, r⟩
  · exact Or.inl h
  · exact Or.inr ⟨w, ys, h1, e _ _ h2, r⟩
theorem LowOk.ex {H H' : Hp} {n : Nat} {xs : List Int} {v : V} (h : LowOk H n xs v) (e : Ex H H') : LowOk H' n xs v := by
  rcases h with h | ⟨w, ys, h1, h2, r⟩
  · exact Or.inl h
  · exact Or.inr ⟨w, ys, h1, e _ _ h2, r⟩
def sp__law_is_passed (C : Addr) : Sp := spOf fun vs H P => ∃ (p : Addr) (tp lw : V) (xs : List Int) (n : Nat), vs = [.ref p, tp, lw] ∧ H p = some (.tup (intL xs)) ∧ xs.length = n ∧ 1 ≤ n ∧ n ≤ 12 ∧ TopOk H n xs tp ∧ LowOk H n xs lw ∧ P = isV (.bl false)
def t__law_is_passed_2 (K : PySem.W.Frag) (C : Addr) : TS := (tRet (tAndV (tNotN (tVar 2)) (tOp (rNeD K) (tLc (iZipN K (tCons (tVar 3) (tCons (tCall (sp_sums C) [] E0 (tCons (tVar 2) tNil)) tNil))) (gName 4) (tTest (tOp rLtI (tOp (rIxT K) (tVar 4) (tC (.int 0))) (tOp (rIxT K) (tVar 4) (tC (.int 1))))) (tC (.int 1)) [4]) (tLst tNil))))
def t__law_is_passed_1 (K : PySem.W.Frag) (C : Addr) : TS := tSeq (tIfS (tAnd (tB (tNotN (tVar 1))) (tTest (tOp (rNeD K) (tLc (iZipN K (tCons (tVar 3) (tCons (tCall (sp_sums C) [] E0 (tCons (tVar 1) tNil)) tNil))) (gName 4) (tTest (tOp rGtI (tOp (rIxT K) (tVar 4) (tC (.int 0))) (tOp (rIxT K) (tVar 4) (tC (.int 1))))) (tC (.int 1)) [4]) (tLst tNil)))) (tRet (tC (.bl true))) tNext) (t__law_is_passed_2 K C)
def t__law_is_passed_0 (K : PySem.W.Frag) (C : Addr) : TS := tSeq (tAsg (tCall (sp_sums C) [] E0 (tCons (tVar 0) tNil)) (gName 3)) (t__law_is_passed_1 K C)
section
variable {K : PySem.W.Frag} {C : Addr} {σ : L2.St} {H : Hp} {ta tb tc te : TE} {t : TT} {D : Ends} {n : Nat}
/-- [.. for pair in zip(tuple, tuple) if ..], none taken -/
theorem el_zipN0 {xs ys : List V} {tA : TA} {j : Nat} {vs : List Nat} (h : ∀ H0, Ex H H0 → ∀ Q : List V → Hp → Prop, (∀ a b H1, Ex H0 H1 → SqT K H1 a xs → SqT K H1 b ys → Q [.ref a, .ref b] H1) → tA σ H0 Q)
    (hw : ∀ x, wipe ((wipe σ vs).set j (some x)) vs = wipe σ vs) (ht : ∀ (i : Nat) (x y : V) (T : Addr) H1, Ex H H1 → xs[i]? = some x → ys[i]? = some y → H1 T = some (.tup [x, y]) → EvT t ((wipe σ vs).set j (some (.ref T))) H1 false) :
    EvL (tLc (iZipN K tA) (gName j) t te vs) σ H [] := fun H0 e Q q => h H0 e _ fun a b H1 e1 hx hy => ⟨a, b, xs, ys, rfl, hx, hy, fun Dl hD => by
  refine lc_it (walk_zT (xs := xs) (ys := ys) rfl) (fun i H' => H1 Dl = none ∧ Ex H1 H' ∧ H' Dl = some (.lst [])) ⟨hD, Ex.new hD, upd_same⟩ (fun i H' _ p => ⟨ex_t p.2.1 hx, ex_t p.2.1 hy⟩) (fun i v H' H2 hi p y => ?_) (fun H' p => q Dl H' (fresh_back e1 p.1) (e1.trans p.2.1) p.2.2)
  obtain ⟨T, x, z, rfl, hT, rfl, h1, h2⟩ := y
  obtain ⟨p1, p2, p3⟩ := p
  have eT : Ex H' (upd H' T (.tup [x, z])) := Ex.new hT
  refine ⟨hw _, ht i x z T _ ((e.trans e1).trans (p2.trans eT)) h1 h2 upd_same _ (Ex.refl _) _ fun H3 e3 => ?_⟩
  exact iteF ⟨p1, p2.trans (eT.trans e3), e3 _ _ (eT _ _ p3)⟩⟩
theorem ev_neNil (h : EvL ta σ H []) : Ev (tOp (rNeD K) ta (tLst tNil)) σ H (.bl false) := fun H1 e Q q => h H1 e _ fun p H2 _ e2 h2 =>
  ⟨sz0, fun p2 hp2 => ne_nil (l := []) ((Ex.new hp2) _ _ h2) upd_same (q _ (e2.trans (Ex.new hp2)))⟩
theorem zip_args {a : Addr} {xs ys : List Int} (h0 : Ev ta σ H (.ref a)) (ha : H a = some (.tup (intL xs))) {b : Addr} (h1 : Ev tb σ H (.ref b)) (hb : H b = some (.tup (intL ys))) (l1 : 1 ≤ ys.length) (l2 : ys.length ≤ 12) :
    ∀ H0, Ex H H0 → ∀ Q : List V → Hp → Prop, (∀ a b H1, Ex H0 H1 → SqT K H1 a (intL xs) → SqT K H1 b (intL (pre ys)) → Q [.ref a, .ref b] H1) → (tCons ta (tCons (tCall (sp_sums C) [] E0 (tCons tb tNil)) tNil)) σ H0 Q := fun H0 e Q q =>
  h0 H0 e _ fun H1 e1 => evp_call (P := isT (intL (pre ys))) (ea_cons h1 ea_nil) (fun H2 e2 => ⟨b, ys, rfl, e2 _ _ hb, l1, l2, rfl⟩) H1 (e.trans e1) _ fun v H2 e2 ⟨p, hv, hp⟩ => by
    subst hv
    exact q a p H2 (e1.trans e2) (st_of ((e.trans (e1.trans e2)) _ _ ha)) (st_of hp)
theorem pre_at {xs : List Int} {i : Nat} {v : V} (h : (intL (pre xs))[i]? = some v) : i < xs.length + 1 ∧ v = .int ((pre xs).getD i 0) := by
  have hi := (List.getElem?_eq_some_iff.mp h).1
  rw [List.length_map] at hi
  have hl := preA_length 0 xs
  have hi2 : i < (pre xs).length := hi
  rw [getD_at hi2] at h
  exact ⟨by show i < _; rw [← hl]; exact hi, (Option.some.inj h).symm⟩
theorem pure_is_passed {p : Addr} {tp lw : V} {xs : List Int} {Q : VK} (hp : H p = some (.tup (intL xs))) (hl : xs.length = n) (n1 : 1 ≤ n) (n2 : n ≤ 12) (ht : TopOk H n xs tp) (hw : LowOk H n xs lw) (k : ∀ H1, Ex H H1 → Q (.bl false) H1) : t__law_is_passed_0 K C (ends Q) [some (.ref p), some tp, some lw, none, none] H := by
  refine q_pasg (evp_call (ea_cons (ev_var rfl) ea_nil) fun H1 e1 => ⟨p, xs, rfl, e1 _ _ hp, by omega, by omega, rfl⟩) fun v H1 e1 ⟨lv, hv, hlv⟩ => ?_
  subst hv
  show t__law_is_passed_1 K C (ends Q) [some (.ref p), some tp, some lw, some (.ref lv), none] H1
  have last : ∀ H2, Ex H1 H2 → t__law_is_passed_2 K C (ends Q) [some (.ref p), some tp, some lw, some (.ref lv), none] H2 := fun H2 e2 => by
    rcases (hw.ex e1).ex e2 with rfl | ⟨w, ys, rfl, hwt, ly, le⟩
    · exact s_ret (v := .bl (false && false)) (ev_andV (a := false) (b := false) (ev_notN (v := .non) (ev_var rfl)) fun z => nomatch z) fun H3 e3 => k H3 (e1.trans (e2.trans e3))
    · refine s_ret (v := .bl (true && false)) (ev_andV (a := true) (ev_notN (v := .ref w) (ev_var rfl)) fun _ => ev_neNil (el_zipN0 (zip_args (ev_var rfl) (e2 _ _ hlv) (ev_var rfl) hwt (by omega) (by omega)) (fun _ => rfl) fun i x y T H3 e3 hx hy hT => ?_)) fun H3 e3 => k H3 (e1.trans (e2.trans e3))
      obtain ⟨hi, rfl⟩ := pre_at hx
      obtain ⟨_, rfl⟩ := pre_at hy
      have := le i (by omega)
      exact et_is (et_test (ev_op (ev_op (ev_var rfl) ev_c (rv_ixT (st_of hT) (atI_nat (j := 0) rfl))) (ev_op (ev_var rfl) ev_c (rv_ixT (st_of hT) (atI_nat (j := 1) rfl))) rv_I0)) (decide_eq_false (by omega))
  rcases ht.ex e1 with rfl | ⟨w, ys, rfl, hwt, ly, le⟩
  · exact q_when (b := false && false) (et_and (a := false) (b := false) (et_B (ev_notN (v := .non) (ev_var rfl))) fun z => nomatch z) (fun z => nomatch z) fun _ H2 e2 => last H2 e2
  · refine q_when (b := true && false) (et_and (a := true) (et_B (ev_notN (v := .ref w) (ev_var rfl))) fun _ => et_test (ev_neNil (el_zipN0 (zip_args (ev_var rfl) hlv (ev_var rfl) hwt (by omega) (by omega)) (fun _ => rfl) fun i x y T H3 e3 hx hy hT => ?_))) (fun z => nomatch z) fun _ H2 e2 => last H2 e2
    obtain ⟨hi, rfl⟩ := pre_at hx
    obtain ⟨_, rfl⟩ := pre_at hy
    have := le i (by omega)
    exact et_is (et_test (ev_op (ev_op (ev_var rfl) ev_c (rv_ixT (st_of hT) (atI_nat (j := 0) rfl))) (ev_op (ev_var rfl) ev_c (rv_ixT (st_of hT) (atI_nat (j := 1) rfl))) rv_I0)) (decide_eq_false (by omega))
end
end Bw
/-! A water out of the other table is shown. -/
namespace Bw
open PySem PySem.Spec PyProof.Rows L2 Evl
def sp__law_out (C : Addr) : Sp := spOf fun vs H P => ∃ (t u n : Nat) (E E2 : List Edge), vs = [.ref t, .ref u, .int (n : Int)] ∧ TabAt C H t n E ∧ TabAt C H u n E2 ∧ ¬ (∀ s, FitE n E s → FitE n E2 s) ∧ P = isV (.bl true)
def t__law_out_2 (K : PySem.W.Frag) (C : Addr) : TS := (tRet (tC (.bl false)))
def t__law_out_1 (K : PySem.W.Frag) (C : Addr) : TS := tSeq (tFor (iItemsT (tProp C (sp_Table_bounds C) [] E0 (tVar 1))) (gTup K 2 (gCons (gName 4) (gCons (gName 5) gNil))) (tIfS (tOr (tB (tDNotIn (tVar 4) (tVar 3))) (tTest (tOp rGtI (tDGet (tVar 3) (tVar 4)) (tVar 5)))) (tSeq (tAsg (tVar 4) (gTup K 2 (gCons (gName 7) (gCons (gName 8) gNil)))) (tSeq (tAsg (tCall (sp_both C) [] E0 (tCons (tVar 0) (tCons (tMake C (sp_Table___init__ C) [] E0 (tCons (tVar 2) (tCons (tDispT [((tTup (tCons (tVar 8) (tCons (tVar 7) tNil))), (tOp rSubI (tOp rSubI (tC (.int 0)) (tVar 5)) (tC (.int 1))))]) tNil))) tNil))) (gName 6)) (tIfS (tAnd (tB (tIsN (tCall (sp_ring C) [] E0 (tCons (tVar 6) tNil)))) (tB (tCall (sp_is_within C) [] E0 (tCons (tVar 6) (tCons (tVar 0) tNil))))) (tRet (tC (.bl true))) tNext))) tNext)) (t__law_out_2 K C)
def t__law_out_0 (K : PySem.W.Frag) (C : Addr) : TS := tSeq (tAsg (tProp C (sp_Table_bounds C) [] E0 (tCall (sp_closed C) [] E0 (tCons (tVar 0) tNil))) (gName 3)) (t__law_out_1 K C)
section
variable {K : PySem.W.Frag} {C : Addr} {σ : L2.St} {H : Hp} {ta tb tc te : TE} {D : Ends} {t n : Nat} {E : List Edge}
theorem walk_itp {d : Addr} {o : Obj} {kvs : List (List Key × V)} : Walk (Itp d o kvs) kvs.length (fun H => H d = some (.frz o (.dT kvs))) (fun i H x H' => ∃ (T q : Addr) (k : List Key) (v : V), kvs[i]? = some (k, v) ∧ x = .ref T ∧ H T = none ∧ H q = some (.tup (k.map kV)) ∧ H' = upd H T (.tup [.ref q, v])) :=
  ⟨fun _ _ hi q => ⟨q, hi⟩, fun _ q => ⟨q, Nat.le_refl _⟩, fun _ _ _ _ _ _ y => y⟩
theorem ev_ofP {P : Post} {z : V} (h : EvP te σ H P) (hp : ∀ v H2, P v H2 → v = z) : Ev te σ H z := fun H1 e Q q => h H1 e Q fun v H2 e2 pv => by
  rw [hp v H2 pv]
  exact q H2 e2
/-- bounds of a table that an expression tells -/
theorem prop_bounds {P : Post} {Q : VK} (h : EvP te σ H P) (k : ∀ v H1, Ex H H1 → P v H1 → ∃ u E', v = .ref u ∧ TabAt C H1 u n E' ∧ ∀ d H2, H d = none → Ex H1 H2 → H2 d = some (.dT (E'.map kvE)) → Q (.ref d) H2) : tProp C (sp_Table_bounds C) [] E0 te σ H Q :=
  h H (Ex.refl _) _ fun v H1 e1 hv => by
    obtain ⟨u, E', rfl, T, q⟩ := k v H1 e1 hv
    obtain ⟨dx, d, h1, _⟩ := id T
    exact ⟨u, dx, _, rfl, h1, u, n, E', rfl, T, fun d' H2 hd e2 h2 => q d' H2 (fresh_back e1 hd) e2 h2⟩
/-- x = f(e, Table(..)) -/
theorem q_callM {Pre : List V → Hp → Post → Prop} {tm : TE} {i : Nat} {tz : TS} {X : XK} {v0 : V} {W : Addr → Hp → Prop} {P : Post} (h0 : Ev ta σ H v0) (hm : ∀ H1, Ex H H1 → ∀ R : VK, (∀ x H2, Ex H1 H2 → W x H2 → R (.ref x) H2) → tm σ H1 R)
    (hp : ∀ x H2, Ex H H2 → W x H2 → ∃ P', Pre [v0, .ref x] H2 P' ∧ ∀ v H3, P' v H3 → P v H3) (k : ∀ v H2, Ex H H2 → P v H2 → tz D (σ.set i (some v)) H2) : tSeq (tAsg (tCall (spOf Pre) [] X (tCons ta (tCons tm tNil))) (gName i)) tz D σ H :=
  h0 H (Ex.refl _) _ fun H1 e1 => hm H1 e1 _ fun x H2 e2 w => by
    obtain ⟨P', hP, hq⟩ := hp x H2 (e1.trans e2) w
    exact ⟨P', hP, fun v H3 e3 pv => k v H3 ((e1.trans e2).trans e3) (hq v H3 pv)⟩
open Classical in
theorem pure_out {u : Nat} {E2 : List Edge} {Q : VK} (T : TabAt C H t n E) (U : TabAt C H u n E2) (hno : ¬ (∀ s, FitE n E s → FitE n E2 s)) (k : ∀ H1, Ex H H1 → Q (.bl true) H1) : t__law_out_0 K C (ends Q) [some (.ref t), some (.ref u), some (.int (n : Int)), none, none, none, none, none, none] H := by
  obtain ⟨s0, f0, g0⟩ : ∃ s, FitE n E s ∧ ¬ FitE n E2 s := Classical.byContradiction fun z => hno fun s f => Classical.byContradiction fun w => z ⟨s, f, w⟩
  obtain ⟨_, _, n1, n2⟩ := T.good
  obtain ⟨hg2, hn2, _, _⟩ := U.good
  unfold t__law_out_0 tSeq tAsg
  refine prop_bounds (n := n) (P := fun v H2 => ∃ u E', v = .ref u ∧ TabAt C H2 u n E' ∧ (∀ s, FitE n E' s ↔ FitE n E s) ∧ ((∀ s, ¬ FitE n E s) ∨ Closed (n + 1) (matE E'))) (evp_call (ea_cons (ev_var rfl) ea_nil) fun H1 e1 => ⟨t, n, E, rfl, T.ex e1, rfl⟩) fun v H1 e1 ⟨uk, Ek, hv, Tk, fk, ck⟩ => ⟨uk, Ek, hv, Tk, fun dk H2 hdk e2 h2 => ?_⟩
  have Cl : Closed (n + 1) (matE Ek) := ck.resolve_left fun z => z s0 f0
  obtain ⟨hgk, hnk, _, _⟩ := Tk.good
  have e12 := e1.trans e2
  show t__law_out_1 K C (ends Q) [some (.ref t), some (.ref u), some (.int (n : Int)), some (.ref dk), none, none, none, none, none] H2
  unfold t__law_out_1 tSeq tFor iItemsT
  refine prop_bounds (n := n) (P := fun v H3 => v = .ref u) (evp_v (ev_var rfl)) fun v H3 e3 hv => ⟨u, E2, hv, U.ex (e12.trans e3), fun dr H4 hdr e4 h4 => ?_⟩
  have e14 := e12.trans (e3.trans e4)
  have e24 := e3.trans e4
  refine ⟨dr, _, rfl, h4, fun od => ?_⟩
  have hdrH : H dr = none := fresh_back e12 hdr
  have ndk : dk ≠ dr := fun z => by rw [← z, h2] at hdr; exact nomatch hdr
  obtain ⟨HL, eL⟩ : ∃ HL, HL = upd H4 dr (.frz od (.dT (E2.map kvE))) := ⟨_, rfl⟩
  rw [← eL]
  have gb : HL dr = some (.frz od (.dT (E2.map kvE))) := by rw [eL]; exact upd_same
  have eHL : Ex H HL := by rw [eL]; exact Ex.mut e14 hdrH
  have gk : HL dk = some (.dT (Ek.map kvE)) := by rw [eL, upd_ne ndk]; exact e24 _ _ h2
  refine for_it (D := { nx := t__law_out_2 K C (ends Q), rt := (ends Q).rt, bk := (ends Q).bk, ct := (ends Q).ct }) walk_itp (fun i σ' H' => ∃ v4 v5 v6 v7 v8, σ' = [some (.ref t), some (.ref u), some (.int (n : Int)), some (.ref dk), v4, v5, v6, v7, v8] ∧ Ex HL H' ∧ ∀ e ∈ E2.take i, ∃ x, lookE Ek e.1 e.2.1 = some x ∧ x ≤ e.2.2)
    ⟨_, _, _, _, _, rfl, Ex.refl _, fun e he => nomatch he⟩ (fun i σ' H' _ ⟨_, _, _, _, _, _, ex, _⟩ => ex _ _ gb) (fun i w σ' H' H5 hi ⟨v4, v5, v6, v7, v8, es, ex, ok⟩ y => ?_) (fun σ' H' ⟨v4, v5, v6, v7, v8, es, ex, ok⟩ => ?_)
  · subst es
    obtain ⟨Tp, q, key, v, hkv, rfl, hTp, hq, rfl⟩ := y
    obtain ⟨e, he, rfl, rfl⟩ := edge_at hkv
    have hem := List.mem_of_getElem? he
    obtain ⟨g1, g2, g3⟩ := hg2 e hem
    have eT : Ex H' (upd H' Tp (.tup [.ref q, .int e.2.2])) := Ex.new hTp
    refine ⟨Tp, _, rfl, st_of upd_same, rfl, _, _, rfl, _, _, rfl, rfl, ?_⟩
    obtain ⟨H5, e5⟩ : ∃ H5, H5 = upd H' Tp (.tup [.ref q, .int e.2.2]) := ⟨_, rfl⟩
    rw [← e5] at eT ⊢
    have hq5 : H5 q = some (.tup ((ekey e).map kV)) := eT _ _ hq
    have ex5 := ex.trans eT
    have k5 := ex5 _ _ gk
    have eH5 := eHL.trans ex5
    show tIfS _ _ _ _ [some (.ref t), some (.ref u), some (.int (n : Int)), some (.ref dk), some (.ref q), some (.int e.2.2), v6, v7, v8] H5
    have nin : Ev (tDNotIn (tVar 4) (tVar 3)) [some (.ref t), some (.ref u), some (.int (n : Int)), some (.ref dk), some (.ref q), some (.int e.2.2), v6, v7, v8] H5 (.bl (!(valV (Ek.map kvE) (ekey e)).isSome)) := ev_dnotin (ev_var rfl) (ev_var rfl) k5 hq5
    have vl : valV (Ek.map kvE) (ekey e) = (lookE Ek e.1 e.2.1).map V.int := val_look
    have tk : E2.take (i + 1) = E2.take i ++ [e] := take_step he
    have mk : matE Ek e.1 e.2.1 = lookE Ek e.1 e.2.1 := by unfold matE; rw [if_neg g3]; rfl
    have yes : (∃ s, FitE n E s ∧ e.2.2 + 1 ≤ s e.1 - s e.2.1) → ∀ (D' : Ends), D'.rt = Q → ∀ H6, Ex H5 H6 → tSeq (tAsg (tVar 4) (gTup K 2 (gCons (gName 7) (gCons (gName 8) gNil)))) (tSeq (tAsg (tCall (sp_both C) [] E0 (tCons (tVar 0) (tCons (tMake C (sp_Table___init__ C) [] E0 (tCons (tVar 2) (tCons (tDispT [((tTup (tCons (tVar 8) (tCons (tVar 7) tNil))), (tOp rSubI (tOp rSubI (tC (.int 0)) (tVar 5)) (tC (.int 1))))]) tNil))) tNil))) (gName 6)) (tIfS (tAnd (tB (tIsN (tCall (sp_ring C) [] E0 (tCons (tVar 6) tNil)))) (tB (tCall (sp_is_within C) [] E0 (tCons (tVar 6) (tCons (tVar 0) tNil))))) (tRet (tC (.bl true))) tNext)) D'
        [some (.ref t), some (.ref u), some (.int (n : Int)), some (.ref dk), some (.ref q), some (.int e.2.2), v6, v7, v8] H6 := fun ⟨s, fs, hs⟩ D' hrt H6 e6 => by
      refine ⟨.ref q, rfl, q, _, rfl, st_of (e6 _ _ hq5), rfl, _, _, rfl, _, _, rfl, rfl, ?_⟩
      show tSeq _ _ D' [some (.ref t), some (.ref u), some (.int (n : Int)), some (.ref dk), some (.ref q), some (.int e.2.2), v6, some (.int (e.1 : Int)), some (.int (e.2.1 : Int))] H6
      have eH6 := eH5.trans e6
      refine q_callM (v0 := .ref t) (W := fun x H7 => ∃ E1, TabAt C H7 x n E1 ∧ E1.Perm [(e.2.1, e.1, 0 - e.2.2 - 1)]) (P := fun v H8 => ∃ w En, v = .ref w ∧ TabAt C H8 w n En ∧ ∀ s, FitE n En s ↔ (FitE n E s ∧ okE s (e.2.1, e.1, 0 - e.2.2 - 1))) (ev_var rfl) (fun H7 e7 R r => ?_) (fun x H7 e7 ⟨E1, T1, pm⟩ => ?_) fun v H8 e8 ⟨w, En, hv, Tn, fn⟩ => ?_
      · refine make_tab (H := H7) (n := n) (E := [(e.2.1, e.1, 0 - e.2.2 - 1)]) (fun R' r' => ⟨.int (n : Int), rfl, ?_⟩) (fun f hf => ?_) (by simp) n1 n2 (by show 1 ≤ 1000; decide) fun x H8 E1 e8 T1 pm => r x H8 e8 ⟨E1, T1, pm⟩
        · refine disp_go (σ := [some (.ref t), some (.ref u), some (.int (n : Int)), some (.ref dk), some (.ref q), some (.int e.2.2), v6, some (.int (e.1 : Int)), some (.int (e.2.1 : Int))]) (H := H7) (es := [(e.2.1, e.1, 0 - e.2.2 - 1)]) (.cons ⟨eu_tup (ea_cons (ev_var rfl) (ea_cons (ev_var rfl) ea_nil)) (by show 2 ≤ 100000; decide), ?_⟩ .nil) (by simp) (by show 1 ≤ 1000; decide) H7 (Ex.refl _) _ fun pd H8 hpd e8 h8 => r' pd H8 e8 h8
          show Ev (tOp rSubI (tOp rSubI (tC (.int 0)) (tVar 5)) (tC (.int 1))) _ _ (.int (0 - e.2.2 - 1))
          exact ev_op (ev_op ev_c (ev_var rfl) rv_I0) ev_c rv_I0
        · rw [List.mem_singleton.mp hf]
          exact ⟨g2, g1, fun z => g3 z.symm⟩
      · refine ⟨_, ⟨t, x, n, E, E1, rfl, T.ex (eH6.trans e7), T1, rfl⟩, fun v H8 ⟨w, En, hv, Tn, fn⟩ => ⟨w, En, hv, Tn, fun s => ?_⟩⟩
        rw [fn s, T1.fits s]
        exact ⟨fun ⟨a, b⟩ => ⟨a, b _ (pm.mem_iff.mpr (List.mem_singleton.mpr rfl))⟩, fun ⟨a, b⟩ => ⟨a, fun f hf => by rw [List.mem_singleton.mp (pm.mem_iff.mp hf)]; exact b⟩⟩
      · subst hv
        have e18 := eH6.trans e8
        have hfit : FitE n En s := (fn s).mpr ⟨fs, by
          show s e.2.1 - s e.1 ≤ 0 - e.2.2 - 1
          omega⟩
        show tIfS _ _ _ D' [some (.ref t), some (.ref u), some (.int (n : Int)), some (.ref dk), some (.ref q), some (.int e.2.2), some (.ref w), some (.int (e.1 : Int)), some (.int (e.2.1 : Int))] H8
        have rg : Ev (tCall (sp_ring C) [] E0 (tCons (tVar 6) tNil)) [some (.ref t), some (.ref u), some (.int (n : Int)), some (.ref dk), some (.ref q), some (.int e.2.2), some (.ref w), some (.int (e.1 : Int)), some (.int (e.2.1 : Int))] H8 .non :=
          ev_ofP (evp_call (ea_cons (ev_var rfl) ea_nil) fun H9 e9 => ⟨w, n, En, rfl, Tn.ex e9, rfl⟩) fun v H9 pv => pv.resolve_right fun z => z.1 s hfit
        have wi : Ev (tCall (sp_is_within C) [] E0 (tCons (tVar 6) (tCons (tVar 0) tNil))) [some (.ref t), some (.ref u), some (.int (n : Int)), some (.ref dk), some (.ref q), some (.int e.2.2), some (.ref w), some (.int (e.1 : Int)), some (.int (e.2.1 : Int))] H8 (.bl true) := by
          refine ev_callV (ea_cons (ev_var rfl) (ea_cons (ev_var rfl) ea_nil)) fun H9 e9 => ⟨w, t, n, En, E, rfl, Tn.ex e9, T.ex (e18.trans e9), ?_⟩
          rw [decide_eq_true fun s f => ((fn s).mp f).1]
        refine s_when (b := true && true) (et_and (a := true) (et_B (ev_isN (v := .non) rg)) fun _ => et_B wi) (fun _ H9 e9 => s_ret ev_c fun H10 e10 => ?_) (fun z => nomatch z)
        rw [hrt]
        exact k H10 (e18.trans (e9.trans e10))
    have hit : (∀ x, lookE Ek e.1 e.2.1 = some x → e.2.2 < x) → ∃ s, FitE n E s ∧ e.2.2 + 1 ≤ s e.1 - s e.2.1 := fun h => by
      obtain ⟨s, fs, hs⟩ := feas_at Cl g1 g2 (x := e.2.2 + 1) fun v hv => by
        rw [mk] at hv
        have := h v hv
        omega
      exact ⟨s, (fk s).mp fs, hs⟩
    cases el : lookE Ek e.1 e.2.1 with
    | none =>
      rw [vl, el] at nin
      exact s_when (b := true || false) (et_or (a := true) (et_B nin) fun z => nomatch z) (fun _ H6 e6 => yes (hit fun x hx => by rw [el] at hx; exact nomatch hx) _ rfl H6 e6) fun z => nomatch z
    | some x =>
      rw [vl, el] at nin
      have bget : Ev (tDGet (tVar 3) (tVar 4)) [some (.ref t), some (.ref u), some (.int (n : Int)), some (.ref dk), some (.ref q), some (.int e.2.2), v6, v7, v8] H5 (.int x) := ev_dget (ev_var rfl) (ev_var rfl) (Or.inl k5) hq5 (by rw [vl, el]; rfl)
      have tst : EvT (tOr (tB (tDNotIn (tVar 4) (tVar 3))) (tTest (tOp rGtI (tDGet (tVar 3) (tVar 4)) (tVar 5)))) [some (.ref t), some (.ref u), some (.int (n : Int)), some (.ref dk), some (.ref q), some (.int e.2.2), v6, v7, v8] H5 (false || decide (e.2.2 < x)) := et_or (a := false) (et_B nin) fun _ => et_test (ev_op bget (ev_var rfl) rv_I0)
      rw [Bool.false_or] at tst
      refine s_when tst (fun hb H6 e6 => yes (hit fun y hy => ?_) _ rfl H6 e6) fun hb H6 e6 => ⟨_, _, _, _, _, rfl, ex5.trans e6, fun f hf => ?_⟩
      · rw [el] at hy
        cases hy
        exact of_decide_eq_true hb
      · rw [tk] at hf
        rcases List.mem_append.mp hf with hf | hf
        · exact ok f hf
        · rw [List.mem_singleton.mp hf]
          have := of_decide_eq_false hb
          exact ⟨x, el, by omega⟩
  · subst es
    exfalso
    rw [List.length_map, List.take_length] at ok
    refine g0 ((U.fits s0).mpr fun e he => ?_)
    obtain ⟨x, hx, hle⟩ := ok e he
    have := ((fits_edges hnk hgk s0).mp ((fk s0).mpr f0)) _ ((look_mem hnk).mp hx)
    have : s0 e.1 - s0 e.2.1 ≤ x := this
    omega
end
end Bw
/-! Bounds drawn. -/
namespace Bw
open PySem PySem.Spec PyProof.Rows L2 Evl
def sp__law_caps (C : Addr) : Sp := fun vs H Q _ => ∃ (st lg cs many thick n0 : Nat), vs = [.ref st, .int (many : Int), .int (thick : Int), .int 4] ∧ 1 ≤ many ∧ many ≤ 3 ∧ 0 < thick ∧ thick ≤ 1000 ∧ n0 < 2 ^ 30 ∧ Src H st lg cs n0 ∧
  ∀ d H' E, Src H' st lg cs (n0 + 100) → But H H' st lg → H d = none → d ≠ st → d ≠ lg → H' d = some (.dT (E.map kvE)) → GoodE (many + 1) E → (E.map ekey).Nodup → E.length ≤ 1000 → Q (.ref d) H'
def t__law_caps_2 (K : PySem.W.Frag) (C : Addr) : TS := (tRet (tVar 4))
def t__law_caps_1 (K : PySem.W.Frag) (C : Addr) : TS := tSeq (tFor (iRng1 (tCons (tOp rAddI (tVar 1) (tC (.int 1))) tNil)) (gName 5) (tFor (iRng1 (tCons (tOp rAddI (tVar 1) (tC (.int 1))) tNil)) (gName 6) (tIfS (tAnd (tTest (tOp rNe (tVar 5) (tVar 6))) (tTest (tOp rEq (tCall spDraw [] E0 (tCons (tVar 0) (tCons (tVar 2) tNil))) (tC (.int 0))))) (sDPut (tVar 4) (tTup (tCons (tVar 5) (tCons (tVar 6) tNil))) (tOp rSubI (tCall spDraw [] E0 (tCons (tVar 0) (tCons (tOp rAddI (tOp rMulI (tC (.int 2)) (tVar 3)) (tC (.int 1))) tNil))) (tCall (spPick K) [] E0 (tCons (tVar 0) (tCons (tLst (tCons (tC (.int 0)) (tCons (tVar 3) (tCons (tOp rDivI (tVar 3) (tC (.int 2))) tNil)))) tNil))))) tNext))) (t__law_caps_2 K C)
def t__law_caps_0 (K : PySem.W.Frag) (C : Addr) : TS := tSeq (tAsg tDNewT (gName 4)) (t__law_caps_1 K C)
section
variable {K : PySem.W.Frag} {C : Addr} {σ : L2.St} {H : Hp} {ta tb tc te : TE} {D : Ends} {t n : Nat} {E : List Edge} {st lg cs : Addr}
theorem Src.lift {H' : Hp} (S : Src H st lg cs n) (e : Ex H H') : Src H' st lg cs n := by
  obtain ⟨⟨large, cells, r, t, h1, h2, h3, h4⟩, nl⟩ := S
  exact ⟨⟨large, cells, r, t, e _ _ h1, e _ _ h2, e _ _ h3, h4⟩, nl⟩
theorem Src.up {m : Nat} (S : Src H st lg cs n) (h : n ≤ m) : Src H st lg cs m := by
  obtain ⟨⟨large, cells, r, t, h1, h2, h3, h4, h5⟩, nl⟩ := S
  exact ⟨⟨large, cells, r, t, h1, h2, h3, by omega, h5⟩, nl⟩
theorem Src.some_ (S : Src H st lg cs n) : H st ≠ none ∧ H lg ≠ none := by
  obtain ⟨⟨large, cells, r, t, h1, h2, h3, h4, h5⟩, nl⟩ := S
  exact ⟨fun z => by rw [h1] at z; exact (nomatch z), fun z => by rw [h2] at z; exact nomatch z⟩
theorem But.ex {H' : Hp} (e : Ex H H') : But H H' st lg := fun b o h _ _ => e b o h
theorem b_draw {m : Nat} {Q : VK} (h : EvA (tCons ta (tCons tb tNil)) σ H [.ref st, .int (m : Int)]) (hm : 0 < m) (hm2 : m ≤ 100000) (hn : n < 2 ^ 40) (S : Src H st lg cs n) (q : ∀ (r : Nat) (H' : Hp), r < m → Src H' st lg cs (n + 1) → But H H' st lg → Q (.int (r : Int)) H') : tCall spDraw [] E0 (tCons ta (tCons tb tNil)) σ H Q :=
  h H (Ex.refl _) _ fun H1 e1 => ⟨st, lg, cs, m, n, rfl, hm, Nat.lt_of_le_of_lt hm2 (by decide), hn, S.lift e1, fun r H' hr S' B => q r H' hr S' ((But.ex e1).trans B)⟩
theorem b_pick {xs : List V} {tl : TE} {Q : VK} (h0 : Ev ta σ H (.ref st)) (h1 : EvL tl σ H xs) (hx : 0 < xs.length) (hx2 : xs.length ≤ 1000) (hn : n < 2 ^ 40) (S : Src H st lg cs n) (q : ∀ (x : V) (H' : Hp), x ∈ xs → Src H' st lg cs (n + 1) → But H H' st lg → Q x H') : tCall (spPick K) [] E0 (tCons ta (tCons tl tNil)) σ H Q :=
  h0 H (Ex.refl _) _ fun H1 e1 => h1 H1 e1 _ fun p H2 hp e2 h2 => by
    have S1 := S.lift e1
    have np : p ≠ st ∧ p ≠ lg := ⟨fun z => S1.some_.1 (by rw [← z]; exact hp), fun z => S1.some_.2 (by rw [← z]; exact hp)⟩
    show spPick K [.ref st, .ref p] H2 Q E0
    exact ⟨st, lg, cs, p, xs, n, rfl, sq_of h2, np.1, np.2, hx, by omega, hn, S.lift (e1.trans e2), fun x H' hxm S' B => q x H' hxm S' ((But.ex (e1.trans e2)).trans B)⟩
/-- what is drawn so far -/
structure CapI (H : Hp) (st lg cs d n0 many : Nat) (k : Nat) (E : List Edge) (H' : Hp) : Prop where
  src : Src H' st lg cs (n0 + k)
  but : But H H' st lg
  dict : H' d = some (.dT (E.map kvE))
  good : GoodE (many + 1) E
  nd : (E.map ekey).Nodup
abbrev sCap (st many thick d : V) (v5 v6 : Option V) : L2.St := [some st, some many, some thick, some (.int 4), some d, v5, v6]
theorem pure_caps {many thick n0 : Nat} {Q : VK} (m1 : 1 ≤ many) (m2 : many ≤ 3) (t1 : 0 < thick) (t2 : thick ≤ 1000) (hn : n0 < 2 ^ 30) (S : Src H st lg cs n0)
    (k : ∀ d H' E, Src H' st lg cs (n0 + 100) → But H H' st lg → H d = none → d ≠ st → d ≠ lg → H' d = some (.dT (E.map kvE)) → GoodE (many + 1) E → (E.map ekey).Nodup → E.length ≤ 1000 → Q (.ref d) H') : t__law_caps_0 K C (ends Q) [some (.ref st), some (.int (many : Int)), some (.int (thick : Int)), some (.int 4), none, none, none] H := by
  intro d hd
  have nds : d ≠ st := fun z => S.some_.1 (by rw [← z]; exact hd)
  have ndl : d ≠ lg := fun z => S.some_.2 (by rw [← z]; exact hd)
  obtain ⟨H1, eH1⟩ : ∃ H1, H1 = upd H d (.dT []) := ⟨_, rfl⟩
  have e1 : Ex H H1 := by rw [eH1]; exact Ex.new hd
  have d1 : H1 d = some (.dT []) := by rw [eH1]; exact upd_same
  show t__law_caps_1 K C (ends Q) (sCap (.ref st) (.int (many : Int)) (.int (thick : Int)) (.ref d) none none) (upd H d (.dT []))
  rw [← eH1]
  have cnt : ∀ (v5 v6 : Option V) (H2 : Hp), EvA (tCons (tOp rAddI (tVar 1) (tC (.int 1))) tNil) (sCap (.ref st) (.int (many : Int)) (.int (thick : Int)) (.ref d) v5 v6) H2 [.int ((many + 1 : Nat) : Int)] := fun v5 v6 H2 => ea_cons (ev_is (ev_op (ev_var rfl) ev_c rv_I0) rfl) ea_nil
  have c0 : CapI H st lg cs d n0 many 0 [] H1 := ⟨S.lift e1, But.ex e1, d1, fun e he => (nomatch he), List.nodup_nil⟩
  have cex : ∀ {kk : Nat} {E : List Edge} {H2 H3 : Hp}, CapI H st lg cs d n0 many kk E H2 → Ex H2 H3 → CapI H st lg cs d n0 many kk E H3 := fun c e => ⟨c.src.lift e, c.but.trans (But.ex e), e _ _ c.dict, c.good, c.nd⟩
  refine q_forR1 (cnt _ _ H1) (by omega) (fun a σ' H' => ∃ v5 v6 E kk, σ' = sCap (.ref st) (.int (many : Int)) (.int (thick : Int)) (.ref d) v5 v6 ∧ CapI H st lg cs d n0 many kk E H' ∧ kk ≤ a * 12 ∧ ∀ e ∈ E, e.1 < a) (fun H2 e2 => ⟨_, _, [], 0, rfl, cex c0 e2, Nat.zero_le _, fun e he => nomatch he⟩) (fun a σ' H' ha ⟨v5, v6, E, kk, es, c, hk, hE⟩ => ?_) (fun σ' H' ⟨v5, v6, E, kk, es, c, hk, hE⟩ => ?_)
  · subst es
    have ha2 : a < many + 1 := by omega
    show tFor _ _ _ _ (sCap (.ref st) (.int (many : Int)) (.int (thick : Int)) (.ref d) (some (.int (a : Int))) v6) H'
    refine s_forR1 (cnt _ _ H') (by omega) (fun b σ' H' => ∃ v6 E kk, σ' = sCap (.ref st) (.int (many : Int)) (.int (thick : Int)) (.ref d) (some (.int (a : Int))) v6 ∧ CapI H st lg cs d n0 many kk E H' ∧ kk ≤ a * 12 + b * 3 ∧ ∀ e ∈ E, e.1 < a ∨ (e.1 = a ∧ e.2.1 < b)) (fun H2 e2 => ⟨_, E, kk, rfl, cex c e2, by omega, fun e he => Or.inl (hE e he)⟩) (fun b σ' H' hb ⟨v6, E, kk, es, c, hk, hE⟩ => ?_) (fun σ' H' ⟨v6, E, kk, es, c, hk, hE⟩ => ?_)
    · subst es
      have hb2 : b < many + 1 := by omega
      have hk40 : n0 + kk < 2 ^ 40 := by
        have : (2 : Nat) ^ 30 + 100 < 2 ^ 40 := by decide
        omega
      show tIfS _ _ _ _ (sCap (.ref st) (.int (many : Int)) (.int (thick : Int)) (.ref d) (some (.int (a : Int))) (some (.int (b : Int)))) H'
      have ne : EvT (tTest (tOp rNe (tVar 5) (tVar 6))) (sCap (.ref st) (.int (many : Int)) (.int (thick : Int)) (.ref d) (some (.int (a : Int))) (some (.int (b : Int)))) H' (!decide ((V.int (a : Int)) = V.int (b : Int))) := et_test (ev_op (ev_var rfl) (ev_var rfl) (rv_ne rfl))
      have later : ∀ e ∈ E, e.1 < a ∨ (e.1 = a ∧ e.2.1 < b + 1) := fun e he => by
        rcases hE e he with h | ⟨h1, h2⟩
        · exact Or.inl h
        · exact Or.inr ⟨h1, by omega⟩
      by_cases cab : a = b
      · refine s_when (b := !decide ((V.int (a : Int)) = V.int (b : Int)) && false) (et_and ne fun z => ?_) (fun z => ?_) fun _ H2 e2 => ⟨_, E, kk, rfl, cex c e2, by omega, later⟩
        · rw [cab, decide_eq_true rfl] at z
          exact nomatch z
        · rw [Bool.and_false] at z
          exact nomatch z
      · have cd : decide ((V.int (a : Int)) = V.int (b : Int)) = false := decide_eq_false fun z => cab (by have := V.int.inj z; omega)
        rw [cd] at ne
        unfold tIfS tAnd
        refine ne H' (Ex.refl _) _ fun H2 e2 => ?_
        refine iteT ?_
        have c2 := cex c e2
        have args : EvA (tCons (tVar 0) (tCons (tVar 2) tNil)) (sCap (.ref st) (.int (many : Int)) (.int (thick : Int)) (.ref d) (some (.int (a : Int))) (some (.int (b : Int)))) H2 [.ref st, .int (thick : Int)] := ea_cons (ev_var rfl) (ea_cons (ev_var rfl) ea_nil)
        refine b_draw args t1 (by omega) hk40 c2.src fun r H3 hr S3 B3 => ?_
        have c3 : CapI H st lg cs d n0 many (kk + 1) E H3 := ⟨S3, c2.but.trans B3, B3 _ _ c2.dict nds ndl, c2.good, c2.nd⟩
        refine ⟨rfl, _, rfl, ?_⟩
        refine ite_b (fun hz => ?_) (fun hz => ⟨_, E, kk + 1, rfl, c3, by omega, later⟩)
        -- a bound is drawn
        unfold sDPut
        have hk41 : n0 + (kk + 1) < 2 ^ 40 := by
          have : (2 : Nat) ^ 30 + 100 < 2 ^ 40 := by decide
          omega
        have hk42 : n0 + (kk + 1) + 1 < 2 ^ 40 := by
          have : (2 : Nat) ^ 30 + 100 < 2 ^ 40 := by decide
          omega
        have args9 : EvA (tCons (tVar 0) (tCons (tOp rAddI (tOp rMulI (tC (.int 2)) (tVar 3)) (tC (.int 1))) tNil)) (sCap (.ref st) (.int (many : Int)) (.int (thick : Int)) (.ref d) (some (.int (a : Int))) (some (.int (b : Int)))) H3 [.ref st, .int ((9 : Nat) : Int)] := ea_cons (ev_var rfl) (ea_cons (ev_op (ev_op ev_c (ev_var rfl) (rv_I (Or.inl ⟨by decide, by decide⟩))) ev_c rv_I0) ea_nil)
        refine b_draw args9 (by decide) (by decide) hk41 c3.src fun r2 H4 hr2 S4 B4 => ?_
        have list3 : EvL (tLst (tCons (tC (.int 0)) (tCons (tVar 3) (tCons (tOp rDivI (tVar 3) (tC (.int 2))) tNil)))) (sCap (.ref st) (.int (many : Int)) (.int (thick : Int)) (.ref d) (some (.int (a : Int))) (some (.int (b : Int)))) H4 [.int 0, .int 4, .int 2] := el_lst (ea_cons ev_c (ea_cons (ev_var rfl) (ea_cons (ev_op (ev_var rfl) ev_c (rv_I (C := CDiv) ⟨by decide, by decide⟩)) ea_nil))) (by show 3 ≤ 100000; decide)
        refine b_pick (K := K) (ev_var rfl) list3 (by show 0 < 3; decide) (by show 3 ≤ 1000; decide) hk42 S4 fun x H5 hx S5 B5 => ?_
        obtain ⟨w, rfl⟩ : ∃ w, x = .int w := by
          rcases List.mem_cons.mp hx with h | hx
          · exact ⟨_, h⟩
          · rcases List.mem_cons.mp hx with h | hx
            · exact ⟨_, h⟩
            · exact ⟨_, List.mem_singleton.mp hx⟩
        have B35 := (c3.but.trans B4).trans B5
        have d5 : H5 d = some (.dT (E.map kvE)) := B5 _ _ (B4 _ _ c3.dict nds ndl) nds ndl
        refine ⟨(r2 : Int), w, rfl, rfl, .ref d, rfl, ?_⟩
        have key : EvU (tTup (tCons (tVar 5) (tCons (tVar 6) tNil))) (sCap (.ref st) (.int (many : Int)) (.int (thick : Int)) (.ref d) (some (.int (a : Int))) (some (.int (b : Int)))) H5 [.int (a : Int), .int (b : Int)] := eu_tup (ea_cons (ev_var rfl) (ea_cons (ev_var rfl) ea_nil)) (by show 2 ≤ 100000; decide)
        refine key H5 (Ex.refl _) _ fun q H6 hq e6 h6 => ?_
        have h6 : H6 q = some (.tup ((ekey (a, b, (r2 : Int) - w)).map kV)) := h6
        have ln := lenG c3.good c3.nd m1 (by omega)
        have out : ∀ f ∈ E, ¬ (f.1 = a ∧ f.2.1 = b) := fun f hf z => by
          rcases hE f hf with h | ⟨_, h⟩
          · omega
          · omega
        have no : lookE E a b = none := by
          cases el : lookE E a b with
          | none => rfl
          | some y => exact absurd ⟨rfl, rfl⟩ (out _ ((look_mem c3.nd).mp el))
        have pk_ : putK (E.map kvE) (ekey (a, b, (r2 : Int) - w)) (.int ((r2 : Int) - w)) = (E ++ [(a, b, (r2 : Int) - w)]).map kvE := by
          rw [L2.putK_new _ (by
            have := val_look (E := E) (a := a) (b := b)
            rw [no] at this
            exact this), List.map_append]
          rfl
        have d6 := e6 _ _ d5
        have S6 := S5.lift e6
        have B6 := B35.trans (But.ex e6)
        refine ⟨d, _, rfl, DPut.t d6 h6 (by rw [List.length_map]; exact sz_lt (by omega)), _, E ++ [(a, b, (r2 : Int) - w)], kk + 3, rfl, ⟨?_, ?_, ?_, fun f hf => ?_, ?_⟩, by omega, fun f hf => ?_⟩
        · obtain ⟨⟨large, cells, r, t, g1, g2, g3, g4⟩, nl⟩ := S6
          have ncs : cs ≠ d := fun z => by rw [z, d6] at g3; exact nomatch g3
          exact ⟨⟨large, cells, r, t, by rw [upd_ne (fun z => nds z.symm)]; exact g1, by rw [upd_ne (fun z => ndl z.symm)]; exact g2, by rw [upd_ne ncs]; exact g3, g4⟩, nl⟩
        · intro b' o hb' n1 n2
          rw [upd_ne (ne_of_none hb' hd)]
          exact B6 b' o hb' n1 n2
        · rw [upd_same, pk_]
        · rcases List.mem_append.mp hf with hf | hf
          · exact c3.good f hf
          · rw [List.mem_singleton.mp hf]; exact ⟨ha2, hb2, cab⟩
        · refine nodup_app c3.nd (by simp) fun f hf f' hf' z => ?_
          rw [List.mem_singleton.mp hf'] at z
          exact out f hf z
        · rcases List.mem_append.mp hf with hf | hf
          · exact later f hf
          · rw [List.mem_singleton.mp hf]; exact Or.inr ⟨rfl, Nat.lt_succ_self b⟩
    · subst es
      rw [Int.toNat_natCast] at hk hE
      refine ⟨_, _, E, kk, rfl, c, by omega, fun e he => ?_⟩
      rcases hE e he with h | ⟨h, _⟩
      · omega
      · omega
  · subst es
    rw [Int.toNat_natCast] at hk
    refine s_ret (ev_var rfl) fun H2 e2 => ?_
    have c2 := cex c e2
    exact k d H2 E (c2.src.up (by omega)) c2.but hd nds ndl c2.dict c2.good c2.nd (lenG c2.good c2.nd m1 (by omega))
end
end Bw
/-! t + u with t empty or not; all small waters. -/
namespace Bw
open PySem PySem.Spec PyProof.Rows L2 Evl
def rCatX (K : PySem.W.Frag) : R2 := fun x y H Q => ∃ a b xs ys, x = .ref a ∧ y = .ref b ∧ SqT K H a xs ∧ SqT K H b ys ∧ xs.length + ys.length ≤ sizeLine ∧
  (xs = [] → Q (.ref b) H) ∧ (xs ≠ [] → ys = [] → Q (.ref a) H) ∧ (xs ≠ [] → ys ≠ [] → ∀ p, H p = none → Q (.ref p) (upd H p (.tup (xs ++ ys))))
theorem op_catX {X : Cx} : OpR X (binaryOp .Add) (rCatX X.K) := by
  intro pins s σ H x y v u Q I rx ry h
  obtain ⟨a, b, xs, ys, rfl, rfl, ha, hb, hz, q0, q1, q2⟩ := h
  by_cases c : xs = []
  · cases rx
    cases ry
    obtain ⟨its, r1, p1, _⟩ := I.tuple ha
    obtain ⟨its2, r2, p2, _⟩ := I.tuple hb
    have ei : its = [] := r1.nil_iff.mpr c
    subst ei
    obtain ⟨⟨cls, dd, data, sl⟩, ho, hc, n, hd⟩ := id p1
    obtain ⟨⟨cls2, dd2, data2, sl2⟩, ho2, hc2, n2, hd2⟩ := id p2
    simp only at hc hd hc2 hd2
    subst hc hd hc2 hd2
    exact concat_meets ⟨_, ho, rfl⟩ ⟨_, ho2, rfl⟩ noFill_tuple_add seq_tuple_add PySem.F.slot_tuple_add PySem.F.entry_tuple_add (PySem.F.args_tuple_add_2 _ _)
      (tuple_addW0 a b _ its2.toArray n n2 dd dd2 sl sl2 (by simp)) ⟨ho, ho2, ⟨.ref b, H, I, rfl, q0 c⟩⟩
  · exact op_catT pins s σ H _ _ v u Q I rx ry ⟨a, b, xs, ys, rfl, rfl, ha, hb, c, hz, q1 c, q2 c⟩
/-- a list of tuples of k numbers each -/
def WtAt (H : Hp) (p : Addr) (k : Nat) (cs : List Addr) : Prop := H p = some (.lst (cs.map V.ref)) ∧ ∀ c ∈ cs, ∃ xs : List Int, H c = some (.tup (intL xs)) ∧ xs.length = k
theorem WtAt.ex {H H' : Hp} {p : Addr} {k : Nat} {cs : List Addr} (h : WtAt H p k cs) (e : Ex H H') : WtAt H' p k cs := ⟨e _ _ h.1, fun c hc => by
  obtain ⟨xs, h1, h2⟩ := h.2 c hc
  exact ⟨xs, e _ _ h1, h2⟩⟩
def sp__law_waters (C : Addr) : Sp := spOf fun vs H P => ∃ many : Nat, vs = [.int (many : Int)] ∧ many ≤ 3 ∧ P = fun v H2 => ∃ p cs, v = .ref p ∧ WtAt H2 p many cs ∧ cs.length ≤ 1000
def t__law_waters_2 (K : PySem.W.Frag) (C : Addr) : TS := (tRet (tVar 1))
def t__law_waters_1 (K : PySem.W.Frag) (C : Addr) : TS := tSeq (tFor (iRng1 (tCons (tVar 0) tNil)) (gName 2) (tSeq (tAsg (tLst tNil) (gName 3)) (tSeq (tFor (iList K (tVar 1)) (gName 4) (tAsg (tOp rCat (tVar 3) (tLc (iRng2 (tCons (tUn rNegI (tC (.int 4))) (tCons (tC (.int 5)) tNil))) (gName 5) tYes (tOp (rCatX K) (tVar 4) (tTup (tCons (tVar 5) tNil))) [5])) (gName 3))) (tAsg (tVar 3) (gName 1))))) (t__law_waters_2 K C)
def t__law_waters_0 (K : PySem.W.Frag) (C : Addr) : TS := tSeq (tAsg (tLst (tCons (tTup tNil) tNil)) (gName 1)) (t__law_waters_1 K C)
section
variable {K : PySem.W.Frag} {C : Addr} {σ : L2.St} {H : Hp} {ta tb tc te : TE} {D : Ends}
/-- [pool + (part,) for part in range(-4, 5)] -/
theorem longer_made {σ : L2.St} {w : Addr} {k : Nat} {xs : List Int} {Q : VK} (hs : ∀ x, ((wipe σ [5]).set 5 (some x))[4]? = some (some (.ref w)) ∧ ((wipe σ [5]).set 5 (some x))[5]? = some (some x)) (hw : ∀ x, wipe ((wipe σ [5]).set 5 (some x)) [5] = wipe σ [5]) (hx : H w = some (.tup (intL xs))) (hl : xs.length = k) (hk : k ≤ 100)
    (q : ∀ p cs H2, Ex H H2 → WtAt H2 p (k + 1) cs → cs.length = 9 → H p = none → Q (.ref p) H2) : tLc (iRng2 (tCons (tUn rNegI (tC (.int 4))) (tCons (tC (.int 5)) tNil))) (gName 5) tYes (tOp (rCatX K) (tVar 4) (tTup (tCons (tVar 5) tNil))) [5] σ H Q := by
  have args : EvA (tCons (tUn rNegI (tC (.int 4))) (tCons (tC (.int 5)) tNil)) σ H [.int (-4), .int 5] := ea_cons (ev_un ev_c ru_neg) (ea_cons ev_c ea_nil)
  unfold tLc iRng2
  refine args H (Ex.refl _) _ fun H1 e1 => ?_
  refine ⟨-4, 5, rfl, ⟨by decide, by decide, by decide, by decide⟩, fun Dl hD => ?_⟩
  refine lc_it (walk_range (lo := -4) (n := ((5 : Int) - -4).toNat)) (fun i H' => Ex H1 H' ∧ ∃ cs : List Addr, WtAt H' Dl (k + 1) cs ∧ cs.length = i ∧ H1 Dl = none) ⟨Ex.new hD, [], ⟨upd_same, fun c hc => nomatch hc⟩, rfl, hD⟩ (fun _ _ _ _ => True.intro) (fun i x H' H2 hi ⟨ex, cs, wt, lc, hd⟩ y => ?_) (fun H' ⟨ex, cs, wt, lc, hd⟩ => ?_)
  · obtain ⟨rfl, rfl⟩ := y
    refine ⟨hw _, ?_⟩
    unfold tYes
    refine iteT ?_
    have h2 := ex _ _ (e1 _ _ hx)
    refine ⟨.ref w, (hs _).1, _, (hs _).2, by show 1 ≤ sizeLine; decide, fun p1 hp1 => ?_⟩
    have e2 : Ex H2 (upd H2 p1 (.tup [V.int (-4 + (i : Int))])) := Ex.new hp1
    have fin : ∀ (c : Addr) (H4 : Hp) (ys : List Int), Ex H2 H4 → H4 c = some (.tup (intL ys)) → ys.length = k + 1 → ∃ acc, H4 Dl = some (.lst acc) ∧ acc.length < sizeLine ∧ Ex H1 (upd H4 Dl (.lst (acc ++ [.ref c]))) ∧ ∃ cs, WtAt (upd H4 Dl (.lst (acc ++ [.ref c]))) Dl (k + 1) cs ∧ cs.length = i + 1 ∧ H1 Dl = none := fun c H4 ys e4 hc hy => by
      refine ⟨_, e4 _ _ wt.1, ?_, Ex.mut (ex.trans e4) hd, cs ++ [c], ⟨by rw [upd_same, List.map_append]; rfl, fun c' hc' => ?_⟩, by rw [List.length_append, lc]; rfl, hd⟩
      · rw [List.length_map, lc]
        have : i < 9 := hi
        exact sz_lt (by omega)
      · have keep : ∀ (c : Addr) (ys : List Int), H4 c = some (.tup (intL ys)) → upd H4 Dl (.lst (cs.map V.ref ++ [.ref c])) c = some (.tup (intL ys)) := fun c ys h => by
          rw [upd_ne (fun z => by rw [z, e4 _ _ wt.1] at h; exact nomatch h)]
          exact h
        have nd : ∀ (c' : Addr) (ys : List Int), H4 c' = some (.tup (intL ys)) → c' ≠ Dl := fun c' ys h z => by rw [z, e4 _ _ wt.1] at h; exact nomatch h
        rcases List.mem_append.mp hc' with hc' | hc'
        · obtain ⟨zs, z1, z2⟩ := wt.2 c' hc'
          exact ⟨zs, by rw [upd_ne (nd c' zs (e4 _ _ z1))]; exact e4 _ _ z1, z2⟩
        · rw [List.mem_singleton.mp hc']
          exact ⟨ys, by rw [upd_ne (nd c ys hc)]; exact hc, hy⟩
    refine ⟨w, p1, intL xs, [V.int (-4 + (i : Int))], rfl, rfl, st_of (e2 _ _ h2), st_of upd_same, ?_, fun hnil => ?_, fun _ z => (nomatch z), fun _ _ p hp => ?_⟩
    · rw [List.length_map]
      show xs.length + 1 ≤ sizeLine
      exact sz_of (by omega)
    · have x0 : xs = [] := List.map_eq_nil_iff.mp hnil
      have k0 : k = 0 := by rw [← hl, x0]; rfl
      exact fin p1 _ [-4 + (i : Int)] e2 upd_same (by rw [k0]; rfl)
    · refine fin p _ (xs ++ [-4 + (i : Int)]) (e2.trans (Ex.new hp)) ?_ (by rw [List.length_append, hl]; rfl)
      rw [upd_same]
      show _ = some (HO.tup (List.map V.int (xs ++ [-4 + (i : Int)])))
      rw [List.map_append]
      rfl
  · exact q Dl cs H' (e1.trans ex) wt (by rw [lc]; rfl) (fresh_back e1 hd)
theorem pure_waters {many : Nat} {Q : VK} (hm : many ≤ 3) (k : ∀ p cs H2, Ex H H2 → WtAt H2 p many cs → cs.length ≤ 1000 → Q (.ref p) H2) : t__law_waters_0 K C (ends Q) [some (.int (many : Int)), none, none, none, none, none] H := by
  unfold t__law_waters_0 tSeq tAsg tLst
  refine eu_tup (σ := [some (.int (many : Int)), none, none, none, none, none]) (H := H) ea_nil (by show 0 ≤ 100000; decide) H (Ex.refl _) _ fun w H1 hw e1 h1 => ⟨by show 1 ≤ sizeLine; decide, fun p hp => ?_⟩
  have eP : Ex H1 (upd H1 p (.lst [.ref w])) := Ex.new hp
  show t__law_waters_1 K C (ends Q) [some (.int (many : Int)), some (.ref p), none, none, none, none] (upd H1 p (.lst [.ref w]))
  have w0 : WtAt (upd H1 p (.lst [.ref w])) p 0 [w] := ⟨upd_same, fun c hc => ⟨[], by rw [List.mem_singleton.mp hc]; exact eP _ _ h1, rfl⟩⟩
  refine q_forR1 (n := (many : Int)) (ea_cons (ev_var rfl) ea_nil) (by omega) (fun s σ' H' => ∃ p cs v2 v3 v4, σ' = [some (.int (many : Int)), some (.ref p), v2, v3, v4, none] ∧ Ex H H' ∧ WtAt H' p s cs ∧ cs.length ≤ 9 ^ s) (fun H2 e2 => ⟨p, [w], _, _, _, rfl, e1.trans (eP.trans e2), w0.ex e2, Nat.le_refl _⟩) (fun s σ' H' hs ⟨p, cs, v2, v3, v4, es, ex, wt, lc⟩ => ?_) (fun σ' H' ⟨p, cs, v2, v3, v4, es, ex, wt, lc⟩ => ?_)
  · subst es
    have hs3 : s < 3 := by omega
    have p9 : 9 ^ s ≤ 81 := by
      have : s = 0 ∨ s = 1 ∨ s = 2 := by omega
      rcases this with h | h | h <;> rw [h] <;> decide
    show tSeq _ _ _ [some (.int (many : Int)), some (.ref p), some (.int (s : Int)), v3, v4, none] H'
    refine q_asgL (el_lst ea_nil (by show 0 ≤ 100000; decide)) fun q0 H2 hq0 e2 h2 => ?_
    have wt2 := wt.ex e2
    refine q_forLn (a := p) (xs := cs.map V.ref) (ev_var rfl) (sq_of wt2.1) (fun j σ' H' => ∃ q cs' v4, σ' = [some (.int (many : Int)), some (.ref p), some (.int (s : Int)), some (.ref q), v4, none] ∧ Ex H2 H' ∧ WtAt H' q (s + 1) cs' ∧ cs'.length = 9 * j) (fun H3 e3 => ⟨q0, [], _, rfl, e3, ⟨e3 _ _ h2, fun c hc => nomatch hc⟩, rfl⟩) (fun j σ' H' _ ⟨_, _, _, _, e, _⟩ => sq_of (e _ _ wt2.1)) (fun j x σ' H' hx ⟨q, cs', v4, es, e, wq, lq⟩ => ?_) (fun σ' H' ⟨q, cs', v4, es, e, wq, lq⟩ => ?_)
    · subst es
      have hjl := (List.getElem?_eq_some_iff.mp hx).1
      rw [List.length_map] at hjl
      rw [List.getElem?_map] at hx
      obtain ⟨c, hc, rfl⟩ := Option.map_eq_some_iff.mp hx
      obtain ⟨xs, hxs, lx⟩ := wt2.2 c (List.mem_of_getElem? hc)
      show tAsg _ _ _ [some (.int (many : Int)), some (.ref p), some (.int (s : Int)), some (.ref q), some (.ref c), none] H'
      unfold tAsg tOp
      refine ⟨.ref q, rfl, ?_⟩
      refine longer_made (K := K) (w := c) (fun x => ⟨rfl, rfl⟩) (fun x => rfl) (e _ _ hxs) lx (by omega) fun p2 cs2 H3 e3 w3 l3 hp2 => ?_
      have wq3 := wq.ex e3
      refine ⟨q, p2, _, _, rfl, rfl, wq3.1, w3.1, by rw [List.length_map, List.length_map, lq, l3]; exact sz_of (by omega), fun z hz => ?_⟩
      have eZ : Ex H3 (upd H3 z (.lst (cs'.map V.ref ++ cs2.map V.ref))) := Ex.new hz
      refine ⟨z, cs' ++ cs2, _, rfl, e.trans (e3.trans eZ), ⟨by rw [upd_same, List.map_append], fun c' hc' => ?_⟩, by rw [List.length_append, lq, l3]; omega⟩
      rcases List.mem_append.mp hc' with hc' | hc'
      · exact (wq3.ex eZ).2 c' hc'
      · exact (w3.ex eZ).2 c' hc'
    · subst es
      rw [List.length_map] at lq
      refine s_asg (v := .ref q) (ev_var rfl) fun H4 e4 => ⟨q, cs', _, _, _, rfl, ex.trans (e2.trans (e.trans e4)), wq.ex e4, ?_⟩
      rw [lq, Nat.pow_succ, Nat.mul_comm]
      exact Nat.mul_le_mul_right 9 lc
  · subst es
    rw [Int.toNat_natCast] at wt lc
    refine s_ret (ev_var rfl) fun H2 e2 => k p cs H2 (ex.trans e2) (wt.ex e2) ?_
    have : many = 0 ∨ many = 1 ∨ many = 2 ∨ many = 3 := by omega
    rcases this with h | h | h | h <;> rw [h] at lc <;> exact Nat.le_trans lc (by decide)
end
end Bw
/-! Words for the law itself. -/
namespace Bw
open PySem PySem.Spec PyProof.Rows L2 Evl
section
variable {K : PySem.W.Frag} {C : Addr} {H : Hp} {t n : Nat} {E : List Edge} {st lg cs : Addr}
abbrev lev (xs : List Int) : Nat → Int := fun i => (pre xs).getD i 0
theorem fitsB_iff (T : TabAt C H t n E) (xs : List Int) : fitsB E (pre xs) = true ↔ FitE n E (lev xs) := by
  rw [T.fits]
  unfold fitsB
  rw [List.all_eq_true]
  exact ⟨fun h e he => of_decide_eq_true (h e he), fun h e he => decide_eq_true (h e he)⟩
open Classical in
theorem fitsB_eq (T : TabAt C H t n E) (xs : List Int) : fitsB E (pre xs) = decide (FitE n E (lev xs)) := by
  have h := fitsB_iff T xs
  by_cases c : FitE n E (lev xs)
  · rw [decide_eq_true c, h.mpr c]
  · rw [decide_eq_false c]
    cases e : fitsB E (pre xs) with
    | true => exact absurd (h.mp e) c
    | false => rfl
/-- a draw leaves a table as it is -/
theorem TabAt.but {H' : Hp} {k : Nat} (T : TabAt C H t n E) (S : Src H st lg cs k) (b : But H H' st lg) : TabAt C H' t n E := by
  obtain ⟨⟨large, cells, r, u, h1, h2, h3, h4, h5⟩, nl⟩ := S
  obtain ⟨dx, d, t1, t2, g⟩ := T
  exact ⟨dx, d, b _ _ t1 (ne_of t1 h1 (by intro z; cases z)) (ne_of t1 h2 (by intro z; cases z)), b _ _ t2 (ne_of t2 h1 (by intro z; cases z)) (ne_of t2 h2 (by intro z; cases z)), g⟩
theorem tup_but {H' : Hp} {k : Nat} {a : Addr} {xs : List V} (h : H a = some (.tup xs)) (S : Src H st lg cs k) (b : But H H' st lg) : H' a = some (.tup xs) := by
  obtain ⟨⟨large, cells, r, u, h1, h2, h3, h4, h5⟩, nl⟩ := S
  exact b _ _ h (ne_of h h1 (by intro z; cases z)) (ne_of h h2 (by intro z; cases z))
/-- the levels but one are the levels at the points but one -/
theorem lev_skip {x : Nat} {xs : List Int} : ∀ m, m ≤ (pre xs).length → ((List.range m).filter fun i => !decide (i = x)).map (fun i => (pre xs).getD i 0) = ((List.range m).filter fun i => !decide (i = x)).map (lev xs) := fun m _ => rfl
/-- a water of differences has just these levels, less the first -/
theorem lev_difs (y : Int) (r : List Int) (i : Nat) (hi : i < r.length + 1) : lev (difs (y :: r)) i = (y :: r).getD i 0 - y := by
  have h : ∀ (c x : Int) (r : List Int) (i : Nat), i < r.length + 1 → (preA c (difs (x :: r))).getD i 0 = (x :: r).getD i 0 - x + c := by
    intro c x r
    induction r generalizing c x with
    | nil =>
      intro i hi
      have : i = 0 := by
        have : i < 0 + 1 := hi
        omega
      subst this
      show c = x - x + c
      omega
    | cons z r ih =>
      intro i hi
      cases i with
      | zero =>
        show c = x - x + c
        omega
      | succ j =>
        have := ih (c + (z - x)) z j (by
          have : j + 1 < r.length + 1 + 1 := hi
          omega)
        show (preA (c + (z - x)) (difs (z :: r))).getD j 0 = (z :: r).getD j 0 - x + c
        rw [this]
        omega
  have := h 0 y r i hi
  show (preA 0 (difs (y :: r))).getD i 0 = _
  omega
/-- bounds don't ask for the first level -/
theorem fits_shift {s : Nat → Int} {c : Int} (f : FitE n E s) : FitE n E fun i => s i - c := fun a b x ha hb hx => by
  have := f a b x ha hb hx
  show s a - c - (s b - c) ≤ x
  omega
end
end Bw
/-! The law: one water, one turn. -/
namespace Bw
open PySem PySem.Spec PyProof.Rows L2 Evl
abbrev rMin2 : List V → Hp → VK → Prop := fun xs H Q => ∃ i j, xs = [.int i, .int j] ∧ Q (.int (if j < i then j else i)) H
def t_lawP_4 (K : PySem.W.Frag) (C : Addr) : TS := (tIfS (tAnd (tB (tVar 15)) (tTest (tOp rGtI (tVar 3) (tC (.int 1))))) (tSeq (tAsg (tLc (iEnumT K (tCons (tCall (sp_sums C) [] E0 (tCons (tVar 8) tNil)) tNil)) (gTup K 2 (gCons (gName 17) (gCons (gName 18) gNil))) (tTest (tOp rNe (tVar 17) (tVar 6))) (tVar 18) [17, 18]) (gName 16)) (tIfS (tNot (tB (tMeth C "fits" (sp_Table_fits C) [] E0 (tVar 7) (tCons (tCB (cTupleOf K) (tCons (tLc (iRng1 (tCons (tOp rSubI (tVar 3) (tC (.int 1))) tNil)) (gName 17) tYes (tOp rSubI (tOp (rIxL K) (tVar 16) (tOp rAddI (tVar 17) (tC (.int 1)))) (tOp (rIxL K) (tVar 16) (tVar 17))) [17]) tNil)) tNil)))) (tRet (tC (.bl false))) tNext)) tNext)
def t_lawP_3 (K : PySem.W.Frag) (C : Addr) : TS := tSeq (tIfS (tAnd (tB (tVar 15)) (tOr (tAnd (tB (tVar 13)) (tNot (tB (tMeth C "fits" (sp_Table_fits C) [] E0 (tVar 5) (tCons (tVar 8) tNil))))) (tB (tCall (sp__law_is_passed C) [] E0 (tCons (tVar 8) (tCons (tVar 11) (tCons (tVar 12) tNil))))))) (tRet (tC (.bl false))) tNext) (t_lawP_4 K C)
def t_lawP_2 (K : PySem.W.Frag) (C : Addr) : TS := tSeq (tIfS (tOr (tTest (tOp rNe (tMeth C "fits" (sp_Table_fits C) [] E0 (tVar 10) (tCons (tVar 8) tNil)) (tVar 15))) (tTest (tOp rNe (tMeth C "fits" (sp_Table_fits C) [] E0 (tVar 9) (tCons (tVar 8) tNil)) (tAndV (tVar 15) (tMeth C "fits" (sp_Table_fits C) [] E0 (tVar 5) (tCons (tVar 8) tNil)))))) (tRet (tC (.bl false))) tNext) (t_lawP_3 K C)
def t_lawP_1 (K : PySem.W.Frag) (C : Addr) : TS := tSeq (tAsg (tOp rAddI (tVar 14) (tCB cInt1 (tCons (tVar 15) tNil))) (gName 14)) (t_lawP_2 K C)
def t_lawP_0 (K : PySem.W.Frag) (C : Addr) : TS := tSeq (tAsg (tMeth C "fits" (sp_Table_fits C) [] E0 (tVar 4) (tCons (tVar 8) tNil)) (gName 15)) (t_lawP_1 K C)
def t_lawT_10 (K : PySem.W.Frag) (C : Addr) : TS := (tIfS (tOr (tNot (tB (tCall (sp_is_same C) [] E0 (tCons (tVar 10) (tCons (tVar 4) tNil))))) (tOr (tNot (tB (tCall (sp_is_within C) [] E0 (tCons (tVar 9) (tCons (tVar 4) tNil))))) (tNot (tB (tCall (sp_is_within C) [] E0 (tCons (tVar 9) (tCons (tVar 5) tNil))))))) (tRet (tC (.bl false))) tNext)
def t_lawT_9 (K : PySem.W.Frag) (C : Addr) : TS := tSeq (tIfS (tOr (tAnd (tB (tNotN (tCall (sp_ring C) [] E0 (tCons (tVar 4) tNil)))) (tTest (tOp rGtI (tVar 14) (tC (.int 0))))) (tAnd (tNot (tB (tVar 13))) (tNot (tB (tCall (sp__law_out C) [] E0 (tCons (tVar 4) (tCons (tVar 5) (tCons (tVar 3) tNil)))))))) (tRet (tC (.bl false))) tNext) (t_lawT_10 K C)
def t_lawT_8 (K : PySem.W.Frag) (C : Addr) : TS := tSeq (tFor (iList K (tCall (sp__law_waters C) [] E0 (tCons (tVar 3) tNil))) (gName 8) (tSeq (tAsg (tMeth C "fits" (sp_Table_fits C) [] E0 (tVar 4) (tCons (tVar 8) tNil)) (gName 15)) (tSeq (tAsg (tOp rAddI (tVar 14) (tCB cInt1 (tCons (tVar 15) tNil))) (gName 14)) (tSeq (tIfS (tOr (tTest (tOp rNe (tMeth C "fits" (sp_Table_fits C) [] E0 (tVar 10) (tCons (tVar 8) tNil)) (tVar 15))) (tTest (tOp rNe (tMeth C "fits" (sp_Table_fits C) [] E0 (tVar 9) (tCons (tVar 8) tNil)) (tAndV (tVar 15) (tMeth C "fits" (sp_Table_fits C) [] E0 (tVar 5) (tCons (tVar 8) tNil)))))) (tRet (tC (.bl false))) tNext) (tSeq (tIfS (tAnd (tB (tVar 15)) (tOr (tAnd (tB (tVar 13)) (tNot (tB (tMeth C "fits" (sp_Table_fits C) [] E0 (tVar 5) (tCons (tVar 8) tNil))))) (tB (tCall (sp__law_is_passed C) [] E0 (tCons (tVar 8) (tCons (tVar 11) (tCons (tVar 12) tNil))))))) (tRet (tC (.bl false))) tNext) (tIfS (tAnd (tB (tVar 15)) (tTest (tOp rGtI (tVar 3) (tC (.int 1))))) (tSeq (tAsg (tLc (iEnumT K (tCons (tCall (sp_sums C) [] E0 (tCons (tVar 8) tNil)) tNil)) (gTup K 2 (gCons (gName 17) (gCons (gName 18) gNil))) (tTest (tOp rNe (tVar 17) (tVar 6))) (tVar 18) [17, 18]) (gName 16)) (tIfS (tNot (tB (tMeth C "fits" (sp_Table_fits C) [] E0 (tVar 7) (tCons (tCB (cTupleOf K) (tCons (tLc (iRng1 (tCons (tOp rSubI (tVar 3) (tC (.int 1))) tNil)) (gName 17) tYes (tOp rSubI (tOp (rIxL K) (tVar 16) (tOp rAddI (tVar 17) (tC (.int 1)))) (tOp (rIxL K) (tVar 16) (tVar 17))) [17]) tNil)) tNil)))) (tRet (tC (.bl false))) tNext)) tNext)))))) (t_lawT_9 K C)
def t_lawT_7 (K : PySem.W.Frag) (C : Addr) : TS := tSeq (tPar 13 14 (tCons (tCall (sp_is_within C) [] E0 (tCons (tVar 4) (tCons (tVar 5) tNil))) (tCons (tC (.int 0)) tNil))) (t_lawT_8 K C)
def t_lawT_6 (K : PySem.W.Frag) (C : Addr) : TS := tSeq (tAsg (tIf (tTest (tOp rGtI (tVar 3) (tC (.int 1)))) (tCall (sp_hidden C) [] E0 (tCons (tVar 4) (tCons (tTup (tCons (tVar 6) tNil)) tNil))) (tVar 4)) (gName 7)) (t_lawT_7 K C)
def t_lawT_5 (K : PySem.W.Frag) (C : Addr) : TS := tSeq (tAsg (tOp rAddI (tC (.int 1)) (tCall spDraw [] E0 (tCons (tVar 1) (tCons (tVar 3) tNil)))) (gName 6)) (t_lawT_6 K C)
def t_lawT_4 (K : PySem.W.Frag) (C : Addr) : TS := tSeq (tAsg (tTup (tCons (tCall (sp_both C) [] E0 (tCons (tVar 4) (tCons (tVar 5) tNil))) (tCons (tCall (sp_closed C) [] E0 (tCons (tVar 4) tNil)) (tCons (tCall (sp_highest C) [] E0 (tCons (tVar 4) tNil)) (tCons (tCall (sp_lowest C) [] E0 (tCons (tVar 4) tNil)) tNil))))) (gTup K 4 (gCons (gName 9) (gCons (gName 10) (gCons (gName 11) (gCons (gName 12) gNil)))))) (t_lawT_5 K C)
def t_lawT_3 (K : PySem.W.Frag) (C : Addr) : TS := tSeq (tIfS (tTest (tOp rEq (tCall spDraw [] E0 (tCons (tVar 1) (tCons (tC (.int 2)) tNil))) (tC (.int 0)))) (tAsg (tIf (tTest (tOp rEq (tCall spDraw [] E0 (tCons (tVar 1) (tCons (tC (.int 2)) tNil))) (tC (.int 0)))) (tCall (sp_both C) [] E0 (tCons (tVar 4) (tCons (tVar 5) tNil))) (tCall (sp_closed C) [] E0 (tCons (tVar 4) tNil))) (gName 5)) tNext) (t_lawT_4 K C)
def t_lawT_2 (K : PySem.W.Frag) (C : Addr) : TS := tSeq (tAsg (tMake C (sp_Table___init__ C) [] E0 (tCons (tVar 3) (tCons (tCall (sp__law_caps C) [] E0 (tCons (tVar 1) (tCons (tVar 3) (tCons (tCall (spPick K) [] E0 (tCons (tVar 1) (tCons (tLst (tCons (tC (.int 2)) (tCons (tC (.int 4)) tNil))) tNil))) (tCons (tC (.int 4)) tNil))))) tNil))) (gName 5)) (t_lawT_3 K C)
def t_lawT_1 (K : PySem.W.Frag) (C : Addr) : TS := tSeq (tAsg (tMake C (sp_Table___init__ C) [] E0 (tCons (tVar 3) (tCons (tCall (sp__law_caps C) [] E0 (tCons (tVar 1) (tCons (tVar 3) (tCons (tCall (spPick K) [] E0 (tCons (tVar 1) (tCons (tLst (tCons (tC (.int 1)) (tCons (tC (.int 2)) tNil))) tNil))) (tCons (tC (.int 4)) tNil))))) tNil))) (gName 4)) (t_lawT_2 K C)
def t_lawT_0 (K : PySem.W.Frag) (C : Addr) : TS := tSeq (tAsg (tCall (spPick K) [] E0 (tCons (tVar 1) (tCons (tLst (tCons (tC (.int 1)) (tCons (tC (.int 2)) (tCons (tC (.int 2)) (tCons (tC (.int 3)) tNil))))) tNil))) (gName 3)) (t_lawT_1 K C)
def t_law_2 (K : PySem.W.Frag) (C : Addr) : TS := (tRet (tC (.bl true)))
def t_law_1 (K : PySem.W.Frag) (C : Addr) : TS := tSeq (tFor (iRng1 (tCons (tOp rAddI (tC (.int 1)) (tCB rMin2 (tCons (tCB (cLen K) (tCons (tVar 0) tNil)) (tCons (tC (.int 2)) tNil)))) tNil)) (gName 2) (tSeq (tAsg (tCall (spPick K) [] E0 (tCons (tVar 1) (tCons (tLst (tCons (tC (.int 1)) (tCons (tC (.int 2)) (tCons (tC (.int 2)) (tCons (tC (.int 3)) tNil))))) tNil))) (gName 3)) (tSeq (tAsg (tMake C (sp_Table___init__ C) [] E0 (tCons (tVar 3) (tCons (tCall (sp__law_caps C) [] E0 (tCons (tVar 1) (tCons (tVar 3) (tCons (tCall (spPick K) [] E0 (tCons (tVar 1) (tCons (tLst (tCons (tC (.int 1)) (tCons (tC (.int 2)) tNil))) tNil))) (tCons (tC (.int 4)) tNil))))) tNil))) (gName 4)) (tSeq (tAsg (tMake C (sp_Table___init__ C) [] E0 (tCons (tVar 3) (tCons (tCall (sp__law_caps C) [] E0 (tCons (tVar 1) (tCons (tVar 3) (tCons (tCall (spPick K) [] E0 (tCons (tVar 1) (tCons (tLst (tCons (tC (.int 2)) (tCons (tC (.int 4)) tNil))) tNil))) (tCons (tC (.int 4)) tNil))))) tNil))) (gName 5)) (tSeq (tIfS (tTest (tOp rEq (tCall spDraw [] E0 (tCons (tVar 1) (tCons (tC (.int 2)) tNil))) (tC (.int 0)))) (tAsg (tIf (tTest (tOp rEq (tCall spDraw [] E0 (tCons (tVar 1) (tCons (tC (.int 2)) tNil))) (tC (.int 0)))) (tCall (sp_both C) [] E0 (tCons (tVar 4) (tCons (tVar 5) tNil))) (tCall (sp_closed C) [] E0 (tCons (tVar 4) tNil))) (gName 5)) tNext) (tSeq (tAsg (tTup (tCons (tCall (sp_both C) [] E0 (tCons (tVar 4) (tCons (tVar 5) tNil))) (tCons (tCall (sp_closed C) [] E0 (tCons (tVar 4) tNil)) (tCons (tCall (sp_highest C) [] E0 (tCons (tVar 4) tNil)) (tCons (tCall (sp_lowest C) [] E0 (tCons (tVar 4) tNil)) tNil))))) (gTup K 4 (gCons (gName 9) (gCons (gName 10) (gCons (gName 11) (gCons (gName 12) gNil)))))) (tSeq (tAsg (tOp rAddI (tC (.int 1)) (tCall spDraw [] E0 (tCons (tVar 1) (tCons (tVar 3) tNil)))) (gName 6)) (tSeq (tAsg (tIf (tTest (tOp rGtI (tVar 3) (tC (.int 1)))) (tCall (sp_hidden C) [] E0 (tCons (tVar 4) (tCons (tTup (tCons (tVar 6) tNil)) tNil))) (tVar 4)) (gName 7)) (tSeq (tPar 13 14 (tCons (tCall (sp_is_within C) [] E0 (tCons (tVar 4) (tCons (tVar 5) tNil))) (tCons (tC (.int 0)) tNil))) (tSeq (tFor (iList K (tCall (sp__law_waters C) [] E0 (tCons (tVar 3) tNil))) (gName 8) (tSeq (tAsg (tMeth C "fits" (sp_Table_fits C) [] E0 (tVar 4) (tCons (tVar 8) tNil)) (gName 15)) (tSeq (tAsg (tOp rAddI (tVar 14) (tCB cInt1 (tCons (tVar 15) tNil))) (gName 14)) (tSeq (tIfS (tOr (tTest (tOp rNe (tMeth C "fits" (sp_Table_fits C) [] E0 (tVar 10) (tCons (tVar 8) tNil)) (tVar 15))) (tTest (tOp rNe (tMeth C "fits" (sp_Table_fits C) [] E0 (tVar 9) (tCons (tVar 8) tNil)) (tAndV (tVar 15) (tMeth C "fits" (sp_Table_fits C) [] E0 (tVar 5) (tCons (tVar 8) tNil)))))) (tRet (tC (.bl false))) tNext) (tSeq (tIfS (tAnd (tB (tVar 15)) (tOr (tAnd (tB (tVar 13)) (tNot (tB (tMeth C "fits" (sp_Table_fits C) [] E0 (tVar 5) (tCons (tVar 8) tNil))))) (tB (tCall (sp__law_is_passed C) [] E0 (tCons (tVar 8) (tCons (tVar 11) (tCons (tVar 12) tNil))))))) (tRet (tC (.bl false))) tNext) (tIfS (tAnd (tB (tVar 15)) (tTest (tOp rGtI (tVar 3) (tC (.int 1))))) (tSeq (tAsg (tLc (iEnumT K (tCons (tCall (sp_sums C) [] E0 (tCons (tVar 8) tNil)) tNil)) (gTup K 2 (gCons (gName 17) (gCons (gName 18) gNil))) (tTest (tOp rNe (tVar 17) (tVar 6))) (tVar 18) [17, 18]) (gName 16)) (tIfS (tNot (tB (tMeth C "fits" (sp_Table_fits C) [] E0 (tVar 7) (tCons (tCB (cTupleOf K) (tCons (tLc (iRng1 (tCons (tOp rSubI (tVar 3) (tC (.int 1))) tNil)) (gName 17) tYes (tOp rSubI (tOp (rIxL K) (tVar 16) (tOp rAddI (tVar 17) (tC (.int 1)))) (tOp (rIxL K) (tVar 16) (tVar 17))) [17]) tNil)) tNil)))) (tRet (tC (.bl false))) tNext)) tNext)))))) (tSeq (tIfS (tOr (tAnd (tB (tNotN (tCall (sp_ring C) [] E0 (tCons (tVar 4) tNil)))) (tTest (tOp rGtI (tVar 14) (tC (.int 0))))) (tAnd (tNot (tB (tVar 13))) (tNot (tB (tCall (sp__law_out C) [] E0 (tCons (tVar 4) (tCons (tVar 5) (tCons (tVar 3) tNil)))))))) (tRet (tC (.bl false))) tNext) (tIfS (tOr (tNot (tB (tCall (sp_is_same C) [] E0 (tCons (tVar 10) (tCons (tVar 4) tNil))))) (tOr (tNot (tB (tCall (sp_is_within C) [] E0 (tCons (tVar 9) (tCons (tVar 4) tNil))))) (tNot (tB (tCall (sp_is_within C) [] E0 (tCons (tVar 9) (tCons (tVar 5) tNil))))))) (tRet (tC (.bl false))) tNext)))))))))))) (t_law_2 K C)
def t_law_0 (K : PySem.W.Frag) (C : Addr) : TS := tSeq (tAsg (tCall (spBegun K) [] E0 (tCons (tVar 0) tNil)) (gName 1)) (t_law_1 K C)
section
variable {K : PySem.W.Frag} {C : Addr} {σ : L2.St} {H : Hp} {ta tb tc te : TE} {D : Ends} {t n : Nat} {E : List Edge} {st lg cs : Addr}
/-- t.fits(w) -/
theorem ev_fits {w : Addr} {xs : List Int} (F : TabF K C) (h0 : Ev ta σ H (.ref t)) (h1 : Ev tb σ H (.ref w)) (T : TabAt C H t n E) (hw : H w = some (.tup (intL xs))) (hl : xs.length = n) : Ev (tMeth C "fits" (sp_Table_fits C) [] E0 ta (tCons tb tNil)) σ H (.bl (fitsB E (pre xs))) := fun H1 e Q q =>
  h0 H1 e _ fun H2 e2 => by
    have T2 := T.ex (e.trans e2)
    obtain ⟨dx, d, t1, _⟩ := id T2
    refine ⟨t, dx, _, rfl, t1, ?_, h1 H2 (e.trans e2) _ fun H3 e3 => ?_⟩
    · rw [List.lookup_cons, List.lookup_cons]
      have h1 : (("fits" : Str) == ("_size" : Str)) = false := by decide +kernel
      have h2 : (("fits" : Str) == ("_bounds" : Str)) = false := by decide +kernel
      rw [h1, h2]
      rfl
    · exact ⟨isV (.bl (fitsB E (pre xs))), ⟨t, w, n, E, xs, rfl, T2.ex e3, (e.trans (e2.trans e3)) _ _ hw, hl, rfl⟩, fun v H4 e4 hv => by
        rw [show v = .bl (fitsB E (pre xs)) from hv]
        exact q H4 (e2.trans (e3.trans e4))⟩
end
end Bw
/-! The law: a water with a point hidden. -/
namespace Bw
open PySem PySem.Spec PyProof.Rows L2 Evl
section
variable {K : PySem.W.Frag} {C : Addr} {σ : L2.St} {H : Hp} {ta tb tc te : TE} {t n : Nat} {E : List Edge}
/-- [level for k, level in enumerate(tuple) if k != x] -/
theorem el_skip {xs : List Int} {tA : TA} {i1 i2 : Nat} {vs : List Nat} {tt : TT} {x : Nat} (h : ∀ H0, Ex H H0 → ∀ Q : List V → Hp → Prop, (∀ a H1, Ex H0 H1 → SqT K H1 a (intL xs) → Q [.ref a] H1) → tA σ H0 Q) (hz : xs.length ≤ 1000)
    (hw : ∀ u v, wipe (((wipe σ vs).set i1 (some u)).set i2 (some v)) vs = wipe σ vs) (ht : ∀ (i : Nat) (v : V) H1, Ex H H1 → EvT tt (((wipe σ vs).set i1 (some (.int (i : Nat)))).set i2 (some v)) H1 (!decide (i = x)))
    (he : ∀ (i : Nat) (v : V) H1, Ex H H1 → Ev te (((wipe σ vs).set i1 (some (.int (i : Nat)))).set i2 (some v)) H1 v) :
    EvL (tLc (iEnumT K tA) (gTup K 2 (gCons (gName i1) (gCons (gName i2) gNil))) tt te vs) σ H (intL (((List.range xs.length).filter fun i => !decide (i = x)).map fun i => xs.getD i 0)) := fun H0 e Q q => h H0 e _ fun a H1 e1 hx => ⟨a, _, rfl, hx, fun Dl hD => by
  have walk : Walk (IteT K a) xs.length (fun H => SqT K H a (intL xs)) (fun i H v H' => ∃ T y, v = .ref T ∧ H T = none ∧ H' = upd H T (.tup [.int (i : Nat), y]) ∧ (intL xs)[i]? = some y) :=
    ⟨fun i H hi q => ⟨_, _, q, getD_at hi⟩, fun H q => ⟨_, q, by rw [List.length_map]; exact Nat.le_refl _⟩, fun i H v H' _ q y => by
      obtain ⟨T, y, h1, h2, h3, h4⟩ := y
      exact ⟨T, y, h1, h2, h3, h4 _ q⟩⟩
  refine lc_it walk (fun i H' => H1 Dl = none ∧ Ex H1 H' ∧ H' Dl = some (.lst (intL (((List.range i).filter fun i => !decide (i = x)).map fun i => xs.getD i 0)))) ⟨hD, Ex.new hD, upd_same⟩ (fun i H' _ p => ex_t p.2.1 hx) (fun i v H' H2 hi p y => ?_) (fun H' p => q Dl H' (fresh_back e1 p.1) (e1.trans p.2.1) p.2.2)
  obtain ⟨T, y, rfl, hT, rfl, hy⟩ := y
  obtain ⟨p1, p2, p3⟩ := p
  rw [getD_at hi] at hy
  cases hy
  have eT : Ex H' (upd H' T (.tup [.int (i : Nat), .int (xs.getD i 0)])) := Ex.new hT
  have e2 := (e.trans e1).trans (p2.trans eT)
  refine ⟨T, _, rfl, st_of upd_same, rfl, _, _, rfl, _, _, rfl, rfl, hw _ _, ht i _ _ e2 _ (Ex.refl _) _ fun H3 e3 => ?_⟩
  by_cases c : i = x
  · rw [decide_eq_true c]
    refine iteF ⟨p1, p2.trans (eT.trans e3), ?_⟩
    rw [List.range_succ, List.filter_append, List.filter_cons_of_neg (by simp [c])]
    rw [e3 _ _ (eT _ _ p3)]
    simp
  · rw [decide_eq_false c]
    refine iteT (he i _ H3 (e2.trans e3) H3 (Ex.refl _) _ fun H4 e4 => ⟨_, e4 _ _ (e3 _ _ (eT _ _ p3)), ?_, p1, Ex.mut ((p2.trans (eT.trans e3)).trans e4) p1, ?_⟩)
    · rw [List.length_map, List.length_map]
      refine Nat.lt_of_le_of_lt (List.length_filter_le _ _) ?_
      rw [List.length_range]
      exact sz_lt (by omega)
    · rw [upd_same, List.range_succ, List.filter_append, List.filter_cons_of_pos (by simp [c]), List.map_append]
      show _ = some (HO.lst (List.map V.int (_ ++ _)))
      rw [List.map_append]
      rfl⟩
theorem difs_at : ∀ (xs : List Int) (m : Nat), xs.length = m + 1 → (List.range m).map (fun i => V.int (xs.getD (i + 1) 0 - xs.getD i 0)) = intL (difs xs)
  | [], m, h => by
    have h : 0 = m + 1 := h
    omega
  | [x], m, h => by
    have : m = 0 := by
      have h : 0 + 1 = m + 1 := h
      omega
    subst this
    rfl
  | x :: y :: r, m, h => by
    cases m with
    | zero =>
      have h : r.length + 1 + 1 = 0 + 1 := h
      omega
    | succ m =>
      have ih := difs_at (y :: r) m (by
        have h : r.length + 1 + 1 = m + 1 + 1 := h
        show r.length + 1 = m + 1
        omega)
      rw [List.range_succ_eq_map, List.map_cons, List.map_map]
      show V.int (y - x) :: _ = V.int (y - x) :: intL (difs (y :: r))
      rw [← ih]
      rfl
end
end Bw
/-! The law: one water. -/
namespace Bw
open PySem PySem.Spec PyProof.Rows L2 Evl
section
variable {K : PySem.W.Frag} {C : Addr} {σ : L2.St} {H : Hp} {ta tb tc te : TE} {D : Ends} {t n : Nat} {E : List Edge}
abbrev sP (sc stv tr nv left right x slim pool shared known top low isin fit : V) (v15 v16 v17 v18 : Option V) : L2.St := [some sc, some stv, some tr, some nv, some left, some right, some x, some slim, some pool, some shared, some known, some top, some low, some isin, some fit, v15, v16, v17, v18]
/-- what a turn has made -/
structure Turn1 (C : Addr) (H : Hp) (n x t u sh kn : Nat) (E E2 Es Ek : List Edge) (slim top low : V) : Prop where
  T : TabAt C H t n E
  U : TabAt C H u n E2
  S : TabAt C H sh n Es
  Kn : TabAt C H kn n Ek
  fs : ∀ s, FitE n Es s ↔ (FitE n E s ∧ FitE n E2 s)
  fk : ∀ s, FitE n Ek s ↔ FitE n E s
  x1 : 1 ≤ x
  x2 : x ≤ n
  top : top = .non ∨ ∃ w xs, top = .ref w ∧ H w = some (.tup (intL xs)) ∧ xs.length = n ∧ ∀ s, FitE n E s → ∀ a, a < n + 1 → s a - s 0 ≤ (pre xs).getD a 0
  low : low = .non ∨ ∃ w xs, low = .ref w ∧ H w = some (.tup (intL xs)) ∧ xs.length = n ∧ ∀ s, FitE n E s → ∀ a, a < n + 1 → (pre xs).getD a 0 ≤ s a - s 0
  slim : 1 < n → ∃ v E', slim = .ref v ∧ TabAt C H v (n - 1) E' ∧ ∀ s, FitE n E s → FitE (n - 1) E' fun i => s ((lfs n x).getD i 0)
theorem Turn1.go {H' : Hp} {x u sh kn : Nat} {E2 Es Ek : List Edge} {slim top low : V} (h : Turn1 C H n x t u sh kn E E2 Es Ek slim top low) (e : Ex H H') : Turn1 C H' n x t u sh kn E E2 Es Ek slim top low := by
  obtain ⟨T, U, S, Kn, fs, fk, x1, x2, tp, lw, sl⟩ := h
  refine ⟨T.ex e, U.ex e, S.ex e, Kn.ex e, fs, fk, x1, x2, ?_, ?_, fun h => ?_⟩
  · rcases tp with h | ⟨w, xs, h1, h2, r⟩
    · exact Or.inl h
    · exact Or.inr ⟨w, xs, h1, e _ _ h2, r⟩
  · rcases lw with h | ⟨w, xs, h1, h2, r⟩
    · exact Or.inl h
    · exact Or.inr ⟨w, xs, h1, e _ _ h2, r⟩
  · obtain ⟨v, E', h1, h2, r⟩ := sl h
    exact ⟨v, E', h1, h2.ex e, r⟩
theorem ev_intB {b : Bool} (h : Ev te σ H (.bl b)) : Ev (tCB cInt1 (tCons te tNil)) σ H (.int (if b then 1 else 0)) := fun H1 e Q q => h H1 e _ fun H2 e2 => Or.inr ⟨b, rfl, q H2 e2⟩
theorem pre_zero (xs : List Int) : (pre xs).getD 0 0 = 0 := by cases xs <;> rfl
open Classical in
theorem pure_pool4 (F : TabF K C) {sc stv tr isin fit : V} {v16 v17 v18 : Option V} {f : Bool} {x u sh kn w : Nat} {E2 Es Ek : List Edge} {slim top low : V} {xs : List Int} (W : Turn1 C H n x t u sh kn E E2 Es Ek slim top low) (n1 : 1 ≤ n) (n2 : n ≤ 3) (hw : H w = some (.tup (intL xs))) (hl : xs.length = n) (hf : f = true → FitE n E (lev xs))
    (k : ∀ v16 v17 v18 H2, Ex H H2 → D.nx (sP sc stv tr (.int (n : Int)) (.ref t) (.ref u) (.int (x : Int)) slim (.ref w) (.ref sh) (.ref kn) top low isin fit (some (.bl f)) v16 v17 v18) H2) : t_lawP_4 K C D (sP sc stv tr (.int (n : Int)) (.ref t) (.ref u) (.int (x : Int)) slim (.ref w) (.ref sh) (.ref kn) top low isin fit (some (.bl f)) v16 v17 v18) H := by
  refine s_when (b := f && decide ((1 : Int) < (n : Int))) (et_and (et_B (ev_var rfl)) fun _ => et_test (ev_op (ev_var rfl) ev_c rv_I0)) (fun hb H1 e1 => ?_) fun _ H1 e1 => k _ _ _ H1 e1
  rw [Bool.and_eq_true] at hb
  have hn : 1 < n := by
    have := of_decide_eq_true hb.2
    omega
  have W1 := W.go e1
  obtain ⟨sv, E', rfl, Ts, fits⟩ := W1.slim hn
  have hw1 := e1 _ _ hw
  have lp : (pre xs).length = n + 1 := by
    show (preA 0 xs).length = _
    rw [preA_length, hl]
  obtain ⟨L, eLd⟩ : ∃ L : List Int, L = (lfs n x).map fun i => (pre xs).getD i 0 := ⟨_, rfl⟩
  have lL : L.length = n := by rw [eLd, List.length_map, lfs_len W.x2]
  have atL : ∀ i, i < n → L.getD i 0 = lev xs ((lfs n x).getD i 0) := fun i hi => by
    rw [eLd, List.getD_eq_getElem?_getD, List.getElem?_map, (lfs_lt W.x2 hi).2]
    rfl
  have made := el_skip (K := K) (σ := sP sc stv tr (.int (n : Int)) (.ref t) (.ref u) (.int (x : Int)) (.ref sv) (.ref w) (.ref sh) (.ref kn) top low isin fit (some (.bl f)) v16 v17 v18) (H := H1) (xs := pre xs) (tA := tCons (tCall (sp_sums C) [] E0 (tCons (tVar 8) tNil)) tNil) (i1 := 17) (i2 := 18) (vs := [17, 18]) (tt := tTest (tOp rNe (tVar 17) (tVar 6))) (te := tVar 18) (x := x)
    (fun H0 e0 R r => evp_call (P := isT (intL (pre xs))) (ea_cons (ev_var rfl) ea_nil) (fun H2 e2 => ⟨w, xs, rfl, e2 _ _ hw1, by omega, by omega, rfl⟩) H0 e0 _ fun v H2 e2 ⟨p, hv, hp⟩ => by
      subst hv
      exact r p H2 e2 (st_of hp)) (by rw [lp]; omega) (fun _ _ => rfl) (fun i v H2 e2 => et_is (et_test (ev_op (ev_var rfl) (ev_var rfl) (rv_ne rfl))) (by
        congr 1
        refine decide_eq_decide.mpr ⟨fun h => ?_, fun h => by rw [h]⟩
        have := V.int.inj h
        omega)) (fun i v H2 e2 => ev_var rfl)
  rw [lp] at made
  refine q_asgL (xs := intL L) (by rw [eLd]; exact made) fun l H2 hlf e2 h2 => ?_
  have e12 := e1.trans e2
  have inner : EvL (tLc (iRng1 (tCons (tOp rSubI (tVar 3) (tC (.int 1))) tNil)) (gName 17) tYes (tOp rSubI (tOp (rIxL K) (tVar 16) (tOp rAddI (tVar 17) (tC (.int 1)))) (tOp (rIxL K) (tVar 16) (tVar 17))) [17]) (sP sc stv tr (.int (n : Int)) (.ref t) (.ref u) (.int (x : Int)) (.ref sv) (.ref w) (.ref sh) (.ref kn) top low isin fit (some (.bl f)) (some (.ref l)) v17 v18) H2 (intL (difs L)) := by
    have := el_lcR1 (σ := sP sc stv tr (.int (n : Int)) (.ref t) (.ref u) (.int (x : Int)) (.ref sv) (.ref w) (.ref sh) (.ref kn) top low isin fit (some (.bl f)) (some (.ref l)) v17 v18) (H := H2) (ta := tCons (tOp rSubI (tVar 3) (tC (.int 1))) tNil) (te := tOp rSubI (tOp (rIxL K) (tVar 16) (tOp rAddI (tVar 17) (tC (.int 1)))) (tOp (rIxL K) (tVar 16) (tVar 17))) (t := tYes) (j := 17) (vs := [17]) (n := ((n - 1 : Nat) : Int)) (fun _ => true) (fun i => V.int (L.getD (i + 1) 0 - L.getD i 0))
      (ea_cons (ev_is (ev_op (ev_var rfl) ev_c rv_I0) (by congr 1; omega)) ea_nil) (by omega) (fun _ => rfl) (fun i H3 e3 hi => et_yes) (fun i H3 e3 hi _ => by
        have hi2 : i < n - 1 := by omega
        have i1 : (i : Int) + 1 = ((i + 1 : Nat) : Int) := by omega
        refine ev_op (ev_op (ev_var rfl) (ev_is (ev_op (ev_var rfl) ev_c rv_I0) (show V.int ((i : Int) + 1) = V.int ((i + 1 : Nat) : Int) by rw [i1])) (rv_ixL (sq_of (e3 _ _ h2)) (atI_nat (getD_at (by omega))))) (ev_op (ev_var rfl) (ev_var rfl) (rv_ixL (sq_of (e3 _ _ h2)) (atI_nat (getD_at (by omega))))) rv_I0)
    rw [given_all, Int.toNat_natCast, difs_at L (n - 1) (by omega)] at this
    exact this
  show tIfS _ _ _ D (sP sc stv tr (.int (n : Int)) (.ref t) (.ref u) (.int (x : Int)) (.ref sv) (.ref w) (.ref sh) (.ref kn) top low isin fit (some (.bl f)) (some (.ref l)) v17 v18) H2
  have Ts2 := Ts.ex e2
  have fin : fitsB E' (pre (difs L)) = true := by
    refine (fitsB_iff Ts2 (difs L)).mpr ?_
    have h1 := fits_shift (c := L.getD 0 0) (fits (lev xs) (hf hb.1))
    intro a b y ha hb' hy
    have h2 := h1 a b y ha hb' hy
    have en : n - 1 + 1 = n := by omega
    rw [en] at ha hb'
    obtain ⟨z, r, eL⟩ : ∃ z r, L = z :: r := by
      cases L with
      | nil =>
        have : 0 = n := lL
        omega
      | cons z r => exact ⟨z, r, rfl⟩
    have lr : r.length + 1 = n := by rw [eL] at lL; exact lL
    have la := lev_difs z r a (by omega)
    have lb := lev_difs z r b (by omega)
    rw [← eL] at la lb
    have l0 : L.getD 0 0 = z := by rw [eL]; rfl
    have ga := atL a ha
    have gb := atL b hb'
    show lev (difs L) a - lev (difs L) b ≤ y
    have h2 : lev xs ((lfs n x).getD a 0) - L.getD 0 0 - (lev xs ((lfs n x).getD b 0) - L.getD 0 0) ≤ y := h2
    rw [la, lb]
    omega
  have lD : (difs L).length = n - 1 := by
    cases L with
    | nil =>
      have : 0 = n := lL
      omega
    | cons z r =>
      rw [difs_len]
      have : r.length + 1 = n := lL
      omega
  have call : Ev (tMeth C "fits" (sp_Table_fits C) [] E0 (tVar 7) (tCons (tCB (cTupleOf K) (tCons (tLc (iRng1 (tCons (tOp rSubI (tVar 3) (tC (.int 1))) tNil)) (gName 17) tYes (tOp rSubI (tOp (rIxL K) (tVar 16) (tOp rAddI (tVar 17) (tC (.int 1)))) (tOp (rIxL K) (tVar 16) (tVar 17))) [17]) tNil)) tNil)) (sP sc stv tr (.int (n : Int)) (.ref t) (.ref u) (.int (x : Int)) (.ref sv) (.ref w) (.ref sh) (.ref kn) top low isin fit (some (.bl f)) (some (.ref l)) v17 v18) H2 (.bl true) := by
    intro H3 e3 R r
    refine ⟨.ref sv, rfl, ?_⟩
    have T3 := Ts2.ex e3
    obtain ⟨dx, d, t1, _⟩ := id T3
    refine ⟨sv, dx, _, rfl, t1, ?_, eu_tupleOfN inner H3 e3 _ fun p H4 hp e4 h4 => ?_⟩
    · rw [List.lookup_cons, List.lookup_cons]
      have h1 : (("fits" : Str) == ("_size" : Str)) = false := by decide +kernel
      have h2 : (("fits" : Str) == ("_bounds" : Str)) = false := by decide +kernel
      rw [h1, h2]
      rfl
    · refine ⟨isV (.bl (fitsB E' (pre (difs L)))), ⟨sv, p, n - 1, E', difs L, rfl, T3.ex e4, h4, lD, rfl⟩, fun v H5 e5 hv => ?_⟩
      rw [show v = .bl (fitsB E' (pre (difs L))) from hv, fin]
      exact r H5 (e4.trans e5)
  exact s_when (b := !true) (et_not (et_B call)) (fun z => nomatch z) fun _ H3 e3 => k _ _ _ H3 (e12.trans e3)
end
end Bw
/-! The law: one water, in full; all of them. -/
namespace Bw
open PySem PySem.Spec PyProof.Rows L2 Evl
section
variable {K : PySem.W.Frag} {C : Addr} {σ : L2.St} {H : Hp} {ta tb tc te : TE} {D : Ends} {t n : Nat} {E : List Edge}
open Classical in
theorem pure_pool (F : TabF K C) {sc stv tr : V} {fit : Int} {v15 v16 v17 v18 : Option V} {x u sh kn w : Nat} {E2 Es Ek : List Edge} {slim top low : V} {xs : List Int} (W : Turn1 C H n x t u sh kn E E2 Es Ek slim top low) (n1 : 1 ≤ n) (n2 : n ≤ 3) (hw : H w = some (.tup (intL xs))) (hl : xs.length = n)
    (k : ∀ v15 v16 v17 v18 H2, Ex H H2 → D.nx (sP sc stv tr (.int (n : Int)) (.ref t) (.ref u) (.int (x : Int)) slim (.ref w) (.ref sh) (.ref kn) top low (.bl (decide (∀ s, FitE n E s → FitE n E2 s))) (.int (fit + (if decide (FitE n E (lev xs)) = true then 1 else 0))) v15 v16 v17 v18) H2) :
    t_lawP_0 K C D (sP sc stv tr (.int (n : Int)) (.ref t) (.ref u) (.int (x : Int)) slim (.ref w) (.ref sh) (.ref kn) top low (.bl (decide (∀ s, FitE n E s → FitE n E2 s))) (.int fit) v15 v16 v17 v18) H := by
  obtain ⟨isin, eI⟩ : ∃ b, b = decide (∀ s, FitE n E s → FitE n E2 s) := ⟨_, rfl⟩
  obtain ⟨f, ef⟩ : ∃ b, b = decide (FitE n E (lev xs)) := ⟨_, rfl⟩
  rw [← eI] at k ⊢
  rw [← ef] at k
  have fT : fitsB E (pre xs) = f := by rw [ef]; exact fitsB_eq W.T xs
  have fK : fitsB Ek (pre xs) = f := by rw [ef, fitsB_eq W.Kn xs]; exact decide_eq_decide.mpr (W.fk _)
  have fS : fitsB Es (pre xs) = (f && fitsB E2 (pre xs)) := by
    rw [ef, fitsB_eq W.S xs, fitsB_eq W.U xs, ← Bool.decide_and]
    exact decide_eq_decide.mpr (W.fs _)
  refine q_asg (v := .bl f) (ev_is (ev_fits F (ev_var rfl) (ev_var rfl) W.T hw hl) (by rw [fT])) fun H1 e1 => ?_
  refine q_asg (v := .int (fit + (if f = true then 1 else 0))) (ev_op (ev_var rfl) (ev_intB (ev_var rfl)) rv_I0) fun H2 e2 => ?_
  have e12 := e1.trans e2
  have W2 := W.go e12
  have hw2 := e12 _ _ hw
  show t_lawP_2 K C D (sP sc stv tr (.int (n : Int)) (.ref t) (.ref u) (.int (x : Int)) slim (.ref w) (.ref sh) (.ref kn) top low (.bl isin) (.int (fit + (if f = true then 1 else 0))) (some (.bl f)) v16 v17 v18) H2
  have eb : ∀ b : Bool, (!decide (V.bl b = V.bl b)) = false := fun b => by rw [decide_eq_true rfl]; rfl
  refine q_when (b := false || false) (et_or (a := false) (et_is (et_test (ev_op (ev_is (ev_fits F (ev_var rfl) (ev_var rfl) W2.Kn hw2 hl) (by rw [fK])) (ev_var rfl) (rv_ne rfl))) (eb f)) fun _ => et_is (et_test (ev_op (ev_is (ev_fits F (ev_var rfl) (ev_var rfl) W2.S hw2 hl) (by rw [fS])) (ev_andV (ev_var rfl) fun _ => ev_fits F (ev_var rfl) (ev_var rfl) W2.U hw2 hl) (rv_ne rfl))) (eb _)) (fun z => nomatch z) (fun _ H3 e3 => ?_)
  have W3 := W2.go e3
  have hw3 := e3 _ _ hw2
  have e13 := e12.trans e3
  have pz : lev xs 0 = 0 := pre_zero xs
  refine q_when (b := f && false) (et_and (et_B (ev_var rfl)) fun hf => ?_) (fun z => ?_) (fun _ H4 e4 => ?_)
  · have hfit : FitE n E (lev xs) := of_decide_eq_true (by rw [← ef]; exact hf)
    refine et_is (et_or (a := isin && !(fitsB E2 (pre xs))) (b := false) (et_and (et_B (ev_var rfl)) fun _ => et_not (et_B (ev_fits F (ev_var rfl) (ev_var rfl) W3.U hw3 hl))) fun _ => et_B (ev_callV (ea_cons (ev_var rfl) (ea_cons (ev_var rfl) (ea_cons (ev_var rfl) ea_nil))) fun H4 e4 => ⟨w, top, low, xs, n, rfl, e4 _ _ hw3, hl, n1, by omega, ?_, ?_, rfl⟩)) ?_
    · rcases (W3.go e4).top with h | ⟨w', ys, h1, h2, h3, h4⟩
      · exact Or.inl h
      · refine Or.inr ⟨w', ys, h1, h2, h3, fun a ha => ?_⟩
        have := h4 _ hfit a ha
        show lev xs a ≤ _
        omega
    · rcases (W3.go e4).low with h | ⟨w', ys, h1, h2, h3, h4⟩
      · exact Or.inl h
      · refine Or.inr ⟨w', ys, h1, h2, h3, fun a ha => ?_⟩
        have := h4 _ hfit a ha
        show _ ≤ lev xs a
        omega
    · rw [Bool.or_false]
      cases ei : isin with
      | false => rfl
      | true =>
        have hall : ∀ s, FitE n E s → FitE n E2 s := of_decide_eq_true (by rw [← eI]; exact ei)
        have := (fitsB_iff W.U xs).mpr (hall _ hfit)
        rw [this]
        rfl
  · rw [Bool.and_false] at z
    exact nomatch z
  · exact pure_pool4 F (W3.go e4) n1 n2 (e4 _ _ hw3) hl (fun h => of_decide_eq_true (by rw [← ef]; exact h)) fun v16 v17 v18 H5 e5 => k _ v16 v17 v18 H5 (e13.trans (e4.trans e5))
end
end Bw
/-! The law: a turn behind its draws. -/
namespace Bw
open PySem PySem.Spec PyProof.Rows L2 Evl
section
variable {K : PySem.W.Frag} {C : Addr} {σ : L2.St} {H : Hp} {ta tb tc te : TE} {D : Ends} {t n : Nat} {E : List Edge}
abbrev sQ (sc stv tr nv left right x slim : V) (v8 : Option V) (shared known top low isin fit : V) (v15 v16 v17 v18 : Option V) : L2.St := [some sc, some stv, some tr, some nv, some left, some right, some x, some slim, v8, some shared, some known, some top, some low, some isin, some fit, v15, v16, v17, v18]
theorem et_notN_and {P : Post} {u : TT} (h : EvP te σ H P) (hu : EvT u σ H false) : EvT (tAnd (tB (tNotN te)) u) σ H false := fun H1 e Q q => h H1 e _ fun v H2 e2 _ => by
  refine ⟨_, rfl, ?_⟩
  cases (!decide (v = V.non)) with
  | true => exact iteT (hu H2 (e.trans e2) _ fun H3 e3 => q H3 (e2.trans e3))
  | false => exact iteF (q H2 e2)
open Classical in
theorem pure_T9 {sc stv tr : V} {fit : Int} {v8 v15 v16 v17 v18 : Option V} {x u sh kn : Nat} {E2 Es Ek : List Edge} {slim top low : V} (W : Turn1 C H n x t u sh kn E E2 Es Ek slim top low) (hf : 0 < fit → ∃ s, FitE n E s)
    (k : ∀ H2, Ex H H2 → D.nx (sQ sc stv tr (.int (n : Int)) (.ref t) (.ref u) (.int (x : Int)) slim v8 (.ref sh) (.ref kn) top low (.bl (decide (∀ s, FitE n E s → FitE n E2 s))) (.int fit) v15 v16 v17 v18) H2) :
    t_lawT_9 K C D (sQ sc stv tr (.int (n : Int)) (.ref t) (.ref u) (.int (x : Int)) slim v8 (.ref sh) (.ref kn) top low (.bl (decide (∀ s, FitE n E s → FitE n E2 s))) (.int fit) v15 v16 v17 v18) H := by
  have rg : EvP (tCall (sp_ring C) [] E0 (tCons (tVar 4) tNil)) (sQ sc stv tr (.int (n : Int)) (.ref t) (.ref u) (.int (x : Int)) slim v8 (.ref sh) (.ref kn) top low (.bl (decide (∀ s, FitE n E s → FitE n E2 s))) (.int fit) v15 v16 v17 v18) H fun v H2 => v = .non ∨ ((∀ s, ¬ FitE n E s) ∧ ∃ q xs, v = .ref q ∧ H2 q = some (.lst xs)) :=
    evp_call (ea_cons (ev_var rfl) ea_nil) fun H1 e1 => ⟨t, n, E, rfl, W.T.ex e1, rfl⟩
  refine q_when (b := false || false) (et_or (a := false) ?_ fun _ => ?_) (fun z => nomatch z) (fun _ H1 e1 => ?_)
  · by_cases c : 0 < fit
    · obtain ⟨s, hs⟩ := hf c
      exact et_is (et_and (a := false) (b := false) (et_B (ev_notN (v := .non) (ev_ofP rg fun v H2 pv => pv.resolve_right fun z => z.1 s hs))) fun z => nomatch z) rfl
    · exact et_notN_and rg (et_is (et_test (ev_op (ev_var rfl) ev_c rv_I0)) (decide_eq_false c))
  · by_cases c : ∀ s, FitE n E s → FitE n E2 s
    · refine et_is (et_and (a := !true) (b := false) (et_not (et_B (ev_is (ev_var rfl) (by rw [decide_eq_true c])))) fun z => nomatch z) rfl
    · exact et_is (et_and (a := !false) (b := !true) (et_not (et_B (ev_is (ev_var rfl) (by rw [decide_eq_false c])))) fun _ => et_not (et_B (ev_callV (ea_cons (ev_var rfl) (ea_cons (ev_var rfl) (ea_cons (ev_var rfl) ea_nil))) fun H1 e1 => ⟨t, u, n, E, E2, rfl, W.T.ex e1, W.U.ex e1, c, rfl⟩))) rfl
  · have W1 := W.go e1
    refine s_when (b := !true || (!true || !true)) (et_or (et_not (et_B (ev_callV (ea_cons (ev_var rfl) (ea_cons (ev_var rfl) ea_nil)) fun H2 e2 => ⟨kn, t, n, Ek, E, rfl, W1.Kn.ex e2, W1.T.ex e2, ?_⟩))) fun _ => et_or (et_not (et_B (ev_callV (ea_cons (ev_var rfl) (ea_cons (ev_var rfl) ea_nil)) fun H2 e2 => ⟨sh, t, n, Es, E, rfl, W1.S.ex e2, W1.T.ex e2, ?_⟩))) fun _ => et_not (et_B (ev_callV (ea_cons (ev_var rfl) (ea_cons (ev_var rfl) ea_nil)) fun H2 e2 => ⟨sh, u, n, Es, E2, rfl, W1.S.ex e2, W1.U.ex e2, ?_⟩))) (fun z => nomatch z) fun _ H2 e2 => k H2 (e1.trans e2)
    · rw [decide_eq_true W.fk]
    · rw [decide_eq_true fun s f => ((W.fs s).mp f).1]
    · rw [decide_eq_true fun s f => ((W.fs s).mp f).2]
theorem q_forLP {P : V → Hp → Prop} {tl : TE} {g : TG} {tu tz : TS} (h : EvP tl σ H P)
    (k : ∀ v H1, Ex H H1 → P v H1 → ∃ a xs, v = .ref a ∧ SqL K H1 a xs ∧ ∃ Pv : Nat → L2.St → Hp → Prop, Pv 0 σ H1 ∧ (∀ i σ' H', i ≤ xs.length → Pv i σ' H' → SqL K H' a xs) ∧
      (∀ i x σ' H', xs[i]? = some x → Pv i σ' H' → g x σ' H' fun σ2 H2 => tu { D with nx := Pv (i + 1), ct := Pv (i + 1), bk := tz D } σ2 H2) ∧ ∀ σ' H', Pv xs.length σ' H' → tz D σ' H') : tSeq (tFor (iList K tl) g tu) tz D σ H := by
  refine h H (Ex.refl H) _ fun v H1 e1 pv => ?_
  obtain ⟨a, xs, hv, hx, Pv, h0, hl, hs, hd⟩ := k v H1 e1 pv
  exact ⟨a, hv, ⟨xs, hx⟩, for_list (D := { D with nx := tz D }) Pv h0 hl hs hd⟩
open Classical in
theorem pure_T8 (F : TabF K C) {sc stv tr : V} {v8 v15 v16 v17 v18 : Option V} {x u sh kn : Nat} {E2 Es Ek : List Edge} {slim top low : V} (W : Turn1 C H n x t u sh kn E E2 Es Ek slim top low) (n1 : 1 ≤ n) (n2 : n ≤ 3)
    (k : ∀ fit v8 v15 v16 v17 v18 H2, Ex H H2 → D.nx (sQ sc stv tr (.int (n : Int)) (.ref t) (.ref u) (.int (x : Int)) slim v8 (.ref sh) (.ref kn) top low (.bl (decide (∀ s, FitE n E s → FitE n E2 s))) (.int fit) v15 v16 v17 v18) H2) :
    t_lawT_8 K C D (sQ sc stv tr (.int (n : Int)) (.ref t) (.ref u) (.int (x : Int)) slim v8 (.ref sh) (.ref kn) top low (.bl (decide (∀ s, FitE n E s → FitE n E2 s))) (.int 0) v15 v16 v17 v18) H := by
  have ws : EvP (tCall (sp__law_waters C) [] E0 (tCons (tVar 3) tNil)) (sQ sc stv tr (.int (n : Int)) (.ref t) (.ref u) (.int (x : Int)) slim v8 (.ref sh) (.ref kn) top low (.bl (decide (∀ s, FitE n E s → FitE n E2 s))) (.int 0) v15 v16 v17 v18) H fun v H2 => ∃ p cs, v = .ref p ∧ WtAt H2 p n cs ∧ cs.length ≤ 1000 := evp_call (ea_cons (ev_var rfl) ea_nil) fun H1 e1 => ⟨n, rfl, n2, rfl⟩
  refine q_forLP ws fun v H1 e1 ⟨p, cs, hv, wt, lc⟩ => ⟨p, cs.map V.ref, hv, sq_of wt.1, (fun j σ' H' => ∃ fit v8 v15 v16 v17 v18, σ' = sQ sc stv tr (.int (n : Int)) (.ref t) (.ref u) (.int (x : Int)) slim v8 (.ref sh) (.ref kn) top low (.bl (decide (∀ s, FitE n E s → FitE n E2 s))) (.int fit) v15 v16 v17 v18 ∧ Ex H1 H' ∧ (0 < fit → ∃ s, FitE n E s)),
    ⟨0, _, _, _, _, _, rfl, Ex.refl _, fun z => absurd z (by decide)⟩, fun j σ' H' _ ⟨_, _, _, _, _, _, _, e, _⟩ => sq_of (e _ _ wt.1), fun j y σ' H' hy ⟨fit, v8, v15, v16, v17, v18, es, e, hf⟩ => ?_, fun σ' H' ⟨fit, v8, v15, v16, v17, v18, es, e, hf⟩ => ?_⟩
  · subst es
    rw [List.getElem?_map] at hy
    obtain ⟨c, hc, rfl⟩ := Option.map_eq_some_iff.mp hy
    obtain ⟨xs, hx, lx⟩ := wt.2 c (List.mem_of_getElem? hc)
    refine pure_pool F (W.go (e1.trans e)) n1 n2 (e _ _ hx) lx fun v15 v16 v17 v18 H2 e2 => ⟨_, _, _, _, _, _, rfl, e.trans e2, fun z => ?_⟩
    by_cases c : FitE n E (lev xs)
    · exact ⟨_, c⟩
    · rw [decide_eq_false c] at z
      refine hf ?_
      have z : 0 < fit + 0 := z
      omega
  · subst es
    exact pure_T9 (W.go (e1.trans e)) hf fun H2 e2 => k fit v8 v15 v16 v17 v18 H2 (e1.trans (e.trans e2))
end
end Bw
/-! The law: a turn from its isin, from its slim. -/
namespace Bw
open PySem PySem.Spec PyProof.Rows L2 Evl
section
variable {K : PySem.W.Frag} {C : Addr} {σ : L2.St} {H : Hp} {ta tb tc te : TE} {D : Ends} {t n : Nat} {E : List Edge}
abbrev sR (sc stv tr nv left right x : V) (v7 v8 : Option V) (shared known top low : V) (v13 v14 v15 v16 v17 v18 : Option V) : L2.St := [some sc, some stv, some tr, some nv, some left, some right, some x, v7, v8, some shared, some known, some top, some low, v13, v14, v15, v16, v17, v18]
theorem evp_callVU {Pre : List V → Hp → Post → Prop} {X : XK} {v : V} {xs : List V} {P : Post} (h : Ev ta σ H v) (h2 : EvU te σ H xs) (hp : ∀ p H1, Ex H H1 → H1 p = some (.tup xs) → Pre [v, .ref p] H1 P) :
    EvP (tCall (spOf Pre) [] X (tCons ta (tCons te tNil))) σ H P := fun H1 e Q q => h H1 e _ fun H2 e2 => h2 H2 (e.trans e2) _ fun p H3 _ e3 h3 =>
  ⟨P, hp p H3 ((e.trans e2).trans e3) h3, fun v H4 e4 pv => q v H4 (e2.trans (e3.trans e4)) pv⟩
theorem evp_if {t : TT} {b : Bool} {P : Post} (h : EvT t σ H b) (h1 : b = true → EvP ta σ H P) (h2 : b = false → EvP tb σ H P) : EvP (tIf t ta tb) σ H P := fun H1 e Q q => h H1 e _ fun H2 e2 => by
  cases b with
  | true => exact iteT (h1 rfl H2 (e.trans e2) Q fun v H3 e3 => q v H3 (e2.trans e3))
  | false => exact iteF (h2 rfl H2 (e.trans e2) Q fun v H3 e3 => q v H3 (e2.trans e3))
open Classical in
theorem pure_T7 (F : TabF K C) {sc stv tr : V} {v8 v13 v14 v15 v16 v17 v18 : Option V} {x u sh kn : Nat} {E2 Es Ek : List Edge} {slim top low : V} (W : Turn1 C H n x t u sh kn E E2 Es Ek slim top low) (n1 : 1 ≤ n) (n2 : n ≤ 3)
    (k : ∀ isin fit v8 v15 v16 v17 v18 H2, Ex H H2 → D.nx (sQ sc stv tr (.int (n : Int)) (.ref t) (.ref u) (.int (x : Int)) slim v8 (.ref sh) (.ref kn) top low isin fit v15 v16 v17 v18) H2) :
    t_lawT_7 K C D (sR sc stv tr (.int (n : Int)) (.ref t) (.ref u) (.int (x : Int)) (some slim) v8 (.ref sh) (.ref kn) top low v13 v14 v15 v16 v17 v18) H := by
  have a : EvA (tCons (tCall (sp_is_within C) [] E0 (tCons (tVar 4) (tCons (tVar 5) tNil))) (tCons (tC (.int 0)) tNil)) (sR sc stv tr (.int (n : Int)) (.ref t) (.ref u) (.int (x : Int)) (some slim) v8 (.ref sh) (.ref kn) top low v13 v14 v15 v16 v17 v18) H [.bl (decide (∀ s, FitE n E s → FitE n E2 s)), .int 0] :=
    ea_cons (ev_callV (ea_cons (ev_var rfl) (ea_cons (ev_var rfl) ea_nil)) fun H1 e1 => ⟨t, u, n, E, E2, rfl, W.T.ex e1, W.U.ex e1, rfl⟩) (ea_cons ev_c ea_nil)
  unfold t_lawT_7 tSeq tPar
  refine a H (Ex.refl _) _ fun H1 e1 => ⟨_, _, rfl, ?_⟩
  exact pure_T8 F (W.go e1) n1 n2 fun fit v8 v15 v16 v17 v18 H2 e2 => k _ _ _ _ _ _ _ H2 (e1.trans e2)
theorem pure_T6 (F : TabF K C) {sc stv tr : V} {v7 v8 v13 v14 v15 v16 v17 v18 : Option V} {x u sh kn : Nat} {E2 Es Ek : List Edge} {top low : V} (T : TabAt C H t n E) (x1 : 1 ≤ x) (x2 : x ≤ n) (n1 : 1 ≤ n) (n2 : n ≤ 3)
    (W : ∀ slim H2, Ex H H2 → (1 < n → ∃ v E', slim = .ref v ∧ TabAt C H2 v (n - 1) E' ∧ ∀ s, FitE n E s → FitE (n - 1) E' fun i => s ((lfs n x).getD i 0)) → Turn1 C H2 n x t u sh kn E E2 Es Ek slim top low)
    (k : ∀ slim isin fit v8 v15 v16 v17 v18 H2, Ex H H2 → D.nx (sQ sc stv tr (.int (n : Int)) (.ref t) (.ref u) (.int (x : Int)) slim v8 (.ref sh) (.ref kn) top low isin fit v15 v16 v17 v18) H2) :
    t_lawT_6 K C D (sR sc stv tr (.int (n : Int)) (.ref t) (.ref u) (.int (x : Int)) v7 v8 (.ref sh) (.ref kn) top low v13 v14 v15 v16 v17 v18) H := by
  have hp : EvP (tIf (tTest (tOp rGtI (tVar 3) (tC (.int 1)))) (tCall (sp_hidden C) [] E0 (tCons (tVar 4) (tCons (tTup (tCons (tVar 6) tNil)) tNil))) (tVar 4)) (sR sc stv tr (.int (n : Int)) (.ref t) (.ref u) (.int (x : Int)) v7 v8 (.ref sh) (.ref kn) top low v13 v14 v15 v16 v17 v18) H fun slim H2 => 1 < n → ∃ v E', slim = .ref v ∧ TabAt C H2 v (n - 1) E' ∧ ∀ s, FitE n E s → FitE (n - 1) E' fun i => s ((lfs n x).getD i 0) := by
    refine evp_if (et_test (ev_op (ev_var rfl) ev_c rv_I0)) (fun c => ?_) fun c => ?_
    · have c : (1 : Int) < (n : Int) := of_decide_eq_true c
      refine evp_callVU (ev_var rfl) (eu_tup (ea_cons (ev_var rfl) ea_nil) (by simp)) fun p H4 e4 h4 => ⟨t, p, x, n, E, rfl, T.ex e4, h4, x1, x2, by omega, ?_⟩
      funext v H2
      exact propext ⟨fun z => z (by omega), fun z _ => z⟩
    · have c : ¬ (1 : Int) < (n : Int) := of_decide_eq_false c
      exact fun H1 e Q q => (ev_var rfl : Ev (tVar 4) _ H (.ref t)) H1 e _ fun H2 e2 => q _ H2 e2 fun z => absurd z (by omega)
  unfold t_lawT_6 tSeq tAsg
  refine hp H (Ex.refl _) _ fun slim H1 e1 w => ?_
  exact pure_T7 F (W slim H1 e1 w) n1 n2 fun isin fit v8 v15 v16 v17 v18 H2 e2 => k slim isin fit v8 v15 v16 v17 v18 H2 (e1.trans e2)
end
end Bw
/-! The law: a turn from its point on. -/
namespace Bw
open PySem PySem.Spec PyProof.Rows L2 Evl
/-- what a turn knows of its tables ahead of its point -/
structure Turn0 (C : Addr) (H : Hp) (n t u sh kn : Nat) (E E2 Es Ek : List Edge) (top low : V) : Prop where
  T : TabAt C H t n E
  U : TabAt C H u n E2
  S : TabAt C H sh n Es
  Kn : TabAt C H kn n Ek
  fs : ∀ s, FitE n Es s ↔ (FitE n E s ∧ FitE n E2 s)
  fk : ∀ s, FitE n Ek s ↔ FitE n E s
  top : top = .non ∨ ∃ w xs, top = .ref w ∧ H w = some (.tup (intL xs)) ∧ xs.length = n ∧ ∀ s, FitE n E s → ∀ a, a < n + 1 → s a - s 0 ≤ (pre xs).getD a 0
  low : low = .non ∨ ∃ w xs, low = .ref w ∧ H w = some (.tup (intL xs)) ∧ xs.length = n ∧ ∀ s, FitE n E s → ∀ a, a < n + 1 → (pre xs).getD a 0 ≤ s a - s 0
section
variable {K : PySem.W.Frag} {C : Addr} {σ : L2.St} {H : Hp} {ta tb tc te : TE} {D : Ends} {t n : Nat} {E : List Edge}
theorem Turn0.go {H' : Hp} {u sh kn : Nat} {E2 Es Ek : List Edge} {top low : V} (h : Turn0 C H n t u sh kn E E2 Es Ek top low) (e : Ex H H') : Turn0 C H' n t u sh kn E E2 Es Ek top low := by
  obtain ⟨T, U, S, Kn, fs, fk, tp, lw⟩ := h
  refine ⟨T.ex e, U.ex e, S.ex e, Kn.ex e, fs, fk, ?_, ?_⟩
  · rcases tp with h | ⟨w, xs, h1, h2, r⟩
    · exact Or.inl h
    · exact Or.inr ⟨w, xs, h1, e _ _ h2, r⟩
  · rcases lw with h | ⟨w, xs, h1, h2, r⟩
    · exact Or.inl h
    · exact Or.inr ⟨w, xs, h1, e _ _ h2, r⟩
theorem Turn0.but {H' : Hp} {st lg : Addr} {cs : Addr} {d : Nat} {u sh kn : Nat} {E2 Es Ek : List Edge} {top low : V} (h : Turn0 C H n t u sh kn E E2 Es Ek top low) (Sr : Src H st lg cs d) (b : But H H' st lg) : Turn0 C H' n t u sh kn E E2 Es Ek top low := by
  obtain ⟨T, U, S, Kn, fs, fk, tp, lw⟩ := h
  refine ⟨T.but Sr b, U.but Sr b, S.but Sr b, Kn.but Sr b, fs, fk, ?_, ?_⟩
  · rcases tp with h | ⟨w, xs, h1, h2, r⟩
    · exact Or.inl h
    · exact Or.inr ⟨w, xs, h1, tup_but h2 Sr b, r⟩
  · rcases lw with h | ⟨w, xs, h1, h2, r⟩
    · exact Or.inl h
    · exact Or.inr ⟨w, xs, h1, tup_but h2 Sr b, r⟩
/-- the slots behind a turn -/
def Rest (sc stv tr : V) (σ : L2.St) : Prop := ∃ v3 v4 v5 v6 v7 v8 v9 v10 v11 v12 v13 v14 v15 v16 v17 v18 : Option V, σ = [some sc, some stv, some tr, v3, v4, v5, v6, v7, v8, v9, v10, v11, v12, v13, v14, v15, v16, v17, v18]
theorem pure_T5 (F : TabF K C) {sc tr : V} {st lg : Addr} {cs : Addr} {d : Nat} {v6 v7 v8 v13 v14 v15 v16 v17 v18 : Option V} {u sh kn : Nat} {E2 Es Ek : List Edge} {top low : V} (W : Turn0 C H n t u sh kn E E2 Es Ek top low) (n1 : 1 ≤ n) (n2 : n ≤ 3)
    (Sr : Src H st lg cs d) (hd : d < 2 ^ 40) (k : ∀ σ' H2, Rest sc (.ref st) tr σ' → Src H2 st lg cs (d + 1) → D.nx σ' H2) :
    t_lawT_5 K C D [some sc, some (.ref st), some tr, some (.int (n : Int)), some (.ref t), some (.ref u), v6, v7, v8, some (.ref sh), some (.ref kn), some top, some low, v13, v14, v15, v16, v17, v18] H := by
  unfold t_lawT_5 tSeq tAsg
  refine (ev_c : Ev (tC (.int 1)) [some sc, some (.ref st), some tr, some (.int (n : Int)), some (.ref t), some (.ref u), v6, v7, v8, some (.ref sh), some (.ref kn), some top, some low, v13, v14, v15, v16, v17, v18] H (.int 1)) H (Ex.refl _) _ fun H1 e1 => ?_
  refine b_draw (ea_cons (ev_var rfl) (ea_cons (ev_var rfl) ea_nil)) n1 (by omega) hd (Sr.lift e1) fun r H2 hr S2 b2 => ?_
  have W2 := (W.go e1).but (Sr.lift e1) b2
  refine (rv_I0 : RV rAddI (.int 1) (.int (r : Int)) H2 _) H2 (Ex.refl _) _ fun H3 e3 => ?_
  have W3 := W2.go e3
  have ex : (1 : Int) + (r : Int) = ((r + 1 : Nat) : Int) := by omega
  rw [ex]
  refine pure_T6 (x := r + 1) (E2 := E2) (Es := Es) (Ek := Ek) F W3.T (by omega) (by omega) n1 n2 (fun slim H4 e4 h4 => ?_) fun slim isin fit v8 v15 v16 v17 v18 H4 e4 => k _ H4 ⟨_, _, _, _, _, _, _, _, _, _, _, _, _, _, _, _, rfl⟩ (S2.lift (e3.trans e4))
  obtain ⟨T, U, S, Kn, fs, fk, tp, lw⟩ := W3.go e4
  exact ⟨T, U, S, Kn, fs, fk, by omega, by omega, tp, lw, h4⟩
end
end Bw
/-! The law: a turn from its draws on. -/
namespace Bw
open PySem PySem.Spec PyProof.Rows L2 Evl
section
variable {K : PySem.W.Frag} {C : Addr} {σ : L2.St} {H : Hp} {ta tb tc te : TE} {D : Ends} {t n : Nat} {E : List Edge} {st lg cs : Addr} {d : Nat}
theorem src_but {H' : Hp} {o : HO} {b : Addr} (B : But H H' st lg) (hb : H b = some o) (h1 : b ≠ st) (h2 : b ≠ lg) : H' b = some o := B _ _ hb h1 h2
/-- Table(many, caps(state, many, pick(state, several), 4)) -/
theorem make_cap {a b : Nat} {tl tm : TE} {Q : VK} (h1 : ∀ H, Ev ta σ H (.ref st)) (h3 : ∀ H, Ev tm σ H (.int (n : Int))) (hl : ∀ H, EvL tl σ H [.int (a : Int), .int (b : Int)]) (a1 : 0 < a) (a2 : a ≤ 1000) (b1 : 0 < b) (b2 : b ≤ 1000) (n1 : 1 ≤ n) (n2 : n ≤ 3) (hd : d < 2 ^ 29) (S : Src H st lg cs d)
    (q : ∀ x H2 E', Src H2 st lg cs (d + 101) → But H H2 st lg → TabAt C H2 x n E' → Q (.ref x) H2) :
    tMake C (sp_Table___init__ C) [] E0 (tCons tm (tCons (tCall (sp__law_caps C) [] E0 (tCons ta (tCons tm (tCons (tCall (spPick K) [] E0 (tCons ta (tCons tl tNil))) (tCons (tC (.int 4)) tNil))))) tNil)) σ H Q := by
  refine h3 H H (Ex.refl _) _ fun H1 e1 => ?_
  refine h1 H1 H1 (Ex.refl _) _ fun H2 e2 => ?_
  refine h3 H2 H2 (Ex.refl _) _ fun H3 e3 => ?_
  have e13 := e1.trans (e2.trans e3)
  refine b_pick (h1 H3) (hl H3) (Nat.zero_lt_succ _) (show 2 ≤ 1000 by decide) (Nat.lt_trans hd (by decide)) (S.lift e13) fun x H4 hx S4 B4 => ?_
  have hx2 : ∃ k : Nat, x = .int (k : Int) ∧ 0 < k ∧ k ≤ 1000 := by
    rcases List.mem_cons.mp hx with h | h
    · exact ⟨a, h, a1, a2⟩
    · rcases List.mem_cons.mp h with h | h
      · exact ⟨b, h, b1, b2⟩
      · exact nomatch h
  obtain ⟨k, rfl, k1, k2⟩ := hx2
  refine (ev_c : Ev (tC (.int 4)) σ H4 (.int 4)) H4 (Ex.refl _) _ fun H4' e4' => ?_
  refine ⟨st, lg, cs, n, k, d + 1, rfl, n1, n2, k1, k2, by omega, S4.lift e4', fun dd H5 E' S5 B5 hn0 nst nlg hdd g nd len => ?_⟩
  have B15 : But H H5 st lg := (((But.ex e13).trans B4).trans (But.ex e4')).trans B5
  intro z dx hz hdx ne
  have nbx : dd ≠ z := ne_of_none hdd hz
  have nbd : dd ≠ dx := ne_of_none hdd hdx
  refine ⟨z, dx, dd, n, E', rfl, upd_same, by rw [upd_ne nbx, upd_ne nbd]; exact hdd, g, nd, n1, by omega, len, fun H6 E'' kk T p => ⟨rfl, ?_⟩⟩
  have e6 : Ex H5 H6 := fun c o hc => by
    have c1 : c ≠ z := ne_of_none hc hz
    have c2 : c ≠ dx := ne_of_none hc hdx
    refine kk c o c1 ?_
    rw [upd_ne c1, upd_ne c2]
    exact hc
  exact q z H6 E'' (S5.lift e6) (B15.trans (But.ex e6)) T
theorem pure_T4 (F : TabF K C) {sc tr : V} {v6 v7 v8 v9 v10 v11 v12 v13 v14 v15 v16 v17 v18 : Option V} {u : Nat} {E2 : List Edge} (T : TabAt C H t n E) (U : TabAt C H u n E2) (n1 : 1 ≤ n) (n2 : n ≤ 3)
    (Sr : Src H st lg cs d) (hd : d < 2 ^ 40) (k : ∀ σ' H2, Rest sc (.ref st) tr σ' → Src H2 st lg cs (d + 1) → D.nx σ' H2) :
    t_lawT_4 K C D [some sc, some (.ref st), some tr, some (.int (n : Int)), some (.ref t), some (.ref u), v6, v7, v8, v9, v10, v11, v12, v13, v14, v15, v16, v17, v18] H := by
  unfold t_lawT_4 tSeq tAsg
  generalize hs : ([some sc, some (.ref st), some tr, some (.int (n : Int)), some (.ref t), some (.ref u), v6, v7, v8, v9, v10, v11, v12, v13, v14, v15, v16, v17, v18] : L2.St) = σ0
  have vT : ∀ H, Ev (tVar 4) σ0 H (.ref t) := fun H => by subst hs; exact ev_var rfl
  have vU : ∀ H, Ev (tVar 5) σ0 H (.ref u) := fun H => by subst hs; exact ev_var rfl
  refine (evp_call (Pre := fun vs H P => ∃ t u n E E2, vs = [.ref t, .ref u] ∧ TabAt C H t n E ∧ TabAt C H u n E2 ∧ P = fun v H2 => ∃ w E', v = .ref w ∧ TabAt C H2 w n E' ∧ ∀ s, FitE n E' s ↔ (FitE n E s ∧ FitE n E2 s)) (P := fun v H2 => ∃ w E', v = .ref w ∧ TabAt C H2 w n E' ∧ ∀ s, FitE n E' s ↔ (FitE n E s ∧ FitE n E2 s)) (ea_cons (vT H) (ea_cons (vU H) ea_nil)) fun H1 e1 => ⟨t, u, n, E, E2, rfl, T.ex e1, U.ex e1, rfl⟩) H (Ex.refl _) _ fun v9' H1 e1 p9 => ?_
  refine (evp_call (Pre := fun vs H P => ∃ t n E, vs = [.ref t] ∧ TabAt C H t n E ∧ P = fun v H2 => ∃ u E', v = .ref u ∧ TabAt C H2 u n E' ∧ (∀ s, FitE n E' s ↔ FitE n E s) ∧ ((∀ s, ¬ FitE n E s) ∨ Closed (n + 1) (matE E'))) (P := fun v H2 => ∃ u E', v = .ref u ∧ TabAt C H2 u n E' ∧ (∀ s, FitE n E' s ↔ FitE n E s) ∧ ((∀ s, ¬ FitE n E s) ∨ Closed (n + 1) (matE E'))) (ea_cons (vT H1) ea_nil) fun H2 e2 => ⟨t, n, E, rfl, T.ex (e1.trans e2), rfl⟩) H1 (Ex.refl _) _ fun v10' H2 e2 p10 => ?_
  refine (evp_call (Pre := fun vs H P => ∃ t n E, vs = [.ref t] ∧ TabAt C H t n E ∧ P = fun v H2 => v = .non ∨ ∃ w xs, v = .ref w ∧ H2 w = some (.tup (intL xs)) ∧ xs.length = n ∧ ∀ s, FitE n E s → ∀ a, a < n + 1 → s a - s 0 ≤ (pre xs).getD a 0) (P := fun v H2 => v = .non ∨ ∃ w xs, v = .ref w ∧ H2 w = some (.tup (intL xs)) ∧ xs.length = n ∧ ∀ s, FitE n E s → ∀ a, a < n + 1 → s a - s 0 ≤ (pre xs).getD a 0) (ea_cons (vT H2) ea_nil) fun H3 e3 => ⟨t, n, E, rfl, T.ex (e1.trans (e2.trans e3)), rfl⟩) H2 (Ex.refl _) _ fun v11' H3 e3 p11 => ?_
  refine (evp_call (Pre := fun vs H P => ∃ t n E, vs = [.ref t] ∧ TabAt C H t n E ∧ P = fun v H2 => v = .non ∨ ∃ w xs, v = .ref w ∧ H2 w = some (.tup (intL xs)) ∧ xs.length = n ∧ ∀ s, FitE n E s → ∀ a, a < n + 1 → (pre xs).getD a 0 ≤ s a - s 0) (P := fun v H2 => v = .non ∨ ∃ w xs, v = .ref w ∧ H2 w = some (.tup (intL xs)) ∧ xs.length = n ∧ ∀ s, FitE n E s → ∀ a, a < n + 1 → (pre xs).getD a 0 ≤ s a - s 0) (ea_cons (vT H3) ea_nil) fun H4 e4 => ⟨t, n, E, rfl, T.ex (e1.trans (e2.trans (e3.trans e4))), rfl⟩) H3 (Ex.refl _) _ fun v12' H4 e4 p12 => ?_
  refine ⟨by show 4 ≤ _; decide, fun p hp => ?_⟩
  have e5 : Ex H4 (upd H4 p (.tup [v9', v10', v11', v12'])) := Ex.new hp
  refine ⟨p, _, rfl, st_of upd_same, rfl, _, _, rfl, _, _, rfl, _, _, rfl, _, _, rfl, rfl, ?_⟩
  obtain ⟨sh, Es, rfl, hS, fs⟩ := p9
  obtain ⟨kn, Ek, rfl, hK, fk, -⟩ := p10
  have eA := e1.trans (e2.trans (e3.trans (e4.trans e5)))
  subst hs
  refine pure_T5 (E := E) (E2 := E2) (Es := Es) (Ek := Ek) (t := t) (u := u) (sh := sh) (kn := kn) F ⟨T.ex eA, U.ex eA, hS.ex (e2.trans (e3.trans (e4.trans e5))), hK.ex (e3.trans (e4.trans e5)), fs, fk, ?_, ?_⟩ n1 n2 (Sr.lift eA) hd k
  · rcases p11 with h | ⟨w, xs, h1, h2, r⟩
    · exact Or.inl h
    · exact Or.inr ⟨w, xs, h1, (e4.trans e5) _ _ h2, r⟩
  · rcases p12 with h | ⟨w, xs, h1, h2, r⟩
    · exact Or.inl h
    · exact Or.inr ⟨w, xs, h1, e5 _ _ h2, r⟩
end
end Bw
/-! The law: a turn in full. -/
namespace Bw
open PySem PySem.Spec PyProof.Rows L2 Evl
section
variable {K : PySem.W.Frag} {C : Addr} {σ : L2.St} {H : Hp} {ta tb tc te : TE} {D : Ends} {t n : Nat} {E : List Edge} {st lg cs : Addr} {d : Nat}
theorem pure_T3 (F : TabF K C) {sc tr : V} {v6 v7 v8 v9 v10 v11 v12 v13 v14 v15 v16 v17 v18 : Option V} {u : Nat} {E2 : List Edge} (T : TabAt C H t n E) (U : TabAt C H u n E2) (n1 : 1 ≤ n) (n2 : n ≤ 3)
    (Sr : Src H st lg cs d) (hd : d < 2 ^ 30) (k : ∀ σ' H2, Rest sc (.ref st) tr σ' → Src H2 st lg cs (d + 3) → D.nx σ' H2) :
    t_lawT_3 K C D [some sc, some (.ref st), some tr, some (.int (n : Int)), some (.ref t), some (.ref u), v6, v7, v8, v9, v10, v11, v12, v13, v14, v15, v16, v17, v18] H := by
  have hd1 : d < 2 ^ 40 := Nat.lt_trans hd (by decide)
  have hd2 : d + 1 < 2 ^ 40 := by
    have : (2 : Nat) ^ 30 + 1 < 2 ^ 40 := by decide
    omega
  have hd3 : d + 2 < 2 ^ 40 := by
    have : (2 : Nat) ^ 30 + 2 < 2 ^ 40 := by decide
    omega
  unfold t_lawT_3 tSeq tIfS
  generalize hs : ([some sc, some (.ref st), some tr, some (.int (n : Int)), some (.ref t), some (.ref u), v6, v7, v8, v9, v10, v11, v12, v13, v14, v15, v16, v17, v18] : L2.St) = σ0
  have vS : ∀ H, Ev (tVar 1) σ0 H (.ref st) := fun H => by subst hs; exact ev_var rfl
  have vT : ∀ H, Ev (tVar 4) σ0 H (.ref t) := fun H => by subst hs; exact ev_var rfl
  have vU : ∀ H, Ev (tVar 5) σ0 H (.ref u) := fun H => by subst hs; exact ev_var rfl
  have arg : ∀ H, EvA (tCons (tVar 1) (tCons (tC (.int 2)) tNil)) σ0 H [.ref st, .int ((2 : Nat) : Int)] := fun H => ea_cons (vS H) (ea_cons ev_c ea_nil)
  refine b_draw (arg H) (by decide) (by decide) hd1 Sr fun r H1 hr S1 B1 => ?_
  refine ⟨rfl, _, rfl, ?_⟩
  have T1 := T.but Sr B1
  have U1 := U.but Sr B1
  refine ite_b (fun hz => ?_) (fun hz => ?_)
  · unfold tAsg tIf
    refine b_draw (arg H1) (by decide) (by decide) hd2 S1 fun r2 H2 hr2 S2 B2 => ?_
    refine ⟨rfl, _, rfl, ?_⟩
    have T2 := T1.but S1 B2
    have U2 := U1.but S1 B2
    refine ite_b (fun hz2 => ?_) (fun hz2 => ?_)
    · refine (evp_call (Pre := fun vs H P => ∃ t u n E E2, vs = [.ref t, .ref u] ∧ TabAt C H t n E ∧ TabAt C H u n E2 ∧ P = fun v H2 => ∃ w E', v = .ref w ∧ TabAt C H2 w n E' ∧ ∀ s, FitE n E' s ↔ (FitE n E s ∧ FitE n E2 s)) (P := fun v H2 => ∃ w E', v = .ref w ∧ TabAt C H2 w n E' ∧ ∀ s, FitE n E' s ↔ (FitE n E s ∧ FitE n E2 s)) (ea_cons (vT H2) (ea_cons (vU H2) ea_nil)) fun H3 e3 => ⟨t, u, n, E, E2, rfl, T2.ex e3, U2.ex e3, rfl⟩) H2 (Ex.refl _) _ fun v H3 e3 p => ?_
      obtain ⟨w, E', rfl, W, -⟩ := p
      subst hs
      exact pure_T4 (E := E) (E2 := E') F (T2.ex e3) W n1 n2 (S2.lift e3) hd3 fun σ' H4 hr hS => k σ' H4 hr hS
    · refine (evp_call (Pre := fun vs H P => ∃ t n E, vs = [.ref t] ∧ TabAt C H t n E ∧ P = fun v H2 => ∃ u E', v = .ref u ∧ TabAt C H2 u n E' ∧ (∀ s, FitE n E' s ↔ FitE n E s) ∧ ((∀ s, ¬ FitE n E s) ∨ Closed (n + 1) (matE E'))) (P := fun v H2 => ∃ u E', v = .ref u ∧ TabAt C H2 u n E' ∧ (∀ s, FitE n E' s ↔ FitE n E s) ∧ ((∀ s, ¬ FitE n E s) ∨ Closed (n + 1) (matE E'))) (ea_cons (vT H2) ea_nil) fun H3 e3 => ⟨t, n, E, rfl, T2.ex e3, rfl⟩) H2 (Ex.refl _) _ fun v H3 e3 p => ?_
      obtain ⟨w, E', rfl, W, -⟩ := p
      subst hs
      exact pure_T4 (E := E) (E2 := E') F (T2.ex e3) W n1 n2 (S2.lift e3) hd3 fun σ' H4 hr hS => k σ' H4 hr hS
  · subst hs
    exact pure_T4 (E := E) (E2 := E2) F T1 U1 n1 n2 S1 hd2 fun σ' H4 hr hS => k σ' H4 hr (hS.up (by omega))
theorem pure_T2 (F : TabF K C) {sc tr : V} {v5 v6 v7 v8 v9 v10 v11 v12 v13 v14 v15 v16 v17 v18 : Option V} (T : TabAt C H t n E) (n1 : 1 ≤ n) (n2 : n ≤ 3)
    (Sr : Src H st lg cs d) (hd : d < 2 ^ 28) (k : ∀ σ' H2, Rest sc (.ref st) tr σ' → Src H2 st lg cs (d + 104) → D.nx σ' H2) :
    t_lawT_2 K C D [some sc, some (.ref st), some tr, some (.int (n : Int)), some (.ref t), v5, v6, v7, v8, v9, v10, v11, v12, v13, v14, v15, v16, v17, v18] H := by
  have hd1 : d < 2 ^ 29 := Nat.lt_trans hd (by decide)
  have hd2 : d + 101 < 2 ^ 30 := by
    have : (2 : Nat) ^ 28 + 101 < 2 ^ 30 := by decide
    omega
  unfold t_lawT_2 tSeq tAsg
  refine make_cap (a := 2) (b := 4) (fun H => ev_var rfl) (fun H => ev_var rfl) (fun H => el_lst (ea_cons ev_c (ea_cons ev_c ea_nil)) (by show 2 ≤ 100000; decide)) (by decide) (by decide) (by decide) (by decide) n1 n2 hd1 Sr fun x H2 E' S2 B2 U => ?_
  exact pure_T3 (E := E) (E2 := E') F (T.but Sr B2) U n1 n2 S2 hd2 k
theorem pure_T1 (F : TabF K C) {sc tr : V} {v4 v5 v6 v7 v8 v9 v10 v11 v12 v13 v14 v15 v16 v17 v18 : Option V} (n1 : 1 ≤ n) (n2 : n ≤ 3)
    (Sr : Src H st lg cs d) (hd : d < 2 ^ 27) (k : ∀ σ' H2, Rest sc (.ref st) tr σ' → Src H2 st lg cs (d + 205) → D.nx σ' H2) :
    t_lawT_1 K C D [some sc, some (.ref st), some tr, some (.int (n : Int)), v4, v5, v6, v7, v8, v9, v10, v11, v12, v13, v14, v15, v16, v17, v18] H := by
  have hd1 : d < 2 ^ 29 := Nat.lt_trans hd (by decide)
  have hd2 : d + 101 < 2 ^ 28 := by
    have : (2 : Nat) ^ 27 + 101 < 2 ^ 28 := by decide
    omega
  unfold t_lawT_1 tSeq tAsg
  refine make_cap (a := 1) (b := 2) (fun H => ev_var rfl) (fun H => ev_var rfl) (fun H => el_lst (ea_cons ev_c (ea_cons ev_c ea_nil)) (by show 2 ≤ 100000; decide)) (by decide) (by decide) (by decide) (by decide) n1 n2 hd1 Sr fun x H2 E' S2 B2 U => ?_
  exact pure_T2 (E := E') F U n1 n2 S2 hd2 k
theorem pure_T0 (F : TabF K C) {sc tr : V} (h : Rest sc (.ref st) tr σ)
    (Sr : Src H st lg cs d) (hd : d < 2 ^ 26) (k : ∀ σ' H2, Rest sc (.ref st) tr σ' → Src H2 st lg cs (d + 206) → D.nx σ' H2) :
    t_lawT_0 K C D σ H := by
  obtain ⟨v3, v4, v5, v6, v7, v8, v9, v10, v11, v12, v13, v14, v15, v16, v17, v18, rfl⟩ := h
  have hd1 : d < 2 ^ 40 := Nat.lt_trans hd (by decide)
  have hd2 : d + 1 < 2 ^ 27 := by
    have : (2 : Nat) ^ 26 + 1 < 2 ^ 27 := by decide
    omega
  unfold t_lawT_0 tSeq tAsg
  refine b_pick (xs := [.int 1, .int 2, .int 2, .int 3]) (ev_var rfl) (el_lst (ea_cons ev_c (ea_cons ev_c (ea_cons ev_c (ea_cons ev_c ea_nil)))) (by show 4 ≤ 100000; decide)) (by show 0 < 4; decide) (by show 4 ≤ 1000; decide) hd1 Sr fun x H2 hx S2 B2 => ?_
  have hx2 : ∃ n : Nat, x = .int (n : Int) ∧ 1 ≤ n ∧ n ≤ 3 := by
    rcases List.mem_cons.mp hx with h | hx
    · exact ⟨1, h, by decide, by decide⟩
    rcases List.mem_cons.mp hx with h | hx
    · exact ⟨2, h, by decide, by decide⟩
    rcases List.mem_cons.mp hx with h | hx
    · exact ⟨2, h, by decide, by decide⟩
    · exact ⟨3, List.mem_singleton.mp hx, by decide, by decide⟩
  obtain ⟨n, rfl, n1, n2⟩ := hx2
  exact pure_T1 F n1 n2 S2 hd2 k
end
def sp_law (K : PySem.W.Frag) : Sp := fun vs H Q _ => ∃ (a : Addr) (ns : List Int), vs = [.ref a] ∧ SqL K H a (ns.map V.int) ∧ ns.length ≤ 1000 ∧ ∀ H', Q (.bl true) H'
end Bw
/-! The law in full. -/
namespace Bw
open PySem PySem.Spec PyProof.Rows L2 Evl
section
variable {K : PySem.W.Frag} {C : Addr} {σ : L2.St} {H : Hp} {ta tb tc te : TE} {D : Ends} {t n : Nat} {E : List Edge} {st lg cs : Addr} {d : Nat}
theorem pure_law (F : TabF K C) {a : Addr} {ns : List Int} {Q : VK} (hS : SqL K H a (ns.map V.int)) (hl : ns.length ≤ 1000) (q : ∀ H', Q (.bl true) H') :
    t_law_0 K C (ends Q) [some (.ref a), none, none, none, none, none, none, none, none, none, none, none, none, none, none, none, none, none, none] H := by
  unfold t_law_0 tSeq tAsg
  refine (ev_var rfl : Ev (tVar 0) [some (.ref a), none, none, none, none, none, none, none, none, none, none, none, none, none, none, none, none, none, none] H (.ref a)) H (Ex.refl _) _ fun H1 e1 => ?_
  refine ⟨a, ns, rfl, ex_l e1 hS, hl, fun st lg cs H2 n1 n2 S e2 => ?_⟩
  have cnt : EvA (tCons (tOp rAddI (tC (.int 1)) (tCB rMin2 (tCons (tCB (cLen K) (tCons (tVar 0) tNil)) (tCons (tC (.int 2)) tNil)))) tNil) [some (.ref a), some (.ref st), none, none, none, none, none, none, none, none, none, none, none, none, none, none, none, none, none] H2 [.int ((1 + min ns.length 2 : Nat) : Int)] := by
    refine ea_cons (ev_is (ev_op ev_c (ev_cb (z := .int (if (2 : Int) < (ns.length : Int) then 2 else (ns.length : Int))) (ea_cons (ev_cb (z := .int (ns.length : Int)) (ea_cons (ev_var rfl) ea_nil) fun H3 e3 Q q => ⟨_, _, rfl, Or.inl ⟨_, ex_l (e1.trans (e2.trans e3)) hS, rfl⟩, ?_⟩) (ea_cons ev_c ea_nil)) fun H3 e3 Q q => ⟨_, _, rfl, q H3 (Ex.refl _)⟩) rv_I0) ?_) ea_nil
    · rw [List.length_map]
      exact q H3 (Ex.refl _)
    · congr 1
      by_cases c : (2 : Int) < (ns.length : Int)
      · rw [if_pos c]
        omega
      · rw [if_neg c]
        omega
  unfold t_law_1
  have pw : ∀ i : Nat, i ≤ 3 → i * 206 < 2 ^ 26 := fun i hi => Nat.lt_of_le_of_lt (Nat.mul_le_mul_right 206 hi) (by decide)
  refine q_forR1 cnt (by omega) (fun i σ' H' => ∃ tr, Src H' st lg cs (i * 206) ∧ ∃ v3 v4 v5 v6 v7 v8 v9 v10 v11 v12 v13 v14 v15 v16 v17 v18 : Option V, σ' = [some (.ref a), some (.ref st), tr, v3, v4, v5, v6, v7, v8, v9, v10, v11, v12, v13, v14, v15, v16, v17, v18]) (fun H3 e3 => ⟨none, S.lift e3, _, _, _, _, _, _, _, _, _, _, _, _, _, _, _, _, rfl⟩) (fun i σ' H' hi ⟨tr, S', v3, v4, v5, v6, v7, v8, v9, v10, v11, v12, v13, v14, v15, v16, v17, v18, es⟩ => ?_) (fun σ' H' _ => ?_)
  · subst es
    have hi3 : i ≤ 3 := by omega
    refine pure_T0 (d := i * 206) (sc := .ref a) (tr := .int (i : Int)) F ⟨v3, v4, v5, v6, v7, v8, v9, v10, v11, v12, v13, v14, v15, v16, v17, v18, rfl⟩ S' (pw i hi3) fun σ2 H2 ⟨w3, w4, w5, w6, w7, w8, w9, w10, w11, w12, w13, w14, w15, w16, w17, w18, es2⟩ S2 => ?_
    exact ⟨_, by rw [Nat.succ_mul]; exact S2, _, _, _, _, _, _, _, _, _, _, _, _, _, _, _, _, es2⟩
  · exact q H'
end
end Bw
/-! Longer and longer ways of bounds: the mathematics of the laws' own closing. -/
namespace Bw
/-- a way of m steps from a to b whose bounds sum to x -/
def PW (E : List Edge) (a b m : Nat) (x : Int) : Prop := ∃ (p : Nat → Nat) (t : Nat → Int), p 0 = a ∧ p m = b ∧ t 0 = 0 ∧ t m = x ∧ ∀ i, i < m → (p i, p (i + 1), t (i + 1) - t i) ∈ E
/-- a water fits, told by its sums -/
abbrev OkS (E : List Edge) (s : Nat → Int) : Prop := ∀ e ∈ E, s e.1 - s e.2.1 ≤ e.2.2
section
variable {E : List Edge} {N a b c m : Nat} {x y : Int} {s : Nat → Int}
theorem pw_nil : PW E a a 0 0 := ⟨fun _ => a, fun _ => 0, rfl, rfl, rfl, rfl, fun i hi => absurd hi (Nat.not_lt_zero i)⟩
theorem pw_snoc (h : PW E a b m x) (e : (b, c, y) ∈ E) : PW E a c (m + 1) (x + y) := by
  obtain ⟨p, t, p0, pm, t0, tm, hs⟩ := h
  refine ⟨fun i => if i ≤ m then p i else c, fun i => if i ≤ m then t i else x + y, ?_, ?_, ?_, ?_, fun i hi => ?_⟩
  · show (if 0 ≤ m then p 0 else c) = a
    rw [if_pos (Nat.zero_le m), p0]
  · show (if m + 1 ≤ m then p (m + 1) else c) = c
    rw [if_neg (by omega)]
  · show (if 0 ≤ m then t 0 else x + y) = 0
    rw [if_pos (Nat.zero_le m), t0]
  · show (if m + 1 ≤ m then t (m + 1) else x + y) = x + y
    rw [if_neg (by omega)]
  · show ((if i ≤ m then p i else c), (if i + 1 ≤ m then p (i + 1) else c), (if i + 1 ≤ m then t (i + 1) else x + y) - (if i ≤ m then t i else x + y)) ∈ E
    rw [if_pos (show i ≤ m by omega), if_pos (show i ≤ m by omega)]
    by_cases hm : i + 1 ≤ m
    · rw [if_pos hm, if_pos hm]
      exact hs i (by omega)
    · rw [if_neg hm, if_neg hm]
      have him : i = m := by omega
      rw [him, pm, tm, show x + y - x = y by omega]
      exact e
theorem pw_one (e : (a, b, x) ∈ E) : PW E a b 1 x := by
  have := pw_snoc (pw_nil (E := E) (a := a)) e
  rw [Int.zero_add] at this
  exact this
theorem pw_last (h : PW E a c (m + 1) x) : ∃ b y, PW E a b m (x - y) ∧ (b, c, y) ∈ E := by
  obtain ⟨p, t, p0, pm, t0, tm, hs⟩ := h
  refine ⟨p m, t (m + 1) - t m, ⟨p, t, p0, rfl, t0, ?_, fun i hi => hs i (by omega)⟩, ?_⟩
  · rw [tm]
    omega
  · have := hs m (by omega)
    rw [pm] at this
    exact this
theorem pw_zero (h : PW E a b 0 x) : a = b ∧ x = 0 := by
  obtain ⟨p, t, p0, pm, t0, tm, _⟩ := h
  exact ⟨p0.symm.trans pm, tm.symm.trans t0⟩
theorem pw_le (f : OkS E s) (h : PW E a b m x) : s a - s b ≤ x := by
  induction m generalizing b x with
  | zero =>
    obtain ⟨rfl, rfl⟩ := pw_zero h
    omega
  | succ m ih =>
    obtain ⟨b', y, h1, h2⟩ := pw_last h
    have h3 := ih h1
    have h4 : s b' - s b ≤ y := f _ h2
    omega
theorem pw_in (g : GoodE N E) (h : PW E a b m x) (ha : a < N) : b < N := by
  cases m with
  | zero => rw [← (pw_zero h).1]; exact ha
  | succ m =>
    obtain ⟨b', y, _, h2⟩ := pw_last h
    exact (g _ h2).2.1
/-- a ring is cut out -/
theorem pw_cut1 (f : OkS E s) {p : Nat → Nat} {t : Nat → Int} (hs : ∀ i, i < m → (p i, p (i + 1), t (i + 1) - t i) ∈ E) {i j : Nat} (hij : i < j) (hj : j ≤ m) (e : p i = p j) (t0 : t 0 = 0) : ∃ x', x' ≤ t m ∧ PW E (p 0) (p m) (m - (j - i)) x' := by
  have mid : ∀ k, i + k ≤ m → s (p i) - s (p (i + k)) ≤ t (i + k) - t i := by
    intro k
    induction k with
    | zero => intro _; simp
    | succ k ih =>
      intro hk
      have h1 := ih (by omega)
      have h2 : s (p (i + k)) - s (p (i + k + 1)) ≤ t (i + k + 1) - t (i + k) := f _ (hs (i + k) (by omega))
      show s (p i) - s (p (i + k + 1)) ≤ t (i + k + 1) - t i
      omega
  have ring := mid (j - i) (by omega)
  rw [show i + (j - i) = j by omega, ← e] at ring
  refine ⟨t m - (t j - t i), by omega, fun k => if k ≤ i then p k else p (k + (j - i)), fun k => if k ≤ i then t k else t (k + (j - i)) - (t j - t i), ?_, ?_, ?_, ?_, fun k hk => ?_⟩
  · show (if 0 ≤ i then p 0 else p (0 + (j - i))) = p 0
    rw [if_pos (Nat.zero_le i)]
  · show (if m - (j - i) ≤ i then p (m - (j - i)) else p (m - (j - i) + (j - i))) = p m
    by_cases h : m - (j - i) ≤ i
    · have : m = j := by omega
      rw [if_pos h, this, show j - (j - i) = i by omega, e]
    · rw [if_neg h, show m - (j - i) + (j - i) = m by omega]
  · show (if 0 ≤ i then t 0 else t (0 + (j - i)) - (t j - t i)) = 0
    rw [if_pos (Nat.zero_le i), t0]
  · show (if m - (j - i) ≤ i then t (m - (j - i)) else t (m - (j - i) + (j - i)) - (t j - t i)) = t m - (t j - t i)
    by_cases h : m - (j - i) ≤ i
    · have : m = j := by omega
      rw [if_pos h, this, show j - (j - i) = i by omega]
      omega
    · rw [if_neg h, show m - (j - i) + (j - i) = m by omega]
  · show ((if k ≤ i then p k else p (k + (j - i))), (if k + 1 ≤ i then p (k + 1) else p (k + 1 + (j - i))), (if k + 1 ≤ i then t (k + 1) else t (k + 1 + (j - i)) - (t j - t i)) - (if k ≤ i then t k else t (k + (j - i)) - (t j - t i))) ∈ E
    by_cases h1 : k + 1 ≤ i
    · rw [if_pos (show k ≤ i by omega), if_pos h1, if_pos h1, if_pos (show k ≤ i by omega)]
      exact hs k (by omega)
    · by_cases h2 : k ≤ i
      · have hki : k = i := by omega
        subst hki
        rw [if_pos h2, if_neg h1, if_neg h1, if_pos h2]
        have := hs j (by omega)
        rw [← e] at this
        rw [show k + 1 + (j - k) = j + 1 by omega, show t (j + 1) - (t j - t k) - t k = t (j + 1) - t j by omega]
        exact this
      · rw [if_neg h2, if_neg h1, if_neg h1, if_neg h2]
        have := hs (k + (j - i)) (by omega)
        rw [show k + 1 + (j - i) = k + (j - i) + 1 by omega, show t (k + (j - i) + 1) - (t j - t i) - (t (k + (j - i)) - (t j - t i)) = t (k + (j - i) + 1) - t (k + (j - i)) by omega]
        exact this
/-- a way has one of fewer steps than there are points, no longer -/
theorem pw_cut (g : GoodE N E) (f : OkS E s) (ha : a < N) : ∀ (m : Nat) (x : Int), PW E a b m x → ∃ m' x', m' < N ∧ x' ≤ x ∧ PW E a b m' x' := by
  intro m
  induction m using Nat.strongRecOn with
  | _ m ih =>
    intro x h
    by_cases hm : m < N
    · exact ⟨m, x, hm, Int.le_refl _, h⟩
    obtain ⟨p, t, p0, pm, t0, tm, hs⟩ := id h
    have inN : ∀ i, i ≤ N → p i < N := fun i hi => by
      cases i with
      | zero => rw [p0]; exact ha
      | succ i => exact (g _ (hs i (by omega))).2.1
    obtain ⟨i, j, hij, hj, e⟩ := pigeon N p inN
    obtain ⟨x1, l1, h1⟩ := pw_cut1 f hs hij (by omega) e t0
    rw [p0, pm] at h1
    obtain ⟨m2, x2, h2, l2, h3⟩ := ih (m - (j - i)) (by omega) x1 h1
    exact ⟨m2, x2, h2, by omega, h3⟩
end
/-! ### the state between two turns -/
/-- F: what is found; k whole turns are done -/
structure Fd (N : Nat) (E : List Edge) (F : Mat) : Prop where
  sound : ∀ a b x, F a b = some x → a ≠ b ∧ a < N ∧ b < N ∧ ∃ m, PW E a b m x
  base : ∀ e ∈ E, Lo (F e.1 e.2.1) (some e.2.2)
def Far (E : List Edge) (F : Mat) (k : Nat) : Prop := (∃ s, OkS E s) → ∀ a b m x, a ≠ b → m ≤ k → PW E a b m x → Lo (F a b) (some x)
theorem lo_some {x : Option Int} {v : Int} : Lo x (some v) ↔ ∃ u, x = some u ∧ u ≤ v := ⟨fun h => h v rfl, fun h w e => by cases e; exact h⟩
/-- one step asks nothing more -/
def StepOk (F : Mat) (a : Nat) (e : Edge) : Prop := ∀ u, F a e.1 = some u → (a ≠ e.2.1 → Lo (F a e.2.1) (some (u + e.2.2))) ∧ (a = e.2.1 → 0 ≤ u + e.2.2)
section
variable {E : List Edge} {N : Nat} {F F0 : Mat} {s : Nat → Int}
theorem fd_le (D : Fd N E F) (f : OkS E s) {a b : Nat} {x : Int} (h : F a b = some x) : s a - s b ≤ x := by
  obtain ⟨_, _, _, m, w⟩ := D.sound a b x h
  exact pw_le f w
/-- behind enough turns nothing more is found -/
theorem far_full (g : GoodE N E) (D : Fd N E F) {k : Nat} (R : Far E F k) (hk : N ≤ k + 1) (f : ∃ s, OkS E s) (a : Nat) {e : Edge} (he : e ∈ E) : StepOk F a e := by
  intro u hu
  obtain ⟨hne, ha, hb, m, w⟩ := D.sound _ _ _ hu
  obtain ⟨s, fs⟩ := id f
  have w2 := pw_snoc w (show (e.1, e.2.1, e.2.2) ∈ E from he)
  refine ⟨fun hac => ?_, fun hac => ?_⟩
  · obtain ⟨m', x', hm, hx, w3⟩ := pw_cut g fs ha _ _ w2
    obtain ⟨v, hv, l⟩ := lo_some.mp (R f a e.2.1 m' x' hac (by omega) w3)
    exact lo_some.mpr ⟨v, hv, by omega⟩
  · have := pw_le fs w2
    rw [← hac] at this
    omega
/-- where no step asks for more it is closed -/
theorem still_way (g : GoodE N E) (D : Fd N E F) (S : ∀ a, ∀ e ∈ E, StepOk F a e) {a c : Nat} {u : Int} (hu : F a c = some u) : ∀ (m : Nat) (b : Nat) (v : Int), PW E c b m v → (a ≠ b → Lo (F a b) (some (u + v))) ∧ (a = b → 0 ≤ u + v) := by
  intro m
  induction m with
  | zero =>
    intro b v w
    obtain ⟨rfl, rfl⟩ := pw_zero w
    refine ⟨fun _ => lo_some.mpr ⟨u, hu, by omega⟩, fun z => absurd z (D.sound _ _ _ hu).1⟩
  | succ m ih =>
    intro b v w
    obtain ⟨b', y, w1, he⟩ := pw_last w
    obtain ⟨i1, i2⟩ := ih b' _ w1
    obtain ⟨_, _, ne⟩ := g _ he
    by_cases hab : a = b'
    · have h0 := i2 hab
      refine ⟨fun hne => ?_, fun z => absurd (hab.symm.trans z) ne⟩
      obtain ⟨z, hz, l⟩ := lo_some.mp (D.base _ he)
      rw [hab]
      exact lo_some.mpr ⟨z, hz, by have l : z ≤ y := l; omega⟩
    · obtain ⟨z, hz, l⟩ := lo_some.mp (i1 hab)
      obtain ⟨s1, s2⟩ := S a _ he z hz
      refine ⟨fun hne => ?_, fun z2 => ?_⟩
      · obtain ⟨z3, hz3, l3⟩ := lo_some.mp (s1 hne)
        exact lo_some.mpr ⟨z3, hz3, by have l3 : z3 ≤ z + y := l3; omega⟩
      · have := s2 z2
        have : 0 ≤ z + y := this
        omega
def diagM (F : Mat) : Mat := fun a b => if a = b then some 0 else F a b
theorem still_closed (g : GoodE N E) (D : Fd N E F) (S : ∀ a, ∀ e ∈ E, StepOk F a e) : Closed N (diagM F) where
  dg := fun a _ => if_pos rfl
  tri := by
    intro a b c ha hb hc v hv
    obtain ⟨p, q, hp, hq, rfl⟩ := ad_some hv
    have hp : (if a = c then some 0 else F a c) = some p := hp
    have hq : (if c = b then some 0 else F c b) = some q := hq
    show ∃ u, (if a = b then some 0 else F a b) = some u ∧ u ≤ p + q
    by_cases hac : a = c
    · rw [if_pos hac] at hp
      cases hp
      rw [hac]
      exact ⟨q, hq, by omega⟩
    · rw [if_neg hac] at hp
      by_cases hcb : c = b
      · rw [if_pos hcb] at hq
        cases hq
        rw [← hcb, if_neg hac]
        exact ⟨p, hp, by omega⟩
      · rw [if_neg hcb] at hq
        obtain ⟨_, _, _, m, w⟩ := D.sound _ _ _ hq
        obtain ⟨i1, i2⟩ := still_way g D S hp m b q w
        by_cases hab : a = b
        · rw [if_pos hab]
          exact ⟨0, rfl, i2 hab⟩
        · rw [if_neg hab]
          exact lo_some.mp (i1 hab)
theorem fd_fits (g : GoodE N E) (D : Fd N E F) (s : Nat → Int) : Fits N s (diagM F) ↔ OkS E s := by
  constructor
  · intro f e he
    obtain ⟨g1, g2, g3⟩ := g e he
    obtain ⟨u, hu, l⟩ := lo_some.mp (D.base e he)
    have := f e.1 e.2.1 u g1 g2 (by show (if e.1 = e.2.1 then some 0 else F e.1 e.2.1) = some u; rw [if_neg g3]; exact hu)
    omega
  · intro f a b x ha hb hx
    have hx : (if a = b then some 0 else F a b) = some x := hx
    by_cases hab : a = b
    · rw [if_pos hab] at hx
      cases hx
      rw [hab]
      omega
    · rw [if_neg hab] at hx
      exact fd_le D f hx
/-! ### a turn -/
/-- within a turn that began with F0: done tells what is looked at; st: nothing was changed yet -/
structure Tn (N : Nat) (E : List Edge) (F0 : Mat) (done : Nat → Edge → Prop) (st : Bool) (F : Mat) : Prop where
  fd : Fd N E F
  mono : ∀ a b, Lo (F a b) (F0 a b)
  got : ∀ a e, done a e → ∀ u, F0 a e.1 = some u → a ≠ e.2.1 → Lo (F a e.2.1) (some (u + e.2.2))
  same : st = true → F = F0 ∧ ∀ a e, done a e → StepOk F0 a e
theorem tn_start (D : Fd N E F) : Tn N E F (fun _ _ => False) true F := ⟨D, fun _ _ => Lo.refl, fun _ _ z => z.elim, fun _ => ⟨rfl, fun _ _ z => z.elim⟩⟩
def setM (F : Mat) (a c : Nat) (v : Int) : Mat := fun x y => if x = a ∧ y = c then some v else F x y
theorem setM_lo {a c : Nat} {v : Int} (h : ∀ w, F a c = some w → v ≤ w) (x y : Nat) : Lo (setM F a c v x y) (F x y) := by
  intro w hw
  unfold setM
  by_cases q : x = a ∧ y = c
  · rw [if_pos q]
    rw [q.1, q.2] at hw
    exact ⟨v, rfl, h w hw⟩
  · rw [if_neg q]
    exact ⟨w, hw, Int.le_refl _⟩
/-- a step that finds a lesser one -/
theorem tn_set {done : Nat → Edge → Prop} {st : Bool} {a : Nat} {e : Edge} {u : Int} (T : Tn N E F0 done st F) (he : e ∈ E) (g : GoodE N E) (hu : F a e.1 = some u) (hac : a ≠ e.2.1) (h : ∀ w, F a e.2.1 = some w → u + e.2.2 ≤ w) :
    Tn N E F0 (fun b d => done b d ∨ (b = a ∧ d = e)) false (setM F a e.2.1 (u + e.2.2)) := by
  obtain ⟨_, ha, hb, m, w⟩ := T.fd.sound _ _ _ hu
  refine ⟨⟨fun b c x hx => ?_, fun d hd => ?_⟩, fun b c => (setM_lo h b c).trans (T.mono b c), fun b d hd u0 hu0 hne => ?_, fun z => nomatch z⟩
  · unfold setM at hx
    by_cases q : b = a ∧ c = e.2.1
    · rw [if_pos q] at hx
      cases hx
      rw [q.1, q.2]
      exact ⟨hac, ha, (g e he).2.1, m + 1, pw_snoc w he⟩
    · rw [if_neg q] at hx
      exact T.fd.sound b c x hx
  · exact (setM_lo h _ _).trans (T.fd.base d hd)
  · rcases hd with hd | ⟨rfl, rfl⟩
    · exact (setM_lo h _ _).trans (T.got b d hd u0 hu0 hne)
    · obtain ⟨u1, h1, l1⟩ := T.mono _ _ u0 hu0
      rw [hu] at h1
      cases h1
      refine lo_some.mpr ⟨u + d.2.2, ?_, by omega⟩
      unfold setM
      rw [if_pos ⟨rfl, rfl⟩]
/-- a step that finds nothing -/
theorem tn_skip {done : Nat → Edge → Prop} {st : Bool} {a : Nat} {e : Edge} {u : Int} (T : Tn N E F0 done st F) (hu : F a e.1 = some u) (h1 : a = e.2.1 → 0 ≤ u + e.2.2) (h2 : a ≠ e.2.1 → Lo (F a e.2.1) (some (u + e.2.2))) :
    Tn N E F0 (fun b d => done b d ∨ (b = a ∧ d = e)) st F := by
  refine ⟨T.fd, T.mono, fun b d hd u0 hu0 hne => ?_, fun z => ?_⟩
  · rcases hd with hd | ⟨rfl, rfl⟩
    · exact T.got b d hd u0 hu0 hne
    · obtain ⟨u1, k1, l1⟩ := T.mono _ _ u0 hu0
      rw [hu] at k1
      cases k1
      obtain ⟨v, hv, l⟩ := lo_some.mp (h2 hne)
      exact lo_some.mpr ⟨v, hv, by omega⟩
  · obtain ⟨rfl, k⟩ := T.same z
    refine ⟨rfl, fun b d hd => ?_⟩
    rcases hd with hd | ⟨rfl, rfl⟩
    · exact k b d hd
    · intro u0 hu0
      rw [hu] at hu0
      cases hu0
      exact ⟨h2, h1⟩
theorem tn_imp {done done' : Nat → Edge → Prop} {st : Bool} (T : Tn N E F0 done st F) (h : ∀ a e, done' a e → done a e) : Tn N E F0 done' st F :=
  ⟨T.fd, T.mono, fun b d hd => T.got b d (h _ _ hd), fun z => ⟨(T.same z).1, fun b d hd => (T.same z).2 b d (h _ _ hd)⟩⟩
/-- a whole turn takes the ways one step further -/
theorem tn_far {st : Bool} {k : Nat} (g : GoodE N E) (D0 : Fd N E F0) (T : Tn N E F0 (fun a e => e ∈ E ∧ ∃ u, F0 a e.1 = some u) st F) (R : Far E F0 k) : Far E F (k + 1) := by
  intro f a b m x hab hm w
  cases m with
  | zero => exact absurd (pw_zero w).1 hab
  | succ m =>
    obtain ⟨c, y, w1, he⟩ := pw_last w
    by_cases hac : a = c
    · obtain ⟨s, fs⟩ := f
      have h0 := pw_le fs w1
      obtain ⟨z, hz, l⟩ := lo_some.mp (T.fd.base _ he)
      rw [hac]
      refine lo_some.mpr ⟨z, hz, ?_⟩
      have l : z ≤ y := l
      rw [hac] at h0
      omega
    · obtain ⟨u, hu, l⟩ := lo_some.mp (R f a c m _ hac (by omega) w1)
      obtain ⟨v, hv, l2⟩ := lo_some.mp (T.got a _ ⟨he, u, hu⟩ u hu hab)
      exact lo_some.mpr ⟨v, hv, by have l2 : v ≤ u + y := l2; omega⟩
theorem tn_still (T : Tn N E F0 (fun a e => e ∈ E ∧ ∃ u, F0 a e.1 = some u) true F) : F = F0 ∧ ∀ a, ∀ e ∈ E, StepOk F a e := by
  obtain ⟨rfl, k⟩ := T.same rfl
  exact ⟨rfl, fun a e he u hu => k a e ⟨he, u, hu⟩ u hu⟩
/-- where enough turns are done a turn changes nothing -/
theorem set_never {k : Nat} (g : GoodE N E) {done : Nat → Edge → Prop} (T : Tn N E F0 done true F) (R : Far E F0 k) (hk : N ≤ k + 1) (f : ∃ s, OkS E s) {a : Nat} {e : Edge} (he : e ∈ E) : StepOk F a e := by
  obtain ⟨rfl, _⟩ := T.same rfl
  exact far_full g T.fd R hk f a he
end
end Bw
/-! list(d.items()) of a dict with tuple keys, and dict(pairs) with tuple keys. -/
namespace Bw
open PySem PySem.Spec PyProof.Rows L2
/-- tuples laid at addresses -/
def layT (H : Hp) : List Addr → List (List V) → Hp
  | a :: as, x :: xs => layT (upd H a (.tup x)) as xs
  | _, _ => H
theorem layT_off {b : Addr} : ∀ (as : List Addr) (xs : List (List V)) (H : Hp), b ∉ as → layT H as xs b = H b
  | [], _, _, _ => rfl
  | _ :: _, [], _, _ => rfl
  | a :: as, x :: xs, H, h => by
    show layT (upd H a (.tup x)) as xs b = H b
    rw [layT_off as xs _ (fun z => h (List.mem_cons_of_mem _ z)), upd_ne (fun z => h (by rw [z]; exact List.mem_cons_self))]
theorem layT_at : ∀ (as : List Addr) (xs : List (List V)) (H : Hp) (j : Nat) (t : Addr) (x : List V), as.Nodup → as[j]? = some t → xs[j]? = some x → layT H as xs t = some (.tup x)
  | [], _, _, j, _, _, _, h, _ => by simp at h
  | _ :: _, [], _, j, _, _, _, _, h => by simp at h
  | a :: as, y :: xs, H, 0, t, x, nd, h1, h2 => by
    have h1 : some a = some t := h1
    have h2 : some y = some x := h2
    cases h1
    cases h2
    show layT (upd H a (.tup y)) as xs a = _
    rw [layT_off as xs _ (List.nodup_cons.mp nd).1, upd_same]
  | a :: as, y :: xs, H, j + 1, t, x, nd, h1, h2 => layT_at as xs (upd H a (.tup y)) j t x (List.nodup_cons.mp nd).2 (by simpa using h1) (by simpa using h2)
theorem refs_vals : ∀ as : List Addr, Vals (as.map V.ref) (as.map Value.ref)
  | [] => .nil
  | _ :: as => .cons rfl (refs_vals as)
section
variable {X : Cx} {pins : List (Addr × Obj)} {σ : L2.St} {H : Hp} {s : Shared}
/-- a new list of new tuples is known -/
theorem laid_pairs {h' : Heap} {tk : Nat} {xss : List (List V)} {acc : Array Value} {c : Nat} {as : List Addr} (I : Inv X pins σ H s) (hk : ∀ b o, s.heap.get? b = some o → h'.get? b = some o)
    (hS : h'.get? s.heap.objs.size = some { cls := .type "list", dict := none, data := .seq acc c, slots := #[] }) (hl : as.length = xss.length) (hz : as.length ≤ sizeLine) (rise : as.Pairwise (· < ·)) (above : ∀ t ∈ as, s.heap.objs.size < t)
    (tup : ∀ (j : Nat) (t : Addr) (x : List V), as[j]? = some t → xss[j]? = some x → x.length ≤ sizeLine ∧ ∃ its : List Value, Vals x its ∧ IsTup h' t its.toArray) (hacc : acc.toList = as.map Value.ref) :
    ∃ H' : Hp, (∀ b o, H b = some o → H' b = some o) ∧ H s.heap.objs.size = none ∧ H' s.heap.objs.size = some (.lst (as.map V.ref)) ∧ (∀ (j : Nat) (t : Addr) (x : List V), as[j]? = some t → xss[j]? = some x → H' t = some (.tup x)) ∧ Inv X pins σ H' { s with heap := h', toks := tk } := by
  have nd : as.Nodup := List.Pairwise.imp (fun {a b} (h : a < b) => Nat.ne_of_lt h) rise
  have new : ∀ t ∈ as, H t = none := fun t ht => I.hok.fresh (Nat.le_of_lt (above t ht))
  have newS : H s.heap.objs.size = none := I.hok.fresh (Nat.le_refl _)
  have nS : s.heap.objs.size ∉ as := fun z => Nat.lt_irrefl _ (above _ z)
  obtain ⟨H', eH⟩ : ∃ H', H' = layT (upd H s.heap.objs.size (.lst (as.map V.ref))) as xss := ⟨_, rfl⟩
  have off : ∀ b, b ∉ as → b ≠ s.heap.objs.size → H' b = H b := fun b h1 h2 => by rw [eH, layT_off as xss _ h1, upd_ne h2]
  have atS : H' s.heap.objs.size = some (.lst (as.map V.ref)) := by rw [eH, layT_off as xss _ nS, upd_same]
  have atT : ∀ (j : Nat) (t : Addr) (x : List V), as[j]? = some t → xss[j]? = some x → H' t = some (.tup x) := fun j t x h1 h2 => by
    rw [eH]
    exact layT_at as xss _ j t x nd h1 h2
  have kp : ∀ {b : Addr} {u : HO}, H b = some u → H' b = some u := fun {b u} e => by
    rw [off b (fun z => by rw [new b z] at e; cases e) (fun z => by rw [z, newS] at e; cases e)]
    exact e
  refine ⟨H', fun b o e => kp e, newS, atS, atT, ?_⟩
  have old : ∀ {b : Addr} {o : Obj}, s.heap.get? b = some o → b ∉ as ∧ b ≠ s.heap.objs.size := fun {b o} e => ⟨fun z => Nat.lt_asymm (Heap.lt_size e) (above b z), Nat.ne_of_lt (Heap.lt_size e)⟩
  have un : Un X.fs [] H H' s.heap h' := {
    keep := fun b o q _ _ _ => hk b o q
    slot := fun b o q _ _ _ => ⟨o.slots, hk b o q⟩
    free := fun b o q n _ => by
      rw [off b (old q).1 (old q).2]
      exact n
    there := fun b o q _ => ⟨o, hk b o q⟩
    tups := fun b xs q => kp q
    frzs := fun b o u q => kp q
    tbls := fun b ps q => ⟨#[], by rw [kp q]; simp⟩ }
  refine I.un (t' := tk) un fun b u q => ?_
  by_cases hb : b ∈ as
  · obtain ⟨j, hj⟩ := List.mem_iff_getElem?.mp hb
    have hjl : j < xss.length := by
      have := (List.getElem?_eq_some_iff.mp hj).1
      omega
    have hx : xss[j]? = some xss[j] := List.getElem?_eq_getElem hjl
    rw [atT j b _ hj hx] at q
    cases q
    exact tup j b _ hj hx
  · by_cases hb2 : b = s.heap.objs.size
    · rw [hb2] at q ⊢
      rw [atS] at q
      cases q
      refine ⟨by rw [List.length_map]; exact hz, as.map Value.ref, c, ?_, by rw [← hacc, Array.toArray_toList]; exact hS⟩
      exact refs_vals as
    · rw [off b hb hb2] at q
      exact (I.hok b u q).stay (fun d v _ y => hk d v y) (fun d y => kp y) fun d xs y => kp y
end
section
open PySem.W PySem.Calls PyProof.V
variable {prog : Program} {w : World} {A : Around} {E : Value → Shared → Prop} {s : Shared} {r d : Addr} {es : Array DictEntry} {ep : Nat}
/-- list(view) of any dict's items -/
theorem list_view {Q : Value → Shared → Prop} (hh : A.handled = none) (hv : s.heap.IsItemsView r d) (hm : DT.Raw s.heap d es ep) (hn : es.size ≤ sizeLine)
    (hQ : ∀ h' tk acc c as, (∀ b o, s.heap.get? b = some o → h'.get? b = some o) → h'.get? s.heap.objs.size = some { cls := .type "list", dict := none, data := .seq acc c, slots := #[] } → as.length = es.size → DT.Made es s.heap.objs.size h' as →
      acc.toList = as.map Value.ref → Q (.ref s.heap.objs.size) { s with heap := h', toks := tk }) : wpAny (model prog w) A (call (.type "list") [.ref r]) Q E s := by
  have viewLt : r < s.heap.objs.size := let ⟨_, ho, _⟩ := hv; Heap.lt_size ho
  have dictLt : d < s.heap.objs.size := hm.lt
  refine callType_codes (Q₁ := fun v s1 => v = .ref s.heap.objs.size ∧ s1 = { s with heap := s.heap.push { cls := .type "list", data := .seq #[] } }) PySem.F.called_list (PySem.F.typeCall_list_1 _) PySem.F.entry_list_init (code_list_new _ ⟨rfl, rfl⟩) ?_
  rintro v s1 ⟨rfl, rfl⟩
  have new0 : (s.heap.push { cls := .type "list", data := .seq #[] }).get? s.heap.objs.size = some { cls := .type "list", data := .seq #[] } := Heap.get?_push_size _ rfl
  refine ⟨⟨_, new0, rfl⟩, PySem.F.args_list_init_2 _ _, ?_⟩
  show wpAny _ _ (do let was ← Builtin.List.listItems (.ref s.heap.objs.size); Builtin.List.listUpdate (.ref s.heap.objs.size) (fun _ => #[]); letGo was.toList.reverse; Builtin.List.listExtendWith (.ref s.heap.objs.size) (.ref r) .none) _ _ _
  refine wpAny_bind ?_
  unfold Builtin.List.listItems
  refine wpAny_bind (wpAny_seqItems new0 rfl (wpAny_pure ?_))
  show wpAny _ _ (updateSeq s.heap.objs.size (fun _ => #[]) >>= fun _ => letGo (#[] : Array Value).toList.reverse >>= fun _ => Builtin.List.listExtendWith (.ref s.heap.objs.size) (.ref r) .none) _ _ _
  refine wpAny_bind (wpAny_updateSeq new0 rfl ?_)
  have new1 := Heap.get?_update_self (Obj.mapSeq (fun _ => (#[] : Array Value))) new0 rfl
  have kept1 : ∀ b o, s.heap.get? b = some o → ((s.heap.push { cls := .type "list", data := .seq #[] }).update s.heap.objs.size (Obj.mapSeq (fun _ => (#[] : Array Value)))).get? b = some o := fun b o e =>
    (Heap.get?_update_other _ _ (Nat.ne_of_gt (Heap.lt_size e))).trans (Heap.get?_push_of_some _ e)
  refine wpAny_bind (wpAny_letGo (DT.extI (A := A.in1) (es := es) (ep := ep) hh (let ⟨o, ho, q⟩ := hv; ⟨o, kept1 r o ho, q⟩) (hm.at' fun o e => kept1 d o e) s.heap.objs.size (Nat.ne_of_gt viewLt) (Nat.ne_of_lt dictLt) .none _ new1 (fun h' tk acc c as hk hS' hl hG hacc => ?_) hn))
  exact ⟨rfl, hQ h' tk acc c as (fun b o e => hk b o (Nat.ne_of_lt (Heap.lt_size e)) (kept1 b o e)) hS' hl (hG.low (Nat.le_of_lt (Heap.lt_size new1))) hacc⟩
end
/-- list(p), p the view of the pairs of the dict at a with tuple keys -/
def rListItT : List V → Hp → VK → Prop := fun vs H Q => ∃ (p a : Addr) (kvs : List (List Key × V)), vs = [.ref p] ∧ H p = some (DX.itemsO p a) ∧ H a = some (.dT kvs) ∧
  ∀ (l : Addr) (ts : List Addr) (H' : Hp), (∀ b o, H b = some o → H' b = some o) → H l = none → H' l = some (.lst (ts.map V.ref)) → ts.length = kvs.length →
    (∀ (j : Nat) (k : List Key) (v : V), kvs[j]? = some (k, v) → ∃ t q, ts[j]? = some t ∧ H q = some (.tup (k.map kV)) ∧ H' t = some (.tup [.ref q, v])) → Q (.ref l) H'
theorem call_listItT {X : Cx} (hc : X.calm = true) : CallR X (.type "list") rListItT := by
  intro pins s σ H vs us Q I r h
  obtain ⟨p, a, kvs, rfl, hp, ha, q⟩ := h
  cases r with
  | cons r1 r2 =>
    cases r2
    cases r1
    obtain ⟨hz, hs, xs, rel, o, es, ep, ho, hx, hdt, he, _⟩ := dt_of I.hok ha
    obtain ⟨view, _, _⟩ := I.hok p _ hp
    have l1 : es.size = xs.length := by rw [← Array.length_toList, he, List.length_map]
    have l2 : kvs.length = xs.length := Paired.length rel
    refine list_view (es := es) (ep := ep) (I.ok.hd hc) view ⟨o, ho, hx, hdt⟩ (by omega) fun h' tk acc c as hk hS hl hG hacc => ?_
    -- the pairs as they are tracked
    have ent : ∀ (j : Nat) (k : List Key) (v : V), kvs[j]? = some (k, v) → ∃ (en : DictEntry) (q : Addr), es[j]? = some en ∧ en.key = .ref q ∧ RelV v en.val ∧ H q = some (.tup (k.map kV)) := fun j k v e => by
      obtain ⟨b, hb, e1, e2, e3⟩ := L2.paired_get rel e
      refine ⟨entryOfKey (tupleKind (mixKind X.prog X.w)) b, b.2.1, ?_, rfl, e3, e2⟩
      rw [← Array.getElem?_toList, he, List.getElem?_map, hb]
      rfl
    have at_ : ∀ j, j < kvs.length → ∃ x : List V, ∃ (en : DictEntry) (q : Addr) (k : List Key) (v : V), kvs[j]? = some (k, v) ∧ x = [.ref q, v] ∧ es[j]? = some en ∧ en.key = .ref q ∧ RelV v en.val ∧ H q = some (.tup (k.map kV)) := fun j hj => by
      obtain ⟨⟨k, v⟩, e⟩ : ∃ p, kvs[j]? = some p := ⟨_, List.getElem?_eq_getElem hj⟩
      obtain ⟨en, q, h1, h2, h3, h4⟩ := ent j k v e
      exact ⟨_, en, q, k, v, e, rfl, h1, h2, h3, h4⟩
    obtain ⟨f, hf⟩ : ∃ f : Nat → List V, ∀ j, j < kvs.length → ∃ (en : DictEntry) (q : Addr) (k : List Key) (v : V), kvs[j]? = some (k, v) ∧ f j = [.ref q, v] ∧ es[j]? = some en ∧ en.key = .ref q ∧ RelV v en.val ∧ H q = some (.tup (k.map kV)) := by
      refine ⟨fun j => if hj : j < kvs.length then (at_ j hj).choose else [], fun j hj => ?_⟩
      have := (at_ j hj).choose_spec
      simp only [dif_pos hj]
      exact this
    have tupOk : ∀ (j : Nat) (t : Addr) (x : List V), as[j]? = some t → ((List.range kvs.length).map f)[j]? = some x → x.length ≤ sizeLine ∧ ∃ its : List Value, Vals x its ∧ IsTup h' t its.toArray := fun j t x hj hx => by
      have hj2 : j < kvs.length := by
        have := (List.getElem?_eq_some_iff.mp hj).1
        omega
      obtain ⟨en, q', k', v', e1, e2, e3, e4, e5, e6⟩ := hf j hj2
      rw [List.getElem?_map, List.getElem?_range hj2] at hx
      have hx : some (f j) = some x := hx
      cases hx
      obtain ⟨en2, g1, g2⟩ := hG.pairs j t hj
      rw [e3] at g1
      cases g1
      rw [e2]
      exact ⟨by show 2 ≤ sizeLine; decide, [en.key, en.val], .cons e4 (.cons e5 .nil), ⟨_, g2, rfl, _, rfl⟩⟩
    obtain ⟨H', kp, nl, al, atT, I'⟩ := laid_pairs (tk := tk) (xss := (List.range kvs.length).map f) (as := as) I hk hS (by rw [List.length_map, List.length_range]; omega) (by omega) hG.rise hG.above tupOk hacc
    refine ⟨.ref s.heap.objs.size, H', I', rfl, q _ as H' kp nl al (by omega) fun j k v e => ?_⟩
    have hj : j < kvs.length := (List.getElem?_eq_some_iff.mp e).1
    obtain ⟨en, q', k', v', e1, e2, e3, e4, e5, e6⟩ := hf j hj
    rw [e] at e1
    cases e1
    have ht : as[j]? = some as[j] := List.getElem?_eq_getElem (by omega)
    refine ⟨as[j], q', ht, e6, ?_⟩
    rw [← e2]
    exact atT j _ _ ht (by rw [List.getElem?_map, List.getElem?_range hj]; rfl)
/-- dict(l), l a list of pairs whose first items are tuples, no two alike -/
def rDictPT : List V → Hp → VK → Prop := fun vs H Q => ∃ (l : Addr) (ts : List Addr) (kvs : List (List Key × V)), vs = [.ref l] ∧ H l = some (.lst (ts.map V.ref)) ∧ ts.length = kvs.length ∧ (kvs.map (·.1)).Nodup ∧
  (∀ (j : Nat) (k : List Key) (v : V), kvs[j]? = some (k, v) → ∃ t q, ts[j]? = some t ∧ H t = some (.tup [.ref q, v]) ∧ H q = some (.tup (k.map kV))) ∧ ∀ p, H p = none → Q (.ref p) (upd H p (.dT kvs))
theorem kt_choose {X : Cx} {pins : List (Addr × Obj)} {σ : L2.St} {H : Hp} {s : Shared} (I : Inv X pins σ H s) : ∀ (kvs : List (List Key × V)) (ts : List Addr), ts.length = kvs.length →
    (∀ (j : Nat) (k : List Key) (v : V), kvs[j]? = some (k, v) → ∃ t q, ts[j]? = some t ∧ H t = some (.tup [.ref q, v]) ∧ H q = some (.tup (k.map kV))) →
    ∃ xs : List (List Key × Addr × Value), KT H kvs xs ∧ ∀ (j : Nat) (x : List Key × Addr × Value), xs[j]? = some x → ∃ t, ts[j]? = some t ∧ s.heap.IsTuple t #[.ref x.2.1, x.2.2]
  | [], [], _, _ => ⟨[], .nil, fun j x e => by simp at e⟩
  | [], _ :: _, h, _ => by simp at h
  | _ :: _, [], h, _ => by simp at h
  | (k, v) :: kvs, t :: ts, h, hp => by
    obtain ⟨xs, rel, hx⟩ := kt_choose I kvs ts (by simpa using h) fun j k v e => by
      obtain ⟨t, q, e1, e2, e3⟩ := hp (j + 1) k v (by simpa using e)
      exact ⟨t, q, by simpa using e1, e2, e3⟩
    obtain ⟨t', q, e1, e2, e3⟩ := hp 0 k v rfl
    have e1 : some t = some t' := e1
    cases e1
    obtain ⟨_, its, rv, ht⟩ := I.hok t _ e2
    cases rv with
    | cons r1 r2 => cases r2 with
    | cons r3 r4 =>
      cases r4
      cases r1
      refine ⟨(k, q, _) :: xs, .cons ⟨rfl, e3, r3⟩ rel, fun j x e => ?_⟩
      cases j with
      | zero =>
        have e : some _ = some x := e
        cases e
        obtain ⟨o, ho, hc, n, hd⟩ := ht
        exact ⟨t, rfl, o, ho, hc, n, hd⟩
      | succ j =>
        obtain ⟨t2, g1, g2⟩ := hx j x (by simpa using e)
        exact ⟨t2, by simpa using g1, g2⟩
theorem call_dictPT {X : Cx} (hc : X.calm = true) (hu : X.A.units + 4 < cLine) : CallR X (.type "dict") rDictPT := by
  intro pins s σ H vs us Q I r h
  obtain ⟨l, ts, kvs, rfl, hl, hlen, hnd, hp, q⟩ := h
  cases r with
  | cons r1 r2 =>
    cases r2
    cases r1
    obtain ⟨hz, its, n, rv, hget⟩ := I.hok l _ hl
    have ei := L2.refs_at rv
    subst ei
    rw [List.length_map] at hz
    obtain ⟨xs, rel, hx⟩ := kt_choose I kvs ts hlen hp
    have lx : kvs.length = xs.length := Paired.length rel
    have keys : xs.map (·.1) = kvs.map (·.1) := by
      have : ∀ {ks : List (List Key × V)} {ys : List (List Key × Addr × Value)}, KT H ks ys → ys.map (·.1) = ks.map (·.1) := by
        intro ks ys p
        induction p with
        | nil => rfl
        | cons h t ih => rw [List.map_cons, List.map_cons, ih, h.1]
      exact this rel
    have isKey : ∀ x ∈ xs, (tupleKind (mixKind X.prog X.w)).is s.heap x.1 x.2.1 := by
      have : ∀ {ks : List (List Key × V)} {ys : List (List Key × Addr × Value)}, KT H ks ys → ∀ x ∈ ys, (tupleKind (mixKind X.prog X.w)).is s.heap x.1 x.2.1 := by
        intro ks ys p
        induction p with
        | nil => intro x hx; exact nomatch hx
        | @cons a b _ _ h t ih =>
          intro x hx
          rcases List.mem_cons.mp hx with e | hx
          · rw [e]
            exact key_of I.hok (by rw [← h.1]; exact h.2.1)
          · exact ih x hx
      exact this rel
    have arg := PySem.PairArg.list (prog := X.prog) (w := X.w) l (ts.map Value.ref).toArray (fun j => ts.getD j 0) (xs.map fun x => (Value.ref x.2.1, x.2.2))
    refine PySem.call_dict_pairsH (knd := tupleKind (mixKind X.prog X.w)) (ps := xs) arg (I.ok.hd hc) (show X.A.units + 1 + 1 < cLine by omega) ⟨⟨_, n, hget, rfl, rfl, rfl⟩, by simp; omega, fun j k v e => ?_⟩ ⟨by rw [List.length_map], fun i key v e => ?_⟩ (fun h' hk x hx => ?_) (by rw [List.length_map]; omega) fun h' tk hd' hk => ?_
    · rw [List.getElem?_map] at e
      obtain ⟨x, hxj, ex⟩ := Option.map_eq_some_iff.mp e
      cases ex
      obtain ⟨t, ht, tup⟩ := hx j x hxj
      have gd : ts.getD j 0 = t := by rw [List.getD_eq_getElem?_getD, ht]; rfl
      refine ⟨?_, ?_⟩
      · show (ts.map Value.ref).toArray[j]? = some (.ref (ts.getD j 0))
        rw [gd, List.getElem?_toArray, List.getElem?_map, ht]
        rfl
      · show PySem.PairAt s.heap (ts.getD j 0) _ _
        rw [gd]
        exact .inl tup
    · have e : (xs.map fun x => (Value.ref x.2.1, x.2.2))[i]? = some (key, v) := e
      rw [List.getElem?_map] at e
      obtain ⟨x, hxj, ex⟩ := Option.map_eq_some_iff.mp e
      cases ex
      exact ⟨x.1, x.2.1, hxj, rfl⟩
    · obtain ⟨o, items, m, h1, h2, h3, h4⟩ := isKey x hx
      exact ⟨o, items, m, hk _ _ (Nat.ne_of_lt (Heap.lt_size h1)) (by simp) h1, h2, h3, h4⟩
    · rw [PySem.storedAllH_nil_of_nodup xs (by rw [keys]; exact hnd)] at hd'
      obtain ⟨o, es, ep, ho, hex, hdt, hes, _, hn2⟩ := hd'
      have hm : (s.heap.objs.size == sysModules) = false := beq_eq_false_iff_ne.mpr (Nat.ne_of_gt I.big)
      have nS : H s.heap.objs.size = none := I.hok.fresh (Nat.le_refl _)
      refine ⟨.ref s.heap.objs.size, _, I.laid (t' := tk) (fun b o e => hk b o (by simp) e) (Nat.le_refl _) (show ObjOk X.prog X.w _ _ _ (.dT kvs) from ⟨by omega, hm, xs, ?_, o, es, ep, ho, hex, hdt, hes, hn2⟩), rfl, q _ nS⟩
      refine L2.Paired.mapP rel fun a b z => ⟨z.1, ?_, z.2.2⟩
      rw [upd_ne (ne_of_none z.2.1 nS)]
      exact z.2.1
end Bw
/-! A dict of bounds: put, copied, its keys picked and sorted. -/
namespace Bw
open PySem PySem.Spec PyProof.Rows L2 Evl
section
variable {K : PySem.W.Frag} {C : Addr} {σ : L2.St} {H : Hp} {ta tb tc te : TE} {D : Ends} {t n N : Nat} {E F : List Edge}
/-- a bound put into a list of bounds -/
def putE (F : List Edge) (e : Edge) : List Edge := if (lookE F e.1 e.2.1).isSome = true then repE F e else F ++ [e]
theorem putE_kv {e : Edge} : putK (F.map kvE) (ekey e) (.int e.2.2) = (putE F e).map kvE := by
  have vl : valV (F.map kvE) (ekey e) = (lookE F e.1 e.2.1).map V.int := val_look
  unfold putE
  cases el : lookE F e.1 e.2.1 with
  | none =>
    rw [if_neg (by decide), L2.putK_new _ (by rw [vl, el]; rfl), List.map_append]
    rfl
  | some x => rw [if_pos (show (some x).isSome = true from rfl), put_there el]
theorem putE_nd {e : Edge} (hn : (F.map ekey).Nodup) : ((putE F e).map ekey).Nodup := by
  unfold putE
  cases el : lookE F e.1 e.2.1 with
  | none =>
    rw [if_neg (by decide)]
    have out := look_none hn el
    refine nodup_app hn (by simp) fun f hf f' hf' z => ?_
    rw [List.mem_singleton.mp hf'] at z
    exact out f hf z
  | some x =>
    rw [if_pos (show (some x).isSome = true from rfl), rep_keys]
    exact hn
theorem putE_good {e : Edge} (hg : GoodE N F) (he : e.1 < N ∧ e.2.1 < N ∧ e.1 ≠ e.2.1) : GoodE N (putE F e) := by
  intro f hf
  unfold putE at hf
  cases el : lookE F e.1 e.2.1 with
  | none =>
    rw [el, if_neg (by decide)] at hf
    rcases List.mem_append.mp hf with hf | hf
    · exact hg f hf
    · rw [List.mem_singleton.mp hf]; exact he
  | some x =>
    rw [el, if_pos (show (some x).isSome = true from rfl)] at hf
    obtain ⟨g, hgm, rfl⟩ := List.mem_map.mp hf
    by_cases c : g.1 = e.1 ∧ g.2.1 = e.2.1
    · rw [if_pos c]; exact he
    · rw [if_neg c]; exact hg g hgm
theorem look_eq {G G' : List Edge} {a b a' b' : Nat} (hn : (G.map ekey).Nodup) (hn' : (G'.map ekey).Nodup) (h : ∀ x, (a, b, x) ∈ G ↔ (a', b', x) ∈ G') : lookE G a b = lookE G' a' b' := by
  cases h1 : lookE G a b with
  | some x => exact ((look_mem hn').mpr ((h x).mp ((look_mem hn).mp h1))).symm
  | none =>
    cases h2 : lookE G' a' b' with
    | none => rfl
    | some x =>
      have := (look_mem hn).mpr ((h x).mpr ((look_mem hn').mp h2))
      rw [h1] at this
      exact nomatch this
theorem putE_look {e : Edge} (hn : (F.map ekey).Nodup) : lookE (putE F e) = setM (lookE F) e.1 e.2.1 e.2.2 := by
  funext x y
  have nd := putE_nd (e := e) hn
  unfold setM
  by_cases q : x = e.1 ∧ y = e.2.1
  · rw [if_pos q, q.1, q.2]
    refine (look_mem nd).mpr ?_
    unfold putE
    cases el : lookE F e.1 e.2.1 with
    | none => rw [if_neg (by decide)]; exact List.mem_append_right _ (List.mem_singleton.mpr rfl)
    | some w =>
      rw [if_pos (show (some w).isSome = true from rfl)]
      exact List.mem_map.mpr ⟨_, (look_mem hn).mp el, by rw [if_pos ⟨rfl, rfl⟩]⟩
  · rw [if_neg q]
    refine look_eq nd hn fun w => ?_
    unfold putE
    cases el : lookE F e.1 e.2.1 with
    | none =>
      rw [if_neg (by decide)]
      constructor
      · intro h
        rcases List.mem_append.mp h with h | h
        · exact h
        · have := List.mem_singleton.mp h
          exact absurd ⟨by rw [← this], by rw [← this]⟩ q
      · exact fun h => List.mem_append_left _ h
    | some v =>
      rw [if_pos (show (some v).isSome = true from rfl)]
      constructor
      · intro h
        obtain ⟨g, hg, z⟩ := List.mem_map.mp h
        by_cases c : g.1 = e.1 ∧ g.2.1 = e.2.1
        · rw [if_pos c] at z
          exact absurd ⟨by rw [z], by rw [z]⟩ q
        · rw [if_neg c] at z
          rw [← z]
          exact hg
      · intro h
        exact List.mem_map.mpr ⟨_, h, by rw [if_neg q]⟩
/-- refs of keys -/
def KeysAt (H : Hp) (es : List Edge) (cs : List Addr) : Prop := cs.length = es.length ∧ ∀ (j : Nat) (e : Edge), es[j]? = some e → ∃ q, cs[j]? = some q ∧ H q = some (.tup (eTup e))
theorem KeysAt.ex {H' : Hp} {es : List Edge} {cs : List Addr} (h : KeysAt H es cs) (e : Ex H H') : KeysAt H' es cs := ⟨h.1, fun j f hf => by
  obtain ⟨q, h1, h2⟩ := h.2 j f hf
  exact ⟨q, h1, e _ _ h2⟩⟩
theorem KeysAt.app {es : List Edge} {cs : List Addr} {e : Edge} {q : Addr} (h : KeysAt H es cs) (hq : H q = some (.tup (eTup e))) : KeysAt H (es ++ [e]) (cs ++ [q]) := ⟨by rw [List.length_append, List.length_append, h.1]; rfl, fun j f hf => by
  rcases Nat.lt_or_ge j es.length with hj | hj
  · rw [List.getElem?_append_left hj] at hf
    obtain ⟨p, h1, h2⟩ := h.2 j f hf
    exact ⟨p, by rw [List.getElem?_append_left (by rw [h.1]; exact hj)]; exact h1, h2⟩
  · rw [List.getElem?_append_right hj] at hf
    have : j - es.length = 0 := by
      have := (List.getElem?_eq_some_iff.mp hf).1
      simp at this
      omega
    rw [this] at hf
    have hf : e = f := by simpa using hf
    rw [← hf]
    refine ⟨q, ?_, hq⟩
    rw [List.getElem?_append_right (by rw [h.1]; exact hj), h.1, this]
    rfl⟩
theorem filter_take {f : Edge → Bool} {i : Nat} {e : Edge} (h : E[i]? = some e) : (E.take (i + 1)).filter f = (E.take i).filter f ++ (if f e = true then [e] else []) := by
  rw [take_step h, List.filter_append]
  by_cases c : f e = true
  · rw [if_pos c, List.filter_cons_of_pos c, List.filter_nil]
  · rw [if_neg c, List.filter_cons_of_neg c, List.filter_nil]
/-- [key for key in bounds if t] -/
theorem keysIf_made {td : TE} {tt : TT} {d : Addr} {i1 : Nat} {vs : List Nat} {Q : VK} (f : Edge → Bool) (h : ∀ H1, Ev td σ H1 (.ref d)) (hd : H d = some (.dT (E.map kvE))) (hz : E.length ≤ 1000) (hw : ∀ x, wipe ((wipe σ vs).set i1 (some x)) vs = wipe σ vs) (hv : ∀ x, ((wipe σ vs).set i1 (some x))[i1]? = some (some x))
    (ht : ∀ (e : Edge) q H1, (∀ b o, b ≠ d → H b = some o → H1 b = some o) → e ∈ E → H1 q = some (.tup (eTup e)) → EvT tt ((wipe σ vs).set i1 (some (.ref q))) H1 (f e))
    (k : ∀ l cs H2, Ex H H2 → H l = none → H2 l = some (.lst (cs.map V.ref)) → KeysAt H2 (E.filter f) cs → Q (.ref l) H2) : tLockE (tLc (iKeys td) (gName i1) tt (tVar i1) vs) σ H Q := by
  refine ⟨d, _, hd, True.intro, fun od => ?_⟩
  refine h _ _ (Ex.refl _) _ fun H1 e1 => ⟨d, od, rfl, Or.inr ⟨_, e1 _ _ upd_same, fun Dl hD => ?_⟩⟩
  have hd1 := e1 _ _ upd_same
  have off : ∀ b o, b ≠ d → H b = some o → H1 b = some o := fun b o nb hb => e1 _ _ (by rw [upd_ne nb]; exact hb)
  refine lc_it walk_keysT (fun i H' => H1 Dl = none ∧ Ex H1 H' ∧ ∃ cs : List Addr, H' Dl = some (.lst (cs.map V.ref)) ∧ cs.length ≤ i ∧ KeysAt H' ((E.take i).filter f) cs) ⟨hD, Ex.new hD, [], upd_same, Nat.le_refl _, rfl, fun j e z => by simp at z⟩ (fun i H' _ p => p.2.1 _ _ hd1) (fun i x H' H2 hi p y => ?_) (fun H' p => ?_)
  · obtain ⟨rfl, key, v, q, hkv, rfl, hq⟩ := y
    obtain ⟨p1, p2, cs, p3, p4, p5⟩ := p
    obtain ⟨e, hE, rfl, rfl⟩ := edge_at hkv
    have hm := List.mem_of_getElem? hE
    rw [List.length_map] at hi
    refine ⟨hw _, ?_⟩
    refine ht e q H2 (fun b o nb hb => p2 _ _ (off b o nb hb)) hm hq H2 (Ex.refl _) _ fun H3 e3 => ?_
    cases hf : f e with
    | true =>
      refine iteT ⟨.ref q, hv _, _, e3 _ _ p3, ?_, p1, Ex.mut (p2.trans e3) p1, cs ++ [q], by rw [upd_same, List.map_append]; rfl, by rw [List.length_append]; show cs.length + 1 ≤ i + 1; omega, ?_⟩
      · rw [List.length_map]
        exact sz_lt (by omega)
      · rw [filter_take hE, if_pos hf]
        have k3 := p5.ex e3
        have go : ∀ (b : Addr) (xs : List V), H3 b = some (.tup xs) → upd H3 Dl (.lst (cs.map V.ref ++ [.ref q])) b = some (.tup xs) := fun b xs hb => by
          rw [upd_ne (fun z => by rw [z, e3 _ _ p3] at hb; exact nomatch hb)]
          exact hb
        refine KeysAt.app ⟨k3.1, fun j g hg => ?_⟩ (go q _ (e3 _ _ hq))
        obtain ⟨r, h1, h2⟩ := k3.2 j g hg
        exact ⟨r, h1, go r _ h2⟩
    | false =>
      refine iteF ⟨p1, p2.trans e3, cs, e3 _ _ p3, by omega, ?_⟩
      rw [filter_take hE, if_neg (by rw [hf]; decide), List.append_nil]
      exact p5.ex e3
  · obtain ⟨p1, p2, cs, p3, p4, p5⟩ := p
    rw [List.length_map, List.take_length] at p5
    have e2 : Ex (upd H d (.frz od (.dT (E.map kvE)))) H' := e1.trans p2
    have hl0 : upd H d (.frz od (.dT (E.map kvE))) Dl = none := fresh_back e1 p1
    have nld : Dl ≠ d := fun z => by rw [z, upd_same] at hl0; exact nomatch hl0
    rw [upd_ne nld] at hl0
    refine ⟨p2 _ _ hd1, k Dl cs _ (ex_unlock hd e2) hl0 (by rw [upd_ne nld]; exact p3) ⟨p5.1, fun j g hg => ?_⟩⟩
    obtain ⟨r, h1, h2⟩ := p5.2 j g hg
    refine ⟨r, h1, ?_⟩
    rw [upd_ne (fun z => by rw [z, p2 _ _ hd1] at h2; exact nomatch h2)]
    exact h2
/-- dict(list(d.items())) -/
theorem dict_copied {c : Addr} {Q : VK} (h : Ev ta σ H (.ref c)) (hc : H c = some (.dT (E.map kvE))) (hn : (E.map ekey).Nodup) (k : ∀ d H2, H d = none → Ex H H2 → H2 d = some (.dT (E.map kvE)) → Q (.ref d) H2) :
    tCB rDictPT (tCons (tCB rListItT (tCons (tBM0 K "dict" DX.rItemsT ta) tNil)) tNil) σ H Q := by
  refine h H (Ex.refl _) _ fun H1 e1 => ?_
  have c1 := e1 _ _ hc
  refine ⟨Or.inr (Or.inr (Or.inl ⟨rfl, Or.inr ⟨_, c1⟩⟩)), c, _, rfl, rfl, c1, fun p hp => ?_⟩
  have e2 : Ex H1 (upd H1 p (DX.itemsO p c)) := Ex.new hp
  refine ⟨p, c, _, rfl, upd_same, e2 _ _ c1, fun l ts H2 e3 hl h2 hts hall => ?_⟩
  refine ⟨l, ts, _, rfl, h2, hts, by rw [keys_kvE]; exact hn, fun j kk v hj => ?_, fun d hd => ?_⟩
  · obtain ⟨t, q, h4, h5, h6⟩ := hall j kk v hj
    exact ⟨t, q, h4, h6, e3 _ _ h5⟩
  · exact k d _ (fresh_back (e1.trans (e2.trans e3)) hd) ((e1.trans (e2.trans e3)).trans (Ex.new hd)) upd_same
end
end Bw
/-! The laws' own closing: one step. -/
namespace Bw
open PySem PySem.Spec PyProof.Rows L2 Evl
section
variable {K : PySem.W.Frag} {C : Addr} {σ : L2.St} {H : Hp} {ta tb tc te : TE} {D : Ends} {t n N : Nat} {E F : List Edge}
/-- sorted(bounds) -/
theorem keys_sorted {d : Addr} {Q : VK} (h : Ev ta σ H (.ref d)) (hd : H d = some (.dT (F.map kvE))) (k : ∀ p cs F' H2, Ex H H2 → H p = none → H2 p = some (.lst (cs.map V.ref)) → F'.Perm F → KeysAt H2 F' cs → Q (.ref p) H2) : tCB rSortedDT (tCons ta tNil) σ H Q := by
  refine h H (Ex.refl _) _ fun H1 e1 => ?_
  refine ⟨d, _, F.map key2, rfl, Or.inl (e1 _ _ hd), by rw [keys_kvE, List.map_map]; rfl, fun qs cs p hperm hsrt hprs hp => ?_⟩
  obtain ⟨F', hF, hq⟩ := perm_lift key2 qs F hperm
  have eP : Ex H1 (upd H1 p (.lst (cs.map V.ref))) := Ex.new hp
  have lc : cs.length = F'.length := by rw [← prs_len hprs, ← hq, List.length_map]
  refine k p cs F' _ (e1.trans eP) (fresh_back e1 hp) upd_same hF ⟨lc, fun j e he => ?_⟩
  have hj : j < cs.length := by rw [lc]; exact (List.getElem?_eq_some_iff.mp he).1
  have hc : cs[j]? = some cs[j] := List.getElem?_eq_getElem hj
  obtain ⟨q, hq1, hq2⟩ := prs_at hprs hc
  rw [← hq, List.getElem?_map, he] at hq1
  have : key2 e = q := by simpa using hq1
  subst this
  exact ⟨_, hc, eP _ _ hq2⟩
/-- one bound looked at behind one pair -/
def tClIn (K : PySem.W.Frag) : TS := (tSeq (tPar 9 10 (tCons (tTup (tCons (tOp (rIxT K) (tVar 5) (tC (.int 0))) (tCons (tOp (rIxT K) (tVar 7) (tC (.int 1))) tNil))) (tCons (tOp rAddI (tDGet (tVar 2) (tVar 5)) (tDGet (tVar 0) (tVar 7))) tNil))) (tSeq (tIfS (tAnd (tTest (tOp rEq (tOp (rIxT K) (tVar 9) (tC (.int 0))) (tOp (rIxT K) (tVar 9) (tC (.int 1))))) (tTest (tOp rLtI (tVar 10) (tC (.int 0))))) (tRet (tC .non)) tNext) (tIfS (tAnd (tTest (tOp rNe (tOp (rIxT K) (tVar 9) (tC (.int 0))) (tOp (rIxT K) (tVar 9) (tC (.int 1))))) (tOr (tB (tDNotIn (tVar 9) (tVar 2))) (tTest (tOp rLtI (tVar 10) (tDGet (tVar 2) (tVar 9)))))) (tSeq (sDPut (tVar 2) (tVar 9) (tVar 10)) (tAsg (tC (.bl false)) (gName 3))) tNext)))
theorem dec_int {a b : Nat} : decide (V.int (a : Int) = V.int (b : Int)) = decide (a = b) := by
  by_cases h : a = b
  · rw [h]
    exact (decide_eq_true rfl).trans (decide_eq_true rfl).symm
  · exact (decide_eq_false fun z => h (by injection z with z; omega)).trans (decide_eq_false h).symm
theorem cl_step {c d q r : Addr} {many : Int} {st : Bool} {v4 v6 v8 v9 v10 : Option V} {a x y : Nat} {u w : Int} (hc : H c = some (.dT (E.map kvE))) (hd : H d = some (.dT (F.map kvE))) (nE : (E.map ekey).Nodup) (nF : (F.map ekey).Nodup) (hz : F.length ≤ 1000)
    (hq : H q = some (.tup (eTup (a, x, u)))) (hr : H r = some (.tup (eTup (x, y, w)))) (he : (x, y, w) ∈ E) (hu : (a, x, u) ∈ F)
    (kR : a = y → u + w < 0 → ∀ H2, Ex H H2 → D.rt .non H2)
    (kS : a ≠ y → (∀ z, lookE F a y = some z → u + w < z) → ∀ p H2, (∀ b o, b ≠ d → H b = some o → H2 b = some o) → H2 d = some (.dT ((putE F (a, y, u + w)).map kvE)) → D.nx [some (.ref c), some (.int many), some (.ref d), some (.bl false), v4, some (.ref q), v6, some (.ref r), v8, some (.ref p), some (.int (u + w))] H2)
    (kN : (a = y → 0 ≤ u + w) → (a ≠ y → Lo (lookE F a y) (some (u + w))) → ∀ p H2, Ex H H2 → D.nx [some (.ref c), some (.int many), some (.ref d), some (.bl st), v4, some (.ref q), v6, some (.ref r), v8, some (.ref p), some (.int (u + w))] H2) :
    tClIn K D [some (.ref c), some (.int many), some (.ref d), some (.bl st), v4, some (.ref q), v6, some (.ref r), v8, v9, v10] H := by
  have ncd : ∀ {b : Addr} {xs : List V}, H b = some (.tup xs) → b ≠ d := fun {b xs} h z => by rw [z, hd] at h; exact nomatch h
  unfold tClIn
  generalize hs : ([some (.ref c), some (.int many), some (.ref d), some (.bl st), v4, some (.ref q), v6, some (.ref r), v8, v9, v10] : L2.St) = σ0
  have way : EvU (tTup (tCons (tOp (rIxT K) (tVar 5) (tC (.int 0))) (tCons (tOp (rIxT K) (tVar 7) (tC (.int 1))) tNil))) σ0 H [.int (a : Int), .int (y : Int)] := by
    subst hs
    exact eu_tup (ea_cons (ev_op (ev_var rfl) ev_c (rv_ixT (st_of hq) rfl)) (ea_cons (ev_op (ev_var rfl) ev_c (rv_ixT (st_of hr) rfl)) ea_nil)) (by show 2 ≤ 100000; decide)
  have tot : Ev (tOp rAddI (tDGet (tVar 2) (tVar 5)) (tDGet (tVar 0) (tVar 7))) σ0 H (.int (u + w)) := by
    subst hs
    exact ev_op (ev_dget (k := ekey (a, x, u)) (ev_var rfl) (ev_var rfl) (Or.inl hd) hq (val_mem nF hu)) (ev_dget (k := ekey (x, y, w)) (ev_var rfl) (ev_var rfl) (Or.inl hc) hr (val_mem nE he)) rv_I0
  unfold tSeq tPar
  refine way H (Ex.refl _) _ fun p H1 hp e1 h1 => ?_
  refine tot H1 e1 _ fun H2 e2 => ?_
  refine ⟨_, _, rfl, ?_⟩
  subst hs
  have e12 := e1.trans e2
  have h2 := e2 _ _ h1
  have hd2 := e12 _ _ hd
  show tSeq (tIfS (tAnd (tTest (tOp rEq (tOp (rIxT K) (tVar 9) (tC (.int 0))) (tOp (rIxT K) (tVar 9) (tC (.int 1))))) (tTest (tOp rLtI (tVar 10) (tC (.int 0))))) (tRet (tC .non)) tNext) (tIfS (tAnd (tTest (tOp rNe (tOp (rIxT K) (tVar 9) (tC (.int 0))) (tOp (rIxT K) (tVar 9) (tC (.int 1))))) (tOr (tB (tDNotIn (tVar 9) (tVar 2))) (tTest (tOp rLtI (tVar 10) (tDGet (tVar 2) (tVar 9)))))) (tSeq (sDPut (tVar 2) (tVar 9) (tVar 10)) (tAsg (tC (.bl false)) (gName 3))) tNext) D [some (.ref c), some (.int many), some (.ref d), some (.bl st), v4, some (.ref q), v6, some (.ref r), v8, some (.ref p), some (.int (u + w))] H2
  generalize hs : ([some (.ref c), some (.int many), some (.ref d), some (.bl st), v4, some (.ref q), v6, some (.ref r), v8, some (.ref p), some (.int (u + w))] : L2.St) = σ1
  have i9 : ∀ H3, Ex H2 H3 → Ev (tOp (rIxT K) (tVar 9) (tC (.int 0))) σ1 H3 (.int (a : Int)) ∧ Ev (tOp (rIxT K) (tVar 9) (tC (.int 1))) σ1 H3 (.int (y : Int)) := fun H3 e3 => by
    subst hs
    exact ⟨ev_op (ev_var rfl) ev_c (rv_ixT (st_of (e3 _ _ h2)) rfl), ev_op (ev_var rfl) ev_c (rv_ixT (st_of (e3 _ _ h2)) rfl)⟩
  have v10' : ∀ H3, Ev (tVar 10) σ1 H3 (.int (u + w)) := fun H3 => by subst hs; exact ev_var rfl
  have v9' : ∀ H3, Ev (tVar 9) σ1 H3 (.ref p) := fun H3 => by subst hs; exact ev_var rfl
  have v2' : ∀ H3, Ev (tVar 2) σ1 H3 (.ref d) := fun H3 => by subst hs; exact ev_var rfl
  have t1 : EvT (tAnd (tTest (tOp rEq (tOp (rIxT K) (tVar 9) (tC (.int 0))) (tOp (rIxT K) (tVar 9) (tC (.int 1))))) (tTest (tOp rLtI (tVar 10) (tC (.int 0))))) σ1 H2 (decide (V.int (a : Int) = V.int (y : Int)) && decide (u + w < 0)) := et_and (et_test (ev_op (i9 H2 (Ex.refl _)).1 (i9 H2 (Ex.refl _)).2 (rv_eq rfl))) fun _ => et_test (ev_op (v10' H2) ev_c rv_I0)
  refine q_when t1 (fun b H3 e3 => ?_) fun b H3 e3 => ?_
  · rw [dec_int, Bool.and_eq_true] at b
    exact s_ret ev_c fun H4 e4 => kR (of_decide_eq_true b.1) (of_decide_eq_true b.2) H4 (e12.trans (e3.trans e4))
  · rw [dec_int] at b
    have hnn : a = y → 0 ≤ u + w := fun z => by
      rw [decide_eq_true z, Bool.true_and] at b
      have := of_decide_eq_false b
      omega
    have hd3 := e3 _ _ hd2
    have h3 := e3 _ _ h2
    have hkk : H3 p = some (.tup ((ekey (a, y, u + w)).map kV)) := h3
    have vl : valV (F.map kvE) (ekey (a, y, u + w)) = (lookE F a y).map V.int := val_look
    have nin : Ev (tDNotIn (tVar 9) (tVar 2)) σ1 H3 (.bl (!(valV (F.map kvE) (ekey (a, y, u + w))).isSome)) := ev_dnotin (v9' H3) (v2' H3) hd3 hkk
    have put : a ≠ y → (∀ z, lookE F a y = some z → u + w < z) → ∀ H4, Ex H3 H4 → tSeq (sDPut (tVar 2) (tVar 9) (tVar 10)) (tAsg (tC (.bl false)) (gName 3)) D σ1 H4 := fun ne lt H4 e4 => by
      unfold tSeq sDPut
      refine (v10' H4) H4 (Ex.refl _) _ fun H5 e5 => ?_
      have e45 := e4.trans e5
      have e05 := e12.trans (e3.trans e45)
      refine v2' H5 H5 (Ex.refl _) _ fun H6 e6 => ?_
      refine v9' H6 H6 (Ex.refl _) _ fun H7 e7 => ?_
      have e57 := e6.trans e7
      refine ⟨d, _, rfl, DPut.t (e57 _ _ (e45 _ _ hd3)) (e57 _ _ (e45 _ _ hkk)) (by rw [List.length_map]; exact sz_lt (by omega)), ?_⟩
      subst hs
      refine s_asg ev_c fun H8 e8 => ?_
      refine kS ne lt p H8 (fun b o nb hb => e8 _ _ ?_) (e8 _ _ ?_)
      · rw [upd_ne nb]
        exact e57 _ _ (e05 _ _ hb)
      · rw [upd_same, ← putE_kv]
    have ne9 : EvT (tTest (tOp rNe (tOp (rIxT K) (tVar 9) (tC (.int 0))) (tOp (rIxT K) (tVar 9) (tC (.int 1))))) σ1 H3 (!decide (V.int (a : Int) = V.int (y : Int))) := et_test (ev_op (i9 H3 e3).1 (i9 H3 e3).2 (rv_ne rfl))
    rw [dec_int] at ne9
    have non : (a ≠ y → Lo (lookE F a y) (some (u + w))) → ∀ H4, Ex H3 H4 → D.nx σ1 H4 := fun lo H4 e4 => by
      subst hs
      exact kN hnn lo p H4 (e12.trans (e3.trans e4))
    cases el : lookE F a y with
    | none =>
      rw [vl, el] at nin
      refine s_when (et_and ne9 fun _ => et_or (a := true) (et_B nin) fun z => nomatch z) (b := !decide (a = y) && (true || false)) (fun b H4 e4 => ?_) fun b H4 e4 => ?_
      · have ne : a ≠ y := fun z => by rw [decide_eq_true z] at b; exact nomatch b
        exact put ne (fun z hz => by rw [el] at hz; exact nomatch hz) H4 e4
      · refine non (fun ne => ?_) H4 e4
        rw [decide_eq_false ne] at b
        exact nomatch b
    | some z =>
      rw [vl, el] at nin
      have get : Ev (tDGet (tVar 2) (tVar 9)) σ1 H3 (.int z) := ev_dget (v2' H3) (v9' H3) (Or.inl hd3) hkk (by rw [vl, el]; rfl)
      refine s_when (b := !decide (a = y) && (false || decide (u + w < z))) (et_and ne9 fun _ => et_or (a := false) (et_B nin) fun _ => et_test (ev_op (v10' H3) get rv_I0)) (fun b H4 e4 => ?_) fun b H4 e4 => ?_
      · rw [Bool.false_or, Bool.and_eq_true] at b
        have ne : a ≠ y := fun z => by rw [decide_eq_true z] at b; exact nomatch b.1
        exact put ne (fun z' hz' => by rw [el] at hz'; cases hz'; exact of_decide_eq_true b.2) H4 e4
      · refine non (fun ne => ?_) H4 e4
        rw [decide_eq_false ne, Bool.false_or] at b
        have := of_decide_eq_false (show decide (u + w < z) = false from b)
        rw [el]
        exact lo_some.mpr ⟨z, rfl, by omega⟩
end
end Bw
/-! The laws' own closing: all bounds behind one pair, a turn. -/
namespace Bw
open PySem PySem.Spec PyProof.Rows L2 Evl
section
variable {K : PySem.W.Frag} {C : Addr} {σ : L2.St} {H : Hp} {ta tb tc te : TE} {D : Ends} {t n N : Nat} {E F : List Edge}
abbrev offd (d : Addr) (H H' : Hp) : Prop := ∀ b o, b ≠ d → H b = some o → H' b = some o
/-- within a turn -/
structure InT (d : Addr) (n : Nat) (E F0 : List Edge) (HL : Hp) (done : Nat → Edge → Prop) (k0 : Nat) (st : Bool) (H' : Hp) : Prop where
  off : offd d HL H'
  ex : ∃ F, H' d = some (.dT (F.map kvE)) ∧ GoodE (n + 1) F ∧ (F.map ekey).Nodup ∧ Tn (n + 1) E (lookE F0) done st (lookE F)
  still : (∃ s, OkS E s) → n + 1 ≤ k0 + 2 → st = true
def tClCaps (K : PySem.W.Frag) : TS := (tFor (iList K (tLockE (tLc (iKeys (tVar 0)) (gName 8) (tTest (tOp rEq (tOp (rIxT K) (tVar 8) (tC (.int 0))) (tOp (rIxT K) (tVar 5) (tC (.int 1))))) (tVar 8) [8]))) (gName 7) (tClIn K))
theorem cl_caps {c d q : Addr} {F0 : List Edge} {HL : Hp} {many : Int} {k0 : Nat} {st : Bool} {v4 v6 v7 v9 v10 : Option V} {a x : Nat} {u0 : Int} {done : Nat → Edge → Prop} (gE : GoodE (n + 1) E) (nE : (E.map ekey).Nodup) (n1 : 1 ≤ n) (n2 : n ≤ 12) (R : Far E (lookE F0) (k0 + 1))
    (hc : HL c = some (.dT (E.map kvE))) (ncd : c ≠ d) (hq : HL q = some (.tup (eTup (a, x, u0)))) (nqd : q ≠ d) (hu0 : lookE F0 a x = some u0) (I : InT d n E F0 HL done k0 st H)
    (kR : (¬ ∃ s, OkS E s) → ∀ H2, offd d HL H2 → D.rt .non H2)
    (k : ∀ st2 w7 w9 w10 H2, InT d n E F0 HL (fun b e => done b e ∨ (b = a ∧ e ∈ E ∧ e.1 = x)) k0 st2 H2 → D.nx [some (.ref c), some (.int many), some (.ref d), some (.bl st2), v4, some (.ref q), v6, w7, none, w9, w10] H2) :
    tClCaps K D [some (.ref c), some (.int many), some (.ref d), some (.bl st), v4, some (.ref q), v6, v7, none, v9, v10] H := by
  obtain ⟨F, hF, gF, nF, T⟩ := I.ex
  have hcH := I.off c _ ncd hc
  have hqH := I.off q _ nqd hq
  unfold tClCaps tFor iList
  refine keysIf_made (d := c) (E := E) (fun e => decide (e.1 = x)) (fun H1 => ev_var rfl) hcH (lenG gE nE n1 n2) (fun _ => rfl) (fun _ => rfl) (fun e r H1 o1 he hr => ?_) fun l cs H2 e2 hl h2 kk => ?_
  · have nqc : q ≠ c := fun z => by rw [z, hcH] at hqH; exact nomatch hqH
    have := o1 q _ nqc hqH
    refine et_is (et_test (ev_op (ev_op (z := .int (e.1 : Int)) (ev_var rfl) ev_c (rv_ixT (st_of hr) rfl)) (ev_op (z := .int (x : Int)) (ev_var rfl) ev_c (rv_ixT (st_of this) rfl)) (rv_eq rfl))) dec_int
  obtain ⟨es, hes⟩ : ∃ es, es = E.filter fun e => decide (e.1 = x) := ⟨_, rfl⟩
  rw [← hes] at kk
  have nld : l ≠ d := fun z => by rw [z, hF] at hl; exact nomatch hl
  have hF2 := e2 _ _ hF
  have I2 : InT d n E F0 HL (fun b e => done b e ∨ (b = a ∧ e ∈ es.take 0)) k0 st H2 := ⟨fun b o nb hb => e2 _ _ (I.off b o nb hb), ⟨F, hF2, gF, nF, tn_imp T fun b e h => by
    rcases h with h | h
    · exact h
    · simp at h⟩, I.still⟩
  refine ⟨l, rfl, ⟨_, sq_of h2⟩, for_list (xs := cs.map V.ref) (fun j σ' H' => ∃ st v7 v9 v10, σ' = [some (.ref c), some (.int many), some (.ref d), some (.bl st), v4, some (.ref q), v6, v7, none, v9, v10] ∧ offd d H2 H' ∧ InT d n E F0 HL (fun b e => done b e ∨ (b = a ∧ e ∈ es.take j)) k0 st H') ⟨st, _, _, _, rfl, fun b o _ h => h, I2⟩ (fun j σ' H' _ ⟨_, _, _, _, _, o2, _⟩ => sq_of (o2 l _ nld h2)) (fun j y σ' H' hy ⟨st, v7, v9, v10, es', o2, I'⟩ => ?_) (fun σ' H' ⟨st, v7, v9, v10, es', o2, I'⟩ => ?_)⟩
  · subst es'
    rw [List.getElem?_map] at hy
    obtain ⟨r, hr0, rfl⟩ := Option.map_eq_some_iff.mp hy
    have hj : j < es.length := by rw [← kk.1]; exact (List.getElem?_eq_some_iff.mp hr0).1
    have hej : es[j]? = some es[j] := List.getElem?_eq_getElem hj
    obtain ⟨r', hr1, hr2⟩ := kk.2 j _ hej
    rw [hr0] at hr1
    cases hr1
    generalize es[j] = e at hej hr2
    have hme : e ∈ E.filter fun e => decide (e.1 = x) := by rw [← hes]; exact List.mem_of_getElem? hej
    obtain ⟨he, hx⟩ := List.mem_filter.mp hme
    have hx := of_decide_eq_true hx
    obtain ⟨x', y, w⟩ := e
    have hx : x' = x := hx
    subst hx
    obtain ⟨F', hF', gF', nF', T'⟩ := I'.ex
    obtain ⟨u, hu, -⟩ := lo_some.mp (show Lo (lookE F' a x') (some u0) by rw [← hu0]; exact T'.mono a x')
    have nrd : r ≠ d := fun z => by rw [z, hF2] at hr2; exact nomatch hr2
    have hm : (a, x', u) ∈ F' := (look_mem nF').mp hu
    obtain ⟨ga, -, -⟩ := gF' _ hm
    obtain ⟨-, gy, -⟩ := gE _ he
    have tk : es.take (j + 1) = es.take j ++ [(x', y, w)] := take_step hej
    have grow : ∀ b e, (done b e ∨ (b = a ∧ e ∈ es.take (j + 1))) → ((done b e ∨ (b = a ∧ e ∈ es.take j)) ∨ (b = a ∧ e = (x', y, w))) := fun b e h => by
      rcases h with h | ⟨h1, h⟩
      · exact Or.inl (Or.inl h)
      · rw [tk] at h
        rcases List.mem_append.mp h with h | h
        · exact Or.inl (Or.inr ⟨h1, h⟩)
        · exact Or.inr ⟨h1, List.mem_singleton.mp h⟩
    show tClIn K _ [some (.ref c), some (.int many), some (.ref d), some (.bl st), v4, some (.ref q), v6, some (.ref r), none, v9, v10] H'
    refine cl_step (F := F') (E := E) (a := a) (x := x') (y := y) (u := u) (w := w) (I'.off c _ ncd hc) hF' nE nF' (lenG gF' nF' n1 n2) (I'.off q _ nqd hq) (o2 r _ nrd hr2) he hm (fun hay hlt H3 e3 => ?_) (fun hay hlt p H3 o3 h3 => ?_) (fun h0 h1 p H3 e3 => ?_)
    · refine kR (fun ⟨s, fs⟩ => ?_) H3 fun b o nb hb => e3 _ _ (I'.off b o nb hb)
      have i1 := fd_le T'.fd fs hu
      have i2 : s x' - s y ≤ w := fs _ he
      rw [← hay] at i2
      omega
    · refine ⟨false, _, _, _, rfl, fun b o nb hb => o3 b o nb (o2 b o nb hb), fun b o nb hb => o3 b o nb (I'.off b o nb hb), ⟨_, h3, putE_good gF' ⟨ga, gy, hay⟩, putE_nd nF', ?_⟩, fun f hk => ?_⟩
      · rw [putE_look nF']
        exact tn_imp (tn_set (a := a) (e := (x', y, w)) T' he gE hu hay fun z hz => Int.le_of_lt (hlt z hz)) grow
      · exfalso
        have := I'.still f hk
        subst this
        obtain ⟨z, hz, lz⟩ := lo_some.mp ((set_never gE T' R hk f (a := a) he u hu).1 hay)
        have := hlt z hz
        have lz : z ≤ u + w := lz
        omega
    · exact ⟨st, _, _, _, rfl, fun b o nb hb => e3 _ _ (o2 b o nb hb), fun b o nb hb => e3 _ _ (I'.off b o nb hb), ⟨_, e3 _ _ hF', gF', nF', tn_imp (tn_skip (e := (x', y, w)) T' hu h0 h1) grow⟩, I'.still⟩
  · subst es'
    rw [List.length_map, kk.1, List.take_length] at I'
    refine k st v7 v9 v10 H' ⟨I'.off, ?_, I'.still⟩
    obtain ⟨F', hF', gF', nF', T'⟩ := I'.ex
    refine ⟨F', hF', gF', nF', tn_imp T' fun b e h => ?_⟩
    rcases h with h | ⟨h1, h2, h3⟩
    · exact Or.inl h
    · refine Or.inr ⟨h1, ?_⟩
      rw [hes]
      exact List.mem_filter.mpr ⟨h2, decide_eq_true h3⟩
end
end Bw
/-! The laws' own closing, whole. -/
namespace Bw
open PySem PySem.Spec PyProof.Rows L2 Evl
section
variable {K : PySem.W.Frag} {C : Addr} {σ : L2.St} {H : Hp} {ta tb tc te : TE} {D : Ends} {t n N : Nat} {E F : List Edge}
def tClTurn (K : PySem.W.Frag) : TS := (tSeq (tPar3 3 4 6 (tCons (tC (.bl true)) (tCons (tOp rAddI (tVar 4) (tC (.int 1))) (tCons (tCB rSortedDT (tCons (tVar 2) tNil)) tNil)))) (tFor (iList K (tVar 6)) (gName 5) (tClCaps K)))
theorem cl_turn {c d : Addr} {k0 : Nat} {v5 v6 v7 v9 v10 : Option V} (gE : GoodE (n + 1) E) (nE : (E.map ekey).Nodup) (n1 : 1 ≤ n) (n2 : n ≤ 12) (R : Far E (lookE F) (k0 + 1)) (Fd0 : Fd (n + 1) E (lookE F)) (gF : GoodE (n + 1) F) (nF : (F.map ekey).Nodup)
    (hc : H c = some (.dT (E.map kvE))) (hd : H d = some (.dT (F.map kvE))) (ncd : c ≠ d)
    (kR : (¬ ∃ s, OkS E s) → ∀ H2, offd d H H2 → D.rt .non H2)
    (k : ∀ st2 w5 w6 w7 w9 w10 H2, InT d n E F H (fun b e => e ∈ E ∧ ∃ u, lookE F b e.1 = some u) k0 st2 H2 → D.nx [some (.ref c), some (.int (n : Int)), some (.ref d), some (.bl st2), some (.int ((k0 + 1 : Nat) : Int)), w5, w6, w7, none, w9, w10] H2) :
    tClTurn K D [some (.ref c), some (.int (n : Int)), some (.ref d), some (.bl false), some (.int (k0 : Int)), v5, v6, v7, none, v9, v10] H := by
  unfold tClTurn tSeq tPar3
  refine (ev_c : Ev (tC (.bl true)) _ H (.bl true)) H (Ex.refl _) _ fun H1 e1 => ?_
  refine (ev_op (ev_var rfl) ev_c rv_I0 : Ev (tOp rAddI (tVar 4) (tC (.int 1))) [some (.ref c), some (.int (n : Int)), some (.ref d), some (.bl false), some (.int (k0 : Int)), v5, v6, v7, none, v9, v10] H1 (.int ((k0 : Int) + 1))) H1 (Ex.refl _) _ fun H2 e2 => ?_
  have e12 := e1.trans e2
  refine keys_sorted (ev_var rfl) (e12 _ _ hd) fun p cs F' H3 e3 hp h3 pm kk => ?_
  refine ⟨_, _, _, rfl, ?_⟩
  have e13 := e12.trans e3
  have hd3 := e13 _ _ hd
  have npd : p ≠ d := fun z => by rw [z, e12 _ _ hd] at hp; exact nomatch hp
  have ek : V.int ((k0 : Int) + 1) = V.int ((k0 + 1 : Nat) : Int) := by rw [Int.natCast_add]; rfl
  rw [ek]
  show tFor (iList K (tVar 6)) (gName 5) (tClCaps K) D [some (.ref c), some (.int (n : Int)), some (.ref d), some (.bl true), some (.int ((k0 + 1 : Nat) : Int)), v5, some (.ref p), v7, none, v9, v10] H3
  refine s_forLn (a := p) (xs := cs.map V.ref) (ev_var rfl) (sq_of h3) (fun i σ' H' => ∃ st v5 v7 v9 v10, σ' = [some (.ref c), some (.int (n : Int)), some (.ref d), some (.bl st), some (.int ((k0 + 1 : Nat) : Int)), v5, some (.ref p), v7, none, v9, v10] ∧ InT d n E F H3 (fun b e => e ∈ E ∧ ∃ f ∈ F'.take i, f.1 = b ∧ f.2.1 = e.1) k0 st H')
    (fun H4 e4 => ⟨true, _, _, _, _, rfl, fun b o nb hb => e4 _ _ hb, ⟨F, e4 _ _ hd3, gF, nF, tn_imp (tn_start Fd0) fun b e ⟨_, f, hf, _⟩ => by simp at hf⟩, fun _ _ => rfl⟩) (fun i σ' H' _ ⟨_, _, _, _, _, _, I⟩ => sq_of (I.off p _ npd h3)) (fun i y σ' H' hy ⟨st, v5, v7, v9, v10, es, I⟩ => ?_) (fun σ' H' ⟨st, v5, v7, v9, v10, es, I⟩ => ?_)
  · subst es
    rw [List.getElem?_map] at hy
    obtain ⟨q, hq0, rfl⟩ := Option.map_eq_some_iff.mp hy
    have hj : i < F'.length := by rw [← kk.1]; exact (List.getElem?_eq_some_iff.mp hq0).1
    have hej : F'[i]? = some F'[i] := List.getElem?_eq_getElem hj
    obtain ⟨q', hq1, hq2⟩ := kk.2 i _ hej
    rw [hq0] at hq1
    cases hq1
    generalize F'[i] = f at hej hq2
    have hf : f ∈ F := pm.mem_iff.mp (List.mem_of_getElem? hej)
    obtain ⟨a, x, u0⟩ := f
    have nqd : q ≠ d := fun z => by rw [z, hd3] at hq2; exact nomatch hq2
    have tk : F'.take (i + 1) = F'.take i ++ [(a, x, u0)] := take_step hej
    show tClCaps K _ [some (.ref c), some (.int (n : Int)), some (.ref d), some (.bl st), some (.int ((k0 + 1 : Nat) : Int)), some (.ref q), some (.ref p), v7, none, v9, v10] H'
    refine cl_caps (F0 := F) (HL := H3) (a := a) (x := x) (u0 := u0) gE nE n1 n2 R (e13 _ _ hc) ncd hq2 nqd ((look_mem nF).mpr hf) I (fun nf H4 o4 => ?_) fun st2 w7 w9 w10 H4 I4 => ?_
    · exact kR nf H4 fun b o nb hb => o4 b o nb (e13 _ _ hb)
    · refine ⟨st2, _, _, _, _, rfl, I4.off, ?_, I4.still⟩
      obtain ⟨G, hG, gG, nG, T⟩ := I4.ex
      refine ⟨G, hG, gG, nG, tn_imp T fun b e ⟨he, f, hf, h1, h2⟩ => ?_⟩
      rw [tk] at hf
      rcases List.mem_append.mp hf with hf | hf
      · exact Or.inl ⟨he, f, hf, h1, h2⟩
      · rw [List.mem_singleton.mp hf] at h1 h2
        exact Or.inr ⟨h1.symm, he, h2.symm⟩
  · subst es
    rw [List.length_map, kk.1, List.take_length] at I
    refine k st v5 _ v7 v9 v10 H' ⟨fun b o nb hb => I.off b o nb (e13 _ _ hb), ?_, I.still⟩
    obtain ⟨G, hG, gG, nG, T⟩ := I.ex
    refine ⟨G, hG, gG, nG, tn_imp T fun b e ⟨he, u, hu⟩ => ⟨he, _, pm.mem_iff.mpr ((look_mem nF).mp hu), rfl, rfl⟩⟩
theorem fd_base (nE : (E.map ekey).Nodup) (gE : GoodE N E) : Fd N E (lookE E) ∧ Far E (lookE E) 1 := by
  refine ⟨⟨fun a b x h => ?_, fun e he => ?_⟩, fun _ a b m x hab hm w => ?_⟩
  · have hm := (look_mem nE).mp h
    obtain ⟨h1, h2, h3⟩ := gE _ hm
    exact ⟨h3, h1, h2, 1, pw_one hm⟩
  · exact lo_some.mpr ⟨_, (look_mem nE).mpr he, Int.le_refl _⟩
  · have : m = 0 ∨ m = 1 := by omega
    rcases this with rfl | rfl
    · exact absurd (pw_zero w).1 hab
    · obtain ⟨c, y, w1, he⟩ := pw_last w
      obtain ⟨rfl, h0⟩ := pw_zero w1
      have : x = y := by omega
      rw [this]
      exact lo_some.mpr ⟨_, (look_mem nE).mpr he, Int.le_refl _⟩
def sp__law_closed (C : Addr) : Sp := spOf fun vs H P => ∃ (c : Addr) (n : Nat) (E : List Edge) (H0 : Hp), vs = [.ref c, .int (n : Int)] ∧ H c = some (.dT (E.map kvE)) ∧ GoodE (n + 1) E ∧ (E.map ekey).Nodup ∧ 1 ≤ n ∧ n ≤ 12 ∧ Ex H0 H ∧
  P = fun v H2 => (v = .non ∧ ∀ s, ¬ FitE n E s) ∨ ∃ d F, v = .ref d ∧ H0 d = none ∧ H2 d = some (.dT (F.map kvE)) ∧ GoodE (n + 1) F ∧ (F.map ekey).Nodup ∧ Closed (n + 1) (matE F) ∧ ∀ s, FitE n F s ↔ FitE n E s
def t__law_closed_2 (K : PySem.W.Frag) (C : Addr) : TS := (tRet (tIf (tB (tVar 3)) (tVar 2) (tC .non)))
def t__law_closed_1 (K : PySem.W.Frag) (C : Addr) : TS := tSeq (tWhile (tAnd (tNot (tB (tVar 3))) (tTest (tOp rLtI (tVar 4) (tOp rAddI (tVar 1) (tC (.int 3)))))) (tSeq (tPar3 3 4 6 (tCons (tC (.bl true)) (tCons (tOp rAddI (tVar 4) (tC (.int 1))) (tCons (tCB rSortedDT (tCons (tVar 2) tNil)) tNil)))) (tFor (iList K (tVar 6)) (gName 5) (tFor (iList K (tLockE (tLc (iKeys (tVar 0)) (gName 8) (tTest (tOp rEq (tOp (rIxT K) (tVar 8) (tC (.int 0))) (tOp (rIxT K) (tVar 5) (tC (.int 1))))) (tVar 8) [8]))) (gName 7) (tSeq (tPar 9 10 (tCons (tTup (tCons (tOp (rIxT K) (tVar 5) (tC (.int 0))) (tCons (tOp (rIxT K) (tVar 7) (tC (.int 1))) tNil))) (tCons (tOp rAddI (tDGet (tVar 2) (tVar 5)) (tDGet (tVar 0) (tVar 7))) tNil))) (tSeq (tIfS (tAnd (tTest (tOp rEq (tOp (rIxT K) (tVar 9) (tC (.int 0))) (tOp (rIxT K) (tVar 9) (tC (.int 1))))) (tTest (tOp rLtI (tVar 10) (tC (.int 0))))) (tRet (tC .non)) tNext) (tIfS (tAnd (tTest (tOp rNe (tOp (rIxT K) (tVar 9) (tC (.int 0))) (tOp (rIxT K) (tVar 9) (tC (.int 1))))) (tOr (tB (tDNotIn (tVar 9) (tVar 2))) (tTest (tOp rLtI (tVar 10) (tDGet (tVar 2) (tVar 9)))))) (tSeq (sDPut (tVar 2) (tVar 9) (tVar 10)) (tAsg (tC (.bl false)) (gName 3))) tNext))))))) (t__law_closed_2 K C)
def t__law_closed_0 (K : PySem.W.Frag) (C : Addr) : TS := tSeq (tPar3 2 3 4 (tCons (tCB rDictPT (tCons (tCB rListItT (tCons (tBM0 K "dict" DX.rItemsT (tVar 0)) tNil)) tNil)) (tCons (tC (.bl false)) (tCons (tC (.int 0)) tNil)))) (t__law_closed_1 K C)
theorem pure_law_closed {c : Addr} {Q : VK} (hc : H c = some (.dT (E.map kvE))) (gE : GoodE (n + 1) E) (nE : (E.map ekey).Nodup) (n1 : 1 ≤ n) (n2 : n ≤ 12)
    (kN : (∀ s, ¬ FitE n E s) → ∀ H2, Ex H H2 → Q .non H2)
    (kS : ∀ d F H2, Ex H H2 → H d = none → H2 d = some (.dT (F.map kvE)) → GoodE (n + 1) F → (F.map ekey).Nodup → Closed (n + 1) (matE F) → (∀ s, FitE n F s ↔ FitE n E s) → Q (.ref d) H2) :
    t__law_closed_0 K C (ends Q) [some (.ref c), some (.int (n : Int)), none, none, none, none, none, none, none, none, none] H := by
  have fitE : ∀ s, FitE n E s ↔ OkS E s := fun s => fits_edges nE gE s
  unfold t__law_closed_0 tSeq tPar3
  refine dict_copied (ev_var rfl) hc nE fun d H1 hd0 e1 h1 => ?_
  refine (ev_c : Ev (tC (.bl false)) _ H1 (.bl false)) H1 (Ex.refl _) _ fun H2 e2 => ?_
  refine (ev_c : Ev (tC (.int 0)) _ H2 (.int 0)) H2 (Ex.refl _) _ fun H3 e3 => ?_
  refine ⟨_, _, _, rfl, ?_⟩
  have e13 := e1.trans (e2.trans e3)
  have hd3 := (e2.trans e3) _ _ h1
  have hc3 := e13 _ _ hc
  have ncd : c ≠ d := ne_of_none hc hd0
  show t__law_closed_1 K C (ends Q) [some (.ref c), some (.int (n : Int)), some (.ref d), some (.bl false), some (.int ((0 : Nat) : Int)), none, none, none, none, none, none] H3
  have back : ∀ H', offd d H3 H' → Ex H H' := fun H' o b u hb => o b u (ne_of_none hb hd0) (e13 _ _ hb)
  have nof : (¬ ∃ s, OkS E s) → ∀ H', offd d H3 H' → Q .non H' := fun nf H' o => kN (fun s f => nf ⟨s, (fitE s).mp f⟩) H' (back H' o)
  unfold t__law_closed_1
  refine q_while (fun m σ' H' => ∃ (k : Nat) (st : Bool) (v5 v6 v7 v9 v10 : Option V), σ' = [some (.ref c), some (.int (n : Int)), some (.ref d), some (.bl st), some (.int (k : Int)), v5, v6, v7, none, v9, v10] ∧ m = n + 3 - k ∧ offd d H3 H' ∧ ∃ F, H' d = some (.dT (F.map kvE)) ∧ GoodE (n + 1) F ∧ (F.map ekey).Nodup ∧ Fd (n + 1) E (lookE F) ∧ (st = true → ∀ a, ∀ e ∈ E, StepOk (lookE F) a e) ∧ (st = false → Far E (lookE F) (k + 1) ∧ (0 < k → (∃ s, OkS E s) → k + 1 < n + 1)))
    (n + 3) ⟨0, false, _, _, _, _, _, rfl, rfl, fun _ _ _ h => h, E, hd3, gE, nE, (fd_base nE gE).1, fun z => (nomatch z), fun _ => ⟨(fd_base nE gE).2, fun z => absurd z (Nat.lt_irrefl 0)⟩⟩ fun m σ' H' ⟨k, st, v5, v6, v7, v9, v10, es, em, o, F, hF, gF, nF, fd, hst, hnot⟩ => ?_
  subst es
  refine ⟨!st && decide ((k : Int) < (n : Int) + 3), et_and (et_not (et_B (ev_var rfl))) fun _ => et_test (ev_op (ev_var rfl) (ev_op (ev_var rfl) ev_c rv_I0) rv_I0), fun hb H4 e4 => ?_, fun hb H4 e4 => ?_⟩
  · rw [Bool.and_eq_true] at hb
    have hlt := of_decide_eq_true hb.2
    have sf : st = false := by
      cases st with
      | false => rfl
      | true => exact nomatch hb.1
    subst sf
    obtain ⟨far, hk⟩ := hnot rfl
    refine ⟨fun σ2 H5 => ∃ st v5 v6 v7 v9 v10, σ2 = [some (.ref c), some (.int (n : Int)), some (.ref d), some (.bl st), some (.int ((k + 1 : Nat) : Int)), v5, v6, v7, none, v9, v10] ∧ InT d n E F H4 (fun b e => e ∈ E ∧ ∃ u, lookE F b e.1 = some u) k st H5, fun σ2 H5 ⟨st, w5, w6, w7, w9, w10, es, I⟩ => ⟨n + 3 - (k + 1), by omega, k + 1, st, w5, w6, w7, w9, w10, es, rfl, fun b u nb hb => I.off b u nb (e4 _ _ (o b u nb hb)), ?_⟩, ?_⟩
    · obtain ⟨G, hG, gG, nG, T⟩ := I.ex
      refine ⟨G, hG, gG, nG, T.fd, fun z => ?_, fun z => ⟨tn_far gE fd T far, fun _ f => ?_⟩⟩
      · subst z
        obtain ⟨eq, sk⟩ := tn_still T
        exact sk
      · have := fun hh => I.still f hh
        rw [z] at this
        rcases Nat.lt_or_ge (k + 1 + 1) (n + 1) with h | h
        · exact h
        · exact nomatch this (by omega)
    · exact cl_turn gE nE n1 n2 far fd gF nF (e4 _ _ (o c _ ncd hc3)) (e4 _ _ hF) ncd (fun nf H5 o5 => nof nf H5 fun b u nb hb => o5 b u nb (e4 _ _ (o b u nb hb))) fun st2 w5 w6 w7 w9 w10 H5 I => ⟨st2, w5, w6, w7, w9, w10, rfl, I⟩
  · have o4 : offd d H3 H4 := fun b u nb hb => e4 _ _ (o b u nb hb)
    unfold t__law_closed_2
    cases st with
    | true =>
      refine s_ret (v := .ref d) (ev_if (b := true) (et_B (ev_var rfl)) (fun _ => ev_var rfl) fun z => nomatch z) fun H5 e5 => ?_
      have cl : Closed (n + 1) (matE F) := still_closed gE fd (hst rfl)
      refine kS d F H5 ((back H4 o4).trans e5) hd0 (e5 _ _ (e4 _ _ hF)) gF nF cl fun s => ?_
      rw [fitE s]
      exact fd_fits gE fd s
    | false =>
      obtain ⟨far, hk⟩ := hnot rfl
      refine s_ret (v := .non) (ev_if (b := false) (et_B (ev_var rfl)) (fun z => nomatch z) fun _ => ev_c) fun H5 e5 => ?_
      have hge : ¬ ((k : Int) < (n : Int) + 3) := of_decide_eq_false hb
      refine nof (fun f => ?_) H5 fun b u nb hb => e5 _ _ (o4 b u nb hb)
      have := hk (by omega) f
      omega
end
end Bw
/-! == and != of dicts whose keys are tuples and whose values are whole numbers. -/
namespace Bw
open PySem PySem.Spec PyProof.Rows L2 PySem.W PySem.Calls PyProof.V
section
variable {prog : Program} {w : World} {K : Type} [DecidableEq K] {knd : HeapKind prog w K} {A : Around} {E : Value → Shared → Prop} {s : Shared}
/-- what is told of each pair of the left one -/
inductive HitsT (prog : Program) (w : World) (A : Around) (s : Shared) (xb : List (K × Addr × Value)) : List (K × Addr × Value) → Bool → Prop
  | nil : HitsT prog w A s xb [] true
  | miss {x : K × Addr × Value} {r : List (K × Addr × Value)} : (∀ (j : Nat) (p : Addr × Value), xb[j]? ≠ some (x.1, p)) → HitsT prog w A s xb (x :: r) false
  | hit {x : K × Addr × Value} {r : List (K × Addr × Value)} {e b : Bool} : (∃ (j : Nat) (p : Addr × Value), xb[j]? = some (x.1, p)) → (∀ (j : Nat) (p : Addr × Value), xb[j]? = some (x.1, p) → SeqAt.EqP prog w A s x.2.2 p.2 e) → HitsT prog w A s xb r b → HitsT prog w A s xb (x :: r) (e && b)
theorem HitsT.inv {xb : List (K × Addr × Value)} {x : K × Addr × Value} {r : List (K × Addr × Value)} {b : Bool} (h : HitsT prog w A s xb (x :: r) b) :
    ((∀ (j : Nat) (p : Addr × Value), xb[j]? ≠ some (x.1, p)) ∧ b = false) ∨ ((∃ (j : Nat) (p : Addr × Value), xb[j]? = some (x.1, p)) ∧ ∃ e b', (∀ (j : Nat) (p : Addr × Value), xb[j]? = some (x.1, p) → SeqAt.EqP prog w A s x.2.2 p.2 e) ∧ HitsT prog w A s xb r b' ∧ b = (e && b')) := by
  cases h with
  | miss hn => exact .inl ⟨hn, rfl⟩
  | hit hy he hr => exact .inr ⟨hy, _, _, he, hr, rfl⟩
theorem samePairsT {nm : String} {a b : Addr} {xa xb : List (K × Addr × Value)} {r : Bool} {Q : Bool → Shared → Prop} (hu : knd.room A) (ha : (a == sysModules) = false) (hb : (b == sysModules) = false)
    (da : s.heap.DictOfH knd a xa) (db : s.heap.DictOfH knd b xb) (hits : xa.length = xb.length → HitsT prog w A s xb xa r) (h : Q (xa.length == xb.length && r) s) :
    wpAny (model prog w) A (Builtin.Dict.samePairs nm a b) Q E s := by
  obtain ⟨oa, es, ep, hoa, _, hda, hea, hia, hna⟩ := da
  obtain ⟨ob, es', ep', hob, _, hdb, heb, hib, hnb⟩ := db
  have hla : xa.length = es.size := (size_of_entries hea).symm
  have hlb : xb.length = es'.size := (size_of_entries heb).symm
  rw [hla, hlb] at h
  unfold Builtin.Dict.samePairs Builtin.Dict.showsAll
  rw [if_neg (show ¬ (a == sysModules) = true by rw [ha]; exact Bool.false_ne_true), if_neg (show ¬ (b == sysModules) = true by rw [hb]; exact Bool.false_ne_true)]
  refine wpAny_bind (wpAny_pure (wpAny_bind (wpAny_pure ?_)))
  refine wpAny_bind (wpAny_dictEntries hoa hda ?_)
  dsimp only
  refine wpAny_bind (wpAny_dictEntries hob hdb ?_)
  by_cases hsz : es.size = es'.size
  case neg =>
    rw [if_pos (by simpa using hsz)]
    have hbf : (es.size == es'.size) = false := by simpa using hsz
    rw [hbf, Bool.false_and] at h
    exact wpAny_bind (wpAny_rule (wpAny_pure h))
  case pos =>
    have h' : Q r s := by simpa [hsz] using h
    have hits' := hits (by rw [hla, hlb]; exact hsz)
    rw [if_neg (by rw [hsz]; simp)]
    refine wpAny_bind (wpAny_dictEpoch hoa hda ?_)
    refine wpAny_bind ?_
    rw [Std.Legacy.Range.forIn_eq_forIn_range']
    simp only [Std.Legacy.Range.size, Nat.sub_zero, Nat.add_sub_cancel, Nat.div_one]
    refine wpAny_forIn_list _
      (fun rest q s' => s' = s ∧ q = (none, ()) ∧ ∃ i, rest = List.range' i (es.size - i) ∧ i ≤ es.size ∧ HitsT prog w A s xb (xa.drop i) r)
      _ ?_ ?_ _ _ ⟨rfl, rfl, 0, by simp, Nat.zero_le _, hits'⟩
    · rintro x rest q s' ⟨rfl, rfl, i, hr, hi, hpre⟩
      have hlt : i < es.size := by
        rcases Nat.lt_or_ge i es.size with h | h
        · exact h
        · rw [Nat.sub_eq_zero_of_le h] at hr; simp at hr
      obtain ⟨rfl, hrest⟩ : x = i ∧ rest = List.range' (i + 1) (es.size - (i + 1)) := by
        have e : es.size - i = (es.size - (i + 1)) + 1 := by omega
        rw [e, List.range'_succ] at hr
        injection hr with h1 h2
        exact ⟨h1, h2⟩
      refine wpAny_bind (wpAny_dictEntries hoa hda ?_)
      have hlt' : x < xa.length := by rw [hla]; exact hlt
      obtain ⟨k, c, v, hkv⟩ : ∃ k c v, xa[x] = (k, c, v) := ⟨_, _, _, rfl⟩
      have hdrop : xa.drop x = (k, c, v) :: xa.drop (x + 1) := by rw [← hkv]; exact List.drop_eq_getElem_cons hlt'
      have hex : es[x]? = some ⟨knd.hash k, .ref c, v⟩ := by
        rw [entry_at hea x, List.getElem?_eq_getElem hlt', hkv]
        rfl
      have hkey : knd.is s'.heap k c := by
        have := hia _ (List.getElem_mem hlt')
        rw [hkv] at this
        exact this
      rw [hex]
      rw [hdrop] at hpre
      dsimp only
      refine wpAny_bind (wpAny_holding (wpAny_bind (wpAny_dictFind_heap hu hkey hob hdb heb hib hnb (fun hno => ?_) (fun j p hj => ?_))))
      · rcases hpre.inv with ⟨_, er⟩ | ⟨⟨j, p, hy⟩, _⟩
        · rw [er] at h'
          refine wpAny_pure ?_
          show wpAny _ _ (if (!false) = true then _ else _) _ _ _
          rw [if_pos (by decide)]
          exact wpAny_pure (wpAny_pure h')
        · exact absurd hy (hno j p)
      · refine wpAny_bind (wpAny_dictEntries hob hdb ?_)
        have hej : es'[j]? = some ⟨knd.hash k, .ref p.1, p.2⟩ := by
          rw [entry_at heb j, hj]
          rfl
        rw [hej]
        rcases hpre.inv with ⟨hn, _⟩ | ⟨_, e, b', he, hrr, er⟩
        · exact absurd hj (hn j p)
        · refine wpAny_holding (he j p hj _ _ ?_)
          cases e with
          | false =>
            rw [er, Bool.false_and] at h'
            show wpAny _ _ (if (!false) = true then _ else _) _ _ _
            rw [if_pos (by decide)]
            exact wpAny_pure (wpAny_pure h')
          | true =>
            rw [Bool.true_and] at er
            rw [← er] at hrr
            show wpAny _ _ (if (!true) = true then _ else _) _ _ _
            rw [if_neg (by decide)]
            refine wpAny_bind (wpAny_dictEpoch hoa hda ?_)
            rw [if_neg (by simp)]
            exact wpAny_pure ⟨rfl, rfl, x + 1, hrest, hlt, hrr⟩
    · rintro q s' ⟨rfl, rfl, i, hr, hi, hpre⟩
      have hin : i = es.size := by
        rcases Nat.lt_or_ge i es.size with h | h
        · have e : es.size - i = (es.size - (i + 1)) + 1 := by omega
          rw [e, List.range'_succ] at hr; exact nomatch hr
        · exact Nat.le_antisymm hi h
      refine wpAny_pure ?_
      rw [hin, ← hla, List.drop_length] at hpre
      cases hpre
      exact h'
theorem eqT_run {a b : Addr} {xa xb : List (K × Addr × Value)} {r : Bool} {Q : Value → Shared → Prop} (hk : knd.room A.in1) (ha : (a == sysModules) = false) (hb : (b == sysModules) = false)
    (da : s.heap.DictOfH knd a xa) (db : s.heap.DictOfH knd b xb) (hu : A.units < cLine) (hits : xa.length = xb.length → HitsT prog w A.in1 s xb xa r) (h : Q (.bool (xa.length == xb.length && r)) s) :
    wpAny (model prog w) A (compareOp .Eq (.ref a) (.ref b)) Q E s := by
  refine wpAny_richCompare_same_room (op := .Eq) da.typeIs db.typeIs PySem.F.slot_dict_eq (wpAny_call_entry PySem.F.slot_dict_eq da.typeIs PySem.F.entry_dict_eq ?_ (PySem.F.args_dict_eq_2 _ _)) hu
  show wpAny _ _ (Builtin.Dict.dictSlotArgs "__eq__" ⟨[.ref a, .ref b], []⟩ >>= _) _ _ s
  refine wpAny_bind ?_
  unfold Builtin.Dict.dictSlotArgs
  refine wpAny_bind (wpAny_notOrdered_dict da.typeIs ?_)
  show wpAny _ _ (pure (Value.ref a, Value.ref b)) _ _ s
  refine wpAny_pure ?_
  refine wpAny_bind (wpAny_isInstance (T := "dict") db.typeIs PySem.F.sub_dict_dict ?_)
  simp only [Bool.not_true, Bool.false_eq_true, if_false]
  refine wpAny_bind (wpAny_pure (wpAny_bind (wpAny_pure ?_)))
  refine wpAny_bind (samePairsT hk ha hb da db hits ?_)
  refine wpAny_pure ⟨_, rfl, ?_, ?_⟩
  · exact fun x => nomatch x
  · simpa using h
theorem neT_run {a b : Addr} {xa xb : List (K × Addr × Value)} {r : Bool} {Q : Value → Shared → Prop} (hk : knd.room A.in1) (ha : (a == sysModules) = false) (hb : (b == sysModules) = false)
    (da : s.heap.DictOfH knd a xa) (db : s.heap.DictOfH knd b xb) (hu : A.units < cLine) (hits : xa.length = xb.length → HitsT prog w A.in1 s xb xa r) (h : Q (.bool (!(xa.length == xb.length && r))) s) :
    wpAny (model prog w) A (compareOp .NotEq (.ref a) (.ref b)) Q E s := by
  refine wpAny_richCompare_same_room (op := .NotEq) da.typeIs db.typeIs PySem.F.slot_dict_ne (wpAny_call_entry PySem.F.slot_dict_ne da.typeIs PySem.F.entry_dict_ne ?_ (PySem.F.args_dict_ne_2 _ _)) hu
  show wpAny _ _ (Builtin.Dict.dictSlotArgs "__ne__" ⟨[.ref a, .ref b], []⟩ >>= _) _ _ s
  refine wpAny_bind ?_
  unfold Builtin.Dict.dictSlotArgs
  refine wpAny_bind (wpAny_notOrdered_dict da.typeIs ?_)
  show wpAny _ _ (pure (Value.ref a, Value.ref b)) _ _ s
  refine wpAny_pure ?_
  refine wpAny_bind (wpAny_isInstance (T := "dict") db.typeIs PySem.F.sub_dict_dict ?_)
  simp only [Bool.not_true, Bool.false_eq_true, if_false]
  refine wpAny_bind (wpAny_pure (wpAny_bind (wpAny_pure ?_)))
  refine wpAny_bind (samePairsT hk ha hb da db hits ?_)
  refine wpAny_pure ⟨_, rfl, ?_, ?_⟩
  · exact fun x => nomatch x
  · simpa using h
end
theorem atKey_mem {κ : Type} [DecidableEq κ] {xs : List (κ × Addr × Value)} {k : κ} {p : Addr × Value} (h : atKey xs k = some p) : ∃ j : Nat, xs[j]? = some (k, p) := by
  unfold atKey at h
  obtain ⟨x, hx, rfl⟩ := Option.map_eq_some_iff.mp h
  have hk : x.1 = k := by have := List.find?_some hx; exact of_decide_eq_true this
  obtain ⟨j, hj⟩ := List.mem_iff_getElem?.mp (List.mem_of_find?_eq_some hx)
  refine ⟨j, ?_⟩
  rw [hj, ← hk]
abbrev allInt (kvs : List (List Key × V)) : Prop := ∀ kv ∈ kvs, ∃ i : Int, kv.2 = .int i
abbrev sameT (ka kb : List (List Key × V)) : Prop := ka.length = kb.length ∧ ∀ kv ∈ ka, valV kb kv.1 = some kv.2
theorem hits_of {prog : Program} {w : World} {A : Around} {s : Shared} {H : Hp} {kb : List (List Key × V)} {xb : List (List Key × Addr × Value)} (rb : KT H kb xb) (nb : (xb.map (·.1)).Nodup) (ib : ∀ k y, valV kb k = some y → ∃ i : Int, y = .int i) :
    ∀ {ka : List (List Key × V)} {xa : List (List Key × Addr × Value)}, KT H ka xa → allInt ka → HitsT prog w A s xb xa (ka.all fun kv => decide (valV kb kv.1 = some kv.2)) := by
  intro ka xa ra
  induction ra with
  | nil => exact fun _ => .nil
  | @cons p q ps qs h t ih =>
    intro al
    obtain ⟨k, x⟩ := p
    obtain ⟨k2, c, v⟩ := q
    obtain ⟨h1, h2, h3⟩ := h
    have h1 : k = k2 := h1
    subst h1
    obtain ⟨i, hi⟩ := al _ (List.mem_cons_self ..)
    have hi : x = .int i := hi
    subst hi
    obtain ⟨tk, rfl⟩ : ∃ tk, v = Value.int i tk := h3
    have rest := ih fun kv hk => al kv (List.mem_cons_of_mem _ hk)
    rw [List.all_cons]
    have rv := rb.val k
    cases hv : valV kb k with
    | none =>
      rw [hv] at rv
      have hn : atKey xb k = none := by
        cases ha : atKey xb k with
        | none => rfl
        | some z => rw [ha] at rv; exact rv.elim
      show HitsT prog w A s xb ((k, c, Value.int i tk) :: qs) (decide ((none : Option V) = some (.int i)) && _)
      rw [decide_eq_false (fun z => nomatch z), Bool.false_and]
      exact .miss fun j p hj => by
        have := atKey_of_get nb hj
        rw [hn] at this
        exact nomatch this
    | some y =>
      obtain ⟨i2, rfl⟩ := ib k y hv
      rw [hv] at rv
      obtain ⟨p, hp⟩ : ∃ p, atKey xb k = some p := by
        cases ha : atKey xb k with
        | none => rw [ha] at rv; exact rv.elim
        | some p => exact ⟨p, rfl⟩
      rw [hp] at rv
      obtain ⟨t2, ht2⟩ : ∃ t2, p.2 = Value.int i2 t2 := rv
      show HitsT prog w A s xb ((k, c, Value.int i tk) :: qs) (decide (some (V.int i2) = some (V.int i)) && _)
      have ed : decide (some (V.int i2) = some (V.int i)) = (i == i2) := by
        by_cases hh : i = i2
        · rw [hh]; simp
        · rw [decide_eq_false (fun z => hh (by injection z with z; injection z with z; exact z.symm))]
          exact (beq_eq_false_iff_ne.mpr hh).symm
      rw [ed]
      refine .hit ?_ (fun j p' hj => ?_) rest
      · obtain ⟨j, hj⟩ := atKey_mem hp
        exact ⟨j, p, hj⟩
      · have := atKey_of_get nb hj
        rw [hp] at this
        cases this
        show SeqAt.EqP prog w A s (Value.int i tk) p.2 (i == i2)
        rw [ht2]
        exact (SeqAt.EqAt.int_int i tk i2 t2).eqP
def rEqDT (neg : Bool) : R2 := fun x y H Q => ∃ (a b : Addr) (ka kb : List (List Key × V)), x = .ref a ∧ y = .ref b ∧ Rd H a (.dT ka) ∧ Rd H b (.dT kb) ∧ allInt ka ∧ allInt kb ∧ Q (.bl (if neg then !decide (sameT ka kb) else decide (sameT ka kb))) H
theorem same_all {ka kb : List (List Key × V)} {la lb : Nat} (h1 : ka.length = la) (h2 : kb.length = lb) : (la == lb && ka.all fun kv => decide (valV kb kv.1 = some kv.2)) = decide (sameT ka kb) := by
  subst h1 h2
  unfold sameT
  rw [show decide (ka.length = kb.length ∧ ∀ kv ∈ ka, valV kb kv.1 = some kv.2) = (decide (ka.length = kb.length) && decide (∀ kv ∈ ka, valV kb kv.1 = some kv.2)) from Bool.decide_and _ _]
  congr 1
  rw [Bool.eq_iff_iff, List.all_eq_true, decide_eq_true_iff]
  exact ⟨fun h kv hk => of_decide_eq_true (h kv hk), fun h kv hk => decide_eq_true (h kv hk)⟩
theorem val_int {kb : List (List Key × V)} (h : allInt kb) (k : List Key) (y : V) (e : valV kb k = some y) : ∃ i : Int, y = .int i := by
  unfold valV at e
  obtain ⟨x, hx, rfl⟩ := Option.map_eq_some_iff.mp e
  exact h x (List.mem_of_find?_eq_some hx)
section
variable {X : Cx}
theorem op_eqDT (hu : X.A.units + 1 < cLine) : OpR X (compareOp .Eq) (rEqDT false) := by
  intro pins s σ H x y v u Q I rx ry h
  obtain ⟨a, b, ka, kb, rfl, rfl, ha, hb, ia, ib, q⟩ := h
  cases rx
  cases ry
  obtain ⟨_, za, xa, ra, da⟩ := dt_rd I.hok ha
  obtain ⟨_, zb, xb, rb, db⟩ := dt_rd I.hok hb
  have nb : (xb.map (·.1)).Nodup := by obtain ⟨_, _, _, _, _, _, _, _, h⟩ := db; exact h
  refine eqT_run (tupleKind_room_in1 hu) za zb da db (by omega) (fun _ => hits_of rb nb (val_int ib) ra ia) ⟨.bl (xa.length == xb.length && ka.all fun kv => decide (valV kb kv.1 = some kv.2)), H, I, rfl, ?_⟩
  rw [same_all (Paired.length ra) (Paired.length rb)]
  exact q
theorem op_neDT (hu : X.A.units + 1 < cLine) : OpR X (compareOp .NotEq) (rEqDT true) := by
  intro pins s σ H x y v u Q I rx ry h
  obtain ⟨a, b, ka, kb, rfl, rfl, ha, hb, ia, ib, q⟩ := h
  cases rx
  cases ry
  obtain ⟨_, za, xa, ra, da⟩ := dt_rd I.hok ha
  obtain ⟨_, zb, xb, rb, db⟩ := dt_rd I.hok hb
  have nb : (xb.map (·.1)).Nodup := by obtain ⟨_, _, _, _, _, _, _, _, h⟩ := db; exact h
  refine neT_run (tupleKind_room_in1 hu) za zb da db (by omega) (fun _ => hits_of rb nb (val_int ib) ra ia) ⟨.bl (!(xa.length == xb.length && ka.all fun kv => decide (valV kb kv.1 = some kv.2))), H, I, rfl, ?_⟩
  rw [same_all (Paired.length ra) (Paired.length rb)]
  exact q
end
end Bw
/-! == and != of instances by their class's own __eq__, both answers. -/
namespace Bw
open PySem PySem.Spec PyProof.Rows
section
open PySem.SeqAt
variable {prog : Program} {w : World} {A : Around} {E : Value → Shared → Prop} {s : Shared} {K : PySem.W.Frag} {x C f L : Addr} {ox : Obj} {od : Option Obj} {h₀ : Heap} {m : Str → Option Value} {b tb : Value}
theorem entry_objNe {Q : Fin → Shared → Prop} (hu : A.units < cLine) (X : K.In s.heap) (I : PySem.W.InstAt s.heap x ox C od) (hs : PySem.W.findIn K (.ref C) "__eq__" = some (some (.ref f))) (hf : PySem.W.isFn K (.ref f) = true)
    (h : wpAny (model prog w) A (call (.ref f) [.ref x, b]) (fun v s' => ∃ r, v = .bool r ∧ Q (.done (.ret (.bool (!r)))) s') E s) :
    wpAny (model prog w) A (Builtin.«object.__ne__» ⟨[.ref x, b], []⟩) Q E s := by
  unfold Builtin.«object.__ne__»
  repeat (first
    | with_reducible refine wpAny_cRoomFor hu ?_
    | (refine wpAny_bind (m := callSpecialIfBound? (.ref x) (Str.ofString "__eq__") [b])
        (PySem.W.ifBound_K X I hs hf (wpAny_mono h (fun r s' hr => by
          obtain ⟨b, rfl, hq⟩ := hr
          repeat (first | exact hq | exact wpAny_pure hq | exact wpAny_truthy_bool hq | (refine wpAny_bind (m := truthy (.bool _)) (wpAny_truthy_bool ?_)) | wp_step)) fun _ _ e => e)))
    | wp_step)
theorem ifBound_objNe {M : Model} {args : List Value} {Q : Option Value → Shared → Prop} (X : K.In s.heap) (I : PySem.W.InstAt s.heap x ox C od) (hs : PySem.W.findIn K (.ref C) "__ne__" = some (some (.builtin "object.__ne__")))
    (h : wpAny M A (call (.builtin "object.__ne__") (.ref x :: args)) (fun v => Q (some v)) E s) : wpAny M A (callSpecialIfBound? (.ref x) "__ne__" args) Q E s := by
  simp only [callSpecialIfBound?, bindSpecialIfBound?]
  refine wpAny_holding (wpAny_bind (wpAny_bind (wpAny_bind (I.type.here ((PySem.W.looks_findIn X hs).here ?_)))))
  refine wpAny_bind (wpAny_askSetting (wpAny_ite ?_))
  have fin : wpAny M A (call (.builtin "object.__ne__") ([.ref x] ++ args) >>= fun v => pure (some v)) Q E s := wpAny_bind (wpAny_mono h (fun v s' h' => wpAny_pure h') fun _ _ h' => h')
  split
  · exact wpAny_bind (wpAny_of_eq (F.cmp_object.ne.bind _) (wpAny_pure (by exact fin)))
  · exact wpAny_tryCatch (wpAny_bind (wpAny_of_eq (F.cmp_object.ne.bind _) (wpAny_pure (by exact fin))))
theorem ne_K {Q : Value → Shared → Prop} (hu : A.units + 1 < cLine) (Fr0 : PyProof.Rows.Fr h₀ L s.heap m) (X₀ : K.In h₀) (I : PySem.W.InstAt s.heap x ox C od) (hb : PySem.W.Looks (model prog w) s.heap (typeOf b) tb) (hn : PySem.W.notFirst K C tb = true)
    (hne : PySem.W.findIn K (.ref C) "__ne__" = some (some (.builtin "object.__ne__"))) (hm : PySem.W.mroIn K C (.type "object") = some true)
    (hs : PySem.W.findIn K (.ref C) "__eq__" = some (some (.ref f))) (hf : PySem.W.isFn K (.ref f) = true)
    (h : wpAny (model prog w) A.in1 (call (.ref f) [.ref x, b]) (fun v s' => ∃ r, v = .bool r ∧ Q (.bool (!r)) s') E s) : wpAny (model prog w) A (richCompare .NotEq (.ref x) b) Q E s := by
  have X := X₀.keeps Fr0.keep
  have one : wpAny (model prog w) A (tryCompare (.ref x) "__ne__" b) (fun r s' => ∃ v, r = some v ∧ Q v s') E s := by
    unfold tryCompare
    refine wpAny_bind (ifBound_objNe X I hne (wpAny_call (codeAny_call_builtin F.cmp_object.ne.plain F.cmpEntry_ne (PySem.W.check_slot F.cmpKind_ne F.cmpSplit_ne (I.type.andThen (PySem.W.looks_mroIn X hm)) (F.cmpArgs_ne _ _) (entry_objNe (A := A.in1) hu X I hs hf (wpAny_mono h (fun v s' hv => ?_) fun _ _ e => e))))))
    obtain ⟨r, rfl, hq⟩ := hv
    exact ⟨r, rfl, wpAny_pure ⟨_, rfl, hq⟩⟩
  unfold richCompare
  simp only [oneThing_ref]
  refine wpAny_holding (wpAny_bind (wpAny_cRoomFor (Nat.lt_of_succ_lt hu) ?_))
  refine wpAny_bind (I.type.here (wpAny_bind (hb.here ?_)))
  split
  · rename_i q
    have e : PySem.W.subIn K tb (.ref C) = some false := by
      rcases Bool.or_eq_true_iff.mp hn with e | e
      · rw [beq_iff_eq.mp e] at q; simp at q
      · exact beq_iff_eq.mp e
    refine wpAny_bind ((PySem.W.looks_subIn X e).here ?_)
    simp only [Bool.false_eq_true, if_false]
    refine wpAny_bind (m := tryCompare (.ref x) _ b) (wpAny_mono one (fun r s' z => ?_) fun _ _ e => e)
    obtain ⟨v, rfl, hq⟩ := z
    exact wpAny_pure hq
  · refine wpAny_bind (wpAny_pure ?_)
    simp only [Bool.false_eq_true, if_false]
    refine wpAny_bind (m := tryCompare (.ref x) _ b) (wpAny_mono one (fun r s' z => ?_) fun _ _ e => e)
    obtain ⟨v, rfl, hq⟩ := z
    exact wpAny_pure hq
end
section
open L2 Evl
variable {X : Cx} {n : Nat}
/-- what an own __eq__ tells -/
def rOwn (C : Addr) (sp : Sp) (E : XK) (neg : Bool) : R2 := fun x y H Q => ∃ (a b dx dy : Addr) (fs gs : List (Str × V)) (r : Bool), x = .ref a ∧ y = .ref b ∧ H a = some (.ins C dx fs) ∧ H b = some (.ins C dy gs) ∧
  sp [.ref a, .ref b] H (fun v H' => v = .bl r ∧ Ex H H') E ∧ ∀ H', Ex H H' → Q (.bl (if neg then !r else r)) H'
theorem own_run {CX : CXT} {f : Addr} {fd : FuncData} {ps : List Str} {sp : Sp} {E : XK} (F : FnOk X.prog X.w X.K X.mg X.base CX n f fd ps sp) (hb : Binds X.K fd ps []) (hx : Passes CX X E)
    {A : Around} {pins : List (Addr × Obj)} {s : Shared} {σ : L2.St} {H : Hp} {a b : Addr} {r : Bool} {Q : Value → Shared → Prop} (sb : Sub X n A) (I : Inv X pins σ H s) (h : sp [.ref a, .ref b] H (fun v H' => v = .bl r ∧ Ex H H') E)
    (q : ∀ s' H', Inv X pins σ H' s' → Ex H H' → Q (.bool r) s') : wpAny (model X.prog X.w) A (call (.ref f) [.ref a, .ref b]) Q X.xe s := by
  have e0 : Env0 X.prog X.w X.K X.mg X.base A X.stack s H := by
    have e := I.env0
    exact ⟨by rw [sb.fr]; exact e.frames, e.mod, e.bs, e.bsz, e.funs, e.frf, e.hok, e.bare⟩
  have hl := F.len _ _ _ _ h
  have r2 : Vals [V.ref a, V.ref b] [Value.ref a, Value.ref b] := .cons rfl (.cons rfl .nil)
  refine wpAny_call (codeAny_mono (F.run A X.stack s H ⟨[.ref a, .ref b], []⟩ [.ref a, .ref b] [.ref a, .ref b] _ E sb.room e0 (by
    have := hb s [.ref a, .ref b] I.kIn (by simpa using hl)
    simpa using this) r2 h) fun z s' hq => ?_)
  cases z with
  | error e => exact hx pins σ H s e s' I hq
  | ok fl =>
    cases fl with
    | ret w =>
      obtain ⟨z, H', I', rz, ez, ex⟩ := I.after hq
      subst ez
      cases rz
      exact q s' H' I' ex
    | next => exact False.elim hq
    | brk => exact False.elim hq
    | cont => exact False.elim hq
theorem op_ownEq {CX : CXT} {C f : Addr} {fd : FuncData} {ps : List Str} {sp : Sp} {E : XK} (F : FnOk X.prog X.w X.K X.mg X.base CX n f fd ps sp)
    (hs : PySem.W.findIn X.K (.ref C) "__eq__" = some (some (.ref f))) (hf : PySem.W.isFn X.K (.ref f) = true) (hb : Binds X.K fd ps []) (hx : Passes CX X E) (hr : Room n X.A) : OpR X (compareOp .Eq) (rOwn C sp E false) := by
  intro pins s σ H x y v u Q I rx ry hq
  obtain ⟨a, b, dx, dy, fs, gs, r, rfl, rfl, ha, hb', h, q⟩ := hq
  cases rx
  cases ry
  obtain ⟨mA, J, _⟩ := ins_get I.hok ha
  obtain ⟨mB, J', _⟩ := ins_get I.hok hb'
  obtain ⟨od, J, _⟩ := J.look
  obtain ⟨od', J', _⟩ := J'.look
  obtain ⟨m, hF⟩ := I.fr
  show wpAny (model X.prog X.w) X.A (richCompare .Eq (.ref a) (.ref b)) (EP X pins σ Q) X.xe s
  refine PySem.W.cmp_K (op := .Eq) (tb := .ref C) hr.units0 hF I.ok.mod.kin J J'.type (by simp [PySem.W.notFirst]) hs hf ?_
  exact own_run F hb hx (A := X.A) ⟨hr, rfl⟩ I h fun s' H' I' e => ⟨.bl r, H', I', rfl, q H' e⟩
theorem op_ownNe {CX : CXT} {C f : Addr} {fd : FuncData} {ps : List Str} {sp : Sp} {E : XK} (F : FnOk X.prog X.w X.K X.mg X.base CX n f fd ps sp)
    (hs : PySem.W.findIn X.K (.ref C) "__eq__" = some (some (.ref f))) (hne : PySem.W.findIn X.K (.ref C) "__ne__" = some (some (.builtin "object.__ne__"))) (hm : PySem.W.mroIn X.K C (.type "object") = some true)
    (hf : PySem.W.isFn X.K (.ref f) = true) (hb : Binds X.K fd ps []) (hx : Passes CX X E) (hr : Room (n + 1) X.A) : OpR X (compareOp .NotEq) (rOwn C sp E true) := by
  intro pins s σ H x y v u Q I rx ry hq
  obtain ⟨a, b, dx, dy, fs, gs, r, rfl, rfl, ha, hb', h, q⟩ := hq
  cases rx
  cases ry
  obtain ⟨mA, J, _⟩ := ins_get I.hok ha
  obtain ⟨mB, J', _⟩ := ins_get I.hok hb'
  obtain ⟨od, J, _⟩ := J.look
  obtain ⟨od', J', _⟩ := J'.look
  obtain ⟨m, hF⟩ := I.fr
  show wpAny (model X.prog X.w) X.A (richCompare .NotEq (.ref a) (.ref b)) (EP X pins σ Q) X.xe s
  refine ne_K (tb := .ref C) (by have := hr.un; omega) hF I.ok.mod.kin J J'.type (by simp [PySem.W.notFirst]) hne hm hs hf ?_
  exact own_run F hb hx (A := X.A.in1) (Sub.in1 ⟨hr, rfl⟩) I h fun s' H' I' e => ⟨r, rfl, .bl (!r), H', I', rfl, q H' e⟩
end
end Bw
/-! Table's own ==. -/
namespace Bw
open PySem PySem.Spec PyProof.Rows L2 Evl
open Classical
section
variable {K : PySem.W.Frag} {C : Addr} {σ : L2.St} {H : Hp} {ta tb tc te : TE} {D : Ends} {t u n m N : Nat} {E F : List Edge}
theorem allInt_kvE : allInt (E.map kvE) := fun kv h => by
  obtain ⟨e, _, rfl⟩ := List.mem_map.mp h
  exact ⟨_, rfl⟩
theorem back_of : ∀ (E F : List Edge), E.Nodup → (∀ e ∈ E, e ∈ F) → F.length ≤ E.length → ∀ e ∈ F, e ∈ E
  | [], F, _, _, hl, e, he => by
    have : F = [] := List.eq_nil_of_length_eq_zero (by simpa using hl)
    rw [this] at he
    exact nomatch he
  | x :: r, F, nd, h, hl, e, he => by
    rw [List.nodup_cons] at nd
    have hx := h x (List.mem_cons_self ..)
    by_cases c : e = x
    · rw [c]; exact List.mem_cons_self ..
    · refine List.mem_cons_of_mem _ (back_of r (F.erase x) nd.2 (fun y hy => ?_) ?_ e ((List.mem_erase_of_ne c).mpr he))
      · exact (List.mem_erase_of_ne (fun z => nd.1 (by rw [← z]; exact hy))).mpr (h y (List.mem_cons_of_mem _ hy))
      · rw [List.length_erase_of_mem hx]
        rw [List.length_cons] at hl
        omega
theorem same_iff (nE : (E.map ekey).Nodup) (nF : (F.map ekey).Nodup) : sameT (E.map kvE) (F.map kvE) ↔ ∀ e, e ∈ E ↔ e ∈ F := by
  have key : (∀ kv ∈ E.map kvE, valV (F.map kvE) kv.1 = some kv.2) ↔ ∀ e ∈ E, e ∈ F := by
    constructor
    · intro h e he
      have h1 : valV (F.map kvE) (ekey e) = some (.int e.2.2) := h _ (List.mem_map.mpr ⟨e, he, rfl⟩)
      have h2 : valV (F.map kvE) (ekey e) = (lookE F e.1 e.2.1).map V.int := val_look
      rw [h2] at h1
      obtain ⟨x, hx, hv⟩ := Option.map_eq_some_iff.mp h1
      have hv : x = e.2.2 := by injection hv
      rw [hv] at hx
      exact (look_mem nF).mp hx
    · intro h kv hk
      obtain ⟨e, he, rfl⟩ := List.mem_map.mp hk
      exact val_mem nF (h e he)
  have nd : ∀ {G : List Edge}, (G.map ekey).Nodup → G.Nodup := fun {G} h => by
    induction G with
    | nil => exact List.nodup_nil
    | cons g r ih =>
      rw [List.map_cons, List.nodup_cons] at h
      rw [List.nodup_cons]
      exact ⟨fun z => h.1 (List.mem_map.mpr ⟨g, z, rfl⟩), ih h.2⟩
  unfold sameT
  rw [List.length_map, List.length_map, key]
  constructor
  · rintro ⟨h1, h2⟩ e
    refine ⟨h2 e, fun he => ?_⟩
    exact back_of E F (nd nE) h2 (Nat.le_of_eq h1.symm) e he
  · intro h
    exact ⟨((List.perm_ext_iff_of_nodup (nd nE) (nd nF)).mpr h).length_eq, fun e he => (h e).mp he⟩
noncomputable def sameB (n m : Nat) (E F : List Edge) : Bool := decide (n = m ∧ ∀ e, e ∈ E ↔ e ∈ F)
noncomputable def sp_Table___eq__ (C : Addr) : Sp := spOf fun vs H P => ∃ t u n m E F, vs = [.ref t, .ref u] ∧ TabAt C H t n E ∧ TabAt C H u m F ∧ P = isV (.bl (sameB n m E F))
def t_Table___eq___0 (K : PySem.W.Frag) (C : Addr) : TS := (tRet (tAndV (tCB (rIsi K) (tCons (tVar 1) (tCons (tC (.ref C)) tNil))) (tAndV (tOp rEq (tFld K (tVar 0) "_size") (tFld K (tVar 1) "_size")) (tOp (rEqDT false) (tFld K (tVar 0) "_bounds") (tFld K (tVar 1) "_bounds")))))
theorem rv_eqDT {a b : Addr} (ha : H a = some (.dT (E.map kvE))) (hb : H b = some (.dT (F.map kvE))) (nE : (E.map ekey).Nodup) (nF : (F.map ekey).Nodup) : RV (rEqDT false) (.ref a) (.ref b) H (.bl (decide (∀ e, e ∈ E ↔ e ∈ F))) := fun H1 e1 Q q => by
  refine ⟨a, b, _, _, rfl, rfl, Or.inl (e1 _ _ ha), Or.inl (e1 _ _ hb), allInt_kvE, allInt_kvE, ?_⟩
  rw [if_neg (by decide), show decide (sameT (E.map kvE) (F.map kvE)) = decide (∀ e, e ∈ E ↔ e ∈ F) from decide_eq_decide.mpr (same_iff nE nF)]
  exact q H1 (Ex.refl _)
theorem pure_eq (TF : TabF K C) {Q : VK} (T : TabAt C H t n E) (U : TabAt C H u m F) (k : ∀ H1, Ex H H1 → Q (.bl (sameB n m E F)) H1) : t_Table___eq___0 K C (ends Q) [some (.ref t), some (.ref u)] H := by
  obtain ⟨-, nE, -, -⟩ := T.good
  obtain ⟨-, nF, -, -⟩ := U.good
  obtain ⟨dx, d, t1, t2, -⟩ := T
  obtain ⟨dy, d', u1, u2, -⟩ := U
  refine s_ret (v := .bl (true && (decide (n = m) && decide (∀ e, e ∈ E ↔ e ∈ F)))) (ev_andV (ev_cb (ea_cons (ev_var rfl) (ea_cons ev_c ea_nil)) fun H1 e1 Q q => ⟨.ref u, .ref C, _, _, true, rfl, .own C, TF.ty H1 u dy _ (e1 _ _ u1), TF.kit, q H1 (Ex.refl _)⟩) fun _ => ev_andV ?_ fun _ => ev_op (ev_bounds TF (ev_var rfl) t1) (ev_bounds TF (ev_var rfl) u1) (rv_eqDT t2 u2 nE nF)) fun H1 e1 => ?_
  · exact ev_is (ev_op (ev_size TF (ev_var rfl) t1) (ev_size TF (ev_var rfl) u1) (rv_eq rfl)) (by rw [dec_int])
  · have e : (true && (decide (n = m) && decide (∀ e, e ∈ E ↔ e ∈ F))) = sameB n m E F := by
      rw [Bool.true_and]
      exact (Bool.decide_and _ _).symm
    rw [e]
    exact k H1 e1
/-- closed tables with the same waters are the same -/
theorem closed_same (nE : (E.map ekey).Nodup) (nF : (F.map ekey).Nodup) (gE : GoodE (n + 1) E) (gF : GoodE (n + 1) F) (cE : Closed (n + 1) (matE E)) (cF : Closed (n + 1) (matE F)) (h : ∀ s, FitE n E s ↔ FitE n F s) : sameB n n E F = true := by
  have lo : ∀ {G G' : List Edge}, Closed (n + 1) (matE G') → (∀ s, FitE n G' s → FitE n G s) → ∀ a b x, a < n + 1 → b < n + 1 → matE G a b = some x → ∃ v, matE G' a b = some v ∧ v ≤ x := fun {G G'} c f a b x ha hb hx => by
    refine Classical.byContradiction fun z => ?_
    obtain ⟨s, fs, hs⟩ := feas_at c ha hb (x := x + 1) fun v hv => by
      refine Classical.byContradiction fun y => z ⟨v, hv, by omega⟩
    have := f s fs a b x ha hb hx
    omega
  have go : ∀ {G G' : List Edge}, (G.map ekey).Nodup → (G'.map ekey).Nodup → GoodE (n + 1) G → Closed (n + 1) (matE G) → Closed (n + 1) (matE G') → (∀ s, FitE n G s ↔ FitE n G' s) → ∀ e, e ∈ G → e ∈ G' := fun {G G'} nG nG' gG cG cG' f e he => by
    obtain ⟨a, b, x⟩ := e
    obtain ⟨ha, hb, hab⟩ := gG _ he
    have h1 : matE G a b = some x := by
      show (if a = b then _ else lookE G a b) = _
      rw [if_neg hab]
      exact (look_mem nG).mpr he
    obtain ⟨v, hv, l⟩ := lo cG' (fun s => (f s).mpr) a b x ha hb h1
    obtain ⟨v', hv', l'⟩ := lo cG (fun s => (f s).mp) a b v ha hb hv
    rw [h1] at hv'
    cases hv'
    have : v = x := by omega
    subst this
    refine (look_mem nG').mp ?_
    have hv : (if a = b then some 0 else lookE G' a b) = some v := hv
    rw [if_neg hab] at hv
    exact hv
  exact decide_eq_true ⟨rfl, fun e => ⟨go nE nF gE cE cF h e, go nF nE gF cF cE (fun s => (h s).symm) e⟩⟩
end
end Bw
/-! An exception that an except suite keeps: from the suite's end on it is an object of the heap that is known. -/
namespace Bw
open PySem PySem.Spec PyProof.Rows L2
/-- an exception's object at a: its class, its dict -/
def ExcK (cls : Value) (d : Option Addr) (a : Addr) : HO := .ext fun h => ∃ (oe : Obj) (vs : Array Value), h.get? a = some oe ∧ Zc cls d oe ∧ oe.data = .fields vs
section
variable {X : Cx} {pins : List (Addr × Obj)} {σ : L2.St} {H : Hp} {s : Shared}
/-- a pinned exception is tracked from now on -/
theorem kept_inv {a : Addr} {oe : Obj} {vs : Array Value} {cls : Value} {d : Option Addr} (I : Inv X ((a, oe) :: pins) σ H s) (hz : Zc cls d oe) (hd : oe.data = .fields vs) (new : X.s_0.heap.get? a = none) (apart : ∀ p ∈ X.pn ++ pins, p.1 ≠ a) :
    Inv X pins σ (upd H a (ExcK cls d a)) s := by
  obtain ⟨here, na, nL, nF, nc⟩ := I.pin (a, oe) (List.mem_append_right _ List.mem_cons_self)
  have other : ∀ {b : Addr} {o : HO}, H b = some o → upd H a (ExcK cls d a) b = some o := fun {b o} e => by
    rw [upd_ne (ne_of_none e na)]
    exact e
  refine { ok := I.ok, os := I.os, bare := I.bare, base := ?_, loc := I.loc, cell := I.cell, free := ?_, freeC := ?_, pin := ?_, hok := ?_, len := I.len }
  · refine { keep := I.base.keep, slot := I.base.slot, there := I.base.there, free := ?_, tups := fun b xs e => other (I.base.tups b xs e), frzs := fun b o u e => other (I.base.frzs b o u e), tbls := ?_ }
    · intro b o e n hb
      have nb : b ≠ a := fun z => by
        rw [z, new] at e
        exact nomatch e
      rw [upd_ne nb]
      exact I.base.free b o e n hb
    · intro b ps e
      obtain ⟨more, q⟩ := I.base.tbls b ps e
      exact ⟨more, other q⟩
  · rw [upd_ne (Ne.symm nL)]
    exact I.free
  · intro x c hc
    have nb : c ≠ a := fun z => by
      obtain ⟨v, o, ho, hv⟩ := I.cell x c hc
      rw [z] at ho
      rw [here] at ho
      cases ho
      exact nc v hv
    rw [upd_ne nb]
    exact I.freeC x c hc
  · intro p hp
    have hp2 : p ∈ X.pn ++ (a, oe) :: pins := by
      rcases List.mem_append.mp hp with h | h
      · exact List.mem_append_left _ h
      · exact List.mem_append_right _ (List.mem_cons_of_mem _ h)
    obtain ⟨p1, p2, p3⟩ := I.pin p hp2
    refine ⟨p1, ?_, p3⟩
    rw [upd_ne (apart p hp)]
    exact p2
  · intro b o e
    by_cases hb : b = a
    · rw [hb, upd_same] at e
      cases e
      rw [hb]
      exact ⟨⟨oe, vs, here, hz, hd⟩, ⟨oe, here⟩, fun h1 h2 ⟨o1, v1, g1, g2, g3⟩ k => ⟨o1, v1, k o1 g1, g2, g3⟩⟩
    · rw [upd_ne hb] at e
      exact (I.hok b o e).stay (fun _ _ _ q => q) (fun _ q => other q) fun _ _ q => other q
/-- what 'except x as n: suite' wishes, the exception being kept behind the suite -/
def wKeep (K : PySem.W.Frag) (c : Value) (i : Nat) (ts : Addr → Value → Option Addr → TS) (Wout : WX) (D : Ends) : WX := fun cls d σ H =>
  ∃ b, PySem.W.exmOne K cls c = some b ∧ (b = true → ∀ a, H a = none → ts a cls d ⟨fun σ' H' => D.nx (σ'.set i none) (upd H' a (ExcK cls d a)), fun v H' => D.rt v (upd H' a (ExcK cls d a)), fun σ' H' => D.bk (σ'.set i none) (upd H' a (ExcK cls d a)), fun σ' H' => D.ct (σ'.set i none) (upd H' a (ExcK cls d a))⟩ (σ.set i (some (.ref a))) H) ∧
    (b = false → Wout cls d σ H)
theorem unsuite2 {a : Addr} {oe : Obj} {pn' : List (Addr × Obj)} (I : Inv (X.suite a ((a, oe) :: (X.pn ++ pins))) pn' σ H s) (ok : X.Ok) : Inv X ((a, oe) :: pins) σ H s := by
  refine { ok := ok, os := I.os, bare := I.bare, base := I.base, loc := I.loc, cell := I.cell, free := I.free, freeC := I.freeC, pin := fun p hp => I.pin p (List.mem_append_left _ ?_), hok := I.hok, len := I.len }
  rcases List.mem_append.mp hp with h | h
  · exact List.mem_cons_of_mem _ (List.mem_append_left _ h)
  · rcases List.mem_cons.mp h with h | h
    · rw [h]
      exact List.mem_cons_self
    · exact List.mem_cons_of_mem _ (List.mem_append_right _ h)
end
section
variable {X : Cx} {x n : Str} {c : Value} {i : Nat} {body suite : List Stmt} {st0 : Stmt} {np pos pos' : Pos} {tb : WX → TS} {ts : Addr → Value → Option Addr → TS} {Wout : WX}
/-- try: body / except x as n: suite, the exception kept -/
theorem ps_try_keep (hs : X.stack = X.env :: X.outer) (hf : X.env.frame = some X.env.locals) (hex : X.ex = []) (hN : X.N.Nodup) (hi : X.N[i]? = some n) (hln : X.env.kindOf n = some .local) (hc : Names X x c) (tk : Takes X Wout)
    (hb : ∀ (W : WX) (pn : List (Addr × Obj)) (xe : Value → Shared → Prop), Takes (X.tr pn xe) W → PassesOwn (model X.prog X.w) X.A X.env xe → PSs (X.tr pn xe) body (tb W))
    (hsu : ∀ (a : Addr) (oe : Obj) (cls : Value) (d : Option Addr) (pn : List (Addr × Obj)), Zc cls d oe → (∃ vs, oe.data = .fields vs) → PSs (X.suite a ((a, oe) :: pn)) (st0 :: suite) (ts a cls d)) :
    PS X (.Try body [.ExceptHandler (some (.Name x np)) (some n) (st0 :: suite) pos'] [] [] pos) (fun D σ H => tb (wKeep X.K c i ts Wout D) D σ H) := by
  refine ⟨fun pins s σ H D I h => ?_⟩
  have okX := I.ok
  have frames : X.A.frames = some (X.env :: X.outer) := okX.frames.trans (congrArg some hs)
  let caughtBy : Value → Shared → Prop := fun e s₁ => wpAny (model X.prog X.w) X.A (noteFrame e X.env) (fun _ s₂ => wpAny (model X.prog X.w) X.A (setFlight e none)
    (fun _ s₃ => wpAny (model X.prog X.w) X.A (handleBy e X.env [.ExceptHandler (some (.Name x np)) (some n) (st0 :: suite) pos']) (SP X pins D) X.xe s₃) X.xe s₂) X.xe s₁
  have body1 := hb (wKeep X.K c i ts Wout D) (X.pn ++ pins) caughtBy ?up PassesOwn.looking
  refine wpAny_Try_except (wpAny_mono (body1.run [] s σ H D (I.toTry _) h) ?thru fun _ _ q => q)
  case thru =>
    intro fl s1 hq
    cases fl with
    | next =>
      obtain ⟨σ1, H1, I1, q⟩ := hq
      exact wpAny_execs_nil ⟨σ1, H1, I1.ofTry okX, q⟩
    | brk =>
      obtain ⟨σ1, H1, I1, q⟩ := hq
      exact ⟨σ1, H1, I1.ofTry okX, q⟩
    | cont =>
      obtain ⟨σ1, H1, I1, q⟩ := hq
      exact ⟨σ1, H1, I1.ofTry okX, q⟩
    | ret u =>
      obtain ⟨v, σ1, H1, I1, r, q⟩ := hq
      exact ⟨v, σ1, H1, I1.ofTry okX, r, q⟩
  case up =>
    rintro u t ⟨a, G, sI, pins1, σ1, H1, cls, d, rfl, I0, ground, slots, sky, na, eos, bare, b, eb, yes, no⟩
    have I1 : Inv X pins σ1 H1 sI := I0.ofTry okX
    show wpAny (model X.prog X.w) X.A (noteFrame (.ref a) X.env) _ _ _
    refine Sky.land Zc.steady frames hf (hs ▸ sky) fun hA flA upA => ?_
    have IA : Inv X pins σ1 H1 { t with heap := hA } := I1.landed ground flA.1 (slots.trans upA) eos bare
    obtain ⟨oA, vA, eA, zA, dA⟩ := flA.there
    have offFrames : a ∉ frs (X.env :: X.outer) := fun hm => by
      obtain ⟨_, o', e', hnf⟩ := flA.2.2.1.mem hm
      rw [eA] at e'
      cases e'
      exact hnf _ dA
    have nL : a ≠ X.env.locals := fun z => offFrames (List.mem_filterMap.mpr ⟨X.env, List.mem_cons_self, by rw [hf, z]⟩)
    have nF : a ∉ X.fs := fun hm => by
      obtain ⟨e1, m1, q1⟩ := List.mem_filterMap.mp hm
      exact offFrames (List.mem_filterMap.mpr ⟨e1, List.mem_cons_of_mem _ m1, q1⟩)
    have newI : sI.heap.get? a = none := by
      cases q : sI.heap.get? a with
      | none => rfl
      | some o =>
        have z := ground a o q (by rw [show X.stack = X.env :: X.outer from hs]; exact offFrames)
        have k2 : G.get? a = none := flA.2.1
        rw [k2] at z
        exact nomatch z
    have new0 : X.s_0.heap.get? a = none := by
      cases q : X.s_0.heap.get? a with
      | none => rfl
      | some o =>
        obtain ⟨o', e'⟩ := I1.base.there a o q (by rw [hex]; exact List.not_mem_nil)
        rw [newI] at e'
        exact nomatch e'
    have apart : ∀ p ∈ X.pn ++ pins, p.1 ≠ a := fun p hp z => by
      have e' := (I1.pin p hp).1
      rw [z, newI] at e'
      exact nomatch e'
    have SA := IA.suite eA dA na nL nF
    refine wpAny_handleBy_cons (codeAny_handlers_test ?_) (by intro q; cases q)
    have typ : PySem.W.Looks (model X.prog X.w) hA (typeOf (.ref a)) cls := fun A Q E s k q => wpAny_typeOf_ref (k _ _ eA) (by rw [zA.1]; exact q)
    have asks := PySem.W.exm_one (M := model X.prog X.w) (IA.kIn) typ eb
    have clause : ∀ {Q : Value → Shared → Prop} {E : Value → Shared → Prop}, Q c { t with heap := hA } → wpAny (model X.prog X.w) (X.A.mark (some (.ref a))) (eval (.Name x np) X.env) Q E { t with heap := hA } := fun {Q E} q => by
      obtain ⟨hg, hdbg, hm | ⟨hm, hv, hnn⟩⟩ := hc
      · exact ld_glob (X := X.suite a ((a, oA) :: (X.pn ++ pins))) SA hg hm q hdbg
      · exact ld_blt (X := X.suite a ((a, oA) :: (X.pn ++ pins))) SA hg hm hv q hnn hdbg
    refine clause (asks.here ?_)
    cases b with
    | true =>
      refine codeAny_handlers_suite_as (HandSPX.lands_againZ flA fun hB flB upB => ?_)
      have IB : Inv X pins σ1 H1 { t with heap := hB } := I1.landed ground flB.1 ((slots.trans upA).trans upB) eos bare
      obtain ⟨oB, vB, eB, zB, dB⟩ := flB.there
      have SB := IB.suite eB dB na nL nF
      refine store_ok (X := X.suite a ((a, oB) :: (X.pn ++ pins))) (v := .ref a) SB hN hi (.inl hln) rfl (fun s5 S5 => ?_) (.inr hln)
      have behind : ∀ {σ6 : L2.St} {H6 : Hp} {s6 : Shared} {Q : Shared → Prop}, Inv (X.suite a ((a, oB) :: (X.pn ++ pins))) [] σ6 H6 s6 → (∀ s7, Inv X pins (σ6.set i none) (upd H6 a (ExcK cls d a)) s7 → Q s7) →
          wpAny (model X.prog X.w) X.A (do bindName X.env n .none; unbindBehindTheSuite X.env n pos') (fun _ s7 => Q s7) X.xe s6 := fun {σ6 H6 s6 Q} S6 hq =>
        gone_ok (unsuite2 S6 okX) hN hi hln fun s7 I7 => hq s7 (kept_inv I7 zB dB new0 apart)
      refine wpAny_mono ((hsu a oB cls d (X.pn ++ pins) zB ⟨_, dB⟩).run [] s5 _ H1 _ S5 (yes rfl a na)) (fun fl s6 hq => ?_) (fun _ _ z => False.elim z)
      cases fl with
      | next =>
        obtain ⟨σ6, H6, S6, q6⟩ := hq
        exact behind S6 fun s7 I7 => ⟨_, _, I7, q6⟩
      | brk =>
        obtain ⟨σ6, H6, S6, q6⟩ := hq
        exact behind S6 fun s7 I7 => ⟨_, _, I7, q6⟩
      | cont =>
        obtain ⟨σ6, H6, S6, q6⟩ := hq
        exact behind S6 fun s7 I7 => ⟨_, _, I7, q6⟩
      | ret u =>
        obtain ⟨v6, σ6, H6, S6, r6, q6⟩ := hq
        exact behind S6 fun s7 I7 => ⟨_, _, _, I7, r6, q6⟩
    | false =>
      show wpAny _ X.A (handleBy (.ref a) X.env []) _ _ _
      refine wpAny_handleBy_nil ?_
      obtain ⟨k1, k2, k3, oe, vs, T, oT, ts', he, hz, hd, h1, hr⟩ := id flA
      unfold PySem.passOn
      refine wpAny_bind (wpAny_field he hd h1 ?_)
      rw [if_neg (show ¬ ((Value.ref T == Value.none) = true) from by simp)]
      have fin : wpAny (model X.prog X.w) X.A (setFlight (.ref a) X.env.frame) (fun _ s4 => wpAny (model X.prog X.w) X.A (throw (.ref a) : Sem Flow) (SP X pins D) X.xe s4) X.xe { t with heap := hA } := by
        rw [hf]
        refine HandSPX.setFlight_upZ flA fun hB hhB upB => wpAny_throw (tk _ _ ?_)
        exact ⟨a, G, sI, pins, σ1, H1, cls, d, rfl, I1, ground, (slots.trans upA).trans upB, .inr (.inr (by rw [hs]; exact hhB)), na, eos, bare, no rfl⟩
      first
        | exact wpAny_bind (wpAny_pure (wpAny_bind fin))
        | exact wpAny_bind fin
end
end Bw
/-! A kept exception asked by isinstance, and for its attribute. -/
namespace Bw
open PySem PySem.Spec PyProof.Rows L2
section
open PySem.W PySem.Calls
variable {prog : Program} {w : World} {A : Around} {E : Value → Shared → Prop} {s : Shared} {K : Frag} {x D : Addr} {ox : Obj} {od : Option Obj}
theorem own_class {a g : Value} {nm : Str} (hc : (clsIn K D).isSome = true) (ha : findIn K (.ref D) nm = some (some a)) (hg : specialIn K a "__get__" = some (some g)) (ht : takesIn K a = some true) : findObj K D od nm = some (.bind g a) := by
  cases q : clsIn K D with
  | none =>
    rw [q] at hc
    exact nomatch hc
  | some cd =>
    simp only [findObj, q, ha, hg, ht, Option.bind_some]
/-- e.__class__ of an exception, whether it has a dict or not -/
theorem exc_class {Q : Option Value → Shared → Prop} (C : ExcC K D) (X : K.In s.heap) (I : InstAt s.heap x ox D od) (h : Q (some (.ref D)) { s with toks := s.toks + 1 }) : wpAny (model prog w) A (getAttr? (.ref x) "__class__") Q E s := by
  have isC : (clsIn K D).isSome = true := by
    obtain ⟨cd, q, _⟩ := any_some C.hd
    rw [q]
    rfl
  have found : findObj K D od "__class__" = some (.bind (.builtin "getset_descriptor.__get__") (.builtin "object.__class__")) := own_class isC C.ha C.hn C.ht
  obtain ⟨hp, g, d, t, os⟩ := s
  have look0 := I.type (M := model prog w)
  have look1 := looks_findIn (M := model prog w) X C.hg
  have look2 := looks_findIn (M := model prog w) X C.hk
  have look3 := looks_find (M := model prog w) X I found
  have isExc : Looks (model prog w) hp (isInstance (.ref x) (.type "BaseException")) true := look0.andThen (looks_subIn X C.hs)
  have notPlain : (Value.builtin "BaseException.__getattribute__" == Value.builtin "object.__getattribute__") = false := by decide +kernel
  have notOwn : (onTheHeap (Value.ref D) && Value.builtin "BaseException.__getattribute__" == Value.builtin "object.__getattribute__") = false := by rw [notPlain]; rfl
  unfold getAttr? getAttrBy? getAttrBy
  refine wpAny_bind (wpAny_mkText (wpAny_bind (wpAny_attempt (wpAny_holding (wpAny_bind (look0.at (wpAny_bind (look1.at ?_))))))))
  show wpAny _ _ (if (onTheHeap (Value.ref D) && Value.builtin "BaseException.__getattribute__" == Value.builtin "object.__getattribute__") = true then _ else _) _ _ _
  rw [notOwn, if_neg Bool.false_ne_true]
  unfold getAttrByItsOwn hookBefore
  refine wpAny_bind ?_
  rw [if_pos (show onTheHeap (Value.ref D) = true from rfl)]
  refine look2.at (wpAny_bind (wpAny_attempt (wpAny_holding ?_)))
  unfold callGetattribute
  rw [show (false && onTheHeap (Value.builtin "BaseException.__getattribute__")) = false from rfl, if_neg Bool.false_ne_true]
  unfold boundAndCalled
  rw [PySem.F.excAttr_ValueError.ga.bind (.ref x)]
  refine wpAny_bind (wpAny_pure ?_)
  show wpAny _ _ (call (.builtin "BaseException.__getattribute__") [.ref x, .str "__class__" t]) _ _ _
  refine wpAny_call (codeAny_call_builtin PySem.F.excAttr_ValueError.ga.plain PySem.F.entry_bexc_ga ?_)
  refine @check_slot (model prog w) _ _ ⟨hp, g, d, t + 1, os⟩ "BaseException.__getattribute__" "BaseException" "__getattribute__" (.ref x) [.str "__class__" t] [] _ (by decide +kernel) (by decide +kernel) isExc (PySem.F.args_bexc_ga (.ref x) (.str "__class__" t)) ?_
  unfold Builtin.«object.__getattribute__»
  refine wpAny_bind (wpAny_of_eq (a := ((Value.ref x : Value), [Value.str "__class__" t])) (by first | rfl | (simp only [slotArgs]; rfl)) ?_)
  refine wpAny_bind (wpAny_pure (wpAny_bind (look0.at (wpAny_bind (look3.at ?_)))))
  show wpAny _ _ (holding [Value.builtin "object.__class__"] (call (.builtin "getset_descriptor.__get__") [.builtin "object.__class__", .ref x, .ref D]) >>= ret) _ _ _
  refine wpAny_bind (wpAny_holding (wpAny_call (class_get (s := ⟨hp, g, d, t + 1, os⟩) (ox := ox) (od := od) X I C.hm (wpAny_pure ?_))))
  show wpAny _ _ (handedOut (.ref D)) _ _ _
  rw [handedOut_of (v := .ref D) rfl]
  first
    | exact wpAny_pure (wpAny_pure h)
    | exact wpAny_pure h
    | exact wpAny_pure (wpAny_bind (wpAny_pure (wpAny_pure h)))
theorem kit_exc (C : ExcC K D) : KitX K (.ref x) (.ref D) (fun h => InstAt h x ox D od) where
  ty := fun _ _ _ I => I.type
  it := fun _ _ X _ => by
    obtain ⟨cd, q, _⟩ := any_some C.hd
    unfold clsIn at q
    split at q
    · rename_i c1 d1 cd1 sl1 ho
      intro A1 Q1 E1 s1 k r
      unfold isType loadHead
      exact wpAny_bind (wpAny_loadPart (k _ _ (X _ _ ho)) (wpAny_pure r))
    · cases q
  ne := fun h tp dd its n sl X htp => by
    obtain ⟨cd, q, _⟩ := any_some C.hd
    refine Bool.eq_false_iff.mpr fun z => ?_
    cases Value.ref.inj (beq_iff_eq.mp z)
    unfold clsIn at q
    split at q
    · rename_i c1 d1 cd1 sl1 ho
      cases (X _ _ ho).symm.trans htp
    · cases q
  ca := fun X I k => exc_class C X I k
end
/-- isinstance(e, c), e a kept exception -/
def rIsK (K : PySem.W.Frag) : List V → Hp → VK → Prop := fun xs H Q => ∃ (a D : Addr) (d : Option Addr) (c : V) (cv : Value) (b : Bool), xs = [.ref a, c] ∧ H a = some (ExcK (.ref D) d a) ∧ (∀ dd, d = some dd → ∃ fs, H dd = some (.xd fs)) ∧ ExcC K D ∧ (∀ u, RelV c u → u = cv) ∧ PySem.W.kitOne K (.ref D) cv = some b ∧ Q (.bl b) H
theorem exc_inst {X : Cx} {pins : List (Addr × Obj)} {σ : L2.St} {H : Hp} {s : Shared} {a D : Addr} {d : Option Addr} (I : Inv X pins σ H s) (ea : H a = some (ExcK (.ref D) d a)) (ed : ∀ dd, d = some dd → ∃ fs, H dd = some (.xd fs)) :
    ∃ (oe : Obj) (vs : Array Value) (od : Option Obj), s.heap.get? a = some oe ∧ Zc (.ref D) d oe ∧ oe.data = .fields vs ∧ PySem.W.InstAt s.heap a oe D od ∧ ∀ dd, d = some dd → ∃ o, od = some o ∧ s.heap.get? dd = some o := by
  obtain ⟨⟨oe, vs, h1, h2, h3⟩, _, _⟩ := I.hok a _ ea
  have nc : PySem.W.notCls oe = true := by
    unfold PySem.W.notCls
    rw [h3]
  cases d with
  | none => exact ⟨oe, vs, none, h1, h2, h3, ⟨h1, h2.1, nc, by rw [h2.2]; trivial⟩, fun dd z => nomatch z⟩
  | some dd =>
    obtain ⟨fs, hd⟩ := ed dd rfl
    have hx : ObjOk X.prog X.w H s.heap dd (.xd fs) := I.hok dd _ hd
    obtain ⟨mA, hns, _⟩ := hx
    obtain ⟨od, ho, hl⟩ := lookIn_ns hns
    exact ⟨oe, vs, some od, h1, h2, h3, ⟨h1, h2.1, nc, by rw [h2.2]; exact ho⟩, fun dd' z => by cases z; exact ⟨od, rfl, ho⟩⟩
theorem call_isK {X : Cx} : CallR X (.builtin "isinstance") (rIsK X.K) := by
  intro pins s σ H xs us Q I r h
  obtain ⟨a, D, d, c, cv, b, rfl, ea, ed, C, hcv, e, q⟩ := h
  obtain ⟨oe, vs, od, _, _, _, J, _⟩ := exc_inst I ea ed
  cases r with
  | cons rx r2 => cases r2 with
  | cons rt r3 =>
    cases r3
    cases rx
    have ec := hcv _ rt
    subst ec
    exact PySem.W.kia_one (kit_exc C) I.kIn J e (fun z => nomatch z) fun tk => ⟨.bl b, H, I.kept (t' := tk) fun _ _ z => z, rfl, q⟩
/-- e.f, e a kept exception of the class C -/
def tXk (K : PySem.W.Frag) (f : Str) (te : TE) : TE := fun σ H Q => te σ H fun x H1 => ∃ (a D dd : Addr) (fs : List (Str × V)) (v : V), x = .ref a ∧ H1 a = some (ExcK (.ref D) (some dd) a) ∧ H1 dd = some (.xd fs) ∧ XfC K D ∧ PySem.W.findIn K (.ref D) f = some none ∧ fs.lookup f = some v ∧ Q v H1
theorem pe_xk {X : Cx} {e : Expr} {te : TE} {pos : Pos} {f : Str} (he : PE X e te) (hb : attributeBase e f X.env (eval e X.env) = eval e X.env := by rfl) : PE X (.Attribute e f pos) (tXk X.K f te) := by
  refine ⟨fun pins s σ H Q I h => attr_of hb (thn (he.run pins s σ H _ I h) fun u s1 hh => ?_)⟩
  obtain ⟨x, H1, I1, rx, a, D, dd, fs, v, rfl, ea, ed, T, hno, l, q⟩ := hh
  cases rx
  obtain ⟨oe, vs, od, h1, hz, hd, J, ho⟩ := exc_inst I1 ea fun d' z => by
    cases z
    exact ⟨fs, ed⟩
  obtain ⟨o, rfl, hdd⟩ := ho dd rfl
  have hx : ObjOk X.prog X.w H1 s1.heap dd (.xd fs) := I1.hok dd _ ed
  obtain ⟨mA, hns, hr⟩ := hx
  obtain ⟨o2, ho2, hl⟩ := lookIn_ns hns
  rw [hdd] at ho2
  cases ho2
  obtain ⟨u2, hu, ru⟩ := RelO.some_of (v := v) (o := mA f) (by rw [← l]; exact hr f)
  exact HandSPX.exc_get I1.kIn J T.ga T.gg T.exC (PySem.W.findObj_own T.hdC hno rfl (by rw [hl, hu])) (handed_of ru) ⟨v, H1, I1.tok _, ru, q⟩
end Bw
/-! The laws' def that catches an error of the package and gives it back. -/
namespace Bw
open PySem PySem.Spec PyProof.Rows L2
theorem takes_len {X : Cx} {W : WX} (tk : Takes X W) : Takes X fun cls d σ H => σ.length = X.N.length → W cls d σ H := fun u s' ⟨a, B, sI, pins, σ, H, cls, d, e, I, nb, up, sky, na, os, ag, w⟩ =>
  tk u s' ⟨a, B, sI, pins, σ, H, cls, d, e, I, nb, up, sky, na, os, ag, w I.len⟩
/-- what it makes of the lambda's reading: None, or the error itself -/
def TCaught (K : PySem.W.Frag) (CR : Addr) : (XK → Hp → VK → Prop) → Hp → VK → Prop := fun tl H Q =>
  tl (fun cls d H' => PySem.W.exmOne K cls (.ref CR) = some true ∧ ∀ e, H' e = none → Q (.ref e) (upd H' e (ExcK cls d e))) H (fun _ H' => tVar 0 [some .non] H' Q)
theorem caught_gives {X : Cx} {x q n : Str} {sg : Scope} {g CR : Addr} {cdg : Value} {p0 p1 p2 p3 p4 p5 p6 p7 p8 p9 q1 q2 q3 q4 : Pos} (S : FnScope ["_law_work", "_law_caught_here", n] ["_law_work"] sg)
    (l1 : sg.names.lookup ("_law_caught_here" : Str) = some .local) (l2 : sg.names.lookup n = some .local) (lR : sg.names.lookup ("RiverError" : Str) = some .globalImplicit) (mR : X.mg "RiverError" = some (.ref CR)) (dn : (n == ("__debug__" : Str)) = false := by decide) (dc : (n == ("__classdict__" : Str)) = false := by decide) :
    LamX.GivesTo X ["_law_work", "_law_caught_here", n] x sg g cdg [.Assign [.Name "_law_caught_here" p0] (.Constant .none 0 p1) p2,
      .Try [.Expr (.Call (.Name "_law_work" p3) [] [] p4) p5] [.ExceptHandler (some (.Name "RiverError" p6)) (some n) [.Assign [.Name "_law_caught_here" p7] (.Name n p8) p9] q1] [] [] q2, .Return (some (.Name "_law_caught_here" q3)) q4] "_law_work" q (TCaught X.K CR) := by
  intro f c' s H Q tl act hc h
  let X0 := (cxOf C8.CX0 X.prog X.w X.K X.mg X.base ["_law_work", "_law_caught_here", n] x sg g cdg X.A X.stack s H C8.E0).nox
  have gl : Gl X0 "RiverError" := lR
  refine ⟨_, pss_cons (ps_set (i := 1) S.nd rfl (Or.inl l1) pe_non) (pss_cons (ps_try_keep (X := X0) (i := 2) (c := .ref CR) (Wout := fun _ _ _ _ => False) (ts := fun a cls d => tAsg (tVar 2) (gName 1))
    (tb := fun W D σ H => ∃ Ech : XK, (∀ cls d σ' H', σ'.length = 3 → Ech cls d H' → W cls d σ' H') ∧ σ[0]? = some (some (.ref f)) ∧ H c' = some (LamX.CodeO c' q) ∧ tl Ech H fun _ H' => D.nx σ H')
    rfl rfl rfl S.nd rfl l2 ⟨gl, by decide, .inl mR⟩ LamX.takes0 (fun W pn xe tk _ => ?_) (fun a oe cls d pn _ _ => pss_one (ps_set (i := 1) S.nd rfl (Or.inl l1) (pv 2 rfl (Or.inl l2) dn dc) (by rfl) (.inr l1)))) (pss_one (ps_ret (pv 1 rfl (Or.inl l1) (by decide) (by decide))))), ?_⟩
  · refine ⟨fun pins s' σ H' D I h' => ?_⟩
    obtain ⟨Ech, hW, h1, h2, h3⟩ := h'
    have hp := act (fun cls d σ H => σ.length = X0.N.length → W cls d σ H) pn xe Ech p3 p4 (takes_len tk) fun cls d σ' H' e len => hW cls d σ' H' len e
    exact (pss_one (ps_expr (pos := p5) hp)).run pins s' σ H' D I ⟨h1, h2, h3⟩
  · refine ⟨fun cls d H' => PySem.W.exmOne X.K cls (.ref CR) = some true ∧ ∀ e, H' e = none → Q (.ref e) (upd H' e (ExcK cls d e)), fun cls d σ' H' len ⟨e1, e2⟩ => ⟨true, e1, fun _ a ha => ?_, fun z => nomatch z⟩, rfl, hc, ?_⟩
    · match σ', len with
      | [u0, u1, u2], _ => exact ⟨_, rfl, _, rfl, e2 a ha⟩
    · exact h
end Bw
/-! An own error whose __init__ says super().__init__(text), then self.x = x: the promise of that __init__. -/
namespace Bw
open PySem PySem.Spec PyProof.Rows L2 PySem.W
/-- self.par = par behind super().__init__ -/
def spSi (C : Addr) (par : Str) : Sp := fun vs H Q _ => ∃ (a : Addr) (v : V), vs = [.ref a, v] ∧ H a = some (exo a C none) ∧ ∀ dx, H dx = none → dx ≠ a → Q .non (upd (upd H dx (exd dx [(par, v)])) a (exo a C (some dx)))
/-- what stands in the text of such a def -/
structure SiScope (par : Str) (sc : Scope) : Prop where
  kind : sc.kind = .function
  co : sc.isCoroutine = false
  gen : sc.isGenerator = false
  cell : ∀ y ∈ sc.names, y.2 ≠ .cell
  self_ : sc.names.lookup ("self" : Str) = some .local
  par_ : sc.names.lookup par = some .local
  sup : sc.names.lookup ("super" : Str) = some .globalImplicit
  cls : sc.names.lookup ("__class__" : Str) = some .free
  free : ∀ y ∈ sc.names, y.2 = .free → y.1 = ("__class__" : Str)
/-- what the written part says of the class and of its __init__ -/
structure SiK (K : PySem.W.Frag) (prog : Program) (C f cda cc : Addr) : Prop where
  cls : OexC K C
  code : ∃ ccl cdd vs ccs file tf, K.lookup cda = some ⟨ccl, cdd, .fields vs, ccs⟩ ∧ vs[2]? = some (.str file tf) ∧ ((prog.main.file : Str) == file) = true
  cel : ∃ cl cld csl, K.lookup cc = some ⟨cl, cld, .cell (some (.ref C)), csl⟩
  sup : ks_superIn K C C "__init__" = some (some (.builtin "ValueError.__init__"))
  val : subIn K (.ref C) (.type "ValueError") = some true
  own : mroIn K C (.ref C) = some true
  opq : nsIn K cStatics "thirdparty.any" = some none
section
variable {P : Program} {w : World} {K : PySem.W.Frag} {mg : Str → Option Value} {base : Heap} {par qual : Str} {params : Arguments} {scope : Scope} {f cda cc C : Addr} {A : Around} {outer : List Env} {s : Shared} {H : Hp}
/-- its context -/
def siCx (P : Program) (w : World) (K : PySem.W.Frag) (mg : Str → Option Value) (base : Heap) (par qual : Str) (scope : Scope) (f cda cc : Addr) (A : Around) (outer : List Env) (s : Shared) (H : Hp) : Cx where
  prog := P
  w := w
  K := K
  mg := mg
  base := base
  A := A.deeper (ksEnv qual scope s.heap.objs.size f (.ref cda) cc)
  N := ["self", par]
  s_0 := s
  H_0 := H
  env := ksEnv qual scope s.heap.objs.size f (.ref cda) cc
  outer := outer
  stack := ksEnv qual scope s.heap.objs.size f (.ref cda) cc :: outer
  ex := []
  fn := fun _ => false
  calm := true
  pn := []
  xe := fun _ _ => False
theorem si_start {a : Addr} {v : V} {u : Value} {h1 : Heap} {tk : Nat} (S : SiScope par scope) (np : par ≠ ("self" : Str)) (hd : A.handled = none) (e0 : Env0 P w K mg base A outer s H) (rv : RelV v u) (D : ∃ cl cld csl, K.lookup cc = some ⟨cl, cld, .cell (some (.ref C)), csl⟩)
    (hns : h1.Ns s.heap.objs.size fun x => ([("self", Value.ref a), (par, u)] : List (Str × Value)).reverse.lookup x) (kp : ∀ b o, s.heap.get? b = some o → h1.get? b = some o) :
    Inv (siCx P w K mg base par qual scope f cda cc A outer s H) [] [some (.ref a), some v] H { s with heap := h1, toks := tk } := by
  obtain ⟨cl, cld, csl, hcc⟩ := D
  have only : ∀ {y : Str} {c : Addr}, ([("__class__", cc)] : List (Str × Addr)).lookup y = some c → y = ("__class__" : Str) ∧ c = cc := fun {y c} e => by
    rw [List.lookup_cons] at e
    split at e
    · rename_i q
      cases e
      exact ⟨eq_of_beq q, rfl⟩
    · cases e
  have inBase := e0.mod.kin cc _ hcc
  have at0 := e0.bs cc _ inBase
  have noex : ∀ b : Addr, b ∉ ([] : List Addr) := fun b z => nomatch z
  refine ⟨⟨e0.mod, S.kind, rfl, rfl, Nat.le_refl _, fun x y c e1 e2 => ?_, fun y hy => ?_, fun y c z _ => ?_, fun _ => hd, Around.frames_deeper e0.frames, .inr ⟨rfl, rfl⟩, fun b z => absurd z (noex b), e0.bs, e0.bsz, fun b _ _ => noex b, fun b z => absurd z (noex b), e0.funs, e0.frf⟩,
    rfl, e0.bare, Un.kept kp, ⟨_, hns, fun i x z e1 e2 e3 => ?_⟩, fun x c e => ?_, e0.hok.fresh (Nat.le_refl _), fun x c e => ?_, fun p hp => ?_, e0.hok.kept kp, rfl⟩
  · rw [(only e1).1, (only e2).1]
  · rcases hy with hy | hy
    · exact absurd rfl (S.cell _ (PySem.mem_of_lookup (show scope.names.lookup y = some .cell from hy)))
    · have e := S.free _ (PySem.mem_of_lookup (show scope.names.lookup y = some .free from hy)) rfl
      have e : y = ("__class__" : Str) := e
      rw [e]
      exact ⟨cc, rfl⟩
  · exact absurd (show false = true from z) (by decide)
  · match i, e1, e2 with
    | 0, e1, e2 =>
      cases e1
      cases e2
      refine ⟨.ref a, rfl, .inl ⟨S.self_, ?_⟩⟩
      show ([(par, u), ("self", Value.ref a)] : List (Str × Value)).lookup ("self" : Str) = some (.ref a)
      rw [List.lookup_cons, show (("self" : Str) == par) = false from beq_false_of_ne (Ne.symm np), List.lookup_cons, show (("self" : Str) == ("self" : Str)) = true from beq_self_eq_true _]
    | 1, e1, e2 =>
      cases e1
      cases e2
      refine ⟨u, rv, .inl ⟨S.par_, ?_⟩⟩
      show ([(par, u), ("self", Value.ref a)] : List (Str × Value)).lookup par = some u
      rw [List.lookup_cons, show (par == par) = true from beq_self_eq_true _]
    | i + 2, e1, e2 => exact nomatch e1
  · rw [(only e).2]
    exact ⟨_, _, kp _ _ at0.1, rfl⟩
  · rw [(only e).2]
    exact at0.2
  · exact absurd (show p ∈ ([] : List (Addr × Obj)) from hp) (by simp)
/-- the __init__ keeps its promise -/
theorem fn_si {k : Nat} {text : Str} {j : Nat} {p0 p1 p2 p3 p4 p5 p6 p7 p8 p9 : Pos} {dV kV doc pm ct oc : Value} {an od : Option Addr} {osl : Array (Option Value)} {name : Str} {ar : Arg} (S : SiScope par scope) (np : par ≠ ("self" : Str)) (T : SiK K P C f cda cc)
    (lk : K.lookup f = some ⟨oc, od, .func (ksFn name qual params [.Expr (.Call (.Attribute (.Call (.Name "super" p0) [] [] p1) "__init__" p2) [.Constant (.str text) j p3] [] p4) p5, .Assign [.Attribute (.Name "self" p6) par p7] (.Name par p8) p9] scope dV kV doc pm an (.ref cda) ct cc), osl⟩)
    (hcd : codeIn K (.ref cda) qual = true) (hp : (params.posonlyargs ++ params.args).head? = some ar) (har : ar.arg = ("self" : Str)) (msup : mg "super" = none) (htop : (P.main.scope.names.lookup ("super" : Str)).isSome = false) (hno : findIn K (.ref C) par = some none)
    (bsup : bootBuiltins "super" = some (.type "super")) (dpar : (par == ("__debug__" : Str)) = false) (cpar : (par == ("__classdict__" : Str)) = false) {pl : Env → Sem Bool}
    (heval : ∀ env : Env, eval (.Call (.Attribute (.Call (.Name "super" p0) [] [] p1) "__init__" p2) [.Constant (.str text) j p3] [] p4) env = (do
      let ov ← attributeBase (.Call (.Name "super" p0) [] [] p1) "__init__" env (eval (.Call (.Name "super" p0) [] [] p1) env)
      standAt p2.atName
      let (f, first) ← holding [ov] (getMethod ov "__init__" (pl env))
      callWith p4 f first (backTo p4 (starEach [.Constant (.str text) j p3] env)) [])) :
    FnOk P w K mg base CX0 (k + 1) f (ksFn name qual params [.Expr (.Call (.Attribute (.Call (.Name "super" p0) [] [] p1) "__init__" p2) [.Constant (.str text) j p3] [] p4) p5, .Assign [.Attribute (.Name "self" p6) par p7] (.Name par p8) p9] scope dV kV doc pm an (.ref cda) ct cc) ["self", par] (spSi C par) := by
  refine ⟨fun vs H Q E h => ?_, fun A outer s H args us vs Q E hr e0 hb r hsp => ?_⟩
  · obtain ⟨a, v, rfl, _⟩ := h
    rfl
  obtain ⟨a, v, rfl, ha, hQ⟩ := hsp
  obtain ⟨ccl, cdd, fvs, ccs, file, tf, hcode, hvs, hfile⟩ := T.code
  have KX : K.In s.heap := e0.mod.kin.keeps fun b o e => (e0.bs b o e).1
  have lim : s.heap.NoLimit := e0.mod.nolimit.keeps fun b o e => (e0.bs b o e).1
  obtain ⟨u, rv, rfl⟩ : ∃ u, RelV v u ∧ us = [.ref a, u] := by
    cases r with
    | cons r1 r2 => cases r2 with
    | cons r3 r4 =>
      cases r4
      cases r1
      exact ⟨_, r3, rfl⟩
  refine ks_codeAny_call_defAt (binds := [("self", Value.ref a), (par, u)]) hr.depth (KX _ _ lk) rfl lim (codeRec_of KX hcd) rfl hb S.cell (fun x hx => ?_) (fun h1 hns kp => ?_) S.co S.gen S.kind
  · rcases List.mem_cons.mp hx with e | hx
    · rw [e]
      exact S.self_
    · rw [List.mem_singleton.mp hx]
      exact S.par_
  let X := siCx P w K mg base par qual scope f cda cc A outer s H
  have I : Inv X [] [some (.ref a), some v] H { s with heap := h1, toks := s.toks + 2 } := si_start S np hr.hd e0 rv T.cel hns kp
  obtain ⟨nm, q, N, bs, bm, sn, sub, ab, col, dd, k0, k1, k2, k3, k5, hC, hbm⟩ := T.cls.cls
  have hcl : clsIn K C = some { name := nm, bases := bs, mro := .ref C :: bm, ns := N, qualname := q, hasDict := true, slotNames := sn, subclasses := sub, abstract := ab, collection := col, hasDel := false } := by unfold clsIn; rw [hC]
  obtain ⟨t1, ho⟩ := exo_at I.hok ha
  have K1 : K.In h1 := I.kIn
  obtain ⟨oD, hD1, hD2⟩ : ∃ oD, h1.get? C = some oD ∧ oD.data = .cls { name := nm, bases := bs, mro := .ref C :: bm, ns := N, qualname := q, hasDict := true, slotNames := sn, subclasses := sub, abstract := ab, collection := col, hasDel := false } := ⟨_, K1 _ _ hC, rfl⟩
  obtain ⟨mb, hb1, hb2⟩ := e0.mod.blt
  obtain ⟨cl, cld, csl, hcc⟩ := T.cel
  show PySem.wpAt (model P w) (A.deeper X.env) (.func _ X.env) (execs _ X.env) _ _ _
  refine ks_wpAt_execs_cons (ks_wpAt_Expr_any (ks_wpAt_MethodCall (ks_wpAt_super_base S.sup S.cls (by decide) rfl (K1 _ _ lk) rfl hp rfl (K1 _ _ hcode) rfl hvs hfile htop ?_) (heval _)) I.quiet)
  rw [har]
  refine ks_loadName_global S.kind S.sup (Calls.loadGlobal_builtin (e0.mod.glob.keeps I.bk) msup (hb1.keeps I.bk) ((hb2 _ (by decide)).trans bsup) ⟨rfl, ?_⟩)
  refine wpAny_loadName_free S.kind S.cls rfl ⟨_, K1 _ _ hcc, rfl⟩ ?_
  have mself : (fun x => ([("self", Value.ref a), (par, u)] : List (Str × Value)).reverse.lookup x) ("self" : Str) = some (.ref a) := by
    show ([(par, u), ("self", Value.ref a)] : List (Str × Value)).lookup ("self" : Str) = some (.ref a)
    rw [List.lookup_cons, show (("self" : Str) == par) = false from beq_false_of_ne (Ne.symm np), List.lookup_cons, show (("self" : Str) == ("self" : Str)) = true from beq_self_eq_true _]
  refine wpAny_loadName_local S.kind S.self_ hns mself ?_
  refine ks_wpAny_isType_cls hD1 hD2 ⟨rfl, ?_⟩
  refine ks_wpAny_call_super hD1 hD2 ho rfl (fun c z => nomatch z) (looks_mroIn K1 T.own) fun h2 hso kp2 => ?_
  have I2 : Inv X [] [some (.ref a), some v] H { s with heap := h2, toks := s.toks + 2 } := I.kept kp2
  have K2 : K.In h2 := I2.kIn
  obtain ⟨t2, ho2⟩ := exo_at I2.hok ha
  have typ : Looks (model P w) h2 (typeOf (.ref a)) (.ref C) := fun A Q E s k q => wpAny_typeOf_ref (k _ _ ho2) q
  have isV : Looks (model P w) h2 (isInstance (.ref a) (.type "ValueError")) true := typ.andThen (looks_subIn K2 T.val)
  have along := T.sup
  unfold ks_superIn at along
  rw [hcl] at along
  have naC : a ≠ C := fun z => by
    rw [z] at ho2
    have z2 := (K2 _ _ hC).symm.trans ho2
    cases z2
  refine kxs_getMethod kxs_ValueError hso (looks_opaque K2 T.opq) (l₀ := .ref C :: bm) (fun A Q E s k q => wpAny_bind ((looks_clsIn K2 hcl) A _ E s k (wpAny_pure q))) rfl K2 along isV naC (by decide) ?_
  have kp3 : ∀ b o, h2.get? b = some o → (h2.push (kxs_mw "ValueError.__init__" a)).get? b = some o := fun b o e => Heap.get?_push_of_some _ e
  have hu3 : (h2.push (kxs_mw "ValueError.__init__" a)).get? h2.objs.size = some (kxs_mw "ValueError.__init__" a) := Heap.get?_push_at rfl rfl
  have I3 : Inv X [] [some (.ref a), some v] H ⟨h2.push (kxs_mw "ValueError.__init__" a), s.gens, s.drawn, s.toks + 2 + 1, s.os⟩ := I2.kept kp3
  have nu : H h2.objs.size = none := I2.hok.fresh (Nat.le_refl _)
  have I3p : Inv X [(h2.objs.size, kxs_mw "ValueError.__init__" a)] [some (.ref a), some v] H ⟨h2.push (kxs_mw "ValueError.__init__" a), s.gens, s.drawn, s.toks + 2 + 1, s.os⟩ := I3.pins_of fun p hp => by
    rw [List.mem_singleton.mp hp]
    exact ⟨hu3, nu, Nat.ne_of_gt I2.lt, I2.nofs (Nat.le_refl _), fun v z => nomatch z⟩
  have he : starEach [.Constant (.str text) j p3] X.env = (false, eval (.Constant (.str text) j p3) X.env) :: starEach [] X.env := by rfl
  have arg := (pa_cons (X := X) (e := .Constant (.str text) j p3) pe_str pa_nil).run p4 _ _ _ H (fun vs H1 => vs = [.str text] ∧ H1 = H) I3p ⟨rfl, rfl⟩
  show wpAny (model P w) _ (callWith p4 (.ref h2.objs.size) [] (backTo p4 (starEach [.Constant (.str text) j p3] X.env)) []) _ _ _
  rw [he] at arg ⊢
  refine kxs_callWith (i := "ValueError.__init__") (x := a) (by rfl) (Calls.evalArgs_plain (thn arg fun ws s4 hh => ?_))
  obtain ⟨zs, H4, I4, r4, ez, eH⟩ := hh
  subst ez
  subst eH
  obtain ⟨hu4, -⟩ := I4.pin _ (List.mem_append_right _ List.mem_cons_self)
  have wl : ws.length ≤ sizeLine := by
    rw [← Paired.length r4]
    show 1 ≤ sizeLine
    decide
  obtain ⟨t4, ho4⟩ := exo_at I4.hok ha
  refine ⟨hu4, ?_⟩
  obtain ⟨h4, g4, d4, tk4, os4⟩ := s4
  refine wpAny_call (codeAny_of_tree ?_)
  show wpAny _ _ (callAny (.ref h2.objs.size) ⟨ws, []⟩) _ _ _
  simp only [callAny]
  refine wpAny_bind (wpAny_load hu4 ?_)
  simp only [kxs_mw, show (Value.type "method-wrapper" == Value.type "method" || Value.type "method-wrapper" == Value.type "builtin_function_or_method" || Value.type "method-wrapper" == Value.type "method-wrapper") = true by decide, if_true]
  refine KFB.if_so (by decide) (wpAny_bind (check_bound_init PySem.F.excBase_ValueError.toExcCallFacts (I4.kIn _ _ hC) ho4 rfl (wpAny_bind (wpAny_pure (wpAny_pure ?_)))))
  refine ⟨plainId_quiet PySem.F.excBase_ValueError.init.plain _, codeAny_builtin PySem.F.excBase_ValueError.initEntry (exc_init_tree (cls := .ref C) (t0 := t4) (dv := none) (c2 := .none) (c3 := .none) (b4 := .bool false) ho4 wl fun h5 kp5 hx5 _ => ?_)⟩
  have J0 := I4.write (t' := tk4) (x := a) (e := a) (o := exo a C none) (by rw [ha]; exact True.intro) (.inl rfl) kp5 ⟨_, hx5⟩ (exo_ok hx5)
  have same : upd H4 a (exo a C none) = H4 := by
    funext b
    by_cases hb : b = a
    · rw [hb, upd_same, ha]
    · rw [upd_ne hb]
  rw [same] at J0
  have J : Inv X [] [some (.ref a), some v] H4 ⟨h5, g4, d4, tk4, os4⟩ := J0.pins_of fun p hp => nomatch hp
  have vis0 : Vis X.env.scope "self" := .inl S.self_
  have vis1 : Vis X.env.scope par := .inl S.par_
  have store := (pss_one (ps_ost (X := X) (f := par) (pos := p9) (p' := p7) (pe_var (i := 0) (x := "self") (pos := p6) rfl vis0 (by decide) (by decide)) (pe_var (i := 1) (x := par) (pos := p8) rfl vis1 dpar cpar))).run [] _ [some (.ref a), some v] H4 { nx := fun _ H' => Q .non H', rt := Q } J
    ⟨v, rfl, .ref a, rfl, a, C, rfl, T.cls, hno, .inl ⟨ha, hQ⟩⟩
  refine wpAt_of_wpAny (wpAny_mono store (fun fl s6 hs => ?_) fun _ _ z => z.elim)
  cases fl with
  | next =>
    obtain ⟨σ6, H6, I6, q6⟩ := hs
    exact ⟨.non, H6, I6.os, I6.bare, I6.base, I6.hok, rfl, q6⟩
  | ret u6 =>
    obtain ⟨v6, σ6, H6, I6, r6, q6⟩ := hs
    exact ⟨v6, H6, I6.os, I6.bare, I6.base, I6.hok, r6, q6⟩
  | brk =>
    obtain ⟨_, _, _, q6⟩ := hs
    exact q6.elim
  | cont =>
    obtain ⟨_, _, _, q6⟩ := hs
    exact q6.elim
end
end Bw
/-! Errors raised by the defs of the tables. -/
namespace Bw
open PySem PySem.Spec PyProof.Rows L2 Evl
section
variable {K : PySem.W.Frag} {C CB : Addr} {σ : L2.St} {H : Hp} {ta tb tc te : TE} {D : Ends} {t u n m N : Nat} {E F : List Edge}
/-- what raising an error with one attribute leaves -/
abbrev wSi (CB : Addr) (par : Str) (v : V) (H : Hp) (E : XK) : Prop := ∀ d H1, Ex H H1 → H1 d = none → E (.ref CB) (some d) (upd H1 d (.xd [(par, v)]))
theorem raise_si {par : Str} {v : V} {E : XK} (h : Ev te σ H v) (k : wSi CB par v H E) : tMkO CB (spSi CB par) [] (tCons te tNil) σ H E := by
  refine h H (Ex.refl _) _ fun H1 e1 => ⟨by show 1 ≤ 1000; decide, fun a ha => ⟨a, v, rfl, upd_same, fun dx hdx nd => ⟨rfl, dx, [(par, v)], upd_same, ?_, ?_, ?_⟩⟩⟩
  · rw [upd_ne nd, upd_same]
  · rw [upd_ne nd] at hdx
    exact hdx
  · rw [upd_ne nd] at hdx
    have e : (upd (del (upd (upd (upd H1 a (exo a CB none)) dx (exd dx [(par, v)])) a (exo a CB (some dx))) a) dx (.xd [(par, v)]) : Hp) = upd H1 dx (.xd [(par, v)]) := by
      funext b
      by_cases hb : b = dx
      · rw [hb, upd_same, upd_same]
      · rw [upd_ne hb, upd_ne hb]
        by_cases hba : b = a
        · rw [hba, del_same, ha]
        · rw [del_ne hba, upd_ne hba, upd_ne hb, upd_ne hba]
    rw [e]
    exact k dx H1 e1 hdx
/-- no Table -/
def NoTab (K : PySem.W.Frag) (C : Addr) (H : Hp) (x : V) : Prop := ∃ c : Value, (∀ H1, Ex H H1 → TyX K H1 x c) ∧ PySem.W.kitOne K c (.ref C) = some false
theorem NoTab.ex {H' : Hp} {x : V} (h : NoTab K C H x) (e : Ex H H') : NoTab K C H' x := by
  obtain ⟨c, h1, h2⟩ := h
  exact ⟨c, fun H1 e1 => h1 H1 (e.trans e1), h2⟩
theorem ev_noTab {x : V} (h : Ev te σ H x) (hx : NoTab K C H x) : Ev (tCB (rIsi K) (tCons te (tCons (tC (.ref C)) tNil))) σ H (.bl false) := by
  obtain ⟨c, ty, kt⟩ := hx
  exact ev_cb (ea_cons h (ea_cons ev_c ea_nil)) fun H1 e1 Q q => ⟨x, .ref C, c, _, false, rfl, .own C, ty H1 e1, kt, q H1 (Ex.refl _)⟩
/-- _need_table of what is no Table -/
def spNeedBad (K : PySem.W.Frag) (C CB : Addr) : Sp := fun vs H _ E => ∃ x p, vs = [x, p] ∧ NoTab K C H x ∧ wSi CB "part" p H E
def tNeedBad (K : PySem.W.Frag) (C CB : Addr) (E : XK) : TS := tIfS (tNot (tB (tCB (rIsi K) (tCons (tVar 0) (tCons (tC (.ref C)) tNil))))) (fun _ σ H => tMkO CB (spSi CB "part") [] (tCons (tVar 1) tNil) σ H fun cls d H' => E cls d H') tNext
theorem pure_needBad {x p : V} {Q : VK} {E : XK} (hx : NoTab K C H x) (w : wSi CB "part" p H E) : tNeedBad K C CB E (ends Q) [some x, some p] H := by
  refine s_if (b := !false) (et_not (et_B (ev_noTab (ev_var rfl) hx))) (fun _ H1 e1 => raise_si (ev_var rfl) fun d H2 e2 hd => w d H2 (e1.trans e2) hd) fun z => nomatch z
end
end Bw
/-! Drawn bounds of any width. -/
namespace Bw
open PySem PySem.Spec PyProof.Rows L2 Evl
section
variable {K : PySem.W.Frag} {C : Addr} {σ : L2.St} {H : Hp} {ta tb tc te : TE} {D : Ends} {t n : Nat} {E : List Edge} {st lg cs : Addr}
theorem b_drawW {m : Nat} {Q : VK} (h : EvA (tCons ta (tCons tb tNil)) σ H [.ref st, .int (m : Int)]) (hm : 0 < m) (hm2 : m < 2 ^ 100) (hn : n < 2 ^ 40) (S : Src H st lg cs n) (q : ∀ (r : Nat) (H' : Hp), r < m → Src H' st lg cs (n + 1) → But H H' st lg → Q (.int (r : Int)) H') : tCall spDraw [] E0 (tCons ta (tCons tb tNil)) σ H Q :=
  h H (Ex.refl _) _ fun H1 e1 => ⟨st, lg, cs, m, n, rfl, hm, hm2, hn, S.lift e1, fun r H' hr S' B => q r H' hr S' ((But.ex e1).trans B)⟩
/-- the law's drawn bounds -/
def sp_capsW (C : Addr) : Sp := fun vs H Q _ => ∃ (st lg cs many thick wide n0 : Nat), vs = [.ref st, .int (many : Int), .int (thick : Int), .int (wide : Int)] ∧ 1 ≤ many ∧ many ≤ 12 ∧ wide ≤ 2 ^ 40 ∧ 0 < thick ∧ thick ≤ 1000 ∧ n0 < 2 ^ 30 ∧ Src H st lg cs n0 ∧
  ∀ d H' E, Src H' st lg cs (n0 + 600) → But H H' st lg → H d = none → d ≠ st → d ≠ lg → H' d = some (.dT (E.map kvE)) → GoodE (many + 1) E → (E.map ekey).Nodup → E.length ≤ 1000 → Q (.ref d) H'
/-- what is drawn so far -/
structure CapJ (H : Hp) (st lg cs d n0 many : Nat) (k : Nat) (E : List Edge) (H' : Hp) : Prop where
  src : Src H' st lg cs (n0 + k)
  but : But H H' st lg
  dict : H' d = some (.dT (E.map kvE))
  good : GoodE (many + 1) E
  nd : (E.map ekey).Nodup
abbrev sCapW (st many thick wide d : V) (v5 v6 : Option V) : L2.St := [some st, some many, some thick, some wide, some d, v5, v6]
theorem pure_capsW {many thick wide n0 : Nat} {Q : VK} (m1 : 1 ≤ many) (m2 : many ≤ 12) (w2 : wide ≤ 2 ^ 40) (t1 : 0 < thick) (t2 : thick ≤ 1000) (hn : n0 < 2 ^ 30) (S : Src H st lg cs n0)
    (k : ∀ d H' E, Src H' st lg cs (n0 + 600) → But H H' st lg → H d = none → d ≠ st → d ≠ lg → H' d = some (.dT (E.map kvE)) → GoodE (many + 1) E → (E.map ekey).Nodup → E.length ≤ 1000 → Q (.ref d) H') : t__law_caps_0 K C (ends Q) [some (.ref st), some (.int (many : Int)), some (.int (thick : Int)), some (.int (wide : Int)), none, none, none] H := by
  intro d hd
  have nds : d ≠ st := fun z => S.some_.1 (by rw [← z]; exact hd)
  have ndl : d ≠ lg := fun z => S.some_.2 (by rw [← z]; exact hd)
  obtain ⟨H1, eH1⟩ : ∃ H1, H1 = upd H d (.dT []) := ⟨_, rfl⟩
  have e1 : Ex H H1 := by rw [eH1]; exact Ex.new hd
  have d1 : H1 d = some (.dT []) := by rw [eH1]; exact upd_same
  show t__law_caps_1 K C (ends Q) (sCapW (.ref st) (.int (many : Int)) (.int (thick : Int)) (.int (wide : Int)) (.ref d) none none) (upd H d (.dT []))
  rw [← eH1]
  have cnt : ∀ (v5 v6 : Option V) (H2 : Hp), EvA (tCons (tOp rAddI (tVar 1) (tC (.int 1))) tNil) (sCapW (.ref st) (.int (many : Int)) (.int (thick : Int)) (.int (wide : Int)) (.ref d) v5 v6) H2 [.int ((many + 1 : Nat) : Int)] := fun v5 v6 H2 => ea_cons (ev_is (ev_op (ev_var rfl) ev_c rv_I0) rfl) ea_nil
  have c0 : CapJ H st lg cs d n0 many 0 [] H1 := ⟨S.lift e1, But.ex e1, d1, fun e he => (nomatch he), List.nodup_nil⟩
  have cex : ∀ {kk : Nat} {E : List Edge} {H2 H3 : Hp}, CapJ H st lg cs d n0 many kk E H2 → Ex H2 H3 → CapJ H st lg cs d n0 many kk E H3 := fun c e => ⟨c.src.lift e, c.but.trans (But.ex e), e _ _ c.dict, c.good, c.nd⟩
  refine q_forR1 (cnt _ _ H1) (by omega) (fun a σ' H' => ∃ v5 v6 E kk, σ' = sCapW (.ref st) (.int (many : Int)) (.int (thick : Int)) (.int (wide : Int)) (.ref d) v5 v6 ∧ CapJ H st lg cs d n0 many kk E H' ∧ kk ≤ a * 39 ∧ ∀ e ∈ E, e.1 < a) (fun H2 e2 => ⟨_, _, [], 0, rfl, cex c0 e2, Nat.zero_le _, fun e he => nomatch he⟩) (fun a σ' H' ha ⟨v5, v6, E, kk, es, c, hk, hE⟩ => ?_) (fun σ' H' ⟨v5, v6, E, kk, es, c, hk, hE⟩ => ?_)
  · subst es
    have ha2 : a < many + 1 := by omega
    show tFor _ _ _ _ (sCapW (.ref st) (.int (many : Int)) (.int (thick : Int)) (.int (wide : Int)) (.ref d) (some (.int (a : Int))) v6) H'
    refine s_forR1 (cnt _ _ H') (by omega) (fun b σ' H' => ∃ v6 E kk, σ' = sCapW (.ref st) (.int (many : Int)) (.int (thick : Int)) (.int (wide : Int)) (.ref d) (some (.int (a : Int))) v6 ∧ CapJ H st lg cs d n0 many kk E H' ∧ kk ≤ a * 39 + b * 3 ∧ ∀ e ∈ E, e.1 < a ∨ (e.1 = a ∧ e.2.1 < b)) (fun H2 e2 => ⟨_, E, kk, rfl, cex c e2, by omega, fun e he => Or.inl (hE e he)⟩) (fun b σ' H' hb ⟨v6, E, kk, es, c, hk, hE⟩ => ?_) (fun σ' H' ⟨v6, E, kk, es, c, hk, hE⟩ => ?_)
    · subst es
      have hb2 : b < many + 1 := by omega
      have hk40 : n0 + kk < 2 ^ 40 := by
        have : (2 : Nat) ^ 30 + 600 < 2 ^ 40 := by decide
        omega
      show tIfS _ _ _ _ (sCapW (.ref st) (.int (many : Int)) (.int (thick : Int)) (.int (wide : Int)) (.ref d) (some (.int (a : Int))) (some (.int (b : Int)))) H'
      have ne : EvT (tTest (tOp rNe (tVar 5) (tVar 6))) (sCapW (.ref st) (.int (many : Int)) (.int (thick : Int)) (.int (wide : Int)) (.ref d) (some (.int (a : Int))) (some (.int (b : Int)))) H' (!decide ((V.int (a : Int)) = V.int (b : Int))) := et_test (ev_op (ev_var rfl) (ev_var rfl) (rv_ne rfl))
      have later : ∀ e ∈ E, e.1 < a ∨ (e.1 = a ∧ e.2.1 < b + 1) := fun e he => by
        rcases hE e he with h | ⟨h1, h2⟩
        · exact Or.inl h
        · exact Or.inr ⟨h1, by omega⟩
      by_cases cab : a = b
      · refine s_when (b := !decide ((V.int (a : Int)) = V.int (b : Int)) && false) (et_and ne fun z => ?_) (fun z => ?_) fun _ H2 e2 => ⟨_, E, kk, rfl, cex c e2, by omega, later⟩
        · rw [cab, decide_eq_true rfl] at z
          exact nomatch z
        · rw [Bool.and_false] at z
          exact nomatch z
      · have cd : decide ((V.int (a : Int)) = V.int (b : Int)) = false := decide_eq_false fun z => cab (by have := V.int.inj z; omega)
        rw [cd] at ne
        unfold tIfS tAnd
        refine ne H' (Ex.refl _) _ fun H2 e2 => ?_
        refine iteT ?_
        have c2 := cex c e2
        have args : EvA (tCons (tVar 0) (tCons (tVar 2) tNil)) (sCapW (.ref st) (.int (many : Int)) (.int (thick : Int)) (.int (wide : Int)) (.ref d) (some (.int (a : Int))) (some (.int (b : Int)))) H2 [.ref st, .int (thick : Int)] := ea_cons (ev_var rfl) (ea_cons (ev_var rfl) ea_nil)
        refine b_draw args t1 (by omega) hk40 c2.src fun r H3 hr S3 B3 => ?_
        have c3 : CapJ H st lg cs d n0 many (kk + 1) E H3 := ⟨S3, c2.but.trans B3, B3 _ _ c2.dict nds ndl, c2.good, c2.nd⟩
        refine ⟨rfl, _, rfl, ?_⟩
        refine ite_b (fun hz => ?_) (fun hz => ⟨_, E, kk + 1, rfl, c3, by omega, later⟩)
        -- a bound is drawn
        unfold sDPut
        have hk41 : n0 + (kk + 1) < 2 ^ 40 := by
          have : (2 : Nat) ^ 30 + 600 < 2 ^ 40 := by decide
          omega
        have hk42 : n0 + (kk + 1) + 1 < 2 ^ 40 := by
          have : (2 : Nat) ^ 30 + 600 < 2 ^ 40 := by decide
          omega
        have args9 : EvA (tCons (tVar 0) (tCons (tOp rAddI (tOp rMulI (tC (.int 2)) (tVar 3)) (tC (.int 1))) tNil)) (sCapW (.ref st) (.int (many : Int)) (.int (thick : Int)) (.int (wide : Int)) (.ref d) (some (.int (a : Int))) (some (.int (b : Int)))) H3 [.ref st, .int ((2 * wide + 1 : Nat) : Int)] := ea_cons (ev_var rfl) (ea_cons (ev_is (ev_op (ev_op ev_c (ev_var rfl) (rv_I (C := CMul) (Or.inl ⟨by decide, by decide⟩))) ev_c rv_I0) (by rw [Int.natCast_add, Int.natCast_mul]; rfl)) ea_nil)
        refine b_drawW args9 (Nat.succ_pos _) (by have : (2 : Nat) * 2 ^ 40 + 1 < 2 ^ 100 := by decide
                                                  omega) hk41 c3.src fun r2 H4 hr2 S4 B4 => ?_
        have list3 : EvL (tLst (tCons (tC (.int 0)) (tCons (tVar 3) (tCons (tOp rDivI (tVar 3) (tC (.int 2))) tNil)))) (sCapW (.ref st) (.int (many : Int)) (.int (thick : Int)) (.int (wide : Int)) (.ref d) (some (.int (a : Int))) (some (.int (b : Int)))) H4 [.int 0, .int (wide : Int), .int ((wide : Int) / 2)] := el_lst (ea_cons ev_c (ea_cons (ev_var rfl) (ea_cons (ev_op (ev_var rfl) ev_c (rv_I (C := CDiv) ⟨by decide, by decide⟩)) ea_nil))) (by show 3 ≤ 100000; decide)
        refine b_pick (K := K) (ev_var rfl) list3 (by show 0 < 3; decide) (by show 3 ≤ 1000; decide) hk42 S4 fun x H5 hx S5 B5 => ?_
        obtain ⟨w, rfl⟩ : ∃ w, x = .int w := by
          rcases List.mem_cons.mp hx with h | hx
          · exact ⟨_, h⟩
          · rcases List.mem_cons.mp hx with h | hx
            · exact ⟨_, h⟩
            · exact ⟨_, List.mem_singleton.mp hx⟩
        have B35 := (c3.but.trans B4).trans B5
        have d5 : H5 d = some (.dT (E.map kvE)) := B5 _ _ (B4 _ _ c3.dict nds ndl) nds ndl
        refine ⟨(r2 : Int), w, rfl, rfl, .ref d, rfl, ?_⟩
        have key : EvU (tTup (tCons (tVar 5) (tCons (tVar 6) tNil))) (sCapW (.ref st) (.int (many : Int)) (.int (thick : Int)) (.int (wide : Int)) (.ref d) (some (.int (a : Int))) (some (.int (b : Int)))) H5 [.int (a : Int), .int (b : Int)] := eu_tup (ea_cons (ev_var rfl) (ea_cons (ev_var rfl) ea_nil)) (by show 2 ≤ 100000; decide)
        refine key H5 (Ex.refl _) _ fun q H6 hq e6 h6 => ?_
        have h6 : H6 q = some (.tup ((ekey (a, b, (r2 : Int) - w)).map kV)) := h6
        have ln := lenG c3.good c3.nd m1 (by omega)
        have out : ∀ f ∈ E, ¬ (f.1 = a ∧ f.2.1 = b) := fun f hf z => by
          rcases hE f hf with h | ⟨_, h⟩
          · omega
          · omega
        have no : lookE E a b = none := by
          cases el : lookE E a b with
          | none => rfl
          | some y => exact absurd ⟨rfl, rfl⟩ (out _ ((look_mem c3.nd).mp el))
        have pk_ : putK (E.map kvE) (ekey (a, b, (r2 : Int) - w)) (.int ((r2 : Int) - w)) = (E ++ [(a, b, (r2 : Int) - w)]).map kvE := by
          rw [L2.putK_new _ (by
            have := val_look (E := E) (a := a) (b := b)
            rw [no] at this
            exact this), List.map_append]
          rfl
        have d6 := e6 _ _ d5
        have S6 := S5.lift e6
        have B6 := B35.trans (But.ex e6)
        refine ⟨d, _, rfl, DPut.t d6 h6 (by rw [List.length_map]; exact sz_lt (by omega)), _, E ++ [(a, b, (r2 : Int) - w)], kk + 3, rfl, ⟨?_, ?_, ?_, fun f hf => ?_, ?_⟩, by omega, fun f hf => ?_⟩
        · obtain ⟨⟨large, cells, r, t, g1, g2, g3, g4⟩, nl⟩ := S6
          have ncs : cs ≠ d := fun z => by rw [z, d6] at g3; exact nomatch g3
          exact ⟨⟨large, cells, r, t, by rw [upd_ne (fun z => nds z.symm)]; exact g1, by rw [upd_ne (fun z => ndl z.symm)]; exact g2, by rw [upd_ne ncs]; exact g3, g4⟩, nl⟩
        · intro b' o hb' n1 n2
          rw [upd_ne (ne_of_none hb' hd)]
          exact B6 b' o hb' n1 n2
        · rw [upd_same, pk_]
        · rcases List.mem_append.mp hf with hf | hf
          · exact c3.good f hf
          · rw [List.mem_singleton.mp hf]; exact ⟨ha2, hb2, cab⟩
        · refine nodup_app c3.nd (by simp) fun f hf f' hf' z => ?_
          rw [List.mem_singleton.mp hf'] at z
          exact out f hf z
        · rcases List.mem_append.mp hf with hf | hf
          · exact later f hf
          · rw [List.mem_singleton.mp hf]; exact Or.inr ⟨rfl, Nat.lt_succ_self b⟩
    · subst es
      rw [Int.toNat_natCast] at hk hE
      refine ⟨_, _, E, kk, rfl, c, by omega, fun e he => ?_⟩
      rcases hE e he with h | ⟨h, _⟩
      · omega
      · omega
  · subst es
    rw [Int.toNat_natCast] at hk
    refine s_ret (ev_var rfl) fun H2 e2 => ?_
    have c2 := cex c e2
    exact k d H2 E (c2.src.up (by omega)) c2.but hd nds ndl c2.dict c2.good c2.nd (lenG c2.good c2.nd m1 (by omega))
end
end Bw
/-! The law's own joining of bounds. -/
namespace Bw
open PySem PySem.Spec PyProof.Rows L2 Evl
section
variable {K : PySem.W.Frag} {C : Addr} {σ : L2.St} {H : Hp} {ta tb tc te : TE} {D : Ends} {t u n m N : Nat} {E F : List Edge}
theorem ok_look (nF : (F.map ekey).Nodup) (s : Nat → Int) : OkS F s ↔ ∀ x y w, lookE F x y = some w → s x - s y ≤ w :=
  ⟨fun h x y w hw => h _ ((look_mem nF).mp hw), fun h e he => h _ _ _ ((look_mem nF).mpr he)⟩
/-- the lesser bound is put -/
theorem ok_min (nF : (F.map ekey).Nodup) {a b : Nat} {w v : Int} (hv : v = match lookE F a b with | some x => if x < w then x else w | none => w) (s : Nat → Int) : OkS (putE F (a, b, v)) s ↔ OkS F s ∧ s a - s b ≤ w := by
  rw [ok_look (putE_nd nF), ok_look nF, putE_look nF]
  constructor
  · intro h
    have h0 : s a - s b ≤ v := h a b v (by show (if a = a ∧ b = b then some v else _) = _; rw [if_pos ⟨rfl, rfl⟩])
    refine ⟨fun x y z hz => ?_, ?_⟩
    · by_cases c : x = a ∧ y = b
      · rw [c.1, c.2] at hz ⊢
        rw [hz] at hv
        have hv : v = if z < w then z else w := hv
        split at hv <;> omega
      · exact h x y z (by show (if x = a ∧ y = b then some v else _) = _; rw [if_neg c]; exact hz)
    · cases hl : lookE F a b with
      | none =>
        rw [hl] at hv
        have hv : v = w := hv
        omega
      | some x =>
        rw [hl] at hv
        have hv : v = if x < w then x else w := hv
        split at hv <;> omega
  · rintro ⟨h1, h2⟩ x y z hz
    have hz : (if x = a ∧ y = b then some v else lookE F x y) = some z := hz
    by_cases c : x = a ∧ y = b
    · rw [if_pos c] at hz
      cases hz
      rw [c.1, c.2]
      cases hl : lookE F a b with
      | none =>
        rw [hl] at hv
        have hv : v = w := hv
        omega
      | some x' =>
        rw [hl] at hv
        have hv : v = if x' < w then x' else w := hv
        have := h1 a b x' hl
        split at hv <;> omega
    · rw [if_neg c] at hz
      exact h1 x y z hz
theorem ev_dget2 {d q : Addr} {k : List Key} {z : V} {kvs : List (List Key × V)} (h0 : Ev ta σ H (.ref d)) (h1 : Ev tb σ H (.ref q)) (h2 : Ev tc σ H z) (hd : H d = some (.dT kvs)) (hq : H q = some (.tup (k.map kV))) : Ev (tDGet2 ta tb tc) σ H ((valV kvs k).getD z) := fun H1 e Q r =>
  h0 H1 e _ fun H2 e2 => ⟨d, rfl, Or.inr ⟨_, Or.inl ((e.trans e2) _ _ hd)⟩, h1 H2 (e.trans e2) _ fun H3 e3 => h2 H3 ((e.trans e2).trans e3) _ fun H4 e4 => ⟨_, DGet.t ((((e.trans e2).trans e3).trans e4) _ _ hd) ((((e.trans e2).trans e3).trans e4) _ _ hq), r H4 ((e2.trans e3).trans e4)⟩⟩
theorem rc_min2 {i j : Int} : RC (fun xs H Q => ∃ i j, xs = [.int i, .int j] ∧ Q (.int (if j < i then j else i)) H) [.int i, .int j] H (.int (if j < i then j else i)) := fun H1 _ Q q => ⟨i, j, rfl, q H1 (Ex.refl _)⟩
def sp__law_both (C : Addr) : Sp := spOf fun vs H P => ∃ (c d : Addr) (n : Nat) (E E2 : List Edge) (H0 : Hp), Ex H0 H ∧ vs = [.ref c, .ref d] ∧ H c = some (.dT (E.map kvE)) ∧ H d = some (.dT (E2.map kvE)) ∧ GoodE (n + 1) E ∧ (E.map ekey).Nodup ∧ GoodE (n + 1) E2 ∧ (E2.map ekey).Nodup ∧ 1 ≤ n ∧ n ≤ 12 ∧
  P = fun v H2 => ∃ f F, v = .ref f ∧ H0 f = none ∧ H2 f = some (.dT (F.map kvE)) ∧ GoodE (n + 1) F ∧ (F.map ekey).Nodup ∧ ∀ s, OkS F s ↔ OkS E s ∧ OkS E2 s
def t__law_both_2 (K : PySem.W.Frag) (C : Addr) : TS := (tRet (tVar 2))
def t__law_both_1 (K : PySem.W.Frag) (C : Addr) : TS := tSeq (tLock (tFor (iKeys (tVar 1)) (gName 3) (sDPut (tVar 2) (tVar 3) (tCB rMin2 (tCons (tDGet (tVar 1) (tVar 3)) (tCons (tDGet2 (tVar 2) (tVar 3) (tDGet (tVar 1) (tVar 3))) tNil)))))) (t__law_both_2 K C)
def t__law_both_0 (K : PySem.W.Frag) (C : Addr) : TS := tSeq (tAsg (tCB rDictPT (tCons (tCB rListItT (tCons (tBM0 K "dict" DX.rItemsT (tVar 0)) tNil)) tNil)) (gName 2)) (t__law_both_1 K C)
theorem pure_law_both {c d : Addr} {E2 : List Edge} {Q : VK} (hc : H c = some (.dT (E.map kvE))) (hd : H d = some (.dT (E2.map kvE))) (gE : GoodE (n + 1) E) (nE : (E.map ekey).Nodup) (gE2 : GoodE (n + 1) E2) (nE2 : (E2.map ekey).Nodup) (n1 : 1 ≤ n) (n2 : n ≤ 12)
    (k : ∀ f F H2, Ex H H2 → H f = none → H2 f = some (.dT (F.map kvE)) → GoodE (n + 1) F → (F.map ekey).Nodup → (∀ s, OkS F s ↔ OkS E s ∧ OkS E2 s) → Q (.ref f) H2) :
    t__law_both_0 K C (ends Q) [some (.ref c), some (.ref d), none, none] H := by
  unfold t__law_both_0 tSeq tAsg
  refine dict_copied (ev_var rfl) hc nE fun f H1 hf0 e1 h1 => ?_
  show t__law_both_1 K C (ends Q) [some (.ref c), some (.ref d), some (.ref f), none] H1
  have hd1 := e1 _ _ hd
  have nfd : f ≠ d := fun z => by rw [z, hd] at hf0; exact nomatch hf0
  refine q_lock hd1 True.intro fun od => ?_
  obtain ⟨HL, eL⟩ : ∃ HL, HL = upd H1 d (.frz od (.dT (E2.map kvE))) := ⟨_, rfl⟩
  rw [← eL]
  have gd : HL d = some (.frz od (.dT (E2.map kvE))) := by rw [eL]; exact upd_same
  have gf : HL f = some (.dT (E.map kvE)) := by rw [eL, upd_ne nfd]; exact h1
  have gH : ∀ b o, b ≠ d → H b = some o → HL b = some o := fun b o nb hb => by rw [eL, upd_ne nb]; exact e1 _ _ hb
  refine s_forKT (ev_var rfl) gd (fun i σ' H' => ∃ v3 F, σ' = [some (.ref c), some (.ref d), some (.ref f), v3] ∧ (∀ b o, b ≠ f → HL b = some o → H' b = some o) ∧ H' f = some (.dT (F.map kvE)) ∧ GoodE (n + 1) F ∧ (F.map ekey).Nodup ∧ ∀ s, OkS F s ↔ OkS E s ∧ OkS (E2.take i) s)
    (fun H4 e4 => ⟨_, E, rfl, fun b o _ h => e4 _ _ h, e4 _ _ gf, gE, nE, fun s => ⟨fun a => ⟨a, fun e he => nomatch he⟩, fun a => a.1⟩⟩) (fun i σ' H' _ ⟨_, _, _, o, _⟩ => o _ _ (fun z => nfd z.symm) gd) (fun i key v q σ' H' hkv hq ⟨v3, F, es, o, hF, gF, nF, ok⟩ => ?_) (fun σ' H' ⟨v3, F, es, o, hF, gF, nF, ok⟩ => ?_)
  · subst es
    obtain ⟨e, he, rfl, rfl⟩ := edge_at hkv
    have hem := List.mem_of_getElem? he
    have hd2 := o _ _ (fun z => nfd z.symm) gd
    have tk : E2.take (i + 1) = E2.take i ++ [e] := take_step he
    obtain ⟨a, b, w⟩ := e
    obtain ⟨v, hv⟩ : ∃ v, v = match lookE F a b with | some x => if x < w then x else w | none => w := ⟨_, rfl⟩
    have gw : Ev (tDGet (tVar 1) (tVar 3)) [some (.ref c), some (.ref d), some (.ref f), some (.ref q)] H' (.int w) := ev_dget (k := ekey (a, b, w)) (ev_var rfl) (ev_var rfl) (Or.inr ⟨od, hd2⟩) hq (val_mem nE2 hem)
    have vl : valV (F.map kvE) (ekey (a, b, w)) = (lookE F a b).map V.int := val_look
    have val : Ev (tCB rMin2 (tCons (tDGet (tVar 1) (tVar 3)) (tCons (tDGet2 (tVar 2) (tVar 3) (tDGet (tVar 1) (tVar 3))) tNil))) [some (.ref c), some (.ref d), some (.ref f), some (.ref q)] H' (.int v) := by
      have g2 : Ev (tDGet2 (tVar 2) (tVar 3) (tDGet (tVar 1) (tVar 3))) [some (.ref c), some (.ref d), some (.ref f), some (.ref q)] H' ((valV (F.map kvE) (ekey (a, b, w))).getD (.int w)) := ev_dget2 (ev_var rfl) (ev_var rfl) gw hF hq
      rw [vl] at g2
      cases hl : lookE F a b with
      | none =>
        rw [hl] at g2 hv
        have hv : v = w := hv
        refine ev_is (ev_cb (ea_cons gw (ea_cons g2 ea_nil)) rc_min2) ?_
        rw [hv]
        split <;> rfl
      | some x =>
        rw [hl] at g2 hv
        have hv : v = if x < w then x else w := hv
        rw [hv]
        exact ev_cb (ea_cons gw (ea_cons g2 ea_nil)) rc_min2
    show sDPut _ _ _ _ [some (.ref c), some (.ref d), some (.ref f), some (.ref q)] H'
    refine val H' (Ex.refl _) _ fun H5 e5 => ?_
    have zl : (F.map kvE).length < sizeLine := by
      rw [List.length_map]
      have := lenG gF nF n1 n2
      exact sz_lt (by omega)
    refine ⟨.ref f, rfl, .ref q, rfl, f, _, rfl, DPut.t (k := ekey (a, b, v)) (e5 _ _ hF) (e5 _ _ hq) zl, _, putE F (a, b, v), rfl, fun b' o' hb h => ?_, ?_, putE_good (e := (a, b, v)) gF (show a < n + 1 ∧ b < n + 1 ∧ a ≠ b from gE2 _ hem), putE_nd nF, fun s => ?_⟩
    · rw [upd_ne hb]
      exact e5 _ _ (o b' o' hb h)
    · rw [upd_same]
      exact congrArg (fun z => some (HO.dT z)) (putE_kv (e := (a, b, v)))
    · rw [ok_min nF hv s, ok s, tk]
      constructor
      · rintro ⟨⟨h1, h2⟩, h3⟩
        refine ⟨h1, fun e he => ?_⟩
        rcases List.mem_append.mp he with he | he
        · exact h2 e he
        · rw [List.mem_singleton.mp he]; exact h3
      · rintro ⟨h1, h2⟩
        exact ⟨⟨h1, fun e he => h2 e (List.mem_append_left _ he)⟩, h2 _ (List.mem_append_right _ (List.mem_singleton.mpr rfl))⟩
  · subst es
    rw [List.length_map, List.take_length] at ok
    refine ⟨o _ _ (fun z => nfd z.symm) gd, ?_⟩
    refine s_ret (v := .ref f) (ev_var rfl) fun H5 e5 => k f F H5 (fun b o' hb => e5 _ _ ?_) hf0 (e5 _ _ (by rw [upd_ne nfd]; exact hF)) gF nF ok
    by_cases c' : b = d
    · rw [c', upd_same]
      rw [c', hd] at hb
      exact hb
    · rw [upd_ne c']
      exact o b o' (fun z => by rw [z, hf0] at hb; exact nomatch hb) (gH b o' c' hb)
end
end Bw
/-! Points hidden, any of them. -/
namespace Bw
open PySem PySem.Spec PyProof.Rows L2 Evl
/-- the points that are left -/
def kept (n : Nat) (ps : List Nat) : List Nat := (List.range (n + 1)).filter fun i => !decide (i ∈ ps)
structure OkP (n : Nat) (ps : List Nat) : Prop where
  bd : ∀ p ∈ ps, 1 ≤ p ∧ p ≤ n
  asc : ps.Pairwise (· < ·)
  few : ps.length < n
theorem len_sub : ∀ (A B : List Nat), A.Nodup → (∀ a ∈ A, a ∈ B) → A.length ≤ B.length
  | [], B, _, _ => Nat.zero_le _
  | x :: r, B, nd, h => by
    rw [List.nodup_cons] at nd
    have hx := h x (List.mem_cons_self ..)
    have := len_sub r (B.erase x) nd.2 fun y hy => (List.mem_erase_of_ne (fun z => nd.1 (by rw [← z]; exact hy))).mpr (h y (List.mem_cons_of_mem _ hy))
    rw [List.length_erase_of_mem hx] at this
    have : 0 < B.length := List.length_pos_of_mem hx
    rw [List.length_cons]
    omega
theorem len_split (f : Nat → Bool) : ∀ l : List Nat, (l.filter f).length + (l.filter fun i => !f i).length = l.length
  | [] => rfl
  | x :: r => by
    have := len_split f r
    cases hf : f x with
    | true =>
      rw [List.filter_cons_of_pos hf, List.filter_cons_of_neg (by simp [hf])]
      simp only [List.length_cons]
      omega
    | false =>
      rw [List.filter_cons_of_neg (by simp [hf]), List.filter_cons_of_pos (by simp [hf])]
      simp only [List.length_cons]
      omega
section
variable {K : PySem.W.Frag} {C : Addr} {σ : L2.St} {H : Hp} {ta tb tc te : TE} {D : Ends} {t n : Nat} {E : List Edge} {ps : List Nat}
theorem OkP.nd (h : OkP n ps) : ps.Nodup := h.asc.imp fun h => Nat.ne_of_lt h
theorem kept_len (h : OkP n ps) : (kept n ps).length + ps.length = n + 1 := by
  have h1 := len_split (fun i => decide (i ∈ ps)) (List.range (n + 1))
  rw [List.length_range] at h1
  have h2 : ((List.range (n + 1)).filter fun i => decide (i ∈ ps)).length ≤ ps.length := len_sub _ _ (List.nodup_range.sublist List.filter_sublist) fun a ha => of_decide_eq_true (List.mem_filter.mp ha).2
  have h3 : ps.length ≤ ((List.range (n + 1)).filter fun i => decide (i ∈ ps)).length := len_sub _ _ h.nd fun a ha => List.mem_filter.mpr ⟨List.mem_range.mpr (by have := (h.bd a ha).2; omega), decide_eq_true ha⟩
  unfold kept
  omega
theorem kept_lt {i : Nat} (hi : i < (kept n ps).length) : (kept n ps).getD i 0 < n + 1 ∧ (kept n ps)[i]? = some ((kept n ps).getD i 0) := by
  have e : (kept n ps).getD i 0 = (kept n ps)[i] := by rw [List.getD_eq_getElem?_getD, List.getElem?_eq_getElem hi]; rfl
  rw [e, List.getElem?_eq_getElem hi]
  exact ⟨List.mem_range.mp (List.mem_filter.mp (List.getElem_mem hi)).1, rfl⟩
theorem in_nats (i : Nat) : ∀ ps : List Nat, inV (.int (i : Int)) (natL ps) = decide (i ∈ ps)
  | [] => (decide_eq_false (fun z => nomatch z)).symm
  | x :: r => by
    have : inV (.int (i : Int)) (natL (x :: r)) = (decide ((x : Int) = (i : Int)) || inV (.int (i : Int)) (natL r)) := rfl
    rw [this, in_nats i r]
    by_cases h : x = i
    · rw [h, decide_eq_true rfl, Bool.true_or]
      exact (decide_eq_true (List.mem_cons_self ..)).symm
    · rw [decide_eq_false (fun z => h (by omega)), Bool.false_or]
      exact decide_eq_decide.mpr ⟨fun m => List.mem_cons_of_mem _ m, fun m => by
        rcases List.mem_cons.mp m with m | m
        · exact absurd m.symm h
        · exact m⟩
theorem flat_nats (ps : List Nat) : (natL ps).all flatV = true := by
  rw [List.all_map, List.all_eq_true]
  exact fun _ _ => rfl
def sp_canHideG (C : Addr) : Sp := spOf fun vs H P => ∃ (p : Addr) (ps : List Nat) (n : Nat), vs = [.ref p, .int (n : Int)] ∧ H p = some (.tup (natL ps)) ∧ OkP n ps ∧ n ≤ 12 ∧ P = isV (.bl true)
def t_canHideG_2 (K : PySem.W.Frag) (C : Addr) : TS := (tRet (tCB (rAll K) (tCons (tLc (RZ.iZipA K (tCons (tVar 0) (tCons (tSl (rSlA K) (tVar 0) (tPart (tC (.int 1))) tNoPart) tNil))) (gTup K 2 (gCons (gName 3) (gCons (gName 4) gNil))) tYes (tOp rLtI (tVar 3) (tVar 4)) [3, 4]) tNil)))
def t_canHideG_1 (K : PySem.W.Frag) (C : Addr) : TS := tSeq (tIfS (tNot (tB (tCB (rAll K) (tCons (tLc (iTup K (tVar 0)) (gName 2) tYes (tCall (sp_is_number_between C) [] E0 (tCons (tVar 2) (tCons (tC (.int 1)) (tCons (tVar 1) tNil)))) [2]) tNil)))) (tRet (tC (.bl false))) tNext) (t_canHideG_2 K C)
def t_canHideG_0 (K : PySem.W.Frag) (C : Addr) : TS := tSeq (tIfS (tOr (tNot (tB (tCB (rIsi K) (tCons (tVar 0) (tCons (tC (.ty "tuple")) tNil))))) (tTest (tOp rGeI (tCB (cLen K) (tCons (tVar 0) tNil)) (tVar 1)))) (tRet (tC (.bl false))) tNext) (t_canHideG_1 K C)
def ltVV : V → V → V
  | .int i, .int j => .bl (decide (i < j))
  | _, _ => .non
theorem zip_lt : ∀ ps : List Nat, ps.Pairwise (· < ·) → List.zipWith ltVV (natL ps) ((natL ps).drop 1) = (List.replicate (ps.length - 1) true).map V.bl
  | [], _ => rfl
  | [_], _ => rfl
  | x :: y :: r, h => by
    have hy := List.pairwise_cons.mp h
    have ih := zip_lt (y :: r) hy.2
    have hxy : x < y := hy.1 y (List.mem_cons_self ..)
    show ltVV (.int (x : Int)) (.int (y : Int)) :: List.zipWith ltVV (natL (y :: r)) ((natL (y :: r)).drop 1) = _
    rw [ih]
    show V.bl (decide ((x : Int) < (y : Int))) :: _ = _
    rw [decide_eq_true (by omega)]
    rfl
theorem ev_allT {m : Nat} {tl : TE} (h : EvL tl σ H ((List.replicate m true).map V.bl)) : Ev (tCB (rAll K) (tCons tl tNil)) σ H (.bl true) := ev_is (ev_all h) (by
  congr 1
  rw [List.all_eq_true]
  exact fun x hx => (List.mem_replicate.mp hx).2)
theorem pure_canHideG {p : Addr} {Q : VK} (hp : H p = some (.tup (natL ps))) (ok : OkP n ps) (n2 : n ≤ 12) (k : ∀ H1, Ex H H1 → Q (.bl true) H1) : t_canHideG_0 K C (ends Q) [some (.ref p), some (.int (n : Int)), none, none, none] H := by
  have few := ok.few
  refine q_when (b := !true || decide ((n : Int) ≤ (((natL ps).length : Nat) : Int))) (et_or (a := !true) (et_not (et_B (ev_isi (ev_var rfl) (fun H1 e => ty_tup (e _ _ hp)) (kit_ty (by decide +kernel))))) fun _ => et_test (ev_op (ev_lenT (ev_var rfl) (st_of hp)) (ev_var rfl) rv_I0)) (fun hb => ?_) (fun _ H1 e1 => ?_)
  · have : decide ((n : Int) ≤ (((natL ps).length : Nat) : Int)) = false := decide_eq_false (by rw [List.length_map]; omega)
    rw [this] at hb
    exact nomatch hb
  · refine q_when (b := !true) (et_not (et_B (ev_allT (m := ps.length) ?_))) (fun z => nomatch z) (fun _ H2 e2 => ?_)
    · have := el_mpT (K := K) (σ := [some (.ref p), some (.int (n : Int)), none, none, none]) (H := H1) (te := tCall (sp_is_number_between C) [] E0 (tCons (tVar 2) (tCons (tC (.int 1)) (tCons (tVar 1) tNil)))) (tl := tVar 0) (j := 2) (vs := [2]) (fun _ => V.bl true) (ev_var rfl) (st_of (e1 _ _ hp)) (by rw [List.length_map]; omega) (fun y => rfl) (fun y H4 e4 hm => by
        obtain ⟨x, hx, rfl⟩ := List.mem_map.mp hm
        obtain ⟨x1, x2⟩ := ok.bd x hx
        exact ev_callV (ea_cons (ev_var rfl) (ea_cons ev_c (ea_cons (ev_var rfl) ea_nil))) fun H5 e5 => ⟨(x : Int), 1, (n : Int), rfl, by
          rw [decide_eq_true (show (1 : Int) ≤ (x : Int) by omega), decide_eq_true (show (x : Int) ≤ (n : Int) by omega)]
          rfl⟩)
      have e : (natL ps).map (fun _ => V.bl true) = (List.replicate ps.length true).map V.bl := by
        rw [List.map_map, List.map_replicate]
        exact (List.map_const' ..)
      rw [← e]
      exact this
    · refine s_ret (v := .bl true) (ev_allT (m := ps.length - 1) ?_) fun H3 e3 => k H3 (e1.trans (e2.trans e3))
      rw [← zip_lt ps ok.asc]
      refine el_zipT (K := K) (σ := [some (.ref p), some (.int (n : Int)), none, none, none]) (H := H2) (te := tOp rLtI (tVar 3) (tVar 4)) (tA := tCons (tVar 0) (tCons (tSl (rSlA K) (tVar 0) (tPart (tC (.int 1))) tNoPart) tNil)) (i1 := 3) (i2 := 4) (vs := [3, 4]) (xs := natL ps) (ys := (natL ps).drop 1) ltVV (fun H0 e0 R r => ?_) (by rw [List.length_map]; omega) (fun _ _ => rfl) (fun i y z H5 e5 hy hz => ?_)
      · have hp0 := (e1.trans (e2.trans e0)) _ _ hp
        refine ⟨_, rfl, .ref p, rfl, ?_⟩
        refine ⟨1, rfl, p, natL ps, rfl, st_of hp0, fun hw => ?_, fun hw q hq => ?_⟩
        · have hl : natL ps = [] := by
            have h1 : HT.sIx (natL ps).length 0 (some 1) = min 1 (natL ps).length := HT.sIx_nat _ 0 1
            rw [h1] at hw
            exact List.eq_nil_of_length_eq_zero (by omega)
          exact r p p H0 (Ex.refl _) (st_of hp0) (st_of (by rw [hp0, hl]; rfl))
        · exact r p q _ (Ex.new hq) (st_of ((Ex.new hq) _ _ hp0)) (st_of (by rw [upd_same, cut1]))
      · rw [List.getElem?_map] at hy
        rw [← List.map_drop, List.getElem?_map] at hz
        obtain ⟨y', _, rfl⟩ := Option.map_eq_some_iff.mp hy
        obtain ⟨z', _, rfl⟩ := Option.map_eq_some_iff.mp hz
        exact ev_op (ev_var rfl) (ev_var rfl) rv_I0
end
end Bw
/-! hidden, any points. -/
namespace Bw
open PySem PySem.Spec PyProof.Rows L2 Evl
/-- a table of the points that are left -/
def HidP (C : Addr) (n : Nat) (E : List Edge) (ps : List Nat) (v : V) (H2 : Hp) : Prop := ∃ u m E', v = .ref u ∧ m + 1 = (kept n ps).length ∧ TabAt C H2 u m E' ∧
  (((∀ s, ¬ FitE n E s) ∧ E'.Perm E0n) ∨ ∃ M, Closed (n + 1) M ∧ (∀ s, FitE n E s ↔ Fits (n + 1) s M) ∧ ∀ a b, a < m + 1 → b < m + 1 → a ≠ b → matE E' a b = M ((kept n ps).getD a 0) ((kept n ps).getD b 0))
def sp_hiddenG (C : Addr) : Sp := spOf fun vs H P => ∃ (t p : Addr) (ps : List Nat) (n : Nat) (E : List Edge), vs = [.ref t, .ref p] ∧ TabAt C H t n E ∧ H p = some (.tup (natL ps)) ∧ OkP n ps ∧ P = HidP C n E ps
def t_hiddenG_5 (K : PySem.W.Frag) (C : Addr) : TS := (tRet (tCall (sp__table_of C) [] E0 (tCons (tLc (iList K (tVar 2)) (gName 5) tYes (tLc (iList K (tVar 2)) (gName 6) tYes (tOp (rIxL K) (tOp (rIxL K) (tVar 3) (tVar 5)) (tVar 6)) [6]) [5]) tNil)))
def t_hiddenG_4 (K : PySem.W.Frag) (C : Addr) : TS := tSeq (tIfS (tB (tIsN (tVar 3))) (tRet (tCall (sp_nothing C) [] E0 (tCons (tOp rSubI (tCB (cLen K) (tCons (tVar 2) tNil)) (tC (.int 1))) tNil))) tNext) (t_hiddenG_5 K C)
def t_hiddenG_3 (K : PySem.W.Frag) (C : Addr) : TS := tSeq (tAsg (tCall (sp__least_ways C) [] E0 (tCons (tVar 0) tNil)) (gName 3)) (t_hiddenG_4 K C)
def t_hiddenG_2 (K : PySem.W.Frag) (C : Addr) : TS := tSeq (tAsg (tLc (iRng1 (tCons (tOp rAddI (tProp C (sp_Table_size C) [] E0 (tVar 0)) (tC (.int 1))) tNil)) (gName 4) (tTest (tOp (rIn K true) (tVar 4) (tVar 1))) (tVar 4) [4]) (gName 2)) (t_hiddenG_3 K C)
def t_hiddenG_1 (K : PySem.W.Frag) (C : Addr) : TS := tSeq (tIfS (tNot (tB (tCall (sp_canHideG C) [] E0 (tCons (tVar 1) (tCons (tProp C (sp_Table_size C) [] E0 (tVar 0)) tNil))))) tNever tNext) (t_hiddenG_2 K C)
def t_hiddenG_0 (K : PySem.W.Frag) (C : Addr) : TS := tSeq (tDrop (tCall (sp__need_table C) [] E0 (tCons (tVar 0) (tCons (tC .non) tNil)))) (t_hiddenG_1 K C)
section
variable {K : PySem.W.Frag} {C : Addr} {σ : L2.St} {H : Hp} {ta tb tc te : TE} {D : Ends} {t n : Nat} {E : List Edge} {ps : List Nat}
/-- [point for point in range(n + 1) if point not in points] -/
theorem el_kept {ta : TA} {tp : TE} {p : Addr} {j : Nat} {vs : List Nat} (h : EvA ta σ H [.int ((n + 1 : Nat) : Int)]) (hn : n ≤ 30000) (hw : ∀ x, wipe ((wipe σ vs).set j (some x)) vs = wipe σ vs) (hj : ∀ x, ((wipe σ vs).set j (some x))[j]? = some (some x))
    (ht : ∀ x H1, Ev tp ((wipe σ vs).set j (some x)) H1 (.ref p)) (hp : H p = some (.tup (natL ps))) : EvL (tLc (iRng1 ta) (gName j) (tTest (tOp (rIn K true) (tVar j) tp)) (tVar j) vs) σ H (natL (kept n ps)) := by
  have gv : given (n + 1) (fun i => !(inV (.int (i : Int)) (natL ps))) (fun i => .int (i : Int)) = natL (kept n ps) := by
    unfold given kept
    refine congrArg (List.map _) (List.filter_congr fun i _ => ?_)
    rw [in_nats]
  rw [← gv]
  have := el_lcR1 (σ := σ) (H := H) (ta := ta) (te := tVar j) (t := tTest (tOp (rIn K true) (tVar j) tp)) (j := j) (vs := vs) (n := ((n + 1 : Nat) : Int)) (fun i => !(inV (.int (i : Int)) (natL ps))) (fun i => .int (i : Int))
    h (by omega) hw (fun i H3 e3 _ => et_test (ev_op (ev_var (hj _)) (ht _ _) (rv_niT (st_of (e3 _ _ hp)) rfl (flat_nats ps)))) (fun i H3 e3 _ _ => ev_var (hj _))
  rw [Int.toNat_natCast] at this
  exact this
theorem pure_hiddenG {p : Addr} {Q : VK} (T : TabAt C H t n E) (hp : H p = some (.tup (natL ps))) (ok : OkP n ps) (k : ∀ v H2, Ex H H2 → HidP C n E ps v H2 → Q v H2) : t_hiddenG_0 K C (ends Q) [some (.ref t), some (.ref p), none, none, none, none, none] H := by
  obtain ⟨_, _, n1, n3⟩ := T.good
  have kl := kept_len ok
  have few := ok.few
  obtain ⟨m, hm⟩ : ∃ m, m + 1 = (kept n ps).length := ⟨(kept n ps).length - 1, by omega⟩
  refine q_need (ea_cons (ev_var rfl) (ea_cons ev_c ea_nil)) T fun H1 e1 => ?_
  refine q_when (b := !true) (et_not (et_B (ev_callV (ea_cons (ev_var rfl) (ea_cons (ev_propSize (ev_var rfl) (T.ex e1)) ea_nil)) fun H2 e2 => ⟨p, ps, n, rfl, (e1.trans e2) _ _ hp, ok, n3, rfl⟩))) (fun z => nomatch z) (fun _ H2 e2 => ?_)
  have e12 := e1.trans e2
  have hp2 := e12 _ _ hp
  refine q_asgL (xs := natL (kept n ps)) ?_ fun l H3 hl e3 h3 => ?_
  · exact el_kept (ea_cons (ev_is (ev_op (ev_propSize (ev_var rfl) (T.ex e12)) ev_c rv_I0) rfl) ea_nil) (by omega) (fun _ => rfl) (fun _ => rfl) (fun _ _ => ev_var rfl) hp2
  have e13 := e12.trans e3
  have ll : (natL (kept n ps)).length = m + 1 := by rw [List.length_map, hm]
  refine q_pasg (evp_call (ea_cons (ev_var rfl) ea_nil) fun H4 e4 => ⟨t, n, E, rfl, T.ex (e13.trans e4), rfl⟩) fun v H4 e4 hv => ?_
  have e14 := e13.trans e4
  rcases hv with ⟨rfl, hno⟩ | ⟨q, rs, M, rfl, R, Cl, fit, lo⟩
  · refine q_when (b := true) (et_B (ev_isN (v := .non) (ev_var rfl))) (fun _ H5 e5 => ?_) (fun z => nomatch z)
    have ln : Ev (tOp rSubI (tCB (cLen K) (tCons (tVar 2) tNil)) (tC (.int 1))) [some (.ref t), some (.ref p), some (.ref l), some .non, none, none, none] H5 (.int (m : Int)) := by
      refine ev_is (ev_op (ev_lenL (ev_var rfl) (sq_of ((e4.trans e5) _ _ h3))) ev_c rv_I0) ?_
      rw [ll]
      congr 1
      omega
    refine p_ret (P := fun v H2 => ∃ t E, v = .ref t ∧ TabAt C H2 t m E ∧ E.Perm E0n) (evp_call (ea_cons ln ea_nil) fun H6 e6 => ⟨m, rfl, by omega, by omega, rfl⟩) fun v H6 e6 ⟨u, E', hv, U, pm⟩ => ?_
    subst hv
    exact k _ H6 (e14.trans (e5.trans e6)) ⟨u, m, E', rfl, hm, U, Or.inl ⟨hno, pm⟩⟩
  · refine q_when (b := false) (et_B (ev_isN (v := .ref q) (ev_var rfl))) (fun z => nomatch z) (fun _ H5 e5 => ?_)
    have h5 := (e4.trans e5) _ _ h3
    have R5 := R.ex e5
    unfold t_hiddenG_5 tRet tCall
    have at_l : ∀ i w, (natL (kept n ps))[i]? = some w → i < m + 1 ∧ w = .int (((kept n ps).getD i 0 : Nat) : Int) := fun i w hw => by
      have hi := (List.getElem?_eq_some_iff.mp hw).1
      rw [ll] at hi
      rw [List.getElem?_map, (kept_lt (by omega)).2] at hw
      exact ⟨hi, (Option.some.inj hw).symm⟩
    refine rows_madeL (σ := [some (.ref t), some (.ref p), some (.ref l), some (.ref q), none, none, none]) (a := l) (xs := natL (kept n ps)) (row := fun i => rowV (fun a b => M ((kept n ps).getD a 0) ((kept n ps).getD b 0)) (m + 1) i) (ev_var rfl) (sq_of h5) (by omega) (fun _ => rfl) (fun i w H6 e6 hw => ?_) (fun p' rs' H6 e6 htop hlen hnd hrow => ?_)
    · obtain ⟨hi, rfl⟩ := at_l i w hw
      obtain ⟨r, hr, hq⟩ := (R5.ex e6).get (kept_lt (n := n) (ps := ps) (i := i) (by omega)).1
      have gl : given (natL (kept n ps)).length (fun _ => true) (fun b => ov (M ((kept n ps).getD i 0) ((kept n ps).getD b 0))) = rowV (fun a b => M ((kept n ps).getD a 0) ((kept n ps).getD b 0)) (m + 1) i := by
        rw [given_all, ll]
        rfl
      rw [← gl]
      refine el_lcL (fun _ => true) _ (ev_var rfl) (sq_of (e6 _ _ h5)) (by omega) (fun _ => rfl) (fun _ _ _ _ _ => et_yes) fun b w H7 e7 hw _ => ?_
      obtain ⟨hb, rfl⟩ := at_l b w hw
      exact ev_at (ev_var rfl) (ev_var rfl) (ev_var rfl) ((R5.ex (e6.trans e7)).top) hr (e7 _ _ hq) (kept_lt (by omega)).1
    · refine ⟨fun v H2 => ∃ u E', v = .ref u ∧ TabAt C H2 u m E' ∧ ∀ a b, a < m + 1 → b < m + 1 → a ≠ b → matE E' a b = M ((kept n ps).getD a 0) ((kept n ps).getD b 0), ⟨p', rs', fun a b => M ((kept n ps).getD a 0) ((kept n ps).getD b 0), m, rfl, ⟨htop, by rw [hlen, ll], hnd, fun a r hr => hrow a r hr⟩, by omega, by omega, rfl⟩, fun v H7 e7 ⟨u, E', hv, U, hmm⟩ => ?_⟩
      subst hv
      exact k _ H7 (e14.trans (e5.trans (e6.trans e7))) ⟨u, m, E', rfl, hm, U, Or.inr ⟨M, Cl, fit, hmm⟩⟩
end
end Bw
/-! The law's own levels, and its own bounds of the points that are left. -/
namespace Bw
open PySem PySem.Spec PyProof.Rows L2 Evl
def sp__law_levels (C : Addr) : Sp := spOf fun vs H P => ∃ (a : Addr) (xs : List Int) (H0 : Hp), vs = [.ref a] ∧ H a = some (.tup (intL xs)) ∧ xs.length ≤ 12 ∧ Ex H0 H ∧ P = fun v H2 => ∃ p, v = .ref p ∧ H0 p = none ∧ H2 p = some (.lst (intL (pre xs)))
def t__law_levels_2 (K : PySem.W.Frag) (C : Addr) : TS := (tRet (tVar 1))
def t__law_levels_1 (K : PySem.W.Frag) (C : Addr) : TS := tSeq (tFor (iTup K (tVar 0)) (gName 2) (tDrop (tBM K "list" rAppend (tVar 1) (tCons (tOp rAddI (tOp (rIxL K) (tVar 1) (tUn rNegI (tC (.int 1)))) (tVar 2)) tNil)))) (t__law_levels_2 K C)
def t__law_levels_0 (K : PySem.W.Frag) (C : Addr) : TS := tSeq (tAsg (tLst (tCons (tC (.int 0)) tNil)) (gName 1)) (t__law_levels_1 K C)
/-- bounds of the points that are left -/
def LeftP (n : Nat) (E : List Edge) (ps : List Nat) (H : Hp) (v : V) (H2 : Hp) : Prop := (v = .non ∧ ∀ s, ¬ FitE n E s) ∨ ∃ d F m, v = .ref d ∧ H d = none ∧ H2 d = some (.dT (F.map kvE)) ∧ m + 1 = (kept n ps).length ∧ GoodE (m + 1) F ∧ (F.map ekey).Nodup ∧
  ∃ M, Closed (n + 1) M ∧ (∀ s, FitE n E s ↔ Fits (n + 1) s M) ∧ ∀ a b, a < m + 1 → b < m + 1 → a ≠ b → matE F a b = M ((kept n ps).getD a 0) ((kept n ps).getD b 0)
def sp__law_left (C : Addr) : Sp := spOf fun vs H P => ∃ (c p : Addr) (n : Nat) (E : List Edge) (ps : List Nat) (H0 : Hp), Ex H0 H ∧ vs = [.ref c, .int (n : Int), .ref p] ∧ H c = some (.dT (E.map kvE)) ∧ GoodE (n + 1) E ∧ (E.map ekey).Nodup ∧ 1 ≤ n ∧ n ≤ 12 ∧ H p = some (.tup (natL ps)) ∧ OkP n ps ∧ P = LeftP n E ps H0
def t__law_left_4 (K : PySem.W.Frag) (C : Addr) : TS := (tRet (tVar 3))
def t__law_left_3 (K : PySem.W.Frag) (C : Addr) : TS := tSeq (tFor (iRng1 (tCons (tCB (cLen K) (tCons (tVar 6) tNil)) tNil)) (gName 4) (tFor (iRng1 (tCons (tCB (cLen K) (tCons (tVar 6) tNil)) tNil)) (gName 7) (tIfS (tB (tDIn (tTup (tCons (tOp (rIxL K) (tVar 6) (tVar 4)) (tCons (tOp (rIxL K) (tVar 6) (tVar 7)) tNil))) (tVar 5))) (sDPut (tVar 3) (tTup (tCons (tVar 4) (tCons (tVar 7) tNil))) (tDGet (tVar 5) (tTup (tCons (tOp (rIxL K) (tVar 6) (tVar 4)) (tCons (tOp (rIxL K) (tVar 6) (tVar 7)) tNil))))) tNext))) (t__law_left_4 K C)
def t__law_left_2 (K : PySem.W.Frag) (C : Addr) : TS := tSeq (tAsg tDNewT (gName 3)) (t__law_left_3 K C)
def t__law_left_1 (K : PySem.W.Frag) (C : Addr) : TS := tSeq (tIfS (tB (tIsN (tVar 5))) (tRet (tC .non)) tNext) (t__law_left_2 K C)
def t__law_left_0 (K : PySem.W.Frag) (C : Addr) : TS := tSeq (tPar 5 6 (tCons (tCall (sp__law_closed C) [] E0 (tCons (tVar 0) (tCons (tVar 1) tNil))) (tCons (tLc (iRng1 (tCons (tOp rAddI (tVar 1) (tC (.int 1))) tNil)) (gName 8) (tTest (tOp (rIn K true) (tVar 8) (tVar 2))) (tVar 8) [8]) tNil))) (t__law_left_1 K C)
section
variable {K : PySem.W.Frag} {C : Addr} {σ : L2.St} {H : Hp} {ta tb tc te : TE} {D : Ends} {t n m : Nat} {E G F : List Edge} {ps : List Nat}
theorem pure_law_levels {a : Addr} {xs : List Int} {Q : VK} (h : H a = some (.tup (intL xs))) (h2 : xs.length ≤ 12) (k : ∀ p H1, Ex H H1 → H p = none → H1 p = some (.lst (intL (pre xs))) → Q (.ref p) H1) : t__law_levels_0 K C (ends Q) [some (.ref a), none, none] H := by
  have hl : (intL xs).length = xs.length := List.length_map ..
  refine q_asgL (el_lst (ea_cons ev_c ea_nil) (by decide)) (fun p H2 hp e2 h2' => ?_)
  refine q_forT (a := a) (xs := intL xs) (ev_var rfl) (st_of (e2 _ _ h)) (fun i σ' H' => ∃ v, σ' = [some (.ref a), some (.ref p), v] ∧ Ex H H' ∧ H' p = some (.lst (intL (pre (xs.take i))))) (fun H3 e3 => ⟨none, rfl, e2.trans e3, e3 _ _ h2'⟩)
    (fun i σ' H' _ ⟨v, _, ex, _⟩ => st_of (ex _ _ h)) (fun i x σ' H' hx ⟨v, es, ex, hq⟩ => ?_) (fun σ' H' ⟨v, es, ex, hq⟩ => ?_)
  · subst es
    have hx2 : (intL xs)[i]? = some x := hx
    rw [List.getElem?_map] at hx2
    obtain ⟨y, hy, rfl⟩ := Option.map_eq_some_iff.mp hx2
    have hi := (List.getElem?_eq_some_iff.mp hy).1
    obtain ⟨z, z1, z2⟩ := preA_snoc 0 (xs.take i) y
    have lz : (intL (pre (xs.take i))).getLast? = some (.int z) := by
      rw [List.getLast?_map, z1]
      rfl
    show tDrop _ _ [some (.ref a), some (.ref p), some (.int y)] H'
    refine s_app (l := p) hq (ev_var rfl) (v := .int (z + y)) (ev_op (ev_op (ev_var rfl) (ev_un ev_c ru_neg) (rv_ixL (sq_of hq) (at_last lz))) (ev_var rfl) rv_I0) ?_ (fun H3 e3 => ?_)
    · have := preA_length 0 (xs.take i)
      rw [List.length_map, this, List.length_take]
      omega
    · refine ⟨_, rfl, Ex.mut (ex.trans e3) hp, ?_⟩
      rw [upd_same]
      have et : xs.take (i + 1) = xs.take i ++ [y] := take_step hy
      rw [et]
      show _ = some (HO.lst (intL (preA 0 (xs.take i ++ [y]))))
      rw [z2, show intL (preA 0 (xs.take i) ++ [z + y]) = intL (preA 0 (xs.take i)) ++ intL [z + y] from List.map_append ..]
      rfl
  · subst es
    rw [hl, List.take_length] at hq
    exact s_ret (v := .ref p) (ev_var rfl) fun H3 e3 => k p H3 (ex.trans e3) hp (e3 _ _ hq)
theorem ev_din {d : Addr} {a b : Nat} (h0 : EvU ta σ H [.int (a : Int), .int (b : Int)]) (h1 : Ev tb σ H (.ref d)) (hd : H d = some (.dT (G.map kvE))) : Ev (tDIn ta tb) σ H (.bl (lookE G a b).isSome) := fun H1 e Q r =>
  h0 H1 e _ fun q H2 hq e2 h2 => h1 H2 (e.trans e2) _ fun H3 e3 => ⟨d, _, rfl, DGet.t (k := ekey (a, b, 0)) (((e.trans e2).trans e3) _ _ hd) (e3 _ _ h2), by
    have vl : valV (G.map kvE) (ekey (a, b, 0)) = (lookE G a b).map V.int := val_look
    rw [vl, Option.isSome_map]
    exact r H3 (e2.trans e3)⟩
theorem ev_dgetU {d : Addr} {a b : Nat} {w : Int} (h0 : Ev ta σ H (.ref d)) (h1 : EvU tb σ H [.int (a : Int), .int (b : Int)]) (hd : H d = some (.dT (G.map kvE))) (hw : lookE G a b = some w) : Ev (tDGet ta tb) σ H (.int w) := fun H1 e Q r =>
  h0 H1 e _ fun H2 e2 => h1 H2 (e.trans e2) _ fun q H3 hq e3 h3 => ⟨d, .int w, rfl, by
    have vl : valV (G.map kvE) (ekey (a, b, 0)) = (lookE G a b).map V.int := val_look
    rw [hw] at vl
    have vl : some (V.int w) = valV (G.map kvE) (ekey (a, b, 0)) := vl.symm
    rw [vl]
    exact DGet.t (k := ekey (a, b, 0)) (((e.trans e2).trans e3) _ _ hd) h3, r H3 (e2.trans e3)⟩
/-- what is found behind the pairs ahead of (a, b) -/
structure LfI (d : Addr) (m : Nat) (L : List Nat) (G : List Edge) (H0 : Hp) (a b : Nat) (H' : Hp) : Prop where
  off : offd d H0 H'
  ex : ∃ F, H' d = some (.dT (F.map kvE)) ∧ GoodE (m + 1) F ∧ (F.map ekey).Nodup ∧ ∀ x y, lookE F x y = if x < m + 1 ∧ y < m + 1 ∧ (x < a ∨ (x = a ∧ y < b)) then lookE G (L.getD x 0) (L.getD y 0) else none
theorem pure_law_left {c p : Addr} {Q : VK} (hc : H c = some (.dT (E.map kvE))) (gE : GoodE (n + 1) E) (nE : (E.map ekey).Nodup) (n1 : 1 ≤ n) (n2 : n ≤ 12) (hp : H p = some (.tup (natL ps))) (ok : OkP n ps)
    (k : ∀ v H2, Ex H H2 → LeftP n E ps H v H2 → Q v H2) : t__law_left_0 K C (ends Q) [some (.ref c), some (.int (n : Int)), some (.ref p), none, none, none, none, none, none] H := by
  have kl := kept_len ok
  have few := ok.few
  obtain ⟨m, hm⟩ : ∃ m, m + 1 = (kept n ps).length := ⟨(kept n ps).length - 1, by omega⟩
  unfold t__law_left_0 tSeq tPar
  refine (evp_call (ea_cons (ev_var rfl) (ea_cons (ev_var rfl) ea_nil)) fun H1 e1 => ⟨c, n, E, H, rfl, e1 _ _ hc, gE, nE, n1, n2, e1, rfl⟩) H (Ex.refl _) _ fun v H1 e1 hv => ?_
  refine el_kept (n := n) (ps := ps) (p := p) (ea_cons (ev_is (ev_op (ev_var rfl) ev_c rv_I0) rfl) ea_nil) (by omega) (fun _ => rfl) (fun _ => rfl) (fun _ _ => ev_var rfl) hp H1 e1 _ fun l H2 hl e2 h2 => ?_
  refine ⟨_, _, rfl, ?_⟩
  show t__law_left_1 K C (ends Q) [some (.ref c), some (.int (n : Int)), some (.ref p), none, none, some v, some (.ref l), none, none] H2
  have e12 := e1.trans e2
  rcases hv with ⟨rfl, hno⟩ | ⟨g, G, rfl, hg0, hg, gG, nG, Cl, fit⟩
  · refine q_when (b := true) (et_B (ev_isN (v := .non) (ev_var rfl))) (fun _ H3 e3 => ?_) (fun z => nomatch z)
    exact s_ret ev_c fun H4 e4 => k _ H4 (e12.trans (e3.trans e4)) (Or.inl ⟨rfl, hno⟩)
  · refine q_when (b := false) (et_B (ev_isN (v := .ref g) (ev_var rfl))) (fun z => nomatch z) (fun _ H3 e3 => ?_)
    have e13 := e12.trans e3
    unfold t__law_left_2 tSeq tAsg
    intro d hd
    obtain ⟨H4, eH4⟩ : ∃ H4, H4 = upd H3 d (.dT []) := ⟨_, rfl⟩
    have e4 : Ex H3 H4 := by rw [eH4]; exact Ex.new hd
    have d4 : H4 d = some (.dT (([] : List Edge).map kvE)) := by rw [eH4]; exact upd_same
    show t__law_left_3 K C (ends Q) [some (.ref c), some (.int (n : Int)), some (.ref p), some (.ref d), none, some (.ref g), some (.ref l), none, none] (upd H3 d (.dT []))
    rw [← eH4]
    have g3 := (e2.trans e3) _ _ hg
    have l3 := e3 _ _ h2
    have ngd : g ≠ d := ne_of_none g3 hd
    have nld : l ≠ d := ne_of_none l3 hd
    have g4 := e4 _ _ g3
    have l4 := e4 _ _ l3
    have ll : (natL (kept n ps)).length = m + 1 := by rw [List.length_map, hm]
    have hdH : H d = none := fresh_back e13 hd
    have len : ∀ (v4 v7 : Option V) (H' : Hp), offd d H4 H' → EvA (tCons (tCB (cLen K) (tCons (tVar 6) tNil)) tNil) [some (.ref c), some (.int (n : Int)), some (.ref p), some (.ref d), v4, some (.ref g), some (.ref l), v7, none] H' [.int ((m + 1 : Nat) : Int)] := fun v4 v7 H' o => ea_cons (ev_is (ev_lenL (ev_var rfl) (sq_of (o l _ nld l4))) (by rw [ll])) ea_nil
    have st0 : LfI d m (kept n ps) G H4 0 0 H4 := ⟨fun b o _ h => h, [], d4, fun e he => (nomatch he), List.nodup_nil, fun x y => (if_neg (by omega)).symm⟩
    have go : ∀ {a b : Nat} {H' H'' : Hp}, LfI d m (kept n ps) G H4 a b H' → Ex H' H'' → LfI d m (kept n ps) G H4 a b H'' := fun I e => by
      obtain ⟨o, F, h1, h2, h3, h4⟩ := I
      exact ⟨fun b u nb hb => e _ _ (o b u nb hb), F, e _ _ h1, h2, h3, h4⟩
    refine q_forR1 (len _ _ H4 fun b o _ h => h) (by omega) (fun a σ' H' => ∃ v4 v7, σ' = [some (.ref c), some (.int (n : Int)), some (.ref p), some (.ref d), v4, some (.ref g), some (.ref l), v7, none] ∧ LfI d m (kept n ps) G H4 a 0 H') (fun H5 e5 => ⟨_, _, rfl, go st0 e5⟩) (fun a σ' H' ha ⟨v4, v7, es, I⟩ => ?_) (fun σ' H' ⟨v4, v7, es, I⟩ => ?_)
    · subst es
      have ha2 : a < m + 1 := by omega
      show tFor _ _ _ _ [some (.ref c), some (.int (n : Int)), some (.ref p), some (.ref d), some (.int (a : Int)), some (.ref g), some (.ref l), v7, none] H'
      refine s_forR1 (len _ _ H' I.off) (by omega) (fun b σ' H' => ∃ v7, σ' = [some (.ref c), some (.int (n : Int)), some (.ref p), some (.ref d), some (.int (a : Int)), some (.ref g), some (.ref l), v7, none] ∧ LfI d m (kept n ps) G H4 a b H') (fun H5 e5 => ⟨_, rfl, go I e5⟩) (fun b σ' H' hb ⟨v7, es, I⟩ => ?_) (fun σ' H' ⟨v7, es, I⟩ => ?_)
      · subst es
        have hb2 : b < m + 1 := by omega
        obtain ⟨o, F, hF, gF, nF, lk⟩ := I
        have g5 := o g _ ngd g4
        have l5 := o l _ nld l4
        show tIfS _ _ _ _ [some (.ref c), some (.int (n : Int)), some (.ref p), some (.ref d), some (.int (a : Int)), some (.ref g), some (.ref l), some (.int (b : Int)), none] H'
        generalize hs : ([some (.ref c), some (.int (n : Int)), some (.ref p), some (.ref d), some (.int (a : Int)), some (.ref g), some (.ref l), some (.int (b : Int)), none] : L2.St) = σ1
        have at_l : ∀ i, i < m + 1 → atI (natL (kept n ps)) ((i : Nat) : Int) = some (.int (((kept n ps).getD i 0 : Nat) : Int)) := fun i hi => atI_nat (by rw [List.getElem?_map, (kept_lt (by omega)).2]; rfl)
        have key : ∀ H5, Ex H' H5 → EvU (tTup (tCons (tOp (rIxL K) (tVar 6) (tVar 4)) (tCons (tOp (rIxL K) (tVar 6) (tVar 7)) tNil))) σ1 H5 [.int (((kept n ps).getD a 0 : Nat) : Int), .int (((kept n ps).getD b 0 : Nat) : Int)] := fun H5 e5 => by
          subst hs
          exact eu_tup (ea_cons (ev_op (ev_var rfl) (ev_var rfl) (rv_ixL (sq_of (e5 _ _ l5)) (at_l a ha2))) (ea_cons (ev_op (ev_var rfl) (ev_var rfl) (rv_ixL (sq_of (e5 _ _ l5)) (at_l b hb2))) ea_nil)) (by show 2 ≤ 100000; decide)
        have v5 : ∀ H5, Ev (tVar 5) σ1 H5 (.ref g) := fun H5 => by subst hs; exact ev_var rfl
        have tst := et_B (ev_din (key H' (Ex.refl _)) (v5 H') g5)
        have here : lookE F a b = none := by rw [lk a b]; exact if_neg (by omega)
        refine s_when tst (fun hb H5 e5 => ?_) fun hb H5 e5 => ?_
        · obtain ⟨w, hw⟩ := Option.isSome_iff_exists.mp hb
          unfold sDPut
          refine ev_dgetU (v5 H5) (key H5 e5) (e5 _ _ g5) hw H5 (Ex.refl _) _ fun H6 e6 => ?_
          have k2 : EvU (tTup (tCons (tVar 4) (tCons (tVar 7) tNil))) σ1 H6 [.int (a : Int), .int (b : Int)] := by
            subst hs
            exact eu_tup (ea_cons (ev_var rfl) (ea_cons (ev_var rfl) ea_nil)) (by show 2 ≤ 100000; decide)
          have v3 : Ev (tVar 3) σ1 H6 (.ref d) := by subst hs; exact ev_var rfl
          refine v3 H6 (Ex.refl _) _ fun H7 e7 => ?_
          refine k2 H7 e7 _ fun q H8 hq e8 h8 => ?_
          have e58 := e5.trans (e6.trans (e7.trans e8))
          have nab : a ≠ b := fun z => by
            have := (look_mem nG).mp hw
            rw [z] at this
            exact (gG _ this).2.2 rfl
          have len13 : F.length ≤ 1000 := by
            by_cases m1 : 1 ≤ m
            · exact lenG gF nF m1 (by omega)
            · exact absurd m1 (by omega)
          refine ⟨d, _, rfl, DPut.t (k := ekey (a, b, w)) (e58 _ _ hF) h8 (by rw [List.length_map]; exact sz_lt (by omega)), some (.int (b : Int)), by rw [← hs], fun b' u nb hb' => ?_, putE F (a, b, w), ?_, putE_good (e := (a, b, w)) gF ⟨ha2, hb2, nab⟩, putE_nd nF, fun x y => ?_⟩
          · rw [upd_ne nb]
            exact e58 _ _ (o b' u nb hb')
          · rw [upd_same]
            exact congrArg (fun z => some (HO.dT z)) (putE_kv (e := (a, b, w)))
          · rw [putE_look nF]
            show (if x = a ∧ y = b then some w else lookE F x y) = _
            by_cases q : x = a ∧ y = b
            · rw [if_pos q, q.1, q.2, if_pos (by omega), hw]
            · rw [if_neg q, lk x y]
              by_cases z : x < m + 1 ∧ y < m + 1 ∧ (x < a ∨ x = a ∧ y < b)
              · rw [if_pos z, if_pos (by omega)]
              · rw [if_neg z, if_neg (by omega)]
        · refine ⟨some (.int (b : Int)), by rw [← hs], fun b' u nb hb' => e5 _ _ (o b' u nb hb'), F, e5 _ _ hF, gF, nF, fun x y => ?_⟩
          rw [lk x y]
          have hn : lookE G ((kept n ps).getD a 0) ((kept n ps).getD b 0) = none := by
            cases z : lookE G ((kept n ps).getD a 0) ((kept n ps).getD b 0) with
            | none => rfl
            | some w => rw [z] at hb; exact nomatch hb
          by_cases q : x = a ∧ y = b
          · rw [q.1, q.2, if_neg (by omega), if_pos (by omega), hn]
          · by_cases z : x < m + 1 ∧ y < m + 1 ∧ (x < a ∨ x = a ∧ y < b)
            · rw [if_pos z, if_pos (by omega)]
            · rw [if_neg z, if_neg (by omega)]
      · subst es
        rw [Int.toNat_natCast] at I
        obtain ⟨o, F, hF, gF, nF, lk⟩ := I
        refine ⟨_, _, rfl, o, F, hF, gF, nF, fun x y => ?_⟩
        rw [lk x y]
        by_cases z : x < m + 1 ∧ y < m + 1 ∧ (x < a ∨ x = a ∧ y < m + 1)
        · rw [if_pos z, if_pos (by omega)]
        · rw [if_neg z, if_neg (by omega)]
    · subst es
      rw [Int.toNat_natCast] at I
      obtain ⟨o, F, hF, gF, nF, lk⟩ := I
      refine s_ret (v := .ref d) (ev_var rfl) fun H5 e5 => k _ H5 (fun b u hb => e5 _ _ (o b u (ne_of_none hb hdH) (e4 _ _ (e13 _ _ hb)))) (Or.inr ⟨d, F, m, rfl, hdH, e5 _ _ hF, hm, gF, nF, matE G, Cl, fun s => (fit s).symm, fun a b ha hb hab => ?_⟩)
      show (if a = b then some 0 else lookE F a b) = (if (kept n ps).getD a 0 = (kept n ps).getD b 0 then some 0 else lookE G _ _)
      have kne : (kept n ps).getD a 0 ≠ (kept n ps).getD b 0 := fun z => by
        have h1 := (kept_lt (n := n) (ps := ps) (i := a) (by omega)).2
        have h2 := (kept_lt (n := n) (ps := ps) (i := b) (by omega)).2
        rw [← z, ← h1] at h2
        have nd : (kept n ps).Nodup := List.nodup_range.sublist List.filter_sublist
        exact hab ((List.getElem?_inj (by omega) nd).mp h2.symm)
      rw [if_neg hab, if_neg kne, lk a b, if_pos (by omega)]
end
end Bw
/-! Waters of some points are met by waters of all. -/
namespace Bw
theorem between : ∀ (N : Nat) (lo up : Nat → Option Int), (∀ i j x y, i < N → j < N → lo i = some x → up j = some y → x ≤ y) → ∃ v : Int, ∀ i, i < N → (∀ x, lo i = some x → x ≤ v) ∧ ∀ y, up i = some y → v ≤ y
  | 0, _, _, _ => ⟨0, fun i hi => absurd hi (Nat.not_lt_zero i)⟩
  | N + 1, lo, up, h => by
    obtain ⟨v0, hv⟩ := between N lo up fun i j x y hi hj => h i j x y (by omega) (by omega)
    by_cases c : ∃ x, lo N = some x ∧ v0 < x
    · obtain ⟨x, hx, hlt⟩ := c
      refine ⟨x, fun i hi => ⟨fun z hz => ?_, fun y hy => h N i x y (by omega) hi hx hy⟩⟩
      by_cases e : i = N
      · rw [e, hx] at hz
        cases hz
        exact Int.le_refl _
      · have := (hv i (by omega)).1 z hz
        omega
    · by_cases c2 : ∃ y, up N = some y ∧ y < v0
      · obtain ⟨y, hy, hlt⟩ := c2
        refine ⟨y, fun i hi => ⟨fun x hx => h i N x y hi (by omega) hx hy, fun z hz => ?_⟩⟩
        by_cases e : i = N
        · rw [e, hy] at hz
          cases hz
          exact Int.le_refl _
        · have := (hv i (by omega)).2 z hz
          omega
      · refine ⟨v0, fun i hi => ?_⟩
        by_cases e : i = N
        · rw [e]
          exact ⟨fun x hx => Int.not_lt.mp fun z => c ⟨x, hx, z⟩, fun y hy => Int.not_lt.mp fun z => c2 ⟨y, hy, z⟩⟩
        · exact hv i (by omega)
/-- bounds kept within a set of points -/
def FitS (N : Nat) (M : Mat) (S : Nat → Prop) (s : Nat → Int) : Prop := ∀ a b x, a < N → b < N → S a → S b → M a b = some x → s a - s b ≤ x
theorem fitS_one {N : Nat} {M : Mat} {S : Nat → Prop} {s : Nat → Int} (C : Closed N M) (f : FitS N M S s) {p : Nat} (hp : p < N) : ∃ s', FitS N M (fun a => S a ∨ a = p) s' ∧ ∀ a, S a → s' a = s a := by
  by_cases hS : S p
  · refine ⟨s, fun a b x ha hb h1 h2 hx => f a b x ha hb ?_ ?_ hx, fun _ _ => rfl⟩
    · rcases h1 with h | h
      · exact h
      · rw [h]; exact hS
    · rcases h2 with h | h
      · exact h
      · rw [h]; exact hS
  · have key : ∃ v : Int, ∀ i, i < N → S i → (∀ x, M i p = some x → s i - x ≤ v) ∧ ∀ y, M p i = some y → v ≤ s i + y := by
      refine Classical.byCases (fun _ : True => ?_) (fun h => absurd trivial h)
      have hd : ∀ i, ∃ o : Option Int, (S i → o = (M i p).map fun x => s i - x) ∧ (¬ S i → o = none) := fun i => by
        by_cases c : S i
        · exact ⟨_, fun _ => rfl, fun z => absurd c z⟩
        · exact ⟨none, fun z => absurd z c, fun _ => rfl⟩
      have hu : ∀ i, ∃ o : Option Int, (S i → o = (M p i).map fun x => s i + x) ∧ (¬ S i → o = none) := fun i => by
        by_cases c : S i
        · exact ⟨_, fun _ => rfl, fun z => absurd c z⟩
        · exact ⟨none, fun z => absurd z c, fun _ => rfl⟩
      obtain ⟨lo, hlo⟩ : ∃ lo : Nat → Option Int, ∀ i, (S i → lo i = (M i p).map fun x => s i - x) ∧ (¬ S i → lo i = none) := ⟨fun i => Classical.choose (hd i), fun i => Classical.choose_spec (hd i)⟩
      obtain ⟨up, hup⟩ : ∃ up : Nat → Option Int, ∀ i, (S i → up i = (M p i).map fun x => s i + x) ∧ (¬ S i → up i = none) := ⟨fun i => Classical.choose (hu i), fun i => Classical.choose_spec (hu i)⟩
      obtain ⟨v, hv⟩ := between N lo up fun i j x y hi hj hx hy => by
        have si : S i := Classical.byContradiction fun z => by
          rw [(hlo i).2 z] at hx
          exact nomatch hx
        have sj : S j := Classical.byContradiction fun z => by
          rw [(hup j).2 z] at hy
          exact nomatch hy
        rw [(hlo i).1 si] at hx
        rw [(hup j).1 sj] at hy
        obtain ⟨x', hx', rfl⟩ := Option.map_eq_some_iff.mp hx
        obtain ⟨y', hy', rfl⟩ := Option.map_eq_some_iff.mp hy
        obtain ⟨u, hu', l⟩ := C.tri i j p hi hj hp (x' + y') (by show ad (M i p) (M p j) = _; rw [hx', hy']; rfl)
        have := f i j u hi hj si sj hu'
        omega
      refine ⟨v, fun i hi si => ⟨fun x hx => (hv i hi).1 _ ?_, fun y hy => (hv i hi).2 _ ?_⟩⟩
      · rw [(hlo i).1 si, hx]
        rfl
      · rw [(hup i).1 si, hy]
        rfl
    obtain ⟨v, hv⟩ := key
    refine ⟨fun a => if a = p then v else s a, fun a b x ha hb h1 h2 hx => ?_, fun a ha => if_neg fun z : a = p => hS (z ▸ ha)⟩
    show (if a = p then v else s a) - (if b = p then v else s b) ≤ x
    by_cases ca : a = p
    · by_cases cb : b = p
      · rw [if_pos ca, if_pos cb]
        rw [ca, cb, C.dg p hp] at hx
        cases hx
        omega
      · rw [if_pos ca, if_neg cb]
        have sb : S b := h2.resolve_right cb
        rw [ca] at hx
        have := (hv b hb sb).2 x hx
        omega
    · have sa : S a := h1.resolve_right ca
      by_cases cb : b = p
      · rw [if_neg ca, if_pos cb]
        rw [cb] at hx
        have := (hv a ha sa).1 x hx
        omega
      · rw [if_neg ca, if_neg cb]
        exact f a b x ha hb sa (h2.resolve_right cb) hx
theorem fitS_many {N : Nat} {M : Mat} {S : Nat → Prop} {s : Nat → Int} (C : Closed N M) (f : FitS N M S s) : ∀ k, k ≤ N → ∃ s', FitS N M (fun a => S a ∨ a < k) s' ∧ ∀ a, S a → s' a = s a
  | 0, _ => ⟨s, fun a b x ha hb h1 h2 => f a b x ha hb (h1.resolve_right (Nat.not_lt_zero a)) (h2.resolve_right (Nat.not_lt_zero b)), fun _ _ => rfl⟩
  | k + 1, hk => by
    obtain ⟨s1, f1, e1⟩ := fitS_many C f k (by omega)
    obtain ⟨s2, f2, e2⟩ := fitS_one C f1 (p := k) (by omega)
    refine ⟨s2, fun a b x ha hb h1 h2 => f2 a b x ha hb ?_ ?_, fun a ha => (e2 a (Or.inl ha)).trans (e1 a ha)⟩
    · rcases h1 with h | h
      · exact Or.inl (Or.inl h)
      · by_cases c : a = k
        · exact Or.inr c
        · exact Or.inl (Or.inr (by omega))
    · rcases h2 with h | h
      · exact Or.inl (Or.inl h)
      · by_cases c : b = k
        · exact Or.inr c
        · exact Or.inl (Or.inr (by omega))
/-- what fits some points of a closed table is met by what fits all -/
theorem fits_ext {N : Nat} {M : Mat} {S : Nat → Prop} {s : Nat → Int} (C : Closed N M) (f : FitS N M S s) : ∃ s', Fits N s' M ∧ ∀ a, S a → s' a = s a := by
  obtain ⟨s', f', e⟩ := fitS_many C f N (Nat.le_refl N)
  exact ⟨s', fun a b x ha hb hx => f' a b x ha hb (Or.inr ha) (Or.inr hb) hx, e⟩
/-- closed tables with the same waters have the same bounds -/
theorem closed_eq {N : Nat} {M M' : Mat} (C : Closed N M) (C' : Closed N M') (h : ∀ s, Fits N s M ↔ Fits N s M') {a b : Nat} (ha : a < N) (hb : b < N) : M a b = M' a b := by
  have lo : ∀ {G G' : Mat}, Closed N G' → (∀ s, Fits N s G' → Fits N s G) → ∀ x, G a b = some x → ∃ v, G' a b = some v ∧ v ≤ x := fun {G G'} c f x hx => by
    refine Classical.byContradiction fun z => ?_
    obtain ⟨s, fs, hs⟩ := feas_at c ha hb (x := x + 1) fun v hv => Classical.byContradiction fun y => z ⟨v, hv, by omega⟩
    have := f s fs a b x ha hb hx
    omega
  cases h1 : M a b with
  | none =>
    cases h2 : M' a b with
    | none => rfl
    | some y =>
      obtain ⟨v, hv, _⟩ := lo (G := M') (G' := M) C (fun s => (h s).mp) y h2
      rw [h1] at hv
      exact nomatch hv
  | some x =>
    obtain ⟨v, hv, l⟩ := lo (G := M) (G' := M') C' (fun s => (h s).mpr) x h1
    obtain ⟨w, hw, l'⟩ := lo (G := M') (G' := M) C (fun s => (h s).mp) v hv
    rw [h1] at hw
    cases hw
    rw [hv]
    congr 1
    omega
end Bw
/-! a_water. -/
namespace Bw
open PySem PySem.Spec PyProof.Rows L2 Evl
abbrev sp_water_of := sp__water_of
def sp_a_water (C : Addr) : Sp := spOf fun vs H P => ∃ t n E, vs = [.ref t] ∧ TabAt C H t n E ∧ P = fun v H2 => (v = .non ∧ ∀ s, ¬ FitE n E s) ∨ ∃ w xs, v = .ref w ∧ H2 w = some (.tup (intL xs)) ∧ xs.length = n ∧ FitE n E fun i => (pre xs).getD i 0
def t_a_water_3 (K : PySem.W.Frag) (C : Addr) : TS := (tRet (tCall (sp_water_of C) [] E0 (tCons (tLc (iList K (tVar 1)) (gName 2) tYes (tCB (rMin K) (tCons (tLc (iList K (tVar 2)) (gName 3) (tB (tNotN (tVar 3))) (tVar 3) [3]) tNil)) [2]) tNil)))
def t_a_water_2 (K : PySem.W.Frag) (C : Addr) : TS := tSeq (tIfS (tB (tIsN (tVar 1))) (tRet (tC .non)) tNext) (t_a_water_3 K C)
def t_a_water_1 (K : PySem.W.Frag) (C : Addr) : TS := tSeq (tAsg (tCall (sp__least_ways C) [] E0 (tCons (tVar 0) tNil)) (gName 1)) (t_a_water_2 K C)
def t_a_water_0 (K : PySem.W.Frag) (C : Addr) : TS := tSeq (tDrop (tCall (sp__need_table C) [] E0 (tCons (tVar 0) (tCons (tC .non) tNil)))) (t_a_water_1 K C)
section
variable {K : PySem.W.Frag} {C : Addr} {σ : L2.St} {H : Hp} {ta tb tc te : TE} {D : Ends} {t n N : Nat} {E : List Edge}
def someV : V → Option V
  | .non => none
  | v => some v
theorem row_some (M : Mat) (a : Nat) : ∀ l : List Nat, (l.map fun b => ov (M a b)).filterMap someV = intL (l.filterMap fun b => M a b)
  | [] => rfl
  | b :: r => by
    have ih := row_some M a r
    rw [List.map_cons, List.filterMap_cons, List.filterMap_cons]
    cases M a b with
    | none => exact ih
    | some x =>
      show V.int x :: List.filterMap someV (r.map fun b => ov (M a b)) = _
      rw [ih]
      rfl
/-- min([number for number in row if number is not None]) -/
theorem ev_rowMin {M : Mat} {a : Nat} {r : Addr} {j : Nat} {vs : List Nat} {tl : TE} {m : Int} (h : Ev tl σ H (.ref r)) (hr : H r = some (.lst (rowV M N a))) (hN : N ≤ 30000) (hw : ∀ x, wipe ((wipe σ vs).set j (some x)) vs = wipe σ vs) (hj : ∀ x, ((wipe σ vs).set j (some x))[j]? = some (some x))
    (m1 : ∃ c, c < N ∧ M a c = some m) (m2 : ∀ d w, d < N → M a d = some w → m ≤ w) : Ev (tCB (rMin K) (tCons (tLc (iList K tl) (gName j) (tB (tNotN (tVar j))) (tVar j) vs) tNil)) σ H (.int m) := fun H1 e Q q => by
  have tk : ∀ (x : V) (H2 : Hp), x ∈ rowV M N a → EvT (tB (tNotN (tVar j))) ((wipe σ vs).set j (some x)) H2 (someV x).isSome := fun x H2 hx => by
    obtain ⟨b, _, rfl⟩ := List.mem_map.mp hx
    refine et_is (et_B (ev_notN (ev_var (hj _)))) ?_
    cases M a b with
    | none => rfl
    | some x => rfl
  have lst := el_fm (K := K) (t := tB (tNotN (tVar j))) (te := tVar j) someV h (sq_of hr) (by unfold rowV; rw [List.length_map, List.length_range]; omega) hw (fun x H2 _ hx => tk x H2 hx) (fun x y H2 _ hx hf => by
    refine ev_is (ev_var (hj x)) ?_
    unfold someV at hf
    split at hf
    · exact absurd hf (by simp)
    · exact Option.some.inj hf)
  unfold tCB tCons
  refine lst H1 e _ fun p H2 hp e2 h2 => ?_
  have h2' : H2 p = some (.lst (intL ((List.range N).filterMap fun b => M a b))) := by
    rw [h2]
    exact congrArg (fun z => some (HO.lst z)) (row_some M a (List.range N))
  obtain ⟨c, hc, hcm⟩ := m1
  have hin : m ∈ (List.range N).filterMap fun b => M a b := List.mem_filterMap.mpr ⟨c, List.mem_range.mpr hc, hcm⟩
  refine ⟨p, _, rfl, sq_of h2', List.length_pos_of_mem hin, fun x hx hle => ?_⟩
  obtain ⟨b, hb, hbx⟩ := List.mem_filterMap.mp hx
  have l1 := m2 b x (List.mem_range.mp hb) hbx
  have l2 := hle m hin
  have : x = m := by omega
  rw [this]
  exact q H2 e2
theorem pure_a_water {Q : VK} (T : TabAt C H t n E) (k : ∀ v H2, Ex H H2 → ((v = .non ∧ ∀ s, ¬ FitE n E s) ∨ ∃ w xs, v = .ref w ∧ H2 w = some (.tup (intL xs)) ∧ xs.length = n ∧ FitE n E fun i => (pre xs).getD i 0) → Q v H2) : t_a_water_0 K C (ends Q) [some (.ref t), none, none, none] H := by
  obtain ⟨_, _, n1, n2⟩ := T.good
  refine q_need (ea_cons (ev_var rfl) (ea_cons ev_c ea_nil)) T fun H1 e1 => ?_
  refine q_pasg (evp_call (ea_cons (ev_var rfl) ea_nil) fun H2 e2 => ⟨t, n, E, rfl, T.ex (e1.trans e2), rfl⟩) fun v H2 e2 hv => ?_
  have e12 := e1.trans e2
  rcases hv with ⟨rfl, hno⟩ | ⟨p, rs, M, rfl, R, Cl, fit, lo⟩
  · refine q_when (b := decide (V.non = V.non)) (et_B (ev_isN (ev_var rfl))) (fun _ H3 e3 => ?_) (fun z => nomatch (of_decide_eq_false z rfl))
    exact s_ret ev_c fun H4 e4 => k .non H4 (e12.trans (e3.trans e4)) (Or.inl ⟨rfl, hno⟩)
  · refine q_when (b := decide (V.ref p = V.non)) (et_B (ev_isN (ev_var rfl))) (fun z => nomatch (of_decide_eq_true z)) (fun _ H3 e3 => ?_)
    have e13 := e12.trans e3
    have R3 := R.ex e3
    have lr : (rs.map V.ref).length = n + 1 := by rw [List.length_map, R3.len]
    have hmin : ∀ a, ∃ v : Int, a < n + 1 → (∃ c, c < n + 1 ∧ M a c = some v) ∧ ∀ d w, d < n + 1 → M a d = some w → v ≤ w := fun a => by
      by_cases ha : a < n + 1
      · obtain ⟨c, v, hc, hv, hm⟩ := row_min (N := n + 1) (M a) ⟨a, ha, 0, Cl.dg a ha⟩
        exact ⟨v, fun _ => ⟨⟨c, hc, hv⟩, hm⟩⟩
      · exact ⟨0, fun z => absurd z ha⟩
    obtain ⟨f, hf⟩ : ∃ f : Nat → Int, ∀ a, a < n + 1 → (∃ c, c < n + 1 ∧ M a c = some (f a)) ∧ ∀ d w, d < n + 1 → M a d = some w → f a ≤ w := ⟨fun a => Classical.choose (hmin a), fun a => Classical.choose_spec (hmin a)⟩
    have fits : Fits (n + 1) f M := fun a b x ha hb hx => by
      obtain ⟨⟨c, hc, hbc⟩, _⟩ := hf b hb
      obtain ⟨_, ma⟩ := hf a ha
      obtain ⟨u, hu, l⟩ := tri_get Cl.tri ha hc hb hx hbc
      have := ma c u hc hu
      omega
    have gl : given (rs.map V.ref).length (fun _ => true) (fun i => V.int (f i)) = intL ((List.range (n + 1)).map f) := by rw [given_all, lr]; exact (List.map_map ..).symm
    refine p_ret (P := isT (intL (difs ((List.range (n + 1)).map f)))) (evp_callL (xs := intL ((List.range (n + 1)).map f)) ?_ fun q H4 e4 h4 => ⟨q, _, rfl, h4, by rw [List.length_map, List.length_range]; omega, rfl⟩) fun v H4 e4 ⟨w, hv, hw⟩ => ?_
    · rw [← gl]
      refine el_lcL (fun _ => true) (fun i => V.int (f i)) (ev_var rfl) (sq_of R3.top) (by omega) (fun x => rfl) (fun _ _ _ _ _ => et_yes) fun i x H4 e4 hx _ => ?_
      rw [List.getElem?_map] at hx
      obtain ⟨r, hr, rfl⟩ := Option.map_eq_some_iff.mp hx
      have hi := (List.getElem?_eq_some_iff.mp hr).1
      have hi2 : i < n + 1 := by rw [← R3.len]; exact hi
      obtain ⟨m1, m2⟩ := hf i hi2
      exact ev_rowMin (ev_var rfl) (e4 _ _ (R3.row i r hr)) (by omega) (fun _ => rfl) (fun _ => rfl) m1 m2
    · subst hv
      obtain ⟨r, er, lr2⟩ : ∃ r, (List.range (n + 1)).map f = f 0 :: r ∧ r.length = n := by
        rw [List.range_succ_eq_map, List.map_cons]
        exact ⟨_, rfl, by rw [List.length_map, List.length_map, List.length_range]⟩
      rw [er] at hw
      refine k _ H4 (e13.trans e4) (Or.inr ⟨w, difs (f 0 :: r), rfl, hw, by rw [difs_len, lr2], fun a b x ha hb hx => ?_⟩)
      have lv : ∀ i, i < n + 1 → (pre (difs (f 0 :: r))).getD i 0 = f i - f 0 := fun i hi => by
        have := lev_difs (f 0) r i (by omega)
        rw [← er] at this
        have g : ((List.range (n + 1)).map f).getD i 0 = f i := by
          rw [List.getD_eq_getElem?_getD, List.getElem?_map, List.getElem?_range hi]
          rfl
        rw [g] at this
        rw [← er]
        exact this
      show (pre (difs (f 0 :: r))).getD a 0 - (pre (difs (f 0 :: r))).getD b 0 ≤ x
      rw [lv a ha, lv b hb]
      have := (fit f).mpr fits a b x ha hb hx
      omega
end
end Bw
/-! A water of what is left is met. -/
namespace Bw
open PySem PySem.Spec PyProof.Rows L2 Evl
/-- what is known of a table with points hidden -/
def HidE (n m : Nat) (E : List Edge) (ps : List Nat) (E' : List Edge) : Prop := ((∀ s, ¬ FitE n E s) ∧ E'.Perm E0n) ∨ ∃ M, Closed (n + 1) M ∧ (∀ s, FitE n E s ↔ Fits (n + 1) s M) ∧ ∀ a b, a < m + 1 → b < m + 1 → a ≠ b → matE E' a b = M ((kept n ps).getD a 0) ((kept n ps).getD b 0)
def sp__law_met (C : Addr) : Sp := spOf fun vs H P => ∃ (c p u : Addr) (n m : Nat) (E E' : List Edge) (ps : List Nat), vs = [.ref c, .int (n : Int), .ref p, .ref u] ∧ H c = some (.dT (E.map kvE)) ∧ GoodE (n + 1) E ∧ (E.map ekey).Nodup ∧ 1 ≤ n ∧ n ≤ 12 ∧ H p = some (.tup (natL ps)) ∧ OkP n ps ∧ m + 1 = (kept n ps).length ∧
  TabAt C H u m E' ∧ HidE n m E ps E' ∧ P = isV (.bl true)
def t__law_met_4 (K : PySem.W.Frag) (C : Addr) : TS := (tRet (tNotN (tCall (sp__law_closed C) [] E0 (tCons (tCall (sp__law_both C) [] E0 (tCons (tVar 0) (tCons (tVar 7) tNil))) (tCons (tVar 1) tNil)))))
def t__law_met_3 (K : PySem.W.Frag) (C : Addr) : TS := tSeq (tFor (iEnum K (tCons (tSl (rSlL K) (tVar 5) (tPart (tC (.int 1))) tNoPart) tNil)) (gTup K 2 (gCons (gName 8) (gCons (gName 9) gNil))) (tSeq (sDPut (tVar 7) (tTup (tCons (tVar 9) (tCons (tC (.int 0)) tNil))) (tOp (rIxL K) (tVar 6) (tOp rAddI (tVar 8) (tC (.int 1))))) (sDPut (tVar 7) (tTup (tCons (tC (.int 0)) (tCons (tVar 9) tNil))) (tOp rSubI (tC (.int 0)) (tOp (rIxL K) (tVar 6) (tOp rAddI (tVar 8) (tC (.int 1)))))))) (t__law_met_4 K C)
def t__law_met_2 (K : PySem.W.Frag) (C : Addr) : TS := tSeq (tPar3 5 6 7 (tCons (tLc (iRng1 (tCons (tOp rAddI (tVar 1) (tC (.int 1))) tNil)) (gName 9) (tTest (tOp (rIn K true) (tVar 9) (tVar 2))) (tVar 9) [9]) (tCons (tCall (sp__law_levels C) [] E0 (tCons (tVar 4) tNil)) (tCons tDNewT tNil)))) (t__law_met_3 K C)
def t__law_met_1 (K : PySem.W.Frag) (C : Addr) : TS := tSeq (tIfS (tB (tIsN (tVar 4))) (tRet (tC (.bl true))) tNext) (t__law_met_2 K C)
def t__law_met_0 (K : PySem.W.Frag) (C : Addr) : TS := tSeq (tAsg (tCall (sp_a_water C) [] E0 (tCons (tVar 3) tNil)) (gName 4)) (t__law_met_1 K C)
section
variable {K : PySem.W.Frag} {C : Addr} {σ : L2.St} {H : Hp} {ta tb tc te : TE} {D : Ends} {t n m : Nat} {E E' F : List Edge} {ps : List Nat}
theorem kept_nd : (kept n ps).Nodup := List.nodup_range.sublist List.filter_sublist
theorem kept_inj {i j : Nat} (hi : i < (kept n ps).length) (hj : j < (kept n ps).length) (h : (kept n ps).getD i 0 = (kept n ps).getD j 0) : i = j := by
  have h1 := (kept_lt hi).2
  have h2 := (kept_lt hj).2
  rw [← h, ← h1] at h2
  exact (List.getElem?_inj hi kept_nd).mp h2.symm
theorem kept_zero (ok : OkP n ps) : (kept n ps).getD 0 0 = 0 := by
  have h0 : (0 : Nat) ∉ ps := fun z => by
    have := (ok.bd 0 z).1
    omega
  unfold kept
  rw [List.range_succ_eq_map, List.filter_cons_of_pos (by simp [h0])]
  rfl
/-- a water of what is left stands for one of all -/
theorem hid_ext {t : Nat → Int} (hm : m + 1 = (kept n ps).length) (h : HidE n m E ps E') (T : ∀ s, FitE m E' s → ¬ E'.Perm E0n) (f : FitE m E' t) : ∃ s, FitE n E s ∧ ∀ i, i < m + 1 → s ((kept n ps).getD i 0) = t i := by
  rcases h with ⟨_, pm⟩ | ⟨M, Cl, fit, mm⟩
  · exact absurd pm (T t f)
  · have hs : ∀ p, ∃ v : Int, ∀ i, i < m + 1 → (kept n ps).getD i 0 = p → v = t i := fun p => by
      by_cases c : ∃ i, i < m + 1 ∧ (kept n ps).getD i 0 = p
      · obtain ⟨i, hi, e⟩ := c
        refine ⟨t i, fun j hj e2 => ?_⟩
        rw [kept_inj (by omega) (by omega) (e.trans e2.symm)]
      · exact ⟨0, fun i hi e => absurd ⟨i, hi, e⟩ c⟩
    obtain ⟨s0, hs0⟩ : ∃ s0 : Nat → Int, ∀ i, i < m + 1 → s0 ((kept n ps).getD i 0) = t i := ⟨fun p => Classical.choose (hs p), fun i hi => Classical.choose_spec (hs _) i hi rfl⟩
    obtain ⟨s, fs, es⟩ := fits_ext (S := fun a => ∃ i, i < m + 1 ∧ (kept n ps).getD i 0 = a) (s := s0) Cl fun a b x ha hb ⟨i, hi, ei⟩ ⟨j, hj, ej⟩ hx => by
      subst ei ej
      rw [hs0 i hi, hs0 j hj]
      by_cases c : i = j
      · rw [c] at hx ⊢
        rw [Cl.dg _ hb] at hx
        cases hx
        omega
      · exact f i j x hi hj (by rw [mm i j hi hj c]; exact hx)
    exact ⟨s, (fit s).mpr fs, fun i hi => (es _ ⟨i, hi, rfl⟩).trans (hs0 i hi)⟩
theorem ok_put {e : Edge} {s : Nat → Int} (nF : (F.map ekey).Nodup) (h : OkS F s) (he : s e.1 - s e.2.1 ≤ e.2.2) : OkS (putE F e) s := by
  rw [ok_look (putE_nd nF), putE_look nF]
  intro x y w hw
  have hw : (if x = e.1 ∧ y = e.2.1 then some e.2.2 else lookE F x y) = some w := hw
  by_cases c : x = e.1 ∧ y = e.2.1
  · rw [if_pos c] at hw
    cases hw
    rw [c.1, c.2]
    exact he
  · rw [if_neg c] at hw
    exact (ok_look nF s).mp h x y w hw
/-- for i, x in enumerate(a new list) -/
theorem s_forEnL {xs : List V} {tu : TS} {i1 i2 : Nat} (h : EvL te σ H xs) (Pv : Addr → Nat → L2.St → Hp → Prop) (h0 : ∀ p H1, H p = none → Ex H H1 → H1 p = some (.lst xs) → Pv p 0 σ H1) (hl : ∀ p i σ' H', i ≤ xs.length → Pv p i σ' H' → SqL K H' p xs)
    (hs : ∀ p i x σ' H' H2, xs[i]? = some x → Pv p i σ' H' → Ex H' H2 → tu { D with nx := Pv p (i + 1), ct := Pv p (i + 1), bk := D.nx } ((σ'.set i1 (some (.int (i : Nat)))).set i2 (some x)) H2) (hd : ∀ p σ' H', Pv p xs.length σ' H' → D.nx σ' H') :
    tFor (iEnum K (tCons te tNil)) (gTup K 2 (gCons (gName i1) (gCons (gName i2) gNil))) tu D σ H := by
  unfold tFor iEnum tCons
  refine h H (Ex.refl H) _ fun p H1 hp e h1 => ⟨p, xs, rfl, sq_of h1, for_it walk_enum (Pv p) (h0 p H1 hp e h1) (hl p) (fun i v σ' H' H2 hi pv y => by
    obtain ⟨T, u, w, rfl, hT, rfl, hu, hw⟩ := y
    cases hu
    exact ⟨T, _, rfl, st_of upd_same, rfl, _, _, rfl, _, _, rfl, rfl, hs p i w σ' H' _ hw pv (Ex.new hT)⟩) (hd p)⟩
/-- fixed[a, b] = v -/
theorem s_put {d : Addr} {a b : Nat} {w : Int} {td ty tv : TE} (hd : H d = some (.dT (F.map kvE))) (hz : F.length ≤ 1000) (h0 : ∀ H1, Ev td σ H1 (.ref d)) (h1 : ∀ H1, EvU ty σ H1 [.int (a : Int), .int (b : Int)]) (h2 : Ev tv σ H (.int w)) (k : ∀ H1, offd d H H1 → H1 d = some (.dT ((putE F (a, b, w)).map kvE)) → D.nx σ H1) : sDPut td ty tv D σ H := by
  unfold sDPut
  refine h2 H (Ex.refl _) _ fun H1 e1 => h0 H1 H1 (Ex.refl _) _ fun H2 e2 => h1 H2 H2 (Ex.refl _) _ fun q H3 hq e3 h3 => ?_
  have e13 := e1.trans (e2.trans e3)
  refine ⟨d, _, rfl, DPut.t (k := ekey (a, b, w)) (e13 _ _ hd) h3 (by rw [List.length_map]; exact sz_lt (by omega)), k _ (fun b' o nb hb => by rw [upd_ne nb]; exact e13 _ _ hb) ?_⟩
  rw [upd_same]
  exact congrArg (fun z => some (HO.dT z)) (putE_kv (e := (a, b, w)))
theorem pure_law_met {c p u : Addr} {Q : VK} (hc : H c = some (.dT (E.map kvE))) (gE : GoodE (n + 1) E) (nE : (E.map ekey).Nodup) (n1 : 1 ≤ n) (n2 : n ≤ 12) (hp : H p = some (.tup (natL ps))) (ok : OkP n ps) (hm : m + 1 = (kept n ps).length) (U : TabAt C H u m E') (hid : HidE n m E ps E')
    (k : ∀ H2, Ex H H2 → Q (.bl true) H2) : t__law_met_0 K C (ends Q) [some (.ref c), some (.int (n : Int)), some (.ref p), some (.ref u), none, none, none, none, none, none] H := by
  have kl := kept_len ok
  have few := ok.few
  refine q_pasg (evp_call (ea_cons (ev_var rfl) ea_nil) fun H1 e1 => ⟨u, m, E', rfl, U.ex e1, rfl⟩) fun v H1 e1 hv => ?_
  rcases hv with ⟨rfl, hno⟩ | ⟨w, xs, rfl, hw, lx, fx⟩
  · refine q_when (b := true) (et_B (ev_isN (v := .non) (ev_var rfl))) (fun _ H3 e3 => ?_) (fun z => nomatch z)
    exact s_ret ev_c fun H4 e4 => k H4 (e1.trans (e3.trans e4))
  obtain ⟨s, fs, es⟩ := hid_ext hm hid (fun t ft pm => nothing_unfit U pm t ft) fx
  have oks : OkS E s := (fits_edges nE gE s).mp fs
  have s0 : s 0 = 0 := by
    have := es 0 (by omega)
    rw [kept_zero ok] at this
    rw [this]
    cases xs <;> rfl
  refine q_when (b := false) (et_B (ev_isN (v := .ref w) (ev_var rfl))) (fun z => nomatch z) (fun _ H2 e2 => ?_)
  have e12 := e1.trans e2
  unfold t__law_met_2 tSeq tPar3
  refine el_kept (n := n) (ps := ps) (p := p) (ea_cons (ev_is (ev_op (ev_var rfl) ev_c rv_I0) rfl) ea_nil) (by omega) (fun _ => rfl) (fun _ => rfl) (fun _ _ => ev_var rfl) (e12 _ _ hp) H2 (Ex.refl _) _ fun l H3 hl e3 h3 => ?_
  refine (evp_call (ea_cons (ev_var rfl) ea_nil) fun H4 e4 => ⟨w, xs, H3, rfl, e4 _ _ (e3 _ _ (e2 _ _ hw)), by omega, e4, rfl⟩) H3 (Ex.refl _) _ fun v H4 e4 hv => ?_
  obtain ⟨g, rfl, hg0, hg⟩ := hv
  intro d hd
  refine ⟨_, _, _, rfl, ?_⟩
  have e14 := e12.trans (e3.trans e4)
  obtain ⟨H5, eH5⟩ : ∃ H5, H5 = upd H4 d (.dT []) := ⟨_, rfl⟩
  have e5 : Ex H4 H5 := by rw [eH5]; exact Ex.new hd
  have d5 : H5 d = some (.dT (([] : List Edge).map kvE)) := by rw [eH5]; exact upd_same
  show t__law_met_3 K C (ends Q) [some (.ref c), some (.int (n : Int)), some (.ref p), some (.ref u), some (.ref w), some (.ref l), some (.ref g), some (.ref d), none, none] (upd H4 d (.dT []))
  rw [← eH5]
  have hdH : H d = none := fresh_back e14 hd
  have l5 := e5 _ _ (e4 _ _ h3)
  have g5 := e5 _ _ hg
  have c5 := (e14.trans e5) _ _ hc
  have ncd : c ≠ d := ne_of_none hc hdH
  have ngd : g ≠ d := ne_of_none hg hd
  have lpre := preA_length 0 xs
  have cut : cutV (natL (kept n ps)) (some 1) none = (natL (kept n ps)).drop 1 := cut1 _
  have sl : EvL (tSl (rSlL K) (tVar 5) (tPart (tC (.int 1))) tNoPart) [some (.ref c), some (.int (n : Int)), some (.ref p), some (.ref u), some (.ref w), some (.ref l), some (.ref g), some (.ref d), none, none] H5 ((natL (kept n ps)).drop 1) := by
    rw [← cut]
    exact el_sl (ev_var rfl) (eo_some ev_c) eo_none (sq_of l5)
  refine s_forEnL (D := { ends Q with nx := t__law_met_4 K C (ends Q) }) sl (fun q i σ' H' => ∃ v8 v9 F, σ' = [some (.ref c), some (.int (n : Int)), some (.ref p), some (.ref u), some (.ref w), some (.ref l), some (.ref g), some (.ref d), v8, v9] ∧ q ≠ d ∧ H' q = some (.lst ((natL (kept n ps)).drop 1)) ∧ offd d H5 H' ∧ H' d = some (.dT (F.map kvE)) ∧ GoodE (n + 1) F ∧ (F.map ekey).Nodup ∧ OkS F s)
    (fun q H6 hq e6 h6 => ⟨_, _, [], rfl, (fun z => by rw [z, d5] at hq; exact (nomatch hq)), h6, fun b o _ hb => e6 _ _ hb, e6 _ _ d5, fun e he => (nomatch he), List.nodup_nil, fun e he => nomatch he⟩) (fun q i σ' H' _ ⟨_, _, _, _, _, h, _⟩ => sq_of h) (fun q i x σ' H' H6 hx ⟨v8, v9, F, es', nqd, hq, o, hF, gF, nF, okF⟩ e6 => ?_) (fun q σ' H' ⟨v8, v9, F, es', nqd, hq, o, hF, gF, nF, okF⟩ => ?_)
  · subst es'
    rw [List.getElem?_drop, List.getElem?_map] at hx
    obtain ⟨pt, hpt, rfl⟩ := Option.map_eq_some_iff.mp hx
    have hi := (List.getElem?_eq_some_iff.mp hpt).1
    have hi2 : i + 1 < m + 1 := by omega
    have hk : 1 + i = i + 1 := by omega
    rw [hk] at hpt hi
    obtain ⟨kp1, kp2⟩ := kept_lt (n := n) (ps := ps) (i := i + 1) hi
    have ept : pt = (kept n ps).getD (i + 1) 0 := by
      rw [hpt] at kp2
      exact Option.some.inj kp2
    have spt : s pt = (pre xs).getD (i + 1) 0 := by rw [ept]; exact es (i + 1) hi2
    have npt : pt ≠ 0 := fun z => by
      have : (kept n ps).getD (i + 1) 0 = (kept n ps).getD 0 0 := by rw [← ept, z, kept_zero ok]
      have := kept_inj (n := n) (ps := ps) hi (by omega) this
      omega
    have g6 := e6 _ _ (o g _ ngd g5)
    have at_g : atI (intL (pre xs)) (((i + 1 : Nat)) : Int) = some (.int ((pre xs).getD (i + 1) 0)) := atI_nat (by
      rw [List.getElem?_map, List.getD_eq_getElem?_getD]
      have : i + 1 < (pre xs).length := by show i + 1 < (preA 0 xs).length; rw [lpre]; omega
      rw [List.getElem?_eq_getElem this]
      rfl)
    show tSeq _ _ _ [some (.ref c), some (.int (n : Int)), some (.ref p), some (.ref u), some (.ref w), some (.ref l), some (.ref g), some (.ref d), some (.int (i : Int)), some (.int (pt : Int))] H6
    have lv : ∀ H7, H7 g = some (.lst (intL (pre xs))) → Ev (tOp (rIxL K) (tVar 6) (tOp rAddI (tVar 8) (tC (.int 1)))) [some (.ref c), some (.int (n : Int)), some (.ref p), some (.ref u), some (.ref w), some (.ref l), some (.ref g), some (.ref d), some (.int (i : Int)), some (.int (pt : Int))] H7 (.int ((pre xs).getD (i + 1) 0)) := fun H7 h7 => ev_op (ev_var rfl) (ev_op (ev_var rfl) ev_c rv_I0) (rv_ixL (sq_of h7) at_g)
    unfold tSeq
    refine s_put (F := F) (a := pt) (b := 0) (w := (pre xs).getD (i + 1) 0) (e6 _ _ hF) (lenG gF nF n1 n2) (fun H7 => ev_var rfl) (fun H7 => eu_tup (ea_cons (ev_var rfl) (ea_cons ev_c ea_nil)) (by show 2 ≤ 100000; decide)) (lv H6 g6) fun H7 o7 h7 => ?_
    have gP := putE_good (e := (pt, 0, (pre xs).getD (i + 1) 0)) gF (show pt < n + 1 ∧ 0 < n + 1 ∧ pt ≠ 0 from ⟨by rw [ept]; exact kp1, by omega, npt⟩)
    have nP := putE_nd (e := (pt, 0, (pre xs).getD (i + 1) 0)) nF
    have okP := ok_put (e := (pt, 0, (pre xs).getD (i + 1) 0)) nF okF (by show s pt - s 0 ≤ (pre xs).getD (i + 1) 0; rw [spt, s0]; omega)
    have g7 := o7 g _ ngd g6
    refine s_put (F := putE F (pt, 0, (pre xs).getD (i + 1) 0)) (a := 0) (b := pt) (w := 0 - (pre xs).getD (i + 1) 0) h7 (lenG gP nP n1 n2) (fun H8 => ev_var rfl) (fun H8 => eu_tup (ea_cons ev_c (ea_cons (ev_var rfl) ea_nil)) (by show 2 ≤ 100000; decide)) (ev_op ev_c (lv H7 g7) rv_I0) fun H8 o8 h8 => ?_
    refine ⟨_, _, _, rfl, nqd, o8 q _ nqd (o7 q _ nqd (e6 _ _ hq)), fun b o' nb hb => o8 b o' nb (o7 b o' nb (e6 _ _ (o b o' nb hb))), h8, putE_good gP (show 0 < n + 1 ∧ pt < n + 1 ∧ 0 ≠ pt from ⟨by omega, by rw [ept]; exact kp1, fun z => npt z.symm⟩), putE_nd nP, ok_put nP okP (by show s 0 - s pt ≤ 0 - (pre xs).getD (i + 1) 0; rw [spt, s0]; omega)⟩
  · subst es'
    have cH := o c _ ncd c5
    show t__law_met_4 K C (ends Q) [some (.ref c), some (.int (n : Int)), some (.ref p), some (.ref u), some (.ref w), some (.ref l), some (.ref g), some (.ref d), v8, v9] H'
    unfold t__law_met_4
    have exH : Ex H H' := fun b o' hb => o b o' (ne_of_none hb hdH) ((e14.trans e5) _ _ hb)
    refine s_ret (v := .bl true) (fun H6 e6 R r => ?_) fun H6 e6 => k H6 (exH.trans e6)
    unfold tNotN tCall tCons
    refine (evp_call (ea_cons (ev_var rfl) (ea_cons (ev_var rfl) ea_nil)) fun H7 e7 => ⟨c, d, n, E, F, H6, e7, rfl, (e6.trans e7) _ _ cH, (e6.trans e7) _ _ hF, gE, nE, gF, nF, n1, n2, rfl⟩) H6 (Ex.refl _) _ fun v H7 e7 hv => ?_
    obtain ⟨f, G, rfl, hf0, hf, gG, nG, okG⟩ := hv
    refine (ev_var rfl : Ev (tVar 1) _ H7 (.int (n : Int))) H7 (Ex.refl _) _ fun H8 e8 => ?_
    refine ⟨_, ⟨f, n, G, H8, rfl, e8 _ _ hf, gG, nG, n1, n2, Ex.refl _, rfl⟩, fun v H9 e9 hv => ?_⟩
    rcases hv with ⟨_, hno⟩ | ⟨g', G', rfl, _⟩
    · exact absurd ((fits_edges nG gG s).mpr ((okG s).mpr ⟨oks, okF⟩)) (hno s)
    · exact r H9 (e7.trans (e8.trans e9))
end
end Bw
/-! The law's own mixing of a list. -/
namespace Bw
open PySem PySem.Spec PyProof.Rows L2 Evl
def sp__law_mixed (K : PySem.W.Frag) (C : Addr) : Sp := fun vs H Q _ => ∃ (st lg cs p : Addr) (xs : List Nat) (n0 : Nat), vs = [.ref st, .ref p] ∧ H p = some (.lst (natL xs)) ∧ xs.length ≤ 20 ∧ n0 < 2 ^ 30 ∧ Src H st lg cs n0 ∧
  ∀ q H' ys, ys.Perm xs → Src H' st lg cs (n0 + 20) → But H H' st lg → H q = none → H' q = some (.lst (natL ys)) → Q (.ref q) H'
def t__law_mixed_2 (K : PySem.W.Frag) (C : Addr) : TS := (tRet (tVar 3))
def t__law_mixed_1 (K : PySem.W.Frag) (C : Addr) : TS := tSeq (tWhile (tTest (tOp (rNeD K) (tVar 2) (tLst tNil))) (tDrop (tBM K "list" rAppend (tVar 3) (tCons (tBM K "list" rPopAt (tVar 2) (tCons (tCall spDraw [] E0 (tCons (tVar 0) (tCons (tCB (cLen K) (tCons (tVar 2) tNil)) tNil))) tNil)) tNil)))) (t__law_mixed_2 K C)
def t__law_mixed_0 (K : PySem.W.Frag) (C : Addr) : TS := tSeq (tPar 2 3 (tCons (tCB (cListOf K) (tCons (tVar 1) tNil)) (tCons (tLst tNil) tNil))) (t__law_mixed_1 K C)
section
variable {K : PySem.W.Frag} {C : Addr} {σ : L2.St} {H : Hp} {ta tb tc te : TE} {D : Ends} {st lg cs : Addr}
theorem seq_nat {r n : Nat} (h : r < n) : seqIndex? (r : Int) n = some r := by
  have h0 : ¬ ((r : Int) < 0) := by omega
  unfold seqIndex?
  simp [h0, h]
theorem erase_map : ∀ (zs : List Nat) (r : Nat), (natL zs).eraseIdx r = natL (zs.eraseIdx r)
  | [], _ => rfl
  | _ :: _, 0 => rfl
  | a :: t, r + 1 => congrArg (V.int (a : Int) :: ·) (erase_map t r)
theorem erase_perm : ∀ {zs : List Nat} {r : Nat} (h : r < zs.length), (zs[r] :: zs.eraseIdx r).Perm zs
  | a :: t, 0, _ => List.Perm.refl _
  | a :: t, r + 1, h => (List.Perm.swap a _ _).trans ((erase_perm (Nat.lt_of_succ_lt_succ h)).cons a)
theorem pure_law_mixed {p : Addr} {xs : List Nat} {n0 : Nat} {Q : VK} (hp : H p = some (.lst (natL xs))) (hl : xs.length ≤ 20) (hn : n0 < 2 ^ 30) (S : Src H st lg cs n0)
    (k : ∀ q H' ys, ys.Perm xs → Src H' st lg cs (n0 + 20) → But H H' st lg → H q = none → H' q = some (.lst (natL ys)) → Q (.ref q) H') : t__law_mixed_0 K C (ends Q) [some (.ref st), some (.ref p), none, none] H := by
  unfold t__law_mixed_0 tSeq tPar
  refine el_listOf (ev_var rfl) hp H (Ex.refl _) _ fun l H1 hl0 e1 h1 => ?_
  refine (el_lst ea_nil (by show 0 ≤ 100000; decide) : EvL (tLst tNil) _ H1 []) H1 (Ex.refl _) _ fun f H2 hf0 e2 h2 => ?_
  refine ⟨_, _, rfl, ?_⟩
  show t__law_mixed_1 K C (ends Q) [some (.ref st), some (.ref p), some (.ref l), some (.ref f)] H2
  have e12 := e1.trans e2
  have l2 := e2 _ _ h1
  have nlf : l ≠ f := ne_of_none h1 hf0
  have hfH : H f = none := fresh_back e1 hf0
  have nls : l ≠ st ∧ l ≠ lg := ⟨fun z => S.some_.1 (by rw [← z]; exact hl0), fun z => S.some_.2 (by rw [← z]; exact hl0)⟩
  have nfs : f ≠ st ∧ f ≠ lg := ⟨fun z => S.some_.1 (by rw [← z]; exact hfH), fun z => S.some_.2 (by rw [← z]; exact hfH)⟩
  unfold t__law_mixed_1
  refine q_while (fun m σ' H' => ∃ (zs ys : List Nat), σ' = [some (.ref st), some (.ref p), some (.ref l), some (.ref f)] ∧ m = zs.length ∧ (ys ++ zs).Perm xs ∧ H' l = some (.lst (natL zs)) ∧ H' f = some (.lst (natL ys)) ∧ Src H' st lg cs (n0 + ys.length) ∧ (∀ b o, b ≠ st → b ≠ lg → b ≠ l → b ≠ f → H2 b = some o → H' b = some o))
    xs.length ⟨xs, [], rfl, rfl, List.Perm.refl _, l2, h2, S.lift e12, fun _ _ _ _ _ _ h => h⟩ fun m σ' H' ⟨zs, ys, es, em, pm, hz, hy, Sr, off⟩ => ?_
  subst es em
  have plen := pm.length_eq
  rw [List.length_append] at plen
  have tst : EvT (tTest (tOp (rNeD K) (tVar 2) (tLst tNil))) [some (.ref st), some (.ref p), some (.ref l), some (.ref f)] H' (!zs.isEmpty) := et_test fun H3 e3 R r => by
    refine (ev_var rfl : Ev (tVar 2) _ H3 (.ref l)) H3 (Ex.refl _) _ fun H4 e4 => ?_
    refine (el_lst ea_nil (by show 0 ≤ 100000; decide) : EvL (tLst tNil) _ H4 []) H4 (Ex.refl _) _ fun q H5 hq e5 h5 => ?_
    exact ne_nil (l := zs) ((e3.trans (e4.trans e5)) _ _ hz) h5 (r H5 (e4.trans e5))
  refine ⟨!zs.isEmpty, tst, fun hb H3 e3 => ?_, fun hb H3 e3 => ?_⟩
  · have hpos : 0 < zs.length := by
      cases zs with
      | nil => exact nomatch hb
      | cons a r => exact Nat.succ_pos _
    refine ⟨fun σ2 H5 => ∃ (zs' ys' : List Nat), σ2 = [some (.ref st), some (.ref p), some (.ref l), some (.ref f)] ∧ zs'.length + 1 = zs.length ∧ (ys' ++ zs').Perm xs ∧ H5 l = some (.lst (natL zs')) ∧ H5 f = some (.lst (natL ys')) ∧ Src H5 st lg cs (n0 + ys'.length) ∧ (∀ b o, b ≠ st → b ≠ lg → b ≠ l → b ≠ f → H2 b = some o → H5 b = some o),
      fun σ2 H5 ⟨zs', ys', es, el, pm', h1, h2, h3, h4⟩ => ⟨zs'.length, by omega, zs', ys', es, rfl, pm', h1, h2, h3, h4⟩, ?_⟩
    have hz3 := e3 _ _ hz
    have hy3 := e3 _ _ hy
    have S3 := Sr.lift e3
    unfold tDrop tBM tCons
    refine (ev_var rfl : Ev (tVar 3) _ H3 (.ref f)) H3 (Ex.refl _) _ fun H4 e4 => ⟨Or.inl ⟨rfl, _, sq_of (e4 _ _ hy3)⟩, ?_⟩
    refine (ev_var rfl : Ev (tVar 2) _ H4 (.ref l)) H4 (Ex.refl _) _ fun H5 e5 => ⟨Or.inl ⟨rfl, _, sq_of ((e4.trans e5) _ _ hz3)⟩, ?_⟩
    have e35 := e4.trans e5
    have hz5 := e35 _ _ hz3
    have big1 : zs.length < 2 ^ 100 := Nat.lt_of_le_of_lt (by omega : zs.length ≤ 20) (by decide)
    have big2 : n0 + ys.length < 2 ^ 40 := Nat.lt_of_lt_of_le (by omega : n0 + ys.length < 2 ^ 30 + 21) (by decide)
    refine b_drawW (m := zs.length) (ea_cons (ev_var rfl) (ea_cons (ev_is (ev_lenL (ev_var rfl) (sq_of hz5)) (by rw [List.length_map])) ea_nil)) hpos big1 big2 (S3.lift e35) fun r H6 hr S6 B6 => ?_
    have hz6 := B6 _ _ hz5 nls.1 nls.2
    have hy6 := B6 _ _ (e35 _ _ hy3) nfs.1 nfs.2
    refine ⟨l, natL zs, (r : Int), r, .int ((zs[r] : Nat) : Int), rfl, rfl, hz6, by omega, by omega, seq_nat (by rw [List.length_map]; exact hr), by rw [List.getElem?_map, List.getElem?_eq_getElem hr]; rfl, ?_⟩
    have er : (natL zs).eraseIdx r = natL (zs.eraseIdx r) := erase_map zs r
    refine ⟨f, natL ys, .int ((zs[r] : Nat) : Int), rfl, rfl, by rw [upd_ne (fun z => nlf z.symm)]; exact hy6, by rw [List.length_map]; exact sz_lt (by omega), zs.eraseIdx r, ys ++ [zs[r]], rfl, ?_, ?_, ?_, ?_, ?_, fun b o b1 b2 b3 b4 hb' => ?_⟩
    · rw [List.length_eraseIdx_of_lt hr]
      omega
    · rw [List.append_assoc]
      exact ((erase_perm hr).append_left ys).trans pm
    · rw [upd_ne nlf, upd_same, er]
    · rw [upd_same]
      show _ = some (HO.lst ((ys ++ [zs[r]]).map _))
      rw [List.map_append]
      rfl
    · obtain ⟨⟨large, cells, r', t', g1, g2, g3, g4⟩, nl⟩ := S6
      have ncl : cs ≠ l := fun z => by
        obtain ⟨⟨_, _, _, _, k1, k2, k3, _⟩, _⟩ := S.lift e12
        rw [z] at k3
        have : H cs = H l := by rw [z]
        obtain ⟨⟨_, _, _, _, _, _, j3, _⟩, _⟩ := S
        rw [this, hl0] at j3
        exact nomatch j3
      have ncf : cs ≠ f := fun z => by
        obtain ⟨⟨_, _, _, _, _, _, j3, _⟩, _⟩ := S
        rw [z, hfH] at j3
        exact nomatch j3
      refine ⟨⟨large, cells, r', t', ?_, ?_, ?_, ?_⟩, nl⟩
      · rw [upd_ne (fun z => nfs.1 z.symm), upd_ne (fun z => nls.1 z.symm)]; exact g1
      · rw [upd_ne (fun z => nfs.2 z.symm), upd_ne (fun z => nls.2 z.symm)]; exact g2
      · rw [upd_ne ncf, upd_ne ncl]; exact g3
      · rw [List.length_append]
        exact ⟨by have := g4.1; simp; omega, g4.2⟩
    · rw [upd_ne b4, upd_ne b3]
      exact B6 b o (e35 _ _ (e3 _ _ (off b o b1 b2 b3 b4 hb'))) b1 b2
  · have zn : zs = [] := by
      cases zs with
      | nil => rfl
      | cons a r => exact nomatch hb
    subst zn
    rw [List.append_nil] at pm
    unfold t__law_mixed_2
    have yl := pm.length_eq
    refine s_ret (v := .ref f) (ev_var rfl) fun H4 e4 => k f H4 ys pm ((Sr.lift (e3.trans e4)).up (by omega)) (fun b o hb' b1 b2 => (e3.trans e4) _ _ ?_) hfH ((e3.trans e4) _ _ hy)
    exact off b o b1 b2 (ne_of_none hb' hl0) (ne_of_none hb' hfH) (e12 _ _ hb')
end
end Bw
/-! Two tables of what is left are one. -/
namespace Bw
open PySem PySem.Spec PyProof.Rows L2 Evl Classical
section
variable {C : Addr} {H : Hp} {n m : Nat} {E E1 E2 F : List Edge} {ps : List Nat}
theorem hid_same (hm : m + 1 = (kept n ps).length) (g1 : GoodE (m + 1) E1) (g2 : GoodE (m + 1) E2) (n1 : (E1.map ekey).Nodup) (n2 : (E2.map ekey).Nodup) (h1 : HidE n m E ps E1) (h2 : HidE n m E ps E2) : sameB m m E1 E2 = true := by
  refine decide_eq_true ⟨rfl, ?_⟩
  rcases h1 with ⟨no, p1⟩ | ⟨M1, C1, f1, m1⟩
  · rcases h2 with ⟨_, p2⟩ | ⟨M2, C2, f2, m2⟩
    · exact fun e => ⟨fun h => p2.mem_iff.mpr (p1.mem_iff.mp h), fun h => p1.mem_iff.mpr (p2.mem_iff.mp h)⟩
    · obtain ⟨t, ft⟩ := feas C2
      exact absurd ((f2 t).mpr ft) (no t)
  · rcases h2 with ⟨no, _⟩ | ⟨M2, C2, f2, m2⟩
    · obtain ⟨t, ft⟩ := feas C1
      exact absurd ((f1 t).mpr ft) (no t)
    · have eq : ∀ a b, a < m + 1 → b < m + 1 → a ≠ b → lookE E1 a b = lookE E2 a b := fun a b ha hb hab => by
        have k1 := (kept_lt (n := n) (ps := ps) (i := a) (by omega)).1
        have k2 := (kept_lt (n := n) (ps := ps) (i := b) (by omega)).1
        have h := (m1 a b ha hb hab).trans ((closed_eq C1 C2 (fun s => (f1 s).symm.trans (f2 s)) k1 k2).trans (m2 a b ha hb hab).symm)
        have h : (if a = b then some 0 else lookE E1 a b) = (if a = b then some 0 else lookE E2 a b) := h
        rw [if_neg hab, if_neg hab] at h
        exact h
      intro e
      obtain ⟨a, b, x⟩ := e
      constructor
      · intro he
        obtain ⟨ha, hb, hab⟩ := g1 _ he
        exact (look_mem n2).mp ((eq a b ha hb hab).symm.trans ((look_mem n1).mpr he))
      · intro he
        obtain ⟨ha, hb, hab⟩ := g2 _ he
        exact (look_mem n1).mp ((eq a b ha hb hab).trans ((look_mem n2).mpr he))
theorem hid_perm (nF : (F.map ekey).Nodup) (p : E1.Perm F) {M : Mat} (h : ∀ a b, a < m + 1 → b < m + 1 → a ≠ b → matE F a b = M ((kept n ps).getD a 0) ((kept n ps).getD b 0)) : ∀ a b, a < m + 1 → b < m + 1 → a ≠ b → matE E1 a b = M ((kept n ps).getD a 0) ((kept n ps).getD b 0) := fun a b ha hb hab => (mat_perm nF p a b).trans (h a b ha hb hab)
end
end Bw
/-! Points that can't be hidden. -/
namespace Bw
open PySem PySem.Spec PyProof.Rows L2 Evl
/-- None, a truth, a number, a text -/
def Simp : V → Prop
  | .non | .bl _ | .int _ | .str _ => True
  | _ => False
def isI : V → Bool
  | .int _ => true
  | _ => false
def btw (lo hi : Int) : V → Bool
  | .int i => decide (lo ≤ i) && decide (i ≤ hi)
  | _ => false
def likeI : V → Bool
  | .bl _ => true
  | .int _ => true
  | _ => false
def isBl : V → Bool
  | .bl _ => true
  | _ => false
def tyN : V → String
  | .non => "NoneType"
  | .bl _ => "bool"
  | .int _ => "int"
  | .str _ => "str"
  | _ => "tuple"
section
variable {K : PySem.W.Frag} {C : Addr} {σ : L2.St} {H : Hp} {ta tb tc te : TE} {D : Ends} {t n m : Nat} {E E' F : List Edge} {ps : List Nat}
theorem ty_simp {x : V} (h : Simp x) (H1 : Hp) : TyX K H1 x (.type (tyN x)) := by
  cases x with
  | non => exact .base .non
  | bl b => exact .base (.bl b)
  | int i => exact .base (.int i)
  | str s => exact .base (.str s)
  | _ => exact False.elim h
theorem kit_int {x : V} (h : Simp x) : PySem.W.kitOne K (.type (tyN x)) (.type "int") = some (likeI x) := by
  cases x with
  | non => exact kit_ty (show kitB "NoneType" "int" = some false by decide +kernel)
  | bl b => exact kit_ty (show kitB "bool" "int" = some true by decide +kernel)
  | int i => exact kit_ty (show kitB "int" "int" = some true by decide +kernel)
  | str s => exact kit_ty (show kitB "str" "int" = some false by decide +kernel)
  | _ => exact False.elim h
theorem kit_bool {x : V} (h : Simp x) : PySem.W.kitOne K (.type (tyN x)) (.type "bool") = some (isBl x) := by
  cases x with
  | non => exact kit_ty (show kitB "NoneType" "bool" = some false by decide +kernel)
  | bl b => exact kit_ty (show kitB "bool" "bool" = some true by decide +kernel)
  | int i => exact kit_ty (show kitB "int" "bool" = some false by decide +kernel)
  | str s => exact kit_ty (show kitB "str" "bool" = some false by decide +kernel)
  | _ => exact False.elim h
def sp_is_numberS (C : Addr) : Sp := spOf fun vs H P => ∃ x, vs = [x] ∧ Simp x ∧ P = isV (.bl (isI x))
def sp_betweenS (C : Addr) : Sp := spOf fun vs H P => ∃ (x : V) (lo hi : Int), vs = [x, .int lo, .int hi] ∧ Simp x ∧ P = isV (.bl (btw lo hi x))
def t_is_numberS_0 (K : PySem.W.Frag) (C : Addr) : TS := (tRet (tAndV (tCB (rIsi K) (tCons (tVar 0) (tCons (tC (.ty "int")) tNil))) (tNotV (tCB (rIsi K) (tCons (tVar 0) (tCons (tC (.ty "bool")) tNil))))))
def t_betweenS_0 (K : PySem.W.Frag) (C : Addr) : TS := (tRet (tAndV (tCall (sp_is_numberS C) [] E0 (tCons (tVar 0) tNil)) (tChain rLeI rLeI (tVar 1) (tVar 0) (tVar 2))))
theorem pure_is_numberS {x : V} {Q : VK} (hx : Simp x) (k : ∀ H1, Ex H H1 → Q (.bl (isI x)) H1) : t_is_numberS_0 K C (ends Q) [some x] H := by
  refine s_ret (v := .bl (likeI x && !isBl x)) (ev_andV (ev_isi (ev_var rfl) (fun H1 _ => ty_simp hx H1) (kit_int hx)) fun _ => ev_notV (ev_isi (ev_var rfl) (fun H1 _ => ty_simp hx H1) (kit_bool hx))) fun H1 e1 => ?_
  have := k H1 e1
  cases x <;> first | exact this | exact False.elim hx
theorem pure_betweenS {x : V} {lo hi : Int} {Q : VK} (hx : Simp x) (k : ∀ H1, Ex H H1 → Q (.bl (btw lo hi x)) H1) : t_betweenS_0 K C (ends Q) [some x, some (.int lo), some (.int hi)] H := by
  have num : Ev (tCall (sp_is_numberS C) [] E0 (tCons (tVar 0) tNil)) [some x, some (.int lo), some (.int hi)] H (.bl (isI x)) := ev_callV (ea_cons (ev_var rfl) ea_nil) fun H1 e1 => ⟨x, rfl, hx, rfl⟩
  cases x with
  | int i => exact s_ret (v := .bl (true && (decide (lo ≤ i) && decide (i ≤ hi)))) (ev_andV num fun _ => ev_chain (ev_var rfl) (ev_var rfl) (ev_var rfl)) k
  | non => exact s_ret (v := .bl (false && false)) (ev_andV num fun z => nomatch z) k
  | bl b => exact s_ret (v := .bl (false && false)) (ev_andV num fun z => nomatch z) k
  | str s => exact s_ret (v := .bl (false && false)) (ev_andV num fun z => nomatch z) k
  | _ => exact False.elim hx
/-- what can't be hidden: no tuple; too many; what is no point; points that don't ascend -/
def NoHide (K : PySem.W.Frag) (n : Nat) (H : Hp) (v : V) : Prop := (∃ t : String, (∀ H1, Ex H H1 → TyX K H1 v (.type t)) ∧ PySem.W.kitOne K (.type t) (.type "tuple") = some false) ∨
  ∃ p xs, v = .ref p ∧ H p = some (.tup xs) ∧ xs.length ≤ 13 ∧ (∀ x ∈ xs, Simp x) ∧ (n ≤ xs.length ∨ xs.all (btw 1 (n : Int)) = false ∨ ∃ is : List Int, xs = intL is ∧ (List.zipWith (fun i j => decide (i < j)) is (is.drop 1)).all id = false)
def sp_canHideN (K : PySem.W.Frag) (C : Addr) : Sp := spOf fun vs H P => ∃ (v : V) (n : Nat), vs = [v, .int (n : Int)] ∧ n ≤ 12 ∧ NoHide K n H v ∧ P = isV (.bl false)
def t_canHideN_2 (K : PySem.W.Frag) (C : Addr) : TS := (tRet (tCB (rAll K) (tCons (tLc (RZ.iZipA K (tCons (tVar 0) (tCons (tSl (rSlA K) (tVar 0) (tPart (tC (.int 1))) tNoPart) tNil))) (gTup K 2 (gCons (gName 3) (gCons (gName 4) gNil))) tYes (tOp rLtI (tVar 3) (tVar 4)) [3, 4]) tNil)))
def t_canHideN_1 (K : PySem.W.Frag) (C : Addr) : TS := tSeq (tIfS (tNot (tB (tCB (rAll K) (tCons (tLc (iTup K (tVar 0)) (gName 2) tYes (tCall (sp_betweenS C) [] E0 (tCons (tVar 2) (tCons (tC (.int 1)) (tCons (tVar 1) tNil)))) [2]) tNil)))) (tRet (tC (.bl false))) tNext) (t_canHideN_2 K C)
def t_canHideN_0 (K : PySem.W.Frag) (C : Addr) : TS := tSeq (tIfS (tOr (tNot (tB (tCB (rIsi K) (tCons (tVar 0) (tCons (tC (.ty "tuple")) tNil))))) (tTest (tOp rGeI (tCB (cLen K) (tCons (tVar 0) tNil)) (tVar 1)))) (tRet (tC (.bl false))) tNext) (t_canHideN_1 K C)
theorem zip_ltI : ∀ is : List Int, List.zipWith ltVV (intL is) ((intL is).drop 1) = (List.zipWith (fun i j => decide (i < j)) is (is.drop 1)).map V.bl
  | [] => rfl
  | [_] => rfl
  | x :: y :: r => by
    have ih := zip_ltI (y :: r)
    show V.bl (decide (x < y)) :: List.zipWith ltVV (intL (y :: r)) ((intL (y :: r)).drop 1) = V.bl (decide (x < y)) :: _
    rw [ih]
    rfl
theorem pure_canHideN {v : V} {Q : VK} (n2 : n ≤ 12) (h : NoHide K n H v) (k : ∀ H1, Ex H H1 → Q (.bl false) H1) : t_canHideN_0 K C (ends Q) [some v, some (.int (n : Int)), none, none, none] H := by
  rcases h with ⟨tn, ty, kt⟩ | ⟨p, xs, rfl, hp, lx, sx, h⟩
  · refine q_when (b := !false || false) (et_or (a := !false) (et_not (et_B (ev_isi (ev_var rfl) ty kt))) fun z => nomatch z) (fun _ H1 e1 => s_ret ev_c fun H2 e2 => k H2 (e1.trans e2)) fun z => nomatch z
  have first : EvT (tOr (tNot (tB (tCB (rIsi K) (tCons (tVar 0) (tCons (tC (.ty "tuple")) tNil))))) (tTest (tOp rGeI (tCB (cLen K) (tCons (tVar 0) tNil)) (tVar 1)))) [some (.ref p), some (.int (n : Int)), none, none, none] H (!true || decide ((n : Int) ≤ ((xs.length : Nat) : Int))) := et_or (a := !true) (et_not (et_B (ev_isi (ev_var rfl) (fun H1 e => ty_tup (e _ _ hp)) (kit_ty (by decide +kernel))))) fun _ => et_test (ev_op (ev_lenT (ev_var rfl) (st_of hp)) (ev_var rfl) rv_I0)
  refine q_when first (fun _ H1 e1 => s_ret ev_c fun H2 e2 => k H2 (e1.trans e2)) fun hb H1 e1 => ?_
  have hlen : ¬ n ≤ xs.length := fun z => by
    rw [decide_eq_true (show (n : Int) ≤ ((xs.length : Nat) : Int) by omega)] at hb
    exact nomatch hb
  have bs : Ev (tCB (rAll K) (tCons (tLc (iTup K (tVar 0)) (gName 2) tYes (tCall (sp_betweenS C) [] E0 (tCons (tVar 2) (tCons (tC (.int 1)) (tCons (tVar 1) tNil)))) [2]) tNil)) [some (.ref p), some (.int (n : Int)), none, none, none] H1 (.bl ((xs.map (btw 1 (n : Int))).all id)) := by
    refine ev_all ?_
    rw [List.map_map]
    exact el_mpT (K := K) (fun x => V.bl (btw 1 (n : Int) x)) (ev_var rfl) (st_of (e1 _ _ hp)) (by omega) (fun y => rfl) (fun y H4 e4 hm => ev_callV (ea_cons (ev_var rfl) (ea_cons ev_c (ea_cons (ev_var rfl) ea_nil))) fun H5 e5 => ⟨y, 1, (n : Int), rfl, sx y hm, rfl⟩)
  refine q_when (et_not (et_B bs)) (fun _ H2 e2 => s_ret ev_c fun H3 e3 => k H3 (e1.trans (e2.trans e3))) fun hb2 H2 e2 => ?_
  have hall : xs.all (btw 1 (n : Int)) = true := by
    rw [List.all_map] at hb2
    have : (xs.all fun x => btw 1 (n : Int) x) = true := by
      cases z : (xs.all fun x => btw 1 (n : Int) x) with
      | true => rfl
      | false =>
        have z' : xs.all (id ∘ btw 1 (n : Int)) = false := z
        rw [z'] at hb2
        exact nomatch hb2
    exact this
  rcases h with h | h | ⟨is, rfl, h⟩
  · exact absurd h hlen
  · rw [hall] at h
    exact nomatch h
  · refine s_ret (v := .bl false) (ev_is (ev_all (bs := List.zipWith (fun i j => decide (i < j)) is (is.drop 1)) ?_) (by rw [h])) fun H3 e3 => k H3 (e1.trans (e2.trans e3))
    rw [← zip_ltI]
    refine el_zipT (K := K) (σ := [some (.ref p), some (.int (n : Int)), none, none, none]) (H := H2) (te := tOp rLtI (tVar 3) (tVar 4)) (tA := tCons (tVar 0) (tCons (tSl (rSlA K) (tVar 0) (tPart (tC (.int 1))) tNoPart) tNil)) (i1 := 3) (i2 := 4) (vs := [3, 4]) (xs := intL is) (ys := (intL is).drop 1) ltVV (fun H0 e0 R r => ?_) (by omega) (fun _ _ => rfl) (fun i y z H5 e5 hy hz => ?_)
    · have hp0 := (e1.trans (e2.trans e0)) _ _ hp
      refine ⟨_, rfl, .ref p, rfl, ?_⟩
      refine ⟨1, rfl, p, intL is, rfl, st_of hp0, fun hw => ?_, fun hw q hq => ?_⟩
      · have hl : intL is = [] := by
          have h1 : HT.sIx (intL is).length 0 (some 1) = min 1 (intL is).length := HT.sIx_nat _ 0 1
          rw [h1] at hw
          exact List.eq_nil_of_length_eq_zero (by omega)
        exact r p p H0 (Ex.refl _) (st_of hp0) (st_of (by rw [hp0, hl]; rfl))
      · exact r p q _ (Ex.new hq) (st_of ((Ex.new hq) _ _ hp0)) (st_of (by rw [upd_same, cut1]))
    · rw [List.getElem?_map] at hy
      rw [← List.map_drop, List.getElem?_map] at hz
      obtain ⟨y', _, rfl⟩ := Option.map_eq_some_iff.mp hy
      obtain ⟨z', _, rfl⟩ := Option.map_eq_some_iff.mp hz
      exact ev_op (ev_var rfl) (ev_var rfl) rv_I0
end
end Bw
/-! Errors that hidden raises. -/
namespace Bw
open PySem PySem.Spec PyProof.Rows L2 Evl
def tDead : TS := fun _ _ _ => False
theorem pss_dead {X : Cx} {ss : List Stmt} : PSs X ss tDead := ⟨fun _ _ _ _ _ _ h => h.elim⟩
/-- an error without own parts -/
abbrev wOwn (CP : Addr) (H : Hp) (E : XK) : Prop := ∀ H1, Ex H H1 → E (.ref CP) none H1
def tRaiseOwn (CP : Addr) (E : XK) : TS := fun _ _ H => E (.ref CP) none H
section
variable {K : PySem.W.Frag} {C CB CP : Addr} {σ : L2.St} {H : Hp} {ta tb tc te : TE} {D : Ends} {t n m : Nat} {E : List Edge}
/-- hidden of what is no Table -/
def spHidBadT (K : PySem.W.Frag) (C CB : Addr) : Sp := fun vs H _ X => ∃ x y, vs = [x, y] ∧ NoTab K C H x ∧ wSi CB "part" .non H X
def tHidBadT (K : PySem.W.Frag) (C CB : Addr) (X : XK) : TS := tSeq (tDrop (tCallS (spNeedBad K C CB) (WE fun cls d _ H => X cls d H) (tCons (tVar 0) (tCons (tC .non) tNil)))) tDead
theorem pure_hidBadT {x y : V} {Q : VK} {X : XK} (hx : NoTab K C H x) (w : wSi CB "part" .non H X) : tHidBadT K C CB X (ends Q) [some x, some y, none, none, none, none, none] H := by
  unfold tHidBadT tSeq tDrop tCallS tCons
  refine (ev_var rfl : Ev (tVar 0) _ H x) H (Ex.refl _) _ fun H1 e1 => ?_
  refine (ev_c : Ev (tC .non) _ H1 .non) H1 (Ex.refl _) _ fun H2 e2 => ?_
  exact ⟨x, .non, rfl, hx.ex (e1.trans e2), fun d H3 e3 hd => w d H3 ((e1.trans e2).trans e3) hd⟩
/-- hidden of what can't be hidden -/
def spHidBadP (K : PySem.W.Frag) (C CP : Addr) : Sp := fun vs H _ X => ∃ t v n E, vs = [.ref t, v] ∧ TabAt C H t n E ∧ NoHide K n H v ∧ wOwn CP H X
def tHidBadP (K : PySem.W.Frag) (C CP : Addr) (X : XK) : TS := tSeq (tDrop (tCall (sp__need_table C) [] E0 (tCons (tVar 0) (tCons (tC .non) tNil)))) (tSeq (tIfS (tNot (tB (tCall (sp_canHideN K C) [] E0 (tCons (tVar 1) (tCons (tProp C (sp_Table_size C) [] E0 (tVar 0)) tNil))))) (tRaiseOwn CP X) tNext) tDead)
theorem NoHide.ex {H' : Hp} {v : V} (h : NoHide K n H v) (e : Ex H H') : NoHide K n H' v := by
  rcases h with ⟨t, ty, kt⟩ | ⟨p, xs, h1, h2, r⟩
  · exact Or.inl ⟨t, fun H1 e1 => ty H1 (e.trans e1), kt⟩
  · exact Or.inr ⟨p, xs, h1, e _ _ h2, r⟩
theorem pure_hidBadP {v : V} {Q : VK} {X : XK} (T : TabAt C H t n E) (hv : NoHide K n H v) (w : wOwn CP H X) : tHidBadP K C CP X (ends Q) [some (.ref t), some v, none, none, none, none, none] H := by
  obtain ⟨_, _, n1, n2⟩ := T.good
  refine q_need (ea_cons (ev_var rfl) (ea_cons ev_c ea_nil)) T fun H1 e1 => ?_
  refine q_if (b := !false) (et_not (et_B (ev_callV (ea_cons (ev_var rfl) (ea_cons (ev_propSize (ev_var rfl) (T.ex e1)) ea_nil)) fun H2 e2 => ⟨v, n, rfl, n2, hv.ex (e1.trans e2), rfl⟩))) (fun _ H2 e2 => w H2 (e1.trans e2)) fun z => nomatch z
end
end Bw
/-! A def called by keywords alone. -/
namespace Bw
open PySem PySem.Spec PyProof.Rows L2
section
variable {X : Cx} {x : Str} {p pos : Pos} {kws : List Keyword} {k : Nat} {f : Addr} {fd : FuncData} {ps ks : List Str} {sp : Sp} {CX : CXT} {E : XK} {tk : TA} {g : List Value → List Value → List Value} {gV : List V → List V → List V}
/-- f(k = v, ..) -/
theorem pe_callK0 (F : FnOk X.prog X.w X.K X.mg X.base CX k f fd ps sp) (hr : Room k X.A) (hg : Gl X x) (hm : X.mg x = some (.ref f)) (hk : PySem.W.keepIn X.K (.ref f) = true) (hb : KBinds X.K fd ps ks g gV) (hx : Passes CX X E)
    (hkw : PK X kws tk) (hall : (backToKw pos (keywordEach kws X.env)).all (·.1.isSome) = true := by rfl) (hks : (backToKw pos (keywordEach kws X.env)).filterMap (·.1) = ks := by rfl)
    (hdb : (x == ("__debug__" : Str)) = false := by decide) (hpl : ((backTo pos (starEach [] X.env)).any (·.1) || (backToKw pos (keywordEach kws X.env)).any (·.1.isNone)) = false := by rfl) :
    PE X (.Call (.Name x p) [] kws pos) (tCallK sp gV E tNil tk) := by
  refine ⟨fun pins s σ H Q I h => ?_⟩
  refine wpAny_Call_Name_kw (ld_glob I hg hm ?_ hdb)
  refine PySem.W.callWith_KW0 (h₀ := X.base) I.ok.mod.kin hk hall ?_ hpl
  refine thn (hkw.run pos pins s σ H _ I h) fun ws s2 ⟨zs, H2, I2, rz, q2⟩ => ⟨I2.kIn, ?_⟩
  rw [hks]
  exact run_fnk F hr hb hx I2 .nil rz q2
/-- two keywords, the other way about -/
def sw2 {α : Type} : List α → List α → List α
  | [], [a, b] => [b, a]
  | _, _ => []
def id2 {α : Type} : List α → List α → List α
  | [], [a, b] => [a, b]
  | _, _ => []
def id1 {α : Type} : List α → List α → List α
  | [], [a] => [a]
  | _, _ => []
theorem sw2_rel {vs : List V} {us : List Value} {zs : List V} {ws : List Value} (r : Vals vs us) (rz : Vals zs ws) : Vals (sw2 vs zs) (sw2 us ws) := by
  cases r with
  | cons _ _ => cases rz <;> exact .nil
  | nil => cases rz with
    | nil => exact .nil
    | cons r1 rz => cases rz with
      | nil => exact .nil
      | cons r2 rz => cases rz with
        | nil => exact .cons r2 (.cons r1 .nil)
        | cons _ _ => exact .nil
theorem id1_rel {vs : List V} {us : List Value} {zs : List V} {ws : List Value} (r : Vals vs us) (rz : Vals zs ws) : Vals (id1 vs zs) (id1 us ws) := by
  cases r with
  | cons _ _ => cases rz <;> exact .nil
  | nil => cases rz with
    | nil => exact .nil
    | cons r1 rz => cases rz with
      | nil => exact .cons r1 .nil
      | cons _ _ => exact .nil
theorem kb2 {K : PySem.W.Frag} {st : Stmt} {qual : Str} {ps ks : List Str} (F : L2.Fun K x qual st f fd) (lp : ps.length = 2)
    (h : ∀ (kV doc pm : Value) (an : Option Addr) (cdv ct : Value) (a b : Value), bindArgs (PySem.W.fnOf x qual (defArgs st) (defBody st) (defScope st) .none kV doc pm an cdv ct) ⟨[], ks.zip [a, b]⟩ = pure (ps.zip [b, a])) : KBinds K fd ps ks sw2 sw2 := by
  obtain ⟨oc, od, kV, doc, pm, an, cdv, ct, osl, rfl, lk, hcd⟩ := F.ex
  refine ⟨fun s us ws X hl => ?_, fun r rz => sw2_rel r rz⟩
  match us, ws, hl with
  | [], [a, b], _ => exact BindsTo.of_eq (h kV doc pm an cdv ct a b)
  | [], [], hl => rw [lp] at hl; exact nomatch hl
  | [], [_], hl => rw [lp] at hl; exact nomatch hl
  | [], _ :: _ :: _ :: _, hl => rw [lp] at hl; exact nomatch hl
  | _ :: _, _, hl => rw [lp] at hl; exact nomatch hl
end
end Bw
/-! What the law of hidden points asks (made by mkread08.py). -/
namespace Bw
open PySem PySem.Spec PyProof.Rows L2 Evl
def t_turn_14 (K : PySem.W.Frag) (C CP CB CR : Addr) (Tt : List (Addr × Str)) : TS := (tIfS (tOr (tNot (tB (tCB (rIsK K) (tCons (tVar 10) (tCons (tC (.ref CB)) tNil))))) (tB (tNotN (tXk K "part" (tVar 10))))) (tRet (tC (.bl false))) tNext)
def t_turn_13 (K : PySem.W.Frag) (C CP CB CR : Addr) (Tt : List (Addr × Str)) : TS := tSeq (tAsg (LamX.tLam Tt (TCaught K CR) (fun X => tCallS (spHidBadT K C CB) (WE fun cls d _ H => X cls d H) (tCons (tVar 9) (tCons (tVar 9) tNil)))) (gName 10)) (t_turn_14 K C CP CB CR Tt)
def t_turn_12 (K : PySem.W.Frag) (C CP CB CR : Addr) (Tt : List (Addr × Str)) : TS := tSeq (tIfS (tNot (tB (tCB (rIsK K) (tCons (LamX.tLam Tt (TCaught K CR) (fun X => tCallS (spHidBadP K C CP) (WE fun cls d _ H => X cls d H) (tCons (tVar 5) (tCons (tVar 9) tNil)))) (tCons (tC (.ref CP)) tNil))))) (tRet (tC (.bl false))) tNext) (t_turn_13 K C CP CB CR Tt)
def t_turn_11 (K : PySem.W.Frag) (C CP CB CR : Addr) (Tt : List (Addr × Str)) : TS := tSeq (tAsg (tCall (spPick K) [] E0 (tCons (tVar 1) (tCons (tVar 8) tNil))) (gName 9)) (t_turn_12 K C CP CB CR Tt)
def t_turn_10 (K : PySem.W.Frag) (C CP CB CR : Addr) (Tt : List (Addr × Str)) : TS := tSeq (tAsg (tLst (tCons (tC .non) (tCons (tLst (tCons (tC (.int 1)) tNil)) (tCons (tTup (tCons (tC (.int 0)) tNil)) (tCons (tTup (tCons (tOp rAddI (tVar 3) (tC (.int 1))) tNil)) (tCons (tTup (tCons (tC (.int 1)) (tCons (tC (.int 1)) tNil))) (tCons (tTup (tCons (tC (.int 2)) (tCons (tC (.int 1)) tNil))) (tCons (tTup (tCons (tC (.bl true)) tNil)) (tCons (tTup (tCons (tC (.str "1")) tNil)) (tCons (tTupRg (tRg2 (tC (.int 1)) (tOp rAddI (tVar 3) (tC (.int 1))))) (tCons (tC (.int 1)) tNil))))))))))) (gName 8)) (t_turn_11 K C CP CB CR Tt)
def t_turn_9 (K : PySem.W.Frag) (C CP CB CR : Addr) (Tt : List (Addr × Str)) : TS := tSeq (tIfS (tNot (tB (tCall (sp__law_met C) [] E0 (tCons (tVar 4) (tCons (tVar 3) (tCons (tVar 6) (tCons (tVar 13) tNil))))))) (tRet (tC (.bl false))) tNext) (t_turn_10 K C CP CB CR Tt)
def t_turn_8 (K : PySem.W.Frag) (C CP CB CR : Addr) (Tt : List (Addr × Str)) : TS := tSeq (tIfS (tB (tNotN (tVar 7))) (tSeq (tAsg (tLc (iRng1 (tCons (tOp rAddI (tVar 3) (tC (.int 1))) tNil)) (gName 16) (tTest (tOp (rIn K true) (tVar 16) (tVar 6))) (tOp (rIxT K) (tCall (sp_sums C) [] E0 (tCons (tVar 7) tNil)) (tVar 16)) [16]) (gName 15)) (tIfS (tNot (tB (tMeth C "fits" (sp_Table_fits C) [] E0 (tVar 13) (tCons (tCB (cTupleOf K) (tCons (tLc (iRng1 (tCons (tVar 12) tNil)) (gName 17) tYes (tOp rSubI (tOp (rIxL K) (tVar 15) (tOp rAddI (tVar 17) (tC (.int 1)))) (tOp (rIxL K) (tVar 15) (tVar 17))) [17]) tNil)) tNil)))) (tRet (tC (.bl false))) tNext)) tNext) (t_turn_9 K C CP CB CR Tt)
def t_turn_7 (K : PySem.W.Frag) (C CP CB CR : Addr) (Tt : List (Addr × Str)) : TS := tSeq (tAsg (tCall (sp_a_water C) [] E0 (tCons (tVar 5) tNil)) (gName 7)) (t_turn_8 K C CP CB CR Tt)
def t_turn_6 (K : PySem.W.Frag) (C CP CB CR : Addr) (Tt : List (Addr × Str)) : TS := tSeq (tIfS (tOr (tTest (tOp (rOwn C (sp_Table___eq__ C) E0 true) (tVar 13) (tVar 14))) (tTest (tOp (rOwn C (sp_Table___eq__ C) E0 true) (tCallK (sp_hiddenG C) sw2 E0 tNil (tCons (tVar 6) (tCons (tVar 5) tNil))) (tVar 14)))) (tRet (tC (.bl false))) tNext) (t_turn_7 K C CP CB CR Tt)
def t_turn_5 (K : PySem.W.Frag) (C CP CB CR : Addr) (Tt : List (Addr × Str)) : TS := tSeq (tPar 13 14 (tCons (tCall (sp_hiddenG C) [] E0 (tCons (tVar 5) (tCons (tVar 6) tNil))) (tCons (tIf (tB (tIsN (tVar 11))) (tCall (sp_nothing C) [] E0 (tCons (tVar 12) tNil)) (tMake C (sp_Table___init__ C) [] E0 (tCons (tVar 12) (tCons (tVar 11) tNil)))) tNil))) (t_turn_6 K C CP CB CR Tt)
def t_turn_4 (K : PySem.W.Frag) (C CP CB CR : Addr) (Tt : List (Addr × Str)) : TS := tSeq (tPar 11 12 (tCons (tCall (sp__law_left C) [] E0 (tCons (tVar 4) (tCons (tVar 3) (tCons (tVar 6) tNil)))) (tCons (tOp rSubI (tVar 3) (tCB (cLen K) (tCons (tVar 6) tNil))) tNil))) (t_turn_5 K C CP CB CR Tt)
def t_turn_3 (K : PySem.W.Frag) (C CP CB CR : Addr) (Tt : List (Addr × Str)) : TS := tSeq (tAsg (tCB (cTupleOf K) (tCons (tCB (rSorted K) (tCons (tSl (rSlL K) (tCall (sp__law_mixed K C) [] E0 (tCons (tVar 1) (tCons (tLstRg (tRg2 (tC (.int 1)) (tOp rAddI (tVar 3) (tC (.int 1))))) tNil))) tNoPart (tPart (tCall spDraw [] E0 (tCons (tVar 1) (tCons (tVar 3) tNil))))) tNil)) tNil)) (gName 6)) (t_turn_4 K C CP CB CR Tt)
def t_turn_2 (K : PySem.W.Frag) (C CP CB CR : Addr) (Tt : List (Addr × Str)) : TS := tSeq (tAsg (tMake C (sp_Table___init__ C) [] E0 (tCons (tVar 3) (tCons (tVar 4) tNil))) (gName 5)) (t_turn_3 K C CP CB CR Tt)
def t_turn_1 (K : PySem.W.Frag) (C CP CB CR : Addr) (Tt : List (Addr × Str)) : TS := tSeq (tAsg (tCall (sp_capsW C) [] E0 (tCons (tVar 1) (tCons (tVar 3) (tCons (tCall (spPick K) [] E0 (tCons (tVar 1) (tCons (tLst (tCons (tC (.int 1)) (tCons (tC (.int 2)) (tCons (tC (.int 4)) tNil)))) tNil))) (tCons (tCall (spPick K) [] E0 (tCons (tVar 1) (tCons (tLst (tCons (tC (.int 5)) (tCons (tOp rPowI (tC (.int 10)) (tC (.int 9))) tNil))) tNil))) tNil))))) (gName 4)) (t_turn_2 K C CP CB CR Tt)
def t_turn_0 (K : PySem.W.Frag) (C CP CB CR : Addr) (Tt : List (Addr × Str)) : TS := tSeq (tAsg (tOp rAddI (tC (.int 1)) (tCall spDraw [] E0 (tCons (tVar 1) (tCons (tC (.int 6)) tNil)))) (gName 3)) (t_turn_1 K C CP CB CR Tt)
def t_law08_2 (K : PySem.W.Frag) (C CP CB CR : Addr) (Tt : List (Addr × Str)) : TS := (tRet (tC (.bl true)))
def t_law08_1 (K : PySem.W.Frag) (C CP CB CR : Addr) (Tt : List (Addr × Str)) : TS := tSeq (tFor (iRng1 (tCons (tOp rAddI (tC (.int 4)) (tCB rMin2 (tCons (tCB (cLen K) (tCons (tVar 0) tNil)) (tCons (tC (.int 12)) tNil)))) tNil)) (gName 2) (t_turn_0 K C CP CB CR Tt)) (t_law08_2 K C CP CB CR Tt)
def t_law08_0 (K : PySem.W.Frag) (C CP CB CR : Addr) (Tt : List (Addr × Str)) : TS := tSeq (tAsg (tCall (spBegun K) [] E0 (tCons (tVar 0) tNil)) (gName 1)) (t_law08_1 K C CP CB CR Tt)
end Bw
/-! The law of hidden points: what is refused. -/
namespace Bw
open PySem PySem.Spec PyProof.Rows L2 Evl
open LamX (ExtN Tabs)
/-- what is known of the classes of errors -/
structure ErrF (K : PySem.W.Frag) (CP CB CR : Addr) : Prop where
  exP : ExcC K CP
  kitP : PySem.W.kitOne K (.ref CP) (.ref CP) = some true
  exmP : PySem.W.exmOne K (.ref CP) (.ref CR) = some true
  exB : ExcC K CB
  kitB : PySem.W.kitOne K (.ref CB) (.ref CB) = some true
  exmB : PySem.W.exmOne K (.ref CB) (.ref CR) = some true
  xfB : XfC K CB
  noB : PySem.W.findIn K (.ref CB) "part" = some none
section
variable {K : PySem.W.Frag} {C CP CB CR : Addr} {Tt : List (Addr × Str)} {σ : L2.St} {H : Hp} {ta tb tc te : TE} {D : Ends} {t n m : Nat} {E : List Edge}
theorem TabAt.extN {H' : Hp} (T : TabAt C H t n E) (e : ExtN H H') : TabAt C H' t n E := by
  obtain ⟨dx, d, h1, h2, r⟩ := T
  exact ⟨dx, d, e _ _ h1 (fun _ => nofun), e _ _ h2 (fun _ => nofun), r⟩
theorem tabs_ex {H' : Hp} (h : Tabs Tt H) (e : Ex H H') : Tabs Tt H' := fun p hp => (h p hp).ext e
/-- a value told before and behind a lambda's call -/
def NoHideN (K : PySem.W.Frag) (C : Addr) (n : Nat) (H : Hp) (v : V) : Prop := ∀ H', ExtN H H' → NoHide K n H' v ∧ NoTab K C H' v
/-- _law_caught(lambda: hidden(made, odd)) -/
theorem caught_P (F : ErrF K CP CB CR) {v : V} {Q : VK} {i j : Nat} (T : Tabs Tt H) (hi : σ[i]? = some (some (.ref t))) (hj : σ[j]? = some (some v)) (TA : TabAt C H t n E) (hv : NoHideN K C n H v)
    (k : ∀ e H2, ExtN H H2 → Tabs Tt H2 → H2 e = some (ExcK (.ref CP) none e) → Q (.ref e) H2) :
    LamX.tLam Tt (TCaught K CR) (fun X => tCallS (spHidBadP K C CP) (WE fun cls d _ H => X cls d H) (tCons (tVar i) (tCons (tVar j) tNil))) σ H Q := by
  refine ⟨T, fun H1 e1 T1 => ?_⟩
  unfold TCaught tCallS tCons
  refine (ev_var hi : Ev (tVar i) σ H1 (.ref t)) H1 (Ex.refl _) _ fun H2 e2 => ?_
  refine (ev_var hj : Ev (tVar j) σ H2 v) H2 (Ex.refl _) _ fun H3 e3 => ?_
  have e23 := e2.trans e3
  have eN := e1.trans (ExtN.of e23)
  refine ⟨t, v, n, E, rfl, TA.extN eN, (hv H3 eN).1, fun H4 e4 => ⟨F.exmP, fun e he => ?_⟩⟩
  have e24 := e23.trans e4
  have eX : Ex H4 (upd H4 e (ExcK (.ref CP) none e)) := Ex.new he
  exact k e _ (e1.trans (ExtN.of (e24.trans eX))) (tabs_ex T1 (e24.trans eX)) upd_same
/-- _law_caught(lambda: hidden(odd, odd)) -/
theorem caught_T (F : ErrF K CP CB CR) {v : V} {Q : VK} {j : Nat} (T : Tabs Tt H) (hj : σ[j]? = some (some v)) (hv : ∀ H', ExtN H H' → NoTab K C H' v)
    (k : ∀ e d H2, ExtN H H2 → Tabs Tt H2 → H2 e = some (ExcK (.ref CB) (some d) e) → H2 d = some (.xd [("part", .non)]) → Q (.ref e) H2) :
    LamX.tLam Tt (TCaught K CR) (fun X => tCallS (spHidBadT K C CB) (WE fun cls d _ H => X cls d H) (tCons (tVar j) (tCons (tVar j) tNil))) σ H Q := by
  refine ⟨T, fun H1 e1 T1 => ?_⟩
  unfold TCaught tCallS tCons
  refine (ev_var hj : Ev (tVar j) σ H1 v) H1 (Ex.refl _) _ fun H2 e2 => ?_
  refine (ev_var hj : Ev (tVar j) σ H2 v) H2 (Ex.refl _) _ fun H3 e3 => ?_
  have e23 := e2.trans e3
  refine ⟨v, v, rfl, hv H3 (e1.trans (ExtN.of e23)), fun d H4 e4 hd => ⟨F.exmB, fun e he => ?_⟩⟩
  have eD : Ex H4 (upd H4 d (.xd [("part", .non)])) := Ex.new hd
  have eX : Ex (upd H4 d (.xd [("part", .non)])) (upd (upd H4 d (.xd [("part", .non)])) e (ExcK (.ref CB) (some d) e)) := Ex.new he
  have all := e23.trans (e4.trans (eD.trans eX))
  exact k e d _ (e1.trans (ExtN.of all)) (tabs_ex T1 all) upd_same (eX _ _ upd_same)
theorem ev_isP (F : ErrF K CP CB CR) {e : Addr} (h : H e = some (ExcK (.ref CP) none e)) : RC (rIsK K) [.ref e, .ref CP] H (.bl true) := fun H1 e1 Q q =>
  ⟨e, CP, none, .ref CP, .ref CP, true, rfl, e1 _ _ h, (fun _ z => nomatch z), F.exP, (fun _ z => z), F.kitP, q H1 (Ex.refl _)⟩
theorem ev_isB (F : ErrF K CP CB CR) {e d : Addr} (h : H e = some (ExcK (.ref CB) (some d) e)) (hd : H d = some (.xd [("part", .non)])) : RC (rIsK K) [.ref e, .ref CB] H (.bl true) := fun H1 e1 Q q =>
  ⟨e, CB, some d, .ref CB, .ref CB, true, rfl, e1 _ _ h, (fun dd z => by cases z; exact ⟨_, e1 _ _ hd⟩), F.exB, (fun _ z => z), F.kitB, q H1 (Ex.refl _)⟩
/-- the slots behind a turn: the script, the source, the turn; no names of comprehensions are held -/
structure SlotT (sc st : V) (σ : L2.St) : Prop where
  s0 : σ[0]? = some (some sc)
  s1 : σ[1]? = some (some st)
  ln : σ.length = 18
  s16 : σ[16]? = some none
  s17 : σ[17]? = some none
/-- the refusals at the end of a turn -/
theorem pure_T12 (F : ErrF K CP CB CR) {sc st v : V} (T : Tabs Tt H) (h0 : σ[0]? = some (some sc)) (h1 : σ[1]? = some (some st)) (hl : σ.length = 18) (h16 : σ[16]? = some none) (h17 : σ[17]? = some none) (h5 : σ[5]? = some (some (.ref t))) (h9 : σ[9]? = some (some v)) (TA : TabAt C H t n E) (hv : NoHideN K C n H v)
    (k : ∀ σ' H2, SlotT sc st σ' → ExtN H H2 → Tabs Tt H2 → D.nx σ' H2) : t_turn_12 K C CP CB CR Tt D σ H := by
  unfold t_turn_12 tSeq tIfS
  unfold tNot tB tCB tCons tNil
  refine caught_P F T h5 h9 TA hv fun e H2 eN T2 he => ?_
  refine (ev_c : Ev (tC (.ref CP)) σ H2 (.ref CP)) H2 (Ex.refl _) _ fun H3 e3 => ?_

  refine ev_isP F (e3 _ _ he) H3 (Ex.refl _) _ fun H4 e4 => ⟨true, rfl, ?_⟩
  refine iteF ?_
  have eN4 : ExtN H H4 := eN.trans (ExtN.of (e3.trans e4))
  show t_turn_13 K C CP CB CR Tt D σ H4
  unfold t_turn_13 tSeq tAsg
  refine caught_T F (tabs_ex T2 (e3.trans e4)) h9 (fun H' e' => (hv H' (eN4.trans e')).2) fun e' d H5 eN5 T5 he5 hd5 => ?_
  have h10 : (σ.set 10 (some (.ref e')))[10]? = some (some (.ref e')) := by
    rw [List.getElem?_set_self (by omega)]
  show t_turn_14 K C CP CB CR Tt D (σ.set 10 (some (.ref e'))) H5
  have part : Ev (tNotN (tXk K "part" (tVar 10))) (σ.set 10 (some (.ref e'))) H5 (.bl false) := fun H6 e6 Q q => by
    unfold tNotN tXk
    refine (ev_var h10 : Ev (tVar 10) _ H6 (.ref e')) H6 (Ex.refl _) _ fun H7 e7 => ?_
    exact ⟨e', CB, d, _, .non, rfl, (e6.trans e7) _ _ he5, (e6.trans e7) _ _ hd5, F.xfB, F.noB, rfl, q H7 e7⟩
  refine s_when (b := !true || false) (et_or (a := !true) (et_not (et_B (ev_cb (ea_cons (ev_var h10) (ea_cons ev_c ea_nil)) (ev_isB F he5 hd5)))) fun _ => et_B part) (fun z => nomatch z) fun _ H6 e6 => ?_
  refine k _ H6 ⟨?_, ?_, ?_, ?_, ?_⟩ (eN4.trans (eN5.trans (ExtN.of e6))) (tabs_ex T5 e6)
  · rw [List.getElem?_set_ne (by decide)]; exact h0
  · rw [List.getElem?_set_ne (by decide)]; exact h1
  · rw [List.length_set]; exact hl
  · rw [List.getElem?_set_ne (by decide)]; exact h16
  · rw [List.getElem?_set_ne (by decide)]; exact h17
end
end Bw
/-! The law of hidden points: the odd values. -/
namespace Bw
open PySem PySem.Spec PyProof.Rows L2 Evl
open LamX (ExtN Tabs)
structure KitF (K : PySem.W.Frag) (C : Addr) : Prop where
  kn : PySem.W.kitOne K (.type "NoneType") (.ref C) = some false
  kl : PySem.W.kitOne K (.type "list") (.ref C) = some false
  kt : PySem.W.kitOne K (.type "tuple") (.ref C) = some false
  ki : PySem.W.kitOne K (.type "int") (.ref C) = some false
section
variable {K : PySem.W.Frag} {C CP CB CR : Addr} {Tt : List (Addr × Str)} {σ : L2.St} {H : Hp} {ta tb tc te : TE} {ta' : TA} {D : Ends} {t n m : Nat} {E : List Edge}
theorem odd_non (F : KitF K C) : NoHideN K C n H .non := fun H' _ => ⟨Or.inl ⟨"NoneType", fun _ _ => .base .non, kit_ty (by decide +kernel)⟩, _, fun _ _ => .base .non, F.kn⟩
theorem odd_int (F : KitF K C) {i : Int} : NoHideN K C n H (.int i) := fun H' _ => ⟨Or.inl ⟨"int", fun _ _ => .base (.int i), kit_ty (by decide +kernel)⟩, _, fun _ _ => .base (.int i), F.ki⟩
theorem odd_lst (F : KitF K C) {p : Addr} {xs : List V} (h : H p = some (.lst xs)) : NoHideN K C n H (.ref p) := fun H' e => by
  have h' := e _ _ h fun _ => nofun
  exact ⟨Or.inl ⟨"list", fun H1 e1 => .base (.lst (e1 _ _ h')), kit_ty (by decide +kernel)⟩, _, fun H1 e1 => .base (.lst (e1 _ _ h')), F.kl⟩
theorem odd_tup (F : KitF K C) {p : Addr} {xs : List V} (h : H p = some (.tup xs)) (hl : xs.length ≤ 13) (hs : ∀ x ∈ xs, Simp x) (hx : n ≤ xs.length ∨ xs.all (btw 1 (n : Int)) = false ∨ ∃ is : List Int, xs = intL is ∧ (List.zipWith (fun i j => decide (i < j)) is (is.drop 1)).all id = false) : NoHideN K C n H (.ref p) := fun H' e => by
  have h' := e _ _ h fun _ => nofun
  exact ⟨Or.inr ⟨p, xs, rfl, h', hl, hs, hx⟩, _, fun H1 e1 => ty_tup (e1 _ _ h'), F.kt⟩
theorem NoHideN.ext {H' : Hp} {v : V} (h : NoHideN K C n H v) (e : ExtN H H') : NoHideN K C n H' v := fun H2 e2 => h H2 (e.trans e2)
theorem simp_ints (is : List Int) : ∀ x ∈ intL is, Simp x := fun x hx => by
  obtain ⟨i, _, rfl⟩ := List.mem_map.mp hx
  exact True.intro
theorem lst_go {Q : VK} (h : ta' σ H fun vs H1 => vs.length ≤ sizeLine ∧ ∀ p, H1 p = none → Q (.ref p) (upd H1 p (.lst vs))) : tLst ta' σ H Q := h
/-- [None, [1], (0,), ..] -/
theorem odds_made (F : KitF K C) {Q : VK} {st lg : Addr} (hst : H st ≠ none) (hlg : H lg ≠ none) (h3 : σ[3]? = some (some (.int (n : Int)))) (n2 : n ≤ 12)
    (q : ∀ p xs H2, Ex H H2 → H p = none → H2 p = some (.lst xs) → 0 < xs.length → xs.length ≤ 1000 → p ≠ st → p ≠ lg → (∀ x ∈ xs, ∀ H', (∀ b o, b ≠ st → b ≠ lg → H2 b = some o → H' b = some o) → NoHideN K C n H' x) → Q (.ref p) H2) :
    tLst (tCons (tC .non) (tCons (tLst (tCons (tC (.int 1)) tNil)) (tCons (tTup (tCons (tC (.int 0)) tNil)) (tCons (tTup (tCons (tOp rAddI (tVar 3) (tC (.int 1))) tNil)) (tCons (tTup (tCons (tC (.int 1)) (tCons (tC (.int 1)) tNil))) (tCons (tTup (tCons (tC (.int 2)) (tCons (tC (.int 1)) tNil))) (tCons (tTup (tCons (tC (.bl true)) tNil)) (tCons (tTup (tCons (tC (.str "1")) tNil)) (tCons (tTupRg (tRg2 (tC (.int 1)) (tOp rAddI (tVar 3) (tC (.int 1))))) (tCons (tC (.int 1)) tNil)))))))))) σ H Q := by
  have v3 : ∀ H1, Ev (tOp rAddI (tVar 3) (tC (.int 1))) σ H1 (.int ((n : Int) + 1)) := fun H1 => ev_op (ev_var h3) ev_c rv_I0
  have off : ∀ {p : Addr} {H1 : Hp}, Ex H H1 → H1 p = none → p ≠ st ∧ p ≠ lg := fun {p H1} e hp => ⟨fun z => hst (by rw [← z]; exact fresh_back e hp), fun z => hlg (by rw [← z]; exact fresh_back e hp)⟩
  have one : ∀ (tl : TA) (H1 : Hp) (R : List V → Hp → Prop) (te : TE) (x : V), Ev te σ H1 x → (∀ H2, Ex H1 H2 → tl σ H2 fun xs H3 => R (x :: xs) H3) → tCons te tl σ H1 R := fun tl H1 R te x h k => h H1 (Ex.refl _) _ fun H2 e2 => k H2 e2
  have tupU : ∀ (tl : TA) (H1 : Hp) (R : List V → Hp → Prop) (te : TE) (xs : List V), Ex H H1 → EvU te σ H1 xs → (∀ p H2, Ex H1 H2 → p ≠ st ∧ p ≠ lg → H2 p = some (.tup xs) → tl σ H2 fun ys H3 => R (.ref p :: ys) H3) → tCons te tl σ H1 R := fun tl H1 R te xs eH h k => h H1 (Ex.refl _) _ fun p H2 h0 e2 hp => k p H2 e2 (off eH h0) hp
  have small : ∀ k : Nat, k ≤ 2 → k ≤ 100000 := fun k h => Nat.le_trans h (by decide)
  have lstU : ∀ (tl : TA) (H1 : Hp) (R : List V → Hp → Prop) (te : TE) (xs : List V), Ex H H1 → EvL te σ H1 xs → (∀ p H2, Ex H1 H2 → p ≠ st ∧ p ≠ lg → H2 p = some (.lst xs) → tl σ H2 fun ys H3 => R (.ref p :: ys) H3) → tCons te tl σ H1 R := fun tl H1 R te xs eH h k => h H1 (Ex.refl _) _ fun p H2 h0 e2 hp => k p H2 e2 (off eH h0) hp
  have rgU : ∀ (tl : TA) (H1 : Hp) (R : List V → Hp → Prop) (ta tb : TE) (a b : Int), Ev ta σ H1 (.int a) → Ev tb σ H1 (.int b) → Ex H H1 → RgOk a b → (∀ p H2, Ex H1 H2 → p ≠ st ∧ p ≠ lg → H2 p = some (.tup (rgV a b)) → tl σ H2 fun ys H3 => R (.ref p :: ys) H3) → tCons (tTupRg (tRg2 ta tb)) tl σ H1 R := fun tl H1 R ta tb a b ha hb eH ok k => ha H1 (Ex.refl _) _ fun H2 e2 => hb H2 e2 _ fun H3 e3 => ⟨a, b, rfl, rfl, ok, fun p hp => k p _ (e2.trans (e3.trans (Ex.new hp))) (off (eH.trans (e2.trans e3)) hp) upd_same⟩
  refine lst_go ?_
  refine one _ _ _ _ .non ev_c fun H1 e1 => ?_
  refine lstU _ _ _ _ [.int 1] e1 (el_lst (ea_cons ev_c ea_nil) (small 1 (by decide))) fun p1 H2 e2 b1 a1 => ?_
  have y2 := e1.trans e2
  refine tupU _ _ _ _ [.int 0] y2 (eu_tup (ea_cons ev_c ea_nil) (small 1 (by decide))) fun p2 H3 e3 b2 a2 => ?_
  have y3 := y2.trans e3
  refine tupU _ _ _ _ [.int ((n : Int) + 1)] y3 (eu_tup (ea_cons (v3 _) ea_nil) (small 1 (by decide))) fun p3 H4 e4 b3 a3 => ?_
  have y4 := y3.trans e4
  refine tupU _ _ _ _ [.int 1, .int 1] y4 (eu_tup (ea_cons ev_c (ea_cons ev_c ea_nil)) (small 2 (by decide))) fun p4 H5 e5 b4 a4 => ?_
  have y5 := y4.trans e5
  refine tupU _ _ _ _ [.int 2, .int 1] y5 (eu_tup (ea_cons ev_c (ea_cons ev_c ea_nil)) (small 2 (by decide))) fun p5 H6 e6 b5 a5 => ?_
  have y6 := y5.trans e6
  refine tupU _ _ _ _ [.bl true] y6 (eu_tup (ea_cons ev_c ea_nil) (small 1 (by decide))) fun p6 H7 e7 b6 a6 => ?_
  have y7 := y6.trans e7
  refine tupU _ _ _ _ [.str "1"] y7 (eu_tup (ea_cons ev_c ea_nil) (small 1 (by decide))) fun p7 H8 e8 b7 a7 => ?_
  have y8 := y7.trans e8
  refine rgU _ _ _ _ _ 1 ((n : Int) + 1) ev_c (v3 _) y8 (RgOk.of_le (by decide) (by omega) (by decide) (by omega)) fun p8 H9 e9 b8 a8 => ?_
  refine one _ _ _ _ (.int 1) ev_c fun H10 e11 => ?_
  have x9 := e11
  have x8 := e9.trans x9
  have x7 := e8.trans x8
  have x6 := e7.trans x7
  have x5 := e6.trans x6
  have x4 := e5.trans x5
  have x3 := e4.trans x4
  have x2 := e3.trans x3
  have x1 := e2.trans x2
  refine ⟨by show 10 ≤ sizeLine; decide, fun p hp => ?_⟩
  have eP : Ex H10 (upd H10 p (.lst [.non, .ref p1, .ref p2, .ref p3, .ref p4, .ref p5, .ref p6, .ref p7, .ref p8, .int 1])) := Ex.new hp
  refine q p _ _ (e1.trans (x1.trans eP)) (fresh_back (e1.trans x1) hp) upd_same (show 0 < 10 by decide) (show 10 ≤ 1000 by decide) (off (e1.trans x1) hp).1 (off (e1.trans x1) hp).2 fun x hx H' B => ?_
  have s1 : ∀ i : Int, ∀ x ∈ [V.int i], Simp x := fun i => simp_ints [i]
  rcases List.mem_cons.mp hx with rfl | hx
  · exact odd_non F
  rcases List.mem_cons.mp hx with rfl | hx
  · exact odd_lst F (B _ _ b1.1 b1.2 ((x2.trans eP) _ _ a1))
  rcases List.mem_cons.mp hx with rfl | hx
  · exact odd_tup F (B _ _ b2.1 b2.2 ((x3.trans eP) _ _ a2)) (by decide) (s1 0) (Or.inr (Or.inl rfl))
  rcases List.mem_cons.mp hx with rfl | hx
  · refine odd_tup F (B _ _ b3.1 b3.2 ((x4.trans eP) _ _ a3)) (show 1 ≤ 13 by decide) (s1 _) (Or.inr (Or.inl ?_))
    show ((decide ((1 : Int) ≤ (n : Int) + 1) && decide ((n : Int) + 1 ≤ (n : Int))) && true) = false
    rw [decide_eq_false (show ¬ ((n : Int) + 1 ≤ (n : Int)) by omega), Bool.and_false]
    rfl
  rcases List.mem_cons.mp hx with rfl | hx
  · exact odd_tup F (B _ _ b4.1 b4.2 ((x5.trans eP) _ _ a4)) (by decide) (simp_ints [1, 1]) (Or.inr (Or.inr ⟨[1, 1], rfl, rfl⟩))
  rcases List.mem_cons.mp hx with rfl | hx
  · exact odd_tup F (B _ _ b5.1 b5.2 ((x6.trans eP) _ _ a5)) (by decide) (simp_ints [2, 1]) (Or.inr (Or.inr ⟨[2, 1], rfl, rfl⟩))
  rcases List.mem_cons.mp hx with rfl | hx
  · exact odd_tup F (B _ _ b6.1 b6.2 ((x7.trans eP) _ _ a6)) (by decide) (fun x hx => by rw [List.mem_singleton.mp hx]; exact True.intro) (Or.inr (Or.inl rfl))
  rcases List.mem_cons.mp hx with rfl | hx
  · exact odd_tup F (B _ _ b7.1 b7.2 ((x8.trans eP) _ _ a7)) (by decide) (fun x hx => by rw [List.mem_singleton.mp hx]; exact True.intro) (Or.inr (Or.inl rfl))
  rcases List.mem_cons.mp hx with rfl | hx
  · have er : rgV 1 ((n : Int) + 1) = intL ((List.range ((n : Int) + 1 - 1).toNat).map fun i : Nat => 1 + (i : Int)) := by
      unfold rgV
      exact (List.map_map ..).symm
    have ln : (rgV 1 ((n : Int) + 1)).length = n := by rw [rgV_length]; omega
    exact odd_tup F (B _ _ b8.1 b8.2 ((x9.trans eP) _ _ a8)) (by omega) (by rw [er]; exact simp_ints _) (Or.inl (by omega))
  · rw [List.mem_singleton.mp hx]
    exact odd_int F
end
end Bw
/-! The law of hidden points: from the met waters to the turn's end. -/
namespace Bw
open PySem PySem.Spec PyProof.Rows L2 Evl
open LamX (ExtN Tabs)
section
variable {K : PySem.W.Frag} {C CP CB CR : Addr} {Tt : List (Addr × Str)} {σ : L2.St} {H : Hp} {ta tb tc te : TE} {D : Ends} {t n m d : Nat} {E E' : List Edge} {st lg cs : Addr} {ps : List Nat}
theorem tabs_but {H' : Hp} (T : Tabs Tt H) (S : Src H st lg cs d) (B : But H H' st lg) : Tabs Tt H' := fun p hp => by
  obtain ⟨qs, h1, h2, h3⟩ := T p hp
  obtain ⟨⟨large, cells, r, t', g1, g2, g3, g4⟩, nl⟩ := S
  refine ⟨qs, B _ _ h1 (fun z => by rw [z, g1] at h1; exact nomatch h1) (fun z => by rw [z, g2] at h1; exact nomatch h1), h2, fun pos cv hc => ?_⟩
  obtain ⟨c, e, hco⟩ := h3 pos cv hc
  exact ⟨c, e, B _ _ hco (fun z => by rw [z, g1] at hco; exact nomatch hco) fun z => by rw [z, g2] at hco; exact nomatch hco⟩
theorem src_extN {H' : Hp} (S : Src H st lg cs d) (e : ExtN H H') : Src H' st lg cs d := by
  obtain ⟨⟨large, cells, r, t', g1, g2, g3, g4⟩, nl⟩ := S
  exact ⟨⟨large, cells, r, t', e _ _ g1 (fun _ => nofun), e _ _ g2 (fun _ => nofun), e _ _ g3 (fun _ => nofun), g4⟩, nl⟩
theorem tab_but {H' : Hp} (TA : TabAt C H t n E) (S : Src H st lg cs d) (B : But H H' st lg) : TabAt C H' t n E := by
  obtain ⟨dx, b, h1, h2, r⟩ := TA
  obtain ⟨⟨large, cells, r', t', g1, g2, g3, g4⟩, nl⟩ := S
  exact ⟨dx, b, B _ _ h1 (fun z => by rw [z, g1] at h1; exact nomatch h1) (fun z => by rw [z, g2] at h1; exact nomatch h1), B _ _ h2 (fun z => by rw [z, g1] at h2; exact nomatch h2) (fun z => by rw [z, g2] at h2; exact nomatch h2), r⟩
/-- from the odd values on -/
theorem pure_H10 (F : ErrF K CP CB CR) (G : KitF K C) {sc : V} (T : Tabs Tt H) (S : Src H st lg cs d) (hd : d < 2 ^ 40) (h0 : σ[0]? = some (some sc)) (h1 : σ[1]? = some (some (.ref st))) (hl : σ.length = 18) (h16 : σ[16]? = some none) (h17 : σ[17]? = some none) (h3 : σ[3]? = some (some (.int (n : Int)))) (h5 : σ[5]? = some (some (.ref t))) (TA : TabAt C H t n E)
    (k : ∀ σ' H2, SlotT sc (.ref st) σ' → Src H2 st lg cs (d + 1) → Tabs Tt H2 → D.nx σ' H2) : t_turn_10 K C CP CB CR Tt D σ H := by
  obtain ⟨_, _, n1, n2⟩ := TA.good
  unfold t_turn_10 tSeq tAsg
  refine odds_made (n := n) G (st := st) (lg := lg) S.some_.1 S.some_.2 h3 n2 fun p xs H2 e2 hp hx l1 l2 ns nl hN => ?_
  show t_turn_11 K C CP CB CR Tt D (σ.set 8 (some (.ref p))) H2
  have g8 : (σ.set 8 (some (.ref p)))[8]? = some (some (.ref p)) := List.getElem?_set_self (by omega)
  have g1 : (σ.set 8 (some (.ref p)))[1]? = some (some (.ref st)) := by rw [List.getElem?_set_ne (by decide)]; exact h1
  unfold t_turn_11 tSeq tAsg tCall
  unfold tCons tNil
  refine (ev_var g1 : Ev (tVar 1) _ H2 (.ref st)) H2 (Ex.refl _) _ fun H3 e3 => ?_
  refine (ev_var g8 : Ev (tVar 8) _ H3 (.ref p)) H3 (Ex.refl _) _ fun H4 e4 => ?_
  have e24 := e3.trans e4
  have S4 := S.lift (e2.trans e24)
  refine ⟨st, lg, cs, p, xs, d, rfl, sq_of (e24 _ _ hx), ns, nl, l1, by omega, hd, S4, fun v H5 hv S5 B5 => ?_⟩
  show t_turn_12 K C CP CB CR Tt D ((σ.set 8 (some (.ref p))).set 9 (some v)) H5
  have ne : ∀ i, i ≠ 8 → i ≠ 9 → ((σ.set 8 (some (.ref p))).set 9 (some v))[i]? = σ[i]? := fun i a b => by rw [List.getElem?_set_ne (fun z => b z.symm), List.getElem?_set_ne (fun z => a z.symm)]
  refine pure_T12 F (tabs_but (tabs_ex T (e2.trans e24)) S4 B5) (by rw [ne 0 (by decide) (by decide)]; exact h0) (by rw [ne 1 (by decide) (by decide)]; exact h1) (by rw [List.length_set, List.length_set]; exact hl) (by rw [ne 16 (by decide) (by decide)]; exact h16) (by rw [ne 17 (by decide) (by decide)]; exact h17) (by rw [ne 5 (by decide) (by decide)]; exact h5) (List.getElem?_set_self (by rw [List.length_set]; omega)) (tab_but (TA.ex (e2.trans e24)) S4 B5)
    (hN v hv H5 fun b o b1 b2 hb => B5 b o (e24 _ _ hb) b1 b2) fun σ' H6 sl eN T6 => k σ' H6 sl (src_extN S5 eN) T6
/-- whether what is left is met -/
theorem pure_H9 (F : ErrF K CP CB CR) (G : KitF K C) {sc : V} {c p u : Addr} (T : Tabs Tt H) (S : Src H st lg cs d) (hd : d < 2 ^ 40) (h0 : σ[0]? = some (some sc)) (h1 : σ[1]? = some (some (.ref st))) (hl : σ.length = 18) (h16 : σ[16]? = some none) (h17 : σ[17]? = some none) (h3 : σ[3]? = some (some (.int (n : Int)))) (h4 : σ[4]? = some (some (.ref c))) (h5 : σ[5]? = some (some (.ref t))) (h6 : σ[6]? = some (some (.ref p))) (h13 : σ[13]? = some (some (.ref u)))
    {Et : List Edge} (TA : TabAt C H t n Et) (hc : H c = some (.dT (E.map kvE))) (gE : GoodE (n + 1) E) (nE : (E.map ekey).Nodup) (hp : H p = some (.tup (natL ps))) (ok : OkP n ps) (hm : m + 1 = (kept n ps).length) (U : TabAt C H u m E') (hid : HidE n m E ps E')
    (k : ∀ σ' H2, SlotT sc (.ref st) σ' → Src H2 st lg cs (d + 1) → Tabs Tt H2 → D.nx σ' H2) : t_turn_9 K C CP CB CR Tt D σ H := by
  obtain ⟨_, _, n1, n2⟩ := TA.good
  unfold t_turn_9
  refine q_when (b := !true) (et_not (et_B (ev_callV (ea_cons (ev_var h4) (ea_cons (ev_var h3) (ea_cons (ev_var h6) (ea_cons (ev_var h13) ea_nil)))) fun H1 e1 => ⟨c, p, u, n, m, E, E', ps, rfl, e1 _ _ hc, gE, nE, n1, n2, e1 _ _ hp, ok, hm, U.ex e1, hid, rfl⟩))) (fun z => nomatch z) fun _ H1 e1 => ?_
  exact pure_H10 F G (tabs_ex T e1) (S.lift e1) hd h0 h1 hl h16 h17 h3 h5 (TA.ex e1) k
end
end Bw
/-! The law of hidden points: a water that is told fits what is left. -/
namespace Bw
open PySem PySem.Spec PyProof.Rows L2 Evl
open LamX (ExtN Tabs)
section
variable {K : PySem.W.Frag} {C CP CB CR : Addr} {Tt : List (Addr × Str)} {σ : L2.St} {H : Hp} {ta tb tc te : TE} {D : Ends} {t n m d : Nat} {E E' : List Edge} {st lg cs : Addr} {ps : List Nat}
/-- the sums at the points that are left -/
abbrev lvs (n : Nat) (ps : List Nat) (xs : List Int) : List Int := (kept n ps).map fun i => (pre xs).getD i 0
/-- [sums(pool)[point] for point in range(many + 1) if point not in spots] -/
theorem el_lvs {w p : Addr} {xs : List Int} (h3 : (wipe σ [16])[3]? = some (some (.int (n : Int)))) (h3' : σ[3]? = some (some (.int (n : Int)))) (h6 : ∀ x, ((wipe σ [16]).set 16 (some x))[6]? = some (some (.ref p))) (h7 : ∀ x, ((wipe σ [16]).set 16 (some x))[7]? = some (some (.ref w))) (h16 : ∀ x, ((wipe σ [16]).set 16 (some x))[16]? = some (some x)) (hw : ∀ x, wipe ((wipe σ [16]).set 16 (some x)) [16] = wipe σ [16])
    (hp : H p = some (.tup (natL ps))) (hx : H w = some (.tup (intL xs))) (lx : xs.length = n) (n1 : 1 ≤ n) (n2 : n ≤ 12) :
    EvL (tLc (iRng1 (tCons (tOp rAddI (tVar 3) (tC (.int 1))) tNil)) (gName 16) (tTest (tOp (rIn K true) (tVar 16) (tVar 6))) (tOp (rIxT K) (tCall (sp_sums C) [] E0 (tCons (tVar 7) tNil)) (tVar 16)) [16]) σ H (intL (lvs n ps xs)) := by
  have gv : given (n + 1) (fun i => !(inV (.int (i : Int)) (natL ps))) (fun i => .int ((pre xs).getD i 0)) = intL (lvs n ps xs) := by
    unfold given lvs kept
    refine Eq.trans (congrArg (List.map _) (List.filter_congr fun i _ => ?_)) (List.map_map ..).symm
    rw [in_nats]
  rw [← gv]
  have := el_lcR1 (σ := σ) (H := H) (ta := tCons (tOp rAddI (tVar 3) (tC (.int 1))) tNil) (te := tOp (rIxT K) (tCall (sp_sums C) [] E0 (tCons (tVar 7) tNil)) (tVar 16)) (t := tTest (tOp (rIn K true) (tVar 16) (tVar 6))) (j := 16) (vs := [16]) (n := ((n + 1 : Nat) : Int)) (fun i => !(inV (.int (i : Int)) (natL ps))) (fun i => .int ((pre xs).getD i 0))
    (ea_cons (ev_is (ev_op (ev_var h3') ev_c rv_I0) rfl) ea_nil) (by omega) hw (fun i H3 e3 _ => et_test (ev_op (ev_var (h16 _)) (ev_var (h6 _)) (rv_niT (st_of (e3 _ _ hp)) rfl (flat_nats ps)))) (fun i H3 e3 hi _ => fun H4 e4 Q q => by
      unfold tOp
      refine (evp_call (P := isT (intL (pre xs))) (ea_cons (ev_var (h7 _)) ea_nil) fun H5 e5 => ⟨w, xs, rfl, (e3.trans (e4.trans e5)) _ _ hx, by omega, by omega, rfl⟩) H4 (Ex.refl _) _ fun v H5 e5 ⟨r, hv, hr⟩ => ?_
      subst hv
      refine (ev_var (h16 _) : Ev (tVar 16) _ H5 (.int (i : Int))) H5 (Ex.refl _) _ fun H6 e6 => ?_
      have hl := preA_length 0 xs
      have hi2 : i < (pre xs).length := by
        have : i < n + 1 := by omega
        show i < (preA 0 xs).length
        omega
      refine ⟨r, _, (i : Int), .int ((pre xs).getD i 0), rfl, rfl, st_of (e6 _ _ hr), atI_nat ?_, q H6 (e5.trans e6)⟩
      rw [List.getElem?_map, List.getElem?_eq_getElem hi2, List.getD_eq_getElem?_getD, List.getElem?_eq_getElem hi2]
      rfl)
  rw [Int.toNat_natCast] at this
  exact this
theorem lvs_fit {xs : List Int} (hm : m + 1 = (kept n ps).length) (hid : HidE n m E ps E') (f : FitE n E fun i => (pre xs).getD i 0) : FitE m E' fun i => (pre (difs (lvs n ps xs))).getD i 0 := by
  rcases hid with ⟨no, _⟩ | ⟨M, Cl, fit, mm⟩
  · exact absurd f (no _)
  · have fM := (fit _).mp f
    have len : (lvs n ps xs).length = m + 1 := by rw [List.length_map, hm]
    obtain ⟨y, r, e⟩ : ∃ y r, lvs n ps xs = y :: r := by
      cases z : lvs n ps xs with
      | nil => rw [z] at len; exact nomatch len
      | cons y r => exact ⟨y, r, rfl⟩
    have lr : r.length = m := by rw [e, List.length_cons] at len; omega
    have at_ : ∀ i, i < m + 1 → (lvs n ps xs).getD i 0 = (pre xs).getD ((kept n ps).getD i 0) 0 := fun i hi => by
      rw [List.getD_eq_getElem?_getD, List.getElem?_map, (kept_lt (by omega)).2]
      rfl
    have lv : ∀ i, i < m + 1 → (pre (difs (lvs n ps xs))).getD i 0 = (pre xs).getD ((kept n ps).getD i 0) 0 - y := fun i hi => by
      have := lev_difs y r i (by omega)
      rw [← e] at this
      rw [← at_ i hi]
      exact this
    intro a b x ha hb hx
    show (pre (difs (lvs n ps xs))).getD a 0 - (pre (difs (lvs n ps xs))).getD b 0 ≤ x
    rw [lv a ha, lv b hb]
    by_cases c : a = b
    · subst c
      have hx : (if a = a then some 0 else lookE E' a a) = some x := hx
      rw [if_pos rfl] at hx
      cases hx
      omega
    · rw [mm a b ha hb c] at hx
      have : (pre xs).getD ((kept n ps).getD a 0) 0 - (pre xs).getD ((kept n ps).getD b 0) 0 ≤ x := fM _ _ x (kept_lt (n := n) (ps := ps) (i := a) (by omega)).1 (kept_lt (n := n) (ps := ps) (i := b) (by omega)).1 hx
      omega
end
end Bw
/-! The law of hidden points: from the told water on. -/
namespace Bw
open PySem PySem.Spec PyProof.Rows L2 Evl
open LamX (ExtN Tabs)
section
variable {K : PySem.W.Frag} {C CP CB CR : Addr} {Tt : List (Addr × Str)} {σ : L2.St} {H : Hp} {ta tb tc te : TE} {D : Ends} {t n m d : Nat} {E E' : List Edge} {st lg cs : Addr} {ps : List Nat}
/-- the slots of a turn -/
abbrev sTn (sc st : V) (v2 : Option V) (n c t p pool : V) (v8 v9 v10 v11 : Option V) (m u : V) (v14 v15 : Option V) : L2.St := [some sc, some st, v2, some n, some c, some t, some p, some pool, v8, v9, v10, v11, some m, some u, v14, v15, none, none]
theorem pure_H8 (F : ErrF K CP CB CR) (G : KitF K C) {sc pool : V} {v2 v8 v9 v10 v11 v14 v15 : Option V} {c p u : Addr} (T : Tabs Tt H) (S : Src H st lg cs d) (hd : d < 2 ^ 40)
    {Et : List Edge} (TA : TabAt C H t n Et) (hc : H c = some (.dT (E.map kvE))) (gE : GoodE (n + 1) E) (nE : (E.map ekey).Nodup) (hp : H p = some (.tup (natL ps))) (ok : OkP n ps) (hm : m + 1 = (kept n ps).length) (U : TabAt C H u m E') (hid : HidE n m E ps E')
    (hpool : (pool = .non ∧ ∀ s, ¬ FitE n E s) ∨ ∃ w xs, pool = .ref w ∧ H w = some (.tup (intL xs)) ∧ xs.length = n ∧ FitE n E fun i => (pre xs).getD i 0)
    (k : ∀ σ' H2, SlotT sc (.ref st) σ' → Src H2 st lg cs (d + 1) → Tabs Tt H2 → D.nx σ' H2) :
    t_turn_8 K C CP CB CR Tt D (sTn sc (.ref st) v2 (.int (n : Int)) (.ref c) (.ref t) (.ref p) pool v8 v9 v10 v11 (.int (m : Int)) (.ref u) v14 v15) H := by
  obtain ⟨_, _, n1, n2⟩ := TA.good
  have kl := kept_len ok
  unfold t_turn_8
  rcases hpool with ⟨rfl, _⟩ | ⟨w, xs, rfl, hw, lx, fx⟩
  · refine q_when (b := false) (et_B (ev_notN (v := .non) (ev_var rfl))) (fun z => nomatch z) fun _ H1 e1 => ?_
    exact pure_H9 F G (tabs_ex T e1) (S.lift e1) hd rfl rfl rfl rfl rfl rfl rfl rfl rfl rfl (TA.ex e1) (e1 _ _ hc) gE nE (e1 _ _ hp) ok hm (U.ex e1) hid k
  · refine q_when (b := true) (et_B (ev_notN (v := .ref w) (ev_var rfl))) (fun _ H1 e1 => ?_) fun z => nomatch z
    have len : (lvs n ps xs).length = m + 1 := by rw [List.length_map, hm]
    refine q_asgL (el_lvs (n := n) (ps := ps) (w := w) (p := p) (xs := xs) rfl rfl (fun _ => rfl) (fun _ => rfl) (fun _ => rfl) (fun _ => rfl) (e1 _ _ hp) (e1 _ _ hw) lx n1 n2) fun l H2 hl0 e2 h2 => ?_
    have e12 := e1.trans e2
    show tIfS _ _ _ _ (sTn sc (.ref st) v2 (.int (n : Int)) (.ref c) (.ref t) (.ref p) (.ref w) v8 v9 v10 v11 (.int (m : Int)) (.ref u) v14 (some (.ref l))) H2
    have inner : EvL (tLc (iRng1 (tCons (tVar 12) tNil)) (gName 17) tYes (tOp rSubI (tOp (rIxL K) (tVar 15) (tOp rAddI (tVar 17) (tC (.int 1)))) (tOp (rIxL K) (tVar 15) (tVar 17))) [17]) (sTn sc (.ref st) v2 (.int (n : Int)) (.ref c) (.ref t) (.ref p) (.ref w) v8 v9 v10 v11 (.int (m : Int)) (.ref u) v14 (some (.ref l))) H2 (intL (difs (lvs n ps xs))) := by
      have := el_lcR1 (σ := sTn sc (.ref st) v2 (.int (n : Int)) (.ref c) (.ref t) (.ref p) (.ref w) v8 v9 v10 v11 (.int (m : Int)) (.ref u) v14 (some (.ref l))) (H := H2) (ta := tCons (tVar 12) tNil) (te := tOp rSubI (tOp (rIxL K) (tVar 15) (tOp rAddI (tVar 17) (tC (.int 1)))) (tOp (rIxL K) (tVar 15) (tVar 17))) (t := tYes) (j := 17) (vs := [17]) (n := (m : Int)) (fun _ => true) (fun i => V.int ((lvs n ps xs).getD (i + 1) 0 - (lvs n ps xs).getD i 0))
        (ea_cons (ev_var rfl) ea_nil) (by omega) (fun _ => rfl) (fun i H3 e3 hi => et_yes) (fun i H3 e3 hi _ => by
          have hi2 : i < m := by omega
          have i1 : (i : Int) + 1 = ((i + 1 : Nat) : Int) := by omega
          refine ev_op (ev_op (ev_var rfl) (ev_is (ev_op (ev_var rfl) ev_c rv_I0) (show V.int ((i : Int) + 1) = V.int ((i + 1 : Nat) : Int) by rw [i1])) (rv_ixL (sq_of (e3 _ _ h2)) (atI_nat (getD_at (by omega))))) (ev_op (ev_var rfl) (ev_var rfl) (rv_ixL (sq_of (e3 _ _ h2)) (atI_nat (getD_at (by omega))))) rv_I0)
      rw [given_all, Int.toNat_natCast, difs_at (lvs n ps xs) m len] at this
      exact this
    have U2 := U.ex e12
    have lD : (difs (lvs n ps xs)).length = m := by
      cases z : lvs n ps xs with
      | nil => rw [z] at len; exact nomatch len
      | cons y r => rw [difs_len]; rw [z, List.length_cons] at len; omega
    have fin : fitsB E' (pre (difs (lvs n ps xs))) = true := (fitsB_iff U2 (difs (lvs n ps xs))).mpr (lvs_fit hm hid fx)
    have call : Ev (tMeth C "fits" (sp_Table_fits C) [] E0 (tVar 13) (tCons (tCB (cTupleOf K) (tCons (tLc (iRng1 (tCons (tVar 12) tNil)) (gName 17) tYes (tOp rSubI (tOp (rIxL K) (tVar 15) (tOp rAddI (tVar 17) (tC (.int 1)))) (tOp (rIxL K) (tVar 15) (tVar 17))) [17]) tNil)) tNil)) (sTn sc (.ref st) v2 (.int (n : Int)) (.ref c) (.ref t) (.ref p) (.ref w) v8 v9 v10 v11 (.int (m : Int)) (.ref u) v14 (some (.ref l))) H2 (.bl true) := by
      intro H3 e3 R r
      refine ⟨.ref u, rfl, ?_⟩
      have T3 := U2.ex e3
      obtain ⟨dx, d', t1, _⟩ := id T3
      refine ⟨u, dx, _, rfl, t1, ?_, eu_tupleOfN inner H3 e3 _ fun q H4 hq e4 h4 => ?_⟩
      · rw [List.lookup_cons, List.lookup_cons]
        have h1 : (("fits" : Str) == ("_size" : Str)) = false := by decide +kernel
        have h2 : (("fits" : Str) == ("_bounds" : Str)) = false := by decide +kernel
        rw [h1, h2]
        rfl
      · refine ⟨isV (.bl (fitsB E' (pre (difs (lvs n ps xs))))), ⟨u, q, m, E', difs (lvs n ps xs), rfl, T3.ex e4, h4, lD, rfl⟩, fun v H5 e5 hv => ?_⟩
        rw [show v = .bl (fitsB E' (pre (difs (lvs n ps xs)))) from hv, fin]
        exact r H5 (e4.trans e5)
    refine s_when (b := !true) (et_not (et_B call)) (fun z => nomatch z) fun _ H3 e3 => ?_
    have e13 := e12.trans e3
    exact pure_H9 F G (tabs_ex T e13) (S.lift e13) hd rfl rfl rfl rfl rfl rfl rfl rfl rfl rfl (TA.ex e13) (e13 _ _ hc) gE nE (e13 _ _ hp) ok hm (U.ex e13) hid k
end
end Bw
/-! The law of hidden points: from the two tables on. -/
namespace Bw
open PySem PySem.Spec PyProof.Rows L2 Evl
open LamX (ExtN Tabs)
section
variable {K : PySem.W.Frag} {C CP CB CR : Addr} {Tt : List (Addr × Str)} {σ : L2.St} {H : Hp} {ta tb tc te : TE} {D : Ends} {t n m d : Nat} {E E1 E2 : List Edge} {st lg cs : Addr} {ps : List Nat}
theorem hid_fit {Et E1 : List Edge} (h : ∀ s, FitE n Et s ↔ FitE n E s) (x : HidE n m Et ps E1) : HidE n m E ps E1 := by
  rcases x with ⟨no, p⟩ | ⟨M, c, f, mm⟩
  · exact Or.inl ⟨fun s f => no s ((h s).mpr f), p⟩
  · exact Or.inr ⟨M, c, fun s => (h s).symm.trans (f s), mm⟩
theorem rv_ne {u w : Addr} (U : TabAt C H u m E1) (W : TabAt C H w m E2) (h : sameB m m E1 E2 = true) : RV (rOwn C (sp_Table___eq__ C) E0 true) (.ref u) (.ref w) H (.bl false) := fun H1 e1 Q q => by
  have U1 := U.ex e1
  have W1 := W.ex e1
  obtain ⟨dx, b, u1, -⟩ := id U1
  obtain ⟨dy, b', w1, -⟩ := id W1
  refine ⟨u, w, dx, dy, _, _, true, rfl, rfl, u1, w1, ⟨isV (.bl (sameB m m E1 E2)), ⟨u, w, m, m, E1, E2, rfl, U1, W1, rfl⟩, fun v H2 e2 hv => ⟨?_, e2⟩⟩, fun H' e' => q H' e'⟩
  rw [show v = .bl (sameB m m E1 E2) from hv, h]
theorem pure_H7 (F : ErrF K CP CB CR) (G : KitF K C) {sc v7 : V} {v2 v8 v9 v10 v11 v14 v15 : Option V} {c p u : Addr} (T : Tabs Tt H) (S : Src H st lg cs d) (hd : d < 2 ^ 40)
    {Et : List Edge} (TA : TabAt C H t n Et) (hfit : ∀ s, FitE n Et s ↔ FitE n E s) (hc : H c = some (.dT (E.map kvE))) (gE : GoodE (n + 1) E) (nE : (E.map ekey).Nodup) (hp : H p = some (.tup (natL ps))) (ok : OkP n ps) (hm : m + 1 = (kept n ps).length) (U : TabAt C H u m E1) (hid : HidE n m E ps E1) {o7 : Option V}
    (k : ∀ σ' H2, SlotT sc (.ref st) σ' → Src H2 st lg cs (d + 1) → Tabs Tt H2 → D.nx σ' H2) :
    t_turn_7 K C CP CB CR Tt D [some sc, some (.ref st), v2, some (.int (n : Int)), some (.ref c), some (.ref t), some (.ref p), o7, v8, v9, v10, v11, some (.int (m : Int)), some (.ref u), v14, v15, none, none] H := by
  unfold t_turn_7
  refine q_pasg (evp_call (ea_cons (ev_var rfl) ea_nil) fun H1 e1 => ⟨t, n, Et, rfl, TA.ex e1, rfl⟩) fun v H1 e1 hv => ?_
  have hv : (v = .non ∧ ∀ s, ¬ FitE n E s) ∨ ∃ w xs, v = .ref w ∧ H1 w = some (.tup (intL xs)) ∧ xs.length = n ∧ FitE n E fun i => (pre xs).getD i 0 := by
    rcases hv with ⟨h, no⟩ | ⟨w, xs, h1, h2, h3, f⟩
    · exact Or.inl ⟨h, fun s f => no s ((hfit s).mpr f)⟩
    · exact Or.inr ⟨w, xs, h1, h2, h3, (hfit _).mp f⟩
  show t_turn_8 K C CP CB CR Tt D (sTn sc (.ref st) v2 (.int (n : Int)) (.ref c) (.ref t) (.ref p) v v8 v9 v10 v11 (.int (m : Int)) (.ref u) v14 v15) H1
  exact pure_H8 F G (tabs_ex T e1) (S.lift e1) hd (TA.ex e1) (e1 _ _ hc) gE nE (e1 _ _ hp) ok hm (U.ex e1) hid hv k
theorem pure_H6 (F : ErrF K CP CB CR) (G : KitF K C) {sc : V} {v2 v8 v9 v10 v11 v15 : Option V} {c p u w : Addr} (T : Tabs Tt H) (S : Src H st lg cs d) (hd : d < 2 ^ 40)
    {Et : List Edge} (TA : TabAt C H t n Et) (hfit : ∀ s, FitE n Et s ↔ FitE n E s) (hc : H c = some (.dT (E.map kvE))) (gE : GoodE (n + 1) E) (nE : (E.map ekey).Nodup) (hp : H p = some (.tup (natL ps))) (ok : OkP n ps) (hm : m + 1 = (kept n ps).length) (U : TabAt C H u m E1) (hid : HidE n m E ps E1) (W : TabAt C H w m E2) (hidW : HidE n m E ps E2) {o7 : Option V}
    (k : ∀ σ' H2, SlotT sc (.ref st) σ' → Src H2 st lg cs (d + 1) → Tabs Tt H2 → D.nx σ' H2) :
    t_turn_6 K C CP CB CR Tt D [some sc, some (.ref st), v2, some (.int (n : Int)), some (.ref c), some (.ref t), some (.ref p), o7, v8, v9, v10, v11, some (.int (m : Int)), some (.ref u), some (.ref w), v15, none, none] H := by
  unfold t_turn_6
  obtain ⟨gW, nW, -, -⟩ := W.good
  obtain ⟨gU, nU, -, -⟩ := U.good
  refine q_when (b := false || false) (et_or (a := false) (et_test (ev_op (ev_var rfl) (ev_var rfl) (rv_ne U W (hid_same hm gU gW nU nW hid hidW)))) fun _ => et_test fun H1 e1 Q q => ?_) (fun z => nomatch z) fun _ H1 e1 => ?_
  · unfold tOp tCallK tCons tNil
    refine (ev_var rfl : Ev (tVar 6) _ H1 (.ref p)) H1 (Ex.refl _) _ fun H2 e2 => ?_
    refine (ev_var rfl : Ev (tVar 5) _ H2 (.ref t)) H2 (Ex.refl _) _ fun H3 e3 => ?_
    have e13 := e1.trans (e2.trans e3)
    show sp_hiddenG C [.ref t, .ref p] H3 _ E0
    refine ⟨HidP C n Et ps, ⟨t, p, ps, n, Et, rfl, TA.ex e13, e13 _ _ hp, ok, rfl⟩, fun v H4 e4 hv => ?_⟩
    obtain ⟨u', m', E', rfl, hm', U', hid'⟩ := hv
    have em : m' = m := by omega
    subst em
    obtain ⟨gU', nU', -, -⟩ := U'.good
    refine (ev_var rfl : Ev (tVar 14) _ H4 (.ref w)) H4 (Ex.refl _) _ fun H5 e5 => ?_
    exact rv_ne (U'.ex e5) (W.ex (e13.trans (e4.trans e5))) (hid_same hm gU' gW nU' nW (hid_fit hfit hid') hidW) H5 (Ex.refl _) _ fun H6 e6 => q H6 ((e2.trans e3).trans (e4.trans (e5.trans e6)))
  · exact pure_H7 F G (v7 := .non) (tabs_ex T e1) (S.lift e1) hd (TA.ex e1) hfit (e1 _ _ hc) gE nE (e1 _ _ hp) ok hm (U.ex e1) hid k
end
end Bw
/-! The law of hidden points: the two tables made. -/
namespace Bw
open PySem PySem.Spec PyProof.Rows L2 Evl
open LamX (ExtN Tabs)
section
variable {K : PySem.W.Frag} {C CP CB CR : Addr} {Tt : List (Addr × Str)} {σ : L2.St} {H : Hp} {ta tb tc te : TE} {D : Ends} {t n m d : Nat} {E E1 E2 : List Edge} {st lg cs : Addr} {ps : List Nat}
theorem pure_H5 (F : ErrF K CP CB CR) (G : KitF K C) {sc due : V} {v2 v7 v8 v9 v10 v13 v14 v15 : Option V} {c p : Addr} {H0 : Hp} (T : Tabs Tt H) (S : Src H st lg cs d) (hd : d < 2 ^ 40)
    {Et : List Edge} (TA : TabAt C H t n Et) (hfit : ∀ s, FitE n Et s ↔ FitE n E s) (hc : H c = some (.dT (E.map kvE))) (gE : GoodE (n + 1) E) (nE : (E.map ekey).Nodup) (hp : H p = some (.tup (natL ps))) (ok : OkP n ps) (hm : m + 1 = (kept n ps).length) (hdue : LeftP n E ps H0 due H)
    (k : ∀ σ' H2, SlotT sc (.ref st) σ' → Src H2 st lg cs (d + 1) → Tabs Tt H2 → D.nx σ' H2) :
    t_turn_5 K C CP CB CR Tt D [some sc, some (.ref st), v2, some (.int (n : Int)), some (.ref c), some (.ref t), some (.ref p), v7, v8, v9, v10, some due, some (.int (m : Int)), v13, v14, v15, none, none] H := by
  have kl := kept_len ok
  have few := ok.few
  obtain ⟨_, _, n1, n2⟩ := TA.good
  unfold t_turn_5 tSeq tPar
  refine (evp_call (ea_cons (ev_var rfl) (ea_cons (ev_var rfl) ea_nil)) fun H1 e1 => ⟨t, p, ps, n, Et, rfl, TA.ex e1, e1 _ _ hp, ok, rfl⟩) H (Ex.refl _) _ fun v H1 e1 hv => ?_
  obtain ⟨u, m', E1, rfl, hm', U, hid0⟩ := hv
  have hid := hid_fit hfit hid0
  have em : m' = m := by omega
  subst em
  have fin : ∀ (w : Addr) (H2 : Hp) (E2 : List Edge), Ex H1 H2 → TabAt C H2 w m' E2 → HidE n m' E ps E2 → ∃ v w', [V.ref u, V.ref w] = [v, w'] ∧ t_turn_6 K C CP CB CR Tt D (([some sc, some (.ref st), v2, some (.int (n : Int)), some (.ref c), some (.ref t), some (.ref p), v7, v8, v9, v10, some due, some (.int (m' : Int)), v13, v14, v15, none, none].set 13 (some v)).set 14 (some w')) H2 := fun w H2 E2 e2 W hidW => by
    refine ⟨_, _, rfl, ?_⟩
    have e12 := e1.trans e2
    exact pure_H6 F G (tabs_ex T e12) (S.lift e12) hd (TA.ex e12) hfit (e12 _ _ hc) gE nE (e12 _ _ hp) ok hm (U.ex e2) hid W hidW k
  rcases hdue with ⟨rfl, hno⟩ | ⟨g, G', mm, rfl, hg0, hg, hmm, gG, nG, M, Cl, fit, mat⟩
  · unfold tIf tCons tNil
    refine et_B (ev_isN (v := .non) (ev_var rfl)) H1 (Ex.refl _) _ fun H2 e2 => ?_
    refine iteT ?_
    refine (evp_call (P := fun v H2 => ∃ t E, v = .ref t ∧ TabAt C H2 t m' E ∧ E.Perm E0n) (ea_cons (ev_var rfl) ea_nil) fun H3 e3 => ⟨m', rfl, by omega, by omega, rfl⟩) H2 (Ex.refl _) _ fun v H3 e3 hv => ?_
    obtain ⟨w, E2, rfl, W, pm⟩ := hv
    exact fin w H3 E2 (e2.trans e3) W (Or.inl ⟨hno, pm⟩)
  · have em2 : mm = m' := by omega
    subst em2
    unfold tIf tCons tNil
    refine et_B (ev_isN (v := .ref g) (ev_var rfl)) H1 (Ex.refl _) _ fun H2 e2 => ?_
    refine iteF ?_
    have g2 := (e1.trans e2) _ _ hg
    have args : EvA (tCons (tVar 12) (tCons (tVar 11) tNil)) [some sc, some (.ref st), v2, some (.int (n : Int)), some (.ref c), some (.ref t), some (.ref p), v7, v8, v9, v10, some (.ref g), some (.int (mm : Int)), v13, v14, v15, none, none] H2 [.int (mm : Int), .ref g] := ea_cons (ev_var rfl) (ea_cons (ev_var rfl) ea_nil)
    refine make_tab (H := H2) (E := G') (n := mm) (fun R s => args H2 (Ex.refl _) _ fun H3 e3 => s g H3 e3 (e3 _ _ g2)) gG nG (by omega) (by omega) (lenG gG nG (by omega) (by omega)) fun x H3 E2 e3 W pm => ?_
    exact fin x H3 E2 (e2.trans e3) W (Or.inr ⟨M, Cl, fit, hid_perm nG pm mat⟩)
theorem pure_H4 (F : ErrF K CP CB CR) (G : KitF K C) {sc : V} {v2 v7 v8 v9 v10 v11 v12 v13 v14 v15 : Option V} {c p : Addr} (T : Tabs Tt H) (S : Src H st lg cs d) (hd : d < 2 ^ 40)
    {Et : List Edge} (TA : TabAt C H t n Et) (hfit : ∀ s, FitE n Et s ↔ FitE n E s) (hc : H c = some (.dT (E.map kvE))) (gE : GoodE (n + 1) E) (nE : (E.map ekey).Nodup) (hp : H p = some (.tup (natL ps))) (ok : OkP n ps)
    (k : ∀ σ' H2, SlotT sc (.ref st) σ' → Src H2 st lg cs (d + 1) → Tabs Tt H2 → D.nx σ' H2) :
    t_turn_4 K C CP CB CR Tt D [some sc, some (.ref st), v2, some (.int (n : Int)), some (.ref c), some (.ref t), some (.ref p), v7, v8, v9, v10, v11, v12, v13, v14, v15, none, none] H := by
  have kl := kept_len ok
  have few := ok.few
  obtain ⟨_, _, n1, n2⟩ := TA.good
  obtain ⟨m, hm⟩ : ∃ m, m + 1 = (kept n ps).length := ⟨(kept n ps).length - 1, by omega⟩
  unfold t_turn_4 tSeq tPar
  refine (evp_call (P := LeftP n E ps H) (ea_cons (ev_var rfl) (ea_cons (ev_var rfl) (ea_cons (ev_var rfl) ea_nil))) fun H1 e1 => ⟨c, p, n, E, ps, H, e1, rfl, e1 _ _ hc, gE, nE, n1, n2, e1 _ _ hp, ok, rfl⟩) H (Ex.refl _) _ fun v H1 e1 hv => ?_
  have sz : Ev (tOp rSubI (tVar 3) (tCB (cLen K) (tCons (tVar 6) tNil))) [some sc, some (.ref st), v2, some (.int (n : Int)), some (.ref c), some (.ref t), some (.ref p), v7, v8, v9, v10, v11, v12, v13, v14, v15, none, none] H1 (.int (m : Int)) := by
    refine ev_is (ev_op (ev_var rfl) (ev_lenT (ev_var rfl) (st_of (e1 _ _ hp))) rv_I0) ?_
    rw [List.length_map]
    congr 1
    omega
  refine sz H1 (Ex.refl _) _ fun H2 e2 => ⟨_, _, rfl, ?_⟩
  have e12 := e1.trans e2
  have hv2 : LeftP n E ps H v H2 := by
    rcases hv with h | ⟨g, G', mm, h1, h2, h3, r⟩
    · exact Or.inl h
    · exact Or.inr ⟨g, G', mm, h1, h2, e2 _ _ h3, r⟩
  exact pure_H5 F G (tabs_ex T e12) (S.lift e12) hd (TA.ex e12) hfit (e12 _ _ hc) gE nE (e12 _ _ hp) ok hm hv2 k
end
end Bw
/-! The law of hidden points: the points drawn. -/
namespace Bw
open PySem PySem.Spec PyProof.Rows L2 Evl
open LamX (ExtN Tabs)
section
variable {K : PySem.W.Frag} {C CP CB CR : Addr} {Tt : List (Addr × Str)} {σ : L2.St} {H : Hp} {ta tb tc te : TE} {D : Ends} {t n m d : Nat} {E E1 E2 : List Edge} {st lg cs : Addr} {ps : List Nat}
def pts (n : Nat) : List Nat := (List.range n).map fun i => i + 1
theorem pts_mem {p : Nat} : p ∈ pts n ↔ 1 ≤ p ∧ p ≤ n := by
  unfold pts
  rw [List.mem_map]
  constructor
  · rintro ⟨i, hi, rfl⟩
    have := List.mem_range.mp hi
    omega
  · rintro ⟨h1, h2⟩
    exact ⟨p - 1, List.mem_range.mpr (by omega), by omega⟩
theorem pts_nd : (pts n).Nodup := by
  unfold pts
  refine List.Pairwise.map _ (fun a b h => ?_) List.nodup_range
  intro z
  exact h (by omega)
theorem pts_rg : rgV 1 ((n : Int) + 1) = natL (pts n) := by
  unfold rgV pts
  have e : ((n : Int) + 1 - 1).toNat = n := by omega
  rw [e]
  show _ = List.map (fun x : Nat => V.int (x : Int)) (List.map (fun i => i + 1) (List.range n))
  rw [List.map_map]
  refine List.map_congr_left fun i _ => ?_
  show V.int (1 + (i : Int)) = V.int (((i + 1 : Nat)) : Int)
  congr 1
  omega
theorem okp_of {ys ps : List Nat} {r : Nat} (py : ys.Perm (pts n)) (pp : ps.Perm (ys.take r)) (hr : r < n) (asc : (ps.map fun i : Nat => (i : Int)).Pairwise (· ≤ ·)) : OkP n ps := by
  have nd : ps.Nodup := pp.nodup_iff.mpr ((py.nodup_iff.mpr pts_nd).sublist (List.take_sublist r ys))
  refine ⟨fun p hp => ?_, ?_, ?_⟩
  · exact pts_mem.mp (py.mem_iff.mp ((List.take_sublist r ys).subset (pp.mem_iff.mp hp)))
  · have a1 : ps.Pairwise fun (a b : Nat) => (a : Int) ≤ (b : Int) := List.pairwise_map.mp asc
    exact (List.Pairwise.and a1 nd).imp fun h => by
      obtain ⟨h1, h2⟩ := h
      omega
  · rw [pp.length_eq, List.length_take]
    omega
theorem pure_H3 (F : ErrF K CP CB CR) (G : KitF K C) {sc : V} {v2 v6 v7 v8 v9 v10 v11 v12 v13 v14 v15 : Option V} {c : Addr} (T : Tabs Tt H) (S : Src H st lg cs d) (hd : d < 2 ^ 29)
    {Et : List Edge} (TA : TabAt C H t n Et) (hfit : ∀ s, FitE n Et s ↔ FitE n E s) (hc : H c = some (.dT (E.map kvE))) (gE : GoodE (n + 1) E) (nE : (E.map ekey).Nodup)
    (k : ∀ σ' H2, SlotT sc (.ref st) σ' → Src H2 st lg cs (d + 22) → Tabs Tt H2 → D.nx σ' H2) :
    t_turn_3 K C CP CB CR Tt D [some sc, some (.ref st), v2, some (.int (n : Int)), some (.ref c), some (.ref t), v6, v7, v8, v9, v10, v11, v12, v13, v14, v15, none, none] H := by
  obtain ⟨_, _, n1, n2⟩ := TA.good
  unfold t_turn_3 tSeq tAsg
  generalize hs : ([some sc, some (.ref st), v2, some (.int (n : Int)), some (.ref c), some (.ref t), v6, v7, v8, v9, v10, v11, v12, v13, v14, v15, none, none] : L2.St) = σ0
  have v1 : ∀ H, Ev (tVar 1) σ0 H (.ref st) := fun H => by subst hs; exact ev_var rfl
  have v3 : ∀ H, Ev (tVar 3) σ0 H (.int (n : Int)) := fun H => by subst hs; exact ev_var rfl
  unfold tCB
  unfold tCons tSl
  unfold tCall tNil tLstRg tRg2 tNoPart tPart
  refine (v1 H) H (Ex.refl _) _ fun H1 e1 => ?_
  refine (ev_c : Ev (tC (.int 1)) σ0 H1 (.int 1)) H1 (Ex.refl _) _ fun H2 e2 => ?_
  refine (ev_op (v3 H2) ev_c rv_I0 : Ev (tOp rAddI (tVar 3) (tC (.int 1))) σ0 H2 (.int ((n : Int) + 1))) H2 (Ex.refl _) _ fun H3 e3 => ?_
  refine ⟨1, (n : Int) + 1, rfl, rfl, RgOk.of_le (by decide) (by omega) (by decide) (by omega), fun q hq => ?_⟩
  have e03 := e1.trans (e2.trans e3)
  have eq_ : Ex H3 (upd H3 q (.lst (rgV 1 ((n : Int) + 1)))) := Ex.new hq
  have eA := e03.trans eq_
  refine ⟨st, lg, cs, q, pts n, d, rfl, by rw [upd_same, pts_rg], by unfold pts; rw [List.length_map, List.length_range]; omega, Nat.lt_of_lt_of_le hd (by decide), S.lift eA, fun f H4 ys py S4 B4 hf h4 => ?_⟩
  have TA4 := tab_but (TA.ex eA) (S.lift eA) B4
  have T4 := tabs_but (tabs_ex T eA) (S.lift eA) B4
  have cB : ∀ {Ha Hb : Hp} {dd : Nat}, Src Ha st lg cs dd → But Ha Hb st lg → Ha c = some (.dT (E.map kvE)) → Hb c = some (.dT (E.map kvE)) := fun S B h => by
    obtain ⟨⟨large, cells, r', t', g1, g2, g3, g4⟩, nl⟩ := S
    exact B _ _ h (fun z => by rw [z, g1] at h; exact nomatch h) fun z => by rw [z, g2] at h; exact nomatch h
  have c4 := cB (S.lift eA) B4 (eA _ _ hc)
  refine (v1 H4) H4 (Ex.refl _) _ fun H5 e5 => ?_
  refine (v3 H5) H5 (Ex.refl _) _ fun H6 e6 => ?_
  have e46 := e5.trans e6
  have S6 := S4.lift e46
  have big1 : n < 2 ^ 100 := Nat.lt_of_le_of_lt n2 (by decide)
  have big2 : d + 20 < 2 ^ 40 := Nat.lt_of_lt_of_le (Nat.add_lt_add_right hd 20) (by decide)
  refine ⟨st, lg, cs, n, d + 20, rfl, by omega, big1, big2, S6, fun r H7 hr S7 B7 => ⟨(r : Int), rfl, ?_⟩⟩
  have TA7 := tab_but (TA4.ex e46) S6 B7
  have T7 := tabs_but (tabs_ex T4 e46) S6 B7
  have c7 := cB S6 B7 (e46 _ _ c4)
  have nf : f ≠ st ∧ f ≠ lg := ⟨fun z => S.some_.1 (by rw [← z]; exact fresh_back eA hf), fun z => S.some_.2 (by rw [← z]; exact fresh_back eA hf)⟩
  have f7 := B7 _ _ (e46 _ _ h4) nf.1 nf.2
  refine ⟨f, natL ys, rfl, sq_of f7, fun p hp => ?_⟩
  have ly : ys.length = n := by rw [py.length_eq]; unfold pts; rw [List.length_map, List.length_range]
  have cut : cutV (natL ys) none (some (r : Int)) = ((ys.take r).map fun i : Nat => (i : Int)).map V.int := by
    unfold cutV
    rw [HT.sIx_none, HT.sIx_nat, List.length_map, List.drop_zero, Nat.sub_zero, Nat.min_eq_left (by omega), ← List.map_take, List.map_map]
    rfl
  refine ⟨p, (ys.take r).map fun i : Nat => (i : Int), rfl, sq_of (by rw [upd_same, cut]), by rw [List.length_map, List.length_take]; omega, fun ns p' pm asc hp' => ?_⟩
  obtain ⟨ps, pp, rfl⟩ := perm_lift (fun i : Nat => (i : Int)) ns (ys.take r) pm
  refine ⟨p', _, rfl, Or.inl ⟨sq_of upd_same, fun l hl => ?_⟩⟩
  have ok := okp_of py pp hr asc
  have eB : Ex H7 (upd (upd (upd H7 p (.lst (cutV (natL ys) none (some (r : Int))))) p' (.lst ((ps.map fun i : Nat => (i : Int)).map V.int))) l (.tup ((ps.map fun i : Nat => (i : Int)).map V.int))) := (Ex.new hp).trans ((Ex.new hp').trans (Ex.new hl))
  have hl2 : (upd (upd (upd H7 p (.lst (cutV (natL ys) none (some (r : Int))))) p' (.lst ((ps.map fun i : Nat => (i : Int)).map V.int))) l (.tup ((ps.map fun i : Nat => (i : Int)).map V.int))) l = some (.tup (natL ps)) := by
    rw [upd_same, List.map_map]
    rfl
  subst hs
  exact pure_H4 F G (tabs_ex T7 eB) (S7.lift eB) (Nat.lt_of_lt_of_le (Nat.add_lt_add_right hd 21) (by decide)) (TA7.ex eB) hfit (eB _ _ c7) gE nE hl2 ok k
end
end Bw
/-! The law of hidden points in full. -/
namespace Bw
open PySem PySem.Spec PyProof.Rows L2 Evl
open LamX (ExtN Tabs)
section
variable {K : PySem.W.Frag} {C CP CB CR : Addr} {Tt : List (Addr × Str)} {σ : L2.St} {H : Hp} {ta tb tc te : TE} {D : Ends} {t n m d : Nat} {E E1 E2 : List Edge} {st lg cs : Addr} {ps : List Nat}
theorem pure_H2 (F : ErrF K CP CB CR) (G : KitF K C) {sc : V} {v2 v5 v6 v7 v8 v9 v10 v11 v12 v13 v14 v15 : Option V} {c : Addr} (T : Tabs Tt H) (S : Src H st lg cs d) (hd : d < 2 ^ 29) (n1 : 1 ≤ n) (n2 : n ≤ 12)
    (hc : H c = some (.dT (E.map kvE))) (gE : GoodE (n + 1) E) (nE : (E.map ekey).Nodup)
    (k : ∀ σ' H2, SlotT sc (.ref st) σ' → Src H2 st lg cs (d + 22) → Tabs Tt H2 → D.nx σ' H2) :
    t_turn_2 K C CP CB CR Tt D [some sc, some (.ref st), v2, some (.int (n : Int)), some (.ref c), v5, v6, v7, v8, v9, v10, v11, v12, v13, v14, v15, none, none] H := by
  unfold t_turn_2 tSeq tAsg
  have args : EvA (tCons (tVar 3) (tCons (tVar 4) tNil)) [some sc, some (.ref st), v2, some (.int (n : Int)), some (.ref c), v5, v6, v7, v8, v9, v10, v11, v12, v13, v14, v15, none, none] H [.int (n : Int), .ref c] := ea_cons (ev_var rfl) (ea_cons (ev_var rfl) ea_nil)
  refine make_tab (H := H) (E := E) (n := n) (fun R s => args H (Ex.refl _) _ fun H3 e3 => s c H3 e3 (e3 _ _ hc)) gE nE n1 n2 (lenG gE nE n1 n2) fun x H2 E' e2 W pm => ?_
  have hfit : ∀ s, FitE n E' s ↔ FitE n E s := fun s => by
    rw [W.fits s, fits_edges nE gE s]
    exact ⟨fun a f hf => a f (pm.mem_iff.mpr hf), fun a f hf => a f (pm.mem_iff.mp hf)⟩
  exact pure_H3 F G (tabs_ex T e2) (S.lift e2) hd W hfit (e2 _ _ hc) gE nE k
theorem call_go {sp : Sp} {ta : TA} {Q : VK} (h : ta σ H fun vs H1 => sp (vs ++ []) H1 Q E0) : tCall sp [] E0 ta σ H Q := h
theorem cons_go {tr : TA} {R : List V → Hp → Prop} (h : te σ H fun x H1 => tr σ H1 fun xs H2 => R (x :: xs) H2) : tCons te tr σ H R := h
theorem nil_go {R : List V → Hp → Prop} (h : R [] H) : tNil σ H R := h
theorem pure_H1 (F : ErrF K CP CB CR) (G : KitF K C) {sc : V} {v2 v4 v5 v6 v7 v8 v9 v10 v11 v12 v13 v14 v15 : Option V} (T : Tabs Tt H) (S : Src H st lg cs d) (hd : d < 2 ^ 28) (n1 : 1 ≤ n) (n2 : n ≤ 12)
    (k : ∀ σ' H2, SlotT sc (.ref st) σ' → Src H2 st lg cs (d + 624) → Tabs Tt H2 → D.nx σ' H2) :
    t_turn_1 K C CP CB CR Tt D [some sc, some (.ref st), v2, some (.int (n : Int)), v4, v5, v6, v7, v8, v9, v10, v11, v12, v13, v14, v15, none, none] H := by
  unfold t_turn_1 tSeq tAsg
  generalize hs : ([some sc, some (.ref st), v2, some (.int (n : Int)), v4, v5, v6, v7, v8, v9, v10, v11, v12, v13, v14, v15, none, none] : L2.St) = σ0
  have v1 : ∀ H, Ev (tVar 1) σ0 H (.ref st) := fun H => by subst hs; exact ev_var rfl
  have v3 : ∀ H, Ev (tVar 3) σ0 H (.int (n : Int)) := fun H => by subst hs; exact ev_var rfl
  have lA : ∀ H, EvL (tLst (tCons (tC (.int 1)) (tCons (tC (.int 2)) (tCons (tC (.int 4)) tNil)))) σ0 H [.int ((1 : Nat) : Int), .int ((2 : Nat) : Int), .int ((4 : Nat) : Int)] := fun H => el_lst (ea_cons ev_c (ea_cons ev_c (ea_cons ev_c ea_nil))) (by show 3 ≤ 100000; decide)
  have lB : ∀ H, EvL (tLst (tCons (tC (.int 5)) (tCons (tOp rPowI (tC (.int 10)) (tC (.int 9))) tNil))) σ0 H [.int ((5 : Nat) : Int), .int ((10 ^ 9 : Nat) : Int)] := fun H => el_lst (ea_cons ev_c (ea_cons (ev_is (ev_op ev_c ev_c (rv_I (C := CPow) ⟨by decide, by decide, by decide⟩)) (by decide)) ea_nil)) (by show 2 ≤ 100000; decide)
  have go : ∀ (k : Nat) (Q : VK) (H : Hp), True := fun _ _ _ => trivial
  have big1 : d < 2 ^ 40 := Nat.lt_of_lt_of_le hd (by decide)
  have big2 : d + 1 < 2 ^ 40 := Nat.lt_of_lt_of_le (Nat.add_lt_add_right hd 1) (by decide)
  have big3 : d + 2 < 2 ^ 30 := Nat.lt_of_lt_of_le (Nat.add_lt_add_right hd 2) (by decide)
  have big4 : d + 2 + 600 < 2 ^ 29 := Nat.lt_of_lt_of_le (Nat.add_lt_add_right hd 602) (by decide)
  refine call_go (cons_go ?_)
  refine (v1 H) H (Ex.refl _) _ fun H1 e1 => cons_go ?_
  refine (v3 H1) H1 (Ex.refl _) _ fun H2 e2 => cons_go ?_
  have e12 := e1.trans e2
  refine b_pick (v1 H2) (lA H2) (Nat.zero_lt_succ _) (show 3 ≤ 1000 by decide) big1 (S.lift e12) fun x H3 hx S3 B3 => cons_go ?_
  refine b_pick (v1 H3) (lB H3) (Nat.zero_lt_succ _) (show 2 ≤ 1000 by decide) big2 S3 fun y H4 hy S4 B4 => nil_go ?_
  obtain ⟨th, rfl, t1, t2⟩ : ∃ k : Nat, x = .int (k : Int) ∧ 0 < k ∧ k ≤ 1000 := by
    rcases List.mem_cons.mp hx with h | hx
    · exact ⟨1, h, by decide, by decide⟩
    · rcases List.mem_cons.mp hx with h | hx
      · exact ⟨2, h, by decide, by decide⟩
      · exact ⟨4, List.mem_singleton.mp hx, by decide, by decide⟩
  obtain ⟨wd, rfl, w2⟩ : ∃ k : Nat, y = .int (k : Int) ∧ k ≤ 2 ^ 40 := by
    rcases List.mem_cons.mp hy with h | hy
    · exact ⟨5, h, by decide⟩
    · exact ⟨10 ^ 9, List.mem_singleton.mp hy, by decide⟩
  refine ⟨st, lg, cs, n, th, wd, d + 2, rfl, n1, n2, w2, t1, t2, big3, S4, fun c H5 E S5 B5 h0 ns nl hc gE nE le => ?_⟩
  subst hs
  exact pure_H2 F G (tabs_but (tabs_but (tabs_but (tabs_ex T e12) (S.lift e12) B3) S3 B4) S4 B5) S5 big4 n1 n2 hc gE nE k
theorem pure_H0 (F : ErrF K CP CB CR) (G : KitF K C) {sc : V} {v2 v3 v4 v5 v6 v7 v8 v9 v10 v11 v12 v13 v14 v15 : Option V} (T : Tabs Tt H) (S : Src H st lg cs d) (hd : d < 2 ^ 27)
    (k : ∀ σ' H2, SlotT sc (.ref st) σ' → Src H2 st lg cs (d + 625) → Tabs Tt H2 → D.nx σ' H2) :
    t_turn_0 K C CP CB CR Tt D [some sc, some (.ref st), v2, v3, v4, v5, v6, v7, v8, v9, v10, v11, v12, v13, v14, v15, none, none] H := by
  unfold t_turn_0 tSeq tAsg tOp
  refine (ev_c : Ev (tC (.int 1)) _ H (.int 1)) H (Ex.refl _) _ fun H1 e1 => ?_
  refine b_drawW (m := 6) (ea_cons (ev_var rfl) (ea_cons ev_c ea_nil)) (by decide) (by decide) (Nat.lt_of_lt_of_le hd (by decide)) (S.lift e1) fun r H2 hr S2 B2 => ?_
  refine ⟨1, (r : Int), rfl, rfl, ?_⟩
  have e : V.int (1 + (r : Int)) = V.int ((1 + r : Nat) : Int) := by
    congr 1
  show t_turn_1 K C CP CB CR Tt D [some sc, some (.ref st), v2, some (.int (1 + (r : Int))), v4, v5, v6, v7, v8, v9, v10, v11, v12, v13, v14, v15, none, none] H2
  rw [e]
  have big : d + 1 < 2 ^ 28 := Nat.lt_of_lt_of_le (Nat.add_lt_add_right hd 1) (by decide)
  exact pure_H1 (n := 1 + r) F G (tabs_but (tabs_ex T e1) (S.lift e1) B2) S2 big (by omega) (by omega) fun σ' H3 s S3 T3 => k σ' H3 s (S3.up (by omega)) T3
theorem slot_list {sc sv : V} : ∀ {σ : L2.St}, SlotT sc sv σ → ∃ v2 v3 v4 v5 v6 v7 v8 v9 v10 v11 v12 v13 v14 v15 : Option V, σ = [some sc, some sv, v2, v3, v4, v5, v6, v7, v8, v9, v10, v11, v12, v13, v14, v15, none, none]
  | [a0, a1, a2, a3, a4, a5, a6, a7, a8, a9, a10, a11, a12, a13, a14, a15, a16, a17], h => by
    have h0 : some a0 = some (some sc) := h.s0
    have h1 : some a1 = some (some sv) := h.s1
    have h16 : some a16 = some none := h.s16
    have h17 : some a17 = some none := h.s17
    cases h0
    cases h1
    cases h16
    cases h17
    exact ⟨a2, a3, a4, a5, a6, a7, a8, a9, a10, a11, a12, a13, a14, a15, rfl⟩
theorem pure_law08 (F : ErrF K CP CB CR) (G : KitF K C) {a : Addr} {ns : List Int} {Q : VK} (T : Tabs Tt H) (hS : SqL K H a (ns.map V.int)) (hl : ns.length ≤ 1000) (q : ∀ H', Q (.bl true) H') :
    t_law08_0 K C CP CB CR Tt (ends Q) [some (.ref a), none, none, none, none, none, none, none, none, none, none, none, none, none, none, none, none, none] H := by
  unfold t_law08_0 tSeq tAsg
  refine (ev_var rfl : Ev (tVar 0) [some (.ref a), none, none, none, none, none, none, none, none, none, none, none, none, none, none, none, none, none] H (.ref a)) H (Ex.refl _) _ fun H1 e1 => ?_
  refine ⟨a, ns, rfl, ex_l e1 hS, hl, fun st lg cs H2 n1 n2 S e2 => ?_⟩
  have cnt : EvA (tCons (tOp rAddI (tC (.int 4)) (tCB rMin2 (tCons (tCB (cLen K) (tCons (tVar 0) tNil)) (tCons (tC (.int 12)) tNil)))) tNil) [some (.ref a), some (.ref st), none, none, none, none, none, none, none, none, none, none, none, none, none, none, none, none] H2 [.int ((4 + min ns.length 12 : Nat) : Int)] := by
    refine ea_cons (ev_is (ev_op ev_c (ev_cb (z := .int (if (12 : Int) < (ns.length : Int) then 12 else (ns.length : Int))) (ea_cons (ev_cb (z := .int (ns.length : Int)) (ea_cons (ev_var rfl) ea_nil) fun H3 e3 Q q => ⟨_, _, rfl, Or.inl ⟨_, ex_l (e1.trans (e2.trans e3)) hS, rfl⟩, ?_⟩) (ea_cons ev_c ea_nil)) fun H3 e3 Q q => ⟨_, _, rfl, q H3 (Ex.refl _)⟩) rv_I0) ?_) ea_nil
    · rw [List.length_map]
      exact q H3 (Ex.refl _)
    · congr 1
      by_cases c : (12 : Int) < (ns.length : Int)
      · rw [if_pos c]
        omega
      · rw [if_neg c]
        omega
  unfold t_law08_1
  have pw : ∀ i : Nat, i ≤ 16 → i * 625 < 2 ^ 27 := fun i hi => Nat.lt_of_le_of_lt (Nat.mul_le_mul_right 625 hi) (by decide)
  refine q_forR1 cnt (by omega) (fun i σ' H' => Src H' st lg cs (i * 625) ∧ Tabs Tt H' ∧ SlotT (.ref a) (.ref st) σ') (fun H3 e3 => ⟨S.lift e3, tabs_ex T (e1.trans (e2.trans e3)), rfl, rfl, rfl, rfl, rfl⟩) (fun i σ' H' hi ⟨S', T', sl⟩ => ?_) (fun σ' H' _ => ?_)
  · obtain ⟨v2, v3, v4, v5, v6, v7, v8, v9, v10, v11, v12, v13, v14, v15, rfl⟩ := slot_list sl
    exact pure_H0 (d := i * 625) (sc := .ref a) (v2 := some (.int (i : Int))) F G T' S' (pw i (by omega)) fun σ2 H2 sl2 S2 T2 => ⟨by rw [Nat.succ_mul]; exact S2, T2, sl2⟩
  · exact q H'
end
end Bw
/-! A head's facts with properties of classes, and with classes asked by isinstance. -/
namespace BwHk
open PySem PySem.Spec PyProof.Rows L2 He
/-- a property: its class, its name, its getter's def -/
structure PrD where
  cls : Str
  f : Str
  d : DefD
def prA (K : PySem.W.Frag) (q : PrD) : Addr := ma K (ga K q.cls) q.f
def prG (K : PySem.W.Frag) (q : PrD) : Addr := match PySem.W.recIn K (prA K q) "property" with
  | some (.ref g :: _) => g
  | _ => 0
def prR (K : PySem.W.Frag) (q : PrD) : Bool := match PySem.W.recIn K (prA K q) "property" with
  | some (.ref _ :: _) => true
  | _ => false
def prW (K : PySem.W.Frag) (q : PrD) : FnW := match K.lookup (prG K q) with
  | some ⟨_, _, .func fd, _⟩ => some (fd.name, fd.qualname, fd.params, fd.body, fd.scope, fd.globals, fd.closure, fd.builtins)
  | _ => none
def prF (K : PySem.W.Frag) (q : PrD) : Bool := match K.lookup (prG K q) with
  | some ⟨_, _, .func fd, _⟩ => PySem.W.codeIn K fd.code q.d.qual && (dflB K fd.defaults [] && kwdB K fd.kwdefaults [])
  | _ => false
def prB (K : PySem.W.Frag) (q : PrD) : Bool := eqO (PySem.W.findIn K (.ref (ga K q.cls)) q.f) (some (some (.ref (prA K q)))) && (eqO (PySem.W.specialIn K (.ref (prA K q)) "__get__") (some (some (.builtin "property.__get__"))) && (decide (PySem.W.takesIn K (.ref (prA K q)) = some true) && (prR K q && (PySem.W.keepIn K (.ref (prG K q)) && prF K q))))
def tyB (K : PySem.W.Frag) (x : Str) : Bool := decide (PySem.W.kitOne K (.ref (ga K x)) (.ref (ga K x)) = some true) && (eqO (PySem.W.findIn K (.ref (ga K x)) "__class__") (some (some (.builtin "object.__class__"))) && (eqO (PySem.W.specialIn K (.builtin "object.__class__") "__get__") (some (some (.builtin "getset_descriptor.__get__"))) && (decide (PySem.W.takesIn K (.builtin "object.__class__") = some true) && decide (PySem.W.mroIn K (ga K x) (.type "object") = some true))))
theorem pr_ok {K : PySem.W.Frag} {q : PrD} (e : prW K q = q.d.val) (c : prB K q = true) : PropOf K (ga K q.cls) q.f (prA K q) (prG K q) ∧ ∃ fd, FunD K q.d.name q.d.qual q.d.params q.d.body q.d.scope [] [] (prG K q) fd := by
  obtain ⟨c1, c⟩ := ba c
  obtain ⟨c2, c⟩ := ba c
  obtain ⟨c3, c⟩ := ba c
  obtain ⟨c4, c⟩ := ba c
  obtain ⟨c5, c6⟩ := ba c
  refine ⟨⟨eqO_ok c1, eqO_ok c2, of_decide_eq_true c3, ?_⟩, ?_⟩
  · unfold prR at c4
    unfold prG
    split at c4
    · rename_i g r hq
      exact ⟨r, by rw [hq]⟩
    · cases c4
  · unfold prF at c6
    unfold prW at e
    cases hl : K.lookup (prG K q) with
    | none =>
      rw [hl] at c6
      cases c6
    | some o =>
      obtain ⟨oc, od, dt, osl⟩ := o
      rw [hl] at c6 e
      cases dt with
      | func fd =>
        obtain ⟨n1, n2, n3, n4, n5, n6, n7, n8, n9, n10, n11, n12, n13, n14, n15⟩ := fd
        have e2 : (some (n1, n2, n3, n4, n5, n6, n7, n15) : FnW) = some (q.d.name, q.d.qual, q.d.params, .stmts q.d.body, q.d.scope, mainGlobals, [], builtinsNs) := e
        injection e2 with e3
        injection e3 with h1 e3
        injection e3 with h2 e3
        injection e3 with h3 e3
        injection e3 with h4 e3
        injection e3 with h5 e3
        injection e3 with h6 e3
        injection e3 with h7 h8
        obtain ⟨k1, k2⟩ := ba (show (PySem.W.codeIn K n13 q.d.qual && (dflB K n8 [] && kwdB K n9 [])) = true from c6)
        obtain ⟨k3, k4⟩ := ba k2
        subst h1 h2 h3 h4 h5 h6 h7 h8
        exact ⟨_, ⟨oc, od, n8, n9, n10, n11, n12, n13, n14, osl, rfl, hl, k1, dflB_ok k3, kwdB_ok k4⟩, c5⟩
      | _ => cases c6
theorem ty_ok {K : PySem.W.Frag} {x : Str} (cl : Cls K (ga K x)) (c : tyB K x = true) : PySem.W.kitOne K (.ref (ga K x)) (.ref (ga K x)) = some true ∧ ∀ (H : Hp) (a dx : Addr) (fs : List (Str × V)), H a = some (.ins (ga K x) dx fs) → TyX K H (.ref a) (.ref (ga K x)) := by
  obtain ⟨c1, c⟩ := ba c
  obtain ⟨c2, c⟩ := ba c
  obtain ⟨c3, c⟩ := ba c
  obtain ⟨c4, c5⟩ := ba c
  exact ⟨of_decide_eq_true c1, fun H a dx fs h => .base (.ins h cl (eqO_ok c2) (eqO_ok c3) (of_decide_eq_true c4) (of_decide_eq_true c5))⟩
/-! ### the Hook -/
abbrev AlP : Type := AlD × Bool × List FnW
def obsP (fa : List Fa) (fn : List DefD) (pr : List PrD) (ty : List Str) (K : PySem.W.Frag) : AlP := (obsD fa fn K, (pr.all fun q => prB K q) && (ty.all fun x => tyB K x), pr.map fun q => prW K q)
def valP (fn : List DefD) (pr : List PrD) : AlP := (valD fn, true, pr.map fun q => q.d.val)
def SaysP (fa : List Fa) (fn : List DefD) (pr : List PrD) (ty : List Str) (K : PySem.W.Frag) : Prop := obsP fa fn pr ty K = valP fn pr
def obsPG (n : Nat) (fa : List Fa) (fn : List DefD) (pr : List PrD) (ty : List Str) (g : Addr → Option Obj) : AlP := obsP fa fn pr ty (frG g (asD g n))
def hookP (n : Nat) (fa : List Fa) (fn : List DefD) (pr : List PrD) (ty : List Str) : PySem.W.Hook where
  α := AlP
  obs := fun s => obsPG n fa fn pr ty s.heap.get?
  val := fun _ => valP fn pr
  says := fun _ h => ∃ K : PySem.W.Frag, K.In h ∧ SaysP fa fn pr ty K
  of := fun _ _ e => ⟨_, frG_in, e⟩
  keeps := fun _ _ _ ⟨K, hK, c⟩ k => ⟨K, PySem.W.Frag.In.keeps hK k, c⟩
theorem obsPG_eq {n : Nat} {fa : List Fa} {fn : List DefD} {pr : List PrD} {ty : List Str} {g : Addr → Option Obj} {s : Shared} (h : ∀ a, g a = s.heap.get? a) : obsPG n fa fn pr ty g = (hookP n fa fn pr ty).obs s := by
  have e : g = s.heap.get? := funext h
  rw [e] <;> rfl
section
variable {fa : List Fa} {fn : List DefD} {pr : List PrD} {ty : List Str} {K : PySem.W.Frag}
theorem SaysP.d (c : SaysP fa fn pr ty K) : SaysD fa fn K := congrArg (fun z : AlP => z.1) c
theorem SaysP.prop_ (c : SaysP fa fn pr ty K) (i : Nat) {q : PrD} (h : pr[i]? = some q := by rfl) : PropOf K (ga K q.cls) q.f (prA K q) (prG K q) ∧ ∃ fd, FunD K q.d.name q.d.qual q.d.params q.d.body q.d.scope [] [] (prG K q) fd := by
  have c1 := (ba (show ((pr.all fun q => prB K q) && (ty.all fun x => tyB K x)) = true from congrArg (fun z : AlP => z.2.1) c)).1
  have e : pr.map (fun q => prW K q) = pr.map fun q => q.d.val := congrArg (fun z : AlP => z.2.2) c
  have e2 : (pr.map fun q => prW K q)[i]? = (pr.map fun q => q.d.val)[i]? := by rw [e]
  rw [List.getElem?_map, List.getElem?_map, h] at e2
  exact pr_ok (Option.some.inj e2) (List.all_eq_true.mp c1 q (List.mem_of_getElem? h))
theorem SaysP.isty_ (c : SaysP fa fn pr ty K) (i : Nat) {x : Str} (h : ty[i]? = some x := by rfl) : tyB K x = true := by
  have c1 := (ba (show ((pr.all fun q => prB K q) && (ty.all fun x => tyB K x)) = true from congrArg (fun z : AlP => z.2.1) c)).2
  exact List.all_eq_true.mp c1 x (List.mem_of_getElem? h)
end
end BwHk
/-! A head's facts: properties, errors with an __init__ of their own, classes asked by isinstance, tables of code objects. -/
namespace BwHq
open PySem PySem.Spec PyProof.Rows L2 He BwHk
theorem FunD.toFun {K : PySem.W.Frag} {x qual : Str} {st : Stmt} {kws : List (Str × V)} {f : Addr} {fd : FuncData} (F : FunD K x qual (defArgs st) (defBody st) (defScope st) [] kws f fd) : L2.Fun K x qual st f fd := by
  obtain ⟨oc, od, dV, kV, doc, pm, an, cdv, ct, osl, rfl, lk, hcd, hD, hK⟩ := F.ex
  rcases hD with ⟨_, rfl⟩ | ⟨e, _⟩
  · exact ⟨⟨oc, od, kV, doc, pm, an, cdv, ct, osl, rfl, lk, hcd⟩, F.kp⟩
  · exact absurd rfl e
/-! ### further facts -/
inductive Mo where
  | kitTy (t : String) (x : Str) (b : Bool)
  | kitOo (x y : Str) (b : Bool)
  | exc (x : Str)
  | bin (x m : Str) (n : String)
  | mroO (x : Str)
  | xf (x : Str)
def exB (K : PySem.W.Frag) (D : Addr) : Bool := eqO (PySem.W.findIn K (.ref D) "__getattribute__") (some (some (.builtin "BaseException.__getattribute__"))) && (eqO (PySem.W.findIn K (.ref D) "__getattr__") (some none) && (decide (PySem.W.subIn K (.ref D) (.type "BaseException") = some true) && (PySem.W.hasDictIn K D && (eqO (PySem.W.findIn K (.ref D) "__class__") (some (some (.builtin "object.__class__"))) && (eqO (PySem.W.specialIn K (.builtin "object.__class__") "__get__") (some (some (.builtin "getset_descriptor.__get__"))) && (decide (PySem.W.takesIn K (.builtin "object.__class__") = some true) && decide (PySem.W.mroIn K D (.type "object") = some true)))))))
theorem exB_ok {K : PySem.W.Frag} {D : Addr} (c : exB K D = true) : ExcC K D := by
  obtain ⟨c1, c⟩ := ba c
  obtain ⟨c2, c⟩ := ba c
  obtain ⟨c3, c⟩ := ba c
  obtain ⟨c4, c⟩ := ba c
  obtain ⟨c5, c⟩ := ba c
  obtain ⟨c6, c⟩ := ba c
  obtain ⟨c7, c8⟩ := ba c
  exact ⟨eqO_ok c1, eqO_ok c2, of_decide_eq_true c3, c4, eqO_ok c5, eqO_ok c6, of_decide_eq_true c7, of_decide_eq_true c8⟩
def Mo.ok (K : PySem.W.Frag) : Mo → Bool
  | .kitTy t x b => decide (PySem.W.kitOne K (.type t) (.ref (ga K x)) = some b)
  | .kitOo x y b => decide (PySem.W.kitOne K (.ref (ga K x)) (.ref (ga K y)) = some b)
  | .exc x => exB K (ga K x)
  | .bin x m n => eqO (PySem.W.findIn K (.ref (ga K x)) m) (some (some (.builtin n)))
  | .mroO x => decide (PySem.W.mroIn K (ga K x) (.type "object") = some true)
  | .xf x => xfB K (ga K x)
section
variable {K : PySem.W.Frag}
theorem kitTy_ok {t : String} {x : Str} {b : Bool} (c : (Mo.kitTy t x b).ok K = true) : PySem.W.kitOne K (.type t) (.ref (ga K x)) = some b := of_decide_eq_true c
theorem kitOo_ok {x y : Str} {b : Bool} (c : (Mo.kitOo x y b).ok K = true) : PySem.W.kitOne K (.ref (ga K x)) (.ref (ga K y)) = some b := of_decide_eq_true c
theorem moExc_ok {x : Str} (c : (Mo.exc x).ok K = true) : ExcC K (ga K x) := exB_ok c
theorem moBin_ok {x m : Str} {n : String} (c : (Mo.bin x m n).ok K = true) : PySem.W.findIn K (.ref (ga K x)) m = some (some (.builtin n)) := eqO_ok c
theorem mroO_ok {x : Str} (c : (Mo.mroO x).ok K = true) : PySem.W.mroIn K (ga K x) (.type "object") = some true := of_decide_eq_true c
theorem moXf_ok {x : Str} (c : (Mo.xf x).ok K = true) : XfC K (ga K x) := xfB_ok c
end
/-! ### errors with their own __init__ -/
/-- the class, the parameter, the text of its __init__ -/
structure SiD where
  cls : Str
  par : Str
  qual : Str
  params : Arguments
  body : List Stmt
  scope : Scope
abbrev SiW : Type := Option (Str × Str × Arguments × FuncBody × Scope × Addr × List Str × Addr)
def siF (K : PySem.W.Frag) (x : Str) : Addr := ma K (ga K x) "__init__"
def siW (K : PySem.W.Frag) (x : Str) : SiW := match K.lookup (siF K x) with
  | some ⟨_, _, .func fd, _⟩ => some (fd.name, fd.qualname, fd.params, fd.body, fd.scope, fd.globals, fd.closure.map (·.1), fd.builtins)
  | _ => none
def SiD.val (d : SiD) : SiW := some ("__init__", d.qual, d.params, .stmts d.body, d.scope, mainGlobals, ["__class__"], builtinsNs)
def siCell (K : PySem.W.Frag) (x : Str) : Addr := match K.lookup (siF K x) with
  | some ⟨_, _, .func fd, _⟩ => (match fd.closure with
    | [(_, a)] => a
    | _ => 0)
  | _ => 0
def siCode (K : PySem.W.Frag) (x : Str) : Addr := match K.lookup (siF K x) with
  | some ⟨_, _, .func fd, _⟩ => (match fd.code with
    | .ref a => a
    | _ => 0)
  | _ => 0
def isCode (v : Value) (c : Addr) : Bool := match v with
  | .ref a => decide (a = c)
  | _ => false
def isNon (v : Value) : Bool := match v with
  | .none => true
  | _ => false
def siFnB (K : PySem.W.Frag) (x : Str) (q : Str) : Bool := match K.lookup (siF K x) with
  | some ⟨_, _, .func fd, _⟩ => isCode fd.code (siCode K x) && (decide (fd.closure.map (·.2) = [siCell K x]) && isNon fd.defaults)
  | _ => false
def clsB (K : PySem.W.Frag) (C : Addr) : Bool := match K.lookup C with
  | some ⟨.type t, _, .cls cd, sl⟩ => decide (t = "type") && (match cd.mro, sl.toList with
    | .ref C' :: bm, [_, _, _, _, some (.builtin n), _] => decide (C' = C) && (decide (n = "ValueError.__new__") && (PySem.HandSPX.refsVE bm && (cd.hasDict && !cd.hasDel)))
    | _, _ => false)
  | _ => false
def codeB (K : PySem.W.Frag) (c : Addr) (fl : Str) : Bool := match K.lookup c with
  | some ⟨_, _, .fields vs, _⟩ => (match ((vs : Array Value)[2]? : Option Value) with
    | some (.str f _) => fl == f
    | _ => false)
  | _ => false
def cellB (K : PySem.W.Frag) (c C : Addr) : Bool := match K.lookup c with
  | some ⟨_, _, .cell (some (.ref a)), _⟩ => decide (a = C)
  | _ => false
def siB (K : PySem.W.Frag) (fl : Str) (d : SiD) : Bool :=
  (clsB K (ga K d.cls) && (eqO (PySem.W.findIn K (.ref (ga K d.cls)) "__setattr__") (some (some (.builtin "object.__setattr__"))) && (decide (PySem.W.subIn K (.ref (ga K d.cls)) (.type "BaseException") = some true) && (decide (PySem.W.typeIn K (.ref (ga K d.cls)) = some (.type "type")) && PySem.W.keepIn K (.ref (ga K d.cls)))))) &&
  ((siFnB K d.cls d.qual && (codeB K (siCode K d.cls) fl && (cellB K (siCell K d.cls) (ga K d.cls) && (eqO (PySem.W.ks_superIn K (ga K d.cls) (ga K d.cls) "__init__") (some (some (.builtin "ValueError.__init__"))) && (decide (PySem.W.subIn K (.ref (ga K d.cls)) (.type "ValueError") = some true) && (decide (PySem.W.mroIn K (ga K d.cls) (.ref (ga K d.cls)) = some true) && eqO (PySem.W.nsIn K cStatics "thirdparty.any") (some none))))))) &&
  (PySem.W.codeIn K (.ref (siCode K d.cls)) d.qual && (eqO (PySem.W.findIn K (.ref (ga K d.cls)) d.par) (some none) && (eqO (PySem.W.findIn K (.ref (ga K d.cls)) "__init__") (some (some (.ref (siF K d.cls)))) && decide (PySem.W.typeIn K (.ref (siF K d.cls)) = some (.type "function"))))))
theorem clsB_ok {K : PySem.W.Frag} {C : Addr} (h : clsB K C = true) : ∃ nm q N bs bm sn sub ab col dd k0 k1 k2 k3 k5, K.lookup C = some (excClassObj nm q C N bs bm true sn sub ab col dd k0 k1 k2 k3 k5 "ValueError.__new__") ∧ PySem.HandSPX.refsVE bm = true := by
  unfold clsB at h
  cases q : K.lookup C with
  | none =>
    rw [q] at h
    cases h
  | some o =>
    obtain ⟨oc, od, dt, osl⟩ := o
    rw [q] at h
    cases oc with
    | type t =>
      cases dt with
      | cls cd =>
        obtain ⟨nm, bs, mro, N, qn, hdct, sn, sub, ab, col, hdel⟩ := cd
        obtain ⟨sl⟩ := osl
        obtain ⟨h1, h2⟩ := ba h
        have e1 : t = "type" := of_decide_eq_true h1
        subst e1
        match mro, sl, h2 with
        | .ref C' :: bm, [k0, k1, k2, k3, some (.builtin n), k5], h2 =>
          obtain ⟨h3, h4⟩ := ba (show (decide (C' = C) && (decide (n = "ValueError.__new__") && (PySem.HandSPX.refsVE bm && (hdct && !hdel)))) = true from h2)
          obtain ⟨h5, h6⟩ := ba h4
          obtain ⟨h7, h8⟩ := ba h6
          obtain ⟨h9, h10⟩ := ba h8
          have e3 : C' = C := of_decide_eq_true h3
          have e5 : n = "ValueError.__new__" := of_decide_eq_true h5
          have e10 : hdel = false := by
            cases hdel with
            | false => rfl
            | true => cases h10
          subst e3 e5 h9 e10
          exact ⟨nm, qn, N, bs, bm, sn, sub, ab, col, od, k0, k1, k2, k3, k5, rfl, h7⟩
      | _ => cases h
    | _ => cases dt <;> cases h
theorem codeB_ok {K : PySem.W.Frag} {c : Addr} {fl : Str} (h : codeB K c fl = true) : ∃ ccl cdd vs ccs file tf, K.lookup c = some ⟨ccl, cdd, .fields vs, ccs⟩ ∧ vs[2]? = some (.str file tf) ∧ (fl == file) = true := by
  unfold codeB at h
  cases q : K.lookup c with
  | none =>
    rw [q] at h
    cases h
  | some o =>
    obtain ⟨oc, od, dt, osl⟩ := o
    rw [q] at h
    cases dt with
    | fields vs =>
      have h2 : (match ((vs : Array Value)[2]? : Option Value) with
        | some (.str f _) => fl == f
        | _ => false) = true := h
      cases e : vs[2]? with
      | none =>
        rw [e] at h2
        cases h2
      | some v =>
        rw [e] at h2
        cases v with
        | str f t => exact ⟨oc, od, vs, osl, f, t, rfl, e, h2⟩
        | _ => cases h2
    | _ => cases h
theorem cellB_ok {K : PySem.W.Frag} {c C : Addr} (h : cellB K c C = true) : ∃ cl cld csl, K.lookup c = some ⟨cl, cld, .cell (some (.ref C)), csl⟩ := by
  unfold cellB at h
  cases q : K.lookup c with
  | none =>
    rw [q] at h
    cases h
  | some o =>
    obtain ⟨oc, od, dt, osl⟩ := o
    rw [q] at h
    cases dt with
    | cell v =>
      cases v with
      | none => cases h
      | some v =>
        cases v with
        | ref a =>
          have e : a = C := of_decide_eq_true h
          subst e
          exact ⟨oc, od, osl, rfl⟩
        | _ => cases h
    | _ => cases h
/-- what is told of such a class -/
structure SiFacts (K : PySem.W.Frag) (P : Program) (d : SiD) : Prop where
  k : Bw.SiK K P (ga K d.cls) (siF K d.cls) (siCode K d.cls) (siCell K d.cls)
  lk : ∃ oc od dV kV doc pm an ct osl, K.lookup (siF K d.cls) = some ⟨oc, od, .func (PySem.W.ksFn "__init__" d.qual d.params d.body d.scope dV kV doc pm an (.ref (siCode K d.cls)) ct (siCell K d.cls)), osl⟩ ∧ dV = .none
  cd : PySem.W.codeIn K (.ref (siCode K d.cls)) d.qual = true
  no : PySem.W.findIn K (.ref (ga K d.cls)) d.par = some none
  ini : PySem.W.findIn K (.ref (ga K d.cls)) "__init__" = some (some (.ref (siF K d.cls)))
  ty : PySem.W.typeIn K (.ref (siF K d.cls)) = some (.type "function")
theorem si_ok {K : PySem.W.Frag} {P : Program} {d : SiD} {fl : Str} (hfl : P.main.file = fl) (e : siW K d.cls = d.val) (c : siB K fl d = true) : SiFacts K P d := by
  obtain ⟨ca, c⟩ := ba c
  obtain ⟨a1, ca⟩ := ba ca
  obtain ⟨a2, ca⟩ := ba ca
  obtain ⟨a3, ca⟩ := ba ca
  obtain ⟨a4, a5⟩ := ba ca
  obtain ⟨cb, c⟩ := ba c
  obtain ⟨b1, cb⟩ := ba cb
  obtain ⟨b2, cb⟩ := ba cb
  obtain ⟨b3, cb⟩ := ba cb
  obtain ⟨b4, cb⟩ := ba cb
  obtain ⟨b5, cb⟩ := ba cb
  obtain ⟨b6, b7⟩ := ba cb
  obtain ⟨c1, c⟩ := ba c
  obtain ⟨c2, c⟩ := ba c
  obtain ⟨c3, c4⟩ := ba c
  subst hfl
  refine ⟨⟨⟨clsB_ok a1, eqO_ok a2, of_decide_eq_true a3, of_decide_eq_true a4, a5⟩, codeB_ok b2, cellB_ok b3, eqO_ok b4, of_decide_eq_true b5, of_decide_eq_true b6, eqO_ok b7⟩, ?_, c1, eqO_ok c2, eqO_ok c3, of_decide_eq_true c4⟩
  unfold siW at e
  unfold siFnB at b1
  cases hl : K.lookup (siF K d.cls) with
  | none =>
    rw [hl] at b1
    cases b1
  | some o =>
    obtain ⟨oc, od, dt, osl⟩ := o
    rw [hl] at b1 e
    cases dt with
    | func fd =>
      obtain ⟨n1, n2, n3, n4, n5, n6, n7, n8, n9, n10, n11, n12, n13, n14, n15⟩ := fd
      have e2 : (some (n1, n2, n3, n4, n5, n6, n7.map (·.1), n15) : SiW) = some (("__init__" : Str), d.qual, d.params, FuncBody.stmts d.body, d.scope, mainGlobals, [("__class__" : Str)], builtinsNs) := e
      injection e2 with e3
      injection e3 with h1 e3
      injection e3 with h2 e3
      injection e3 with h3 e3
      injection e3 with h4 e3
      injection e3 with h5 e3
      injection e3 with h6 e3
      injection e3 with h7 h8
      obtain ⟨k1, k2⟩ := ba (show (isCode n13 (siCode K d.cls) && (decide (n7.map (·.2) = [siCell K d.cls]) && isNon n8)) = true from b1)
      obtain ⟨k3, k4⟩ := ba k2
      have k3 : n7.map (·.2) = [siCell K d.cls] := of_decide_eq_true k3
      have e7 : n7 = [(("__class__" : Str), siCell K d.cls)] := by
        match n7, h7, k3 with
        | [(x, y)], h7, k3 =>
          injection h7 with h7 _
          injection k3 with k3 _
          subst h7
          subst k3
          rfl
      have e13 : n13 = .ref (siCode K d.cls) := by
        unfold isCode at k1
        cases n13 with
        | ref a => exact congrArg Value.ref (of_decide_eq_true k1)
        | _ => cases k1
      have e8 : n8 = .none := by
        unfold isNon at k4
        cases n8 with
        | none => rfl
        | _ => cases k4
      subst h1 h2 h3 h4 h5 h6 h8 e7 e13 e8
      exact ⟨oc, od, _, n9, n10, n11, n12, n14, osl, rfl, rfl⟩
    | _ => cases b1
/-! ### the Hook -/
abbrev AlQ : Type := AlD × Bool × List FnW × List SiW
/-- what is asked for -/
structure Ask where
  fa : List Fa
  fn : List DefD
  pr : List PrD
  ty : List Str
  mo : List Mo
  si : List SiD
  tf : List Defn
  fl : Str
def frQ (g : Addr → Option Obj) (n : Nat) : PySem.W.Frag := frT g (cStatics :: asD g n)
def allB (a : Ask) (K : PySem.W.Frag) : Bool := ((a.pr.all fun q => prB K q) && (a.ty.all fun x => tyB K x)) && ((a.mo.all fun m => m.ok K) && (a.si.all fun s => siB K a.fl s))
def obsQ (n : Nat) (a : Ask) (g : Addr → Option Obj) : AlQ := (obsD a.fa a.fn (frQ g n), allB a (frQ g n) && tabsB g a.tf (frQ g n), a.pr.map fun q => prW (frQ g n) q, a.si.map fun s => siW (frQ g n) s.cls)
def valQ (a : Ask) : AlQ := (valD a.fn, true, a.pr.map fun q => q.d.val, a.si.map fun s => s.val)
structure SaysQ (a : Ask) (h : Heap) (K : PySem.W.Frag) : Prop where
  d : SaysD a.fa a.fn K
  all : allB a K = true
  prs : (a.pr.map fun q => prW K q) = a.pr.map fun q => q.d.val
  sis : (a.si.map fun s => siW K s.cls) = a.si.map fun s => s.val
  hd : ∀ p ∈ a.tf, PySem.W.codeHdIn K (cT K p).1 (cT K p).2 = true
  out : ∀ p ∈ a.tf, K.lookup (cT K p).2 = none
  empty : ∀ p ∈ a.tf, h.get? (cT K p).2 = some { cls := .none, data := .fields #[] }
theorem saysQ_of {n : Nat} {a : Ask} {h : Heap} (e : obsQ n a h.get? = valQ a) : SaysQ a h (frQ h.get? n) := by
  have e1 : obsD a.fa a.fn (frQ h.get? n) = valD a.fn := congrArg (fun z : AlQ => z.1) e
  have e2 : (allB a (frQ h.get? n) && tabsB h.get? a.tf (frQ h.get? n)) = true := congrArg (fun z : AlQ => z.2.1) e
  have e3 : (a.pr.map fun q => prW (frQ h.get? n) q) = a.pr.map fun q => q.d.val := congrArg (fun z : AlQ => z.2.2.1) e
  have e4 : (a.si.map fun s => siW (frQ h.get? n) s.cls) = a.si.map fun s => s.val := congrArg (fun z : AlQ => z.2.2.2) e
  obtain ⟨h1, h2⟩ := ba e2
  have key : ∀ p ∈ a.tf, PySem.W.codeHdIn (frQ h.get? n) (cT (frQ h.get? n) p).1 (cT (frQ h.get? n) p).2 = true ∧ ∃ o, h.get? (cT (frQ h.get? n) p).2 = some o ∧ emptyTab o = true := fun p hp => by
    obtain ⟨h3, h4⟩ := ba (List.all_eq_true.mp h2 p hp)
    refine ⟨h3, ?_⟩
    cases q : h.get? (cT (frQ h.get? n) p).2 with
    | none =>
      rw [q] at h4
      cases h4
    | some o =>
      rw [q] at h4
      exact ⟨o, rfl, h4⟩
  exact ⟨e1, h1, e3, e4, fun p hp => (key p hp).1, fun p hp => by
    obtain ⟨_, o, q, z⟩ := key p hp
    exact frT_none q z, fun p hp => by
    obtain ⟨_, o, q, z⟩ := key p hp
    rw [q, emptyTab_eq z]⟩
def hookQ (n : Nat) (a : Ask) : PySem.W.Hook where
  α := AlQ
  obs := fun s => obsQ n a s.heap.get?
  val := fun _ => valQ a
  says := fun _ h => ∃ K : PySem.W.Frag, K.In h ∧ SaysQ a h K
  of := fun _ _ e => ⟨_, frT_in, saysQ_of e⟩
  keeps := fun _ _ _ ⟨K, hK, c⟩ k => ⟨K, PySem.W.Frag.In.keeps hK k, ⟨c.d, c.all, c.prs, c.sis, c.hd, c.out, fun p hp => k _ _ (c.empty p hp)⟩⟩
theorem obsQ_eq {n : Nat} {a : Ask} {g : Addr → Option Obj} {s : Shared} (h : ∀ b, g b = s.heap.get? b) : obsQ n a g = (hookQ n a).obs s := by
  have e : g = s.heap.get? := funext h
  rw [e] <;> rfl
section
variable {a : Ask} {h : Heap} {K : PySem.W.Frag}
theorem SaysQ.prop_ (c : SaysQ a h K) (i : Nat) {q : PrD} (hq : a.pr[i]? = some q := by rfl) : PropOf K (ga K q.cls) q.f (prA K q) (prG K q) ∧ ∃ fd, FunD K q.d.name q.d.qual q.d.params q.d.body q.d.scope [] [] (prG K q) fd := by
  have c1 := (ba (ba c.all).1).1
  have e := c.prs
  have e2 : (a.pr.map fun q => prW K q)[i]? = (a.pr.map fun q => q.d.val)[i]? := by rw [e]
  rw [List.getElem?_map, List.getElem?_map, hq] at e2
  exact pr_ok (Option.some.inj e2) (List.all_eq_true.mp c1 q (List.mem_of_getElem? hq))
theorem SaysQ.isty_ (c : SaysQ a h K) (i : Nat) {x : Str} (hx : a.ty[i]? = some x := by rfl) : tyB K x = true :=
  List.all_eq_true.mp (ba (ba c.all).1).2 x (List.mem_of_getElem? hx)
theorem SaysQ.mo_ (c : SaysQ a h K) (i : Nat) {m : Mo} (hm : a.mo[i]? = some m := by rfl) : m.ok K = true :=
  List.all_eq_true.mp (ba (ba c.all).2).1 m (List.mem_of_getElem? hm)
theorem SaysQ.si_ (c : SaysQ a h K) {P : Program} (hfl : P.main.file = a.fl) (i : Nat) {d : SiD} (hd : a.si[i]? = some d := by rfl) : SiFacts K P d := by
  have e2 : (a.si.map fun s => siW K s.cls)[i]? = (a.si.map fun s => s.val)[i]? := by rw [c.sis]
  rw [List.getElem?_map, List.getElem?_map, hd] at e2
  exact si_ok hfl (Option.some.inj e2) (List.all_eq_true.mp (ba (ba c.all).2).2 d (List.mem_of_getElem? hd))
end
end BwHq
namespace Bw
open PySem PySem.Spec PyProof.Rows L2
def top (i : Nat) : Stmt := PySem.Challenge.pw_blindweirs_k08_points_hidden.main.body.getD i (.Pass ⟨0, 0, 0, 0⟩)
structure TxtB (mg : Str → Option Value) : Prop where
  n_isinstance : mg "isinstance" = none
  n_len : mg "len" = none
  n_all : mg "all" = none
  n_sorted : mg "sorted" = none
  n_range : mg "range" = none
  n_enumerate : mg "enumerate" = none
  n_zip : mg "zip" = none
  n_int : mg "int" = none
  n_bool : mg "bool" = none
  n_tuple : mg "tuple" = none
  n_dict : mg "dict" = none
  n_list : mg "list" = none
  n_abs : mg "abs" = none
  n_min : mg "min" = none
  n_max : mg "max" = none
theorem ex_none {H H1 : Hp} (e : Evl.Ex H H1) {a : Addr} (h : H1 a = none) : H a = none := by
  cases q : H a with
  | none => rfl
  | some o => exact absurd ((e _ _ q).symm.trans h) nofun
theorem leftP_old {n : Nat} {E : List Edge} {ps : List Nat} {H0 H H2 : Hp} {v : V} (e : Evl.Ex H0 H) (h : LeftP n E ps H v H2) : LeftP n E ps H0 v H2 := by
  rcases h with h | ⟨d, F, m, rfl, hn, r⟩
  · exact Or.inl h
  · exact Or.inr ⟨d, F, m, rfl, ex_none e hn, r⟩
abbrev sx_is_number : Stmt := top 7
theorem sc_is_number : FnScope ["thing"] ["thing"] (defScope sx_is_number) := ⟨rfl, rfl, rfl, by decide +kernel, rfl, by decide +kernel, by decide +kernel⟩
theorem ok_is_number {P : Program} {w : World} {K : PySem.W.Frag} {C : Addr} {mg : Str → Option Value} {base : Heap} {f : Addr} {fd : FuncData} (F : FunD K "is_number" "is_number" (defArgs sx_is_number) (defBody sx_is_number) (defScope sx_is_number) [] [] f fd) (T : TxtB mg) (TF : TabF K C) : FnOk P w K mg base CX0 3 f fd ["thing"] (sp_is_number C) := by
  have cT := TF.cl
  refine F.ok sc_is_number (fun vs H Q E h => ?_) (fun cdv A outer s H vs Q X h0 h => ?_)
  · obtain ⟨P0, ⟨i, rfl, rfl⟩, kk⟩ := h
    rfl
  · have hr := h0
    have hu := hu_of hr
    have hu4 := Nat.lt_of_le_of_lt (Nat.add_le_add_left (by decide : 4 ≤ 64) _) hr.units
    refine ⟨_, PSs.nox (pss_one (ps_ret (pe_and (pe_callB call_isi (by rfl) T.n_isinstance (by decide +kernel) (pa_cons (pv 0) (pa_cons (pe_bltn (by rfl) T.n_int (by decide +kernel) (show RelV (.ty "int") _ from rfl)) pa_nil))) (pe_one (pe_not (pe_callB call_isi (by rfl) T.n_isinstance (by decide +kernel) (pa_cons (pv 0) (pa_cons (pe_bltn (by rfl) T.n_bool (by decide +kernel) (show RelV (.ty "bool") _ from rfl)) pa_nil)))))))), ?_⟩
    obtain ⟨P0, ⟨i, rfl, rfl⟩, kk⟩ := h
    exact pure_is_number (K := K) (C := C) (fun H1 e => kk _ _ e rfl)
abbrev sx_is_number_between : Stmt := top 8
theorem sc_is_number_between : FnScope ["thing", "least", "most"] ["thing", "least", "most"] (defScope sx_is_number_between) := ⟨rfl, rfl, rfl, by decide +kernel, rfl, by decide +kernel, by decide +kernel⟩
theorem ok_is_number_between {P : Program} {w : World} {K : PySem.W.Frag} {C : Addr} {mg : Str → Option Value} {base : Heap} {f : Addr} {fd : FuncData} (F : FunD K "is_number_between" "is_number_between" (defArgs sx_is_number_between) (defBody sx_is_number_between) (defScope sx_is_number_between) [] [] f fd) (T : TxtB mg) (TF : TabF K C)
  {f_is_number : Addr} {d_is_number : FuncData} (G_is_number : FnOk P w K mg base CX0 3 f_is_number d_is_number ["thing"] (sp_is_number C)) (g_is_number : mg "is_number" = some (.ref f_is_number)) (k_is_number : PySem.W.keepIn K (.ref f_is_number) = true) (b_is_number : Binds K d_is_number ["thing"] []) : FnOk P w K mg base CX0 6 f fd ["thing", "least", "most"] (sp_is_number_between C) := by
  have cT := TF.cl
  refine F.ok sc_is_number_between (fun vs H Q E h => ?_) (fun cdv A outer s H vs Q X h0 h => ?_)
  · obtain ⟨P0, ⟨i, lo, hi, rfl, rfl⟩, kk⟩ := h
    rfl
  · have hr := h0
    have hu := hu_of hr
    have hu4 := Nat.lt_of_le_of_lt (Nat.add_le_add_left (by decide : 4 ≤ 64) _) hr.units
    refine ⟨_, PSs.nox (pss_one (ps_ret (pe_and (pe_call G_is_number (hr.mono (by decide)) rfl g_is_number k_is_number b_is_number .nil pass0 (pa_cons (pv 0) pa_nil)) (pe_one (pe_chain op_le op_le (pv 1) (pv 0) (pv 2)))))), ?_⟩
    obtain ⟨P0, ⟨i, lo, hi, rfl, rfl⟩, kk⟩ := h
    exact pure_is_number_between (K := K) (C := C) (fun H1 e => kk _ _ e rfl)
abbrev sx_is_pair : Stmt := top 9
theorem sc_is_pair : FnScope ["thing"] ["thing"] (defScope sx_is_pair) := ⟨rfl, rfl, rfl, by decide +kernel, rfl, by decide +kernel, by decide +kernel⟩
theorem ok_is_pair {P : Program} {w : World} {K : PySem.W.Frag} {C : Addr} {mg : Str → Option Value} {base : Heap} {f : Addr} {fd : FuncData} (F : FunD K "is_pair" "is_pair" (defArgs sx_is_pair) (defBody sx_is_pair) (defScope sx_is_pair) [] [] f fd) (T : TxtB mg) (TF : TabF K C) : FnOk P w K mg base CX0 3 f fd ["thing"] (sp_is_pair C) := by
  have cT := TF.cl
  refine F.ok sc_is_pair (fun vs H Q E h => ?_) (fun cdv A outer s H vs Q X h0 h => ?_)
  · obtain ⟨P0, ⟨a, xs, rfl, h1, rfl⟩, kk⟩ := h
    rfl
  · have hr := h0
    have hu := hu_of hr
    have hu4 := Nat.lt_of_le_of_lt (Nat.add_le_add_left (by decide : 4 ≤ 64) _) hr.units
    refine ⟨_, PSs.nox (pss_one (ps_ret (pe_and (pe_callB call_isi (by rfl) T.n_isinstance (by decide +kernel) (pa_cons (pv 0) (pa_cons (pe_bltn (by rfl) T.n_tuple (by decide +kernel) (show RelV (.ty "tuple") _ from rfl)) pa_nil))) (pe_one (pe_cmpR op_eq (pe_callB call_len (by rfl) T.n_len (by decide +kernel) (pa_cons (pv 0) pa_nil)) pe_int (nomark _)))))), ?_⟩
    obtain ⟨P0, ⟨a, xs, rfl, h1, rfl⟩, kk⟩ := h
    exact pure_is_pair (K := K) (C := C) h1 (fun H1 e => kk _ _ e rfl)
abbrev sx_is_water : Stmt := top 12
theorem sc_is_water : FnScope ["thing", "cell"] ["thing"] (defScope sx_is_water) := ⟨rfl, rfl, rfl, by decide +kernel, rfl, by decide +kernel, by decide +kernel⟩
theorem ok_is_water {P : Program} {w : World} {K : PySem.W.Frag} {C : Addr} {mg : Str → Option Value} {base : Heap} {f : Addr} {fd : FuncData} (F : FunD K "is_water" "is_water" (defArgs sx_is_water) (defBody sx_is_water) (defScope sx_is_water) [] [] f fd) (T : TxtB mg) (TF : TabF K C) (gMOST : ∃ t, mg "MOST_CELLS" = some (.int 12 t))
  {f_is_number : Addr} {d_is_number : FuncData} (G_is_number : FnOk P w K mg base CX0 3 f_is_number d_is_number ["thing"] (sp_is_number C)) (g_is_number : mg "is_number" = some (.ref f_is_number)) (k_is_number : PySem.W.keepIn K (.ref f_is_number) = true) (b_is_number : Binds K d_is_number ["thing"] []) : FnOk P w K mg base CX0 6 f fd ["thing"] (sp_is_water C) := by
  have cT := TF.cl
  obtain ⟨_, gMOST⟩ := gMOST
  refine F.ok sc_is_water (fun vs H Q E h => ?_) (fun cdv A outer s H vs Q X h0 h => ?_)
  · obtain ⟨P0, ⟨a, xs, rfl, h1, h2, h3, rfl⟩, kk⟩ := h
    rfl
  · have hr := h0
    have hu := hu_of hr
    have hu4 := Nat.lt_of_le_of_lt (Nat.add_le_add_left (by decide : 4 ≤ 64) _) hr.units
    refine ⟨_, PSs.nox (pss_cons (ps_if (PW.pt (pw_or (pt_not (pt_val (pe_callB call_isi (by rfl) T.n_isinstance (by decide +kernel) (pa_cons (pv 0) (pa_cons (pe_bltn (by rfl) T.n_tuple (by decide +kernel) (show RelV (.ty "tuple") _ from rfl)) pa_nil))))) (pw_or1 (pt_not (pt_chain op_le op_le pe_int (pe_callB call_len (by rfl) T.n_len (by decide +kernel) (pa_cons (pv 0) pa_nil)) (pe_glob (v := .int 12) rfl gMOST ⟨_, rfl⟩))))))
        (pss_one (ps_ret pe_bl))
        pss_nil)
      (pss_one (ps_ret (pe_callB (cr_all rfl) (by rfl) T.n_all (by decide +kernel) (pa_cons (pe_lc (own := [("cell", 1)]) (g := (gName 1)) (wi := (iTup K (tVar 0))) (tt := tYes) (te := (tCall (sp_is_number C) [] E0 (tCons (tVar 1) tNil))) rfl sc_is_water.nd (pi_tup (pv 0)) (blkOk_by (N := ["thing", "cell"]) (sc := defScope sx_is_water) (by decide +kernel)) (fun _ _ _ _ _ => (pg_name (i := 1) sc_is_water.nd rfl (by first | exact Or.inl rfl | exact Or.inr rfl))) (fun _ _ _ _ _ => pts_nil) (fun _ _ _ _ _ => (pe_call G_is_number (hr.mono (by decide)) rfl g_is_number k_is_number b_is_number .nil pass0 (pa_cons (pv 1) pa_nil)))) pa_nil))))), ?_⟩
    obtain ⟨P0, ⟨a, xs, rfl, h1, h2, h3, rfl⟩, kk⟩ := h
    exact pure_is_water (K := K) (C := C) h1 h2 h3 (fun H1 e => kk _ _ e rfl)
abbrev sx_sums : Stmt := top 13
theorem sc_sums : FnScope ["water", "found", "cell"] ["water"] (defScope sx_sums) := ⟨rfl, rfl, rfl, by decide +kernel, rfl, by decide +kernel, by decide +kernel⟩
theorem ok_sums {P : Program} {w : World} {K : PySem.W.Frag} {C : Addr} {mg : Str → Option Value} {base : Heap} {f : Addr} {fd : FuncData} (F : FunD K "sums" "sums" (defArgs sx_sums) (defBody sx_sums) (defScope sx_sums) [] [] f fd) (T : TxtB mg) (TF : TabF K C)
  {f_is_water : Addr} {d_is_water : FuncData} (G_is_water : FnOk P w K mg base CX0 6 f_is_water d_is_water ["thing"] (sp_is_water C)) (g_is_water : mg "is_water" = some (.ref f_is_water)) (k_is_water : PySem.W.keepIn K (.ref f_is_water) = true) (b_is_water : Binds K d_is_water ["thing"] []) : FnOk P w K mg base CX0 9 f fd ["water"] (sp_sums C) := by
  have cT := TF.cl
  refine F.ok sc_sums (fun vs H Q E h => ?_) (fun cdv A outer s H vs Q X h0 h => ?_)
  · obtain ⟨P0, ⟨a, xs, rfl, h1, h2, h3, rfl⟩, kk⟩ := h
    rfl
  · have hr := h0
    have hu := hu_of hr
    have hu4 := Nat.lt_of_le_of_lt (Nat.add_le_add_left (by decide : 4 ≤ 64) _) hr.units
    refine ⟨_, PSs.nox (pss_cons (ps_if (pt_not (pt_val (pe_call G_is_water (hr.mono (by decide)) rfl g_is_water k_is_water b_is_water .nil pass0 (pa_cons (pv 0) pa_nil))))
        (pss_one ps_never)
        pss_nil)
      (pss_cons (ps_set (i := 1) sc_sums.nd rfl (by first | exact Or.inl rfl | exact Or.inr rfl) (pe_lst (pa_cons pe_int pa_nil)))
      (pss_cons (ps_for PassesOwn.never rfl (pi_tup (pv 0)) (pg_name (i := 2) sc_sums.nd rfl (by first | exact Or.inl rfl | exact Or.inr rfl))
        (pss_one (ps_expr (pe_bm PySem.F.plainAttrs_list PySem.F.slot_list_append PySem.F.type_list_append mt_append (pv 1) (pa_cons (pe_op op_add (pe_ix ix_list (pv 1) (pe_un un_neg pe_int) (fun _ _ => rfl)) (pv 2)) pa_nil)))))
      (pss_one (ps_ret (pe_callTy call_tuple_of (by rfl) T.n_tuple (by decide +kernel) (pa_cons (pv 1) pa_nil))))))), ?_⟩
    obtain ⟨P0, ⟨a, xs, rfl, h1, h2, h3, rfl⟩, kk⟩ := h
    exact pure_sums (K := K) (C := C) h1 h2 h3 (fun p H1 e hp => kk _ _ e ⟨p, rfl, hp⟩)
abbrev sx_water_of : Stmt := top 14
theorem sc_water_of : FnScope ["points", "above", "below"] ["points"] (defScope sx_water_of) := ⟨rfl, rfl, rfl, by decide +kernel, rfl, by decide +kernel, by decide +kernel⟩
theorem ok_water_of {P : Program} {w : World} {K : PySem.W.Frag} {C : Addr} {mg : Str → Option Value} {base : Heap} {f : Addr} {fd : FuncData} (F : FunD K "water_of" "water_of" (defArgs sx_water_of) (defBody sx_water_of) (defScope sx_water_of) [] [] f fd) (T : TxtB mg) (TF : TabF K C) : FnOk P w K mg base CX0 3 f fd ["points"] (sp_water_of C) := by
  have cT := TF.cl
  refine F.ok sc_water_of (fun vs H Q E h => ?_) (fun cdv A outer s H vs Q X h0 h => ?_)
  · obtain ⟨P0, ⟨a, xs, rfl, h1, h2, rfl⟩, kk⟩ := h
    rfl
  · have hr := h0
    have hu := hu_of hr
    have hu4 := Nat.lt_of_le_of_lt (Nat.add_le_add_left (by decide : 4 ≤ 64) _) hr.units
    refine ⟨_, PSs.nox (pss_one (ps_ret (pe_callTy call_tuple_of (by rfl) T.n_tuple (by decide +kernel) (pa_cons (pe_lc (own := [("above", 1), ("below", 2)]) (g := (gTup K 2 (gCons (gName 1) (gCons (gName 2) gNil)))) (wi := (iZip K (tCons (tVar 0) (tCons (tSl (rSlL K) (tVar 0) (tPart (tC (.int 1))) tNoPart) tNil)))) (tt := tYes) (te := (tOp rSubI (tVar 2) (tVar 1))) rfl sc_water_of.nd (pi_zip (by rfl) T.n_zip (pa_cons (pv 0) (pa_cons (pe_slice sl_list (pv 0) (po_some pe_int) po_none) pa_nil))) (blkOk_by (N := ["points", "above", "below"]) (sc := defScope sx_water_of) (by decide +kernel)) (fun _ _ _ _ _ => (pg_tup rfl (pgs_cons (pg_name (i := 1) sc_water_of.nd rfl (by first | exact Or.inl rfl | exact Or.inr rfl)) (pgs_cons (pg_name (i := 2) sc_water_of.nd rfl (by first | exact Or.inl rfl | exact Or.inr rfl)) pgs_nil)))) (fun _ _ _ _ _ => pts_nil) (fun _ _ _ _ _ => (pe_op op_sub (pv 2) (pv 1)))) pa_nil)))), ?_⟩
    obtain ⟨P0, ⟨a, xs, rfl, h1, h2, rfl⟩, kk⟩ := h
    exact pure_water_of (K := K) (C := C) h1 h2 (fun p H1 e hp => kk _ _ e ⟨p, rfl, hp⟩)
abbrev sx__are_bounds : Stmt := top 15
theorem sc__are_bounds : FnScope ["thing", "size", "pair", "point"] ["thing", "size"] (defScope sx__are_bounds) := ⟨rfl, rfl, rfl, by decide +kernel, rfl, by decide +kernel, by decide +kernel⟩
theorem ok__are_bounds {P : Program} {w : World} {K : PySem.W.Frag} {C : Addr} {mg : Str → Option Value} {base : Heap} {f : Addr} {fd : FuncData} (F : FunD K "_are_bounds" "_are_bounds" (defArgs sx__are_bounds) (defBody sx__are_bounds) (defScope sx__are_bounds) [] [] f fd) (T : TxtB mg) (TF : TabF K C)
  {f_is_number : Addr} {d_is_number : FuncData} (G_is_number : FnOk P w K mg base CX0 3 f_is_number d_is_number ["thing"] (sp_is_number C)) (g_is_number : mg "is_number" = some (.ref f_is_number)) (k_is_number : PySem.W.keepIn K (.ref f_is_number) = true) (b_is_number : Binds K d_is_number ["thing"] [])
  {f_is_number_between : Addr} {d_is_number_between : FuncData} (G_is_number_between : FnOk P w K mg base CX0 6 f_is_number_between d_is_number_between ["thing", "least", "most"] (sp_is_number_between C)) (g_is_number_between : mg "is_number_between" = some (.ref f_is_number_between)) (k_is_number_between : PySem.W.keepIn K (.ref f_is_number_between) = true) (b_is_number_between : Binds K d_is_number_between ["thing", "least", "most"] [])
  {f_is_pair : Addr} {d_is_pair : FuncData} (G_is_pair : FnOk P w K mg base CX0 3 f_is_pair d_is_pair ["thing"] (sp_is_pair C)) (g_is_pair : mg "is_pair" = some (.ref f_is_pair)) (k_is_pair : PySem.W.keepIn K (.ref f_is_pair) = true) (b_is_pair : Binds K d_is_pair ["thing"] []) : FnOk P w K mg base CX0 9 f fd ["thing", "size"] (sp__are_bounds C) := by
  have cT := TF.cl
  refine F.ok sc__are_bounds (fun vs H Q E h => ?_) (fun cdv A outer s H vs Q X h0 h => ?_)
  · obtain ⟨P0, ⟨b, n, E, rfl, h1, h2, h3, rfl⟩, kk⟩ := h
    rfl
  · have hr := h0
    have hu := hu_of hr
    have hu4 := Nat.lt_of_le_of_lt (Nat.add_le_add_left (by decide : 4 ≤ 64) _) hr.units
    refine ⟨_, PSs.nox (pss_cons (ps_if (pt_not (pt_val (pe_callB call_isi (by rfl) T.n_isinstance (by decide +kernel) (pa_cons (pv 0) (pa_cons (pe_bltn (by rfl) T.n_dict (by decide +kernel) (show RelV (.ty "dict") _ from rfl)) pa_nil)))))
        (pss_one (ps_ret pe_bl))
        pss_nil)
      (pss_cons (ps_lock (ps_for PassesOwn.never rfl (pi_keys (pv 0)) (pg_name (i := 2) sc__are_bounds.nd rfl (by first | exact Or.inl rfl | exact Or.inr rfl))
        (pss_cons (ps_if (PW.pt (pw_or (pt_not (pt_val (pe_call G_is_pair (hr.mono (by decide)) rfl g_is_pair k_is_pair b_is_pair .nil pass0 (pa_cons (pv 2) pa_nil)))) (pw_or1 (pt_not (pt_val (pe_call G_is_number (hr.mono (by decide)) rfl g_is_number k_is_number b_is_number .nil pass0 (pa_cons (pe_dget hu (pv 0) (pv 2) (fun _ _ => rfl)) pa_nil)))))))
            (pss_one (ps_ret pe_bl))
            pss_nil)
          (pss_one (ps_if (PW.pt (pw_or (pt_not (pt_val (pe_callB (cr_all rfl) (by rfl) T.n_all (by decide +kernel) (pa_cons (pe_lc (own := [("point", 3)]) (g := (gName 3)) (wi := (iTup K (tVar 2))) (tt := tYes) (te := (tCall (sp_is_number_between C) [] E0 (tCons (tVar 3) (tCons (tC (.int 0)) (tCons (tVar 1) tNil))))) rfl sc__are_bounds.nd (pi_tup (pv 2)) (blkOk_by (N := ["thing", "size", "pair", "point"]) (sc := defScope sx__are_bounds) (by decide +kernel)) (fun _ _ _ _ _ => (pg_name (i := 3) sc__are_bounds.nd rfl (by first | exact Or.inl rfl | exact Or.inr rfl))) (fun _ _ _ _ _ => pts_nil) (fun _ _ _ _ _ => (pe_call G_is_number_between (hr.mono (by decide)) rfl g_is_number_between k_is_number_between b_is_number_between .nil pass0 (pa_cons (pv 3) (pa_cons pe_int (pa_cons (pv 1) pa_nil)))))) pa_nil)))) (pw_or1 (pt_cmpR op_eq (pe_ix ix_tup (pv 2) pe_int (fun _ _ => rfl)) (pe_ix ix_tup (pv 2) pe_int (fun _ _ => rfl)) (nomark _)))))
            (pss_one (ps_ret pe_bl))
            pss_nil)))))
      (pss_one (ps_ret pe_bl)))), ?_⟩
    obtain ⟨P0, ⟨b, n, E, rfl, h1, h2, h3, rfl⟩, kk⟩ := h
    exact pure_are_bounds (K := K) (C := C) h1 h2 h3 (fun H1 e => kk _ _ e rfl)
abbrev sx_Table___init__ : Stmt := inClass (top 16) 0
theorem sc_Table___init__ : FnScope ["self", "size", "bounds", "pair"] ["self", "size", "bounds"] (defScope sx_Table___init__) := ⟨rfl, rfl, rfl, by decide +kernel, rfl, by decide +kernel, by decide +kernel⟩
theorem ok_Table___init__ {P : Program} {w : World} {K : PySem.W.Frag} {C : Addr} {mg : Str → Option Value} {base : Heap} {f : Addr} {fd : FuncData} (F : FunD K "__init__" "Table.__init__" (defArgs sx_Table___init__) (defBody sx_Table___init__) (defScope sx_Table___init__) [.non] [] f fd) (T : TxtB mg) (TF : TabF K C) (gMOST : ∃ t, mg "MOST_CELLS" = some (.int 12 t))
  {f_is_number_between : Addr} {d_is_number_between : FuncData} (G_is_number_between : FnOk P w K mg base CX0 6 f_is_number_between d_is_number_between ["thing", "least", "most"] (sp_is_number_between C)) (g_is_number_between : mg "is_number_between" = some (.ref f_is_number_between)) (k_is_number_between : PySem.W.keepIn K (.ref f_is_number_between) = true) (b_is_number_between : Binds K d_is_number_between ["thing", "least", "most"] [])
  {f__are_bounds : Addr} {d__are_bounds : FuncData} (G__are_bounds : FnOk P w K mg base CX0 9 f__are_bounds d__are_bounds ["thing", "size"] (sp__are_bounds C)) (g__are_bounds : mg "_are_bounds" = some (.ref f__are_bounds)) (k__are_bounds : PySem.W.keepIn K (.ref f__are_bounds) = true) (b__are_bounds : Binds K d__are_bounds ["thing", "size"] []) : FnOk P w K mg base CX0 12 f fd ["self", "size", "bounds"] (sp_Table___init__ C) := by
  have cT := TF.cl
  obtain ⟨_, gMOST⟩ := gMOST
  refine F.ok sc_Table___init__ (fun vs H Q E h => ?_) (fun cdv A outer s H vs Q X h0 h => ?_)
  · obtain ⟨x, dx, b, n, E, rfl, h1, h2, h3, h4, h5, h6, h7, kk⟩ := h
    rfl
  · have hr := h0
    have hu := hu_of hr
    have hu4 := Nat.lt_of_le_of_lt (Nat.add_le_add_left (by decide : 4 ≤ 64) _) hr.units
    refine ⟨_, PSs.nox (pss_cons (ps_if (pt_not (pt_val (pe_call G_is_number_between (hr.mono (by decide)) rfl g_is_number_between k_is_number_between b_is_number_between .nil pass0 (pa_cons (pv 1) (pa_cons pe_int (pa_cons (pe_glob (v := .int 12) rfl gMOST ⟨_, rfl⟩) pa_nil))))))
        (pss_one ps_never)
        pss_nil)
      (pss_cons (ps_if (pt_cmp (pc_isN (pv 2)))
        (pss_one (ps_set (i := 2) sc_Table___init__.nd rfl (by first | exact Or.inl rfl | exact Or.inr rfl) pe_dnewT))
        pss_nil)
      (pss_cons (ps_if (pt_not (pt_val (pe_call G__are_bounds (hr.mono (by decide)) rfl g__are_bounds k__are_bounds b__are_bounds .nil pass0 (pa_cons (pv 2) (pa_cons (pv 1) pa_nil)))))
        (pss_one ps_never)
        pss_nil)
      (pss_cons (ps_fld (pv 0) (pv 1) rfl)
      (pss_one (ps_fld (pv 0) (pe_dt (own := [("pair", 3)]) (g := (gName 3)) (wi := (iList K (tCB rSortedDT (tCons (tVar 2) tNil)))) (tt := tYes) (tk := (tVar 3)) (tv := (tDGet (tVar 2) (tVar 3))) hu rfl sc_Table___init__.nd (pi_list (pe_callB (cr_sortedDT rfl) (by rfl) T.n_sorted (by decide +kernel) (pa_cons (pv 2) pa_nil))) (blkOk_by (N := ["self", "size", "bounds", "pair"]) (sc := defScope sx_Table___init__) (by decide +kernel)) (fun _ _ _ _ _ => (pg_name (i := 3) sc_Table___init__.nd rfl (by first | exact Or.inl rfl | exact Or.inr rfl))) (fun _ _ _ _ _ => pts_nil) (fun _ _ _ _ _ => (pv 3)) (fun _ _ _ _ _ => (pe_dget hu (pv 2) (pv 3) (fun _ _ => rfl)))) rfl)))))), ?_⟩
    obtain ⟨x, dx, b, n, E, rfl, h1, h2, h3, h4, h5, h6, h7, kk⟩ := h
    exact pure_init (K := K) (C := C) TF h1 h2 h3 h4 h5 h6 h7 kk
abbrev sx_Table_size : Stmt := inClass (top 16) 1
theorem sc_Table_size : FnScope ["self"] ["self"] (defScope sx_Table_size) := ⟨rfl, rfl, rfl, by decide +kernel, rfl, by decide +kernel, by decide +kernel⟩
theorem ok_Table_size {P : Program} {w : World} {K : PySem.W.Frag} {C : Addr} {mg : Str → Option Value} {base : Heap} {f : Addr} {fd : FuncData} (F : FunD K "size" "Table.size" (defArgs sx_Table_size) (defBody sx_Table_size) (defScope sx_Table_size) [] [] f fd) (T : TxtB mg) (TF : TabF K C) : FnOk P w K mg base CX0 3 f fd ["self"] (sp_Table_size C) := by
  have cT := TF.cl
  refine F.ok sc_Table_size (fun vs H Q E h => ?_) (fun cdv A outer s H vs Q X h0 h => ?_)
  · obtain ⟨P0, ⟨t, n, E, rfl, T1, rfl⟩, kk⟩ := h
    rfl
  · have hr := h0
    have hu := hu_of hr
    have hu4 := Nat.lt_of_le_of_lt (Nat.add_le_add_left (by decide : 4 ≤ 64) _) hr.units
    refine ⟨_, PSs.nox (pss_one (ps_ret (pe_fld (pv 0) rfl))), ?_⟩
    obtain ⟨P0, ⟨t, n, E, rfl, T1, rfl⟩, kk⟩ := h
    exact pure_size (K := K) (C := C) TF T1 (fun H1 e => kk _ _ e rfl)
abbrev sx_Table_bounds : Stmt := inClass (top 16) 2
theorem sc_Table_bounds : FnScope ["self", "pair"] ["self"] (defScope sx_Table_bounds) := ⟨rfl, rfl, rfl, by decide +kernel, rfl, by decide +kernel, by decide +kernel⟩
theorem ok_Table_bounds {P : Program} {w : World} {K : PySem.W.Frag} {C : Addr} {mg : Str → Option Value} {base : Heap} {f : Addr} {fd : FuncData} (F : FunD K "bounds" "Table.bounds" (defArgs sx_Table_bounds) (defBody sx_Table_bounds) (defScope sx_Table_bounds) [] [] f fd) (T : TxtB mg) (TF : TabF K C) : FnOk P w K mg base CX0 3 f fd ["self"] (sp_Table_bounds C) := by
  have cT := TF.cl
  refine F.ok sc_Table_bounds (fun vs H Q E h => ?_) (fun cdv A outer s H vs Q X h0 h => ?_)
  · obtain ⟨t, n, E, rfl, T1, kk⟩ := h
    rfl
  · have hr := h0
    have hu := hu_of hr
    have hu4 := Nat.lt_of_le_of_lt (Nat.add_le_add_left (by decide : 4 ≤ 64) _) hr.units
    refine ⟨_, PSs.nox (pss_one (ps_ret (pe_lock (pe_dt (own := [("pair", 1)]) (g := (gName 1)) (wi := (iKeys (tFld K (tVar 0) "_bounds"))) (tt := tYes) (tk := (tVar 1)) (tv := (tDGet (tFld K (tVar 0) "_bounds") (tVar 1))) hu rfl sc_Table_bounds.nd (pi_keys (pe_fld (pv 0) rfl)) (blkOk_by (N := ["self", "pair"]) (sc := defScope sx_Table_bounds) (by decide +kernel)) (fun _ _ _ _ _ => (pg_name (i := 1) sc_Table_bounds.nd rfl (by first | exact Or.inl rfl | exact Or.inr rfl))) (fun _ _ _ _ _ => pts_nil) (fun _ _ _ _ _ => (pv 1)) (fun _ _ _ _ _ => (pe_dget hu (pe_fld (pv 0) rfl) (pv 1) (fun _ _ => rfl))))))), ?_⟩
    obtain ⟨t, n, E, rfl, T1, kk⟩ := h
    exact pure_bounds (K := K) (C := C) TF T1 (Nat.le_trans (lenE T1) (by decide)) kk
abbrev sx_Table_fits : Stmt := inClass (top 16) 3
theorem sc_Table_fits : FnScope ["self", "water", "found", "a", "b"] ["self", "water"] (defScope sx_Table_fits) := ⟨rfl, rfl, rfl, by decide +kernel, rfl, by decide +kernel, by decide +kernel⟩
theorem ok_Table_fits {P : Program} {w : World} {K : PySem.W.Frag} {C : Addr} {mg : Str → Option Value} {base : Heap} {f : Addr} {fd : FuncData} (F : FunD K "fits" "Table.fits" (defArgs sx_Table_fits) (defBody sx_Table_fits) (defScope sx_Table_fits) [] [] f fd) (T : TxtB mg) (TF : TabF K C)
  {f_sums : Addr} {d_sums : FuncData} (G_sums : FnOk P w K mg base CX0 9 f_sums d_sums ["water"] (sp_sums C)) (g_sums : mg "sums" = some (.ref f_sums)) (k_sums : PySem.W.keepIn K (.ref f_sums) = true) (b_sums : Binds K d_sums ["water"] []) : FnOk P w K mg base CX0 12 f fd ["self", "water"] (sp_Table_fits C) := by
  have cT := TF.cl
  refine F.ok sc_Table_fits (fun vs H Q E h => ?_) (fun cdv A outer s H vs Q X h0 h => ?_)
  · obtain ⟨P0, ⟨t, w, n, E, xs, rfl, T1, h1, h2, rfl⟩, kk⟩ := h
    rfl
  · have hr := h0
    have hu := hu_of hr
    have hu4 := Nat.lt_of_le_of_lt (Nat.add_le_add_left (by decide : 4 ≤ 64) _) hr.units
    refine ⟨_, PSs.nox (pss_cons (ps_set (i := 2) sc_Table_fits.nd rfl (by first | exact Or.inl rfl | exact Or.inr rfl) (pe_call G_sums (hr.mono (by decide)) rfl g_sums k_sums b_sums .nil pass0 (pa_cons (pv 1) pa_nil)))
      (pss_cons (ps_if (pt_cmpR op_ne (pe_callB call_len (by rfl) T.n_len (by decide +kernel) (pa_cons (pv 1) pa_nil)) (pe_fld (pv 0) rfl) (nomark _))
        (pss_one ps_never)
        pss_nil)
      (pss_one (ps_ret (pe_lock (pe_callB (cr_all rfl) (by rfl) T.n_all (by decide +kernel) (pa_cons (pe_lc (own := [("a", 3), ("b", 4)]) (g := (gTup K 2 (gCons (gName 3) (gCons (gName 4) gNil)))) (wi := (iKeys (tFld K (tVar 0) "_bounds"))) (tt := tYes) (te := (tOp rLeI (tOp rSubI (tOp (rIxT K) (tVar 2) (tVar 3)) (tOp (rIxT K) (tVar 2) (tVar 4))) (tDGet (tFld K (tVar 0) "_bounds") (tTup (tCons (tVar 3) (tCons (tVar 4) tNil)))))) rfl sc_Table_fits.nd (pi_keys (pe_fld (pv 0) rfl)) (blkOk_by (N := ["self", "water", "found", "a", "b"]) (sc := defScope sx_Table_fits) (by decide +kernel)) (fun _ _ _ _ _ => (pg_tup rfl (pgs_cons (pg_name (i := 3) sc_Table_fits.nd rfl (by first | exact Or.inl rfl | exact Or.inr rfl)) (pgs_cons (pg_name (i := 4) sc_Table_fits.nd rfl (by first | exact Or.inl rfl | exact Or.inr rfl)) pgs_nil)))) (fun _ _ _ _ _ => pts_nil) (fun _ _ _ _ _ => (pe_cmpR op_le (pe_op op_sub (pe_ix ix_tup (pv 2) (pv 3) (fun _ _ => rfl)) (pe_ix ix_tup (pv 2) (pv 4) (fun _ _ => rfl))) (pe_dget hu (pe_fld (pv 0) rfl) (pe_tup (pa_cons (pv 3) (pa_cons (pv 4) pa_nil))) (fun _ _ => rfl)) (nomark _)))) pa_nil))))))), ?_⟩
    obtain ⟨P0, ⟨t, w, n, E, xs, rfl, T1, h1, h2, rfl⟩, kk⟩ := h
    exact pure_fits (K := K) (C := C) TF T1 h1 h2 (fun H1 e => kk _ _ e rfl)
abbrev sx_Table___eq__ : Stmt := inClass (top 16) 4
theorem sc_Table___eq__ : FnScope ["self", "other"] ["self", "other"] (defScope sx_Table___eq__) := ⟨rfl, rfl, rfl, by decide +kernel, rfl, by decide +kernel, by decide +kernel⟩
theorem ok_Table___eq__ {P : Program} {w : World} {K : PySem.W.Frag} {C : Addr} {mg : Str → Option Value} {base : Heap} {f : Addr} {fd : FuncData} (F : FunD K "__eq__" "Table.__eq__" (defArgs sx_Table___eq__) (defBody sx_Table___eq__) (defScope sx_Table___eq__) [] [] f fd) (T : TxtB mg) (TF : TabF K C) (gTable : mg "Table" = some (.ref C)) : FnOk P w K mg base CX0 3 f fd ["self", "other"] (sp_Table___eq__ C) := by
  have cT := TF.cl
  refine F.ok sc_Table___eq__ (fun vs H Q E h => ?_) (fun cdv A outer s H vs Q X h0 h => ?_)
  · obtain ⟨P0, ⟨t, u, n, m, E, E2, rfl, T1, T2, rfl⟩, kk⟩ := h
    rfl
  · have hr := h0
    have hu := hu_of hr
    have hu4 := Nat.lt_of_le_of_lt (Nat.add_le_add_left (by decide : 4 ≤ 64) _) hr.units
    refine ⟨_, PSs.nox (pss_one (ps_ret (pe_and (pe_callB call_isi (by rfl) T.n_isinstance (by decide +kernel) (pa_cons (pv 1) (pa_cons (pe_glob rfl gTable (show RelV (.ref C) _ from rfl)) pa_nil))) (pe_and (pe_cmpR op_eq (pe_fld (pv 0) rfl) (pe_fld (pv 1) rfl) (nomark _)) (pe_one (pe_cmpR (op_eqDT hu) (pe_fld (pv 0) rfl) (pe_fld (pv 1) rfl) (nomark _))))))), ?_⟩
    obtain ⟨P0, ⟨t, u, n, m, E, E2, rfl, T1, T2, rfl⟩, kk⟩ := h
    exact pure_eq (K := K) (C := C) TF T1 T2 (fun H1 e => kk _ _ e rfl)
abbrev sx__need_table : Stmt := top 17
theorem sc__need_table : FnScope ["table", "part"] ["table", "part"] (defScope sx__need_table) := ⟨rfl, rfl, rfl, by decide +kernel, rfl, by decide +kernel, by decide +kernel⟩
theorem ok__need_table {P : Program} {w : World} {K : PySem.W.Frag} {C : Addr} {mg : Str → Option Value} {base : Heap} {f : Addr} {fd : FuncData} (F : FunD K "_need_table" "_need_table" (defArgs sx__need_table) (defBody sx__need_table) (defScope sx__need_table) [] [] f fd) (T : TxtB mg) (TF : TabF K C) (gTable : mg "Table" = some (.ref C)) : FnOk P w K mg base CX0 3 f fd ["table", "part"] (sp__need_table C) := by
  have cT := TF.cl
  refine F.ok sc__need_table (fun vs H Q E h => ?_) (fun cdv A outer s H vs Q X h0 h => ?_)
  · obtain ⟨P0, ⟨t, n, E, w, rfl, T1, rfl⟩, kk⟩ := h
    rfl
  · have hr := h0
    have hu := hu_of hr
    have hu4 := Nat.lt_of_le_of_lt (Nat.add_le_add_left (by decide : 4 ≤ 64) _) hr.units
    refine ⟨_, PSs.nox (pss_one (ps_if (pt_not (pt_val (pe_callB call_isi (by rfl) T.n_isinstance (by decide +kernel) (pa_cons (pv 0) (pa_cons (pe_glob rfl gTable (show RelV (.ref C) _ from rfl)) pa_nil)))))
        (pss_one ps_never)
        pss_nil)), ?_⟩
    obtain ⟨P0, ⟨t, n, E, w, rfl, T1, rfl⟩, kk⟩ := h
    exact pure_need_table (K := K) (C := C) TF T1 (fun H1 e => kk _ _ e rfl)
abbrev sx_nothing : Stmt := top 18
theorem sc_nothing : FnScope ["size"] ["size"] (defScope sx_nothing) := ⟨rfl, rfl, rfl, by decide +kernel, rfl, by decide +kernel, by decide +kernel⟩
theorem ok_nothing {P : Program} {w : World} {K : PySem.W.Frag} {C : Addr} {mg : Str → Option Value} {base : Heap} {f : Addr} {fd : FuncData} (F : FunD K "nothing" "nothing" (defArgs sx_nothing) (defBody sx_nothing) (defScope sx_nothing) [] [] f fd) (T : TxtB mg) (TF : TabF K C) (gTable : mg "Table" = some (.ref C))
  {f_init : Addr} {d_init : FuncData} (G_init : FnOk P w K mg base CX0 12 f_init d_init ["self", "size", "bounds"] (sp_Table___init__ C)) (b_init : Binds K d_init ["self", "size", "bounds"] []) (mk : Mk K C f_init) : FnOk P w K mg base CX0 15 f fd ["size"] (sp_nothing C) := by
  have cT := TF.cl
  refine F.ok sc_nothing (fun vs H Q E h => ?_) (fun cdv A outer s H vs Q X h0 h => ?_)
  · obtain ⟨P0, ⟨n, rfl, h1, h2, rfl⟩, kk⟩ := h
    rfl
  · have hr := h0
    have hu := hu_of hr
    have hu4 := Nat.lt_of_le_of_lt (Nat.add_le_add_left (by decide : 4 ≤ 64) _) hr.units
    refine ⟨_, PSs.nox (pss_one (ps_ret (pe_make mk G_init (hr.mono (by decide)) rfl gTable b_init .nil pass0 (pa_cons (pv 0) (pa_cons (pe_dispT hu (pps_cons (pe_tup (pa_cons pe_int (pa_cons pe_int pa_nil))) (pe_un un_neg pe_int) (pps_cons (pe_tup (pa_cons pe_int (pa_cons pe_int pa_nil))) pe_int pps_nil)) (by rfl) (by rfl) (fun z => by cases z) (by decide)) pa_nil))))), ?_⟩
    obtain ⟨P0, ⟨n, rfl, h1, h2, rfl⟩, kk⟩ := h
    exact pure_nothing (K := K) (C := C) h1 h2 (fun t H2 E e T1 p => kk _ _ e ⟨t, E, rfl, T1, p⟩)
abbrev sx__go_through : Stmt := top 20
theorem sc__go_through : FnScope ["least", "a", "middle", "step", "b", "further"] ["least", "a", "middle"] (defScope sx__go_through) := ⟨rfl, rfl, rfl, by decide +kernel, rfl, by decide +kernel, by decide +kernel⟩
theorem ok__go_through {P : Program} {w : World} {K : PySem.W.Frag} {C : Addr} {mg : Str → Option Value} {base : Heap} {f : Addr} {fd : FuncData} (F : FunD K "_go_through" "_go_through" (defArgs sx__go_through) (defBody sx__go_through) (defScope sx__go_through) [] [] f fd) (T : TxtB mg) (TF : TabF K C) : FnOk P w K mg base CX0 3 f fd ["least", "a", "middle"] (sp__go_through C) := by
  have cT := TF.cl
  refine F.ok sc__go_through (fun vs H Q E h => ?_) (fun cdv A outer s H vs Q X h0 h => ?_)
  · obtain ⟨p, rs, M, N, a, m, st, r, rfl, h1, h2, h3, h4, h5, h6, kk⟩ := h
    rfl
  · have hr := h0
    have hu := hu_of hr
    have hu4 := Nat.lt_of_le_of_lt (Nat.add_le_add_left (by decide : 4 ≤ 64) _) hr.units
    refine ⟨_, PSs.nox (pss_cons (ps_set (i := 3) sc__go_through.nd rfl (by first | exact Or.inl rfl | exact Or.inr rfl) (pe_ix ix_list (pe_ix ix_list (pv 0) (pv 1) (fun _ _ => rfl)) (pv 2) (fun _ _ => rfl)))
      (pss_one (ps_for PassesOwn.never rfl (pi_enum (by rfl) T.n_enumerate (pa_cons (pe_callTy call_list_of (by rfl) T.n_list (by decide +kernel) (pa_cons (pe_ix ix_list (pv 0) (pv 2) (fun _ _ => rfl)) pa_nil)) pa_nil)) (pg_tup rfl (pgs_cons (pg_name (i := 4) sc__go_through.nd rfl (by first | exact Or.inl rfl | exact Or.inr rfl)) (pgs_cons (pg_name (i := 5) sc__go_through.nd rfl (by first | exact Or.inl rfl | exact Or.inr rfl)) pgs_nil)))
        (pss_one (ps_if (PW.pt (pw_and (pt_cmp (pc_notN (pv 5))) (pw_and1 (PW.pt (pw_or (pt_cmp (pc_isN (pe_ix ix_list (pe_ix ix_list (pv 0) (pv 1) (fun _ _ => rfl)) (pv 4) (fun _ _ => rfl)))) (pw_or1 (pt_cmpR op_lt (pe_op op_add (pv 3) (pv 5)) (pe_ix ix_list (pe_ix ix_list (pv 0) (pv 1) (fun _ _ => rfl)) (pv 4) (fun _ _ => rfl)) (nomark _))))))))
            (pss_one (ps_asg (pe_op op_add (pv 3) (pv 5)) (pg_sub (pe_ix ix_list (pv 0) (pv 1) (fun _ _ => rfl)) (pv 4) set_list)))
            pss_nil))))), ?_⟩
    obtain ⟨p, rs, M, N, a, m, st, r, rfl, h1, h2, h3, h4, h5, h6, kk⟩ := h
    exact pure_go_through (K := K) (C := C) h1 h2 h3 h4 h5 h6 kk
abbrev sx__least_ways : Stmt := top 19
theorem sc__least_ways : FnScope ["table", "count", "bounds", "least", "a", "middle", "above", "below"] ["table"] (defScope sx__least_ways) := ⟨rfl, rfl, rfl, by decide +kernel, rfl, by decide +kernel, by decide +kernel⟩
theorem ok__least_ways {P : Program} {w : World} {K : PySem.W.Frag} {C : Addr} {mg : Str → Option Value} {base : Heap} {f : Addr} {fd : FuncData} (F : FunD K "_least_ways" "_least_ways" (defArgs sx__least_ways) (defBody sx__least_ways) (defScope sx__least_ways) [] [] f fd) (T : TxtB mg) (TF : TabF K C)
  {f__go_through : Addr} {d__go_through : FuncData} (G__go_through : FnOk P w K mg base CX0 3 f__go_through d__go_through ["least", "a", "middle"] (sp__go_through C)) (g__go_through : mg "_go_through" = some (.ref f__go_through)) (k__go_through : PySem.W.keepIn K (.ref f__go_through) = true) (b__go_through : Binds K d__go_through ["least", "a", "middle"] [])
  {q_size f_size : Addr} {d_size : FuncData} (G_size : FnOk P w K mg base CX0 3 f_size d_size ["self"] (sp_Table_size C)) (b_size : Binds K d_size ["self"] []) (hp_size : PropOf K C "size" q_size f_size)
  {q_bounds f_bounds : Addr} {d_bounds : FuncData} (G_bounds : FnOk P w K mg base CX0 3 f_bounds d_bounds ["self"] (sp_Table_bounds C)) (b_bounds : Binds K d_bounds ["self"] []) (hp_bounds : PropOf K C "bounds" q_bounds f_bounds) : FnOk P w K mg base CX0 6 f fd ["table"] (sp__least_ways C) := by
  have cT := TF.cl
  refine F.ok sc__least_ways (fun vs H Q E h => ?_) (fun cdv A outer s H vs Q X h0 h => ?_)
  · obtain ⟨P0, ⟨t, n, E, rfl, T1, rfl⟩, kk⟩ := h
    rfl
  · have hr := h0
    have hu := hu_of hr
    have hu4 := Nat.lt_of_le_of_lt (Nat.add_le_add_left (by decide : 4 ≤ 64) _) hr.units
    refine ⟨_, PSs.nox (pss_cons (ps_set (i := 1) sc__least_ways.nd rfl (by first | exact Or.inl rfl | exact Or.inr rfl) (pe_op op_add (pe_prop (pv 0) cT hp_size G_size (hr.mono (by decide)) b_size .nil pass0 rfl) pe_int))
      (pss_cons (ps_set (i := 2) sc__least_ways.nd rfl (by first | exact Or.inl rfl | exact Or.inr rfl) (pe_prop (pv 0) cT hp_bounds G_bounds (hr.mono (by decide)) b_bounds .nil pass0 rfl))
      (pss_cons (ps_setLc (i := 3) (own := [("above", 6)]) (g := (gName 6)) (wi := (iRng1 (tCons (tVar 1) tNil))) (tt := tYes) (te := (tLc (iRng1 (tCons (tVar 1) tNil)) (gName 7) tYes (tDGet1 (tVar 2) (tTup (tCons (tVar 6) (tCons (tVar 7) tNil)))) [7])) rfl sc__least_ways.nd rfl rfl (sw_true rfl rfl rfl (by decide +kernel)) (pi_range1 rfl T.n_range (pa_cons (pv 1) pa_nil)) (blkOk_by (N := ["table", "count", "bounds", "least", "a", "middle", "above", "below"]) (sc := defScope sx__least_ways) (by decide +kernel)) (fun _ _ _ _ _ => (pg_name (i := 6) sc__least_ways.nd rfl (by first | exact Or.inl rfl | exact Or.inr rfl))) (fun _ _ _ _ _ => pts_nil) (fun _ _ _ _ _ => (pe_lc (own := [("below", 7)]) (g := (gName 7)) (wi := (iRng1 (tCons (tVar 1) tNil))) (tt := tYes) (te := (tDGet1 (tVar 2) (tTup (tCons (tVar 6) (tCons (tVar 7) tNil))))) rfl sc__least_ways.nd (pi_range1 rfl T.n_range (pa_cons (pv 1) pa_nil)) (blkOk_by (N := ["table", "count", "bounds", "least", "a", "middle", "above", "below"]) (sc := { kind := .function, names := [(".0", .local), ("above", .cell), ("range", .globalImplicit), ("bounds", .cell), ("count", .cell)], isGenerator := false, isCoroutine := false }) (by decide +kernel)) (fun _ _ _ _ _ => (pg_name (i := 7) sc__least_ways.nd rfl (by first | exact Or.inl rfl | exact Or.inr rfl))) (fun _ _ _ _ _ => pts_nil) (fun _ _ _ _ _ => (pe_dget1 hu (pv 2) (pe_tup (pa_cons (pv 6) (pa_cons (pv 7) pa_nil))) ⟨rfl, rfl, rfl, rfl⟩)))))
      (pss_cons (ps_for PassesOwn.never rfl (pi_range1 rfl T.n_range (pa_cons (pv 1) pa_nil)) (pg_name (i := 4) sc__least_ways.nd rfl (by first | exact Or.inl rfl | exact Or.inr rfl))
        (pss_one (ps_asg pe_int (pg_sub (pe_ix ix_list (pv 3) (pv 4) (fun _ _ => rfl)) (pv 4) set_list))))
      (pss_cons (ps_for PassesOwn.never rfl (pi_range1 rfl T.n_range (pa_cons (pv 1) pa_nil)) (pg_name (i := 5) sc__least_ways.nd rfl (by first | exact Or.inl rfl | exact Or.inr rfl))
        (pss_cons (ps_if (pt_cmpR op_lt (pe_ix ix_list (pe_ix ix_list (pv 3) (pv 5) (fun _ _ => rfl)) (pv 5) (fun _ _ => rfl)) pe_int (nomark _))
            (pss_one (ps_ret pe_non))
            pss_nil)
          (pss_one (ps_for PassesOwn.never rfl (pi_range1 rfl T.n_range (pa_cons (pv 1) pa_nil)) (pg_name (i := 4) sc__least_ways.nd rfl (by first | exact Or.inl rfl | exact Or.inr rfl))
            (pss_one (ps_if (pt_cmp (pc_notN (pe_ix ix_list (pe_ix ix_list (pv 3) (pv 4) (fun _ _ => rfl)) (pv 5) (fun _ _ => rfl))))
                (pss_one (ps_expr (pe_call G__go_through (hr.mono (by decide)) rfl g__go_through k__go_through b__go_through .nil pass0 (pa_cons (pv 3) (pa_cons (pv 4) (pa_cons (pv 5) pa_nil))))))
                pss_nil))))))
      (pss_one (ps_ret (pv 3)))))))), ?_⟩
    obtain ⟨P0, ⟨t, n, E, rfl, T1, rfl⟩, kk⟩ := h
    exact pure_least_ways (K := K) (C := C) T1 (fun v H2 e hv => kk _ _ e hv)
abbrev sx__table_of : Stmt := top 21
theorem sc__table_of : FnScope ["least", "bounds", "a", "row", "b", "number"] ["least"] (defScope sx__table_of) := ⟨rfl, rfl, rfl, by decide +kernel, rfl, by decide +kernel, by decide +kernel⟩
theorem ok__table_of {P : Program} {w : World} {K : PySem.W.Frag} {C : Addr} {mg : Str → Option Value} {base : Heap} {f : Addr} {fd : FuncData} (F : FunD K "_table_of" "_table_of" (defArgs sx__table_of) (defBody sx__table_of) (defScope sx__table_of) [] [] f fd) (T : TxtB mg) (TF : TabF K C) (gTable : mg "Table" = some (.ref C))
  {f_init : Addr} {d_init : FuncData} (G_init : FnOk P w K mg base CX0 12 f_init d_init ["self", "size", "bounds"] (sp_Table___init__ C)) (b_init : Binds K d_init ["self", "size", "bounds"] []) (mk : Mk K C f_init) : FnOk P w K mg base CX0 15 f fd ["least"] (sp__table_of C) := by
  have cT := TF.cl
  refine F.ok sc__table_of (fun vs H Q E h => ?_) (fun cdv A outer s H vs Q X h0 h => ?_)
  · obtain ⟨P0, ⟨p, rs, M, n, rfl, h1, h2, h3, rfl⟩, kk⟩ := h
    rfl
  · have hr := h0
    have hu := hu_of hr
    have hu4 := Nat.lt_of_le_of_lt (Nat.add_le_add_left (by decide : 4 ≤ 64) _) hr.units
    refine ⟨_, PSs.nox (pss_cons (ps_set (i := 1) sc__table_of.nd rfl (by first | exact Or.inl rfl | exact Or.inr rfl) pe_dnewT)
      (pss_cons (ps_for PassesOwn.never rfl (pi_enum (by rfl) T.n_enumerate (pa_cons (pv 0) pa_nil)) (pg_tup rfl (pgs_cons (pg_name (i := 2) sc__table_of.nd rfl (by first | exact Or.inl rfl | exact Or.inr rfl)) (pgs_cons (pg_name (i := 3) sc__table_of.nd rfl (by first | exact Or.inl rfl | exact Or.inr rfl)) pgs_nil)))
        (pss_one (ps_for PassesOwn.never rfl (pi_enum (by rfl) T.n_enumerate (pa_cons (pv 3) pa_nil)) (pg_tup rfl (pgs_cons (pg_name (i := 4) sc__table_of.nd rfl (by first | exact Or.inl rfl | exact Or.inr rfl)) (pgs_cons (pg_name (i := 5) sc__table_of.nd rfl (by first | exact Or.inl rfl | exact Or.inr rfl)) pgs_nil)))
            (pss_one (ps_if (PW.pt (pw_and (pt_cmpR op_ne (pv 2) (pv 4) (nomark _)) (pw_and1 (pt_cmp (pc_notN (pv 5))))))
                (pss_one (ps_dput hu (pv 1) (pe_tup (pa_cons (pv 2) (pa_cons (pv 4) pa_nil))) (pv 5) rfl))
                pss_nil)))))
      (pss_one (ps_ret (pe_make mk G_init (hr.mono (by decide)) rfl gTable b_init .nil pass0 (pa_cons (pe_op op_sub (pe_callB call_len (by rfl) T.n_len (by decide +kernel) (pa_cons (pv 0) pa_nil)) pe_int) (pa_cons (pv 1) pa_nil))))))), ?_⟩
    obtain ⟨P0, ⟨p, rs, M, n, rfl, h1, h2, h3, rfl⟩, kk⟩ := h
    exact pure_table_of (K := K) (C := C) h1 h2 h3 (fun t H2 E e T1 hm => kk _ _ e ⟨t, E, rfl, T1, hm⟩)
abbrev sx_a_water : Stmt := top 22
theorem sc_a_water : FnScope ["table", "least", "row", "number"] ["table"] (defScope sx_a_water) := ⟨rfl, rfl, rfl, by decide +kernel, rfl, by decide +kernel, by decide +kernel⟩
theorem ok_a_water {P : Program} {w : World} {K : PySem.W.Frag} {C : Addr} {mg : Str → Option Value} {base : Heap} {f : Addr} {fd : FuncData} (F : FunD K "a_water" "a_water" (defArgs sx_a_water) (defBody sx_a_water) (defScope sx_a_water) [] [] f fd) (T : TxtB mg) (TF : TabF K C)
  {f_water_of : Addr} {d_water_of : FuncData} (G_water_of : FnOk P w K mg base CX0 3 f_water_of d_water_of ["points"] (sp_water_of C)) (g_water_of : mg "water_of" = some (.ref f_water_of)) (k_water_of : PySem.W.keepIn K (.ref f_water_of) = true) (b_water_of : Binds K d_water_of ["points"] [])
  {f__need_table : Addr} {d__need_table : FuncData} (G__need_table : FnOk P w K mg base CX0 3 f__need_table d__need_table ["table", "part"] (sp__need_table C)) (g__need_table : mg "_need_table" = some (.ref f__need_table)) (k__need_table : PySem.W.keepIn K (.ref f__need_table) = true) (b__need_table : Binds K d__need_table ["table", "part"] [])
  {f__least_ways : Addr} {d__least_ways : FuncData} (G__least_ways : FnOk P w K mg base CX0 6 f__least_ways d__least_ways ["table"] (sp__least_ways C)) (g__least_ways : mg "_least_ways" = some (.ref f__least_ways)) (k__least_ways : PySem.W.keepIn K (.ref f__least_ways) = true) (b__least_ways : Binds K d__least_ways ["table"] []) : FnOk P w K mg base CX0 9 f fd ["table"] (sp_a_water C) := by
  have cT := TF.cl
  refine F.ok sc_a_water (fun vs H Q E h => ?_) (fun cdv A outer s H vs Q X h0 h => ?_)
  · obtain ⟨P0, ⟨t, n, E, rfl, T1, rfl⟩, kk⟩ := h
    rfl
  · have hr := h0
    have hu := hu_of hr
    have hu4 := Nat.lt_of_le_of_lt (Nat.add_le_add_left (by decide : 4 ≤ 64) _) hr.units
    refine ⟨_, PSs.nox (pss_cons (ps_expr (pe_call G__need_table (hr.mono (by decide)) rfl g__need_table k__need_table b__need_table .nil pass0 (pa_cons (pv 0) (pa_cons pe_non pa_nil))))
      (pss_cons (ps_set (i := 1) sc_a_water.nd rfl (by first | exact Or.inl rfl | exact Or.inr rfl) (pe_call G__least_ways (hr.mono (by decide)) rfl g__least_ways k__least_ways b__least_ways .nil pass0 (pa_cons (pv 0) pa_nil)))
      (pss_cons (ps_if (pt_cmp (pc_isN (pv 1)))
        (pss_one (ps_ret pe_non))
        pss_nil)
      (pss_one (ps_ret (pe_call G_water_of (hr.mono (by decide)) rfl g_water_of k_water_of b_water_of .nil pass0 (pa_cons (pe_lc (own := [("row", 2)]) (g := (gName 2)) (wi := (iList K (tVar 1))) (tt := tYes) (te := (tCB (rMin K) (tCons (tLc (iList K (tVar 2)) (gName 3) (tB (tNotN (tVar 3))) (tVar 3) [3]) tNil))) rfl sc_a_water.nd (pi_list (pv 1)) (blkOk_by (N := ["table", "least", "row", "number"]) (sc := defScope sx_a_water) (by decide +kernel)) (fun _ _ _ _ _ => (pg_name (i := 2) sc_a_water.nd rfl (by first | exact Or.inl rfl | exact Or.inr rfl))) (fun _ _ _ _ _ => pts_nil) (fun _ _ _ _ _ => (pe_callB (cr_min rfl) (by rfl) T.n_min (by decide +kernel) (pa_cons (pe_lc (own := [("number", 3)]) (g := (gName 3)) (wi := (iList K (tVar 2))) (tt := (tB (tNotN (tVar 3)))) (te := (tVar 3)) rfl sc_a_water.nd (pi_list (pv 2)) (blkOk_by (N := ["table", "least", "row", "number"]) (sc := { kind := .function, names := [(".0", .local), ("row", .local), ("min", .globalImplicit)], isGenerator := false, isCoroutine := false }) (by decide +kernel)) (fun _ _ _ _ _ => (pg_name (i := 3) sc_a_water.nd rfl (by first | exact Or.inl rfl | exact Or.inr rfl))) (fun _ _ _ _ _ => (pts_one (pt_cmp (pc_notN (pv 3))))) (fun _ _ _ _ _ => (pv 3))) pa_nil)))) pa_nil))))))), ?_⟩
    obtain ⟨P0, ⟨t, n, E, rfl, T1, rfl⟩, kk⟩ := h
    exact pure_a_water (K := K) (C := C) T1 (fun v H2 e hv => kk _ _ e hv)
abbrev sx__can_hide : Stmt := top 24
theorem sc__can_hide : FnScope ["points", "size", "point", "above", "below"] ["points", "size"] (defScope sx__can_hide) := ⟨rfl, rfl, rfl, by decide +kernel, rfl, by decide +kernel, by decide +kernel⟩
theorem ok_canHideG {P : Program} {w : World} {K : PySem.W.Frag} {C : Addr} {mg : Str → Option Value} {base : Heap} {f : Addr} {fd : FuncData} (F : FunD K "_can_hide" "_can_hide" (defArgs sx__can_hide) (defBody sx__can_hide) (defScope sx__can_hide) [] [] f fd) (T : TxtB mg) (TF : TabF K C)
  {f_is_number_between : Addr} {d_is_number_between : FuncData} (G_is_number_between : FnOk P w K mg base CX0 6 f_is_number_between d_is_number_between ["thing", "least", "most"] (sp_is_number_between C)) (g_is_number_between : mg "is_number_between" = some (.ref f_is_number_between)) (k_is_number_between : PySem.W.keepIn K (.ref f_is_number_between) = true) (b_is_number_between : Binds K d_is_number_between ["thing", "least", "most"] []) : FnOk P w K mg base CX0 9 f fd ["points", "size"] (sp_canHideG C) := by
  have cT := TF.cl
  refine F.ok sc__can_hide (fun vs H Q E h => ?_) (fun cdv A outer s H vs Q X h0 h => ?_)
  · obtain ⟨P0, ⟨p, ps, n, rfl, h1, h2, h3, rfl⟩, kk⟩ := h
    rfl
  · have hr := h0
    have hu := hu_of hr
    have hu4 := Nat.lt_of_le_of_lt (Nat.add_le_add_left (by decide : 4 ≤ 64) _) hr.units
    refine ⟨_, PSs.nox (pss_cons (ps_if (PW.pt (pw_or (pt_not (pt_val (pe_callB call_isi (by rfl) T.n_isinstance (by decide +kernel) (pa_cons (pv 0) (pa_cons (pe_bltn (by rfl) T.n_tuple (by decide +kernel) (show RelV (.ty "tuple") _ from rfl)) pa_nil))))) (pw_or1 (pt_cmpR op_ge (pe_callB call_len (by rfl) T.n_len (by decide +kernel) (pa_cons (pv 0) pa_nil)) (pv 1) (nomark _)))))
        (pss_one (ps_ret pe_bl))
        pss_nil)
      (pss_cons (ps_if (pt_not (pt_val (pe_callB (cr_all rfl) (by rfl) T.n_all (by decide +kernel) (pa_cons (pe_lc (own := [("point", 2)]) (g := (gName 2)) (wi := (iTup K (tVar 0))) (tt := tYes) (te := (tCall (sp_is_number_between C) [] E0 (tCons (tVar 2) (tCons (tC (.int 1)) (tCons (tVar 1) tNil))))) rfl sc__can_hide.nd (pi_tup (pv 0)) (blkOk_by (N := ["points", "size", "point", "above", "below"]) (sc := defScope sx__can_hide) (by decide +kernel)) (fun _ _ _ _ _ => (pg_name (i := 2) sc__can_hide.nd rfl (by first | exact Or.inl rfl | exact Or.inr rfl))) (fun _ _ _ _ _ => pts_nil) (fun _ _ _ _ _ => (pe_call G_is_number_between (hr.mono (by decide)) rfl g_is_number_between k_is_number_between b_is_number_between .nil pass0 (pa_cons (pv 2) (pa_cons pe_int (pa_cons (pv 1) pa_nil)))))) pa_nil))))
        (pss_one (ps_ret pe_bl))
        pss_nil)
      (pss_one (ps_ret (pe_callB (cr_all rfl) (by rfl) T.n_all (by decide +kernel) (pa_cons (pe_lc (own := [("above", 3), ("below", 4)]) (g := (gTup K 2 (gCons (gName 3) (gCons (gName 4) gNil)))) (wi := (RZ.iZipA K (tCons (tVar 0) (tCons (tSl (rSlA K) (tVar 0) (tPart (tC (.int 1))) tNoPart) tNil)))) (tt := tYes) (te := (tOp rLtI (tVar 3) (tVar 4))) rfl sc__can_hide.nd (RZ.pi_zipA (by rfl) T.n_zip (pa_cons (pv 0) (pa_cons (pe_slice sl_tupA (pv 0) (po_some pe_int) po_none) pa_nil))) (blkOk_by (N := ["points", "size", "point", "above", "below"]) (sc := defScope sx__can_hide) (by decide +kernel)) (fun _ _ _ _ _ => (pg_tup rfl (pgs_cons (pg_name (i := 3) sc__can_hide.nd rfl (by first | exact Or.inl rfl | exact Or.inr rfl)) (pgs_cons (pg_name (i := 4) sc__can_hide.nd rfl (by first | exact Or.inl rfl | exact Or.inr rfl)) pgs_nil)))) (fun _ _ _ _ _ => pts_nil) (fun _ _ _ _ _ => (pe_cmpR op_lt (pv 3) (pv 4) (nomark _)))) pa_nil)))))), ?_⟩
    obtain ⟨P0, ⟨p, ps, n, rfl, h1, h2, h3, rfl⟩, kk⟩ := h
    exact pure_canHideG (K := K) (C := C) h1 h2 h3 (fun H1 e => kk _ _ e rfl)
abbrev sx_hidden : Stmt := top 23
theorem sc_hidden : FnScope ["table", "points", "left", "least", "point", "a", "b"] ["table", "points"] (defScope sx_hidden) := ⟨rfl, rfl, rfl, by decide +kernel, rfl, by decide +kernel, by decide +kernel⟩
theorem ok_hiddenG {P : Program} {w : World} {K : PySem.W.Frag} {C : Addr} {mg : Str → Option Value} {base : Heap} {f : Addr} {fd : FuncData} (F : FunD K "hidden" "hidden" (defArgs sx_hidden) (defBody sx_hidden) (defScope sx_hidden) [] [] f fd) (T : TxtB mg) (TF : TabF K C)
  {f__need_table : Addr} {d__need_table : FuncData} (G__need_table : FnOk P w K mg base CX0 3 f__need_table d__need_table ["table", "part"] (sp__need_table C)) (g__need_table : mg "_need_table" = some (.ref f__need_table)) (k__need_table : PySem.W.keepIn K (.ref f__need_table) = true) (b__need_table : Binds K d__need_table ["table", "part"] [])
  {f_nothing : Addr} {d_nothing : FuncData} (G_nothing : FnOk P w K mg base CX0 15 f_nothing d_nothing ["size"] (sp_nothing C)) (g_nothing : mg "nothing" = some (.ref f_nothing)) (k_nothing : PySem.W.keepIn K (.ref f_nothing) = true) (b_nothing : Binds K d_nothing ["size"] [])
  {f__least_ways : Addr} {d__least_ways : FuncData} (G__least_ways : FnOk P w K mg base CX0 6 f__least_ways d__least_ways ["table"] (sp__least_ways C)) (g__least_ways : mg "_least_ways" = some (.ref f__least_ways)) (k__least_ways : PySem.W.keepIn K (.ref f__least_ways) = true) (b__least_ways : Binds K d__least_ways ["table"] [])
  {f__table_of : Addr} {d__table_of : FuncData} (G__table_of : FnOk P w K mg base CX0 15 f__table_of d__table_of ["least"] (sp__table_of C)) (g__table_of : mg "_table_of" = some (.ref f__table_of)) (k__table_of : PySem.W.keepIn K (.ref f__table_of) = true) (b__table_of : Binds K d__table_of ["least"] [])
  {f__can_hide : Addr} {d__can_hide : FuncData} (G__can_hide : FnOk P w K mg base CX0 9 f__can_hide d__can_hide ["points", "size"] (sp_canHideG C)) (g__can_hide : mg "_can_hide" = some (.ref f__can_hide)) (k__can_hide : PySem.W.keepIn K (.ref f__can_hide) = true) (b__can_hide : Binds K d__can_hide ["points", "size"] [])
  {q_size f_size : Addr} {d_size : FuncData} (G_size : FnOk P w K mg base CX0 3 f_size d_size ["self"] (sp_Table_size C)) (b_size : Binds K d_size ["self"] []) (hp_size : PropOf K C "size" q_size f_size) : FnOk P w K mg base CX0 18 f fd ["table", "points"] (sp_hiddenG C) := by
  have cT := TF.cl
  refine F.ok sc_hidden (fun vs H Q E h => ?_) (fun cdv A outer s H vs Q X h0 h => ?_)
  · obtain ⟨P0, ⟨t, p, ps, n, E, rfl, T1, h1, h2, rfl⟩, kk⟩ := h
    rfl
  · have hr := h0
    have hu := hu_of hr
    have hu4 := Nat.lt_of_le_of_lt (Nat.add_le_add_left (by decide : 4 ≤ 64) _) hr.units
    refine ⟨_, PSs.nox (pss_cons (ps_expr (pe_call G__need_table (hr.mono (by decide)) rfl g__need_table k__need_table b__need_table .nil pass0 (pa_cons (pv 0) (pa_cons pe_non pa_nil))))
      (pss_cons (ps_if (pt_not (pt_val (pe_call G__can_hide (hr.mono (by decide)) rfl g__can_hide k__can_hide b__can_hide .nil pass0 (pa_cons (pv 1) (pa_cons (pe_prop (pv 0) cT hp_size G_size (hr.mono (by decide)) b_size .nil pass0 rfl) pa_nil)))))
        (pss_one ps_never)
        pss_nil)
      (pss_cons (ps_set (i := 2) sc_hidden.nd rfl (by first | exact Or.inl rfl | exact Or.inr rfl) (pe_lc (own := [("point", 4)]) (g := (gName 4)) (wi := (iRng1 (tCons (tOp rAddI (tProp C (sp_Table_size C) [] E0 (tVar 0)) (tC (.int 1))) tNil))) (tt := (tTest (tOp (rIn K true) (tVar 4) (tVar 1)))) (te := (tVar 4)) rfl sc_hidden.nd (pi_range1 rfl T.n_range (pa_cons (pe_op op_add (pe_prop (pv 0) cT hp_size G_size (hr.mono (by decide)) b_size .nil pass0 rfl) pe_int) pa_nil)) (blkOk_by (N := ["table", "points", "left", "least", "point", "a", "b"]) (sc := defScope sx_hidden) (by decide +kernel)) (fun _ _ _ _ _ => (pg_name (i := 4) sc_hidden.nd rfl (by first | exact Or.inl rfl | exact Or.inr rfl))) (fun _ _ _ _ _ => (pts_one (pt_cmpR op_notIn_seq (pv 4) (pv 1) (by with_unfolding_all rfl)))) (fun _ _ _ _ _ => (pv 4))))
      (pss_cons (ps_set (i := 3) sc_hidden.nd rfl (by first | exact Or.inl rfl | exact Or.inr rfl) (pe_call G__least_ways (hr.mono (by decide)) rfl g__least_ways k__least_ways b__least_ways .nil pass0 (pa_cons (pv 0) pa_nil)))
      (pss_cons (ps_if (pt_cmp (pc_isN (pv 3)))
        (pss_one (ps_ret (pe_call G_nothing (hr.mono (by decide)) rfl g_nothing k_nothing b_nothing .nil pass0 (pa_cons (pe_op op_sub (pe_callB call_len (by rfl) T.n_len (by decide +kernel) (pa_cons (pv 2) pa_nil)) pe_int) pa_nil))))
        pss_nil)
      (pss_one (ps_ret (pe_call G__table_of (hr.mono (by decide)) rfl g__table_of k__table_of b__table_of .nil pass0 (pa_cons (pe_lc (own := [("a", 5)]) (g := (gName 5)) (wi := (iList K (tVar 2))) (tt := tYes) (te := (tLc (iList K (tVar 2)) (gName 6) tYes (tOp (rIxL K) (tOp (rIxL K) (tVar 3) (tVar 5)) (tVar 6)) [6])) rfl sc_hidden.nd (pi_list (pv 2)) (blkOk_by (N := ["table", "points", "left", "least", "point", "a", "b"]) (sc := defScope sx_hidden) (by decide +kernel)) (fun _ _ _ _ _ => (pg_name (i := 5) sc_hidden.nd rfl (by first | exact Or.inl rfl | exact Or.inr rfl))) (fun _ _ _ _ _ => pts_nil) (fun _ _ _ _ _ => (pe_lc (own := [("b", 6)]) (g := (gName 6)) (wi := (iList K (tVar 2))) (tt := tYes) (te := (tOp (rIxL K) (tOp (rIxL K) (tVar 3) (tVar 5)) (tVar 6))) rfl sc_hidden.nd (pi_list (pv 2)) (blkOk_by (N := ["table", "points", "left", "least", "point", "a", "b"]) (sc := { kind := .function, names := [(".0", .local), ("a", .cell), ("least", .cell), ("left", .cell)], isGenerator := false, isCoroutine := false }) (by decide +kernel)) (fun _ _ _ _ _ => (pg_name (i := 6) sc_hidden.nd rfl (by first | exact Or.inl rfl | exact Or.inr rfl))) (fun _ _ _ _ _ => pts_nil) (fun _ _ _ _ _ => (pe_ix ix_list (pe_ix ix_list (pv 3) (pv 5) (fun _ _ => rfl)) (pv 6) (fun _ _ => rfl)))))) pa_nil))))))))), ?_⟩
    obtain ⟨P0, ⟨t, p, ps, n, E, rfl, T1, h1, h2, rfl⟩, kk⟩ := h
    exact pure_hiddenG (K := K) (C := C) T1 h1 h2 (fun v H2 e hv => kk _ _ e hv)
abbrev sx__law_begun : Stmt := top 26
theorem sc__law_begun : FnScope ["_law_script", "_law_cells", "_law_cell"] ["_law_script"] (defScope sx__law_begun) := ⟨rfl, rfl, rfl, by decide +kernel, rfl, by decide +kernel, by decide +kernel⟩
theorem ok__law_begun {P : Program} {w : World} {K : PySem.W.Frag} {C : Addr} {mg : Str → Option Value} {base : Heap} {f : Addr} {fd : FuncData} (F : FunD K "_law_begun" "_law_begun" (defArgs sx__law_begun) (defBody sx__law_begun) (defScope sx__law_begun) [] [] f fd) (T : TxtB mg) (TF : TabF K C) : FnOk P w K mg base CX0 3 f fd ["_law_script"] (spBegun K) := by
  have cT := TF.cl
  refine F.ok sc__law_begun (fun vs H Q E h => ?_) (fun cdv A outer s H vs Q X h0 h => ?_)
  · obtain ⟨a, ns, rfl, rest⟩ := h
    rfl
  · have hr := h0
    have hu := hu_of hr
    have hu4 := Nat.lt_of_le_of_lt (Nat.add_le_add_left (by decide : 4 ≤ 64) _) hr.units
    refine ⟨_, PSs.nox (pss_cons (ps_setLc (i := 1) (own := [("_law_cell", 2)]) (g := (gName 2)) (wi := (iList K (tVar 0))) (tt := tYes) (te := (tCB cAbs (tCons (tVar 2) tNil))) rfl sc__law_begun.nd rfl rfl (sw_true rfl rfl rfl (by decide +kernel)) (pi_list (pv 0)) (blkOk_by (N := ["_law_script", "_law_cells", "_law_cell"]) (sc := defScope sx__law_begun) (by decide +kernel)) (fun _ _ _ _ _ => (pg_name (i := 2) sc__law_begun.nd rfl (by first | exact Or.inl rfl | exact Or.inr rfl))) (fun _ _ _ _ _ => pts_nil) (fun _ _ _ _ _ => (pe_callB call_abs (by rfl) T.n_abs (by decide +kernel) (pa_cons (pv 2) pa_nil))))
      (pss_one (ps_ret (pe_disp (pps_cons pe_str (pe_lc (own := [("_law_cell", 2)]) (g := (gName 2)) (wi := (iList K (tVar 1))) (tt := (tTest (tOp rGeI (tVar 2) (tOp rPowI (tC (.int 10)) (tC (.int 18)))))) (te := (tOp rSubI (tVar 2) (tOp rPowI (tC (.int 10)) (tC (.int 18))))) rfl sc__law_begun.nd (pi_list (pv 1)) (blkOk_by (N := ["_law_script", "_law_cells", "_law_cell"]) (sc := defScope sx__law_begun) (by decide +kernel)) (fun _ _ _ _ _ => (pg_name (i := 2) sc__law_begun.nd rfl (by first | exact Or.inl rfl | exact Or.inr rfl))) (fun _ _ _ _ _ => (pts_one (pt_cmpR op_ge (pv 2) (pe_op op_pow pe_int pe_int) (nomark _)))) (fun _ _ _ _ _ => (pe_op op_sub (pv 2) (pe_op op_pow pe_int pe_int)))) (pps_cons pe_str (pv 1) (pps_cons pe_str pe_int (pps_cons pe_str pe_int pps_nil)))) (by rfl) (by rfl) (fun z => by cases z) (by decide))))), ?_⟩
    have h' := h
    exact pure_begun (K := K) vs H Q X h'
abbrev sx__law_draw : Stmt := top 27
theorem sc__law_draw : FnScope ["_law_state", "_law_many", "_law_turn", "_law_cell", "_law_mixed_here", "_law_found"] ["_law_state", "_law_many"] (defScope sx__law_draw) := ⟨rfl, rfl, rfl, by decide +kernel, rfl, by decide +kernel, by decide +kernel⟩
theorem ok__law_draw {P : Program} {w : World} {K : PySem.W.Frag} {C : Addr} {mg : Str → Option Value} {base : Heap} {f : Addr} {fd : FuncData} (F : FunD K "_law_draw" "_law_draw" (defArgs sx__law_draw) (defBody sx__law_draw) (defScope sx__law_draw) [] [] f fd) (T : TxtB mg) (TF : TabF K C) : FnOk P w K mg base CX0 3 f fd ["_law_state", "_law_many"] spDraw := by
  have cT := TF.cl
  refine F.ok sc__law_draw (fun vs H Q E h => ?_) (fun cdv A outer s H vs Q X h0 h => ?_)
  · obtain ⟨st, lg, cs, m, n, rfl, rest⟩ := h
    rfl
  · have hr := h0
    have hu := hu_of hr
    have hu4 := Nat.lt_of_le_of_lt (Nat.add_le_add_left (by decide : 4 ≤ 64) _) hr.units
    refine ⟨_, PSs.nox (pss_cons (ps_while PassesOwn.never (PW.pt (pw_and (pt_cmpR op_eq (pe_dget hu (pv 0) pe_str (fun _ _ => rfl)) pe_int (nomark _)) (pw_and1 (pt_cmpR (op_neD hr.units) (pe_dget hu (pv 0) pe_str (fun _ _ => rfl)) (pe_lst pa_nil) (nomark _)))))
        (pss_one (ps_dput hu (pv 0) pe_str (pe_bm PySem.F.plainAttrs_list PySem.F.slot_list_pop PySem.F.type_list_pop mt_popAt (pe_dget hu (pv 0) pe_str (fun _ _ => rfl)) (pa_cons pe_int pa_nil)) rfl)))
      (pss_cons (ps_if (pt_cmpR op_gt (pe_dget hu (pv 0) pe_str (fun _ _ => rfl)) pe_int (nomark _))
        (pss_cons (ps_set (i := 5) sc__law_draw.nd rfl (by first | exact Or.inl rfl | exact Or.inr rfl) (pe_op op_mod (pe_callTy call_int1 (by rfl) T.n_int (by decide +kernel) (pa_cons (pe_dget hu (pv 0) pe_str (fun _ _ => rfl)) pa_nil)) (pv 1)))
          (pss_cons (ps_dput hu (pv 0) pe_str (pe_op op_fdivW (pe_dget hu (pv 0) pe_str (fun _ _ => rfl)) (pv 1)) rfl)
          (pss_one (ps_ret (pv 5)))))
        pss_nil)
      (pss_cons (ps_set (i := 2) sc__law_draw.nd rfl (by first | exact Or.inl rfl | exact Or.inr rfl) (pe_op op_add (pe_dget hu (pv 0) pe_str (fun _ _ => rfl)) pe_int))
      (pss_cons (ps_dput hu (pv 0) pe_str (pv 2) rfl)
      (pss_cons (ps_set (i := 3) sc__law_draw.nd rfl (by first | exact Or.inl rfl | exact Or.inr rfl) (pe_ifExp (pt_cmpR (op_neD hr.units) (pe_dget hu (pv 0) pe_str (fun _ _ => rfl)) (pe_lst pa_nil) (nomark _)) (pe_ix ix_list (pe_dget hu (pv 0) pe_str (fun _ _ => rfl)) (pe_op op_mod (pe_callTy call_int1 (by rfl) T.n_int (by decide +kernel) (pa_cons (pv 2) pa_nil)) (pe_callB call_len (by rfl) T.n_len (by decide +kernel) (pa_cons (pe_dget hu (pv 0) pe_str (fun _ _ => rfl)) pa_nil))) (fun _ _ => rfl)) pe_int))
      (pss_cons (ps_set (i := 4) sc__law_draw.nd rfl (by first | exact Or.inl rfl | exact Or.inr rfl) (pe_op op_mod (pe_callTy call_int1 (by rfl) T.n_int (by decide +kernel) (pa_cons (pe_op op_pow (pe_op op_add (pe_op op_add (pe_op op_mod (pe_callTy call_int1 (by rfl) T.n_int (by decide +kernel) (pa_cons (pv 3) pa_nil)) pe_int) (pe_op op_mul pe_int (pv 2))) pe_int) pe_int) pa_nil)) pe_int))
      (pss_one (ps_ret (pe_op op_mod (pe_callTy call_int1 (by rfl) T.n_int (by decide +kernel) (pa_cons (pe_op op_fdiv (pe_op op_mod (pe_callTy call_int1 (by rfl) T.n_int (by decide +kernel) (pa_cons (pe_op op_pow (pe_op op_add (pv 4) (pe_op op_mul pe_int (pv 2))) pe_int) pa_nil)) pe_int) pe_int) pa_nil)) (pv 1)))))))))), ?_⟩
    have h' := h
    exact pure_draw (K := K) vs H Q X h'
abbrev sx__law_pick : Stmt := top 28
theorem sc__law_pick : FnScope ["_law_state", "_law_several"] ["_law_state", "_law_several"] (defScope sx__law_pick) := ⟨rfl, rfl, rfl, by decide +kernel, rfl, by decide +kernel, by decide +kernel⟩
theorem ok__law_pick {P : Program} {w : World} {K : PySem.W.Frag} {C : Addr} {mg : Str → Option Value} {base : Heap} {f : Addr} {fd : FuncData} (F : FunD K "_law_pick" "_law_pick" (defArgs sx__law_pick) (defBody sx__law_pick) (defScope sx__law_pick) [] [] f fd) (T : TxtB mg) (TF : TabF K C)
  {f__law_draw : Addr} {d__law_draw : FuncData} (G__law_draw : FnOk P w K mg base CX0 3 f__law_draw d__law_draw ["_law_state", "_law_many"] spDraw) (g__law_draw : mg "_law_draw" = some (.ref f__law_draw)) (k__law_draw : PySem.W.keepIn K (.ref f__law_draw) = true) (b__law_draw : Binds K d__law_draw ["_law_state", "_law_many"] []) : FnOk P w K mg base CX0 6 f fd ["_law_state", "_law_several"] (spPick K) := by
  have cT := TF.cl
  refine F.ok sc__law_pick (fun vs H Q E h => ?_) (fun cdv A outer s H vs Q X h0 h => ?_)
  · obtain ⟨st, lg, cs, p, xs, n, rfl, rest⟩ := h
    rfl
  · have hr := h0
    have hu := hu_of hr
    have hu4 := Nat.lt_of_le_of_lt (Nat.add_le_add_left (by decide : 4 ≤ 64) _) hr.units
    refine ⟨_, PSs.nox (pss_one (ps_ret (pe_ix ix_list (pv 1) (pe_call G__law_draw (hr.mono (by decide)) rfl g__law_draw k__law_draw b__law_draw .nil pass0 (pa_cons (pv 0) (pa_cons (pe_callB call_len (by rfl) T.n_len (by decide +kernel) (pa_cons (pv 1) pa_nil)) pa_nil))) (fun _ _ => rfl)))), ?_⟩
    have h' := h
    exact pure_pick (K := K) vs H Q X h'
abbrev sx__law_mixed : Stmt := top 29
theorem sc__law_mixed : FnScope ["_law_state", "_law_several", "_law_left_here", "_law_found"] ["_law_state", "_law_several"] (defScope sx__law_mixed) := ⟨rfl, rfl, rfl, by decide +kernel, rfl, by decide +kernel, by decide +kernel⟩
theorem ok__law_mixed {P : Program} {w : World} {K : PySem.W.Frag} {C : Addr} {mg : Str → Option Value} {base : Heap} {f : Addr} {fd : FuncData} (F : FunD K "_law_mixed" "_law_mixed" (defArgs sx__law_mixed) (defBody sx__law_mixed) (defScope sx__law_mixed) [] [] f fd) (T : TxtB mg) (TF : TabF K C)
  {f__law_draw : Addr} {d__law_draw : FuncData} (G__law_draw : FnOk P w K mg base CX0 3 f__law_draw d__law_draw ["_law_state", "_law_many"] spDraw) (g__law_draw : mg "_law_draw" = some (.ref f__law_draw)) (k__law_draw : PySem.W.keepIn K (.ref f__law_draw) = true) (b__law_draw : Binds K d__law_draw ["_law_state", "_law_many"] []) : FnOk P w K mg base CX0 6 f fd ["_law_state", "_law_several"] (sp__law_mixed K C) := by
  have cT := TF.cl
  refine F.ok sc__law_mixed (fun vs H Q E h => ?_) (fun cdv A outer s H vs Q X h0 h => ?_)
  · obtain ⟨st, lg, cs, p, xs, n0, rfl, h1, h2, h3, h4, kk⟩ := h
    rfl
  · have hr := h0
    have hu := hu_of hr
    have hu4 := Nat.lt_of_le_of_lt (Nat.add_le_add_left (by decide : 4 ≤ 64) _) hr.units
    refine ⟨_, PSs.nox (pss_cons (ps_par (i := 2) (j := 3) (by rfl) sc__law_mixed.nd rfl rfl (by decide) rfl rfl (pa_cons (pe_callTy call_list_of (by rfl) T.n_list (by decide +kernel) (pa_cons (pv 1) pa_nil)) (pa_cons (pe_lst pa_nil) pa_nil)) (by rfl))
      (pss_cons (ps_while PassesOwn.never (pt_cmpR (op_neD hr.units) (pv 2) (pe_lst pa_nil) (nomark _))
        (pss_one (ps_expr (pe_bm PySem.F.plainAttrs_list PySem.F.slot_list_append PySem.F.type_list_append mt_append (pv 3) (pa_cons (pe_bm PySem.F.plainAttrs_list PySem.F.slot_list_pop PySem.F.type_list_pop mt_popAt (pv 2) (pa_cons (pe_call G__law_draw (hr.mono (by decide)) rfl g__law_draw k__law_draw b__law_draw .nil pass0 (pa_cons (pv 0) (pa_cons (pe_callB call_len (by rfl) T.n_len (by decide +kernel) (pa_cons (pv 2) pa_nil)) pa_nil))) pa_nil)) pa_nil)))))
      (pss_one (ps_ret (pv 3))))), ?_⟩
    obtain ⟨st, lg, cs, p, xs, n0, rfl, h1, h2, h3, h4, kk⟩ := h
    exact pure_law_mixed (K := K) (C := C) h1 h2 h3 h4 kk
abbrev sx__law_levels : Stmt := top 31
theorem sc__law_levels : FnScope ["_law_pool", "_law_found", "_law_part"] ["_law_pool"] (defScope sx__law_levels) := ⟨rfl, rfl, rfl, by decide +kernel, rfl, by decide +kernel, by decide +kernel⟩
theorem ok__law_levels {P : Program} {w : World} {K : PySem.W.Frag} {C : Addr} {mg : Str → Option Value} {base : Heap} {f : Addr} {fd : FuncData} (F : FunD K "_law_levels" "_law_levels" (defArgs sx__law_levels) (defBody sx__law_levels) (defScope sx__law_levels) [] [] f fd) (T : TxtB mg) (TF : TabF K C) : FnOk P w K mg base CX0 3 f fd ["_law_pool"] (sp__law_levels C) := by
  have cT := TF.cl
  refine F.ok sc__law_levels (fun vs H Q E h => ?_) (fun cdv A outer s H vs Q X h0 h => ?_)
  · obtain ⟨P0, ⟨a, xs, H0, rfl, h1, h2, h3, rfl⟩, kk⟩ := h
    rfl
  · have hr := h0
    have hu := hu_of hr
    have hu4 := Nat.lt_of_le_of_lt (Nat.add_le_add_left (by decide : 4 ≤ 64) _) hr.units
    refine ⟨_, PSs.nox (pss_cons (ps_set (i := 1) sc__law_levels.nd rfl (by first | exact Or.inl rfl | exact Or.inr rfl) (pe_lst (pa_cons pe_int pa_nil)))
      (pss_cons (ps_for PassesOwn.never rfl (pi_tup (pv 0)) (pg_name (i := 2) sc__law_levels.nd rfl (by first | exact Or.inl rfl | exact Or.inr rfl))
        (pss_one (ps_expr (pe_bm PySem.F.plainAttrs_list PySem.F.slot_list_append PySem.F.type_list_append mt_append (pv 1) (pa_cons (pe_op op_add (pe_ix ix_list (pv 1) (pe_un un_neg pe_int) (fun _ _ => rfl)) (pv 2)) pa_nil)))))
      (pss_one (ps_ret (pv 1))))), ?_⟩
    obtain ⟨P0, ⟨a, xs, H0, rfl, h1, h2, h3, rfl⟩, kk⟩ := h
    exact pure_law_levels (K := K) (C := C) h1 h2 (fun p H1 e hn hp => kk _ _ e ⟨p, rfl, ex_none h3 hn, hp⟩)
abbrev sx__law_caps : Stmt := top 33
theorem sc__law_caps : FnScope ["_law_state", "_law_many", "_law_thick", "_law_wide", "_law_found", "_law_a_here", "_law_b_here"] ["_law_state", "_law_many", "_law_thick", "_law_wide"] (defScope sx__law_caps) := ⟨rfl, rfl, rfl, by decide +kernel, rfl, by decide +kernel, by decide +kernel⟩
theorem ok_capsW {P : Program} {w : World} {K : PySem.W.Frag} {C : Addr} {mg : Str → Option Value} {base : Heap} {f : Addr} {fd : FuncData} (F : FunD K "_law_caps" "_law_caps" (defArgs sx__law_caps) (defBody sx__law_caps) (defScope sx__law_caps) [] [] f fd) (T : TxtB mg) (TF : TabF K C)
  {f__law_draw : Addr} {d__law_draw : FuncData} (G__law_draw : FnOk P w K mg base CX0 3 f__law_draw d__law_draw ["_law_state", "_law_many"] spDraw) (g__law_draw : mg "_law_draw" = some (.ref f__law_draw)) (k__law_draw : PySem.W.keepIn K (.ref f__law_draw) = true) (b__law_draw : Binds K d__law_draw ["_law_state", "_law_many"] [])
  {f__law_pick : Addr} {d__law_pick : FuncData} (G__law_pick : FnOk P w K mg base CX0 6 f__law_pick d__law_pick ["_law_state", "_law_several"] (spPick K)) (g__law_pick : mg "_law_pick" = some (.ref f__law_pick)) (k__law_pick : PySem.W.keepIn K (.ref f__law_pick) = true) (b__law_pick : Binds K d__law_pick ["_law_state", "_law_several"] []) : FnOk P w K mg base CX0 9 f fd ["_law_state", "_law_many", "_law_thick", "_law_wide"] (sp_capsW C) := by
  have cT := TF.cl
  refine F.ok sc__law_caps (fun vs H Q E h => ?_) (fun cdv A outer s H vs Q X h0 h => ?_)
  · obtain ⟨st, lg, cs, many, thick, wide, n0, rfl, h1, h2, h3, h4, h5, h6, h7, kk⟩ := h
    rfl
  · have hr := h0
    have hu := hu_of hr
    have hu4 := Nat.lt_of_le_of_lt (Nat.add_le_add_left (by decide : 4 ≤ 64) _) hr.units
    refine ⟨_, PSs.nox (pss_cons (ps_set (i := 4) sc__law_caps.nd rfl (by first | exact Or.inl rfl | exact Or.inr rfl) pe_dnewT)
      (pss_cons (ps_for PassesOwn.never rfl (pi_range1 rfl T.n_range (pa_cons (pe_op op_add (pv 1) pe_int) pa_nil)) (pg_name (i := 5) sc__law_caps.nd rfl (by first | exact Or.inl rfl | exact Or.inr rfl))
        (pss_one (ps_for PassesOwn.never rfl (pi_range1 rfl T.n_range (pa_cons (pe_op op_add (pv 1) pe_int) pa_nil)) (pg_name (i := 6) sc__law_caps.nd rfl (by first | exact Or.inl rfl | exact Or.inr rfl))
            (pss_one (ps_if (PW.pt (pw_and (pt_cmpR op_ne (pv 5) (pv 6) (nomark _)) (pw_and1 (pt_cmpR op_eq (pe_call G__law_draw (hr.mono (by decide)) rfl g__law_draw k__law_draw b__law_draw .nil pass0 (pa_cons (pv 0) (pa_cons (pv 2) pa_nil))) pe_int (nomark _)))))
                (pss_one (ps_dput hu (pv 4) (pe_tup (pa_cons (pv 5) (pa_cons (pv 6) pa_nil))) (pe_op op_sub (pe_call G__law_draw (hr.mono (by decide)) rfl g__law_draw k__law_draw b__law_draw .nil pass0 (pa_cons (pv 0) (pa_cons (pe_op op_add (pe_op op_mul pe_int (pv 3)) pe_int) pa_nil))) (pe_call G__law_pick (hr.mono (by decide)) rfl g__law_pick k__law_pick b__law_pick .nil pass0 (pa_cons (pv 0) (pa_cons (pe_lst (pa_cons pe_int (pa_cons (pv 3) (pa_cons (pe_op op_fdiv (pv 3) pe_int) pa_nil)))) pa_nil)))) rfl))
                pss_nil)))))
      (pss_one (ps_ret (pv 4))))), ?_⟩
    obtain ⟨st, lg, cs, many, thick, wide, n0, rfl, h1, h2, h3, h4, h5, h6, h7, kk⟩ := h
    exact pure_capsW (K := K) (C := C) h1 h2 h3 h4 h5 h6 h7 kk
abbrev sx__law_closed : Stmt := top 34
theorem sc__law_closed : FnScope ["_law_caps_here", "_law_many", "_law_found", "_law_is_still", "_law_turns", "_law_pair", "_law_pairs", "_law_cap", "_law_one_cap", "_law_way", "_law_total"] ["_law_caps_here", "_law_many"] (defScope sx__law_closed) := ⟨rfl, rfl, rfl, by decide +kernel, rfl, by decide +kernel, by decide +kernel⟩
theorem ok__law_closed {P : Program} {w : World} {K : PySem.W.Frag} {C : Addr} {mg : Str → Option Value} {base : Heap} {f : Addr} {fd : FuncData} (F : FunD K "_law_closed" "_law_closed" (defArgs sx__law_closed) (defBody sx__law_closed) (defScope sx__law_closed) [] [] f fd) (T : TxtB mg) (TF : TabF K C) : FnOk P w K mg base CX0 3 f fd ["_law_caps_here", "_law_many"] (sp__law_closed C) := by
  have cT := TF.cl
  refine F.ok sc__law_closed (fun vs H Q E h => ?_) (fun cdv A outer s H vs Q X h0 h => ?_)
  · obtain ⟨P0, ⟨c, n, E, H0, rfl, h1, h2, h3, h4, h5, h6, rfl⟩, kk⟩ := h
    rfl
  · have hr := h0
    have hu := hu_of hr
    have hu4 := Nat.lt_of_le_of_lt (Nat.add_le_add_left (by decide : 4 ≤ 64) _) hr.units
    refine ⟨_, PSs.nox (pss_cons (ps_par3 (i := 2) (j := 3) (l := 4) (by rfl) sc__law_closed.nd rfl rfl rfl (by decide) (by decide) (by decide) rfl rfl rfl (pa_cons (pe_callTy (call_dictPT rfl hu4) (by rfl) T.n_dict (by decide +kernel) (pa_cons (pe_callTy (call_listItT rfl) (by rfl) T.n_list (by decide +kernel) (pa_cons (pe_bm0 PySem.F.plainAttrs_dict PySem.F.slot_dict_items PySem.F.type_dict_items DX.mt_itemsT (pv 0)) pa_nil)) pa_nil)) (pa_cons pe_bl (pa_cons pe_int pa_nil))) (by rfl))
      (pss_cons (ps_while PassesOwn.never (PW.pt (pw_and (pt_not (pt_val (pv 3))) (pw_and1 (pt_cmpR op_lt (pv 4) (pe_op op_add (pv 1) pe_int) (nomark _)))))
        (pss_cons (ps_par3 (i := 3) (j := 4) (l := 6) (by rfl) sc__law_closed.nd rfl rfl rfl (by decide) (by decide) (by decide) rfl rfl rfl (pa_cons pe_bl (pa_cons (pe_op op_add (pv 4) pe_int) (pa_cons (pe_callB (cr_sortedDT rfl) (by rfl) T.n_sorted (by decide +kernel) (pa_cons (pv 2) pa_nil)) pa_nil))) (by rfl))
          (pss_one (ps_for PassesOwn.never rfl (pi_list (pv 6)) (pg_name (i := 5) sc__law_closed.nd rfl (by first | exact Or.inl rfl | exact Or.inr rfl))
            (pss_one (ps_for PassesOwn.never rfl (pi_list (pe_lock (pe_lc (own := [("_law_one_cap", 8)]) (g := (gName 8)) (wi := (iKeys (tVar 0))) (tt := (tTest (tOp rEq (tOp (rIxT K) (tVar 8) (tC (.int 0))) (tOp (rIxT K) (tVar 5) (tC (.int 1)))))) (te := (tVar 8)) rfl sc__law_closed.nd (pi_keys (pv 0)) (blkOk_by (N := ["_law_caps_here", "_law_many", "_law_found", "_law_is_still", "_law_turns", "_law_pair", "_law_pairs", "_law_cap", "_law_one_cap", "_law_way", "_law_total"]) (sc := defScope sx__law_closed) (by decide +kernel)) (fun _ _ _ _ _ => (pg_name (i := 8) sc__law_closed.nd rfl (by first | exact Or.inl rfl | exact Or.inr rfl))) (fun _ _ _ _ _ => (pts_one (pt_cmpR op_eq (pe_ix ix_tup (pv 8) pe_int (fun _ _ => rfl)) (pe_ix ix_tup (pv 5) pe_int (fun _ _ => rfl)) (nomark _)))) (fun _ _ _ _ _ => (pv 8))))) (pg_name (i := 7) sc__law_closed.nd rfl (by first | exact Or.inl rfl | exact Or.inr rfl))
                (pss_cons (ps_par (i := 9) (j := 10) (by rfl) sc__law_closed.nd rfl rfl (by decide) rfl rfl (pa_cons (pe_tup (pa_cons (pe_ix ix_tup (pv 5) pe_int (fun _ _ => rfl)) (pa_cons (pe_ix ix_tup (pv 7) pe_int (fun _ _ => rfl)) pa_nil))) (pa_cons (pe_op op_add (pe_dget hu (pv 2) (pv 5) (fun _ _ => rfl)) (pe_dget hu (pv 0) (pv 7) (fun _ _ => rfl))) pa_nil)) (by rfl))
                  (pss_cons (ps_if (PW.pt (pw_and (pt_cmpR op_eq (pe_ix ix_tup (pv 9) pe_int (fun _ _ => rfl)) (pe_ix ix_tup (pv 9) pe_int (fun _ _ => rfl)) (nomark _)) (pw_and1 (pt_cmpR op_lt (pv 10) pe_int (nomark _)))))
                    (pss_one (ps_ret pe_non))
                    pss_nil)
                  (pss_one (ps_if (PW.pt (pw_and (pt_cmpR op_ne (pe_ix ix_tup (pv 9) pe_int (fun _ _ => rfl)) (pe_ix ix_tup (pv 9) pe_int (fun _ _ => rfl)) (nomark _)) (pw_and1 (PW.pt (pw_or (pt_cmp (pc_dnotin hu (pv 9) (pv 2))) (pw_or1 (pt_cmpR op_lt (pv 10) (pe_dget hu (pv 2) (pv 9) (fun _ _ => rfl)) (nomark _))))))))
                    (pss_cons (ps_dput hu (pv 2) (pv 9) (pv 10) rfl)
                      (pss_one (ps_set (i := 3) sc__law_closed.nd rfl (by first | exact Or.inl rfl | exact Or.inr rfl) pe_bl)))
                    pss_nil))))))))))
      (pss_one (ps_ret (pe_ifExp (pt_val (pv 3)) (pv 2) pe_non))))), ?_⟩
    obtain ⟨P0, ⟨c, n, E, H0, rfl, h1, h2, h3, h4, h5, h6, rfl⟩, kk⟩ := h
    exact pure_law_closed (K := K) (C := C) h1 h2 h3 h4 h5 (fun hno H2 e => kk _ _ e (Or.inl ⟨rfl, hno⟩)) (fun d F H2 e hn hd g nd cl ft => kk _ _ e (Or.inr ⟨d, F, rfl, ex_none h6 hn, hd, g, nd, cl, ft⟩))
abbrev sx__law_both : Stmt := top 35
theorem sc__law_both : FnScope ["_law_caps_here", "_law_more", "_law_found", "_law_pair"] ["_law_caps_here", "_law_more"] (defScope sx__law_both) := ⟨rfl, rfl, rfl, by decide +kernel, rfl, by decide +kernel, by decide +kernel⟩
theorem ok__law_both {P : Program} {w : World} {K : PySem.W.Frag} {C : Addr} {mg : Str → Option Value} {base : Heap} {f : Addr} {fd : FuncData} (F : FunD K "_law_both" "_law_both" (defArgs sx__law_both) (defBody sx__law_both) (defScope sx__law_both) [] [] f fd) (T : TxtB mg) (TF : TabF K C) : FnOk P w K mg base CX0 3 f fd ["_law_caps_here", "_law_more"] (sp__law_both C) := by
  have cT := TF.cl
  refine F.ok sc__law_both (fun vs H Q E h => ?_) (fun cdv A outer s H vs Q X h0 h => ?_)
  · obtain ⟨P0, ⟨c, d, n, E, E2, H0, h6, rfl, h1, h2, h3, h4, h5, h7, h8, h9, rfl⟩, kk⟩ := h
    rfl
  · have hr := h0
    have hu := hu_of hr
    have hu4 := Nat.lt_of_le_of_lt (Nat.add_le_add_left (by decide : 4 ≤ 64) _) hr.units
    refine ⟨_, PSs.nox (pss_cons (ps_set (i := 2) sc__law_both.nd rfl (by first | exact Or.inl rfl | exact Or.inr rfl) (pe_callTy (call_dictPT rfl hu4) (by rfl) T.n_dict (by decide +kernel) (pa_cons (pe_callTy (call_listItT rfl) (by rfl) T.n_list (by decide +kernel) (pa_cons (pe_bm0 PySem.F.plainAttrs_dict PySem.F.slot_dict_items PySem.F.type_dict_items DX.mt_itemsT (pv 0)) pa_nil)) pa_nil)))
      (pss_cons (ps_lock (ps_for PassesOwn.never rfl (pi_keys (pv 1)) (pg_name (i := 3) sc__law_both.nd rfl (by first | exact Or.inl rfl | exact Or.inr rfl))
        (pss_one (ps_dput hu (pv 2) (pv 3) (pe_callB (call_min2 rfl) (by rfl) T.n_min (by decide +kernel) (pa_cons (pe_dget hu (pv 1) (pv 3) (fun _ _ => rfl)) (pa_cons (pe_dget2 hu (pv 2) (pv 3) (pe_dget hu (pv 1) (pv 3) (fun _ _ => rfl)) ⟨rfl, rfl, rfl, rfl⟩) pa_nil))) rfl))))
      (pss_one (ps_ret (pv 2))))), ?_⟩
    obtain ⟨P0, ⟨c, d, n, E, E2, H0, h6, rfl, h1, h2, h3, h4, h5, h7, h8, h9, rfl⟩, kk⟩ := h
    exact pure_law_both (K := K) (C := C) h1 h2 h3 h4 h5 h7 h8 h9 (fun f F H2 e hn hf g nd ok => kk _ _ e ⟨f, F, rfl, ex_none h6 hn, hf, g, nd, ok⟩)
abbrev sx__law_left : Stmt := top 36
theorem sc__law_left : FnScope ["_law_caps_here", "_law_many", "_law_spots", "_law_found", "_law_a_here", "_law_known", "_law_kept", "_law_b_here", "_law_point"] ["_law_caps_here", "_law_many", "_law_spots"] (defScope sx__law_left) := ⟨rfl, rfl, rfl, by decide +kernel, rfl, by decide +kernel, by decide +kernel⟩
theorem ok__law_left {P : Program} {w : World} {K : PySem.W.Frag} {C : Addr} {mg : Str → Option Value} {base : Heap} {f : Addr} {fd : FuncData} (F : FunD K "_law_left" "_law_left" (defArgs sx__law_left) (defBody sx__law_left) (defScope sx__law_left) [] [] f fd) (T : TxtB mg) (TF : TabF K C)
  {f__law_closed : Addr} {d__law_closed : FuncData} (G__law_closed : FnOk P w K mg base CX0 3 f__law_closed d__law_closed ["_law_caps_here", "_law_many"] (sp__law_closed C)) (g__law_closed : mg "_law_closed" = some (.ref f__law_closed)) (k__law_closed : PySem.W.keepIn K (.ref f__law_closed) = true) (b__law_closed : Binds K d__law_closed ["_law_caps_here", "_law_many"] []) : FnOk P w K mg base CX0 6 f fd ["_law_caps_here", "_law_many", "_law_spots"] (sp__law_left C) := by
  have cT := TF.cl
  refine F.ok sc__law_left (fun vs H Q E h => ?_) (fun cdv A outer s H vs Q X h0 h => ?_)
  · obtain ⟨P0, ⟨c, p, n, E, ps, H0, h0x, rfl, h1, h2, h3, h4, h5, h6, h7, rfl⟩, kk⟩ := h
    rfl
  · have hr := h0
    have hu := hu_of hr
    have hu4 := Nat.lt_of_le_of_lt (Nat.add_le_add_left (by decide : 4 ≤ 64) _) hr.units
    refine ⟨_, PSs.nox (pss_cons (ps_par (i := 5) (j := 6) (by rfl) sc__law_left.nd rfl rfl (by decide) rfl rfl (pa_cons (pe_call G__law_closed (hr.mono (by decide)) rfl g__law_closed k__law_closed b__law_closed .nil pass0 (pa_cons (pv 0) (pa_cons (pv 1) pa_nil))) (pa_cons (pe_lc (own := [("_law_point", 8)]) (g := (gName 8)) (wi := (iRng1 (tCons (tOp rAddI (tVar 1) (tC (.int 1))) tNil))) (tt := (tTest (tOp (rIn K true) (tVar 8) (tVar 2)))) (te := (tVar 8)) rfl sc__law_left.nd (pi_range1 rfl T.n_range (pa_cons (pe_op op_add (pv 1) pe_int) pa_nil)) (blkOk_by (N := ["_law_caps_here", "_law_many", "_law_spots", "_law_found", "_law_a_here", "_law_known", "_law_kept", "_law_b_here", "_law_point"]) (sc := defScope sx__law_left) (by decide +kernel)) (fun _ _ _ _ _ => (pg_name (i := 8) sc__law_left.nd rfl (by first | exact Or.inl rfl | exact Or.inr rfl))) (fun _ _ _ _ _ => (pts_one (pt_cmpR op_notIn_seq (pv 8) (pv 2) (by with_unfolding_all rfl)))) (fun _ _ _ _ _ => (pv 8))) pa_nil)) (by rfl))
      (pss_cons (ps_if (pt_cmp (pc_isN (pv 5)))
        (pss_one (ps_ret pe_non))
        pss_nil)
      (pss_cons (ps_set (i := 3) sc__law_left.nd rfl (by first | exact Or.inl rfl | exact Or.inr rfl) pe_dnewT)
      (pss_cons (ps_for PassesOwn.never rfl (pi_range1 rfl T.n_range (pa_cons (pe_callB call_len (by rfl) T.n_len (by decide +kernel) (pa_cons (pv 6) pa_nil)) pa_nil)) (pg_name (i := 4) sc__law_left.nd rfl (by first | exact Or.inl rfl | exact Or.inr rfl))
        (pss_one (ps_for PassesOwn.never rfl (pi_range1 rfl T.n_range (pa_cons (pe_callB call_len (by rfl) T.n_len (by decide +kernel) (pa_cons (pv 6) pa_nil)) pa_nil)) (pg_name (i := 7) sc__law_left.nd rfl (by first | exact Or.inl rfl | exact Or.inr rfl))
            (pss_one (ps_if (pt_cmp (pc_din hu (pe_tup (pa_cons (pe_ix ix_list (pv 6) (pv 4) (fun _ _ => rfl)) (pa_cons (pe_ix ix_list (pv 6) (pv 7) (fun _ _ => rfl)) pa_nil))) (pv 5)))
                (pss_one (ps_dput hu (pv 3) (pe_tup (pa_cons (pv 4) (pa_cons (pv 7) pa_nil))) (pe_dget hu (pv 5) (pe_tup (pa_cons (pe_ix ix_list (pv 6) (pv 4) (fun _ _ => rfl)) (pa_cons (pe_ix ix_list (pv 6) (pv 7) (fun _ _ => rfl)) pa_nil))) (fun _ _ => rfl)) rfl))
                pss_nil)))))
      (pss_one (ps_ret (pv 3))))))), ?_⟩
    obtain ⟨P0, ⟨c, p, n, E, ps, H0, h0x, rfl, h1, h2, h3, h4, h5, h6, h7, rfl⟩, kk⟩ := h
    exact pure_law_left (K := K) (C := C) h1 h2 h3 h4 h5 h6 h7 (fun v H2 e hv => kk _ _ e (leftP_old h0x hv))
abbrev sx__law_met : Stmt := top 37
theorem sc__law_met : FnScope ["_law_caps_here", "_law_many", "_law_spots", "_law_told", "_law_pool", "_law_kept", "_law_levels_here", "_law_fixed", "_law_k", "_law_point"] ["_law_caps_here", "_law_many", "_law_spots", "_law_told"] (defScope sx__law_met) := ⟨rfl, rfl, rfl, by decide +kernel, rfl, by decide +kernel, by decide +kernel⟩
theorem ok__law_met {P : Program} {w : World} {K : PySem.W.Frag} {C : Addr} {mg : Str → Option Value} {base : Heap} {f : Addr} {fd : FuncData} (F : FunD K "_law_met" "_law_met" (defArgs sx__law_met) (defBody sx__law_met) (defScope sx__law_met) [] [] f fd) (T : TxtB mg) (TF : TabF K C)
  {f_a_water : Addr} {d_a_water : FuncData} (G_a_water : FnOk P w K mg base CX0 9 f_a_water d_a_water ["table"] (sp_a_water C)) (g_a_water : mg "a_water" = some (.ref f_a_water)) (k_a_water : PySem.W.keepIn K (.ref f_a_water) = true) (b_a_water : Binds K d_a_water ["table"] [])
  {f__law_levels : Addr} {d__law_levels : FuncData} (G__law_levels : FnOk P w K mg base CX0 3 f__law_levels d__law_levels ["_law_pool"] (sp__law_levels C)) (g__law_levels : mg "_law_levels" = some (.ref f__law_levels)) (k__law_levels : PySem.W.keepIn K (.ref f__law_levels) = true) (b__law_levels : Binds K d__law_levels ["_law_pool"] [])
  {f__law_closed : Addr} {d__law_closed : FuncData} (G__law_closed : FnOk P w K mg base CX0 3 f__law_closed d__law_closed ["_law_caps_here", "_law_many"] (sp__law_closed C)) (g__law_closed : mg "_law_closed" = some (.ref f__law_closed)) (k__law_closed : PySem.W.keepIn K (.ref f__law_closed) = true) (b__law_closed : Binds K d__law_closed ["_law_caps_here", "_law_many"] [])
  {f__law_both : Addr} {d__law_both : FuncData} (G__law_both : FnOk P w K mg base CX0 3 f__law_both d__law_both ["_law_caps_here", "_law_more"] (sp__law_both C)) (g__law_both : mg "_law_both" = some (.ref f__law_both)) (k__law_both : PySem.W.keepIn K (.ref f__law_both) = true) (b__law_both : Binds K d__law_both ["_law_caps_here", "_law_more"] []) : FnOk P w K mg base CX0 12 f fd ["_law_caps_here", "_law_many", "_law_spots", "_law_told"] (sp__law_met C) := by
  have cT := TF.cl
  refine F.ok sc__law_met (fun vs H Q E h => ?_) (fun cdv A outer s H vs Q X h0 h => ?_)
  · obtain ⟨P0, ⟨c, p, u, n, m, E, E2, ps, rfl, h1, h2, h3, h4, h5, h6, h7, h8, U, hid, rfl⟩, kk⟩ := h
    rfl
  · have hr := h0
    have hu := hu_of hr
    have hu4 := Nat.lt_of_le_of_lt (Nat.add_le_add_left (by decide : 4 ≤ 64) _) hr.units
    refine ⟨_, PSs.nox (pss_cons (ps_set (i := 4) sc__law_met.nd rfl (by first | exact Or.inl rfl | exact Or.inr rfl) (pe_call G_a_water (hr.mono (by decide)) rfl g_a_water k_a_water b_a_water .nil pass0 (pa_cons (pv 3) pa_nil)))
      (pss_cons (ps_if (pt_cmp (pc_isN (pv 4)))
        (pss_one (ps_ret pe_bl))
        pss_nil)
      (pss_cons (ps_par3 (i := 5) (j := 6) (l := 7) (by rfl) sc__law_met.nd rfl rfl rfl (by decide) (by decide) (by decide) rfl rfl rfl (pa_cons (pe_lc (own := [("_law_point", 9)]) (g := (gName 9)) (wi := (iRng1 (tCons (tOp rAddI (tVar 1) (tC (.int 1))) tNil))) (tt := (tTest (tOp (rIn K true) (tVar 9) (tVar 2)))) (te := (tVar 9)) rfl sc__law_met.nd (pi_range1 rfl T.n_range (pa_cons (pe_op op_add (pv 1) pe_int) pa_nil)) (blkOk_by (N := ["_law_caps_here", "_law_many", "_law_spots", "_law_told", "_law_pool", "_law_kept", "_law_levels_here", "_law_fixed", "_law_k", "_law_point"]) (sc := defScope sx__law_met) (by decide +kernel)) (fun _ _ _ _ _ => (pg_name (i := 9) sc__law_met.nd rfl (by first | exact Or.inl rfl | exact Or.inr rfl))) (fun _ _ _ _ _ => (pts_one (pt_cmpR op_notIn_seq (pv 9) (pv 2) (by with_unfolding_all rfl)))) (fun _ _ _ _ _ => (pv 9))) (pa_cons (pe_call G__law_levels (hr.mono (by decide)) rfl g__law_levels k__law_levels b__law_levels .nil pass0 (pa_cons (pv 4) pa_nil)) (pa_cons pe_dnewT pa_nil))) (by rfl))
      (pss_cons (ps_for PassesOwn.never rfl (pi_enum (by rfl) T.n_enumerate (pa_cons (pe_slice sl_list (pv 5) (po_some pe_int) po_none) pa_nil)) (pg_tup rfl (pgs_cons (pg_name (i := 8) sc__law_met.nd rfl (by first | exact Or.inl rfl | exact Or.inr rfl)) (pgs_cons (pg_name (i := 9) sc__law_met.nd rfl (by first | exact Or.inl rfl | exact Or.inr rfl)) pgs_nil)))
        (pss_cons (ps_dput hu (pv 7) (pe_tup (pa_cons (pv 9) (pa_cons pe_int pa_nil))) (pe_ix ix_list (pv 6) (pe_op op_add (pv 8) pe_int) (fun _ _ => rfl)) rfl)
          (pss_one (ps_dput hu (pv 7) (pe_tup (pa_cons pe_int (pa_cons (pv 9) pa_nil))) (pe_op op_sub pe_int (pe_ix ix_list (pv 6) (pe_op op_add (pv 8) pe_int) (fun _ _ => rfl))) rfl))))
      (pss_one (ps_ret (pe_cmp (pc_notN (pe_call G__law_closed (hr.mono (by decide)) rfl g__law_closed k__law_closed b__law_closed .nil pass0 (pa_cons (pe_call G__law_both (hr.mono (by decide)) rfl g__law_both k__law_both b__law_both .nil pass0 (pa_cons (pv 0) (pa_cons (pv 7) pa_nil))) (pa_cons (pv 1) pa_nil)))) rfl))))))), ?_⟩
    obtain ⟨P0, ⟨c, p, u, n, m, E, E2, ps, rfl, h1, h2, h3, h4, h5, h6, h7, h8, U, hid, rfl⟩, kk⟩ := h
    exact pure_law_met (K := K) (C := C) h1 h2 h3 h4 h5 h6 h7 h8 U hid (fun H1 e => kk _ _ e rfl)
theorem ok_is_numberS {P : Program} {w : World} {K : PySem.W.Frag} {C : Addr} {mg : Str → Option Value} {base : Heap} {f : Addr} {fd : FuncData} (F : FunD K "is_number" "is_number" (defArgs sx_is_number) (defBody sx_is_number) (defScope sx_is_number) [] [] f fd) (T : TxtB mg) (TF : TabF K C) : FnOk P w K mg base CX0 3 f fd ["thing"] (sp_is_numberS C) := by
  have cT := TF.cl
  refine F.ok sc_is_number (fun vs H Q E h => ?_) (fun cdv A outer s H vs Q X h0 h => ?_)
  · obtain ⟨P0, ⟨x, rfl, h1, rfl⟩, kk⟩ := h
    rfl
  · have hr := h0
    have hu := hu_of hr
    have hu4 := Nat.lt_of_le_of_lt (Nat.add_le_add_left (by decide : 4 ≤ 64) _) hr.units
    refine ⟨_, PSs.nox (pss_one (ps_ret (pe_and (pe_callB call_isi (by rfl) T.n_isinstance (by decide +kernel) (pa_cons (pv 0) (pa_cons (pe_bltn (by rfl) T.n_int (by decide +kernel) (show RelV (.ty "int") _ from rfl)) pa_nil))) (pe_one (pe_not (pe_callB call_isi (by rfl) T.n_isinstance (by decide +kernel) (pa_cons (pv 0) (pa_cons (pe_bltn (by rfl) T.n_bool (by decide +kernel) (show RelV (.ty "bool") _ from rfl)) pa_nil)))))))), ?_⟩
    obtain ⟨P0, ⟨x, rfl, h1, rfl⟩, kk⟩ := h
    exact pure_is_numberS (K := K) (C := C) h1 (fun H1 e => kk _ _ e rfl)
theorem ok_betweenS {P : Program} {w : World} {K : PySem.W.Frag} {C : Addr} {mg : Str → Option Value} {base : Heap} {f : Addr} {fd : FuncData} (F : FunD K "is_number_between" "is_number_between" (defArgs sx_is_number_between) (defBody sx_is_number_between) (defScope sx_is_number_between) [] [] f fd) (T : TxtB mg) (TF : TabF K C)
  {f_is_number : Addr} {d_is_number : FuncData} (G_is_number : FnOk P w K mg base CX0 3 f_is_number d_is_number ["thing"] (sp_is_numberS C)) (g_is_number : mg "is_number" = some (.ref f_is_number)) (k_is_number : PySem.W.keepIn K (.ref f_is_number) = true) (b_is_number : Binds K d_is_number ["thing"] []) : FnOk P w K mg base CX0 6 f fd ["thing", "least", "most"] (sp_betweenS C) := by
  have cT := TF.cl
  refine F.ok sc_is_number_between (fun vs H Q E h => ?_) (fun cdv A outer s H vs Q X h0 h => ?_)
  · obtain ⟨P0, ⟨x, lo, hi, rfl, h1, rfl⟩, kk⟩ := h
    rfl
  · have hr := h0
    have hu := hu_of hr
    have hu4 := Nat.lt_of_le_of_lt (Nat.add_le_add_left (by decide : 4 ≤ 64) _) hr.units
    refine ⟨_, PSs.nox (pss_one (ps_ret (pe_and (pe_call G_is_number (hr.mono (by decide)) rfl g_is_number k_is_number b_is_number .nil pass0 (pa_cons (pv 0) pa_nil)) (pe_one (pe_chain op_le op_le (pv 1) (pv 0) (pv 2)))))), ?_⟩
    obtain ⟨P0, ⟨x, lo, hi, rfl, h1, rfl⟩, kk⟩ := h
    exact pure_betweenS (K := K) (C := C) h1 (fun H1 e => kk _ _ e rfl)
theorem ok_canHideN {P : Program} {w : World} {K : PySem.W.Frag} {C : Addr} {mg : Str → Option Value} {base : Heap} {f : Addr} {fd : FuncData} (F : FunD K "_can_hide" "_can_hide" (defArgs sx__can_hide) (defBody sx__can_hide) (defScope sx__can_hide) [] [] f fd) (T : TxtB mg) (TF : TabF K C)
  {f_is_number_between : Addr} {d_is_number_between : FuncData} (G_is_number_between : FnOk P w K mg base CX0 6 f_is_number_between d_is_number_between ["thing", "least", "most"] (sp_betweenS C)) (g_is_number_between : mg "is_number_between" = some (.ref f_is_number_between)) (k_is_number_between : PySem.W.keepIn K (.ref f_is_number_between) = true) (b_is_number_between : Binds K d_is_number_between ["thing", "least", "most"] []) : FnOk P w K mg base CX0 9 f fd ["points", "size"] (sp_canHideN K C) := by
  have cT := TF.cl
  refine F.ok sc__can_hide (fun vs H Q E h => ?_) (fun cdv A outer s H vs Q X h0 h => ?_)
  · obtain ⟨P0, ⟨v, n, rfl, h1, h2, rfl⟩, kk⟩ := h
    rfl
  · have hr := h0
    have hu := hu_of hr
    have hu4 := Nat.lt_of_le_of_lt (Nat.add_le_add_left (by decide : 4 ≤ 64) _) hr.units
    refine ⟨_, PSs.nox (pss_cons (ps_if (PW.pt (pw_or (pt_not (pt_val (pe_callB call_isi (by rfl) T.n_isinstance (by decide +kernel) (pa_cons (pv 0) (pa_cons (pe_bltn (by rfl) T.n_tuple (by decide +kernel) (show RelV (.ty "tuple") _ from rfl)) pa_nil))))) (pw_or1 (pt_cmpR op_ge (pe_callB call_len (by rfl) T.n_len (by decide +kernel) (pa_cons (pv 0) pa_nil)) (pv 1) (nomark _)))))
        (pss_one (ps_ret pe_bl))
        pss_nil)
      (pss_cons (ps_if (pt_not (pt_val (pe_callB (cr_all rfl) (by rfl) T.n_all (by decide +kernel) (pa_cons (pe_lc (own := [("point", 2)]) (g := (gName 2)) (wi := (iTup K (tVar 0))) (tt := tYes) (te := (tCall (sp_betweenS C) [] E0 (tCons (tVar 2) (tCons (tC (.int 1)) (tCons (tVar 1) tNil))))) rfl sc__can_hide.nd (pi_tup (pv 0)) (blkOk_by (N := ["points", "size", "point", "above", "below"]) (sc := defScope sx__can_hide) (by decide +kernel)) (fun _ _ _ _ _ => (pg_name (i := 2) sc__can_hide.nd rfl (by first | exact Or.inl rfl | exact Or.inr rfl))) (fun _ _ _ _ _ => pts_nil) (fun _ _ _ _ _ => (pe_call G_is_number_between (hr.mono (by decide)) rfl g_is_number_between k_is_number_between b_is_number_between .nil pass0 (pa_cons (pv 2) (pa_cons pe_int (pa_cons (pv 1) pa_nil)))))) pa_nil))))
        (pss_one (ps_ret pe_bl))
        pss_nil)
      (pss_one (ps_ret (pe_callB (cr_all rfl) (by rfl) T.n_all (by decide +kernel) (pa_cons (pe_lc (own := [("above", 3), ("below", 4)]) (g := (gTup K 2 (gCons (gName 3) (gCons (gName 4) gNil)))) (wi := (RZ.iZipA K (tCons (tVar 0) (tCons (tSl (rSlA K) (tVar 0) (tPart (tC (.int 1))) tNoPart) tNil)))) (tt := tYes) (te := (tOp rLtI (tVar 3) (tVar 4))) rfl sc__can_hide.nd (RZ.pi_zipA (by rfl) T.n_zip (pa_cons (pv 0) (pa_cons (pe_slice sl_tupA (pv 0) (po_some pe_int) po_none) pa_nil))) (blkOk_by (N := ["points", "size", "point", "above", "below"]) (sc := defScope sx__can_hide) (by decide +kernel)) (fun _ _ _ _ _ => (pg_tup rfl (pgs_cons (pg_name (i := 3) sc__can_hide.nd rfl (by first | exact Or.inl rfl | exact Or.inr rfl)) (pgs_cons (pg_name (i := 4) sc__can_hide.nd rfl (by first | exact Or.inl rfl | exact Or.inr rfl)) pgs_nil)))) (fun _ _ _ _ _ => pts_nil) (fun _ _ _ _ _ => (pe_cmpR op_lt (pv 3) (pv 4) (nomark _)))) pa_nil)))))), ?_⟩
    obtain ⟨P0, ⟨v, n, rfl, h1, h2, rfl⟩, kk⟩ := h
    exact pure_canHideN (K := K) (C := C) h1 h2 (fun H1 e => kk _ _ e rfl)
theorem ok_needBad {P : Program} {w : World} {K : PySem.W.Frag} {C : Addr} {mg : Str → Option Value} {base : Heap} {f : Addr} {fd : FuncData} {CB fI : Addr} {dI : FuncData} (F : FunD K "_need_table" "_need_table" (defArgs sx__need_table) (defBody sx__need_table) (defScope sx__need_table) [] [] f fd) (T : TxtB mg) (gTable : mg "Table" = some (.ref C))
  (OB : OexC K CB) (iB : PySem.W.findIn K (.ref CB) "__init__" = some (some (.ref fI))) (tI : PySem.W.typeIn K (.ref fI) = some (.type "function")) (G_si : FnOk P w K mg base CX0 1 fI dI ["self", "part"] (spSi CB "part")) (b_si : Binds K dI ["self", "part"] []) (gB : mg "BadTable" = some (.ref CB)) : FnOk P w K mg base (L2.CX P w) 4 f fd ["table", "part"] (spNeedBad K C CB) := by
  refine F.ok sc__need_table (fun vs H Q E h => ?_) (fun cdv A outer s H vs Q E hr h => ?_)
  · obtain ⟨x, p, rfl, h1, h2⟩ := h
    rfl
  · have hu := hu_of hr
    refine ⟨tNeedBad K C CB E, (pss_one (ps_if (pt_not (pt_val (pe_callB call_isi (by rfl) T.n_isinstance (by decide +kernel) (pa_cons (pv 0) (pa_cons (pe_glob rfl gTable (show RelV (.ref C) _ from rfl)) pa_nil))))) (pss_one (ps_raise rfl (takes_of rfl rfl rfl rfl) (pmk_oex OB iB tI G_si (hr.mono (by decide)) b_si .nil pass0 rfl gB (pa_cons (pv 1) pa_nil)))) pss_nil)), ?_⟩
    obtain ⟨x, p, rfl, h1, h2⟩ := h
    exact pure_needBad h1 h2
theorem ok_hidT {P : Program} {w : World} {K : PySem.W.Frag} {C : Addr} {mg : Str → Option Value} {base : Heap} {f : Addr} {fd : FuncData} {CB f_nb : Addr} {d_nb : FuncData} (F : FunD K "hidden" "hidden" (defArgs sx_hidden) (defBody sx_hidden) (defScope sx_hidden) [] [] f fd)
  (G_nb : FnOk P w K mg base (L2.CX P w) 4 f_nb d_nb ["table", "part"] (spNeedBad K C CB)) (g_nb : mg "_need_table" = some (.ref f_nb)) (k_nb : PySem.W.keepIn K (.ref f_nb) = true) (b_nb : Binds K d_nb ["table", "part"] []) : FnOk P w K mg base (L2.CX P w) 12 f fd ["table", "points"] (spHidBadT K C CB) := by
  refine F.ok sc_hidden (fun vs H Q E h => ?_) (fun cdv A outer s H vs Q E hr h => ?_)
  · obtain ⟨x, p, rfl, _⟩ := h
    rfl
  · refine ⟨tHidBadT K C CB E, (pss_cons (ps_expr (pe_callS G_nb (hr.mono (by decide)) rfl g_nb k_nb b_nb (fun σ => L2.passAt (takes_of rfl rfl rfl rfl) σ) (pa_cons (pv 0) (pa_cons pe_non pa_nil)))) pss_dead), ?_⟩
    obtain ⟨x, y, rfl, hx, w⟩ := h
    exact pure_hidBadT hx w
theorem ok_hidP {P : Program} {w : World} {K : PySem.W.Frag} {C : Addr} {mg : Str → Option Value} {base : Heap} {f : Addr} {fd : FuncData} {CP : Addr} (F : FunD K "hidden" "hidden" (defArgs sx_hidden) (defBody sx_hidden) (defScope sx_hidden) [] [] f fd) (cT : Cls K C)
  {f__need_table : Addr} {d__need_table : FuncData} (G__need_table : FnOk P w K mg base CX0 3 f__need_table d__need_table ["table", "part"] (sp__need_table C)) (g__need_table : mg "_need_table" = some (.ref f__need_table)) (k__need_table : PySem.W.keepIn K (.ref f__need_table) = true) (b__need_table : Binds K d__need_table ["table", "part"] [])
  {f__can_hide : Addr} {d__can_hide : FuncData} (G__can_hide : FnOk P w K mg base CX0 9 f__can_hide d__can_hide ["points", "size"] (sp_canHideN K C)) (g__can_hide : mg "_can_hide" = some (.ref f__can_hide)) (k__can_hide : PySem.W.keepIn K (.ref f__can_hide) = true) (b__can_hide : Binds K d__can_hide ["points", "size"] [])
  {q_size f_size : Addr} {d_size : FuncData} (G_size : FnOk P w K mg base CX0 3 f_size d_size ["self"] (sp_Table_size C)) (b_size : Binds K d_size ["self"] []) (hp_size : PropOf K C "size" q_size f_size)
  (gP : mg "BadPoints" = some (.ref CP)) (xP : PySem.W.excIn K CP He.veBase "ValueError.__new__" = true) (kP : PySem.W.keepIn K (.ref CP) = true) (bP : PySem.W.subIn K (.ref CP) (.type "BaseException") = some true) (tP : PySem.W.typeIn K (.ref CP) = some (.type "type")) : FnOk P w K mg base (L2.CX P w) 12 f fd ["table", "points"] (spHidBadP K C CP) := by
  refine F.ok sc_hidden (fun vs H Q E h => ?_) (fun cdv A outer s H vs Q E hr h => ?_)
  · obtain ⟨x, p, _, _, rfl, _⟩ := h
    rfl
  · have hu := hu_of hr
    refine ⟨tHidBadP K C CP E, (pss_cons (ps_expr (pe_call G__need_table (hr.mono (by decide)) rfl g__need_table k__need_table b__need_table .nil pass0 (pa_cons (pv 0) (pa_cons pe_non pa_nil)))) (pss_cons (ps_if (pt_not (pt_val (pe_call G__can_hide (hr.mono (by decide)) rfl g__can_hide k__can_hide b__can_hide .nil pass0 (pa_cons (pv 1) (pa_cons (pe_prop (pv 0) cT hp_size G_size (hr.mono (by decide)) b_size .nil pass0 rfl) pa_nil))))) (pss_one (ps_raise rfl (takes_of rfl rfl rfl rfl) (pmk_own PySem.F.excBase_ValueError xP gP kP (raises_own bP tP) (by rfl)))) pss_nil) pss_dead)), ?_⟩
    obtain ⟨t, v, n, E', rfl, T, hv, w⟩ := h
    exact pure_hidBadP T hv w
abbrev sx_law : Stmt := top 38
abbrev sx__law_caught : Stmt := top 30
theorem sc_law : FnScope ["_law_script", "_law_state", "_law_turn", "_law_many", "_law_caps_here", "_law_made", "_law_spots", "_law_pool", "_law_some", "_law_odd", "_law_error", "_law_due", "_law_size_here", "_law_told", "_law_wish", "_law_levels_here", "_law_point", "_law_k"] ["_law_script"] (defScope sx_law) := ⟨rfl, rfl, rfl, by decide +kernel, rfl, by decide +kernel, by decide +kernel⟩
theorem Sg : FnScope ["_law_work", "_law_caught_here", "_law_error"] ["_law_work"] (defScope sx__law_caught) := ⟨rfl, rfl, rfl, by decide +kernel, rfl, by decide +kernel, by decide +kernel⟩
def sp_law8 (K : PySem.W.Frag) (Tt : List (Addr × Str)) : Sp := fun vs H Q _ => ∃ (a : Addr) (ns : List Int), vs = [.ref a] ∧ SqL K H a (ns.map V.int) ∧ ns.length ≤ 1000 ∧ LamX.Tabs Tt H ∧ ∀ H', Q (.bl true) H'
def forBody : Stmt → List Stmt
  | .For _ _ b _ _ => b
  | _ => []
abbrev stL (i : Nat) : Stmt := (forBody ((defBody sx_law).getD 1 (.Pass ⟨0, 0, 0, 0⟩))).getD i (.Pass ⟨0, 0, 0, 0⟩)
section
open LamX
variable {P : Program} {w : World} {K : PySem.W.Frag} {C : Addr} {mg : Str → Option Value} {base : Heap} {f : Addr} {c pt CP CB CR : Addr} {Tt : List (Addr × Str)} {A : Around} {outer : List Env} {s : Shared} {H : Hp} {E : XK} (T : TxtB mg) (EF : ErrF K CP CB CR) (KF : KitF K C)
  {gc : Addr} {dc : FuncData} (Fc : L2.Fun K "_law_caught" "_law_caught" sx__law_caught gc dc) (mC : mg "_law_caught" = some (.ref gc)) (kC : PySem.W.keepIn K (.ref gc) = true) (bC : Binds K dc ["_law_work"] []) (mR : mg "RiverError" = some (.ref CR))
  {f_hidden : Addr} {d_hidden : FuncData} (G_hidden : FnOk P w K mg base CX0 18 f_hidden d_hidden ["table", "points"] (sp_hiddenG C)) (G_hidP : FnOk P w K mg base (L2.CX P w) 12 f_hidden d_hidden ["table", "points"] (spHidBadP K C CP)) (G_hidT : FnOk P w K mg base (L2.CX P w) 12 f_hidden d_hidden ["table", "points"] (spHidBadT K C CB)) (g_hidden : mg "hidden" = some (.ref f_hidden)) (k_hidden : PySem.W.keepIn K (.ref f_hidden) = true) (b_hidden : Binds K d_hidden ["table", "points"] []) (kb_hidden : KBinds K d_hidden ["table", "points"] ["points", "table"] sw2 sw2)
  (gP : mg "BadPoints" = some (.ref CP)) (gB : mg "BadTable" = some (.ref CB)) (gTable : mg "Table" = some (.ref C)) (cT : Cls K C)
  {f_init : Addr} {d_init : FuncData} (mk : Mk K C f_init) (G_init : FnOk P w K mg base CX0 12 f_init d_init ["self", "size", "bounds"] (sp_Table___init__ C)) (b_init : Binds K d_init ["self", "size", "bounds"] [])
  {f_fits : Addr} {d_fits : FuncData} (m_fits : Meth K C "fits" f_fits) (G_fits : FnOk P w K mg base CX0 12 f_fits d_fits ["self", "water"] (sp_Table_fits C)) (b_fits : Binds K d_fits ["self", "water"] [])
  {f_eq : Addr} {d_eq : FuncData} (G_eq : FnOk P w K mg base CX0 3 f_eq d_eq ["self", "other"] (sp_Table___eq__ C)) (b_eq : Binds K d_eq ["self", "other"] []) (sEq : PySem.W.findIn K (.ref C) "__eq__" = some (some (.ref f_eq))) (sNe : PySem.W.findIn K (.ref C) "__ne__" = some (some (.builtin "object.__ne__"))) (mEq : PySem.W.mroIn K C (.type "object") = some true) (fEq : PySem.W.isFn K (.ref f_eq) = true)
  {f_sums : Addr} {d_sums : FuncData} (G_sums : FnOk P w K mg base CX0 9 f_sums d_sums ["water"] (sp_sums C)) (g_sums : mg "sums" = some (.ref f_sums)) (k_sums : PySem.W.keepIn K (.ref f_sums) = true) (b_sums : Binds K d_sums ["water"] [])
  {f_nothing : Addr} {d_nothing : FuncData} (G_nothing : FnOk P w K mg base CX0 15 f_nothing d_nothing ["size"] (sp_nothing C)) (g_nothing : mg "nothing" = some (.ref f_nothing)) (k_nothing : PySem.W.keepIn K (.ref f_nothing) = true) (b_nothing : Binds K d_nothing ["size"] [])
  {f_a_water : Addr} {d_a_water : FuncData} (G_a_water : FnOk P w K mg base CX0 9 f_a_water d_a_water ["table"] (sp_a_water C)) (g_a_water : mg "a_water" = some (.ref f_a_water)) (k_a_water : PySem.W.keepIn K (.ref f_a_water) = true) (b_a_water : Binds K d_a_water ["table"] [])
  {f__law_begun : Addr} {d__law_begun : FuncData} (G__law_begun : FnOk P w K mg base CX0 3 f__law_begun d__law_begun ["_law_script"] (spBegun K)) (g__law_begun : mg "_law_begun" = some (.ref f__law_begun)) (k__law_begun : PySem.W.keepIn K (.ref f__law_begun) = true) (b__law_begun : Binds K d__law_begun ["_law_script"] [])
  {f__law_draw : Addr} {d__law_draw : FuncData} (G__law_draw : FnOk P w K mg base CX0 3 f__law_draw d__law_draw ["_law_state", "_law_many"] spDraw) (g__law_draw : mg "_law_draw" = some (.ref f__law_draw)) (k__law_draw : PySem.W.keepIn K (.ref f__law_draw) = true) (b__law_draw : Binds K d__law_draw ["_law_state", "_law_many"] [])
  {f__law_pick : Addr} {d__law_pick : FuncData} (G__law_pick : FnOk P w K mg base CX0 6 f__law_pick d__law_pick ["_law_state", "_law_several"] (spPick K)) (g__law_pick : mg "_law_pick" = some (.ref f__law_pick)) (k__law_pick : PySem.W.keepIn K (.ref f__law_pick) = true) (b__law_pick : Binds K d__law_pick ["_law_state", "_law_several"] [])
  {f__law_mixed : Addr} {d__law_mixed : FuncData} (G__law_mixed : FnOk P w K mg base CX0 6 f__law_mixed d__law_mixed ["_law_state", "_law_several"] (sp__law_mixed K C)) (g__law_mixed : mg "_law_mixed" = some (.ref f__law_mixed)) (k__law_mixed : PySem.W.keepIn K (.ref f__law_mixed) = true) (b__law_mixed : Binds K d__law_mixed ["_law_state", "_law_several"] [])
  {f__law_caps : Addr} {d__law_caps : FuncData} (G__law_caps : FnOk P w K mg base CX0 9 f__law_caps d__law_caps ["_law_state", "_law_many", "_law_thick", "_law_wide"] (sp_capsW C)) (g__law_caps : mg "_law_caps" = some (.ref f__law_caps)) (k__law_caps : PySem.W.keepIn K (.ref f__law_caps) = true) (b__law_caps : Binds K d__law_caps ["_law_state", "_law_many", "_law_thick", "_law_wide"] [])
  {f__law_left : Addr} {d__law_left : FuncData} (G__law_left : FnOk P w K mg base CX0 6 f__law_left d__law_left ["_law_caps_here", "_law_many", "_law_spots"] (sp__law_left C)) (g__law_left : mg "_law_left" = some (.ref f__law_left)) (k__law_left : PySem.W.keepIn K (.ref f__law_left) = true) (b__law_left : Binds K d__law_left ["_law_caps_here", "_law_many", "_law_spots"] [])
  {f__law_met : Addr} {d__law_met : FuncData} (G__law_met : FnOk P w K mg base CX0 12 f__law_met d__law_met ["_law_caps_here", "_law_many", "_law_spots", "_law_told"] (sp__law_met C)) (g__law_met : mg "_law_met" = some (.ref f__law_met)) (k__law_met : PySem.W.keepIn K (.ref f__law_met) = true) (b__law_met : Binds K d__law_met ["_law_caps_here", "_law_many", "_law_spots", "_law_told"] [])
  (TBc : TabB base mg c pt) (hmT : (pt, (cxOf CX0 P w K mg base ["_law_script", "_law_state", "_law_turn", "_law_many", "_law_caps_here", "_law_made", "_law_spots", "_law_pool", "_law_some", "_law_odd", "_law_error", "_law_due", "_law_size_here", "_law_told", "_law_wish", "_law_levels_here", "_law_point", "_law_k"] "law" (defScope sx_law) f (.ref c) A outer s H E).env.qual ++ "<lambda>") ∈ Tt) (huT : ∀ p ∈ Tt, p.1 = pt → p.2 = (cxOf CX0 P w K mg base ["_law_script", "_law_state", "_law_turn", "_law_many", "_law_caps_here", "_law_made", "_law_spots", "_law_pool", "_law_some", "_law_odd", "_law_error", "_law_due", "_law_size_here", "_law_told", "_law_wish", "_law_levels_here", "_law_point", "_law_k"] "law" (defScope sx_law) f (.ref c) A outer s H E).env.qual ++ "<lambda>") (hr : Room 25 (A.deeper (envOfC "law" (defScope sx_law) s.heap.objs.size f (.ref c))))
include EF Fc G__law_begun G__law_caps G__law_draw G__law_left G__law_met G__law_mixed G__law_pick G_a_water G_eq G_fits G_hidP G_hidT G_hidden G_init G_nothing G_sums KF T TBc bC b__law_begun b__law_caps b__law_draw b__law_left b__law_met b__law_mixed b__law_pick b_a_water b_eq b_fits b_hidden b_init b_nothing b_sums cT fEq gB gP gTable g__law_begun g__law_caps g__law_draw g__law_left g__law_met g__law_mixed g__law_pick g_a_water g_hidden g_nothing g_sums hmT hr huT kC k__law_begun k__law_caps k__law_draw k__law_left k__law_met k__law_mixed k__law_pick k_a_water k_hidden k_nothing k_sums kb_hidden mC mEq mR m_fits mk sEq sNe
theorem lw_0 : PS (cxOf CX0 P w K mg base ["_law_script", "_law_state", "_law_turn", "_law_many", "_law_caps_here", "_law_made", "_law_spots", "_law_pool", "_law_some", "_law_odd", "_law_error", "_law_due", "_law_size_here", "_law_told", "_law_wish", "_law_levels_here", "_law_point", "_law_k"] "law" (defScope sx_law) f (.ref c) A outer s H E) (stL 0) (tAsg (tOp rAddI (tC (.int 1)) (tCall spDraw [] E0 (tCons (tVar 1) (tCons (tC (.int 6)) tNil)))) (gName 3)) := by
  obtain ⟨oc, od, kV, doc, pm, an, cdv, ct, osl, rfl, lkC, hcdC⟩ := Fc.ex
  have hu := hu_of hr
  exact (ps_set (i := 3) sc_law.nd rfl (by first | exact Or.inl rfl | exact Or.inr rfl) (pe_op op_add pe_int (pe_call G__law_draw (hr.mono (by decide)) rfl g__law_draw k__law_draw b__law_draw .nil pass0 (pa_cons (pv 1) (pa_cons pe_int pa_nil)))))
theorem lw_1 : PS (cxOf CX0 P w K mg base ["_law_script", "_law_state", "_law_turn", "_law_many", "_law_caps_here", "_law_made", "_law_spots", "_law_pool", "_law_some", "_law_odd", "_law_error", "_law_due", "_law_size_here", "_law_told", "_law_wish", "_law_levels_here", "_law_point", "_law_k"] "law" (defScope sx_law) f (.ref c) A outer s H E) (stL 1) (tAsg (tCall (sp_capsW C) [] E0 (tCons (tVar 1) (tCons (tVar 3) (tCons (tCall (spPick K) [] E0 (tCons (tVar 1) (tCons (tLst (tCons (tC (.int 1)) (tCons (tC (.int 2)) (tCons (tC (.int 4)) tNil)))) tNil))) (tCons (tCall (spPick K) [] E0 (tCons (tVar 1) (tCons (tLst (tCons (tC (.int 5)) (tCons (tOp rPowI (tC (.int 10)) (tC (.int 9))) tNil))) tNil))) tNil))))) (gName 4)) := by
  obtain ⟨oc, od, kV, doc, pm, an, cdv, ct, osl, rfl, lkC, hcdC⟩ := Fc.ex
  have hu := hu_of hr
  exact (ps_set (i := 4) sc_law.nd rfl (by first | exact Or.inl rfl | exact Or.inr rfl) (pe_call G__law_caps (hr.mono (by decide)) rfl g__law_caps k__law_caps b__law_caps .nil pass0 (pa_cons (pv 1) (pa_cons (pv 3) (pa_cons (pe_call G__law_pick (hr.mono (by decide)) rfl g__law_pick k__law_pick b__law_pick .nil pass0 (pa_cons (pv 1) (pa_cons (pe_lst (pa_cons pe_int (pa_cons pe_int (pa_cons pe_int pa_nil)))) pa_nil))) (pa_cons (pe_call G__law_pick (hr.mono (by decide)) rfl g__law_pick k__law_pick b__law_pick .nil pass0 (pa_cons (pv 1) (pa_cons (pe_lst (pa_cons pe_int (pa_cons (pe_op op_pow pe_int pe_int) pa_nil))) pa_nil))) pa_nil))))))
theorem lw_2 : PS (cxOf CX0 P w K mg base ["_law_script", "_law_state", "_law_turn", "_law_many", "_law_caps_here", "_law_made", "_law_spots", "_law_pool", "_law_some", "_law_odd", "_law_error", "_law_due", "_law_size_here", "_law_told", "_law_wish", "_law_levels_here", "_law_point", "_law_k"] "law" (defScope sx_law) f (.ref c) A outer s H E) (stL 2) (tAsg (tMake C (sp_Table___init__ C) [] E0 (tCons (tVar 3) (tCons (tVar 4) tNil))) (gName 5)) := by
  obtain ⟨oc, od, kV, doc, pm, an, cdv, ct, osl, rfl, lkC, hcdC⟩ := Fc.ex
  have hu := hu_of hr
  exact (ps_set (i := 5) sc_law.nd rfl (by first | exact Or.inl rfl | exact Or.inr rfl) (pe_make mk G_init (hr.mono (by decide)) rfl gTable b_init .nil pass0 (pa_cons (pv 3) (pa_cons (pv 4) pa_nil))))
theorem lw_3 : PS (cxOf CX0 P w K mg base ["_law_script", "_law_state", "_law_turn", "_law_many", "_law_caps_here", "_law_made", "_law_spots", "_law_pool", "_law_some", "_law_odd", "_law_error", "_law_due", "_law_size_here", "_law_told", "_law_wish", "_law_levels_here", "_law_point", "_law_k"] "law" (defScope sx_law) f (.ref c) A outer s H E) (stL 3) (tAsg (tCB (cTupleOf K) (tCons (tCB (rSorted K) (tCons (tSl (rSlL K) (tCall (sp__law_mixed K C) [] E0 (tCons (tVar 1) (tCons (tLstRg (tRg2 (tC (.int 1)) (tOp rAddI (tVar 3) (tC (.int 1))))) tNil))) tNoPart (tPart (tCall spDraw [] E0 (tCons (tVar 1) (tCons (tVar 3) tNil))))) tNil)) tNil)) (gName 6)) := by
  obtain ⟨oc, od, kV, doc, pm, an, cdv, ct, osl, rfl, lkC, hcdC⟩ := Fc.ex
  have hu := hu_of hr
  exact (ps_set (i := 6) sc_law.nd rfl (by first | exact Or.inl rfl | exact Or.inr rfl) (pe_callTy call_tuple_of (by rfl) T.n_tuple (by decide +kernel) (pa_cons (pe_callB cr_sorted (by rfl) T.n_sorted (by decide +kernel) (pa_cons (pe_slice sl_list (pe_call G__law_mixed (hr.mono (by decide)) rfl g__law_mixed k__law_mixed b__law_mixed .nil pass0 (pa_cons (pv 1) (pa_cons (pe_listRg rfl (by rfl) T.n_list (prg_2 (by rfl) T.n_range pe_int (pe_op op_add (pv 3) pe_int))) pa_nil))) po_none (po_some (pe_call G__law_draw (hr.mono (by decide)) rfl g__law_draw k__law_draw b__law_draw .nil pass0 (pa_cons (pv 1) (pa_cons (pv 3) pa_nil))))) pa_nil)) pa_nil)))
theorem lw_4 : PS (cxOf CX0 P w K mg base ["_law_script", "_law_state", "_law_turn", "_law_many", "_law_caps_here", "_law_made", "_law_spots", "_law_pool", "_law_some", "_law_odd", "_law_error", "_law_due", "_law_size_here", "_law_told", "_law_wish", "_law_levels_here", "_law_point", "_law_k"] "law" (defScope sx_law) f (.ref c) A outer s H E) (stL 4) (tPar 11 12 (tCons (tCall (sp__law_left C) [] E0 (tCons (tVar 4) (tCons (tVar 3) (tCons (tVar 6) tNil)))) (tCons (tOp rSubI (tVar 3) (tCB (cLen K) (tCons (tVar 6) tNil))) tNil))) := by
  obtain ⟨oc, od, kV, doc, pm, an, cdv, ct, osl, rfl, lkC, hcdC⟩ := Fc.ex
  have hu := hu_of hr
  exact (ps_par (i := 11) (j := 12) (by rfl) sc_law.nd rfl rfl (by decide) rfl rfl (pa_cons (pe_call G__law_left (hr.mono (by decide)) rfl g__law_left k__law_left b__law_left .nil pass0 (pa_cons (pv 4) (pa_cons (pv 3) (pa_cons (pv 6) pa_nil)))) (pa_cons (pe_op op_sub (pv 3) (pe_callB call_len (by rfl) T.n_len (by decide +kernel) (pa_cons (pv 6) pa_nil))) pa_nil)) (by rfl))
theorem lw_5 : PS (cxOf CX0 P w K mg base ["_law_script", "_law_state", "_law_turn", "_law_many", "_law_caps_here", "_law_made", "_law_spots", "_law_pool", "_law_some", "_law_odd", "_law_error", "_law_due", "_law_size_here", "_law_told", "_law_wish", "_law_levels_here", "_law_point", "_law_k"] "law" (defScope sx_law) f (.ref c) A outer s H E) (stL 5) (tPar 13 14 (tCons (tCall (sp_hiddenG C) [] E0 (tCons (tVar 5) (tCons (tVar 6) tNil))) (tCons (tIf (tB (tIsN (tVar 11))) (tCall (sp_nothing C) [] E0 (tCons (tVar 12) tNil)) (tMake C (sp_Table___init__ C) [] E0 (tCons (tVar 12) (tCons (tVar 11) tNil)))) tNil))) := by
  obtain ⟨oc, od, kV, doc, pm, an, cdv, ct, osl, rfl, lkC, hcdC⟩ := Fc.ex
  have hu := hu_of hr
  exact (ps_par (i := 13) (j := 14) (by rfl) sc_law.nd rfl rfl (by decide) rfl rfl (pa_cons (pe_call G_hidden (hr.mono (by decide)) rfl g_hidden k_hidden b_hidden .nil pass0 (pa_cons (pv 5) (pa_cons (pv 6) pa_nil))) (pa_cons (pe_ifExp (pt_cmp (pc_isN (pv 11))) (pe_call G_nothing (hr.mono (by decide)) rfl g_nothing k_nothing b_nothing .nil pass0 (pa_cons (pv 12) pa_nil)) (pe_make mk G_init (hr.mono (by decide)) rfl gTable b_init .nil pass0 (pa_cons (pv 12) (pa_cons (pv 11) pa_nil)))) pa_nil)) (by rfl))
theorem lw_6 : PS (cxOf CX0 P w K mg base ["_law_script", "_law_state", "_law_turn", "_law_many", "_law_caps_here", "_law_made", "_law_spots", "_law_pool", "_law_some", "_law_odd", "_law_error", "_law_due", "_law_size_here", "_law_told", "_law_wish", "_law_levels_here", "_law_point", "_law_k"] "law" (defScope sx_law) f (.ref c) A outer s H E) (stL 6) (tIfS (tOr (tTest (tOp (rOwn C (sp_Table___eq__ C) E0 true) (tVar 13) (tVar 14))) (tTest (tOp (rOwn C (sp_Table___eq__ C) E0 true) (tCallK (sp_hiddenG C) sw2 E0 tNil (tCons (tVar 6) (tCons (tVar 5) tNil))) (tVar 14)))) (tRet (tC (.bl false))) tNext) := by
  obtain ⟨oc, od, kV, doc, pm, an, cdv, ct, osl, rfl, lkC, hcdC⟩ := Fc.ex
  have hu := hu_of hr
  exact (ps_if (PW.pt (pw_or (pt_cmpR (op_ownNe G_eq sEq sNe mEq fEq b_eq pass0 (hr.mono (by decide))) (pv 13) (pv 14) (nomark _)) (pw_or1 (pt_cmpR (op_ownNe G_eq sEq sNe mEq fEq b_eq pass0 (hr.mono (by decide))) (pe_callK0 G_hidden (hr.mono (by decide)) rfl g_hidden k_hidden kb_hidden pass0 (pk_cons (pv 6) (pk_cons (pv 5) pk_nil))) (pv 14) (nomark _)))))
      (pss_one (ps_ret pe_bl))
      pss_nil)
theorem lw_7 : PS (cxOf CX0 P w K mg base ["_law_script", "_law_state", "_law_turn", "_law_many", "_law_caps_here", "_law_made", "_law_spots", "_law_pool", "_law_some", "_law_odd", "_law_error", "_law_due", "_law_size_here", "_law_told", "_law_wish", "_law_levels_here", "_law_point", "_law_k"] "law" (defScope sx_law) f (.ref c) A outer s H E) (stL 7) (tAsg (tCall (sp_a_water C) [] E0 (tCons (tVar 5) tNil)) (gName 7)) := by
  obtain ⟨oc, od, kV, doc, pm, an, cdv, ct, osl, rfl, lkC, hcdC⟩ := Fc.ex
  have hu := hu_of hr
  exact (ps_set (i := 7) sc_law.nd rfl (by first | exact Or.inl rfl | exact Or.inr rfl) (pe_call G_a_water (hr.mono (by decide)) rfl g_a_water k_a_water b_a_water .nil pass0 (pa_cons (pv 5) pa_nil)))
theorem lw_8 : PS (cxOf CX0 P w K mg base ["_law_script", "_law_state", "_law_turn", "_law_many", "_law_caps_here", "_law_made", "_law_spots", "_law_pool", "_law_some", "_law_odd", "_law_error", "_law_due", "_law_size_here", "_law_told", "_law_wish", "_law_levels_here", "_law_point", "_law_k"] "law" (defScope sx_law) f (.ref c) A outer s H E) (stL 8) (tIfS (tB (tNotN (tVar 7))) (tSeq (tAsg (tLc (iRng1 (tCons (tOp rAddI (tVar 3) (tC (.int 1))) tNil)) (gName 16) (tTest (tOp (rIn K true) (tVar 16) (tVar 6))) (tOp (rIxT K) (tCall (sp_sums C) [] E0 (tCons (tVar 7) tNil)) (tVar 16)) [16]) (gName 15)) (tIfS (tNot (tB (tMeth C "fits" (sp_Table_fits C) [] E0 (tVar 13) (tCons (tCB (cTupleOf K) (tCons (tLc (iRng1 (tCons (tVar 12) tNil)) (gName 17) tYes (tOp rSubI (tOp (rIxL K) (tVar 15) (tOp rAddI (tVar 17) (tC (.int 1)))) (tOp (rIxL K) (tVar 15) (tVar 17))) [17]) tNil)) tNil)))) (tRet (tC (.bl false))) tNext)) tNext) := by
  obtain ⟨oc, od, kV, doc, pm, an, cdv, ct, osl, rfl, lkC, hcdC⟩ := Fc.ex
  have hu := hu_of hr
  exact (ps_if (pt_cmp (pc_notN (pv 7)))
      (pss_cons (ps_set (i := 15) sc_law.nd rfl (by first | exact Or.inl rfl | exact Or.inr rfl) (pe_lc (own := [("_law_point", 16)]) (g := (gName 16)) (wi := (iRng1 (tCons (tOp rAddI (tVar 3) (tC (.int 1))) tNil))) (tt := (tTest (tOp (rIn K true) (tVar 16) (tVar 6)))) (te := (tOp (rIxT K) (tCall (sp_sums C) [] E0 (tCons (tVar 7) tNil)) (tVar 16))) rfl sc_law.nd (pi_range1 rfl T.n_range (pa_cons (pe_op op_add (pv 3) pe_int) pa_nil)) (blkOk_by (N := ["_law_script", "_law_state", "_law_turn", "_law_many", "_law_caps_here", "_law_made", "_law_spots", "_law_pool", "_law_some", "_law_odd", "_law_error", "_law_due", "_law_size_here", "_law_told", "_law_wish", "_law_levels_here", "_law_point", "_law_k"]) (sc := defScope sx_law) (by decide +kernel)) (fun _ _ _ _ _ => (pg_name (i := 16) sc_law.nd rfl (by first | exact Or.inl rfl | exact Or.inr rfl))) (fun _ _ _ _ _ => (pts_one (pt_cmpR op_notIn_seq (pv 16) (pv 6) (by with_unfolding_all rfl)))) (fun _ _ _ _ _ => (pe_ix ix_tup (pe_call G_sums (hr.mono (by decide)) rfl g_sums k_sums b_sums .nil pass0 (pa_cons (pv 7) pa_nil)) (pv 16) (fun _ _ => rfl)))))
        (pss_one (ps_if (pt_not (pt_val (pe_meth (pv 13) cT m_fits G_fits (hr.mono (by decide)) b_fits .nil pass0 (pa_cons (pe_callTy call_tuple_of (by rfl) T.n_tuple (by decide +kernel) (pa_cons (pe_lc (own := [("_law_k", 17)]) (g := (gName 17)) (wi := (iRng1 (tCons (tVar 12) tNil))) (tt := tYes) (te := (tOp rSubI (tOp (rIxL K) (tVar 15) (tOp rAddI (tVar 17) (tC (.int 1)))) (tOp (rIxL K) (tVar 15) (tVar 17)))) rfl sc_law.nd (pi_range1 rfl T.n_range (pa_cons (pv 12) pa_nil)) (blkOk_by (N := ["_law_script", "_law_state", "_law_turn", "_law_many", "_law_caps_here", "_law_made", "_law_spots", "_law_pool", "_law_some", "_law_odd", "_law_error", "_law_due", "_law_size_here", "_law_told", "_law_wish", "_law_levels_here", "_law_point", "_law_k"]) (sc := defScope sx_law) (by decide +kernel)) (fun _ _ _ _ _ => (pg_name (i := 17) sc_law.nd rfl (by first | exact Or.inl rfl | exact Or.inr rfl))) (fun _ _ _ _ _ => pts_nil) (fun _ _ _ _ _ => (pe_op op_sub (pe_ix ix_list (pv 15) (pe_op op_add (pv 17) pe_int) (fun _ _ => rfl)) (pe_ix ix_list (pv 15) (pv 17) (fun _ _ => rfl))))) pa_nil)) pa_nil))))
          (pss_one (ps_ret pe_bl))
          pss_nil)))
      pss_nil)
theorem lw_9 : PS (cxOf CX0 P w K mg base ["_law_script", "_law_state", "_law_turn", "_law_many", "_law_caps_here", "_law_made", "_law_spots", "_law_pool", "_law_some", "_law_odd", "_law_error", "_law_due", "_law_size_here", "_law_told", "_law_wish", "_law_levels_here", "_law_point", "_law_k"] "law" (defScope sx_law) f (.ref c) A outer s H E) (stL 9) (tIfS (tNot (tB (tCall (sp__law_met C) [] E0 (tCons (tVar 4) (tCons (tVar 3) (tCons (tVar 6) (tCons (tVar 13) tNil))))))) (tRet (tC (.bl false))) tNext) := by
  obtain ⟨oc, od, kV, doc, pm, an, cdv, ct, osl, rfl, lkC, hcdC⟩ := Fc.ex
  have hu := hu_of hr
  exact (ps_if (pt_not (pt_val (pe_call G__law_met (hr.mono (by decide)) rfl g__law_met k__law_met b__law_met .nil pass0 (pa_cons (pv 4) (pa_cons (pv 3) (pa_cons (pv 6) (pa_cons (pv 13) pa_nil)))))))
      (pss_one (ps_ret pe_bl))
      pss_nil)
theorem lw_10 : PS (cxOf CX0 P w K mg base ["_law_script", "_law_state", "_law_turn", "_law_many", "_law_caps_here", "_law_made", "_law_spots", "_law_pool", "_law_some", "_law_odd", "_law_error", "_law_due", "_law_size_here", "_law_told", "_law_wish", "_law_levels_here", "_law_point", "_law_k"] "law" (defScope sx_law) f (.ref c) A outer s H E) (stL 10) (tAsg (tLst (tCons (tC .non) (tCons (tLst (tCons (tC (.int 1)) tNil)) (tCons (tTup (tCons (tC (.int 0)) tNil)) (tCons (tTup (tCons (tOp rAddI (tVar 3) (tC (.int 1))) tNil)) (tCons (tTup (tCons (tC (.int 1)) (tCons (tC (.int 1)) tNil))) (tCons (tTup (tCons (tC (.int 2)) (tCons (tC (.int 1)) tNil))) (tCons (tTup (tCons (tC (.bl true)) tNil)) (tCons (tTup (tCons (tC (.str "1")) tNil)) (tCons (tTupRg (tRg2 (tC (.int 1)) (tOp rAddI (tVar 3) (tC (.int 1))))) (tCons (tC (.int 1)) tNil))))))))))) (gName 8)) := by
  obtain ⟨oc, od, kV, doc, pm, an, cdv, ct, osl, rfl, lkC, hcdC⟩ := Fc.ex
  have hu := hu_of hr
  exact (ps_set (i := 8) sc_law.nd rfl (by first | exact Or.inl rfl | exact Or.inr rfl) (pe_lst (pa_cons pe_non (pa_cons (pe_lst (pa_cons pe_int pa_nil)) (pa_cons (pe_tup (pa_cons pe_int pa_nil)) (pa_cons (pe_tup (pa_cons (pe_op op_add (pv 3) pe_int) pa_nil)) (pa_cons (pe_tup (pa_cons pe_int (pa_cons pe_int pa_nil))) (pa_cons (pe_tup (pa_cons pe_int (pa_cons pe_int pa_nil))) (pa_cons (pe_tup (pa_cons pe_bl pa_nil)) (pa_cons (pe_tup (pa_cons pe_str pa_nil)) (pa_cons (pe_tupRg rfl (by rfl) T.n_tuple (prg_2 (by rfl) T.n_range pe_int (pe_op op_add (pv 3) pe_int))) (pa_cons pe_int pa_nil))))))))))))
theorem lw_11 : PS (cxOf CX0 P w K mg base ["_law_script", "_law_state", "_law_turn", "_law_many", "_law_caps_here", "_law_made", "_law_spots", "_law_pool", "_law_some", "_law_odd", "_law_error", "_law_due", "_law_size_here", "_law_told", "_law_wish", "_law_levels_here", "_law_point", "_law_k"] "law" (defScope sx_law) f (.ref c) A outer s H E) (stL 11) (tAsg (tCall (spPick K) [] E0 (tCons (tVar 1) (tCons (tVar 8) tNil))) (gName 9)) := by
  obtain ⟨oc, od, kV, doc, pm, an, cdv, ct, osl, rfl, lkC, hcdC⟩ := Fc.ex
  have hu := hu_of hr
  exact (ps_set (i := 9) sc_law.nd rfl (by first | exact Or.inl rfl | exact Or.inr rfl) (pe_call G__law_pick (hr.mono (by decide)) rfl g__law_pick k__law_pick b__law_pick .nil pass0 (pa_cons (pv 1) (pa_cons (pv 8) pa_nil))))
theorem lw_12 : PS (cxOf CX0 P w K mg base ["_law_script", "_law_state", "_law_turn", "_law_many", "_law_caps_here", "_law_made", "_law_spots", "_law_pool", "_law_some", "_law_odd", "_law_error", "_law_due", "_law_size_here", "_law_told", "_law_wish", "_law_levels_here", "_law_point", "_law_k"] "law" (defScope sx_law) f (.ref c) A outer s H E) (stL 12) (tIfS (tNot (tB (tCB (rIsK K) (tCons (LamX.tLam Tt (TCaught K CR) (fun X => tCallS (spHidBadP K C CP) (WE fun cls d _ H => X cls d H) (tCons (tVar 5) (tCons (tVar 9) tNil)))) (tCons (tC (.ref CP)) tNil))))) (tRet (tC (.bl false))) tNext) := by
  obtain ⟨oc, od, kV, doc, pm, an, cdv, ct, osl, rfl, lkC, hcdC⟩ := Fc.ex
  have hu := hu_of hr
  exact (ps_if (pt_not (pt_val (pe_callB call_isK (by rfl) T.n_isinstance (by decide +kernel) (pa_cons (pe_lamcall (k := 12) (Ng := ["_law_work", "_law_caught_here", "_law_error"]) (a := "_law_work") (T := Tt) (TT := TCaught K CR) (t := fun E' => tCallS (spHidBadP K C CP) (WE fun cls d _ H => E' cls d H) (tCons (tVar 5) (tCons (tVar 9) tNil))) (hg := (by rfl)) (hm := mC) (hk := kC) (lk := lkC) (hcg := hcdC) (hb := bC) (Sg := Sg) (hNg := rfl) (hva := (Or.inl rfl)) (hG := (caught_gives Sg rfl rfl rfl mR)) (TB := TBc) (hcode := rfl) (hmT := hmT) (hu := huT) (hr := (hr.mono (by decide))) (L := (show LamS (defScope sx_law) _ from lamS_by (by decide +kernel))) (hdef := rfl) (hbind := (fun _ _ _ _ _ => rfl)) (hbody := (fun A' o' s' H' E' f' c' hr' => pe_callS G_hidP hr' rfl g_hidden k_hidden b_hidden (fun σ => L2.passAt (takes_of rfl rfl rfl rfl) σ) (pa_cons (pv 5) (pa_cons (pv 9) pa_nil))))) (pa_cons (pe_glob rfl gP (show RelV (.ref CP) _ from rfl)) pa_nil)))))
      (pss_one (ps_ret pe_bl))
      pss_nil)
theorem lw_13 : PS (cxOf CX0 P w K mg base ["_law_script", "_law_state", "_law_turn", "_law_many", "_law_caps_here", "_law_made", "_law_spots", "_law_pool", "_law_some", "_law_odd", "_law_error", "_law_due", "_law_size_here", "_law_told", "_law_wish", "_law_levels_here", "_law_point", "_law_k"] "law" (defScope sx_law) f (.ref c) A outer s H E) (stL 13) (tAsg (LamX.tLam Tt (TCaught K CR) (fun X => tCallS (spHidBadT K C CB) (WE fun cls d _ H => X cls d H) (tCons (tVar 9) (tCons (tVar 9) tNil)))) (gName 10)) := by
  obtain ⟨oc, od, kV, doc, pm, an, cdv, ct, osl, rfl, lkC, hcdC⟩ := Fc.ex
  have hu := hu_of hr
  exact (ps_set (i := 10) sc_law.nd rfl (by first | exact Or.inl rfl | exact Or.inr rfl) (pe_lamcall (k := 12) (Ng := ["_law_work", "_law_caught_here", "_law_error"]) (a := "_law_work") (T := Tt) (TT := TCaught K CR) (t := fun E' => tCallS (spHidBadT K C CB) (WE fun cls d _ H => E' cls d H) (tCons (tVar 9) (tCons (tVar 9) tNil))) (hg := (by rfl)) (hm := mC) (hk := kC) (lk := lkC) (hcg := hcdC) (hb := bC) (Sg := Sg) (hNg := rfl) (hva := (Or.inl rfl)) (hG := (caught_gives Sg rfl rfl rfl mR)) (TB := TBc) (hcode := rfl) (hmT := hmT) (hu := huT) (hr := (hr.mono (by decide))) (L := (show LamS (defScope sx_law) _ from lamS_by (by decide +kernel))) (hdef := rfl) (hbind := (fun _ _ _ _ _ => rfl)) (hbody := (fun A' o' s' H' E' f' c' hr' => pe_callS G_hidT hr' rfl g_hidden k_hidden b_hidden (fun σ => L2.passAt (takes_of rfl rfl rfl rfl) σ) (pa_cons (pv 9) (pa_cons (pv 9) pa_nil))))))
theorem lw_14 : PS (cxOf CX0 P w K mg base ["_law_script", "_law_state", "_law_turn", "_law_many", "_law_caps_here", "_law_made", "_law_spots", "_law_pool", "_law_some", "_law_odd", "_law_error", "_law_due", "_law_size_here", "_law_told", "_law_wish", "_law_levels_here", "_law_point", "_law_k"] "law" (defScope sx_law) f (.ref c) A outer s H E) (stL 14) (tIfS (tOr (tNot (tB (tCB (rIsK K) (tCons (tVar 10) (tCons (tC (.ref CB)) tNil))))) (tB (tNotN (tXk K "part" (tVar 10))))) (tRet (tC (.bl false))) tNext) := by
  obtain ⟨oc, od, kV, doc, pm, an, cdv, ct, osl, rfl, lkC, hcdC⟩ := Fc.ex
  have hu := hu_of hr
  exact (ps_if (PW.pt (pw_or (pt_not (pt_val (pe_callB call_isK (by rfl) T.n_isinstance (by decide +kernel) (pa_cons (pv 10) (pa_cons (pe_glob rfl gB (show RelV (.ref CB) _ from rfl)) pa_nil))))) (pw_or1 (pt_cmp (pc_notN (pe_xk (pv 10)))))))
      (pss_one (ps_ret pe_bl))
      pss_nil)
end
open LamX in
theorem ok_law {P : Program} {w : World} {K : PySem.W.Frag} {C : Addr} {mg : Str → Option Value} {base : Heap} {f : Addr} {fd : FuncData} {pt CP CB CR : Addr} {Tt : List (Addr × Str)} (F : FunD K "law" "law" (defArgs sx_law) (defBody sx_law) (defScope sx_law) [] [] f fd) (T : TxtB mg) (EF : ErrF K CP CB CR) (KF : KitF K C)
  (hTB : ∀ (oc : Value) (od : Option Addr) (fd : FuncData) (osl : Array (Option Value)) (c : Addr), K.lookup f = some ⟨oc, od, .func fd, osl⟩ → fd.code = .ref c → TabB base mg c pt) (hq : ∀ q : Str, q = ("law" : Str) ++ ".<locals>." → (pt, q ++ "<lambda>") ∈ Tt ∧ ∀ p ∈ Tt, p.1 = pt → p.2 = q ++ "<lambda>")
  {gc : Addr} {dc : FuncData} (Fc : L2.Fun K "_law_caught" "_law_caught" sx__law_caught gc dc) (mC : mg "_law_caught" = some (.ref gc)) (kC : PySem.W.keepIn K (.ref gc) = true) (bC : Binds K dc ["_law_work"] []) (mR : mg "RiverError" = some (.ref CR))
  {f_hidden : Addr} {d_hidden : FuncData} (G_hidden : FnOk P w K mg base CX0 18 f_hidden d_hidden ["table", "points"] (sp_hiddenG C)) (G_hidP : FnOk P w K mg base (L2.CX P w) 12 f_hidden d_hidden ["table", "points"] (spHidBadP K C CP)) (G_hidT : FnOk P w K mg base (L2.CX P w) 12 f_hidden d_hidden ["table", "points"] (spHidBadT K C CB)) (g_hidden : mg "hidden" = some (.ref f_hidden)) (k_hidden : PySem.W.keepIn K (.ref f_hidden) = true) (b_hidden : Binds K d_hidden ["table", "points"] []) (kb_hidden : KBinds K d_hidden ["table", "points"] ["points", "table"] sw2 sw2)
  (gP : mg "BadPoints" = some (.ref CP)) (gB : mg "BadTable" = some (.ref CB)) (gTable : mg "Table" = some (.ref C)) (cT : Cls K C)
  {f_init : Addr} {d_init : FuncData} (mk : Mk K C f_init) (G_init : FnOk P w K mg base CX0 12 f_init d_init ["self", "size", "bounds"] (sp_Table___init__ C)) (b_init : Binds K d_init ["self", "size", "bounds"] [])
  {f_fits : Addr} {d_fits : FuncData} (m_fits : Meth K C "fits" f_fits) (G_fits : FnOk P w K mg base CX0 12 f_fits d_fits ["self", "water"] (sp_Table_fits C)) (b_fits : Binds K d_fits ["self", "water"] [])
  {f_eq : Addr} {d_eq : FuncData} (G_eq : FnOk P w K mg base CX0 3 f_eq d_eq ["self", "other"] (sp_Table___eq__ C)) (b_eq : Binds K d_eq ["self", "other"] []) (sEq : PySem.W.findIn K (.ref C) "__eq__" = some (some (.ref f_eq))) (sNe : PySem.W.findIn K (.ref C) "__ne__" = some (some (.builtin "object.__ne__"))) (mEq : PySem.W.mroIn K C (.type "object") = some true) (fEq : PySem.W.isFn K (.ref f_eq) = true)
  {f_sums : Addr} {d_sums : FuncData} (G_sums : FnOk P w K mg base CX0 9 f_sums d_sums ["water"] (sp_sums C)) (g_sums : mg "sums" = some (.ref f_sums)) (k_sums : PySem.W.keepIn K (.ref f_sums) = true) (b_sums : Binds K d_sums ["water"] [])
  {f_nothing : Addr} {d_nothing : FuncData} (G_nothing : FnOk P w K mg base CX0 15 f_nothing d_nothing ["size"] (sp_nothing C)) (g_nothing : mg "nothing" = some (.ref f_nothing)) (k_nothing : PySem.W.keepIn K (.ref f_nothing) = true) (b_nothing : Binds K d_nothing ["size"] [])
  {f_a_water : Addr} {d_a_water : FuncData} (G_a_water : FnOk P w K mg base CX0 9 f_a_water d_a_water ["table"] (sp_a_water C)) (g_a_water : mg "a_water" = some (.ref f_a_water)) (k_a_water : PySem.W.keepIn K (.ref f_a_water) = true) (b_a_water : Binds K d_a_water ["table"] [])
  {f__law_begun : Addr} {d__law_begun : FuncData} (G__law_begun : FnOk P w K mg base CX0 3 f__law_begun d__law_begun ["_law_script"] (spBegun K)) (g__law_begun : mg "_law_begun" = some (.ref f__law_begun)) (k__law_begun : PySem.W.keepIn K (.ref f__law_begun) = true) (b__law_begun : Binds K d__law_begun ["_law_script"] [])
  {f__law_draw : Addr} {d__law_draw : FuncData} (G__law_draw : FnOk P w K mg base CX0 3 f__law_draw d__law_draw ["_law_state", "_law_many"] spDraw) (g__law_draw : mg "_law_draw" = some (.ref f__law_draw)) (k__law_draw : PySem.W.keepIn K (.ref f__law_draw) = true) (b__law_draw : Binds K d__law_draw ["_law_state", "_law_many"] [])
  {f__law_pick : Addr} {d__law_pick : FuncData} (G__law_pick : FnOk P w K mg base CX0 6 f__law_pick d__law_pick ["_law_state", "_law_several"] (spPick K)) (g__law_pick : mg "_law_pick" = some (.ref f__law_pick)) (k__law_pick : PySem.W.keepIn K (.ref f__law_pick) = true) (b__law_pick : Binds K d__law_pick ["_law_state", "_law_several"] [])
  {f__law_mixed : Addr} {d__law_mixed : FuncData} (G__law_mixed : FnOk P w K mg base CX0 6 f__law_mixed d__law_mixed ["_law_state", "_law_several"] (sp__law_mixed K C)) (g__law_mixed : mg "_law_mixed" = some (.ref f__law_mixed)) (k__law_mixed : PySem.W.keepIn K (.ref f__law_mixed) = true) (b__law_mixed : Binds K d__law_mixed ["_law_state", "_law_several"] [])
  {f__law_caps : Addr} {d__law_caps : FuncData} (G__law_caps : FnOk P w K mg base CX0 9 f__law_caps d__law_caps ["_law_state", "_law_many", "_law_thick", "_law_wide"] (sp_capsW C)) (g__law_caps : mg "_law_caps" = some (.ref f__law_caps)) (k__law_caps : PySem.W.keepIn K (.ref f__law_caps) = true) (b__law_caps : Binds K d__law_caps ["_law_state", "_law_many", "_law_thick", "_law_wide"] [])
  {f__law_left : Addr} {d__law_left : FuncData} (G__law_left : FnOk P w K mg base CX0 6 f__law_left d__law_left ["_law_caps_here", "_law_many", "_law_spots"] (sp__law_left C)) (g__law_left : mg "_law_left" = some (.ref f__law_left)) (k__law_left : PySem.W.keepIn K (.ref f__law_left) = true) (b__law_left : Binds K d__law_left ["_law_caps_here", "_law_many", "_law_spots"] [])
  {f__law_met : Addr} {d__law_met : FuncData} (G__law_met : FnOk P w K mg base CX0 12 f__law_met d__law_met ["_law_caps_here", "_law_many", "_law_spots", "_law_told"] (sp__law_met C)) (g__law_met : mg "_law_met" = some (.ref f__law_met)) (k__law_met : PySem.W.keepIn K (.ref f__law_met) = true) (b__law_met : Binds K d__law_met ["_law_caps_here", "_law_many", "_law_spots", "_law_told"] []) : FnOk P w K mg base CX0 26 f fd ["_law_script"] (sp_law8 K Tt) := by
  obtain ⟨oc0, od0, dV0, kV0, doc0, pm0, an0, cdv0, ct0, osl0, rfl, lk0, hcd0, hD0, hK0⟩ := F.ex
  obtain ⟨c, rfl⟩ := He.codeIn_ref hcd0
  have TBc : TabB base mg c pt := hTB _ _ _ _ c lk0 rfl
  refine fn_of lk0 hcd0 sc_law (fun vs H Q E h => ?_) (fun A outer s H vs Q E hr h => ?_)
  · obtain ⟨a, ns, rfl, _⟩ := h
    rfl
  · have hu := hu_of hr
    obtain ⟨hmT, huT⟩ := hq (cxOf CX0 P w K mg base ["_law_script", "_law_state", "_law_turn", "_law_many", "_law_caps_here", "_law_made", "_law_spots", "_law_pool", "_law_some", "_law_odd", "_law_error", "_law_due", "_law_size_here", "_law_told", "_law_wish", "_law_levels_here", "_law_point", "_law_k"] "law" (defScope sx_law) f (.ref c) A outer s H E).env.qual rfl
    have turn : PSs (cxOf CX0 P w K mg base ["_law_script", "_law_state", "_law_turn", "_law_many", "_law_caps_here", "_law_made", "_law_spots", "_law_pool", "_law_some", "_law_odd", "_law_error", "_law_due", "_law_size_here", "_law_told", "_law_wish", "_law_levels_here", "_law_point", "_law_k"] "law" (defScope sx_law) f (.ref c) A outer s H E) (forBody ((defBody sx_law).getD 1 (.Pass ⟨0, 0, 0, 0⟩))) (t_turn_0 K C CP CB CR Tt) := (pss_cons ((lw_0 (EF := EF) (Fc := Fc) (G__law_begun := G__law_begun) (G__law_caps := G__law_caps) (G__law_draw := G__law_draw) (G__law_left := G__law_left) (G__law_met := G__law_met) (G__law_mixed := G__law_mixed) (G__law_pick := G__law_pick) (G_a_water := G_a_water) (G_eq := G_eq) (G_fits := G_fits) (G_hidP := G_hidP) (G_hidT := G_hidT) (G_hidden := G_hidden) (G_init := G_init) (G_nothing := G_nothing) (G_sums := G_sums) (KF := KF) (T := T) (TBc := TBc) (bC := bC) (b__law_begun := b__law_begun) (b__law_caps := b__law_caps) (b__law_draw := b__law_draw) (b__law_left := b__law_left) (b__law_met := b__law_met) (b__law_mixed := b__law_mixed) (b__law_pick := b__law_pick) (b_a_water := b_a_water) (b_eq := b_eq) (b_fits := b_fits) (b_hidden := b_hidden) (b_init := b_init) (b_nothing := b_nothing) (b_sums := b_sums) (cT := cT) (fEq := fEq) (gB := gB) (gP := gP) (gTable := gTable) (g__law_begun := g__law_begun) (g__law_caps := g__law_caps) (g__law_draw := g__law_draw) (g__law_left := g__law_left) (g__law_met := g__law_met) (g__law_mixed := g__law_mixed) (g__law_pick := g__law_pick) (g_a_water := g_a_water) (g_hidden := g_hidden) (g_nothing := g_nothing) (g_sums := g_sums) (hmT := hmT) (hr := hr) (huT := huT) (kC := kC) (k__law_begun := k__law_begun) (k__law_caps := k__law_caps) (k__law_draw := k__law_draw) (k__law_left := k__law_left) (k__law_met := k__law_met) (k__law_mixed := k__law_mixed) (k__law_pick := k__law_pick) (k_a_water := k_a_water) (k_hidden := k_hidden) (k_nothing := k_nothing) (k_sums := k_sums) (kb_hidden := kb_hidden) (mC := mC) (mEq := mEq) (mR := mR) (m_fits := m_fits) (mk := mk) (sEq := sEq) (sNe := sNe))) (pss_cons ((lw_1 (EF := EF) (Fc := Fc) (G__law_begun := G__law_begun) (G__law_caps := G__law_caps) (G__law_draw := G__law_draw) (G__law_left := G__law_left) (G__law_met := G__law_met) (G__law_mixed := G__law_mixed) (G__law_pick := G__law_pick) (G_a_water := G_a_water) (G_eq := G_eq) (G_fits := G_fits) (G_hidP := G_hidP) (G_hidT := G_hidT) (G_hidden := G_hidden) (G_init := G_init) (G_nothing := G_nothing) (G_sums := G_sums) (KF := KF) (T := T) (TBc := TBc) (bC := bC) (b__law_begun := b__law_begun) (b__law_caps := b__law_caps) (b__law_draw := b__law_draw) (b__law_left := b__law_left) (b__law_met := b__law_met) (b__law_mixed := b__law_mixed) (b__law_pick := b__law_pick) (b_a_water := b_a_water) (b_eq := b_eq) (b_fits := b_fits) (b_hidden := b_hidden) (b_init := b_init) (b_nothing := b_nothing) (b_sums := b_sums) (cT := cT) (fEq := fEq) (gB := gB) (gP := gP) (gTable := gTable) (g__law_begun := g__law_begun) (g__law_caps := g__law_caps) (g__law_draw := g__law_draw) (g__law_left := g__law_left) (g__law_met := g__law_met) (g__law_mixed := g__law_mixed) (g__law_pick := g__law_pick) (g_a_water := g_a_water) (g_hidden := g_hidden) (g_nothing := g_nothing) (g_sums := g_sums) (hmT := hmT) (hr := hr) (huT := huT) (kC := kC) (k__law_begun := k__law_begun) (k__law_caps := k__law_caps) (k__law_draw := k__law_draw) (k__law_left := k__law_left) (k__law_met := k__law_met) (k__law_mixed := k__law_mixed) (k__law_pick := k__law_pick) (k_a_water := k_a_water) (k_hidden := k_hidden) (k_nothing := k_nothing) (k_sums := k_sums) (kb_hidden := kb_hidden) (mC := mC) (mEq := mEq) (mR := mR) (m_fits := m_fits) (mk := mk) (sEq := sEq) (sNe := sNe))) (pss_cons ((lw_2 (EF := EF) (Fc := Fc) (G__law_begun := G__law_begun) (G__law_caps := G__law_caps) (G__law_draw := G__law_draw) (G__law_left := G__law_left) (G__law_met := G__law_met) (G__law_mixed := G__law_mixed) (G__law_pick := G__law_pick) (G_a_water := G_a_water) (G_eq := G_eq) (G_fits := G_fits) (G_hidP := G_hidP) (G_hidT := G_hidT) (G_hidden := G_hidden) (G_init := G_init) (G_nothing := G_nothing) (G_sums := G_sums) (KF := KF) (T := T) (TBc := TBc) (bC := bC) (b__law_begun := b__law_begun) (b__law_caps := b__law_caps) (b__law_draw := b__law_draw) (b__law_left := b__law_left) (b__law_met := b__law_met) (b__law_mixed := b__law_mixed) (b__law_pick := b__law_pick) (b_a_water := b_a_water) (b_eq := b_eq) (b_fits := b_fits) (b_hidden := b_hidden) (b_init := b_init) (b_nothing := b_nothing) (b_sums := b_sums) (cT := cT) (fEq := fEq) (gB := gB) (gP := gP) (gTable := gTable) (g__law_begun := g__law_begun) (g__law_caps := g__law_caps) (g__law_draw := g__law_draw) (g__law_left := g__law_left) (g__law_met := g__law_met) (g__law_mixed := g__law_mixed) (g__law_pick := g__law_pick) (g_a_water := g_a_water) (g_hidden := g_hidden) (g_nothing := g_nothing) (g_sums := g_sums) (hmT := hmT) (hr := hr) (huT := huT) (kC := kC) (k__law_begun := k__law_begun) (k__law_caps := k__law_caps) (k__law_draw := k__law_draw) (k__law_left := k__law_left) (k__law_met := k__law_met) (k__law_mixed := k__law_mixed) (k__law_pick := k__law_pick) (k_a_water := k_a_water) (k_hidden := k_hidden) (k_nothing := k_nothing) (k_sums := k_sums) (kb_hidden := kb_hidden) (mC := mC) (mEq := mEq) (mR := mR) (m_fits := m_fits) (mk := mk) (sEq := sEq) (sNe := sNe))) (pss_cons ((lw_3 (EF := EF) (Fc := Fc) (G__law_begun := G__law_begun) (G__law_caps := G__law_caps) (G__law_draw := G__law_draw) (G__law_left := G__law_left) (G__law_met := G__law_met) (G__law_mixed := G__law_mixed) (G__law_pick := G__law_pick) (G_a_water := G_a_water) (G_eq := G_eq) (G_fits := G_fits) (G_hidP := G_hidP) (G_hidT := G_hidT) (G_hidden := G_hidden) (G_init := G_init) (G_nothing := G_nothing) (G_sums := G_sums) (KF := KF) (T := T) (TBc := TBc) (bC := bC) (b__law_begun := b__law_begun) (b__law_caps := b__law_caps) (b__law_draw := b__law_draw) (b__law_left := b__law_left) (b__law_met := b__law_met) (b__law_mixed := b__law_mixed) (b__law_pick := b__law_pick) (b_a_water := b_a_water) (b_eq := b_eq) (b_fits := b_fits) (b_hidden := b_hidden) (b_init := b_init) (b_nothing := b_nothing) (b_sums := b_sums) (cT := cT) (fEq := fEq) (gB := gB) (gP := gP) (gTable := gTable) (g__law_begun := g__law_begun) (g__law_caps := g__law_caps) (g__law_draw := g__law_draw) (g__law_left := g__law_left) (g__law_met := g__law_met) (g__law_mixed := g__law_mixed) (g__law_pick := g__law_pick) (g_a_water := g_a_water) (g_hidden := g_hidden) (g_nothing := g_nothing) (g_sums := g_sums) (hmT := hmT) (hr := hr) (huT := huT) (kC := kC) (k__law_begun := k__law_begun) (k__law_caps := k__law_caps) (k__law_draw := k__law_draw) (k__law_left := k__law_left) (k__law_met := k__law_met) (k__law_mixed := k__law_mixed) (k__law_pick := k__law_pick) (k_a_water := k_a_water) (k_hidden := k_hidden) (k_nothing := k_nothing) (k_sums := k_sums) (kb_hidden := kb_hidden) (mC := mC) (mEq := mEq) (mR := mR) (m_fits := m_fits) (mk := mk) (sEq := sEq) (sNe := sNe))) (pss_cons ((lw_4 (EF := EF) (Fc := Fc) (G__law_begun := G__law_begun) (G__law_caps := G__law_caps) (G__law_draw := G__law_draw) (G__law_left := G__law_left) (G__law_met := G__law_met) (G__law_mixed := G__law_mixed) (G__law_pick := G__law_pick) (G_a_water := G_a_water) (G_eq := G_eq) (G_fits := G_fits) (G_hidP := G_hidP) (G_hidT := G_hidT) (G_hidden := G_hidden) (G_init := G_init) (G_nothing := G_nothing) (G_sums := G_sums) (KF := KF) (T := T) (TBc := TBc) (bC := bC) (b__law_begun := b__law_begun) (b__law_caps := b__law_caps) (b__law_draw := b__law_draw) (b__law_left := b__law_left) (b__law_met := b__law_met) (b__law_mixed := b__law_mixed) (b__law_pick := b__law_pick) (b_a_water := b_a_water) (b_eq := b_eq) (b_fits := b_fits) (b_hidden := b_hidden) (b_init := b_init) (b_nothing := b_nothing) (b_sums := b_sums) (cT := cT) (fEq := fEq) (gB := gB) (gP := gP) (gTable := gTable) (g__law_begun := g__law_begun) (g__law_caps := g__law_caps) (g__law_draw := g__law_draw) (g__law_left := g__law_left) (g__law_met := g__law_met) (g__law_mixed := g__law_mixed) (g__law_pick := g__law_pick) (g_a_water := g_a_water) (g_hidden := g_hidden) (g_nothing := g_nothing) (g_sums := g_sums) (hmT := hmT) (hr := hr) (huT := huT) (kC := kC) (k__law_begun := k__law_begun) (k__law_caps := k__law_caps) (k__law_draw := k__law_draw) (k__law_left := k__law_left) (k__law_met := k__law_met) (k__law_mixed := k__law_mixed) (k__law_pick := k__law_pick) (k_a_water := k_a_water) (k_hidden := k_hidden) (k_nothing := k_nothing) (k_sums := k_sums) (kb_hidden := kb_hidden) (mC := mC) (mEq := mEq) (mR := mR) (m_fits := m_fits) (mk := mk) (sEq := sEq) (sNe := sNe))) (pss_cons ((lw_5 (EF := EF) (Fc := Fc) (G__law_begun := G__law_begun) (G__law_caps := G__law_caps) (G__law_draw := G__law_draw) (G__law_left := G__law_left) (G__law_met := G__law_met) (G__law_mixed := G__law_mixed) (G__law_pick := G__law_pick) (G_a_water := G_a_water) (G_eq := G_eq) (G_fits := G_fits) (G_hidP := G_hidP) (G_hidT := G_hidT) (G_hidden := G_hidden) (G_init := G_init) (G_nothing := G_nothing) (G_sums := G_sums) (KF := KF) (T := T) (TBc := TBc) (bC := bC) (b__law_begun := b__law_begun) (b__law_caps := b__law_caps) (b__law_draw := b__law_draw) (b__law_left := b__law_left) (b__law_met := b__law_met) (b__law_mixed := b__law_mixed) (b__law_pick := b__law_pick) (b_a_water := b_a_water) (b_eq := b_eq) (b_fits := b_fits) (b_hidden := b_hidden) (b_init := b_init) (b_nothing := b_nothing) (b_sums := b_sums) (cT := cT) (fEq := fEq) (gB := gB) (gP := gP) (gTable := gTable) (g__law_begun := g__law_begun) (g__law_caps := g__law_caps) (g__law_draw := g__law_draw) (g__law_left := g__law_left) (g__law_met := g__law_met) (g__law_mixed := g__law_mixed) (g__law_pick := g__law_pick) (g_a_water := g_a_water) (g_hidden := g_hidden) (g_nothing := g_nothing) (g_sums := g_sums) (hmT := hmT) (hr := hr) (huT := huT) (kC := kC) (k__law_begun := k__law_begun) (k__law_caps := k__law_caps) (k__law_draw := k__law_draw) (k__law_left := k__law_left) (k__law_met := k__law_met) (k__law_mixed := k__law_mixed) (k__law_pick := k__law_pick) (k_a_water := k_a_water) (k_hidden := k_hidden) (k_nothing := k_nothing) (k_sums := k_sums) (kb_hidden := kb_hidden) (mC := mC) (mEq := mEq) (mR := mR) (m_fits := m_fits) (mk := mk) (sEq := sEq) (sNe := sNe))) (pss_cons ((lw_6 (EF := EF) (Fc := Fc) (G__law_begun := G__law_begun) (G__law_caps := G__law_caps) (G__law_draw := G__law_draw) (G__law_left := G__law_left) (G__law_met := G__law_met) (G__law_mixed := G__law_mixed) (G__law_pick := G__law_pick) (G_a_water := G_a_water) (G_eq := G_eq) (G_fits := G_fits) (G_hidP := G_hidP) (G_hidT := G_hidT) (G_hidden := G_hidden) (G_init := G_init) (G_nothing := G_nothing) (G_sums := G_sums) (KF := KF) (T := T) (TBc := TBc) (bC := bC) (b__law_begun := b__law_begun) (b__law_caps := b__law_caps) (b__law_draw := b__law_draw) (b__law_left := b__law_left) (b__law_met := b__law_met) (b__law_mixed := b__law_mixed) (b__law_pick := b__law_pick) (b_a_water := b_a_water) (b_eq := b_eq) (b_fits := b_fits) (b_hidden := b_hidden) (b_init := b_init) (b_nothing := b_nothing) (b_sums := b_sums) (cT := cT) (fEq := fEq) (gB := gB) (gP := gP) (gTable := gTable) (g__law_begun := g__law_begun) (g__law_caps := g__law_caps) (g__law_draw := g__law_draw) (g__law_left := g__law_left) (g__law_met := g__law_met) (g__law_mixed := g__law_mixed) (g__law_pick := g__law_pick) (g_a_water := g_a_water) (g_hidden := g_hidden) (g_nothing := g_nothing) (g_sums := g_sums) (hmT := hmT) (hr := hr) (huT := huT) (kC := kC) (k__law_begun := k__law_begun) (k__law_caps := k__law_caps) (k__law_draw := k__law_draw) (k__law_left := k__law_left) (k__law_met := k__law_met) (k__law_mixed := k__law_mixed) (k__law_pick := k__law_pick) (k_a_water := k_a_water) (k_hidden := k_hidden) (k_nothing := k_nothing) (k_sums := k_sums) (kb_hidden := kb_hidden) (mC := mC) (mEq := mEq) (mR := mR) (m_fits := m_fits) (mk := mk) (sEq := sEq) (sNe := sNe))) (pss_cons ((lw_7 (EF := EF) (Fc := Fc) (G__law_begun := G__law_begun) (G__law_caps := G__law_caps) (G__law_draw := G__law_draw) (G__law_left := G__law_left) (G__law_met := G__law_met) (G__law_mixed := G__law_mixed) (G__law_pick := G__law_pick) (G_a_water := G_a_water) (G_eq := G_eq) (G_fits := G_fits) (G_hidP := G_hidP) (G_hidT := G_hidT) (G_hidden := G_hidden) (G_init := G_init) (G_nothing := G_nothing) (G_sums := G_sums) (KF := KF) (T := T) (TBc := TBc) (bC := bC) (b__law_begun := b__law_begun) (b__law_caps := b__law_caps) (b__law_draw := b__law_draw) (b__law_left := b__law_left) (b__law_met := b__law_met) (b__law_mixed := b__law_mixed) (b__law_pick := b__law_pick) (b_a_water := b_a_water) (b_eq := b_eq) (b_fits := b_fits) (b_hidden := b_hidden) (b_init := b_init) (b_nothing := b_nothing) (b_sums := b_sums) (cT := cT) (fEq := fEq) (gB := gB) (gP := gP) (gTable := gTable) (g__law_begun := g__law_begun) (g__law_caps := g__law_caps) (g__law_draw := g__law_draw) (g__law_left := g__law_left) (g__law_met := g__law_met) (g__law_mixed := g__law_mixed) (g__law_pick := g__law_pick) (g_a_water := g_a_water) (g_hidden := g_hidden) (g_nothing := g_nothing) (g_sums := g_sums) (hmT := hmT) (hr := hr) (huT := huT) (kC := kC) (k__law_begun := k__law_begun) (k__law_caps := k__law_caps) (k__law_draw := k__law_draw) (k__law_left := k__law_left) (k__law_met := k__law_met) (k__law_mixed := k__law_mixed) (k__law_pick := k__law_pick) (k_a_water := k_a_water) (k_hidden := k_hidden) (k_nothing := k_nothing) (k_sums := k_sums) (kb_hidden := kb_hidden) (mC := mC) (mEq := mEq) (mR := mR) (m_fits := m_fits) (mk := mk) (sEq := sEq) (sNe := sNe))) (pss_cons ((lw_8 (EF := EF) (Fc := Fc) (G__law_begun := G__law_begun) (G__law_caps := G__law_caps) (G__law_draw := G__law_draw) (G__law_left := G__law_left) (G__law_met := G__law_met) (G__law_mixed := G__law_mixed) (G__law_pick := G__law_pick) (G_a_water := G_a_water) (G_eq := G_eq) (G_fits := G_fits) (G_hidP := G_hidP) (G_hidT := G_hidT) (G_hidden := G_hidden) (G_init := G_init) (G_nothing := G_nothing) (G_sums := G_sums) (KF := KF) (T := T) (TBc := TBc) (bC := bC) (b__law_begun := b__law_begun) (b__law_caps := b__law_caps) (b__law_draw := b__law_draw) (b__law_left := b__law_left) (b__law_met := b__law_met) (b__law_mixed := b__law_mixed) (b__law_pick := b__law_pick) (b_a_water := b_a_water) (b_eq := b_eq) (b_fits := b_fits) (b_hidden := b_hidden) (b_init := b_init) (b_nothing := b_nothing) (b_sums := b_sums) (cT := cT) (fEq := fEq) (gB := gB) (gP := gP) (gTable := gTable) (g__law_begun := g__law_begun) (g__law_caps := g__law_caps) (g__law_draw := g__law_draw) (g__law_left := g__law_left) (g__law_met := g__law_met) (g__law_mixed := g__law_mixed) (g__law_pick := g__law_pick) (g_a_water := g_a_water) (g_hidden := g_hidden) (g_nothing := g_nothing) (g_sums := g_sums) (hmT := hmT) (hr := hr) (huT := huT) (kC := kC) (k__law_begun := k__law_begun) (k__law_caps := k__law_caps) (k__law_draw := k__law_draw) (k__law_left := k__law_left) (k__law_met := k__law_met) (k__law_mixed := k__law_mixed) (k__law_pick := k__law_pick) (k_a_water := k_a_water) (k_hidden := k_hidden) (k_nothing := k_nothing) (k_sums := k_sums) (kb_hidden := kb_hidden) (mC := mC) (mEq := mEq) (mR := mR) (m_fits := m_fits) (mk := mk) (sEq := sEq) (sNe := sNe))) (pss_cons ((lw_9 (EF := EF) (Fc := Fc) (G__law_begun := G__law_begun) (G__law_caps := G__law_caps) (G__law_draw := G__law_draw) (G__law_left := G__law_left) (G__law_met := G__law_met) (G__law_mixed := G__law_mixed) (G__law_pick := G__law_pick) (G_a_water := G_a_water) (G_eq := G_eq) (G_fits := G_fits) (G_hidP := G_hidP) (G_hidT := G_hidT) (G_hidden := G_hidden) (G_init := G_init) (G_nothing := G_nothing) (G_sums := G_sums) (KF := KF) (T := T) (TBc := TBc) (bC := bC) (b__law_begun := b__law_begun) (b__law_caps := b__law_caps) (b__law_draw := b__law_draw) (b__law_left := b__law_left) (b__law_met := b__law_met) (b__law_mixed := b__law_mixed) (b__law_pick := b__law_pick) (b_a_water := b_a_water) (b_eq := b_eq) (b_fits := b_fits) (b_hidden := b_hidden) (b_init := b_init) (b_nothing := b_nothing) (b_sums := b_sums) (cT := cT) (fEq := fEq) (gB := gB) (gP := gP) (gTable := gTable) (g__law_begun := g__law_begun) (g__law_caps := g__law_caps) (g__law_draw := g__law_draw) (g__law_left := g__law_left) (g__law_met := g__law_met) (g__law_mixed := g__law_mixed) (g__law_pick := g__law_pick) (g_a_water := g_a_water) (g_hidden := g_hidden) (g_nothing := g_nothing) (g_sums := g_sums) (hmT := hmT) (hr := hr) (huT := huT) (kC := kC) (k__law_begun := k__law_begun) (k__law_caps := k__law_caps) (k__law_draw := k__law_draw) (k__law_left := k__law_left) (k__law_met := k__law_met) (k__law_mixed := k__law_mixed) (k__law_pick := k__law_pick) (k_a_water := k_a_water) (k_hidden := k_hidden) (k_nothing := k_nothing) (k_sums := k_sums) (kb_hidden := kb_hidden) (mC := mC) (mEq := mEq) (mR := mR) (m_fits := m_fits) (mk := mk) (sEq := sEq) (sNe := sNe))) (pss_cons ((lw_10 (EF := EF) (Fc := Fc) (G__law_begun := G__law_begun) (G__law_caps := G__law_caps) (G__law_draw := G__law_draw) (G__law_left := G__law_left) (G__law_met := G__law_met) (G__law_mixed := G__law_mixed) (G__law_pick := G__law_pick) (G_a_water := G_a_water) (G_eq := G_eq) (G_fits := G_fits) (G_hidP := G_hidP) (G_hidT := G_hidT) (G_hidden := G_hidden) (G_init := G_init) (G_nothing := G_nothing) (G_sums := G_sums) (KF := KF) (T := T) (TBc := TBc) (bC := bC) (b__law_begun := b__law_begun) (b__law_caps := b__law_caps) (b__law_draw := b__law_draw) (b__law_left := b__law_left) (b__law_met := b__law_met) (b__law_mixed := b__law_mixed) (b__law_pick := b__law_pick) (b_a_water := b_a_water) (b_eq := b_eq) (b_fits := b_fits) (b_hidden := b_hidden) (b_init := b_init) (b_nothing := b_nothing) (b_sums := b_sums) (cT := cT) (fEq := fEq) (gB := gB) (gP := gP) (gTable := gTable) (g__law_begun := g__law_begun) (g__law_caps := g__law_caps) (g__law_draw := g__law_draw) (g__law_left := g__law_left) (g__law_met := g__law_met) (g__law_mixed := g__law_mixed) (g__law_pick := g__law_pick) (g_a_water := g_a_water) (g_hidden := g_hidden) (g_nothing := g_nothing) (g_sums := g_sums) (hmT := hmT) (hr := hr) (huT := huT) (kC := kC) (k__law_begun := k__law_begun) (k__law_caps := k__law_caps) (k__law_draw := k__law_draw) (k__law_left := k__law_left) (k__law_met := k__law_met) (k__law_mixed := k__law_mixed) (k__law_pick := k__law_pick) (k_a_water := k_a_water) (k_hidden := k_hidden) (k_nothing := k_nothing) (k_sums := k_sums) (kb_hidden := kb_hidden) (mC := mC) (mEq := mEq) (mR := mR) (m_fits := m_fits) (mk := mk) (sEq := sEq) (sNe := sNe))) (pss_cons ((lw_11 (EF := EF) (Fc := Fc) (G__law_begun := G__law_begun) (G__law_caps := G__law_caps) (G__law_draw := G__law_draw) (G__law_left := G__law_left) (G__law_met := G__law_met) (G__law_mixed := G__law_mixed) (G__law_pick := G__law_pick) (G_a_water := G_a_water) (G_eq := G_eq) (G_fits := G_fits) (G_hidP := G_hidP) (G_hidT := G_hidT) (G_hidden := G_hidden) (G_init := G_init) (G_nothing := G_nothing) (G_sums := G_sums) (KF := KF) (T := T) (TBc := TBc) (bC := bC) (b__law_begun := b__law_begun) (b__law_caps := b__law_caps) (b__law_draw := b__law_draw) (b__law_left := b__law_left) (b__law_met := b__law_met) (b__law_mixed := b__law_mixed) (b__law_pick := b__law_pick) (b_a_water := b_a_water) (b_eq := b_eq) (b_fits := b_fits) (b_hidden := b_hidden) (b_init := b_init) (b_nothing := b_nothing) (b_sums := b_sums) (cT := cT) (fEq := fEq) (gB := gB) (gP := gP) (gTable := gTable) (g__law_begun := g__law_begun) (g__law_caps := g__law_caps) (g__law_draw := g__law_draw) (g__law_left := g__law_left) (g__law_met := g__law_met) (g__law_mixed := g__law_mixed) (g__law_pick := g__law_pick) (g_a_water := g_a_water) (g_hidden := g_hidden) (g_nothing := g_nothing) (g_sums := g_sums) (hmT := hmT) (hr := hr) (huT := huT) (kC := kC) (k__law_begun := k__law_begun) (k__law_caps := k__law_caps) (k__law_draw := k__law_draw) (k__law_left := k__law_left) (k__law_met := k__law_met) (k__law_mixed := k__law_mixed) (k__law_pick := k__law_pick) (k_a_water := k_a_water) (k_hidden := k_hidden) (k_nothing := k_nothing) (k_sums := k_sums) (kb_hidden := kb_hidden) (mC := mC) (mEq := mEq) (mR := mR) (m_fits := m_fits) (mk := mk) (sEq := sEq) (sNe := sNe))) (pss_cons ((lw_12 (EF := EF) (Fc := Fc) (G__law_begun := G__law_begun) (G__law_caps := G__law_caps) (G__law_draw := G__law_draw) (G__law_left := G__law_left) (G__law_met := G__law_met) (G__law_mixed := G__law_mixed) (G__law_pick := G__law_pick) (G_a_water := G_a_water) (G_eq := G_eq) (G_fits := G_fits) (G_hidP := G_hidP) (G_hidT := G_hidT) (G_hidden := G_hidden) (G_init := G_init) (G_nothing := G_nothing) (G_sums := G_sums) (KF := KF) (T := T) (TBc := TBc) (bC := bC) (b__law_begun := b__law_begun) (b__law_caps := b__law_caps) (b__law_draw := b__law_draw) (b__law_left := b__law_left) (b__law_met := b__law_met) (b__law_mixed := b__law_mixed) (b__law_pick := b__law_pick) (b_a_water := b_a_water) (b_eq := b_eq) (b_fits := b_fits) (b_hidden := b_hidden) (b_init := b_init) (b_nothing := b_nothing) (b_sums := b_sums) (cT := cT) (fEq := fEq) (gB := gB) (gP := gP) (gTable := gTable) (g__law_begun := g__law_begun) (g__law_caps := g__law_caps) (g__law_draw := g__law_draw) (g__law_left := g__law_left) (g__law_met := g__law_met) (g__law_mixed := g__law_mixed) (g__law_pick := g__law_pick) (g_a_water := g_a_water) (g_hidden := g_hidden) (g_nothing := g_nothing) (g_sums := g_sums) (hmT := hmT) (hr := hr) (huT := huT) (kC := kC) (k__law_begun := k__law_begun) (k__law_caps := k__law_caps) (k__law_draw := k__law_draw) (k__law_left := k__law_left) (k__law_met := k__law_met) (k__law_mixed := k__law_mixed) (k__law_pick := k__law_pick) (k_a_water := k_a_water) (k_hidden := k_hidden) (k_nothing := k_nothing) (k_sums := k_sums) (kb_hidden := kb_hidden) (mC := mC) (mEq := mEq) (mR := mR) (m_fits := m_fits) (mk := mk) (sEq := sEq) (sNe := sNe))) (pss_cons ((lw_13 (EF := EF) (Fc := Fc) (G__law_begun := G__law_begun) (G__law_caps := G__law_caps) (G__law_draw := G__law_draw) (G__law_left := G__law_left) (G__law_met := G__law_met) (G__law_mixed := G__law_mixed) (G__law_pick := G__law_pick) (G_a_water := G_a_water) (G_eq := G_eq) (G_fits := G_fits) (G_hidP := G_hidP) (G_hidT := G_hidT) (G_hidden := G_hidden) (G_init := G_init) (G_nothing := G_nothing) (G_sums := G_sums) (KF := KF) (T := T) (TBc := TBc) (bC := bC) (b__law_begun := b__law_begun) (b__law_caps := b__law_caps) (b__law_draw := b__law_draw) (b__law_left := b__law_left) (b__law_met := b__law_met) (b__law_mixed := b__law_mixed) (b__law_pick := b__law_pick) (b_a_water := b_a_water) (b_eq := b_eq) (b_fits := b_fits) (b_hidden := b_hidden) (b_init := b_init) (b_nothing := b_nothing) (b_sums := b_sums) (cT := cT) (fEq := fEq) (gB := gB) (gP := gP) (gTable := gTable) (g__law_begun := g__law_begun) (g__law_caps := g__law_caps) (g__law_draw := g__law_draw) (g__law_left := g__law_left) (g__law_met := g__law_met) (g__law_mixed := g__law_mixed) (g__law_pick := g__law_pick) (g_a_water := g_a_water) (g_hidden := g_hidden) (g_nothing := g_nothing) (g_sums := g_sums) (hmT := hmT) (hr := hr) (huT := huT) (kC := kC) (k__law_begun := k__law_begun) (k__law_caps := k__law_caps) (k__law_draw := k__law_draw) (k__law_left := k__law_left) (k__law_met := k__law_met) (k__law_mixed := k__law_mixed) (k__law_pick := k__law_pick) (k_a_water := k_a_water) (k_hidden := k_hidden) (k_nothing := k_nothing) (k_sums := k_sums) (kb_hidden := kb_hidden) (mC := mC) (mEq := mEq) (mR := mR) (m_fits := m_fits) (mk := mk) (sEq := sEq) (sNe := sNe))) (pss_one (lw_14 (EF := EF) (Fc := Fc) (G__law_begun := G__law_begun) (G__law_caps := G__law_caps) (G__law_draw := G__law_draw) (G__law_left := G__law_left) (G__law_met := G__law_met) (G__law_mixed := G__law_mixed) (G__law_pick := G__law_pick) (G_a_water := G_a_water) (G_eq := G_eq) (G_fits := G_fits) (G_hidP := G_hidP) (G_hidT := G_hidT) (G_hidden := G_hidden) (G_init := G_init) (G_nothing := G_nothing) (G_sums := G_sums) (KF := KF) (T := T) (TBc := TBc) (bC := bC) (b__law_begun := b__law_begun) (b__law_caps := b__law_caps) (b__law_draw := b__law_draw) (b__law_left := b__law_left) (b__law_met := b__law_met) (b__law_mixed := b__law_mixed) (b__law_pick := b__law_pick) (b_a_water := b_a_water) (b_eq := b_eq) (b_fits := b_fits) (b_hidden := b_hidden) (b_init := b_init) (b_nothing := b_nothing) (b_sums := b_sums) (cT := cT) (fEq := fEq) (gB := gB) (gP := gP) (gTable := gTable) (g__law_begun := g__law_begun) (g__law_caps := g__law_caps) (g__law_draw := g__law_draw) (g__law_left := g__law_left) (g__law_met := g__law_met) (g__law_mixed := g__law_mixed) (g__law_pick := g__law_pick) (g_a_water := g_a_water) (g_hidden := g_hidden) (g_nothing := g_nothing) (g_sums := g_sums) (hmT := hmT) (hr := hr) (huT := huT) (kC := kC) (k__law_begun := k__law_begun) (k__law_caps := k__law_caps) (k__law_draw := k__law_draw) (k__law_left := k__law_left) (k__law_met := k__law_met) (k__law_mixed := k__law_mixed) (k__law_pick := k__law_pick) (k_a_water := k_a_water) (k_hidden := k_hidden) (k_nothing := k_nothing) (k_sums := k_sums) (kb_hidden := kb_hidden) (mC := mC) (mEq := mEq) (mR := mR) (m_fits := m_fits) (mk := mk) (sEq := sEq) (sNe := sNe)))))))))))))))))
    refine ⟨t_law08_0 K C CP CB CR Tt, pss_cons (ps_set (i := 1) sc_law.nd rfl (by first | exact Or.inl rfl | exact Or.inr rfl) (pe_call G__law_begun (hr.mono (by decide)) rfl g__law_begun k__law_begun b__law_begun .nil pass0 (pa_cons (pv 0) pa_nil))) (pss_cons (ps_for (passes_of rfl) rfl (pi_range1 rfl T.n_range (pa_cons (pe_op op_add pe_int (pe_callB (call_min2 rfl) (by rfl) T.n_min (by decide +kernel) (pa_cons (pe_callB call_len (by rfl) T.n_len (by decide +kernel) (pa_cons (pv 0) pa_nil)) (pa_cons pe_int pa_nil)))) pa_nil)) (pg_name (i := 2) sc_law.nd rfl (by first | exact Or.inl rfl | exact Or.inr rfl))  turn) (pss_one (ps_ret pe_bl))), ?_⟩
    obtain ⟨a, ns, rfl, h1, h2, h3, h4⟩ := h
    exact pure_law08 EF KF h3 h1 h2 h4
end Bw
set_option maxHeartbeats 8000000
namespace Bw
open PySem PySem.Spec PyProof.Rows L2
abbrev sx_BadTable : Stmt := inClass (top 3) 0
def dd_is_number : He.DefD := ⟨("is_number", none), "is_number", "is_number", defArgs sx_is_number, defBody sx_is_number, defScope sx_is_number, [], []⟩
def dd_is_number_between : He.DefD := ⟨("is_number_between", none), "is_number_between", "is_number_between", defArgs sx_is_number_between, defBody sx_is_number_between, defScope sx_is_number_between, [], []⟩
def dd_is_pair : He.DefD := ⟨("is_pair", none), "is_pair", "is_pair", defArgs sx_is_pair, defBody sx_is_pair, defScope sx_is_pair, [], []⟩
def dd_is_water : He.DefD := ⟨("is_water", none), "is_water", "is_water", defArgs sx_is_water, defBody sx_is_water, defScope sx_is_water, [], []⟩
def dd_sums : He.DefD := ⟨("sums", none), "sums", "sums", defArgs sx_sums, defBody sx_sums, defScope sx_sums, [], []⟩
def dd_water_of : He.DefD := ⟨("water_of", none), "water_of", "water_of", defArgs sx_water_of, defBody sx_water_of, defScope sx_water_of, [], []⟩
def dd__are_bounds : He.DefD := ⟨("_are_bounds", none), "_are_bounds", "_are_bounds", defArgs sx__are_bounds, defBody sx__are_bounds, defScope sx__are_bounds, [], []⟩
def dd_Table___init__ : He.DefD := ⟨("Table", some "__init__"), "__init__", "Table.__init__", defArgs sx_Table___init__, defBody sx_Table___init__, defScope sx_Table___init__, [.non], []⟩
def dd_Table_size : He.DefD := ⟨("Table", some "size"), "size", "Table.size", defArgs sx_Table_size, defBody sx_Table_size, defScope sx_Table_size, [], []⟩
def dd_Table_bounds : He.DefD := ⟨("Table", some "bounds"), "bounds", "Table.bounds", defArgs sx_Table_bounds, defBody sx_Table_bounds, defScope sx_Table_bounds, [], []⟩
def dd_Table_fits : He.DefD := ⟨("Table", some "fits"), "fits", "Table.fits", defArgs sx_Table_fits, defBody sx_Table_fits, defScope sx_Table_fits, [], []⟩
def dd_Table___eq__ : He.DefD := ⟨("Table", some "__eq__"), "__eq__", "Table.__eq__", defArgs sx_Table___eq__, defBody sx_Table___eq__, defScope sx_Table___eq__, [], []⟩
def dd__need_table : He.DefD := ⟨("_need_table", none), "_need_table", "_need_table", defArgs sx__need_table, defBody sx__need_table, defScope sx__need_table, [], []⟩
def dd_nothing : He.DefD := ⟨("nothing", none), "nothing", "nothing", defArgs sx_nothing, defBody sx_nothing, defScope sx_nothing, [], []⟩
def dd__go_through : He.DefD := ⟨("_go_through", none), "_go_through", "_go_through", defArgs sx__go_through, defBody sx__go_through, defScope sx__go_through, [], []⟩
def dd__least_ways : He.DefD := ⟨("_least_ways", none), "_least_ways", "_least_ways", defArgs sx__least_ways, defBody sx__least_ways, defScope sx__least_ways, [], []⟩
def dd__table_of : He.DefD := ⟨("_table_of", none), "_table_of", "_table_of", defArgs sx__table_of, defBody sx__table_of, defScope sx__table_of, [], []⟩
def dd_a_water : He.DefD := ⟨("a_water", none), "a_water", "a_water", defArgs sx_a_water, defBody sx_a_water, defScope sx_a_water, [], []⟩
def dd__can_hide : He.DefD := ⟨("_can_hide", none), "_can_hide", "_can_hide", defArgs sx__can_hide, defBody sx__can_hide, defScope sx__can_hide, [], []⟩
def dd_hidden : He.DefD := ⟨("hidden", none), "hidden", "hidden", defArgs sx_hidden, defBody sx_hidden, defScope sx_hidden, [], []⟩
def dd__law_begun : He.DefD := ⟨("_law_begun", none), "_law_begun", "_law_begun", defArgs sx__law_begun, defBody sx__law_begun, defScope sx__law_begun, [], []⟩
def dd__law_draw : He.DefD := ⟨("_law_draw", none), "_law_draw", "_law_draw", defArgs sx__law_draw, defBody sx__law_draw, defScope sx__law_draw, [], []⟩
def dd__law_pick : He.DefD := ⟨("_law_pick", none), "_law_pick", "_law_pick", defArgs sx__law_pick, defBody sx__law_pick, defScope sx__law_pick, [], []⟩
def dd__law_mixed : He.DefD := ⟨("_law_mixed", none), "_law_mixed", "_law_mixed", defArgs sx__law_mixed, defBody sx__law_mixed, defScope sx__law_mixed, [], []⟩
def dd__law_levels : He.DefD := ⟨("_law_levels", none), "_law_levels", "_law_levels", defArgs sx__law_levels, defBody sx__law_levels, defScope sx__law_levels, [], []⟩
def dd__law_caps : He.DefD := ⟨("_law_caps", none), "_law_caps", "_law_caps", defArgs sx__law_caps, defBody sx__law_caps, defScope sx__law_caps, [], []⟩
def dd__law_closed : He.DefD := ⟨("_law_closed", none), "_law_closed", "_law_closed", defArgs sx__law_closed, defBody sx__law_closed, defScope sx__law_closed, [], []⟩
def dd__law_both : He.DefD := ⟨("_law_both", none), "_law_both", "_law_both", defArgs sx__law_both, defBody sx__law_both, defScope sx__law_both, [], []⟩
def dd__law_left : He.DefD := ⟨("_law_left", none), "_law_left", "_law_left", defArgs sx__law_left, defBody sx__law_left, defScope sx__law_left, [], []⟩
def dd__law_met : He.DefD := ⟨("_law_met", none), "_law_met", "_law_met", defArgs sx__law_met, defBody sx__law_met, defScope sx__law_met, [], []⟩
def dd__law_caught : He.DefD := ⟨("_law_caught", none), "_law_caught", "_law_caught", defArgs sx__law_caught, defBody sx__law_caught, defScope sx__law_caught, [], []⟩
def dd_law : He.DefD := ⟨("law", none), "law", "law", defArgs sx_law, defBody sx_law, defScope sx_law, [], []⟩
def fn : List He.DefD := [dd_is_number, dd_is_number_between, dd_is_pair, dd_is_water, dd_sums, dd_water_of, dd__are_bounds, dd__need_table, dd_nothing, dd__go_through, dd__least_ways, dd__table_of, dd_a_water, dd__can_hide, dd_hidden, dd__law_begun, dd__law_draw, dd__law_pick, dd__law_mixed, dd__law_levels, dd__law_caps, dd__law_closed, dd__law_both, dd__law_left, dd__law_met, dd__law_caught, dd_law, dd_Table___init__, dd_Table_fits, dd_Table___eq__]
def pr : List BwHk.PrD := [⟨"Table", "size", dd_Table_size⟩, ⟨"Table", "bounds", dd_Table_bounds⟩]
def fa : List He.Fa := [.glo "is_number", .glo "is_number_between", .glo "is_pair", .glo "is_water", .glo "sums", .glo "water_of", .glo "_are_bounds", .glo "_need_table", .glo "nothing", .glo "_go_through", .glo "_least_ways", .glo "_table_of", .glo "a_water", .glo "_can_hide", .glo "hidden", .glo "_law_begun", .glo "_law_draw", .glo "_law_pick", .glo "_law_mixed", .glo "_law_levels", .glo "_law_caps", .glo "_law_closed", .glo "_law_both", .glo "_law_left", .glo "_law_met", .glo "_law_caught", .glo "law", .glo "Table", .glo "BadPoints", .glo "BadTable", .glo "RiverError", .int "MOST_CELLS" 12, .cls "Table", .noat "Table" "_size", .noat "Table" "_bounds", .meth "Table" "fits", .meth "Table" "__eq__", .mkr "Table", .exc "BadPoints", .exm "BadPoints" "RiverError" true, .exm "BadTable" "RiverError" true, .noat "BadTable" "part", .free "isinstance", .free "len", .free "all", .free "sorted", .free "range", .free "enumerate", .free "zip", .free "int", .free "bool", .free "tuple", .free "dict", .free "list", .free "abs", .free "min", .free "max", .free "super"]
def mo : List BwHq.Mo := [.exc "BadPoints", .exc "BadTable", .kitOo "BadPoints" "BadPoints" true, .kitOo "BadTable" "BadTable" true, .xf "BadTable", .kitTy "NoneType" "Table" false, .kitTy "list" "Table" false, .kitTy "tuple" "Table" false, .kitTy "int" "Table" false, .bin "Table" "__ne__" "object.__ne__", .mroO "Table"]
def si0 : BwHq.SiD := ⟨"BadTable", "part", "BadTable.__init__", defArgs sx_BadTable, defBody sx_BadTable, defScope sx_BadTable⟩
def ask : BwHq.Ask := ⟨fa, fn, pr, ["Table"], mo, [si0], [("law", none)], PySem.Challenge.pw_blindweirs_k08_points_hidden.main.file⟩
def loose0 : List PySem.Str := ["RiverError", "BadWater", "BadTable", "OtherSize", "BadPoints", "is_number", "is_number_between", "is_pair", "MOST_CELLS", "is_water", "sums", "water_of", "_are_bounds", "Table", "_need_table", "nothing", "_least_ways", "_go_through", "_table_of", "a_water", "hidden", "_can_hide", "_law_begun", "_law_draw", "_law_pick", "_law_mixed", "_law_caught", "_law_levels", "_law_does_fit", "_law_caps"]
def loose1 : List PySem.Str := ["_law_closed", "_law_both", "_law_left", "_law_met"]
def loose : List PySem.Str := loose0 ++ loose1
abbrev RR : PySem.W.OpenRow := PySem.W.OpenLaw.row PySem.Challenge.rw_blindweirs_k08_points_hidden
abbrev hk : PySem.W.Hook := BwHq.hookQ 7 ask
def ob (s : PySem.W.SharedT) : BwHq.AlQ := BwHq.obsQ 7 ask (HandSHeadRun.getT s)
theorem ob_eq (s : PySem.W.SharedT) : ob s = hk.obs s.abs := BwHq.obsQ_eq (HandSHeadRun.getT_eq s)
theorem siS : SiScope "part" (defScope sx_BadTable) := ⟨rfl, rfl, rfl, by decide +kernel, rfl, rfl, rfl, rfl, by decide +kernel⟩
theorem binds_init {K : PySem.W.Frag} {f : Addr} {fd : FuncData} (F : FunD K "__init__" "Table.__init__" (defArgs sx_Table___init__) (defBody sx_Table___init__) (defScope sx_Table___init__) [.non] [] f fd) : Binds K fd ["self", "size", "bounds"] [] := by
  obtain ⟨ds, v, b⟩ := FunD.binds1 (ps := ["self", "size", "bounds"]) F 3 1 (by simp) rfl fun Tt kV doc pm an cdv ct us its hu hi => match us, its, hu, hi with
    | [_, _, _], [_], _, _ => ⟨_, rfl, rfl⟩
  cases v
  exact b
theorem facts {P : Program} {w : World} {K : PySem.W.Frag} {h : Heap} {mg : Str → Option Value} {f : Addr} (X : K.In h) (G : h.Ns mainGlobals mg) (hfl : P.main.file = ask.fl) (htop : (P.main.scope.names.lookup ("super" : Str)).isSome = false) (hfa : mg ("law" : Str) = some (.ref f)) (c : BwHq.SaysQ ask h K) :
    ∃ fd : FuncData, (∀ (s : Shared) (v : Value), BindsTo s fd ⟨[v], []⟩ [("_law_script", v)]) ∧ ∀ base : Heap, K.In base → base.Ns mainGlobals mg → LamX.TabB base mg (He.cT K ("law", none)).1 (He.cT K ("law", none)).2 → FnOk P w K mg base CX0 26 f fd ["_law_script"] (sp_law8 K [((He.cT K ("law", none)).2, (("law" : PySem.Str) ++ ".<locals>." ++ "<lambda>"))]) := by
  have cd := c.d
  have cT : Cls K (He.ga K "Table") := He.cls_ok (cd.fact 32 (f := .cls "Table") rfl)
  have ty := BwHk.ty_ok cT (c.isty_ 0 (x := "Table") rfl)
  have TF : TabF K (He.ga K "Table") := ⟨cT, He.noat_ok (cd.fact 33 (f := .noat "Table" "_size") rfl), He.noat_ok (cd.fact 34 (f := .noat "Table" "_bounds") rfl), ty.2, ty.1⟩
  have m_fits : Meth K (He.ga K "Table") "fits" (He.ma K (He.ga K "Table") "fits") := He.meth_ok (cd.fact 35 (f := .meth "Table" "fits") rfl)
  have m_eq : Meth K (He.ga K "Table") "__eq__" (He.ma K (He.ga K "Table") "__eq__") := He.meth_ok (cd.fact 36 (f := .meth "Table" "__eq__") rfl)
  have mk : Mk K (He.ga K "Table") (He.ma K (He.ga K "Table") "__init__") := He.mkr_ok (cd.fact 37 (f := .mkr "Table") rfl)
  have gTable := He.glo_ok X G (cd.fact 27 (f := .glo "Table") rfl)
  have gP := He.glo_ok X G (cd.fact 28 (f := .glo "BadPoints") rfl)
  have gB := He.glo_ok X G (cd.fact 29 (f := .glo "BadTable") rfl)
  have mR := He.glo_ok X G (cd.fact 30 (f := .glo "RiverError") rfl)
  have gMOST := He.int_ok X G (cd.fact 31 (f := .int "MOST_CELLS" 12) rfl)
  have T : TxtB mg := ⟨He.free_ok X G (cd.fact 42 (f := .free "isinstance") rfl), He.free_ok X G (cd.fact 43 (f := .free "len") rfl), He.free_ok X G (cd.fact 44 (f := .free "all") rfl), He.free_ok X G (cd.fact 45 (f := .free "sorted") rfl), He.free_ok X G (cd.fact 46 (f := .free "range") rfl), He.free_ok X G (cd.fact 47 (f := .free "enumerate") rfl), He.free_ok X G (cd.fact 48 (f := .free "zip") rfl), He.free_ok X G (cd.fact 49 (f := .free "int") rfl), He.free_ok X G (cd.fact 50 (f := .free "bool") rfl), He.free_ok X G (cd.fact 51 (f := .free "tuple") rfl), He.free_ok X G (cd.fact 52 (f := .free "dict") rfl), He.free_ok X G (cd.fact 53 (f := .free "list") rfl), He.free_ok X G (cd.fact 54 (f := .free "abs") rfl), He.free_ok X G (cd.fact 55 (f := .free "min") rfl), He.free_ok X G (cd.fact 56 (f := .free "max") rfl)⟩
  have EF : ErrF K (He.ga K "BadPoints") (He.ga K "BadTable") (He.ga K "RiverError") := ⟨BwHq.moExc_ok (c.mo_ 0 (m := .exc "BadPoints") rfl), BwHq.kitOo_ok (c.mo_ 2 (m := .kitOo "BadPoints" "BadPoints" true) rfl), He.exm_ok (cd.fact 39 (f := .exm "BadPoints" "RiverError" true) rfl), BwHq.moExc_ok (c.mo_ 1 (m := .exc "BadTable") rfl), BwHq.kitOo_ok (c.mo_ 3 (m := .kitOo "BadTable" "BadTable" true) rfl), He.exm_ok (cd.fact 40 (f := .exm "BadTable" "RiverError" true) rfl), BwHq.moXf_ok (c.mo_ 4 (m := .xf "BadTable") rfl), He.noat_ok (cd.fact 41 (f := .noat "BadTable" "part") rfl)⟩
  have KF : KitF K (He.ga K "Table") := ⟨BwHq.kitTy_ok (c.mo_ 5 (m := .kitTy "NoneType" "Table" false) rfl), BwHq.kitTy_ok (c.mo_ 6 (m := .kitTy "list" "Table" false) rfl), BwHq.kitTy_ok (c.mo_ 7 (m := .kitTy "tuple" "Table" false) rfl), BwHq.kitTy_ok (c.mo_ 8 (m := .kitTy "int" "Table" false) rfl)⟩
  obtain ⟨xP, kP, bP, tP⟩ := He.exc_ok (cd.fact 38 (f := .exc "BadPoints") rfl)
  have SI := c.si_ hfl 0 (d := si0) rfl
  obtain ⟨ocS, odS, dVS, kVS, docS, pmS, anS, ctS, oslS, lkS, hdS⟩ := SI.lk
  subst hdS
  have g_is_number := He.glo_ok X G (cd.fact 0 (f := .glo "is_number") rfl)
  have g_is_number_between := He.glo_ok X G (cd.fact 1 (f := .glo "is_number_between") rfl)
  have g_is_pair := He.glo_ok X G (cd.fact 2 (f := .glo "is_pair") rfl)
  have g_is_water := He.glo_ok X G (cd.fact 3 (f := .glo "is_water") rfl)
  have g_sums := He.glo_ok X G (cd.fact 4 (f := .glo "sums") rfl)
  have g_water_of := He.glo_ok X G (cd.fact 5 (f := .glo "water_of") rfl)
  have g__are_bounds := He.glo_ok X G (cd.fact 6 (f := .glo "_are_bounds") rfl)
  have g__need_table := He.glo_ok X G (cd.fact 7 (f := .glo "_need_table") rfl)
  have g_nothing := He.glo_ok X G (cd.fact 8 (f := .glo "nothing") rfl)
  have g__go_through := He.glo_ok X G (cd.fact 9 (f := .glo "_go_through") rfl)
  have g__least_ways := He.glo_ok X G (cd.fact 10 (f := .glo "_least_ways") rfl)
  have g__table_of := He.glo_ok X G (cd.fact 11 (f := .glo "_table_of") rfl)
  have g_a_water := He.glo_ok X G (cd.fact 12 (f := .glo "a_water") rfl)
  have g__can_hide := He.glo_ok X G (cd.fact 13 (f := .glo "_can_hide") rfl)
  have g_hidden := He.glo_ok X G (cd.fact 14 (f := .glo "hidden") rfl)
  have g__law_begun := He.glo_ok X G (cd.fact 15 (f := .glo "_law_begun") rfl)
  have g__law_draw := He.glo_ok X G (cd.fact 16 (f := .glo "_law_draw") rfl)
  have g__law_pick := He.glo_ok X G (cd.fact 17 (f := .glo "_law_pick") rfl)
  have g__law_mixed := He.glo_ok X G (cd.fact 18 (f := .glo "_law_mixed") rfl)
  have g__law_levels := He.glo_ok X G (cd.fact 19 (f := .glo "_law_levels") rfl)
  have g__law_caps := He.glo_ok X G (cd.fact 20 (f := .glo "_law_caps") rfl)
  have g__law_closed := He.glo_ok X G (cd.fact 21 (f := .glo "_law_closed") rfl)
  have g__law_both := He.glo_ok X G (cd.fact 22 (f := .glo "_law_both") rfl)
  have g__law_left := He.glo_ok X G (cd.fact 23 (f := .glo "_law_left") rfl)
  have g__law_met := He.glo_ok X G (cd.fact 24 (f := .glo "_law_met") rfl)
  have g__law_caught := He.glo_ok X G (cd.fact 25 (f := .glo "_law_caught") rfl)
  have g_law := He.glo_ok X G (cd.fact 26 (f := .glo "law") rfl)
  obtain ⟨d_is_number, F_is_number⟩ := cd.def_ 0 (d := dd_is_number) rfl
  obtain ⟨d_is_number_between, F_is_number_between⟩ := cd.def_ 1 (d := dd_is_number_between) rfl
  obtain ⟨d_is_pair, F_is_pair⟩ := cd.def_ 2 (d := dd_is_pair) rfl
  obtain ⟨d_is_water, F_is_water⟩ := cd.def_ 3 (d := dd_is_water) rfl
  obtain ⟨d_sums, F_sums⟩ := cd.def_ 4 (d := dd_sums) rfl
  obtain ⟨d_water_of, F_water_of⟩ := cd.def_ 5 (d := dd_water_of) rfl
  obtain ⟨d__are_bounds, F__are_bounds⟩ := cd.def_ 6 (d := dd__are_bounds) rfl
  obtain ⟨d__need_table, F__need_table⟩ := cd.def_ 7 (d := dd__need_table) rfl
  obtain ⟨d_nothing, F_nothing⟩ := cd.def_ 8 (d := dd_nothing) rfl
  obtain ⟨d__go_through, F__go_through⟩ := cd.def_ 9 (d := dd__go_through) rfl
  obtain ⟨d__least_ways, F__least_ways⟩ := cd.def_ 10 (d := dd__least_ways) rfl
  obtain ⟨d__table_of, F__table_of⟩ := cd.def_ 11 (d := dd__table_of) rfl
  obtain ⟨d_a_water, F_a_water⟩ := cd.def_ 12 (d := dd_a_water) rfl
  obtain ⟨d__can_hide, F__can_hide⟩ := cd.def_ 13 (d := dd__can_hide) rfl
  obtain ⟨d_hidden, F_hidden⟩ := cd.def_ 14 (d := dd_hidden) rfl
  obtain ⟨d__law_begun, F__law_begun⟩ := cd.def_ 15 (d := dd__law_begun) rfl
  obtain ⟨d__law_draw, F__law_draw⟩ := cd.def_ 16 (d := dd__law_draw) rfl
  obtain ⟨d__law_pick, F__law_pick⟩ := cd.def_ 17 (d := dd__law_pick) rfl
  obtain ⟨d__law_mixed, F__law_mixed⟩ := cd.def_ 18 (d := dd__law_mixed) rfl
  obtain ⟨d__law_levels, F__law_levels⟩ := cd.def_ 19 (d := dd__law_levels) rfl
  obtain ⟨d__law_caps, F__law_caps⟩ := cd.def_ 20 (d := dd__law_caps) rfl
  obtain ⟨d__law_closed, F__law_closed⟩ := cd.def_ 21 (d := dd__law_closed) rfl
  obtain ⟨d__law_both, F__law_both⟩ := cd.def_ 22 (d := dd__law_both) rfl
  obtain ⟨d__law_left, F__law_left⟩ := cd.def_ 23 (d := dd__law_left) rfl
  obtain ⟨d__law_met, F__law_met⟩ := cd.def_ 24 (d := dd__law_met) rfl
  obtain ⟨d__law_caught, F__law_caught⟩ := cd.def_ 25 (d := dd__law_caught) rfl
  obtain ⟨d_law, F_law⟩ := cd.def_ 26 (d := dd_law) rfl
  obtain ⟨d_Table___init__, F_Table___init__⟩ := cd.def_ 27 (d := dd_Table___init__) rfl
  obtain ⟨d_Table_fits, F_Table_fits⟩ := cd.def_ 28 (d := dd_Table_fits) rfl
  obtain ⟨d_Table___eq__, F_Table___eq__⟩ := cd.def_ 29 (d := dd_Table___eq__) rfl
  obtain ⟨hp_size, d_Table_size, F_Table_size⟩ := c.prop_ 0 (q := ⟨"Table", "size", dd_Table_size⟩) rfl
  obtain ⟨hp_bounds, d_Table_bounds, F_Table_bounds⟩ := c.prop_ 1 (q := ⟨"Table", "bounds", dd_Table_bounds⟩) rfl
  have b_is_number : Binds K d_is_number ["thing"] [] := FunD.bindsN (ps := ["thing"]) F_is_number fun _ _ _ _ _ _ us hl => match us, hl with | [_], _ => rfl
  have b_is_number_between : Binds K d_is_number_between ["thing", "least", "most"] [] := FunD.bindsN (ps := ["thing", "least", "most"]) F_is_number_between fun _ _ _ _ _ _ us hl => match us, hl with | [_, _, _], _ => rfl
  have b_is_pair : Binds K d_is_pair ["thing"] [] := FunD.bindsN (ps := ["thing"]) F_is_pair fun _ _ _ _ _ _ us hl => match us, hl with | [_], _ => rfl
  have b_is_water : Binds K d_is_water ["thing"] [] := FunD.bindsN (ps := ["thing"]) F_is_water fun _ _ _ _ _ _ us hl => match us, hl with | [_], _ => rfl
  have b_sums : Binds K d_sums ["water"] [] := FunD.bindsN (ps := ["water"]) F_sums fun _ _ _ _ _ _ us hl => match us, hl with | [_], _ => rfl
  have b_water_of : Binds K d_water_of ["points"] [] := FunD.bindsN (ps := ["points"]) F_water_of fun _ _ _ _ _ _ us hl => match us, hl with | [_], _ => rfl
  have b__are_bounds : Binds K d__are_bounds ["thing", "size"] [] := FunD.bindsN (ps := ["thing", "size"]) F__are_bounds fun _ _ _ _ _ _ us hl => match us, hl with | [_, _], _ => rfl
  have b_Table___init__ : Binds K d_Table___init__ ["self", "size", "bounds"] [] := binds_init F_Table___init__
  have b_Table_size : Binds K d_Table_size ["self"] [] := FunD.bindsN (ps := ["self"]) F_Table_size fun _ _ _ _ _ _ us hl => match us, hl with | [_], _ => rfl
  have b_Table_bounds : Binds K d_Table_bounds ["self"] [] := FunD.bindsN (ps := ["self"]) F_Table_bounds fun _ _ _ _ _ _ us hl => match us, hl with | [_], _ => rfl
  have b_Table_fits : Binds K d_Table_fits ["self", "water"] [] := FunD.bindsN (ps := ["self", "water"]) F_Table_fits fun _ _ _ _ _ _ us hl => match us, hl with | [_, _], _ => rfl
  have b_Table___eq__ : Binds K d_Table___eq__ ["self", "other"] [] := FunD.bindsN (ps := ["self", "other"]) F_Table___eq__ fun _ _ _ _ _ _ us hl => match us, hl with | [_, _], _ => rfl
  have b__need_table : Binds K d__need_table ["table", "part"] [] := FunD.bindsN (ps := ["table", "part"]) F__need_table fun _ _ _ _ _ _ us hl => match us, hl with | [_, _], _ => rfl
  have b_nothing : Binds K d_nothing ["size"] [] := FunD.bindsN (ps := ["size"]) F_nothing fun _ _ _ _ _ _ us hl => match us, hl with | [_], _ => rfl
  have b__go_through : Binds K d__go_through ["least", "a", "middle"] [] := FunD.bindsN (ps := ["least", "a", "middle"]) F__go_through fun _ _ _ _ _ _ us hl => match us, hl with | [_, _, _], _ => rfl
  have b__least_ways : Binds K d__least_ways ["table"] [] := FunD.bindsN (ps := ["table"]) F__least_ways fun _ _ _ _ _ _ us hl => match us, hl with | [_], _ => rfl
  have b__table_of : Binds K d__table_of ["least"] [] := FunD.bindsN (ps := ["least"]) F__table_of fun _ _ _ _ _ _ us hl => match us, hl with | [_], _ => rfl
  have b_a_water : Binds K d_a_water ["table"] [] := FunD.bindsN (ps := ["table"]) F_a_water fun _ _ _ _ _ _ us hl => match us, hl with | [_], _ => rfl
  have b__can_hide : Binds K d__can_hide ["points", "size"] [] := FunD.bindsN (ps := ["points", "size"]) F__can_hide fun _ _ _ _ _ _ us hl => match us, hl with | [_, _], _ => rfl
  have b_hidden : Binds K d_hidden ["table", "points"] [] := FunD.bindsN (ps := ["table", "points"]) F_hidden fun _ _ _ _ _ _ us hl => match us, hl with | [_, _], _ => rfl
  have b__law_begun : Binds K d__law_begun ["_law_script"] [] := FunD.bindsN (ps := ["_law_script"]) F__law_begun fun _ _ _ _ _ _ us hl => match us, hl with | [_], _ => rfl
  have b__law_draw : Binds K d__law_draw ["_law_state", "_law_many"] [] := FunD.bindsN (ps := ["_law_state", "_law_many"]) F__law_draw fun _ _ _ _ _ _ us hl => match us, hl with | [_, _], _ => rfl
  have b__law_pick : Binds K d__law_pick ["_law_state", "_law_several"] [] := FunD.bindsN (ps := ["_law_state", "_law_several"]) F__law_pick fun _ _ _ _ _ _ us hl => match us, hl with | [_, _], _ => rfl
  have b__law_mixed : Binds K d__law_mixed ["_law_state", "_law_several"] [] := FunD.bindsN (ps := ["_law_state", "_law_several"]) F__law_mixed fun _ _ _ _ _ _ us hl => match us, hl with | [_, _], _ => rfl
  have b__law_levels : Binds K d__law_levels ["_law_pool"] [] := FunD.bindsN (ps := ["_law_pool"]) F__law_levels fun _ _ _ _ _ _ us hl => match us, hl with | [_], _ => rfl
  have b__law_caps : Binds K d__law_caps ["_law_state", "_law_many", "_law_thick", "_law_wide"] [] := FunD.bindsN (ps := ["_law_state", "_law_many", "_law_thick", "_law_wide"]) F__law_caps fun _ _ _ _ _ _ us hl => match us, hl with | [_, _, _, _], _ => rfl
  have b__law_closed : Binds K d__law_closed ["_law_caps_here", "_law_many"] [] := FunD.bindsN (ps := ["_law_caps_here", "_law_many"]) F__law_closed fun _ _ _ _ _ _ us hl => match us, hl with | [_, _], _ => rfl
  have b__law_both : Binds K d__law_both ["_law_caps_here", "_law_more"] [] := FunD.bindsN (ps := ["_law_caps_here", "_law_more"]) F__law_both fun _ _ _ _ _ _ us hl => match us, hl with | [_, _], _ => rfl
  have b__law_left : Binds K d__law_left ["_law_caps_here", "_law_many", "_law_spots"] [] := FunD.bindsN (ps := ["_law_caps_here", "_law_many", "_law_spots"]) F__law_left fun _ _ _ _ _ _ us hl => match us, hl with | [_, _, _], _ => rfl
  have b__law_met : Binds K d__law_met ["_law_caps_here", "_law_many", "_law_spots", "_law_told"] [] := FunD.bindsN (ps := ["_law_caps_here", "_law_many", "_law_spots", "_law_told"]) F__law_met fun _ _ _ _ _ _ us hl => match us, hl with | [_, _, _, _], _ => rfl
  have b__law_caught : Binds K d__law_caught ["_law_work"] [] := FunD.bindsN (ps := ["_law_work"]) F__law_caught fun _ _ _ _ _ _ us hl => match us, hl with | [_], _ => rfl
  have e := hfa.symm.trans g_law
  cases e
  have b := FunD.bindsA (ps := ["_law_script"]) F_law fun _ _ _ _ _ _ us hl => match us, hl with | [_], _ => rfl
  refine ⟨d_law, fun s v => b s [v] rfl, fun base _ _ TB => ?_⟩
  have G_is_number := ok_is_number (P := P) (w := w) (base := base) F_is_number T TF
  have G_is_number_between := ok_is_number_between (P := P) (w := w) (base := base) F_is_number_between T TF G_is_number g_is_number F_is_number.kp b_is_number
  have G_is_pair := ok_is_pair (P := P) (w := w) (base := base) F_is_pair T TF
  have G_is_water := ok_is_water (P := P) (w := w) (base := base) F_is_water T TF gMOST G_is_number g_is_number F_is_number.kp b_is_number
  have G_sums := ok_sums (P := P) (w := w) (base := base) F_sums T TF G_is_water g_is_water F_is_water.kp b_is_water
  have G_water_of := ok_water_of (P := P) (w := w) (base := base) F_water_of T TF
  have G__are_bounds := ok__are_bounds (P := P) (w := w) (base := base) F__are_bounds T TF G_is_number g_is_number F_is_number.kp b_is_number G_is_number_between g_is_number_between F_is_number_between.kp b_is_number_between G_is_pair g_is_pair F_is_pair.kp b_is_pair
  have G_Table___init__ := ok_Table___init__ (P := P) (w := w) (base := base) F_Table___init__ T TF gMOST G_is_number_between g_is_number_between F_is_number_between.kp b_is_number_between G__are_bounds g__are_bounds F__are_bounds.kp b__are_bounds
  have G_Table_size := ok_Table_size (P := P) (w := w) (base := base) F_Table_size T TF
  have G_Table_bounds := ok_Table_bounds (P := P) (w := w) (base := base) F_Table_bounds T TF
  have G_Table_fits := ok_Table_fits (P := P) (w := w) (base := base) F_Table_fits T TF G_sums g_sums F_sums.kp b_sums
  have G_Table___eq__ := ok_Table___eq__ (P := P) (w := w) (base := base) F_Table___eq__ T TF gTable
  have G__need_table := ok__need_table (P := P) (w := w) (base := base) F__need_table T TF gTable
  have G_nothing := ok_nothing (P := P) (w := w) (base := base) F_nothing T TF gTable G_Table___init__ b_Table___init__ mk
  have G__go_through := ok__go_through (P := P) (w := w) (base := base) F__go_through T TF
  have G__least_ways := ok__least_ways (P := P) (w := w) (base := base) F__least_ways T TF G__go_through g__go_through F__go_through.kp b__go_through G_Table_size b_Table_size hp_size G_Table_bounds b_Table_bounds hp_bounds
  have G__table_of := ok__table_of (P := P) (w := w) (base := base) F__table_of T TF gTable G_Table___init__ b_Table___init__ mk
  have G_a_water := ok_a_water (P := P) (w := w) (base := base) F_a_water T TF G_water_of g_water_of F_water_of.kp b_water_of G__need_table g__need_table F__need_table.kp b__need_table G__least_ways g__least_ways F__least_ways.kp b__least_ways
  have G_canHideG := ok_canHideG (P := P) (w := w) (base := base) F__can_hide T TF G_is_number_between g_is_number_between F_is_number_between.kp b_is_number_between
  have G_hiddenG := ok_hiddenG (P := P) (w := w) (base := base) F_hidden T TF G__need_table g__need_table F__need_table.kp b__need_table G_nothing g_nothing F_nothing.kp b_nothing G__least_ways g__least_ways F__least_ways.kp b__least_ways G__table_of g__table_of F__table_of.kp b__table_of G_canHideG g__can_hide F__can_hide.kp b__can_hide G_Table_size b_Table_size hp_size
  have G__law_begun := ok__law_begun (P := P) (w := w) (base := base) F__law_begun T TF
  have G__law_draw := ok__law_draw (P := P) (w := w) (base := base) F__law_draw T TF
  have G__law_pick := ok__law_pick (P := P) (w := w) (base := base) F__law_pick T TF G__law_draw g__law_draw F__law_draw.kp b__law_draw
  have G__law_mixed := ok__law_mixed (P := P) (w := w) (base := base) F__law_mixed T TF G__law_draw g__law_draw F__law_draw.kp b__law_draw
  have G__law_levels := ok__law_levels (P := P) (w := w) (base := base) F__law_levels T TF
  have G_capsW := ok_capsW (P := P) (w := w) (base := base) F__law_caps T TF G__law_draw g__law_draw F__law_draw.kp b__law_draw G__law_pick g__law_pick F__law_pick.kp b__law_pick
  have G__law_closed := ok__law_closed (P := P) (w := w) (base := base) F__law_closed T TF
  have G__law_both := ok__law_both (P := P) (w := w) (base := base) F__law_both T TF
  have G__law_left := ok__law_left (P := P) (w := w) (base := base) F__law_left T TF G__law_closed g__law_closed F__law_closed.kp b__law_closed
  have G__law_met := ok__law_met (P := P) (w := w) (base := base) F__law_met T TF G_a_water g_a_water F_a_water.kp b_a_water G__law_levels g__law_levels F__law_levels.kp b__law_levels G__law_closed g__law_closed F__law_closed.kp b__law_closed G__law_both g__law_both F__law_both.kp b__law_both
  have G_is_numberS := ok_is_numberS (P := P) (w := w) (base := base) F_is_number T TF
  have G_betweenS := ok_betweenS (P := P) (w := w) (base := base) F_is_number_between T TF G_is_numberS g_is_number F_is_number.kp b_is_number
  have G_canHideN := ok_canHideN (P := P) (w := w) (base := base) F__can_hide T TF G_betweenS g_is_number_between F_is_number_between.kp b_is_number_between
  have G_si := fn_si (P := P) (w := w) (mg := mg) (base := base) (k := 0) siS (by decide) SI.k lkS SI.cd rfl rfl (He.free_ok X G (cd.fact 57 (f := .free "super") rfl)) htop SI.no (by rfl) (by decide) (by decide) (fun env => by rfl)
  have b_si : Binds K _ ["self", "part"] [] := Binds.all (fd := PySem.W.ksFn "__init__" si0.qual si0.params si0.body si0.scope .none kVS docS pmS anS (.ref (BwHq.siCode K si0.cls)) ctS (BwHq.siCell K si0.cls)) fun us hl => match us, hl with | [_, _], _ => rfl
  have G_needBad := ok_needBad (P := P) (w := w) (base := base) F__need_table T gTable SI.k.cls SI.ini SI.ty G_si b_si gB
  have G_hidT := ok_hidT (C := He.ga K "Table") F_hidden G_needBad g__need_table F__need_table.kp b__need_table
  have G_hidP := ok_hidP (P := P) (w := w) (base := base) F_hidden cT G__need_table g__need_table F__need_table.kp b__need_table G_canHideN g__can_hide F__can_hide.kp b__can_hide G_Table_size b_Table_size hp_size gP xP kP bP tP
  have kb_hidden := kb2 (ps := ["table", "points"]) (ks := ["points", "table"]) (BwHq.FunD.toFun (st := sx_hidden) F_hidden) rfl (fun _ _ _ _ _ _ _ _ => rfl)
  exact ok_law (P := P) (w := w) (base := base) (pt := (He.cT K ("law", none)).2) F_law T EF KF (fun oc od fd osl c lk e => by
      have e2 : He.codeOf K ("law", none) = c := He.codeOf_eq lk e
      have e3 : (He.cT K ("law", none)).1 = c := e2
      rw [← e3]
      exact TB) (fun q hq => by
      subst hq
      exact ⟨List.mem_singleton.mpr rfl, fun p hp _ => by rw [List.mem_singleton.mp hp]⟩)
    (BwHq.FunD.toFun (st := sx__law_caught) F__law_caught) g__law_caught F__law_caught.kp b__law_caught mR G_hiddenG G_hidP G_hidT g_hidden F_hidden.kp b_hidden kb_hidden gP gB gTable cT mk G_Table___init__ b_Table___init__ m_fits G_Table_fits b_Table_fits G_Table___eq__ b_Table___eq__ m_eq.at_ (BwHq.moBin_ok (c.mo_ 9 (m := .bin "Table" "__ne__" "object.__ne__") rfl)) (BwHq.mroO_ok (c.mo_ 10 (m := .mroO "Table") rfl)) m_eq.fn G_sums g_sums F_sums.kp b_sums G_nothing g_nothing F_nothing.kp b_nothing G_a_water g_a_water F_a_water.kp b_a_water G__law_begun g__law_begun F__law_begun.kp b__law_begun G__law_draw g__law_draw F__law_draw.kp b__law_draw G__law_pick g__law_pick F__law_pick.kp b__law_pick G__law_mixed g__law_mixed F__law_mixed.kp b__law_mixed G_capsW g__law_caps F__law_caps.kp b__law_caps G__law_left g__law_left F__law_left.kp b__law_left G__law_met g__law_met F__law_met.kp b__law_met
end Bw
namespace Bw
open PySem PySem.Spec PyProof.Rows L2
theorem run (w : World) : HandSHeadRun.RunEq RR (PySem.W.view RR.prog [38]) hk ob 3000 loose w := by
  intro os
  kernel_rfl
end Bw
open PySem PySem.W PySem.Calls PyProof.Rows
set_option maxRecDepth 100000 in
set_option maxHeartbeats 8000000 in
theorem PySem.Challenge.cw_blindweirs_k08_points_hidden_holds : PySem.Challenge.rw_blindweirs_k08_points_hidden.Holds := by
  w_on; o_law
  refine HandSHeadRun.head_any (r := OpenLaw.row PySem.Challenge.rw_blindweirs_k08_points_hidden) (q := view (OpenLaw.row PySem.Challenge.rw_blindweirs_k08_points_hidden).prog [38]) (H := Bw.hk) (ob := Bw.ob) (M := 3000) (loose := Bw.loose) (d := HandSHeadRun.topDef (OpenLaw.row PySem.Challenge.rw_blindweirs_k08_points_hidden).prog 38) (kwd := []) Bw.ob_eq
    (by kernel_rfl) (fun s => by kernel_rfl) Bw.run (by kernel_rfl) (by kernel_rfl) (by kernel_rfl) (by rfl) (by first | assumption | decide +kernel) (by decide +kernel) ⟨rfl, rfl, rfl, rfl, rfl, by decide +kernel⟩ ?hw ?hc
  case hw => w_witness2
  case hc =>
    refine LamX.walk_ofTsE (l := PySem.Challenge.rw_blindweirs_k08_points_hidden) (n := 63) (k := 26) (x := "_law_script") (CX := fun _ => L2.CX0) rfl (by decide) (by kernel_rfl) ⟨rfl, by decide, by decide⟩ ?F (fun _ _ _ _ _ z => z)
    intro w mg fa h Y G hmg0
    obtain ⟨K, KX, c⟩ := Y
    have hmg : mg ("law" : PySem.Str) = some (.ref fa) := by
      have e : (HandSHeadRun.topDef (OpenLaw.row PySem.Challenge.rw_blindweirs_k08_points_hidden).prog 38).name = ("law" : PySem.Str) := by kernel_rfl
      rw [← e]
      exact hmg0
    obtain ⟨fd, hb, hF⟩ := Bw.facts (P := (PySem.Challenge.rw_blindweirs_k08_points_hidden).prog) (w := w) KX G (by kernel_rfl) (by kernel_rfl) hmg c
    have one : ∀ {p : Addr × Addr}, p ∈ [He.cT K ("law", none)] → p = He.cT K ("law", none) := fun hp => List.mem_singleton.mp hp
    refine ⟨K, KX, fd, [He.cT K ("law", none)], _, fun p hp => by rw [one hp]; exact c.empty _ (List.mem_singleton.mpr rfl), fun p hp => by rw [one hp]; exact c.out _ (List.mem_singleton.mpr rfl), fun p hp => by rw [one hp]; exact PySem.W.codeHd_of_K KX (c.hd _ (List.mem_singleton.mpr rfl)), hb, fun H a ns hl _ hT hS => ⟨a, ns, rfl, hS, Nat.le_trans hl (by decide), ?_, fun _ => rfl⟩, fun base KB GB TB => hF base KB GB (TB _ (List.mem_singleton.mpr rfl))⟩
    intro p hp
    rw [List.mem_singleton.mp hp]
    exact LamX.TabS.nil (hT _ (List.mem_singleton.mpr rfl))
