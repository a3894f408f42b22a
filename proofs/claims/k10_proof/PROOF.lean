import PyProof.Rows.All
import Wide.All
import OpenK.AllK
import Wide.FinOn
import HandS.ForMost
import HandS.DictComp
import HandS.SortRule
import HandS.Conv
import HandS.More
import HandS.Iter
import KE.KDictWalk
import KE.KDictDisplayH
import KE.GoesEnum
import HandS.Zip
import KE.KDictZip
import HandS.Wide
import HandS.Evl
import HandS.IsInst
import HandS.Property
import HandS.Style
import HandS.Codes
import HandS.Walk
import HandS.SetFor
import HandS.WordsDict
import HandS.AnyAll
import HandS.Defaults
import HandS.Base
import HandS.Call
import HandS.Exc
import HandS.HeadHook1
import HandS.HeadHook2
import KE.KStateDown
import HandS.Ends
import HandS.Words
import HandS.WordsExc
import HandS.Head0
import HandS.Head1
import HandS.Head2
import HandS.HeadEnd
import PySem.Challenge.RW_blindweirs_k10_whole_tables_and_all_smal
set_option Elab.async false
set_option linter.all false
set_option maxRecDepth 100000
set_option maxHeartbeats 4000000
/-! A dict comprehension whose keys are tuples. -/
namespace Bw
open PySem PySem.Spec PyProof.Rows L2
/-- a store into a dict that a comprehension makes, whatever its keys -/
theorem set_made {X : Cx} {pins : List (Addr × Obj)} {σ : L2.St} {H H' : Hp} {s : Shared} {E : Value → Shared → Prop} {D : Addr} {y v : V} {u r : Value} {Q : Unit → Shared → Prop} (hu : X.A.units + 1 < cLine)
    (I : Inv X pins σ H s) (g : DPut H D y v H') (ry : RelV y u) (rv : RelV v r) (k : ∀ s', Inv X pins σ H' s' → Q () s') : wpAny (model X.prog X.w) X.A (dictSet D u r) Q E s := by
  rcases g with ⟨kvs, key, e, ey, l, eH⟩ | ⟨kvs, key, b, e, ey, eb, l, eH⟩
  · rw [ey] at ry
    rw [eH] at k
    exact d_dictSet I e l ry rv k
  · rw [ey] at ry
    rw [eH] at k
    obtain rfl : u = Value.ref b := ry
    obtain ⟨z, hd, xs, rel, dd⟩ := dt_of I.hok e
    have z2 := length_putK kvs key v
    refine wpAny_dictSet_heap (hsz := by have := Paired.length rel; omega) (show X.A.units < cLine by omega) (key_of I.hok eb) dd fun h' dn sb => k _ ?_
    obtain ⟨q, es, ep, q1, q2, q3, q4, _, q5⟩ := dn
    have keep : KT (upd H D (.dT (putK kvs key v))) (putK kvs key v) (storedH xs key b r) := (rel.put key eb rv).keeps fun c ys ec => (upd_ne (ne_of ec e fun z => nomatch z)).trans ec
    exact d_write I (by rw [e]; exact True.intro) sb ⟨q, q1⟩ ⟨by omega, hd, _, keep, q, es, ep, q1, q2, q3, q4, q5⟩
section
variable {X : Cx}
/-- {k: v for target in iter if ..}, keys tuples: D the new dict -/
def tDt (wi : TI) (g : TG) (tt : TT) (tk tv : TE) (vs : List Nat) : TE := fun σ H Q => wi σ H fun J H1 => ∀ D, H1 D = none → ∃ W : Nat → Nat → Hp → Prop, (∃ m, W 0 m (upd H1 D (.dT []))) ∧ ∀ i m H, W i m H →
  (J.stop i H ∧ Q (.ref D) H) ∨ (J.go i H ∧ ∃ Nx : Hp → Prop, (∀ H', Nx H' → ∃ m', m' < m ∧ W (i + 1) m' H') ∧ ∀ x H', J.yld i H x H' → g x (wipe σ vs) H' fun σ2 H2 => wipe σ2 vs = wipe σ vs ∧ tt σ2 H2 fun b H3 =>
    if b = true then tk σ2 H3 fun y H4 => tv σ2 H4 fun z H5 => ∃ H6, DPut H5 D y z H6 ∧ Nx H6 else Nx H3)
abbrev newD : Obj := { cls := .type "dict", data := .dict #[] }
theorem pe_dt {kx vx tg iter : Expr} {ifs : List Expr} {scope : Scope} {own : List (Str × Nat)} {pos : Pos} {wi : TI} {g : TG} {tt : TT} {tk tv : TE} (hu : X.A.units + 1 < cLine) (hc : X.calm = true) (hN : X.N.Nodup) (hi : PI X tg iter wi) (ok : BlkOk X.N X.env.scope scope own)
    (hg : ∀ s H C cl fp, PG (X.blk s H scope (compEnvC scope cl C X.env) fp) tg g) (ht : ∀ s H C cl fp, PTs (X.blk s H scope (compEnvC scope cl C X.env) fp) ifs tt)
    (hk : ∀ s H C cl fp, PE (X.blk s H scope (compEnvC scope cl C X.env) fp) kx tk) (he : ∀ s H C cl fp, PE (X.blk s H scope (compEnvC scope cl C X.env) fp) vx tv)
    (hs : ∀ x, foldedSetIterable iter X.env x = pure x := by intro _; rfl) : PE X (.DictComp kx vx [⟨tg, iter, ifs, 0⟩] scope pos) (tDt wi g tt tk tv (own.map (·.2))) := by
  refine ⟨fun pins s0 σ H0 Q I0 hw => ?_⟩
  rw [arm_eval_DictComp]
  have hfree : ∀ y ∈ scope.names, y.2 = .free → ∃ c, X.env.cells.lookup y.1 = some c := fun y hy e => I0.ok.has _ ((ok.free y hy e).imp id id)
  refine wpAny_comprehension_free rfl hs (closure_ok hfree) ok.kind (fun y hy e => by rw [ok.uniq y hy, e]) (thn (hi.run pins s0 σ H0 _ I0 hw) fun _ sa ha => thn ha fun _ sb hb => ?_)
  obtain ⟨it, fp, tn, J, Hb, rfl, Ib, T, tb, fb, q⟩ := hb
  refine wpAny_newObj_type (newEnv_comp ?_)
  -- the new dict stands at D, what the block looks up at C
  obtain ⟨D, eD⟩ : ∃ D, D = sb.heap.objs.size := ⟨_, rfl⟩
  have nD : Hb D = none := Ib.hok.fresh (by rw [eD]; exact Nat.le_refl _)
  obtain ⟨W, ⟨m0, w0⟩, turn⟩ := q D nD
  obtain ⟨sd, ed⟩ : ∃ sd : Shared, sd = { sb with heap := sb.heap.push newD } := ⟨_, rfl⟩
  have kd : ∀ b o, sb.heap.get? b = some o → sd.heap.get? b = some o := fun b o e => by rw [ed]; exact Heap.get?_push_of_some _ e
  obtain ⟨Hd, eH⟩ : ∃ Hd, Hd = upd Hb D (.dT []) := ⟨_, rfl⟩
  have Id : Inv X pins σ Hd sd := by
    rw [ed, eH, eD]
    exact Ib.laid (t' := sb.toks) (fun b o e => Heap.get?_push_of_some _ e) (Nat.le_refl _) (dt_empty sb.heap Ib.big)
  have fd : ∀ b ∈ fp, FpOk X pins Hd b ∧ b < sd.heap.objs.size := fun b hb => by
    obtain ⟨o, e, _⟩ := T.obj _ _ tb b hb
    have lt := Heap.lt_size e
    have ne : b ≠ D := by rw [eD]; exact Nat.ne_of_lt lt
    exact ⟨⟨by rw [eH, upd_ne ne]; exact (fb b hb).1, (fb b hb).2⟩, Heap.lt_size (kd b o e)⟩
  have Ie := block_start Id ok hN fd
  obtain ⟨cl, ecl⟩ : ∃ cl, cl = cellsFrom (sd.heap.objs.size + 1) scope.names (cloFrom X.env.cells scope.names []) := ⟨_, rfl⟩
  obtain ⟨C, eC⟩ : ∃ C, C = sd.heap.objs.size := ⟨_, rfl⟩
  obtain ⟨se, ee⟩ : ∃ se : Shared, se = { sd with heap := pushCells (sd.heap.push newD) scope.names } := ⟨_, rfl⟩
  have te : tn 0 se.heap := T.keep _ _ _ tb fun b _ o e => by rw [ee]; exact pushCells_keeps _ _ _ _ (Heap.get?_push_of_some _ (kd b o e))
  have pg := hg sd Hd C cl fp
  have pt := ht sd Hd C cl fp
  have pk := hk sd Hd C cl fp
  have pv := he sd Hd C cl fp
  have e1 : sb.heap.objs.size = D := eD.symm
  have e2 : ({ sb with heap := pushCells ((sb.heap.push newD).push newD) scope.names } : Shared) = se := by rw [ee, ed]
  have e3 : (sb.heap.push newD).objs.size = C := by rw [eC, ed]
  have goal : codeAny (model X.prog X.w) X.A (.compStart (.DictComp kx vx [⟨tg, iter, ifs, 0⟩] scope pos) 0 (.ref it) (.ref D) (compEnvC scope cl C X.env)) (compPost (model X.prog X.w) X.A X.xe none (EP X pins σ Q) (.ref D) C) se := by
    rw [← ecl, ← eC, ← ee] at Ie
    generalize hB : compEnvC scope cl C X.env = ce at Ie pg pt pk pv ⊢
    have cC : ce.locals = C := by rw [← hB]; rfl
    -- what is known of the walked thing's own objects within the block
    have own_ok : ∀ {σ' : L2.St} {H' : Hp} {s' : Shared}, Inv (X.blk sd Hd scope ce fp) [] σ' H' s' → (∀ b ∈ fp, H' b = none) → ∀ b ∈ fp, FpOk (X.blk sd Hd scope ce fp) [] H' b := fun J' hn b hb => by
      have z := J'.ok.exf b hb
      exact ⟨hn b hb, z.1, J'.ok.exfs b hb, Or.inl hb, fun x c e => z.2 x c e, fun p hp => by cases hp⟩
    refine codeAny_compStart_dict ?_ (T.self X.A 0 _ _ _ te ?_)
    all_goals
      refine compLoop_anyD (fun n s' => ∃ i H', Inv (X.blk sd Hd scope ce fp) [] (wipe σ (own.map (·.2))) H' s' ∧ tn i s'.heap ∧ (∀ b ∈ fp, H' b = none) ∧ W i n H') ?_ m0 ⟨0, Hd, Ie, te, fun b hb => (fd b hb).1.1, by rw [eH]; exact w0⟩
      rintro n s5 ⟨i, H5, I5, t5, n5, w5⟩
      rcases turn i n H5 w5 with ⟨stop, qq⟩ | ⟨go, Nx, hNx, step⟩
      · refine thnF (T.done (X.blk sd Hd scope ce fp) rfl rfl rfl hc i [] s5 _ H5 (fun _ _ => False) I5 (own_ok I5 n5) t5 stop) fun r s6 hr => ?_
        obtain ⟨rfl, I6⟩ := hr
        have I7 : Inv X pins σ H5 s6 := Id.call' (ch := fp) I6.os I6.base I6.hok I6.bare fun b hb => by
          obtain ⟨_, p1, _, p3, p4, p5⟩ := (fd b hb).1
          exact ⟨p3, p1, p4, p5⟩
        have nC : H5 C = none := by
          rw [← cC]
          exact I6.free
        obtain ⟨m, hm, _⟩ := I6.loc
        have hm2 : s6.heap.Ns C m := by
          rw [← cC]
          exact hm
        refine ⟨m, hm2, fun h'' sb => ?_⟩
        obtain ⟨f0, f1, _, f3, f4, f5⟩ := Id.fpOk (H' := H5) (b := C) (by rw [eC]; exact Nat.le_refl _) nC
        exact ⟨.ref D, H5, I7.turned (t' := s6.toks) (fun b o hb e => (sb.2 b hb).trans e) f0 f1 f3 f4 f5, rfl, qq⟩
      · refine thnF (T.item (X.blk sd Hd scope ce fp) rfl rfl rfl hc i [] s5 _ H5 (fun _ _ => False) I5 (own_ok I5 n5) t5 go) fun r s6 hr => ?_
        obtain ⟨u, rfl, h6⟩ := hr
        refine thnF h6 fun _ s7 ⟨x, H7, I7, r7, y7, t7, n7⟩ => ?_
        have P7 := I7.pinned (own_ok I7 n7) (T.obj _ _ t7)
        -- the end of a turn: back in the block's own state
        have fin : ∀ {σ8 : L2.St} {s' : Shared} {H' : Hp}, wipe σ8 (own.map (·.2)) = wipe σ (own.map (·.2)) → Inv (X.blk sd Hd scope ce fp) ([] ++ pinsAt fp s7.heap) σ8 H' s' → Nx H' →
            ∃ m, m < n ∧ ∃ i H', Inv (X.blk sd Hd scope ce fp) [] (wipe σ (own.map (·.2))) H' s' ∧ tn i s'.heap ∧ (∀ b ∈ fp, H' b = none) ∧ W i m H' := fun hw8 J8 nx => by
          obtain ⟨m, hm, w'⟩ := hNx _ nx
          have still : ∀ b ∈ fp, ∀ o, s7.heap.get? b = some o → _ := fun b hb o e => J8.pin (b, o) (List.mem_append_right _ (List.mem_append_right _ (mem_pinsAt hb e)))
          refine ⟨m, hm, i + 1, _, (J8.unpinned (pins := [])).weak (by rw [← hw8, wipe_length]) (fun j v e => ?_), T.keep _ _ _ t7 fun b hb o e => (still b hb o e).1, fun b hb => ?_, w'⟩
          · rw [← hw8] at e
            exact (wipe_some e).1
          · obtain ⟨o, e, _⟩ := T.obj _ _ t7 b hb
            exact (still b hb o e).2.1
        refine thnF (pg.run _ s7 _ H7 x u _ P7 r7 (step x H7 y7)) fun _ s8 ⟨σ8, H8, I8, hw8, q8⟩ => ?_
        refine thnF (pt.run _ s8 σ8 H8 _ I8 q8) fun b s9 ⟨H9, I9, q9⟩ => ?_
        cases b with
        | false => exact fin hw8 I9 q9
        | true =>
          refine thnF (pk.run _ s9 σ8 H9 _ I9 q9) fun z s10 ⟨yk, H10, I10, r10, q10⟩ => ?_
          refine thnF (pv.run _ s10 σ8 H10 _ I10 q10) fun z2 s11 ⟨yv, H11, I11, r11, H12, put, nx⟩ => ?_
          exact set_made (X := X.blk sd Hd scope ce fp) hu I11 put r10 r11 fun s12 I12 => fin hw8 I12 nx
  rw [← e2] at goal
  rw [ecl, ← eC, ← e3, ← e1] at goal
  exact goal
end
end Bw
/-! sorted() of a dict whose keys are pairs of numbers. -/
namespace Bw
open PySem PySem.Spec PyProof.Rows L2
abbrev pk (q : Int × Int) : List Key := [Sum.inl q.1, Sum.inl q.2]
/-- the pair of numbers at b -/
def pairAt (H : Hp) (b : Addr) : Int × Int := match H b with
  | some (.tup [.int x, .int y]) => (x, y)
  | _ => (0, 0)
def adr : Value → Addr
  | .ref a => a
  | _ => 0
theorem pairAt_of {H : Hp} {b : Addr} {x y : Int} (e : H b = some (.tup [.int x, .int y])) : pairAt H b = (x, y) := by
  unfold pairAt
  rw [e]
/-- the tuples cs hold the pairs qs -/
def Prs (H : Hp) (qs : List (Int × Int)) (cs : List Addr) : Prop := cs.map (pairAt H) = qs ∧ ∀ c ∈ cs, H c = some (.tup [.int (pairAt H c).1, .int (pairAt H c).2])
theorem prs_at {H : Hp} {qs : List (Int × Int)} {cs : List Addr} (h : Prs H qs cs) {i : Nat} {c : Addr} (e : cs[i]? = some c) : ∃ q, qs[i]? = some q ∧ H c = some (.tup [.int q.1, .int q.2]) := by
  refine ⟨pairAt H c, ?_, h.2 c (List.mem_of_getElem? e)⟩
  rw [← h.1, List.getElem?_map, e]
  rfl
theorem prs_len {H : Hp} {qs : List (Int × Int)} {cs : List Addr} (h : Prs H qs cs) : qs.length = cs.length := by rw [← h.1, List.length_map]
theorem isKeys_prs {H : Hp} : ∀ {kvs : List (List Key × V)} {ks : List (Int × Int)} {bs : List Addr}, IsKeys H kvs bs → kvs.map (·.1) = ks.map pk → Prs H ks bs := by
  intro kvs ks bs h
  unfold IsKeys at h
  induction h generalizing ks with
  | nil =>
    intro e
    cases ks with
    | nil => exact ⟨rfl, fun c hc => nomatch hc⟩
    | cons q r => exact nomatch e
  | @cons p b ps bs hp t ih =>
    intro e
    cases ks with
    | nil => exact nomatch e
    | cons q r =>
      have e1 : p.1 = pk q := (List.cons.inj e).1
      have e2 := ih (List.cons.inj e).2
      have hb : H b = some (.tup [.int q.1, .int q.2]) := by rw [hp, e1]; rfl
      have pa : pairAt H b = q := pairAt_of hb
      refine ⟨by rw [List.map_cons, pa, e2.1], fun c hc => ?_⟩
      rcases List.mem_cons.mp hc with z | hc
      · rw [z, pa, hb]
      · exact e2.2 c hc
/-- sorted by first, then second -/
abbrev SrtP (qs : List (Int × Int)) : Prop := SrtO.Srtd SrtO.lexB qs
def rSortedDT : List V → Hp → VK → Prop := fun vs H Q => ∃ (a : Addr) (kvs : List (List Key × V)) (ks : List (Int × Int)), vs = [V.ref a] ∧ Rd H a (.dT kvs) ∧ kvs.map (·.1) = ks.map pk ∧
  ∀ (qs : List (Int × Int)) (cs : List Addr) (p : Addr), qs.Perm ks → SrtP qs → Prs H qs cs → H p = none → Q (.ref p) (upd H p (.lst (cs.map V.ref)))
section
variable {X : Cx}
theorem cr_sortedDT (hcalm : X.calm = true) : CallR X (.builtin "sorted") rSortedDT := by
  intro pins s σ H xs us Q I r q
  obtain ⟨a, kvs, ks, rfl, hd, hks, q⟩ := q
  obtain ⟨u, rfl, rx⟩ := vals1 r
  cases rx
  obtain ⟨z, hs, kx, pr, o, es, ep, ho, hx, hdt, he, hn⟩ := (show ObjOk X.prog X.w H s.heap a (.dT kvs) from hd.ok I.hok)
  have l1 : es.size = kx.length := size_of_entries he
  have l2 : kvs.length = kx.length := Paired.length pr
  have ik := isKeys_prs (isKeys_of pr) hks
  refine Calls.call_function_entry PyProof.Rows.kind_sorted PyProof.Rows.plain_sorted PyProof.Rows.entry_sorted (PyProof.Rows.args_sorted1 _) ?_
  unfold Builtin.«sorted»
  refine wpAny_bind (m := checkCount "sorted" 1 1 _) (wpAny_pure ?_)
  refine wpAny_bind (PySem.W.kdu_collect (A := X.A.in1) (kdl_raw hs hx hdt) (I.ok.hd hcalm) ho (by omega) fun h' tk acc kp it => ?_)
  have ea : acc.toList = (kx.map fun x => x.2.1).map Value.ref := by
    have hl : acc.toList.length = kx.length := by rw [Array.length_toList, it.1]; exact l1
    apply List.ext_getElem?
    intro j
    rw [List.getElem?_map, List.getElem?_map]
    cases hj : acc.toList[j]? with
    | none =>
      have h1 := List.getElem?_eq_none_iff.mp hj
      rw [List.getElem?_eq_none (by omega)]
      rfl
    | some v =>
      obtain ⟨en, hen, hv⟩ := it.2 j v (by rw [← Array.getElem?_toList]; exact hj)
      have qe := entry_at he j
      rw [hen] at qe
      cases hb : kx[j]? with
      | none =>
        rw [hb] at qe
        exact nomatch (show some en = none from qe)
      | some b =>
        rw [hb] at qe
        have e2 : en = entryOfKey (tupleKind (mixKind X.prog X.w)) b := Option.some.inj qe
        rw [hv, e2]
        rfl
  generalize ebs : (kx.map fun x => x.2.1) = bs at ea ik
  have lb : bs.length = kx.length := by rw [← ebs, List.length_map]
  have hal : acc.toList.length = bs.length := by rw [ea, List.length_map]
  have I1 : Inv X pins σ H { s with heap := h', toks := tk } := I.kept kp
  have hz : acc.toList.length ≤ sizeLine := by rw [hal, lb, ← l2]; exact z
  refine wpAny_bind (wpAny_newList ?_ hz)
  have hoL : (h'.push (seqObj "list" acc.toList.toArray 0)).get? h'.objs.size = some (seqObj "list" acc.toList.toArray 0) := Heap.get?_push_size _ rfl
  show wpAny _ _ _ _ _ { s with heap := h'.push (seqObj "list" acc.toList.toArray 0), toks := tk }
  have hp : ∀ v ∈ acc.toList, Srt.IsPair (h'.push (seqObj "list" acc.toList.toArray 0)) v (pairAt H (adr v)).1 (pairAt H (adr v)).2 := by
    intro v hv
    rw [ea] at hv
    obtain ⟨b, hb, rfl⟩ := List.mem_map.mp hv
    obtain ⟨_, its2, r2, o2, ho2, hc, n, hd2⟩ := I1.hok _ _ (ik.2 b hb)
    obtain ⟨u1, u2, rfl, ri, rj⟩ := vals2 r2
    obtain ⟨t1, rfl⟩ := ri
    obtain ⟨t2, rfl⟩ := rj
    exact ⟨b, o2, t1, t2, n, rfl, Heap.get?_push_of_some _ ho2, hc, hd2⟩
  refine wpAny_bind (wpAny_holding (wpAny_call_entry PyProof.Rows.slot_list_sort ⟨_, hoL, rfl⟩ PyProof.Rows.entry_list_sort
    (SrtO.list_sort_ord (s := { s with heap := h'.push (seqObj "list" acc.toList.toArray 0), toks := tk }) (SrtO.swo_lex fun v => pairAt H (adr v)) hoL hz (fun h2 => SrtO.pairs_sortableO (by omega) hp ?_) fun out g1 g2 => ⟨_, rfl, ?_⟩) (PyProof.Rows.args_list_sort _)))
  · intro o2 e c
    have e' : some o2 = some (seqObj "list" acc.toList.toArray 0) := e.symm.trans hoL
    cases e'
    exact absurd (Value.type.inj c) (by decide)
  obtain ⟨e', he'⟩ := PyProof.Rows.sortedHeap_at (vs := acc.toList) (out := out.toArray) hoL
  have ho3 : ∀ v ∈ out, ∃ b ∈ bs, v = Value.ref b := fun v hv => by
    have hv2 := g2.perm.mem_iff.mp hv
    rw [ea] at hv2
    obtain ⟨b, hb, e⟩ := List.mem_map.mp hv2
    exact ⟨b, hb, e.symm⟩
  have eo : out = (out.map adr).map Value.ref := by
    rw [List.map_map]
    have e1 : out.map (Value.ref ∘ adr) = out.map id := List.map_congr_left fun v hv => by
      obtain ⟨b, hb, rfl⟩ := ho3 v hv
      rfl
    rw [e1, List.map_id]
  have hcs : ∀ c ∈ out.map adr, c ∈ bs := fun c hc => by
    obtain ⟨v, hv, e⟩ := List.mem_map.mp hc
    obtain ⟨b, hb, ev⟩ := ho3 v hv
    rw [ev] at e
    exact (show b = c from e) ▸ hb
  have hperm : (out.map adr).Perm bs := by
    have h1 := g2.perm.map adr
    rw [ea, List.map_map] at h1
    have h2 : bs.map (adr ∘ Value.ref) = bs := by
      have : (adr ∘ Value.ref) = id := rfl
      rw [this, List.map_id]
    rw [h2] at h1
    exact h1
  have hlen : ((out.map adr).map V.ref).length ≤ sizeLine := by
    rw [List.length_map, hperm.length_eq, lb, ← l2]
    exact z
  have hprs : Prs H ((out.map adr).map (pairAt H)) (out.map adr) := ⟨rfl, fun c hc => ik.2 c (hcs c hc)⟩
  have hpm : ((out.map adr).map (pairAt H)).Perm ks := by
    rw [← ik.1]
    exact hperm.map _
  have hst : SrtP ((out.map adr).map (pairAt H)) := by
    rw [List.map_map]
    exact SrtO.srtd_map g1
  have rvo : Vals ((out.map adr).map V.ref) out := by
    have e2 := vals_refs (out.map adr)
    rw [← eo] at e2
    exact e2
  refine wpAny_pure ⟨_, rfl, .ref h'.objs.size, upd H h'.objs.size (.lst ((out.map adr).map V.ref)), I1.laid (t' := tk) (fun b u e => ?_) (Nat.le_refl _)
    (show ObjOk X.prog X.w _ _ _ (.lst ((out.map adr).map V.ref)) from ⟨hlen, out, e', rvo, he'⟩), rfl, q _ _ _ hpm hst hprs (I1.hok.fresh (Nat.le_refl _))⟩
  · have hb : b < h'.objs.size := Heap.lt_size e
    rw [PyProof.Rows.sortedHeap_old (Nat.ne_of_lt hb) (by rw [size_push']; exact Nat.lt_succ_of_lt hb)]
    exact Heap.get?_push_of_some _ e
end
end Bw
/-! A walk over the pairs of a passing dict whose keys are tuples: the dict stays locked from then on. -/
namespace Bw
open PySem PySem.Spec PyProof.Rows L2
def Itp (d : Addr) (o : Obj) (kvs : List (List Key × V)) : It :=
  ⟨fun i H => H d = some (.frz o (.dT kvs)) ∧ i < kvs.length, fun i H x H' => ∃ (T q : Addr) (k : List Key) (v : V), kvs[i]? = some (k, v) ∧ x = .ref T ∧ H T = none ∧ H q = some (.tup (k.map kV)) ∧ H' = upd H T (.tup [.ref q, v]), fun i H => H d = some (.frz o (.dT kvs)) ∧ kvs.length ≤ i⟩
section
variable {X : Cx} {pins : List (Addr × Obj)} {σ : L2.St} {H : Hp} {s : Shared}
theorem frzTv {d : Addr} {o : Obj} {kvs : List (List Key × V)} (I : Inv X pins σ H s) (h : H d = some (.frz o (.dT kvs))) :
    (d == sysModules) = false ∧ s.heap.get? d = some o ∧ ∃ (es : Array DictEntry) (ep : Nat), s.heap.DictRaw d es ep ∧ o.data = .dict es ep ∧ es.size = kvs.length ∧
      ∀ (i : Nat) (k : List Key) (v : V), kvs[i]? = some (k, v) → ∃ (en : DictEntry) (q : Addr), es[i]? = some en ∧ en.key = .ref q ∧ RelV v en.val ∧ H q = some (.tup (k.map kV)) := by
  obtain ⟨hd, z, hs, xs, pr, o', es, ep, ho, hx, hdt, he, _⟩ := I.hok d _ h
  rw [hd] at ho
  cases ho
  refine ⟨hs, hd, es, ep, ⟨o, hd, hx, hdt⟩, hdt, ?_, fun i k v e => ?_⟩
  · have l1 : es.size = xs.length := size_of_entries he
    have l2 : kvs.length = xs.length := Paired.length pr
    omega
  · obtain ⟨b, hb, e1, e2, e3⟩ := L2.paired_get pr e
    have q := entry_at he i
    rw [hb] at q
    exact ⟨_, b.2.1, q, rfl, e3, e2⟩
end
theorem turn_itemsT {P : Program} {w : World} {K : PySem.W.Frag} {d : Addr} {o : Obj} {es : Array DictEntry} {ep : Nat} {kvs : List (List Key × V)} {elts : List Expr} {kk : Nat} {tpos : Pos} (it : Addr) (hod : o.data = .dict es ep) :
    Turn P w K (.Tuple elts kk tpos) (Itp d o kvs) [it] it (fun i h => ∃ ok ov, IsItemIter h it d i kvs.length ep ok ov) where
  mem := by simp
  obj := fun i h st b hb => by
    have e : b = it := by simpa using hb
    subst e
    obtain ⟨ok, ov, e⟩ := st
    exact ⟨_, e, fun v z => nomatch z⟩
  keep := fun i h h' st k => let ⟨ok, ov, e⟩ := st; ⟨ok, ov, k it (by simp) _ e⟩
  item := by
    intro X hP hw hK hc i pins s σ H E I hf st hg
    subst hP hw hK
    obtain ⟨hd, hi⟩ := hg
    obtain ⟨hs, hgd, es', ep', hraw, hdt, hsz, ent⟩ := frzTv I hd
    obtain ⟨rfl, rfl⟩ := L2.dict_ep hod hdt
    obtain ⟨⟨k, v⟩, hkv⟩ : ∃ p, kvs[i]? = some p := ⟨kvs[i], List.getElem?_eq_getElem hi⟩
    obtain ⟨en, q, hen, hkey, rv, hq⟩ := ent i k v hkv
    obtain ⟨ok, ov, he⟩ := st
    rw [← hsz] at he
    have hi2 : i < es'.size := by omega
    have hlt : it < s.heap.objs.size := Heap.lt_size he
    have een : es'[i] = en := by
      rw [Array.getElem?_eq_getElem hi2] at hen
      exact Option.some.inj hen
    refine wpAny_pyNext_items_item_raw he hraw hi2 fun h' ho hT hz hk => ?_
    rw [een] at ho hT
    refine ⟨_, rfl, wpAny_letOwnedTupleGo_items (s := { s with heap := h' }) ho fun h'' he' sb => ?_⟩
    have hT2 : h''.get? s.heap.objs.size = some { cls := .type "tuple", data := .seq #[en.key, en.val] } := (sb.2 _ (Nat.ne_of_gt hlt)).trans hT
    have new : ObjOk X.prog X.w (upd H s.heap.objs.size (.tup [.ref q, v])) h'' s.heap.objs.size (.tup [.ref q, v]) :=
      ⟨by show 2 ≤ sizeLine; decide, [en.key, en.val], .cons hkey (.cons rv .nil), ⟨_, hT2, rfl, _, rfl⟩⟩
    have I1 : Inv X pins σ (upd H s.heap.objs.size (.tup [.ref q, v])) { s with heap := h'' } :=
      I.turnedNew (t' := s.toks) (ch := [it]) (fun b ob hb e => (sb.2 b (by simpa using hb)).trans (hk b ob (by simpa using hb) e)) hf (Nat.le_refl _) new
    refine ⟨.ref s.heap.objs.size, _, I1, rfl, ⟨_, q, k, v, hkv, rfl, I.hok.fresh (Nat.le_refl _), hq, rfl⟩, ⟨en.key, en.val, ?_⟩, fun b hb => ?_⟩
    · rw [← hsz]; exact he'
    · have e : b = it := by simpa using hb
      rw [e, upd_ne (Nat.ne_of_lt hlt)]
      exact (hf it (by simp)).1
  done := by
    intro X hP hw hK hc i pins s σ H E I hf st hg
    subst hP hw hK
    obtain ⟨hd, hi⟩ := hg
    obtain ⟨f0, f1, f2, f3, f4, f5⟩ := hf it (by simp)
    obtain ⟨hs, hgd, es', ep', hraw, hdt, hsz, ent⟩ := frzTv I hd
    obtain ⟨rfl, rfl⟩ := L2.dict_ep hod hdt
    obtain ⟨ok, ov, he⟩ := st
    rw [← hsz] at he
    exact wpAny_pyNext_items_end_raw (I.ok.hd hc) he hraw (by omega) fun h' eb => ⟨rfl, I.turned (t' := s.toks) (fun b ob hb e => eb b ob hb e) f0 f1 f3 f4 f5⟩
  self := fun A i s Q E st h => let ⟨_, _, e⟩ := st; PySem.W.kcp_self e h
/-- the dict is locked as the walk begins, and stays so -/
def iItemsT (td : TE) : TI := fun σ H R => td σ H fun x H1 => ∃ (d : Addr) (kvs : List (List Key × V)), x = .ref d ∧ H1 d = some (.dT kvs) ∧ ∀ o, R (Itp d o kvs) (upd H1 d (.frz o (.dT kvs)))
theorem pi_itemsT {X : Cx} {e : Expr} {td : TE} {apos cpos : Pos} {elts : List Expr} {kk : Nat} {tpos : Pos} (he : PE X e td) (hbase : attributeBase e "items" X.env (eval e X.env) = eval e X.env := by rfl) (hline : (apos.endLine == cpos.line) = true := by rfl) :
    PI X (.Tuple elts kk tpos) (.Call (.Attribute e "items" apos) [] [] cpos) (iItemsT td) := by
  refine ⟨fun pins s σ H R I h => ?_⟩
  refine wpAny_Call_method (T := "dict") (id := "dict.items") hbase rfl hline F.plainAttrs_dict F.slot_dict_items F.type_dict_items (thn (he.run pins s σ H _ I h) fun u s1 ⟨x, H0, I0, rx, d, kvs, ex, hd0, q0⟩ => ?_)
  subst ex
  obtain rfl : u = Value.ref d := rx
  obtain ⟨o, I1⟩ := I0.lock hd0 True.intro
  have q := q0 o
  have hd : upd H0 d (.frz o (.dT kvs)) d = some (.frz o (.dT kvs)) := upd_same
  obtain ⟨H1, eH⟩ : ∃ H1, H1 = upd H0 d (.frz o (.dT kvs)) := ⟨_, rfl⟩
  rw [← eH] at I1 q hd
  obtain ⟨hs, hgd, es, ep, hm, hdt, hsz, ent⟩ := frzTv I1 hd
  obtain ⟨om, hom, hxm, hdm⟩ := id hm
  refine ⟨hm.typeIs, fun a e => ⟨om, by cases e; exact hom, hxm.2.1⟩, ?_⟩
  have I2 : Inv X pins σ H1 { s1 with heap := s1.heap.push { cls := .type "dict_items", data := .fields #[.ref d] } } := I1.kept (t' := s1.toks) fun b ob q => Heap.get?_push_of_some _ q
  have hm2 : (s1.heap.push { cls := .type "dict_items", data := .fields #[.ref d] }).DictRaw d es ep := hm.at fun o e => Heap.get?_push_of_some _ e
  have fin : wpAny (model X.prog X.w) X.A (pyIter (.ref s1.heap.objs.size)) (PIE X pins σ (.Tuple elts kk tpos) R) X.xe { s1 with heap := s1.heap.push { cls := .type "dict_items", data := .fields #[.ref d] } } := by
    refine wpAny_pyIter_items_raw (d := d) ⟨_, Heap.get?_push_size _ rfl, rfl, rfl⟩ hm2 (pi_one (tk := s1.toks) I2 _ (turn_itemsT _ hdt) ⟨.none, .none, ?_⟩ q)
    rw [← hsz]
    exact Heap.get?_push_size _ rfl
  show wpAny _ _ (callWith cpos (.builtin "dict.items") [.ref d] [] []) _ X.xe s1
  exact method_meetsIn F.slot_dict_items F.entry_dict_items rfl (PySem.evalArgs_none ⟨rfl, hm.typeIs, F.args_dict_items_1 _, _, meets_dict_items_raw d hs, ⟨⟨es, ep, hm⟩, fin⟩⟩)
end Bw
/-! A dict display whose keys are tuples. -/
namespace Bw
open PySem PySem.Spec PyProof.Rows L2
def putAll (D : Addr) : List (V × V) → Hp → (Hp → Prop) → Prop
  | [], H, R => R H
  | (x, y) :: r, H, R => ∃ H', DPut H D x y H' ∧ putAll D r H' R
def tDispT (trs : List (TE × TE)) : TE := fun σ H Q => ∀ p, H p = none → tPairs trs σ (upd H p (.dT [])) fun ps H2 => putAll p ps H2 fun H3 => Q (.ref p) H3
section
variable {X : Cx} {pins : List (Addr × Obj)} {σ : L2.St}
theorem put_loop {D : Addr} {R : Hp → Prop} (hu : X.A.units + 1 < cLine) : ∀ {ps : List (V × V)} {vs : List (Value × Value)} {H : Hp} {s : Shared}, VV ps vs → Inv X pins σ H s → putAll D ps H R →
    wpAny (model X.prog X.w) X.A (forIn vs PUnit.unit fun (x : Value × Value) (_ : PUnit) => (do dictSet D x.1 x.2; pure (ForInStep.yield PUnit.unit) : Sem (ForInStep PUnit))) (fun _ s' => ∃ H', Inv X pins σ H' s' ∧ R H') X.xe s := by
  intro ps vs H s r
  induction r generalizing H s with
  | nil =>
    intro I q
    rw [List.forIn_nil]
    exact wpAny_pure ⟨H, I, q⟩
  | @cons p v ps vs h t ih =>
    intro I q
    obtain ⟨x, y⟩ := p
    obtain ⟨H', g, q⟩ := q
    rw [List.forIn_cons]
    exact wpAny_bind (wpAny_bind (set_made hu I g h.1 h.2 fun s' I' => wpAny_pure (ih I' q)))
theorem pe_dispT {pos : Pos} {keys : List (Option Expr)} {values : List Expr} {trs : List (TE × TE)} (hu : X.A.units + 1 < cLine) (h : PPs X pos keys values trs) (hall : keys.all (·.isSome) = true) (hl : keys.length = values.length) (h0 : keys ≠ [])
    (h15 : keys.length ≤ 15) : PE X (.Dict keys values pos) (tDispT trs) := by
  refine ⟨fun pins s σ H Q I q => ?_⟩
  have hn := I.hok.fresh (Nat.le_refl s.heap.objs.size)
  have I1 := I.laid (a := s.heap.objs.size) (o := .dT []) (h' := s.heap.push { cls := .type "dict", data := .dict #[] }) (t' := s.toks) (fun _ _ q => Heap.get?_push_of_some _ q) (Nat.le_refl _) (dt_empty s.heap I.big)
  have ln := pairTrees_length keys values X.env pos hall hl
  have hp0 : pairTrees keys values X.env pos ≠ [] := fun z => by
    rw [z] at ln
    exact h0 (List.length_eq_zero_iff.mp ln.symm)
  rw [arm_eval_Dict, zip_pairTrees keys values X.env pos hall hl, dictDisplay_pairs _ hp0 (by omega)]
  refine wpAny_bind (wpAny_standAt (wpAny_bind ?_))
  unfold subDict
  refine wpAny_bind (wpAny_alloc ?_)
  refine wpAny_bind (wpAny_holding ?_)
  rw [if_pos (by omega)]
  refine wpAny_bind (thn (h.run pins _ σ _ _ I1 (q _ hn)) fun ws s2 ⟨ps, H2, I2, rel, q2⟩ => ?_)
  refine wpAny_holding ?_
  refine wpAny_bind (thn (put_loop hu rel I2 q2) fun _ s3 ⟨H3, I3, q3⟩ => ?_)
  exact wpAny_pure (wpAny_pure (wpAny_pure ⟨.ref s.heap.objs.size, H3, I3, rfl, q3⟩))
end
end Bw
/-! enumerate of a tuple. -/
namespace Bw
open PySem PySem.Spec PyProof.Rows L2
theorem newE {v : Value} {o : Obj} {G : Heap → Prop} (B : Begins v o G) :
    Meets (Builtin.«enumerate.__new__» ⟨[.type "enumerate", v], []⟩) (fun _ R s => G s.heap ∧
      R (.ok (.ret (.ref (s.heap.push o).objs.size))) { s with heap := (s.heap.push o).push { cls := .type "enumerate", data := .fields #[.none, .bool false, .ref s.heap.objs.size, rawInt 0, .none, .none] } }) :=
  .of_wp fun prog w A R s h => by
    obtain ⟨hp, gs, dr, tk, os⟩ := s
    obtain ⟨hG, h⟩ := h
    have hsub := sub_enumerate
    have q1 : ∀ {A' : Around} {E : Value → Shared → Prop} {Q : Value → Shared → Prop}, Q (.ref hp.objs.size) ⟨hp.push o, gs, dr, tk, os⟩ → wpAny (model prog w) A' (pyIter v) Q E ⟨hp, gs, dr, tk, os⟩ :=
      fun q => B.iter prog w _ _ ⟨hp, gs, dr, tk, os⟩ _ hG q
    wp_walk using q1
    refine wpAny_stack_any fun st => wpAny_pure ?_
    split
    · rename_i c _ _ _ _ _
      by_cases hc : (c == Value.type "enumerate") = true
      all_goals (wp_walk using q1)
      all_goals exact ⟨_, rfl, h⟩
    · wp_walk using q1
      exact ⟨_, rfl, h⟩
theorem callE {prog : Program} {w : World} {A : Around} {E : Value → Shared → Prop} {s : Shared} {v : Value} {o : Obj} {G : Heap → Prop} {Q : Value → Shared → Prop} (B : Begins v o G) (hG : G s.heap)
    (h : ∀ h', IsEnum h' (s.heap.objs.size + 1) s.heap.objs.size 0 .none → h'.get? s.heap.objs.size = some o → (∀ b u, s.heap.get? b = some u → h'.get? b = some u) → Q (.ref (s.heap.objs.size + 1)) { s with heap := h' }) :
    wpAny (model prog w) A (call (.type "enumerate") [v]) Q E s := by
  refine callType_new F.called_enumerate (by decide) (F.typeCall_enumerate_1 _) (F.newCall_enumerate_1 _) (fun obj => F.args_object_init_2 obj _) F.entry_enumerate_new (newE B) ⟨hG, ?_⟩
  obtain ⟨n, en⟩ : ∃ n, n = s.heap.objs.size := ⟨_, rfl⟩
  have hz : (s.heap.push o).objs.size = n + 1 := by rw [Heap.size_push, en]
  show _ ∧ _
  rw [hz, ← en]
  obtain ⟨oe, eoe⟩ : ∃ oe : Obj, oe = { cls := .type "enumerate", data := .fields #[.none, .bool false, .ref n, rawInt 0, .none, .none] } := ⟨_, rfl⟩
  rw [← eoe]
  have he : ((s.heap.push o).push oe).get? (n + 1) = some oe := by
    rw [← hz]
    exact Heap.get?_push_size _ (by rw [eoe]; rfl)
  have ho : ((s.heap.push o).push oe).get? n = some o := by
    rw [en]
    exact Heap.get?_push_of_some _ (Heap.get?_push_size _ B.free)
  refine ⟨⟨_, he, by rw [eoe]⟩, ?_⟩
  rw [← en] at h
  exact h _ (he.trans (by rw [eoe])) ho fun b u e => Heap.get?_push_of_some _ (Heap.get?_push_of_some _ e)
/-- the items of the tuple at a, each in a new pair behind its index -/
def IteT (K : PySem.W.Frag) (a : Addr) : It :=
  ⟨fun i H => ∃ (xs : List V) (x : V), SqT K H a xs ∧ xs[i]? = some x, fun i H v H' => ∃ T x, v = .ref T ∧ H T = none ∧ H' = upd H T (.tup [.int (i : Nat), x]) ∧ ∀ xs, SqT K H a xs → xs[i]? = some x, fun i H => ∃ xs : List V, SqT K H a xs ∧ xs.length ≤ i⟩
theorem turnET {P : Program} {w : World} {K : PySem.W.Frag} {elts : List Expr} {kk : Nat} {tpos : Pos} (a e it : Addr) :
    Turn P w K (.Tuple elts kk tpos) (IteT K a) [e, it] e (fun i h => (∃ old, IsEnum h e it ((i : Nat) : Int) old) ∧ h.IsTupleIter it a i ∧ e ≠ it ∧ e ≠ a ∧ a ≠ it) where
  mem := List.mem_cons_self ..
  obj := fun i h st b hb => by
    obtain ⟨⟨old, he⟩, ⟨o, ho, _, hd⟩, _⟩ := st
    rcases List.mem_cons.mp hb with z | hb
    · rw [z]
      exact ⟨_, he, fun v q => nomatch q⟩
    · rw [List.mem_singleton.mp hb]
      exact ⟨o, ho, fun v q => by rw [hd] at q; cases q⟩
  keep := fun i h h' st k => by
    obtain ⟨⟨old, he⟩, hi, r⟩ := st
    exact ⟨⟨old, k e (by simp) _ he⟩, hi.at fun o q => k it (by simp) o q, r⟩
  item := fun X hP hw hK hc i pins s σ H E I hf st hg => by
    subst hP hw hK
    obtain ⟨⟨old, he⟩, hit, n1, n2, n3⟩ := st
    obtain ⟨xs, x, hq, hx⟩ := hg
    obtain ⟨its, rv, p, _⟩ := I.tuple hq
    obtain ⟨u, hu, ru⟩ := rv.get hx
    have D := Draws.tuple (prog := X.prog) (w := X.w) (A := X.A.in1) (I.ok.hd hc) it a n3 its.toArray
    have elt : e < s.heap.objs.size := Heap.lt_size he
    have ilt : it < s.heap.objs.size := let ⟨_, q, _⟩ := hit; Heap.lt_size q
    have hiz : i < its.toArray.size := by
      have h1 := rv.length
      have h2 := (List.getElem?_eq_some_iff.mp hx).1
      simp only [List.size_toArray]
      omega
    refine wpAny_pyNext_enum_itemD D he ⟨hit, p⟩ hiz n1 (by simp [n1, n2]) fun y h1 tk hy ho hst hT hsz hk => ?_
    have ey : y = u := by
      have hu2 : its.toArray[i]? = some u := by simpa using hu
      rw [hu2] at hy
      exact (Option.some.inj hy).symm
    rw [ey] at ho hT
    refine ⟨_, rfl, wpAny_letOwnedTupleGo_enum (s := { s with heap := h1, toks := tk + 1 }) ho fun h2 he2 sb => ?_⟩
    have hT2 : h2.get? s.heap.objs.size = some { cls := .type "tuple", data := .seq #[.int i tk, u] } := (sb.2 _ (Nat.ne_of_gt elt)).trans hT
    have ok : ObjOk X.prog X.w (upd H s.heap.objs.size (.tup [.int (i : Nat), x])) h2 s.heap.objs.size (.tup [.int (i : Nat), x]) :=
      ⟨by show 2 ≤ sizeLine; decide, [.int i tk, u], .cons ⟨_, rfl⟩ (.cons ru .nil), ⟨_, hT2, rfl, _, rfl⟩⟩
    have I1 : Inv X pins σ (upd H s.heap.objs.size (.tup [.int (i : Nat), x])) { s with heap := h2, toks := tk + 1 } := I.turnedNew (ch := [e, it]) (fun b ob hb q => by
      have b1 : b ≠ e := fun z => hb (by simp [z])
      have b2 : b ≠ it := fun z => hb (by simp [z])
      exact (sb.2 b b1).trans (hk b ob b1 b2 q)) hf (Nat.le_refl _) ok
    have i1 : ((i + 1 : Nat) : Int) = (i : Int) + 1 := by omega
    refine ⟨.ref s.heap.objs.size, _, I1, rfl, ⟨_, x, rfl, I.hok.fresh (Nat.le_refl _), rfl, fun ys hy => by rw [I.tuple_inj hy hq]; exact hx⟩, ⟨⟨u, by rw [i1]; exact he2⟩, hst.1.at fun o q => (sb.2 it (Ne.symm n1)).trans q, n1, n2, n3⟩, fun b hb => ?_⟩
    have hb2 : b < s.heap.objs.size := by
      rcases List.mem_cons.mp hb with z | z
      · rw [z]; exact elt
      · rw [List.mem_singleton.mp z]; exact ilt
    rw [upd_ne (Nat.ne_of_lt hb2)]
    exact (hf b hb).1
  done := fun X hP hw hK hc i pins s σ H E I hf st hg => by
    subst hP hw hK
    obtain ⟨⟨old, he⟩, hit, n1, n2, n3⟩ := st
    obtain ⟨xs, hq, hx⟩ := hg
    obtain ⟨its, rv, p, _⟩ := I.tuple hq
    obtain ⟨f0, f1, f2, f3, f4, f5⟩ := hf it (by simp)
    have hl := rv.length
    have hTy : s.TypeIs (.ref e) "enumerate" := ⟨_, he, rfl⟩
    unfold pyNext
    refine wpAny_bind (wpAny_attempt (wpAny_callSpecial?_slot (name := Str.ofString "__next__") hTy F.slot_enumerate_next (wpAny_call_entry F.slot_enumerate_next hTy F.entry_enumerate_next ?_ (F.args_enumerate_next_1 _))))
    show wpAny _ _ (field (.ref e) 2 >>= _) _ _ _
    refine wpAny_bind (wpAny_field he rfl (x := .ref it) rfl ?_)
    refine wpAny_bind (RZ.nextOf_tuple_end (I.ok.hd hc) hit p (by simp; omega) fun h1 ex hk hx1 => ?_)
    obtain ⟨ox, hox, hcx⟩ := hx1
    refine wpAny_bind (wpAny_isInstance (T := "StopIteration") (b := true) ⟨ox, hox, hcx⟩ isSubtype_stop ?_)
    exact wpAny_pure ⟨rfl, I.turned (t' := s.toks) (fun b o hb q => hk b o hb q) f0 f1 f3 f4 f5⟩
  self := fun A i s Q E st h => by
    obtain ⟨⟨_, he⟩, _⟩ := st
    exact wpAny_pyIter_enum he h
def iEnumT (K : PySem.W.Frag) (ta : TA) : TI := fun σ H R => ta σ H fun vs H1 => ∃ a xs, vs = [.ref a] ∧ SqT K H1 a xs ∧ R (IteT K a) H1
theorem pi_enumT {X : Cx} {e : Expr} {ta : TA} {p pos tpos : Pos} {elts : List Expr} {kk : Nat} (hg : Gl X "enumerate") (hm : X.mg "enumerate" = none) (ha : PA X [e] ta) (hs : starEach [e] X.env = [(false, eval e X.env)] := by rfl) :
    PI X (.Tuple elts kk tpos) (.Call (.Name "enumerate" p) [e] [] pos) (iEnumT X.K ta) := by
  constructor
  intro pins s σ H R I h
  refine Call_ (ld_blt I hg hm boot_enumerate (PyProof.Rows.callWith_type1 (thn (ha.run pos pins s σ H _ I h) fun us s1 ⟨vs, H1, I1, r1, q1⟩ => ?_) hs rfl))
  obtain ⟨a, xs, ex, hq, q⟩ := q1
  subst ex
  obtain ⟨u, rfl, ru⟩ := vals1 r1
  cases ru
  obtain ⟨its, rv, p1, _⟩ := I1.tuple hq
  obtain ⟨n, en⟩ : ∃ n, n = s1.heap.objs.size := ⟨_, rfl⟩
  have la : a < n := by
    obtain ⟨o, ho, _⟩ := id p1
    rw [en]
    exact Heap.lt_size ho
  refine callE (begins_tuple a its.toArray) p1 fun h1 he ho hk => wpAny_pyIter_enum he ?_
  rw [← en] at he ho
  have I2 : Inv X pins σ H1 { s1 with heap := h1 } := I1.kept (t' := s1.toks) hk
  refine ⟨n + 1, [n + 1, n], _, _, H1, by rw [en], I2, turnET a (n + 1) n, ⟨⟨.none, he⟩, ⟨_, ho, rfl, rfl⟩, Nat.succ_ne_self _, Nat.ne_of_gt (Nat.lt_succ_of_lt la), Nat.ne_of_lt la⟩, fun b hb => ?_, q⟩
  have hle : s1.heap.objs.size ≤ b := by
    rw [← en]
    rcases List.mem_cons.mp hb with z | z
    · rw [z]; exact Nat.le_succ n
    · rw [List.mem_singleton.mp z]; exact Nat.le_refl n
  exact I1.fpOk hle (I1.hok.fresh hle)
end Bw
/-! zip of two tuples walked by ONE name: the pair of a turn stays where it is. -/
namespace Bw
open PySem PySem.Spec PyProof.Rows L2
def zo (f0 f1 : Value) (TI TO : Addr) : Obj := { cls := .type "zip", dict := none, data := .fields #[f0, f1, .bool false, .ref TI, .ref TO], slots := #[] }
def ZAny (h : Heap) (z TI TO : Addr) : Prop := ∃ f0 f1, h.get? z = some (zo f0 f1 TI TO) ∧ (f0 = .none ∨ ∃ T : Nat, f0 = rawInt (T : Int))
section
variable {prog : Program} {w : World} {A : Around} {E : Value → Shared → Prop} {s : Shared} {z TI TO i1 i2 l1 l2 : Addr} {k1 k2 : Nat} {xs ys : Array Value} {x y : Value}
theorem z_free {Q : Bool → Shared → Prop} (hz : ZAny s.heap z TI TO) (ht : Q true s) (hf : ∀ h', ZAny h' z TI TO → Heap.SameBut z s.heap h' → Q false { s with heap := h' }) : wpAny (model prog w) A (Builtin.SmallTypes.ownedTupleIsFree (.ref z)) Q E s := by
  obtain ⟨f0, f1, hg, hk⟩ := hz
  unfold Builtin.SmallTypes.ownedTupleIsFree
  refine wpAny_bind (wpAny_field hg rfl (x := f0) rfl ?_)
  rcases hk with rfl | ⟨T, rfl⟩
  · exact wpAny_pure ht
  · show wpAny _ _ (loadIfAlive ((T : Int).toNat) >>= _) _ _ _
    rw [Int.toNat_natCast]
    have la : ∀ {R : Option Obj → Shared → Prop}, R (s.heap.get? T) s → wpAny (model prog w) A (loadIfAlive T) R E s := fun h => fun _ _ _ => h
    refine wpAny_bind (la ?_)
    cases hT : s.heap.get? T with
    | none => exact wpAny_pure ht
    | some oT =>
      simp only [Option.isNone_some, Bool.false_eq_true, if_false]
      refine wpAny_bind (wpAny_field hg rfl (x := f1) rfl ?_)
      by_cases c : (f1 != Value.bool true) = true
      · rw [if_pos c]
        exact wpAny_bind (wpAny_setField_rec hg (by simp) fun h1 g1 b1 => wpAny_pure (hf h1 ⟨_, _, g1, Or.inr ⟨T, rfl⟩⟩ b1))
      · rw [if_neg c]
        exact wpAny_pure (hf s.heap ⟨_, _, hg, Or.inr ⟨T, rfl⟩⟩ (Heap.SameBut.refl _ _))
theorem zt_item {Q : Value → Shared → Prop} (D : ZipApart z TI TO i1 i2 l1 l2) (hz : ZAny s.heap z TI TO) (hTI : PySem.IsPair s.heap TI (.ref i1) (.ref i2)) (hTO : ∃ a b, PySem.IsPair s.heap TO a b)
    (h1 : s.heap.IsTupleIter i1 l1 k1) (h2 : s.heap.IsTupleIter i2 l2 k2) (t1 : s.heap.IsTuple l1 xs) (t2 : s.heap.IsTuple l2 ys) (hx : xs[k1]? = some x) (hy : ys[k2]? = some y)
    (hQ : ∀ h', ZAny h' z TI TO → (∃ a b, PySem.IsPair h' TO a b) → h'.IsTupleIter i1 l1 (k1 + 1) → h'.IsTupleIter i2 l2 (k2 + 1) → PySem.IsPair h' s.heap.objs.size x y →
      (∀ c o, c ≠ z → c ≠ TO → c ≠ i1 → c ≠ i2 → s.heap.get? c = some o → h'.get? c = some o) → Q (.ref s.heap.objs.size) { s with heap := h' }) :
    wpAny (model prog w) A (Builtin.«zip.__next__» ⟨[.ref z], []⟩) (fun fin s' => ∃ v, fin = .done (.ret v) ∧ Q v s') E s := by
  obtain ⟨f0, f1, hg, hk⟩ := id hz
  obtain ⟨a, b, hTO⟩ := hTO
  show wpAny _ _ (field (.ref z) 2 >>= _) _ _ _
  refine wpAny_bind (wpAny_field hg rfl (x := .bool false) rfl ?_)
  show wpAny _ _ (field (.ref z) 3 >>= _) _ _ _
  refine wpAny_bind (wpAny_field hg rfl (x := .ref TI) rfl (wpAny_bind (wpAny_seqItems hTI rfl ?_)))
  show wpAny _ _ (Builtin.SmallTypes.ownedTupleIsFree (.ref z) >>= _) _ _ _
  refine wpAny_bind (z_free hz ?_ fun n1 z1 b1 => ?_)
  · -- the pair is its own: used again within, a new one handed out
    simp only [if_true]
    refine wpAny_bind (wpAny_rule (wpAny_bind (wpAny_field hg rfl (x := .ref TO) rfl (wpAny_bind (wpAny_setField_rec hg (by simp) fun n1 g1 b1 => ?_)))))
    replace g1 : n1.get? z = some (zo .ellipsis f1 TI TO) := g1
    refine wpAny_bind ?_
    simp only [List.zipIdx_cons, List.zipIdx_nil, List.forIn_cons, List.forIn_nil]
    refine wpAny_bind (wpAny_bind (wpAny_onRaise ?_))
    show wpAny _ _ (Builtin.SmallTypes.nextOf (.ref i1) >>= _) _ _ _
    refine wpAny_bind (RZ.nextOf_tuple_item (h1.extBut b1.extBut D.i1z) (t1.extBut b1.extBut D.l1z) hx fun n2 j1 b2 => wpAny_pure ?_)
    have p2 : PySem.IsPair n2 TO a b := b2.extBut _ _ D.TOi1 (b1.extBut _ _ D.TOz hTO)
    refine wpAny_bind (wpAny_seqItems p2 rfl (wpAny_bind (wpAny_updateSeq_pair p2 fun n3 p3 b3 => wpAny_bind (wpAny_letGo (wpAny_pure ?_)))))
    replace p3 : PySem.IsPair n3 TO x b := p3
    refine wpAny_bind (wpAny_bind (wpAny_onRaise ?_))
    show wpAny _ _ (Builtin.SmallTypes.nextOf (.ref i2) >>= _) _ _ _
    have q2 : n3.IsTupleIter i2 l2 k2 := ((h2.extBut b1.extBut D.i2z).extBut b2.extBut D.i12.symm).extBut b3.extBut D.TOi2.symm
    have q3 : n3.IsTuple l2 ys := ((t2.extBut b1.extBut D.l2z).extBut b2.extBut D.l2i1).extBut b3.extBut D.l2TO
    refine wpAny_bind (RZ.nextOf_tuple_item q2 q3 hy fun n4 j2 b4 => wpAny_pure ?_)
    have p4 : PySem.IsPair n4 TO x b := b4.extBut _ _ D.TOi2 p3
    refine wpAny_bind (wpAny_seqItems p4 rfl (wpAny_bind (wpAny_updateSeq_pair p4 fun n5 p5 b5 => wpAny_bind (wpAny_letGo (wpAny_pure (wpAny_pure ?_))))))
    replace p5 : PySem.IsPair n5 TO x y := p5
    refine wpAny_bind (wpAny_seqItems p5 rfl (wpAny_bind (wpAny_newTuple ?_)))
    have sz : n5.objs.size = s.heap.objs.size := by rw [b5.1, b4.1, b3.1, b2.1, b1.1]
    have g5 : n5.get? z = some (zo .ellipsis f1 TI TO) := b5.extBut _ _ D.TOz.symm (b4.extBut _ _ D.i2z.symm (b3.extBut _ _ D.TOz.symm (b2.extBut _ _ D.i1z.symm g1)))
    have kp : ∀ c o, c ≠ z → c ≠ TO → c ≠ i1 → c ≠ i2 → s.heap.get? c = some o → n5.get? c = some o := fun c o c1 c2 c3 c4 e =>
      b5.extBut _ _ c2 (b4.extBut _ _ c4 (b3.extBut _ _ c2 (b2.extBut _ _ c3 (b1.extBut _ _ c1 e))))
    have j15 : n5.IsTupleIter i1 l1 (k1 + 1) := ((j1.extBut b3.extBut D.TOi1.symm).extBut b4.extBut D.i12).extBut b5.extBut D.TOi1.symm
    have j25 : n5.IsTupleIter i2 l2 (k2 + 1) := j2.extBut b5.extBut D.TOi2.symm
    have zlt : z < n5.objs.size := Heap.lt_size g5
    show wpAny _ _ (Builtin.SmallTypes.ownedTupleHandOut (.ref z) (.ref n5.objs.size) >>= _) _ _ _
    refine wpAny_bind ?_
    unfold Builtin.SmallTypes.ownedTupleHandOut
    have g6 : (n5.push { cls := .type "tuple", data := .seq #[x, y] }).get? z = some (zo .ellipsis f1 TI TO) := Heap.get?_push_of_some _ g5
    refine wpAny_bind (wpAny_setField_rec g6 (by simp) fun n7 g7 b7 => ?_)
    replace g7 : n7.get? z = some (zo (rawInt n5.objs.size) f1 TI TO) := g7
    refine wpAny_setField_rec g7 (by simp) fun n8 g8 b8 => ?_
    replace g8 : n8.get? z = some (zo (rawInt n5.objs.size) (.bool false) TI TO) := g8
    have up : ∀ c o, c ≠ z → n5.get? c = some o → n8.get? c = some o := fun c o c1 e => b8.extBut _ _ c1 (b7.extBut _ _ c1 (Heap.get?_push_of_some _ e))
    have pT : PySem.IsPair n8 n5.objs.size x y := b8.extBut _ _ (Nat.ne_of_gt zlt) (b7.extBut _ _ (Nat.ne_of_gt zlt) (Heap.get?_push_size _ rfl))
    rw [sz] at pT
    refine wpAny_pure ⟨_, rfl, ?_⟩
    show Q (.ref n5.objs.size) _
    rw [sz]
    exact hQ n8 ⟨_, _, g8, Or.inr ⟨_, rfl⟩⟩ ⟨x, y, up _ _ D.TOz p5⟩ (j15.at fun o e => up _ o D.i1z e) (j25.at fun o e => up _ o D.i2z e) pT fun c o c1 c2 c3 c4 e => up c o c1 (kp c o c1 c2 c3 c4 e)
  · -- it is still out: a new one beside
    simp only [Bool.false_eq_true, if_false]
    refine wpAny_bind ?_
    rw [← Array.forIn_toList]
    simp only [List.forIn_cons, List.forIn_nil]
    refine wpAny_bind (wpAny_bind (wpAny_holding ?_))
    show wpAny _ _ (Builtin.SmallTypes.nextOf (.ref i1) >>= _) _ _ _
    refine wpAny_bind (RZ.nextOf_tuple_item (s := { s with heap := n1 }) (h1.extBut b1.extBut D.i1z) (t1.extBut b1.extBut D.l1z) hx fun n2 j1 b2 => wpAny_pure (wpAny_pure ?_))
    refine wpAny_bind (wpAny_bind (wpAny_holding ?_))
    show wpAny _ _ (Builtin.SmallTypes.nextOf (.ref i2) >>= _) _ _ _
    have q2 : n2.IsTupleIter i2 l2 k2 := (h2.extBut b1.extBut D.i2z).extBut b2.extBut D.i12.symm
    refine wpAny_bind (RZ.nextOf_tuple_item (s := { s with heap := n2 }) q2 ((t2.extBut b1.extBut D.l2z).extBut b2.extBut D.l2i1) hy fun n3 j2 b3 => wpAny_pure (wpAny_pure (wpAny_pure ?_)))
    show wpAny _ _ (newTuple [x, y] >>= _) _ _ _
    refine wpAny_bind (wpAny_newTuple ?_)
    have sz : n3.objs.size = s.heap.objs.size := by rw [b3.1, b2.1, b1.1]
    obtain ⟨u0, u1, g1, e1⟩ := z1
    have g3 : n3.get? z = some (zo u0 u1 TI TO) := b3.extBut _ _ D.i2z.symm (b2.extBut _ _ D.i1z.symm g1)
    have kp : ∀ c o, c ≠ z → c ≠ i1 → c ≠ i2 → s.heap.get? c = some o → n3.get? c = some o := fun c o c1 c2 c3 e => b3.extBut _ _ c3 (b2.extBut _ _ c2 (b1.extBut _ _ c1 e))
    have j13 : n3.IsTupleIter i1 l1 (k1 + 1) := j1.extBut b3.extBut D.i12
    have pT : PySem.IsPair (n3.push { cls := .type "tuple", data := .seq #[x, y] }) n3.objs.size x y := Heap.get?_push_size _ rfl
    refine wpAny_pure ⟨_, rfl, ?_⟩
    show Q (.ref n3.objs.size) _
    rw [sz] at pT ⊢
    exact hQ _ ⟨u0, u1, Heap.get?_push_of_some _ g3, e1⟩ ⟨a, b, Heap.get?_push_of_some _ (kp _ _ D.TOz D.TOi1 D.TOi2 hTO)⟩ (j13.at fun o e => Heap.get?_push_of_some _ e) (j2.at fun o e => Heap.get?_push_of_some _ e) pT
      fun c o c1 c2 c3 c4 e => Heap.get?_push_of_some _ (kp c o c1 c3 c4 e)
end
end Bw
/-! .. its end, and the walk as a rule. -/
namespace Bw
open PySem PySem.Spec PyProof.Rows L2
section
variable {prog : Program} {w : World} {A : Around} {E : Value → Shared → Prop} {s : Shared} {z TI TO i1 i2 l1 l2 : Addr} {k1 k2 : Nat} {xs ys : Array Value} {x y : Value}
theorem zt_end {Q : PySem.Fin → Shared → Prop} (hh : A.handled = none) (D : ZipApart z TI TO i1 i2 l1 l2) (hz : ZAny s.heap z TI TO) (hTI : PySem.IsPair s.heap TI (.ref i1) (.ref i2)) (hTO : ∃ a b, PySem.IsPair s.heap TO a b)
    (h1 : s.heap.IsTupleIter i1 l1 k1) (h2 : s.heap.IsTupleIter i2 l2 k2) (t1 : s.heap.IsTuple l1 xs) (t2 : s.heap.IsTuple l2 ys) (hend : xs[k1]? = none ∨ ys[k2]? = none)
    (hE : ∀ h' e, (∀ c o, c ≠ z → c ≠ TO → c ≠ i1 → c ≠ i2 → s.heap.get? c = some o → h'.get? c = some o) → (∃ o, h'.get? e = some o ∧ o.cls = .type "StopIteration") → E (.ref e) { s with heap := h' }) :
    wpAny (model prog w) A (Builtin.«zip.__next__» ⟨[.ref z], []⟩) Q E s := by
  obtain ⟨f0, f1, hg, hk⟩ := id hz
  obtain ⟨a, b, hTO⟩ := hTO
  show wpAny _ _ (field (.ref z) 2 >>= _) _ _ _
  refine wpAny_bind (wpAny_field hg rfl (x := .bool false) rfl ?_)
  show wpAny _ _ (field (.ref z) 3 >>= _) _ _ _
  refine wpAny_bind (wpAny_field hg rfl (x := .ref TI) rfl (wpAny_bind (wpAny_seqItems hTI rfl ?_)))
  show wpAny _ _ (Builtin.SmallTypes.ownedTupleIsFree (.ref z) >>= _) _ _ _
  refine wpAny_bind (z_free hz ?_ fun n1 z1 b1 => ?_)
  · simp only [if_true]
    refine wpAny_bind (wpAny_rule (wpAny_bind (wpAny_field hg rfl (x := .ref TO) rfl (wpAny_bind (wpAny_setField_rec hg (by simp) fun n1 g1 b1 => ?_)))))
    replace g1 : n1.get? z = some (zo .ellipsis f1 TI TO) := g1
    refine wpAny_bind ?_
    simp only [List.zipIdx_cons, List.zipIdx_nil, List.forIn_cons, List.forIn_nil]
    refine wpAny_bind (wpAny_bind (wpAny_onRaise ?_))
    show wpAny _ _ (Builtin.SmallTypes.nextOf (.ref i1) >>= _) _ _ _
    cases hx : xs[k1]? with
    | none =>
      refine wpAny_bind (RZ.nextOf_tuple_end hh (h1.extBut b1.extBut D.i1z) (t1.extBut b1.extBut D.l1z) hx fun n2 e b2 he => ?_)
      obtain ⟨oe, hoe, hce⟩ := he
      have g2 : n2.get? z = some (zo .ellipsis f1 TI TO) := b2 _ _ D.i1z.symm g1
      have nez : e ≠ z := fun q => by
        rw [q, g2] at hoe
        cases hoe
        exact absurd (Value.type.inj hce) (by decide)
      exact wpAny_setField_rec g2 (by simp) fun n3 _ b3 => hE n3 e (fun c o c1 _ c3 _ q => b3.extBut _ _ c1 (b2 _ _ c3 (b1.extBut _ _ c1 q))) ⟨oe, b3.extBut _ _ nez hoe, hce⟩
    | some x =>
      have hy : ys[k2]? = none := by
        rcases hend with q | q
        · rw [hx] at q; exact nomatch q
        · exact q
      refine wpAny_bind (RZ.nextOf_tuple_item (h1.extBut b1.extBut D.i1z) (t1.extBut b1.extBut D.l1z) hx fun n2 j1 b2 => wpAny_pure ?_)
      have p2 : PySem.IsPair n2 TO a b := b2.extBut _ _ D.TOi1 (b1.extBut _ _ D.TOz hTO)
      refine wpAny_bind (wpAny_seqItems p2 rfl (wpAny_bind (wpAny_updateSeq_pair p2 fun n3 p3 b3 => wpAny_bind (wpAny_letGo (wpAny_pure ?_)))))
      refine wpAny_bind (wpAny_bind (wpAny_onRaise ?_))
      show wpAny _ _ (Builtin.SmallTypes.nextOf (.ref i2) >>= _) _ _ _
      have q2 : n3.IsTupleIter i2 l2 k2 := ((h2.extBut b1.extBut D.i2z).extBut b2.extBut D.i12.symm).extBut b3.extBut D.TOi2.symm
      have q3 : n3.IsTuple l2 ys := ((t2.extBut b1.extBut D.l2z).extBut b2.extBut D.l2i1).extBut b3.extBut D.l2TO
      refine wpAny_bind (RZ.nextOf_tuple_end hh q2 q3 hy fun n4 e b4 he => ?_)
      obtain ⟨oe, hoe, hce⟩ := he
      have g4 : n4.get? z = some (zo .ellipsis f1 TI TO) := b4 _ _ D.i2z.symm (b3.extBut _ _ D.TOz.symm (b2.extBut _ _ D.i1z.symm g1))
      have nez : e ≠ z := fun q => by
        rw [q, g4] at hoe
        cases hoe
        exact absurd (Value.type.inj hce) (by decide)
      exact wpAny_setField_rec g4 (by simp) fun n5 _ b5 => hE n5 e (fun c o c1 c2 c3 c4 q => b5.extBut _ _ c1 (b4 _ _ c4 (b3.extBut _ _ c2 (b2.extBut _ _ c3 (b1.extBut _ _ c1 q))))) ⟨oe, b5.extBut _ _ nez hoe, hce⟩
  · simp only [Bool.false_eq_true, if_false]
    refine wpAny_bind ?_
    rw [← Array.forIn_toList]
    simp only [List.forIn_cons, List.forIn_nil]
    refine wpAny_bind (wpAny_bind (wpAny_holding ?_))
    show wpAny _ _ (Builtin.SmallTypes.nextOf (.ref i1) >>= _) _ _ _
    cases hx : xs[k1]? with
    | none =>
      refine wpAny_bind (RZ.nextOf_tuple_end (s := { s with heap := n1 }) hh (h1.extBut b1.extBut D.i1z) (t1.extBut b1.extBut D.l1z) hx fun n2 e b2 he => ?_)
      exact hE n2 e (fun c o c1 _ c3 _ q => b2 _ _ c3 (b1.extBut _ _ c1 q)) he
    | some x =>
      have hy : ys[k2]? = none := by
        rcases hend with q | q
        · rw [hx] at q; exact nomatch q
        · exact q
      refine wpAny_bind (RZ.nextOf_tuple_item (s := { s with heap := n1 }) (h1.extBut b1.extBut D.i1z) (t1.extBut b1.extBut D.l1z) hx fun n2 j1 b2 => wpAny_pure (wpAny_pure ?_))
      refine wpAny_bind (wpAny_bind (wpAny_holding ?_))
      show wpAny _ _ (Builtin.SmallTypes.nextOf (.ref i2) >>= _) _ _ _
      have q2 : n2.IsTupleIter i2 l2 k2 := (h2.extBut b1.extBut D.i2z).extBut b2.extBut D.i12.symm
      refine wpAny_bind (RZ.nextOf_tuple_end (s := { s with heap := n2 }) hh q2 ((t2.extBut b1.extBut D.l2z).extBut b2.extBut D.l2i1) hy fun n3 e b3 he => ?_)
      exact hE n3 e (fun c o c1 _ c3 c4 q => b3 _ _ c4 (b2.extBut _ _ c3 (b1.extBut _ _ c1 q))) he
end
theorem zn_self {prog : Program} {w : World} {A : Around} {E : Value → Shared → Prop} {s : Shared} {z TI TO : Addr} {f0 f1 : Value} {Q : Value → Shared → Prop} (g : s.heap.get? z = some (zo f0 f1 TI TO)) (h : Q (.ref z) s) : wpAny (model prog w) A (pyIter (.ref z)) Q E s := by
  have ty : s.TypeIs (.ref z) "zip" := ⟨_, g, rfl⟩
  refine wpAny_pyIter_slot ty F.slot_zip_iter (wpAny_call_entry F.slot_zip_iter ty F.entry_zip_iter ?_ (F.args_zip_iter_1 _))
  exact (show wpAny _ _ (ret (.ref z)) _ _ s from wpAny_pure ⟨_, rfl, "zip", _, ty, F.slot_zip_next.lookup, h⟩)
theorem turnZN {P : Program} {w : World} {K : PySem.W.Frag} {nm : Str} {np : Pos} {a b z TI TO i1 i2 : Addr} (D : ZipApart z TI TO i1 i2 a b) :
    Turn P w K (.Name nm np) (RZ.ItzT K a b) [z, TI, TO, i1, i2] z (fun i h => ZAny h z TI TO ∧ PySem.IsPair h TI (.ref i1) (.ref i2) ∧ (∃ x y, PySem.IsPair h TO x y) ∧ h.IsTupleIter i1 a i ∧ h.IsTupleIter i2 b i) where
  mem := List.mem_cons_self ..
  obj := fun i h st c hc => by
    obtain ⟨⟨f0, f1, hz, _⟩, hTI, ⟨x, y, hTO⟩, ⟨o1, e1, _, d1⟩, ⟨o2, e2, _, d2⟩⟩ := st
    simp only [List.mem_cons, List.not_mem_nil, or_false] at hc
    rcases hc with q | q | q | q | q <;> rw [q]
    · exact ⟨_, hz, fun v q => nomatch q⟩
    · exact ⟨_, hTI, fun v q => nomatch q⟩
    · exact ⟨_, hTO, fun v q => nomatch q⟩
    · exact ⟨o1, e1, fun v q => by rw [d1] at q; cases q⟩
    · exact ⟨o2, e2, fun v q => by rw [d2] at q; cases q⟩
  keep := fun i h h' st k => by
    obtain ⟨⟨f0, f1, hz, r⟩, hTI, ⟨x, y, hTO⟩, h1, h2⟩ := st
    exact ⟨⟨f0, f1, k z (by simp) _ hz, r⟩, k TI (by simp) _ hTI, ⟨x, y, k TO (by simp) _ hTO⟩, h1.at fun o q => k i1 (by simp) o q, h2.at fun o q => k i2 (by simp) o q⟩
  item := fun X hP hw hK hc i pins s σ H E I hf st hg => by
    subst hP hw hK
    obtain ⟨hz, hTI, hTO, h1, h2⟩ := st
    obtain ⟨xs, ys, x, y, hqx, hqy, hx, hy⟩ := hg
    obtain ⟨its, rv, p, _⟩ := I.tuple hqx
    obtain ⟨its2, rv2, p2, _⟩ := I.tuple hqy
    obtain ⟨u, hu, ru⟩ := rv.get hx
    obtain ⟨u2, hu2, ru2⟩ := rv2.get hy
    have all : ∀ c ∈ [z, TI, TO, i1, i2], c < s.heap.objs.size := fun c hcm => by
      obtain ⟨⟨_, _, gz, _⟩, ⟨_, _, gO⟩⟩ := And.intro hz hTO
      obtain ⟨_, g1, _⟩ := id h1
      obtain ⟨_, g2, _⟩ := id h2
      simp only [List.mem_cons, List.not_mem_nil, or_false] at hcm
      rcases hcm with q | q | q | q | q <;> rw [q]
      · exact Heap.lt_size gz
      · exact Heap.lt_size hTI
      · exact Heap.lt_size gO
      · exact Heap.lt_size g1
      · exact Heap.lt_size g2
    have hTy : s.TypeIs (.ref z) "zip" := let ⟨_, _, g, _⟩ := hz; ⟨_, g, rfl⟩
    unfold pyNext
    refine wpAny_bind (wpAny_attempt (wpAny_callSpecial?_slot (name := Str.ofString "__next__") hTy F.slot_zip_next (wpAny_call_entry F.slot_zip_next hTy F.entry_zip_next
      (zt_item D hz hTI hTO h1 h2 p p2 (x := u) (y := u2) (by simpa using hu) (by simpa using hu2) fun n1 z1 o1 j1 j2 hT hk => wpAny_pure ⟨_, rfl, ?_⟩) (F.args_zip_next_1 _))))
    refine (show ∀ {Q : Unit → Shared → Prop}, Q () _ → wpAny _ X.A (letOwnedTupleGo (.Name nm np) (.ref z) (.ref s.heap.objs.size)) Q E _ from fun h => wpAny_pure h) ?_
    have ok : ObjOk X.prog X.w (upd H s.heap.objs.size (.tup [x, y])) n1 s.heap.objs.size (.tup [x, y]) := ⟨by show 2 ≤ sizeLine; decide, [u, u2], .cons ru (.cons ru2 .nil), ⟨_, hT, rfl, _, rfl⟩⟩
    have I1 : Inv X pins σ (upd H s.heap.objs.size (.tup [x, y])) { s with heap := n1 } := I.turnedNew (t' := s.toks) (ch := [z, TI, TO, i1, i2]) (fun c o hb q =>
      hk c o (fun q' => hb (by simp [q'])) (fun q' => hb (by simp [q'])) (fun q' => hb (by simp [q'])) (fun q' => hb (by simp [q'])) q) hf (Nat.le_refl _) ok
    refine ⟨.ref s.heap.objs.size, _, I1, rfl, ⟨_, x, y, rfl, I.hok.fresh (Nat.le_refl _), rfl, fun l hl => by rw [I.tuple_inj hl hqx]; exact hx, fun l hl => by rw [I.tuple_inj hl hqy]; exact hy⟩, ⟨z1, hk _ _ D.TIz D.TITO D.TIi1 D.TIi2 hTI, o1, j1, j2⟩, fun c hcm => ?_⟩
    rw [upd_ne (Nat.ne_of_lt (all c hcm))]
    exact (hf c hcm).1
  done := fun X hP hw hK hc i pins s σ H E I hf st hg => by
    subst hP hw hK
    obtain ⟨hz, hTI, hTO, h1, h2⟩ := st
    obtain ⟨xs, ys, hqx, hqy, hend⟩ := hg
    obtain ⟨its, rv, p, _⟩ := I.tuple hqx
    obtain ⟨its2, rv2, p2, _⟩ := I.tuple hqy
    have l1 := rv.length
    have l2 := rv2.length
    have he : its.toArray[i]? = none ∨ its2.toArray[i]? = none := by
      rcases hend with q | q
      · left; simp; omega
      · right; simp; omega
    have hTy : s.TypeIs (.ref z) "zip" := let ⟨_, _, g, _⟩ := hz; ⟨_, g, rfl⟩
    unfold pyNext
    refine wpAny_bind (wpAny_attempt (wpAny_callSpecial?_slot (name := Str.ofString "__next__") hTy F.slot_zip_next (wpAny_call_entry F.slot_zip_next hTy F.entry_zip_next (zt_end (I.ok.hd hc) D hz hTI hTO h1 h2 p p2 he fun n1 e hk hx => ?_) (F.args_zip_next_1 _))))
    obtain ⟨o, ho, hcl⟩ := hx
    refine wpAny_bind (wpAny_isInstance (T := "StopIteration") (b := true) ⟨o, ho, hcl⟩ isSubtype_stop ?_)
    exact wpAny_pure ⟨rfl, I.turnedL (t' := s.toks) (ch := [z, TI, TO, i1, i2]) (fun c o hb q => hk c o (fun q' => hb (by simp [q'])) (fun q' => hb (by simp [q'])) (fun q' => hb (by simp [q'])) (fun q' => hb (by simp [q'])) q) hf⟩
  self := fun A i s Q E st h => by
    obtain ⟨⟨f0, f1, g, _⟩, _⟩ := st
    exact zn_self g h
def iZipN (K : PySem.W.Frag) (ta : TA) : TI := fun σ H R => ta σ H fun vs H1 => ∃ a b xs ys, vs = [.ref a, .ref b] ∧ SqT K H1 a xs ∧ SqT K H1 b ys ∧ R (RZ.ItzT K a b) H1
theorem pi_zipN {X : Cx} {e e2 : Expr} {ta : TA} {p pos np : Pos} {nm : Str} (hg : Gl X "zip") (hm : X.mg "zip" = none) (ha : PA X [e, e2] ta)
    (hs : starEach [e, e2] X.env = (false, eval e X.env) :: starEach [e2] X.env := by rfl) (hpl : (backTo pos (starEach [e2] X.env)).any (·.1) = false := by rfl) :
    PI X (.Name nm np) (.Call (.Name "zip" p) [e, e2] [] pos) (iZipN X.K ta) := by
  constructor
  intro pins s σ H R I h
  refine Call_ (ld_blt I hg hm PyProof.Rows.boot_zip (PyProof.Rows.callWith_type1 (thn (ha.run pos pins s σ H _ I h) fun us s1 ⟨vs, H1, I1, r1, q1⟩ => ?_) hs hpl))
  obtain ⟨a, b, xs, ys, ex, hqx, hqy, q⟩ := q1
  subst ex
  obtain ⟨u, u2, rfl, ra, rb⟩ := vals2 r1
  cases ra
  cases rb
  obtain ⟨its, rv, p1, _⟩ := I1.tuple hqx
  obtain ⟨its2, rv2, p2, _⟩ := I1.tuple hqy
  obtain ⟨o1, ho1, _⟩ := id p1
  obtain ⟨o2, ho2, _⟩ := id p2
  obtain ⟨n, en⟩ : ∃ n, n = s1.heap.objs.size := ⟨_, rfl⟩
  have la : a < n := by rw [en]; exact Heap.lt_size ho1
  have lb : b < n := by rw [en]; exact Heap.lt_size ho2
  refine RZ.call_zipT (show s1.heap.IsTuple a its.toArray from p1) (show s1.heap.IsTuple b its2.toArray from p2) fun h1 hz hTI hTO j1 j2 hsz hk => wpAny_pyIter_zip hz ?_
  have I2 : Inv X pins σ H1 { s1 with heap := h1 } := I1.kept (t' := s1.toks) hk
  rw [← en] at hz hTI hTO j1 j2
  refine ⟨n + 4, [n + 4, n + 2, n + 3, n, n + 1], _, _, H1, by rw [en], I2, turnZN (PySem.W.ktu_apart n a b la lb), ⟨⟨.none, .bool false, hz, Or.inl rfl⟩, hTI, ⟨_, _, hTO⟩, j1, j2⟩, fun c hcm => ?_, q⟩
  have hle : s1.heap.objs.size ≤ c := by
    rw [← en]
    simp only [List.mem_cons, List.not_mem_nil, or_false] at hcm
    rcases hcm with w | w | w | w | w <;> rw [w]
    · exact Nat.le_add_right ..
    · exact Nat.le_add_right ..
    · exact Nat.le_add_right ..
    · exact Nat.le_refl _
    · exact Nat.le_add_right ..
  exact I1.fpOk hle (I1.hok.fresh hle)
end Bw
/-! The laws' source of draws: a dict of a list of large numbers, a list of cells, a rest and a turn. -/
namespace Bw
open PySem PySem.Spec PyProof.Rows L2
/-! ### the source of draws -/
def stK (lg cs : Addr) (r t : Int) : List (Key × V) := [(Sum.inr "large", .ref lg), (Sum.inr "cells", .ref cs), (Sum.inr "rest", .int r), (Sum.inr "turn", .int t)]
theorem ne_lc : ¬ ((Sum.inr ("large" : Str) : Key) = Sum.inr ("cells" : Str)) := by decide +kernel
theorem ne_lr : ¬ ((Sum.inr ("large" : Str) : Key) = Sum.inr ("rest" : Str)) := by decide +kernel
theorem ne_lt : ¬ ((Sum.inr ("large" : Str) : Key) = Sum.inr ("turn" : Str)) := by decide +kernel
theorem ne_cr : ¬ ((Sum.inr ("cells" : Str) : Key) = Sum.inr ("rest" : Str)) := by decide +kernel
theorem ne_ct : ¬ ((Sum.inr ("cells" : Str) : Key) = Sum.inr ("turn" : Str)) := by decide +kernel
theorem ne_rt : ¬ ((Sum.inr ("rest" : Str) : Key) = Sum.inr ("turn" : Str)) := by decide +kernel
section
variable {lg cs st : Addr} {r t y : Int} {H : Hp}
theorem stK_large : valV (stK lg cs r t) (Sum.inr "large" : Key) = some (.ref lg) := valV_pos rfl
theorem stK_cells : valV (stK lg cs r t) (Sum.inr "cells" : Key) = some (.ref cs) := by
  unfold stK
  rw [valV_neg ne_lc, valV_pos rfl]
theorem stK_rest : valV (stK lg cs r t) (Sum.inr "rest" : Key) = some (.int r) := by
  unfold stK
  rw [valV_neg ne_lr, valV_neg ne_cr, valV_pos rfl]
theorem stK_turn : valV (stK lg cs r t) (Sum.inr "turn" : Key) = some (.int t) := by
  unfold stK
  rw [valV_neg ne_lt, valV_neg ne_ct, valV_neg ne_rt, valV_pos rfl]
theorem put_rest : putK (stK lg cs r t) (Sum.inr "rest" : Key) (.int y) = stK lg cs y t := by
  have h : ((stK lg cs r t).any fun kv => decide (kv.1 = (Sum.inr "rest" : Key))) = true := by rw [valV_any, stK_rest]; rfl
  unfold putK
  rw [if_pos h]
  unfold stK
  simp only [List.map_cons, List.map_nil, if_neg ne_lr, if_neg ne_cr, if_neg (fun z => ne_rt (Eq.symm z)), if_true]
theorem put_turn : putK (stK lg cs r t) (Sum.inr "turn" : Key) (.int y) = stK lg cs r y := by
  have h : ((stK lg cs r t).any fun kv => decide (kv.1 = (Sum.inr "turn" : Key))) = true := by rw [valV_any, stK_turn]; rfl
  unfold putK
  rw [if_pos h]
  unfold stK
  simp only [List.map_cons, List.map_nil, if_neg ne_lt, if_neg ne_ct, if_neg ne_rt, if_true]
theorem get_large (h : H st = some (.dK (stK lg cs r t))) : DGet H st (.str "large") (some (.ref lg)) := by
  rw [← stK_large (lg := lg) (cs := cs) (r := r) (t := t)]
  exact DGet.k (k := Sum.inr "large") h
theorem get_cells (h : H st = some (.dK (stK lg cs r t))) : DGet H st (.str "cells") (some (.ref cs)) := by
  rw [← stK_cells (lg := lg) (cs := cs) (r := r) (t := t)]
  exact DGet.k (k := Sum.inr "cells") h
theorem get_rest (h : H st = some (.dK (stK lg cs r t))) : DGet H st (.str "rest") (some (.int r)) := by
  rw [← stK_rest (lg := lg) (cs := cs) (r := r) (t := t)]
  exact DGet.k (k := Sum.inr "rest") h
theorem get_turn (h : H st = some (.dK (stK lg cs r t))) : DGet H st (.str "turn") (some (.int t)) := by
  rw [← stK_turn (lg := lg) (cs := cs) (r := r) (t := t)]
  exact DGet.k (k := Sum.inr "turn") h
theorem dput_rest (h : H st = some (.dK (stK lg cs r t))) : DPut H st (.str "rest") (.int y) (upd H st (.dK (stK lg cs y t))) := by
  rw [← put_rest (lg := lg) (cs := cs) (r := r) (t := t) (y := y)]
  exact DPut.k (k := Sum.inr "rest") h (by show 4 < sizeLine; decide)
theorem dput_turn (h : H st = some (.dK (stK lg cs r t))) : DPut H st (.str "turn") (.int y) (upd H st (.dK (stK lg cs r y))) := by
  rw [← put_turn (lg := lg) (cs := cs) (r := r) (t := t) (y := y)]
  exact DPut.k (k := Sum.inr "turn") h (by show 4 < sizeLine; decide)
end
/-- the source stands at st, its large numbers at lg; at most n turns were made -/
structure Src (H : Hp) (st lg cs : Addr) (n : Nat) : Prop where
  ex : ∃ (large cells : List Nat) (r t : Nat), H st = some (.dK (stK lg cs (r : Int) (t : Int))) ∧ H lg = some (.lst (large.map fun x : Nat => V.int (x : Int))) ∧ H cs = some (.lst (cells.map fun x : Nat => V.int (x : Int))) ∧ t ≤ n ∧ large.length ≤ 1000 ∧ cells.length ≤ 1000
  nlc : lg ≠ cs
/-- all that is tracked stands, but the source's own -/
def But (H H' : Hp) (st lg : Addr) : Prop := ∀ b o, H b = some o → b ≠ st → b ≠ lg → H' b = some o
theorem But.refl {H : Hp} {st lg : Addr} : But H H st lg := fun _ _ h _ _ => h
theorem But.trans {H H1 H2 : Hp} {st lg : Addr} (a : But H H1 st lg) (b : But H1 H2 st lg) : But H H2 st lg := fun x o h h1 h2 => b x o (a x o h h1 h2) h1 h2
theorem But.new {H H1 : Hp} {st lg p : Addr} {o : HO} (a : But H H1 st lg) (h : H1 p = none) : But H (upd H1 p o) st lg := fun x u q h1 h2 => by
  have z := a x u q h1 h2
  rw [upd_ne (ne_of_none z h)]
  exact z
theorem But.st {H H1 : Hp} {st lg : Addr} {o : HO} (a : But H H1 st lg) : But H (upd H1 st o) st lg := fun x u q h1 h2 => by
  rw [upd_ne h1]
  exact a x u q h1 h2
theorem But.lg {H H1 : Hp} {st lg : Addr} {o : HO} (a : But H H1 st lg) : But H (upd H1 lg o) st lg := fun x u q h1 h2 => by
  rw [upd_ne h2]
  exact a x u q h1 h2
/-- a draw below m -/
def spDraw : Sp := fun vs H Q _ => ∃ (st lg cs : Addr) (m n : Nat), vs = [.ref st, .int (m : Int)] ∧ 0 < m ∧ m < 2 ^ 100 ∧ n < 2 ^ 40 ∧ Src H st lg cs n ∧
  ∀ (r : Nat) (H' : Hp), r < m → Src H' st lg cs (n + 1) → But H H' st lg → Q (.int (r : Int)) H'
/-- nothing is large: dict and list of different kind stand apart -/
theorem ne_dl {H : Hp} {a b : Addr} {k : List (Key × V)} {l : List V} (h : H a = some (.dK k)) (h2 : H b = some (.lst l)) : a ≠ b := ne_of h h2 (by intro z; cases z)
theorem dInts {K : PySem.W.Frag} {H : Hp} : ∀ (l : List Nat), DpAll K H (l.map fun x : Nat => V.int (x : Int)) (l.map fun x : Nat => PyData.int (x : Int))
  | [] => .nil
  | x :: r => .cons (.int _) (dInts r)
/-! ### small words -/
theorem ite_t {c A B : Prop} [Decidable c] (h : c) (a : A) : if decide c = true then A else B := by
  rw [decide_eq_true h]
  exact iteT a
theorem ite_f {c A B : Prop} [Decidable c] (h : ¬ c) (b : B) : if decide c = true then A else B := by
  rw [decide_eq_false h]
  exact iteF b
theorem ite_b {b : Bool} {A B : Prop} (h1 : b = true → A) (h2 : b = false → B) : if b = true then A else B := by
  cases b with
  | true => exact iteT (h1 rfl)
  | false => exact iteF (h2 rfl)
theorem natsLay : ∀ l : List Nat, PyData.canLayAll0 (l.map fun x : Nat => PyData.int (x : Int)) = true
  | [] => by simp [PyData.canLayAll0]
  | x :: r => by simp [PyData.canLayAll0, PyData.canLay0, natsLay r]
theorem natsDepth : ∀ l : List Nat, PyData.depthAll (l.map fun x : Nat => PyData.int (x : Int)) ≤ 1
  | [] => by simp [PyData.depthAll]
  | x :: r => by
    have h := natsDepth r
    simp only [List.map_cons, PyData.depthAll, PyData.depth]
    omega
theorem natsShaped (l : List Nat) : SeqAt.shaped (.list (l.map fun x : Nat => PyData.int (x : Int))) = true := by
  have h1 := natsDepth l
  have h2 : PyData.depth (.list (l.map fun x : Nat => PyData.int (x : Int))) ≤ 64 := by
    simp only [PyData.depth]
    omega
  show (PyData.canLay0 (.list _) && decide (PyData.depth (.list _) ≤ 64)) = true
  rw [Bool.and_eq_true]
  exact ⟨by simp only [PyData.canLay0]; exact natsLay l, decide_eq_true h2⟩
theorem nilShaped : SeqAt.shaped (.list []) = true := by decide
theorem natsNil (l : List Nat) : (!PyData.eqv (.list (l.map fun x : Nat => PyData.int (x : Int))) (.list [])) = !l.isEmpty := by
  cases l with
  | nil => simp [PyData.eqv, PyData.eqvAll]
  | cons x r => simp [PyData.eqv, PyData.eqvAll]
theorem sz0 : (0 : Nat) ≤ sizeLine := Nat.zero_le _
/-- xs != [] of numbers -/
theorem ne_nil {K : PySem.W.Frag} {H : Hp} {a p : Addr} {l : List Nat} {Q : VK} (ha : H a = some (.lst (l.map fun x : Nat => V.int (x : Int)))) (hp : H p = some (.lst [])) (q : Q (.bl (!l.isEmpty)) H) : rNeD K (.ref a) (.ref p) H Q :=
  ⟨_, _, .lst (SqL.of ha) (dInts l), .lst (SqL.of hp) .nil, natsShaped l, nilShaped, by rw [natsNil]; exact q⟩
/-! ### readings of operators, by short names -/
abbrev rAddI : R2 := rI0 fun i j => .int (i + j)
abbrev rSubI : R2 := rI0 fun i j => .int (i - j)
abbrev rMulI : R2 := rI CMul fun i j => .int (i * j)
abbrev rModI : R2 := rI (fun _ j => 0 < j) fun i j => .int (i % j)
abbrev rDivI : R2 := rI CDiv fun i j => .int (i / j)
abbrev rDivW : R2 := rI CDivW fun i j => .int (i / j)
abbrev rPowI : R2 := rI CPow fun i j => .int (i ^ j.toNat)
abbrev rLtI : R2 := rI0 fun i j => .bl (decide (i < j))
abbrev rLeI : R2 := rI0 fun i j => .bl (decide (i ≤ j))
abbrev rGtI : R2 := rI0 fun i j => .bl (decide (j < i))
abbrev rGeI : R2 := rI0 fun i j => .bl (decide (j ≤ i))
abbrev rNegI : V → Hp → VK → Prop := rU fun i => .int (-i)
abbrev cInt1 : List V → Hp → VK → Prop := fun xs H Q => (∃ i, xs = [.int i] ∧ Q (.int i) H) ∨ ∃ k, xs = [.bl k] ∧ Q (.int (if k then 1 else 0)) H
abbrev cAbs : List V → Hp → VK → Prop := fun xs H Q => ∃ i, xs = [.int i] ∧ Q (.int (if i < 0 then -i else i)) H
abbrev cLen (K : PySem.W.Frag) : List V → Hp → VK → Prop := fun xs H Q => ∃ x n, xs = [x] ∧ LenV K x H n ∧ Q (.int n) H
theorem len_l {K : PySem.W.Frag} {H : Hp} {a : Addr} {xs : List V} {Q : VK} (h : H a = some (.lst xs)) (q : Q (.int (xs.length : Nat)) H) : cLen K [.ref a] H Q := ⟨_, _, rfl, Or.inl ⟨xs, SqL.of h, rfl⟩, q⟩
theorem int1 {i : Int} {H : Hp} {Q : VK} (q : Q (.int i) H) : cInt1 [.int i] H Q := Or.inl ⟨i, rfl, q⟩
end Bw
/-! More of what a reading evaluates to. -/
namespace Bw
open PySem PySem.Spec PyProof.Rows L2 Evl
section
variable {K : PySem.W.Frag} {σ : L2.St} {H : Hp} {te : TE} {t : TT}
/-- what a comprehension has made behind i turns -/
def CwF (H : Hp) (f : V → Option V) (xs : List V) (Dl : Addr) (i : Nat) (H' : Hp) : Prop := H Dl = none ∧ Ex H H' ∧ H' Dl = some (.lst ((xs.take i).filterMap f))
theorem take_step {α : Type} {xs : List α} {i : Nat} {x : α} (h : xs[i]? = some x) : xs.take (i + 1) = xs.take i ++ [x] := by
  obtain ⟨hi, e⟩ := List.getElem?_eq_some_iff.mp h
  rw [List.take_add_one, h]
  rfl
theorem cwF_turn {H H' : Hp} {f : V → Option V} {xs : List V} {x : V} {Dl : Addr} {i : Nat} {σ2 : L2.St} (p : CwF H f xs Dl i H') (hi : i < 50000) (hx : xs[i]? = some x) (ht : EvT t σ2 H (f x).isSome) (he : ∀ y, f x = some y → Ev te σ2 H y) :
    t σ2 H' fun b H3 => if b = true then te σ2 H3 fun y H4 => ∃ acc, H4 Dl = some (.lst acc) ∧ acc.length < sizeLine ∧ CwF H f xs Dl (i + 1) (upd H4 Dl (.lst (acc ++ [y]))) else CwF H f xs Dl (i + 1) H3 := by
  obtain ⟨p1, p2, p3⟩ := p
  refine ht H' p2 _ fun H3 e3 => ?_
  cases hf : f x with
  | some y =>
    show (if true = true then _ else _)
    refine iteT ?_
    refine he y hf H3 (p2.trans e3) _ fun H4 e4 => ?_
    refine ⟨_, e4 _ _ (e3 _ _ p3), ?_, p1, ?_, ?_⟩
    · refine Nat.lt_of_le_of_lt (List.length_filterMap_le _ _) ?_
      rw [List.length_take]
      exact sz_lt (by omega)
    · exact Ex.mut ((p2.trans e3).trans e4) p1
    · rw [upd_same, take_step hx, List.filterMap_append]
      show some (HO.lst (_ ++ [y])) = some (HO.lst (_ ++ List.filterMap f [x]))
      rw [List.filterMap_cons, hf]
      rfl
  | none =>
    show (if false = true then _ else _)
    refine iteF ⟨p1, p2.trans e3, ?_⟩
    rw [take_step hx, List.filterMap_append, List.filterMap_cons, hf, List.filterMap_nil, List.append_nil]
    exact e3 _ _ p3
/-- [e for x in xs if t], xs at a -/
theorem el_fm {a : Addr} {xs : List V} {tl : TE} {j : Nat} {vs : List Nat} (f : V → Option V) (h : Ev tl σ H (.ref a)) (hx : SqL K H a xs) (hz : xs.length ≤ 40000) (hw : ∀ x, wipe ((wipe σ vs).set j (some x)) vs = wipe σ vs)
    (ht : ∀ (x : V) H1, Ex H H1 → x ∈ xs → EvT t ((wipe σ vs).set j (some x)) H1 (f x).isSome) (he : ∀ (x y : V) H1, Ex H H1 → x ∈ xs → f x = some y → Ev te ((wipe σ vs).set j (some x)) H1 y) :
    EvL (tLc (iList K tl) (gName j) t te vs) σ H (xs.filterMap f) := fun H0 e Q q => h H0 e _ fun H1 e1 => ⟨a, rfl, ⟨xs, ex_l (e.trans e1) hx⟩, fun Dl hD => by
  refine lc_list (xs := xs) (CwF H1 f xs Dl) ⟨hD, Ex.new hD, upd_same⟩ (fun i H' _ p => ex_l ((e.trans e1).trans p.2.1) hx) (fun i x H' hi p => ⟨hw x, ?_⟩) (fun H' p => ?_)
  · have hlt := (List.getElem?_eq_some_iff.mp hi).1
    exact cwF_turn p (by omega) hi (ht x H1 (e.trans e1) (List.mem_of_getElem? hi)) (fun y hf => he x y H1 (e.trans e1) (List.mem_of_getElem? hi) hf)
  · have p3 := p.2.2
    rw [List.take_length] at p3
    exact q Dl H' (fresh_back e1 p.1) (e1.trans p.2.1) p3⟩
theorem et_yes : EvT tYes σ H true := fun H1 _ _ q => q H1 (Ex.refl H1)
/-- [e for x in xs] -/
theorem el_mp {a : Addr} {xs : List V} {tl : TE} {j : Nat} {vs : List Nat} (f : V → V) (h : Ev tl σ H (.ref a)) (hx : SqL K H a xs) (hz : xs.length ≤ 40000) (hw : ∀ x, wipe ((wipe σ vs).set j (some x)) vs = wipe σ vs)
    (he : ∀ (x : V) H1, Ex H H1 → x ∈ xs → Ev te ((wipe σ vs).set j (some x)) H1 (f x)) : EvL (tLc (iList K tl) (gName j) tYes te vs) σ H (xs.map f) := by
  have e : xs.map f = xs.filterMap fun x => some (f x) := by simp
  rw [e]
  refine el_fm _ h hx hz hw (fun x H1 _ _ => et_yes) (fun x y H1 e1 hm hf => ?_)
  cases hf
  exact he x H1 e1 hm
theorem ev_abs {ta : TE} {i : Int} (h : Ev ta σ H (.int i)) : Ev (tCB cAbs (tCons ta tNil)) σ H (.int (if i < 0 then -i else i)) := fun H1 e Q q => h H1 e _ fun H2 e2 => ⟨i, rfl, q H2 e2⟩
theorem ev_int1 {ta : TE} {i : Int} (h : Ev ta σ H (.int i)) : Ev (tCB cInt1 (tCons ta tNil)) σ H (.int i) := fun H1 e Q q => h H1 e _ fun H2 e2 => Or.inl ⟨i, rfl, q H2 e2⟩
end
end Bw
namespace Bw
open PySem PySem.Spec PyProof.Rows L2
def t_draw_6 (K : PySem.W.Frag) : TS := (tRet (tOp rModI (tCB cInt1 (tCons (tOp rDivI (tOp rModI (tCB cInt1 (tCons (tOp rPowI (tOp rAddI (tVar 4) (tOp rMulI (tC (.int 104917)) (tVar 2))) (tC (.int 5))) tNil)) (tC (.int 2147483579))) (tC (.int 29))) tNil)) (tVar 1)))
def t_draw_5 (K : PySem.W.Frag) : TS := tSeq (tAsg (tOp rModI (tCB cInt1 (tCons (tOp rPowI (tOp rAddI (tOp rAddI (tOp rModI (tCB cInt1 (tCons (tVar 3) tNil)) (tC (.int 2147483563))) (tOp rMulI (tC (.int 40692)) (tVar 2))) (tC (.int 24681))) (tC (.int 3))) tNil)) (tC (.int 2147483629))) (gName 4)) (t_draw_6 K)
def t_draw_4 (K : PySem.W.Frag) : TS := tSeq (tAsg (tIf (tTest (tOp (rNeD K) (tDGet (tVar 0) (tC (.str "cells"))) (tLst tNil))) (tOp (rIxL K) (tDGet (tVar 0) (tC (.str "cells"))) (tOp rModI (tCB cInt1 (tCons (tVar 2) tNil)) (tCB (cLen K) (tCons (tDGet (tVar 0) (tC (.str "cells"))) tNil)))) (tC (.int 0))) (gName 3)) (t_draw_5 K)
def t_draw_3 (K : PySem.W.Frag) : TS := tSeq (sDPut (tVar 0) (tC (.str "turn")) (tVar 2)) (t_draw_4 K)
def t_draw_2 (K : PySem.W.Frag) : TS := tSeq (tAsg (tOp rAddI (tDGet (tVar 0) (tC (.str "turn"))) (tC (.int 1))) (gName 2)) (t_draw_3 K)
def t_draw_1 (K : PySem.W.Frag) : TS := tSeq (tIfS (tTest (tOp rGtI (tDGet (tVar 0) (tC (.str "rest"))) (tC (.int 0)))) (tSeq (tAsg (tOp rModI (tCB cInt1 (tCons (tDGet (tVar 0) (tC (.str "rest"))) tNil)) (tVar 1)) (gName 5)) (tSeq (sDPut (tVar 0) (tC (.str "rest")) (tOp rDivW (tDGet (tVar 0) (tC (.str "rest"))) (tVar 1))) (tRet (tVar 5)))) tNext) (t_draw_2 K)
def t_draw_0 (K : PySem.W.Frag) : TS := tSeq (tWhile (tAnd (tTest (tOp rEq (tDGet (tVar 0) (tC (.str "rest"))) (tC (.int 0)))) (tTest (tOp (rNeD K) (tDGet (tVar 0) (tC (.str "large"))) (tLst tNil)))) (sDPut (tVar 0) (tC (.str "rest")) (tBM K "list" rPopAt (tDGet (tVar 0) (tC (.str "large"))) (tCons (tC (.int 0)) tNil)))) (t_draw_1 K)
section
variable {K : PySem.W.Frag} {st lg cs : Addr} {m n : Nat} {H H1 : Hp} {large cells : List Nat} {r t : Nat} {D : Ends}
abbrev natL (l : List Nat) : List V := l.map fun x : Nat => V.int (x : Int)
theorem mod_nat (x : Int) {m : Nat} (hm : 0 < m) : ∃ r : Nat, r < m ∧ x % (m : Int) = (r : Int) := by
  have h1 := Int.emod_nonneg x (show (m : Int) ≠ 0 by omega)
  have h2 := Int.emod_lt_of_pos x (show (0 : Int) < (m : Int) by omega)
  exact ⟨(x % (m : Int)).toNat, by omega, by omega⟩
/-- the last row -/
theorem pure_draw_6 {v3 : Option V} {mx : Nat} (hm : 0 < m) (ht : t < 2 ^ 41) (hx : mx < 2147483629) (k : ∀ r : Nat, r < m → D.rt (.int (r : Int)) H1) :
    t_draw_6 K D [some (.ref st), some (.int (m : Int)), some (.int (t : Int)), v3, some (.int (mx : Int)), none] H1 := by
  refine ⟨_, rfl, _, rfl, _, _, rfl, rfl, Or.inl ⟨by decide, by decide⟩, _, _, rfl, rfl, _, _, rfl, rfl, ⟨by decide, by decide, by omega⟩, Or.inl ⟨_, rfl, _, _, rfl, rfl, (by show (0 : Int) < 2147483579; decide), _, _, rfl, rfl, ⟨by decide, by decide⟩, Or.inl ⟨_, rfl, _, rfl, _, _, rfl, rfl, by omega, ?_⟩⟩⟩
  obtain ⟨r, hr, e⟩ := mod_nat (((mx : Int) + 104917 * (t : Int)) ^ (Int.toNat 5) % 2147483579 / 29) hm
  show D.rt (.int (((mx : Int) + 104917 * (t : Int)) ^ (Int.toNat 5) % 2147483579 / 29 % (m : Int))) H1
  rw [e]
  exact k r hr
/-- behind the loop, no rest: the turn's own number -/
theorem pure_draw_5 {v : Nat} (hm : 0 < m) (ht : t < 2 ^ 41) (k : ∀ r : Nat, r < m → D.rt (.int (r : Int)) H1) :
    t_draw_5 K D [some (.ref st), some (.int (m : Int)), some (.int (t : Int)), some (.int (v : Int)), none, none] H1 := by
  refine ⟨_, rfl, Or.inl ⟨_, rfl, _, _, rfl, rfl, (by show (0 : Int) < 2147483563; decide), _, rfl, _, _, rfl, rfl, Or.inl ⟨by decide, by decide⟩, _, _, rfl, rfl, _, _, rfl, rfl, _, _, rfl, rfl, ⟨by decide, by decide, ?_⟩, Or.inl ⟨_, rfl, _, _, rfl, rfl, (by show (0 : Int) < 2147483629; decide), ?_⟩⟩⟩
  · have h1 := Int.emod_nonneg (v : Int) (show (2147483563 : Int) ≠ 0 by omega)
    have h2 := Int.emod_lt_of_pos (v : Int) (show (0 : Int) < 2147483563 by omega)
    omega
  · obtain ⟨mx, hx, e⟩ := mod_nat (((v : Int) % 2147483563 + 40692 * (t : Int) + 24681) ^ (Int.toNat 3)) (m := 2147483629) (by decide)
    show t_draw_6 K D [some (.ref st), some (.int (m : Int)), some (.int (t : Int)), some (.int (v : Int)), some (.int (((v : Int) % 2147483563 + 40692 * (t : Int) + 24681) ^ (Int.toNat 3) % 2147483629)), none] H1
    rw [show (2147483629 : Int) = ((2147483629 : Nat) : Int) from rfl, e]
    exact pure_draw_6 hm ht hx k
theorem pure_draw_4 (hm : 0 < m) (ht : t < 2 ^ 41) (h1 : H st = some (.dK (stK lg cs (r : Int) (t : Int)))) (h3 : H cs = some (.lst (natL cells))) (hc : cells.length ≤ 1000)
    (k : ∀ (r : Nat) (p : Addr), r < m → H p = none → D.rt (.int (r : Int)) (upd H p (.lst []))) :
    t_draw_4 K D [some (.ref st), some (.int (m : Int)), some (.int (t : Int)), none, none, none] H := by
  refine ⟨_, rfl, st, _, rfl, get_cells h1, sz0, fun p hp => ?_⟩
  have npc : cs ≠ p := ne_of_none h3 hp
  have nps : st ≠ p := ne_of_none h1 hp
  have g3 : upd H p (.lst []) cs = some (.lst (natL cells)) := by rw [upd_ne npc]; exact h3
  have g1 : upd H p (.lst []) st = some (.dK (stK lg cs (r : Int) (t : Int))) := by rw [upd_ne nps]; exact h1
  refine ne_nil g3 upd_same ⟨_, rfl, ite_b (fun hb => ?_) (fun _ => ?_)⟩
  · have hl : 0 < cells.length := by
      cases cells with
      | nil => cases hb
      | cons x l => exact Nat.succ_pos _
    refine ⟨_, rfl, st, _, rfl, get_cells g1, _, rfl, Or.inl ⟨_, rfl, _, rfl, st, _, rfl, get_cells g1, _, _, rfl, Or.inl ⟨_, SqL.of g3, rfl⟩, _, _, rfl, rfl, ?_, ?_⟩⟩
    · rw [List.length_map]
      omega
    · rw [List.length_map]
      obtain ⟨j, hj, e⟩ := mod_nat (t : Int) hl
      show rIxL K (.ref cs) (.int ((t : Int) % (cells.length : Int))) _ _
      rw [e]
      have hi : (natL cells)[j]? = some (.int ((cells[j] : Nat) : Int)) := by rw [List.getElem?_map, List.getElem?_eq_getElem hj]; rfl
      exact ⟨cs, _, _, _, rfl, rfl, SqL.of g3, atI_nat hi, pure_draw_5 hm ht fun r hr => k r p hr hp⟩
  · exact pure_draw_5 (v := 0) hm ht fun r hr => k r p hr hp
/-- behind the loop -/
theorem pure_draw_1 (hm : 0 < m) (hm2 : m < 2 ^ 100) (hn : n < 2 ^ 40) (ht : t ≤ n) (hl : large.length ≤ 1000) (hc : cells.length ≤ 1000) (nlc : lg ≠ cs) (h1 : H1 st = some (.dK (stK lg cs (r : Int) (t : Int)))) (h2 : H1 lg = some (.lst (natL large))) (h3 : H1 cs = some (.lst (natL cells)))
    (hb : But H H1 st lg) (k : ∀ (r : Nat) (H' : Hp), r < m → Src H' st lg cs (n + 1) → But H H' st lg → D.rt (.int (r : Int)) H') :
    t_draw_1 K D [some (.ref st), some (.int (m : Int)), none, none, none, none] H1 := by
  have nsl : st ≠ lg := ne_dl h1 h2
  have nsc : st ≠ cs := ne_dl h1 h3
  refine ⟨_, rfl, st, _, rfl, get_rest h1, _, _, rfl, rfl, _, rfl, ite2 (fun hp => ?_) (fun hp => ?_)⟩
  · refine ⟨_, rfl, st, _, rfl, get_rest h1, Or.inl ⟨_, rfl, _, rfl, _, _, rfl, rfl, by omega, ?_⟩⟩
    refine ⟨_, rfl, st, _, rfl, get_rest h1, _, rfl, _, _, rfl, rfl, wide_div (b := 100) (by omega) (by omega) (by decide) (by decide), ?_⟩
    refine ⟨_, rfl, st, _, rfl, dput_rest h1, ?_⟩
    refine ⟨_, rfl, ?_⟩
    obtain ⟨v, hv, e⟩ := mod_nat (r : Int) hm
    show D.rt (.int ((r : Int) % (m : Int))) _
    rw [e]
    refine k v _ hv ⟨⟨large, cells, r / m, t, ?_, ?_, ?_, by omega, hl, hc⟩, nlc⟩ hb.st
    · rw [upd_same, ← Int.natCast_ediv]
    · rw [upd_ne nsl.symm]
      exact h2
    · rw [upd_ne nsc.symm]
      exact h3
  · refine ⟨_, rfl, st, _, rfl, get_turn h1, _, _, rfl, rfl, ?_⟩
    refine ⟨_, rfl, _, rfl, st, _, rfl, dput_turn h1, ?_⟩
    have e : (t : Int) + 1 = ((t + 1 : Nat) : Int) := by omega
    show t_draw_4 K D [some (.ref st), some (.int (m : Int)), some (.int ((t : Int) + 1)), none, none, none] (upd H1 st (.dK (stK lg cs (r : Int) ((t : Int) + 1))))
    rw [e]
    refine pure_draw_4 (cells := cells) (t := t + 1) hm (by omega) upd_same (by rw [upd_ne nsc.symm]; exact h3) hc fun v p hv hp => ?_
    have q1 : st ≠ p := ne_of_none upd_same hp
    have q2 : lg ≠ p := ne_of_none (o := .lst (natL large)) (by rw [upd_ne nsl.symm]; exact h2) hp
    have q3 : cs ≠ p := ne_of_none (o := .lst (natL cells)) (by rw [upd_ne nsc.symm]; exact h3) hp
    refine k v _ hv ⟨⟨large, cells, r, t + 1, ?_, ?_, ?_, by omega, hl, hc⟩, nlc⟩ (hb.st.new hp)
    · rw [upd_ne q1, upd_same]
    · rw [upd_ne q2, upd_ne nsl.symm]
      exact h2
    · rw [upd_ne q3, upd_ne nsc.symm]
      exact h3
theorem pure_draw (vs : List V) (H : Hp) (Q : VK) (E : XK) (h : spDraw vs H Q E) : t_draw_0 K { nx := fun _ H' => Q .non H', rt := Q } (start ["_law_state", "_law_many", "_law_turn", "_law_cell", "_law_mixed", "_law_found"] vs) H := by
  obtain ⟨st, lg, cs, m, n, rfl, hm, hm2, hn, S, k⟩ := h
  have nlc := S.nlc
  -- while the rest is 0 and there are large ones
  refine ⟨fun mm σ H' => ∃ (large cells : List Nat) (r t : Nat), σ = [some (.ref st), some (.int (m : Int)), none, none, none, none] ∧ mm = large.length ∧ H' st = some (.dK (stK lg cs (r : Int) (t : Int))) ∧
    H' lg = some (.lst (natL large)) ∧ H' cs = some (.lst (natL cells)) ∧ t ≤ n ∧ large.length ≤ 1000 ∧ cells.length ≤ 1000 ∧ But H H' st lg, ?_, fun mm σ H' hW => ?_⟩
  · obtain ⟨large, cells, r, t, h1, h2, h3, h4, h5, h6⟩ := S.ex
    exact ⟨_, large, cells, r, t, rfl, rfl, h1, h2, h3, h4, h5, h6, But.refl⟩
  · obtain ⟨large, cells, r, t, rfl, rfl, h1, h2, h3, h4, h5, h6, hb⟩ := hW
    have nsl : st ≠ lg := ne_dl h1 h2
    have nsc : st ≠ cs := ne_dl h1 h3
    refine ⟨_, rfl, st, _, rfl, get_rest h1, rfl, _, rfl, ?_⟩
    by_cases e0 : r = 0
    · subst e0
      refine ite_t (c := V.int ((0 : Nat) : Int) = V.int 0) rfl ?_
      refine ⟨_, rfl, st, _, rfl, get_large h1, sz0, fun p hp => ?_⟩
      have npl : p ≠ lg := (ne_of_none h2 hp).symm
      have nps : p ≠ st := (ne_of_none h1 hp).symm
      have npc : p ≠ cs := (ne_of_none h3 hp).symm
      have b1 : But H (upd H' p (.lst [])) st lg := hb.new hp
      have g1 : upd H' p (.lst []) st = some (.dK (stK lg cs ((0 : Nat) : Int) (t : Int))) := by rw [upd_ne nps.symm]; exact h1
      have g2 : upd H' p (.lst []) lg = some (.lst (natL large)) := by rw [upd_ne npl.symm]; exact h2
      have g3 : upd H' p (.lst []) cs = some (.lst (natL cells)) := by rw [upd_ne npc.symm]; exact h3
      refine ne_nil g2 upd_same ⟨_, rfl, ?_⟩
      cases large with
      | nil =>
        refine iteF ?_
        exact pure_draw_1 hm hm2 hn h4 h5 h6 nlc g1 g2 g3 b1 k
      | cons x l =>
        refine iteT ?_
        refine ⟨fun σ' H2 => ∃ r', σ' = [some (.ref st), some (.int (m : Int)), none, none, none, none] ∧ H2 st = some (.dK (stK lg cs ((r' : Nat) : Int) (t : Int))) ∧ H2 lg = some (.lst (natL l)) ∧ H2 cs = some (.lst (natL cells)) ∧ But H H2 st lg, ?_, ?_⟩
        · rintro σ' H2 ⟨r', rfl, f1, f2, f3, f4⟩
          exact ⟨l.length, by simp, l, cells, r', t, rfl, rfl, f1, f2, f3, h4, by simp at h5; omega, h6, f4⟩
        · refine ⟨_, rfl, st, _, rfl, get_large g1, .inl ⟨rfl, _, SqL.of g2⟩, lg, _, 0, 0, V.int (x : Int), rfl, rfl, g2, by decide, by decide, by simp [seqIndex?], rfl, ?_⟩
          refine ⟨_, rfl, st, _, rfl, dput_rest (y := (x : Int)) (by rw [upd_ne nsl]; exact g1), ?_⟩
          refine ⟨x, rfl, upd_same, ?_, ?_, (b1.lg).st⟩
          · rw [upd_ne nsl.symm, upd_same]
            rfl
          · rw [upd_ne nsc.symm, upd_ne nlc.symm]
            exact g3
    · refine ite_f (c := V.int (r : Int) = V.int 0) (fun z => e0 (by injection z with z; omega)) ?_
      exact pure_draw_1 hm hm2 hn h4 h5 h6 nlc h1 h2 h3 hb k
end
def t_begun_1 (K : PySem.W.Frag) : TS := (tRet (tDisp [((tC (.str "large")), (tLc (iList K (tVar 1)) (gName 2) (tTest (tOp rGeI (tVar 2) (tOp rPowI (tC (.int 10)) (tC (.int 18))))) (tOp rSubI (tVar 2) (tOp rPowI (tC (.int 10)) (tC (.int 18)))) [2])), ((tC (.str "cells")), (tVar 1)), ((tC (.str "rest")), (tC (.int 0))), ((tC (.str "turn")), (tC (.int 0)))]))
def t_begun_0 (K : PySem.W.Frag) : TS := tSeq (tAsg (tLc (iList K (tVar 0)) (gName 2) tYes (tCB cAbs (tCons (tVar 2) tNil)) [2]) (gName 1)) (t_begun_1 K)
def t_pick_0 (K : PySem.W.Frag) : TS := (tRet (tOp (rIxL K) (tVar 1) (tCall spDraw [] E0 (tCons (tVar 0) (tCons (tCB (cLen K) (tCons (tVar 1) tNil)) tNil)))))
/-- the source is made of the script -/
def spBegun (K : PySem.W.Frag) : Sp := fun vs H Q _ => ∃ (a : Addr) (ns : List Int), vs = [.ref a] ∧ SqL K H a (ns.map V.int) ∧ ns.length ≤ 1000 ∧
  ∀ (st lg cs : Addr) (H' : Hp), H st = none → H lg = none → Src H' st lg cs 0 → Evl.Ex H H' → Q (.ref st) H'
section
open Evl
variable {K : PySem.W.Frag} {H : Hp}
def absV : V → V
  | .int i => .int (if i < 0 then -i else i)
  | x => x
def bigV : V → Option V
  | .int i => if 1000000000000000000 ≤ i then some (.int (i - 1000000000000000000)) else none
  | _ => none
theorem abs_nat (ns : List Int) : (ns.map V.int).map absV = natL (ns.map Int.natAbs) := by
  rw [List.map_map]
  show _ = (ns.map Int.natAbs).map fun x : Nat => V.int (x : Int)
  rw [List.map_map]
  refine List.map_congr_left fun i _ => ?_
  show V.int (if i < 0 then -i else i) = V.int ((i.natAbs : Nat) : Int)
  congr 1
  split <;> omega
theorem big_nat : ∀ ns : List Nat, (natL ns).filterMap bigV = natL (ns.filterMap fun n => if 1000000000000000000 ≤ n then some (n - 1000000000000000000) else none)
  | [] => rfl
  | n :: r => by
    have ih := big_nat r
    show List.filterMap bigV (V.int (n : Int) :: natL r) = _
    rw [List.filterMap_cons, List.filterMap_cons]
    by_cases h : 1000000000000000000 ≤ n
    · rw [if_pos h, show bigV (V.int (n : Int)) = some (V.int ((n - 1000000000000000000 : Nat) : Int)) by
        show (if (1000000000000000000 : Int) ≤ (n : Int) then some (V.int ((n : Int) - 1000000000000000000)) else none) = _
        rw [if_pos (by omega)]
        congr 2
        omega]
      show _ :: _ = natL (_ :: _)
      rw [ih]
      rfl
    · rw [if_neg h, show bigV (V.int (n : Int)) = none by
        show (if (1000000000000000000 : Int) ≤ (n : Int) then some (V.int ((n : Int) - 1000000000000000000)) else none) = _
        rw [if_neg (by omega)]]
      exact ih
theorem ev_ten {σ : L2.St} : Ev (tOp rPowI (tC (.int 10)) (tC (.int 18))) σ H (.int 1000000000000000000) := by
  have h : RV rPowI (.int 10) (.int 18) H (.int ((10 : Int) ^ (Int.toNat 18))) := rv_I ⟨by decide, by decide, by decide⟩
  exact ev_op ev_c ev_c h
theorem pairs_cons {tk tv : TE} {r : List (TE × TE)} {σ : L2.St} {Q : List (V × V) → Hp → Prop} (h : tk σ H fun x H1 => tv σ H1 fun y H2 => tPairs r σ H2 fun ps H3 => Q ((x, y) :: ps) H3) : tPairs ((tk, tv) :: r) σ H Q := by
  unfold tPairs
  exact h
theorem pairs_nil {σ : L2.St} {Q : List (V × V) → Hp → Prop} (h : Q [] H) : tPairs [] σ H Q := by
  unfold tPairs
  exact h
theorem tc_go {v : V} {σ : L2.St} {Q : VK} (h : Q v H) : tC v σ H Q := h
theorem stK_merge {lg cs : Addr} {r t : Int} : mergeK [] (stK lg cs r t) = stK lg cs r t := by
  have a1 : putK ([] : List (Key × V)) (Sum.inr ("large" : Str)) (.ref lg) = [(Sum.inr ("large" : Str), .ref lg)] := rfl
  have a2 : putK [((Sum.inr ("large" : Str) : Key), V.ref lg)] (Sum.inr ("cells" : Str)) (.ref cs) = [(Sum.inr ("large" : Str), .ref lg), (Sum.inr ("cells" : Str), .ref cs)] := putK_new _ (by rw [valV_neg ne_lc]; rfl)
  have a3 : putK [((Sum.inr ("large" : Str) : Key), V.ref lg), (Sum.inr ("cells" : Str), .ref cs)] (Sum.inr ("rest" : Str)) (.int r) = [(Sum.inr ("large" : Str), .ref lg), (Sum.inr ("cells" : Str), .ref cs), (Sum.inr ("rest" : Str), .int r)] := putK_new _ (by rw [valV_neg ne_lr, valV_neg ne_cr]; rfl)
  have a4 : putK [((Sum.inr ("large" : Str) : Key), V.ref lg), (Sum.inr ("cells" : Str), .ref cs), (Sum.inr ("rest" : Str), .int r)] (Sum.inr ("turn" : Str)) (.int t) = stK lg cs r t := putK_new _ (by rw [valV_neg ne_lt, valV_neg ne_ct, valV_neg ne_rt]; rfl)
  show putK (putK (putK (putK ([] : List (Key × V)) (Sum.inr ("large" : Str)) (.ref lg)) (Sum.inr ("cells" : Str)) (.ref cs)) (Sum.inr ("rest" : Str)) (.int r)) (Sum.inr ("turn" : Str)) (.int t) = _
  rw [a1, a2, a3, a4]
theorem pure_begun (vs : List V) (H : Hp) (Q : VK) (E : XK) (h : spBegun K vs H Q E) : t_begun_0 K { nx := fun _ H' => Q .non H', rt := Q } (start ["_law_script", "_law_cells", "_law_cell"] vs) H := by
  obtain ⟨a, ns, rfl, hS, hl, k⟩ := h
  refine s_asgL (el_mp (xs := ns.map V.int) absV (ev_var rfl) hS (by rw [List.length_map]; omega) (fun x => rfl) (fun x H1 e hx => ?_)) fun cs H1 hcs e1 h1 => ?_
  · obtain ⟨i, _, rfl⟩ := List.mem_map.mp hx
    exact ev_abs (ev_var rfl)
  · rw [abs_nat] at h1
    show t_begun_1 K _ [some (.ref a), some (.ref cs), none] H1
    intro st hst
    have e2 : Ex H1 (upd H1 st (.dK [])) := Ex.new hst
    have hcst : cs ≠ st := ne_of_none h1 hst
    have g1 : upd H1 st (.dK []) cs = some (.lst (natL (ns.map Int.natAbs))) := e2 _ _ h1
    have L : EvL (tLc (iList K (tVar 1)) (gName 2) (tTest (tOp rGeI (tVar 2) (tOp rPowI (tC (.int 10)) (tC (.int 18))))) (tOp rSubI (tVar 2) (tOp rPowI (tC (.int 10)) (tC (.int 18)))) [2]) [some (.ref a), some (.ref cs), none] (upd H1 st (.dK [])) ((natL (ns.map Int.natAbs)).filterMap bigV) := by
      refine el_fm bigV (ev_var rfl) (SqL.of g1) (by rw [List.length_map, List.length_map]; omega) (fun x => rfl) (fun x H2 e hx => ?_) (fun x y H2 e hx hf => ?_)
      · obtain ⟨i, _, rfl⟩ := List.mem_map.mp hx
        have q : (bigV (V.int (i : Int))).isSome = decide ((1000000000000000000 : Int) ≤ (i : Int)) := by
          show (if (1000000000000000000 : Int) ≤ (i : Int) then some (V.int ((i : Int) - 1000000000000000000)) else none).isSome = _
          by_cases h : (1000000000000000000 : Int) ≤ (i : Int)
          · rw [if_pos h, decide_eq_true h]
            rfl
          · rw [if_neg h, decide_eq_false h]
            rfl
        rw [q]
        exact et_test (ev_op (ev_var rfl) ev_ten rv_I0)
      · obtain ⟨i, _, rfl⟩ := List.mem_map.mp hx
        have q : y = .int ((i : Int) - 1000000000000000000) := by
          have hf' : (if (1000000000000000000 : Int) ≤ (i : Int) then some (V.int ((i : Int) - 1000000000000000000)) else none) = some y := hf
          split at hf'
          · exact (Option.some.inj hf').symm
          · cases hf'
        rw [q]
        exact ev_op (ev_var rfl) ev_ten rv_I0
    refine pairs_cons (tc_go (L _ (Ex.refl _) _ fun lg H2 hlg e3 h3 => ?_))
    rw [big_nat] at h3
    have hst2 : H2 st = some (.dK []) := e3 _ _ upd_same
    have hcs2 : H2 cs = some (.lst (natL (ns.map Int.natAbs))) := e3 _ _ g1
    have nls : lg ≠ st := fun z => by rw [z, upd_same] at hlg; cases hlg
    have nlc : lg ≠ cs := fun z => by rw [z, g1] at hlg; cases hlg
    refine pairs_cons (tc_go ⟨_, rfl, pairs_cons (tc_go (tc_go (pairs_cons (tc_go (tc_go (pairs_nil ?_))))))⟩)
    refine ⟨hst2, stK lg cs 0 0, rfl, by show 4 ≤ 15; decide, ?_⟩
    have hH1 : H1 st = none := hst
    have hlg1 : H lg = none := by
      cases q : H lg with
      | none => rfl
      | some o =>
        have z := e2 lg o (e1 lg o q)
        rw [hlg] at z
        cases z
    refine k st lg cs _ (fresh_back e1 hst) hlg1 ⟨⟨(ns.map Int.natAbs).filterMap (fun n => if 1000000000000000000 ≤ n then some (n - 1000000000000000000) else none), ns.map Int.natAbs, 0, 0, ?_, ?_, ?_, Nat.le_refl 0, ?_, ?_⟩, nlc⟩ (Ex.mut ((e1.trans e2).trans e3) (fresh_back e1 hst))
    · rw [upd_same, stK_merge]
      rfl
    · rw [upd_ne nls]
      exact h3
    · rw [upd_ne hcst]
      exact hcs2
    · refine Nat.le_trans (List.length_filterMap_le _ _) ?_
      rw [List.length_map]
      exact hl
    · rw [List.length_map]
      exact hl
/-- one of several -/
def spPick (K : PySem.W.Frag) : Sp := fun vs H Q _ => ∃ (st lg cs p : Addr) (xs : List V) (n : Nat), vs = [.ref st, .ref p] ∧ SqL K H p xs ∧ p ≠ st ∧ p ≠ lg ∧ 0 < xs.length ∧ xs.length ≤ 100000 ∧ n < 2 ^ 40 ∧ Src H st lg cs n ∧
  ∀ (x : V) (H' : Hp), x ∈ xs → Src H' st lg cs (n + 1) → But H H' st lg → Q x H'
theorem But.seq {H H' : Hp} {st lg p : Addr} {xs : List V} (b : But H H' st lg) (h : SqL K H p xs) (h1 : p ≠ st) (h2 : p ≠ lg) : SqL K H' p xs := by
  rcases h with (h | ⟨o, h⟩) | h
  · exact .inl (.inl (b _ _ h h1 h2))
  · exact .inl (.inr ⟨o, b _ _ h h1 h2⟩)
  · exact .inr h
theorem pure_pick (vs : List V) (H : Hp) (Q : VK) (E : XK) (h : spPick K vs H Q E) : t_pick_0 K { nx := fun _ H' => Q .non H', rt := Q } (start ["_law_state", "_law_several"] vs) H := by
  obtain ⟨st, lg, cs, p, xs, n, rfl, hp, n1, n2, hl0, hl, hn, S, k⟩ := h
  refine ⟨_, rfl, _, rfl, _, rfl, _, _, rfl, Or.inl ⟨_, hp, rfl⟩, ?_⟩
  refine ⟨st, lg, cs, xs.length, n, rfl, hl0, by omega, hn, S, fun r H' hr S' b => ?_⟩
  have hi : xs[r]? = some xs[r] := List.getElem?_eq_getElem hr
  exact ⟨p, xs, _, _, rfl, rfl, b.seq hp n1 n2, atI_nat hi, k _ H' (List.getElem_mem hr) S' b⟩
end
end Bw
/-! Bounds between points: the least ways of bounds, and that they are met. -/
namespace Bw
abbrev Mat := Nat → Nat → Option Int
def mn : Option Int → Option Int → Option Int
  | none, y => y
  | some x, none => some x
  | some x, some y => some (if y < x then y else x)
def ad : Option Int → Option Int → Option Int
  | some x, some y => some (x + y)
  | _, _ => none
/-- x ≤ y, none being beyond all -/
def Lo (x y : Option Int) : Prop := ∀ v, y = some v → ∃ u, x = some u ∧ u ≤ v
theorem Lo.refl {x : Option Int} : Lo x x := fun v h => ⟨v, h, Int.le_refl v⟩
theorem Lo.trans {x y z : Option Int} (a : Lo x y) (b : Lo y z) : Lo x z := fun v h => by
  obtain ⟨u, h1, l1⟩ := b v h
  obtain ⟨t, h2, l2⟩ := a u h1
  exact ⟨t, h2, by omega⟩
theorem mn_some {x y : Option Int} {v : Int} (h : mn x y = some v) : x = some v ∨ y = some v := by
  cases x with
  | none => exact Or.inr h
  | some p =>
    cases y with
    | none => exact Or.inl h
    | some q =>
      have e : (if q < p then q else p) = v := Option.some.inj h
      by_cases c : q < p
      · rw [if_pos c] at e; exact Or.inr (by rw [e])
      · rw [if_neg c] at e; exact Or.inl (by rw [e])
theorem mn_lo1 (x y : Option Int) : Lo (mn x y) x := fun v h => by
  subst h
  cases y with
  | none => exact ⟨v, rfl, Int.le_refl v⟩
  | some q =>
    refine ⟨if q < v then q else v, rfl, ?_⟩
    split <;> omega
theorem mn_lo2 (x y : Option Int) : Lo (mn x y) y := fun v h => by
  subst h
  cases x with
  | none => exact ⟨v, rfl, Int.le_refl v⟩
  | some q =>
    refine ⟨if v < q then v else q, rfl, ?_⟩
    split <;> omega
theorem ad_some {x y : Option Int} {v : Int} (h : ad x y = some v) : ∃ p q, x = some p ∧ y = some q ∧ v = p + q := by
  cases x with
  | none => exact nomatch h
  | some p =>
    cases y with
    | none => exact nomatch h
    | some q => exact ⟨p, q, rfl, rfl, (Option.some.inj h).symm⟩
theorem ad_of {x y : Option Int} {p q : Int} (h1 : x = some p) (h2 : y = some q) : ad x y = some (p + q) := by rw [h1, h2]; rfl
def NonNeg (x : Option Int) : Prop := ∀ v, x = some v → 0 ≤ v
/-- one more point in the middle -/
def fwS (m : Nat) (M : Mat) : Mat := fun a b => mn (M a b) (ad (M a m) (M m b))
def Tri (N k : Nat) (M : Mat) : Prop := ∀ a b c, a < N → b < N → c < k → Lo (M a b) (ad (M a c) (M c b))
theorem tri_get {N k : Nat} {M : Mat} (t : Tri N k M) {a b c : Nat} (ha : a < N) (hb : b < N) (hc : c < k) {p q : Int} (h1 : M a c = some p) (h2 : M c b = some q) : ∃ u, M a b = some u ∧ u ≤ p + q := t a b c ha hb hc _ (ad_of h1 h2)
theorem fwS_lo (m : Nat) (M : Mat) (a b : Nat) : Lo (fwS m M a b) (M a b) := mn_lo1 _ _
theorem fwS_mid {m : Nat} {M : Mat} {a b : Nat} {p q : Int} (h1 : M a m = some p) (h2 : M m b = some q) : ∃ u, fwS m M a b = some u ∧ u ≤ p + q := mn_lo2 _ _ _ (ad_of h1 h2)
theorem fwS_some {m : Nat} {M : Mat} {a b : Nat} {v : Int} (h : fwS m M a b = some v) : M a b = some v ∨ ∃ p q, M a m = some p ∧ M m b = some q ∧ v = p + q := by
  rcases mn_some h with e | e
  · exact Or.inl e
  · exact Or.inr (ad_some e)
theorem tri_step {N k : Nat} {M : Mat} (hk : k < N) (t : Tri N k M) (nn : NonNeg (M k k)) : Tri N (k + 1) (fwS k M) := by
  intro a b c ha hb hc v hv
  obtain ⟨x, y, hx, hy, rfl⟩ := ad_some hv
  by_cases e : c = k
  · subst e
    -- M' a c is M a c, M' c b is M c b
    have h1 : ∃ p, M a c = some p ∧ p ≤ x := by
      rcases fwS_some hx with q | ⟨p, q, h1, h2, rfl⟩
      · exact ⟨x, q, Int.le_refl _⟩
      · exact ⟨p, h1, by have := nn q h2; omega⟩
    have h2 : ∃ q, M c b = some q ∧ q ≤ y := by
      rcases fwS_some hy with q | ⟨p, q, h1, h2, rfl⟩
      · exact ⟨y, q, Int.le_refl _⟩
      · exact ⟨q, h2, by have := nn p h1; omega⟩
    obtain ⟨p, h1, l1⟩ := h1
    obtain ⟨q, h2, l2⟩ := h2
    obtain ⟨u, hu, l⟩ := fwS_mid h1 h2
    exact ⟨u, hu, by omega⟩
  · have hc' : c < k := by omega
    rcases fwS_some hx with h1 | ⟨p1, q1, h1, h2, rfl⟩ <;> rcases fwS_some hy with h3 | ⟨p2, q2, h3, h4, rfl⟩
    · obtain ⟨u, hu, l⟩ := tri_get t ha hb hc' h1 h3
      obtain ⟨w, hw, l2⟩ := fwS_lo k M a b u hu
      exact ⟨w, hw, by omega⟩
    · obtain ⟨u, hu, l⟩ := tri_get t ha hk hc' h1 h3
      obtain ⟨w, hw, l2⟩ := fwS_mid hu h4
      exact ⟨w, hw, by omega⟩
    · obtain ⟨u, hu, l⟩ := tri_get t hk hb hc' h2 h3
      obtain ⟨w, hw, l2⟩ := fwS_mid h1 hu
      exact ⟨w, hw, by omega⟩
    · obtain ⟨u, hu, l⟩ := tri_get t hk hk hc' h2 h3
      have z := nn u hu
      obtain ⟨w, hw, l2⟩ := fwS_mid h1 h4
      exact ⟨w, hw, by omega⟩
/-- s keeps all bounds -/
def Fits (N : Nat) (s : Nat → Int) (M : Mat) : Prop := ∀ a b x, a < N → b < N → M a b = some x → s a - s b ≤ x
theorem fits_step {N m : Nat} {s : Nat → Int} {M : Mat} (hm : m < N) (f : Fits N s M) : Fits N s (fwS m M) := by
  intro a b x ha hb hx
  rcases fwS_some hx with h | ⟨p, q, h1, h2, rfl⟩
  · exact f a b x ha hb h
  · have := f a m p ha hm h1
    have := f m b q hm hb h2
    omega
theorem fits_lo {N : Nat} {s : Nat → Int} {M M' : Mat} (h : ∀ a b, a < N → b < N → Lo (M' a b) (M a b)) (f : Fits N s M') : Fits N s M := by
  intro a b x ha hb hx
  obtain ⟨u, hu, l⟩ := h a b ha hb x hx
  have := f a b u ha hb hu
  omega
structure Fwi (N : Nat) (D0 : Mat) (k : Nat) (M : Mat) : Prop where
  tri : Tri N k M
  nn : ∀ a, a < k → NonNeg (M a a)
  dg : ∀ a, a < N → ∃ u, M a a = some u ∧ u ≤ 0
  sound : ∀ s, Fits N s D0 → Fits N s M
  lo : ∀ a b, a < N → b < N → Lo (M a b) (D0 a b)
theorem fwi_start {N : Nat} {D0 : Mat} (h : ∀ a, a < N → D0 a a = some 0) : Fwi N D0 0 D0 where
  tri := fun a b c _ _ hc => absurd hc (Nat.not_lt_zero c)
  nn := fun a ha => absurd ha (Nat.not_lt_zero a)
  dg := fun a ha => ⟨0, h a ha, Int.le_refl _⟩
  sound := fun s f => f
  lo := fun a b _ _ => Lo.refl
theorem fwi_step {N k : Nat} {D0 M : Mat} (I : Fwi N D0 k M) (hk : k < N) (nn : NonNeg (M k k)) : Fwi N D0 (k + 1) (fwS k M) where
  tri := tri_step hk I.tri nn
  nn := by
    intro a ha v hv
    rcases fwS_some hv with h | ⟨p, q, h1, h2, rfl⟩
    · by_cases e : a = k
      · subst e; exact nn v h
      · exact I.nn a (by omega) v h
    · by_cases e : a = k
      · subst e
        have := nn p h1
        have := nn q h2
        omega
      · have hak : a < k := by omega
        obtain ⟨u, hu, l⟩ := tri_get I.tri hk hk hak h2 h1
        have := nn u hu
        omega
  dg := fun a ha => by
    obtain ⟨u, hu, l⟩ := I.dg a ha
    obtain ⟨w, hw, l2⟩ := fwS_lo k M a a u hu
    exact ⟨w, hw, by omega⟩
  sound := fun s f => fits_step hk (I.sound s f)
  lo := fun a b ha hb => (fwS_lo k M a b).trans (I.lo a b ha hb)
structure Closed (N : Nat) (D : Mat) : Prop where
  dg : ∀ a, a < N → D a a = some 0
  tri : Tri N N D
theorem fwi_end {N : Nat} {D0 M : Mat} (I : Fwi N D0 N M) : Closed N M where
  dg := fun a ha => by
    obtain ⟨u, hu, l⟩ := I.dg a ha
    have := I.nn a ha u hu
    rw [hu, show u = 0 by omega]
  tri := I.tri
theorem fwi_neg {N k : Nat} {D0 M : Mat} (I : Fwi N D0 k M) (hk : k < N) {v : Int} (h : M k k = some v) (hv : v < 0) (s : Nat → Int) : ¬ Fits N s D0 := fun f => by
  have := I.sound s f k k v hk hk h
  omega
/-! ### closed bounds are met -/
/-- the least of a row -/
theorem row_min {N : Nat} (f : Nat → Option Int) (h : ∃ c, c < N ∧ ∃ v, f c = some v) : ∃ c v, c < N ∧ f c = some v ∧ ∀ d w, d < N → f d = some w → v ≤ w := by
  induction N with
  | zero => obtain ⟨c, hc, _⟩ := h; exact absurd hc (Nat.not_lt_zero c)
  | succ n ih =>
    by_cases g : ∃ c, c < n ∧ ∃ v, f c = some v
    · obtain ⟨c, v, hc, hv, hm⟩ := ih g
      cases e : f n with
      | none =>
        refine ⟨c, v, by omega, hv, fun d w hd hw => ?_⟩
        by_cases z : d = n
        · subst z; rw [e] at hw; exact nomatch hw
        · exact hm d w (by omega) hw
      | some x =>
        by_cases z : x < v
        · refine ⟨n, x, by omega, e, fun d w hd hw => ?_⟩
          by_cases z2 : d = n
          · subst z2; rw [e] at hw; cases hw; exact Int.le_refl _
          · have := hm d w (by omega) hw
            omega
        · refine ⟨c, v, by omega, hv, fun d w hd hw => ?_⟩
          by_cases z2 : d = n
          · subst z2; rw [e] at hw; cases hw; omega
          · exact hm d w (by omega) hw
    · obtain ⟨c, hc, v, hv⟩ := h
      have ec : c = n := Classical.byContradiction fun z => g ⟨c, by omega, v, hv⟩
      subst ec
      refine ⟨c, v, by omega, hv, fun d w hd hw => ?_⟩
      by_cases z2 : d = c
      · subst z2; rw [hv] at hw; cases hw; exact Int.le_refl _
      · exact absurd ⟨d, by omega, w, hw⟩ g
theorem feas {N : Nat} {D : Mat} (C : Closed N D) : ∃ t, Fits N t D := by
  have h : ∀ p, ∃ v : Int, p < N → (∃ c, c < N ∧ D p c = some v) ∧ ∀ d w, d < N → D p d = some w → v ≤ w := fun p => by
    by_cases hp : p < N
    · obtain ⟨c, v, hc, hv, hm⟩ := row_min (N := N) (D p) ⟨p, hp, 0, C.dg p hp⟩
      exact ⟨v, fun _ => ⟨⟨c, hc, hv⟩, hm⟩⟩
    · exact ⟨0, fun z => absurd z hp⟩
  refine ⟨fun p => Classical.choose (h p), fun a b x ha hb hx => ?_⟩
  obtain ⟨⟨c, hc, hv⟩, _⟩ := Classical.choose_spec (h b) hb
  obtain ⟨_, hm⟩ := Classical.choose_spec (h a) ha
  obtain ⟨u, hu, l⟩ := tri_get C.tri ha hc hb hx hv
  have := hm c u hc hu
  show Classical.choose (h a) - Classical.choose (h b) ≤ x
  omega
/-- something above all of f -/
theorem above (N : Nat) (f : Nat → Int) : ∃ M, ∀ p, p < N → f p ≤ M := by
  induction N with
  | zero => exact ⟨0, fun p hp => absurd hp (Nat.not_lt_zero p)⟩
  | succ n ih =>
    obtain ⟨M, h⟩ := ih
    by_cases z : f n ≤ M
    · refine ⟨M, fun p hp => ?_⟩
      by_cases e : p = n
      · subst e; exact z
      · exact h p (by omega)
    · refine ⟨f n, fun p hp => ?_⟩
      by_cases e : p = n
      · subst e; exact Int.le_refl _
      · have := h p (by omega)
        omega
theorem above2 (N : Nat) (f : Nat → Nat → Int) : ∃ M, ∀ p q, p < N → q < N → f p q ≤ M := by
  have h : ∀ p, ∃ M, ∀ q, q < N → f p q ≤ M := fun p => above N (f p)
  obtain ⟨M, hM⟩ := above N fun p => Classical.choose (h p)
  exact ⟨M, fun p q hp hq => Int.le_trans (Classical.choose_spec (h p) q hq) (hM p hp)⟩
/-- any distance up to the bound is met -/
theorem feas_at {N : Nat} {D : Mat} (C : Closed N D) {a b : Nat} (ha : a < N) (hb : b < N) {x : Int} (hx : ∀ v, D a b = some v → x ≤ v) : ∃ s, Fits N s D ∧ x ≤ s a - s b := by
  obtain ⟨t, ft⟩ := feas C
  obtain ⟨M, hM⟩ := above2 N fun p q => (D p b).getD 0 - (D p q).getD 0 - t q
  obtain ⟨s, es⟩ : ∃ s : Nat → Int, ∀ p, s p = match D p b with | some v => v | none => (if M < x - t a then x - t a else M) + t p := ⟨_, fun p => rfl⟩
  have sm : ∀ {p : Nat} {v : Int}, D p b = some v → s p = v := fun h => by rw [es, h]
  have no : ∀ {p : Nat}, D p b = none → s p = (if M < x - t a then x - t a else M) + t p := fun h => by rw [es, h]
  refine ⟨s, fun p q y hp hq hy => ?_, ?_⟩
  · cases ep : D p b with
    | none =>
      cases eq : D q b with
      | none =>
        rw [no ep, no eq]
        have := ft p q y hp hq hy
        omega
      | some w =>
        obtain ⟨u, hu, _⟩ := tri_get C.tri hp hb hq hy eq
        rw [ep] at hu
        exact nomatch hu
    | some v =>
      cases eq : D q b with
      | none =>
        rw [sm ep, no eq]
        have := hM p q hp hq
        rw [ep, hy] at this
        simp only [Option.getD_some] at this
        split <;> omega
      | some w =>
        rw [sm ep, sm eq]
        obtain ⟨u, hu, l⟩ := tri_get C.tri hp hb hq hy eq
        rw [ep] at hu
        cases hu
        omega
  · rw [sm (C.dg b hb)]
    cases ea : D a b with
    | none =>
      rw [no ea]
      split <;> omega
    | some v =>
      rw [sm ea]
      have := hx v ea
      omega
end Bw
/-! Rounds of shorter reaches: what was changed in the last of N rounds has a ring behind it. -/
namespace Bw
theorem pigeon : ∀ (N : Nat) (p : Nat → Nat), (∀ i, i ≤ N → p i < N) → ∃ i j, i < j ∧ j ≤ N ∧ p i = p j := by
  intro N
  induction N with
  | zero => intro p h; exact absurd (h 0 (Nat.le_refl 0)) (Nat.not_lt_zero _)
  | succ n ih =>
    intro p h
    by_cases g : ∃ i, i ≤ n ∧ p i = p (n + 1)
    · obtain ⟨i, hi, e⟩ := g
      exact ⟨i, n + 1, by omega, by omega, e⟩
    · have ne : ∀ i, i ≤ n → p i ≠ p (n + 1) := fun i hi e => g ⟨i, hi, e⟩
      obtain ⟨i, j, h1, h2, h3⟩ := ih (fun i => if p i = n then p (n + 1) else p i) fun i hi => by
        show (if p i = n then p (n + 1) else p i) < n
        have := h i (by omega)
        have := h (n + 1) (by omega)
        have := ne i hi
        split <;> omega
      refine ⟨i, j, h1, by omega, ?_⟩
      have h3' : (if p i = n then p (n + 1) else p i) = (if p j = n then p (n + 1) else p j) := h3
      have := ne i (by omega)
      have := ne j (by omega)
      split at h3' <;> split at h3' <;> omega
structure RSt where
  r : Nat → Int
  ah : Nat → Option Nat
  ch : Option Nat
abbrev Edge := Nat × Nat × Int
def setF {α : Type} (f : Nat → α) (b : Nat) (y : α) : Nat → α := fun x => if x = b then y else f x
theorem setF_same {α : Type} {f : Nat → α} {b : Nat} {y : α} : setF f b y b = y := if_pos rfl
theorem setF_ne {α : Type} {f : Nat → α} {b x : Nat} {y : α} (h : x ≠ b) : setF f b y x = f x := if_neg h
def relax (S : RSt) (e : Edge) : RSt := if S.r e.1 + e.2.2 < S.r e.2.1 then ⟨setF S.r e.2.1 (S.r e.1 + e.2.2), setF S.ah e.2.1 (some e.1), some e.2.1⟩ else S
def GoodE (N : Nat) (E : List Edge) : Prop := ∀ e ∈ E, e.1 < N ∧ e.2.1 < N ∧ e.1 ≠ e.2.1
/-- round k, the first m edges looked at; t tells in which round each was changed last, u when -/
structure RI0 (N : Nat) (E : List Edge) (k m : Nat) (S : RSt) (t u : Nat → Nat) (n : Nat) : Prop where
  tk : ∀ v, t v ≤ k
  un : ∀ v, u v ≤ n
  no : ∀ v, S.ah v = none → t v = 0
  ar : ∀ v a, S.ah v = some a → a < N ∧ v < N ∧ t v ≤ t a + 1 ∧ ∃ c, (a, v, c) ∈ E ∧ S.r a + c ≤ S.r v ∧ (u v ≤ u a → S.r a + c < S.r v)
  lo : ∀ i e, E[i]? = some e → i < m → S.r e.2.1 ≤ S.r e.1 + e.2.2 ∨ k ≤ t e.1
  hi : ∀ i e, E[i]? = some e → m ≤ i → S.r e.2.1 ≤ S.r e.1 + e.2.2 ∨ k ≤ t e.1 + 1
  chs : ∀ v, S.ch = some v → k ≤ t v ∧ v < N
  chn : S.ch = none → ∀ i e, E[i]? = some e → i < m → S.r e.2.1 ≤ S.r e.1 + e.2.2
def RI (N : Nat) (E : List Edge) (k m : Nat) (S : RSt) : Prop := ∃ t u n, RI0 N E k m S t u n
theorem ri_start {N : Nat} {E : List Edge} : RI N E 1 0 ⟨fun _ => 0, fun _ => none, none⟩ :=
  ⟨fun _ => 0, fun _ => 0, 0, fun _ => Nat.zero_le _, fun _ => Nat.le_refl _, fun _ _ => rfl, fun v a h => (nomatch h), fun i e _ h => absurd h (Nat.not_lt_zero _), fun i e _ _ => Or.inr (Nat.le_refl _), fun v h => (nomatch h), fun _ i e _ h => absurd h (Nat.not_lt_zero _)⟩
theorem ri_next {N k : Nat} {E : List Edge} {S : RSt} (h : RI N E k E.length S) : RI N E (k + 1) 0 ⟨S.r, S.ah, none⟩ := by
  obtain ⟨t, u, n, I⟩ := h
  refine ⟨t, u, n, fun v => Nat.le_succ_of_le (I.tk v), I.un, I.no, I.ar, fun i e _ h => absurd h (Nat.not_lt_zero _), fun i e he _ => ?_, fun v h => (nomatch h), fun _ i e _ h => absurd h (Nat.not_lt_zero _)⟩
  have hi : i < E.length := by
    rcases Nat.lt_or_ge i E.length with z | z
    · exact z
    · rw [List.getElem?_eq_none z] at he; exact nomatch he
  rcases I.lo i e he hi with h | h
  · exact Or.inl h
  · exact Or.inr (by omega)
theorem ri_step {N k m : Nat} {E : List Edge} {S : RSt} {e : Edge} (G : GoodE N E) (he : E[m]? = some e) (h : RI N E k m S) : RI N E k (m + 1) (relax S e) := by
  obtain ⟨t, u, n, I⟩ := h
  obtain ⟨a, b, c⟩ := e
  have hm : (a, b, c) ∈ E := List.mem_of_getElem? he
  obtain ⟨ha, hb, hab⟩ := G _ hm
  have ha : a < N := ha
  have hb : b < N := hb
  have hab : a ≠ b := hab
  by_cases g : S.r a + c < S.r b
  · have er : relax S (a, b, c) = ⟨setF S.r b (S.r a + c), setF S.ah b (some a), some b⟩ := if_pos g
    rw [er]
    have hk : k ≤ t a + 1 := by
      rcases I.hi m _ he (Nat.le_refl _) with z | z
      · have z : S.r b ≤ S.r a + c := z
        omega
      · exact z
    -- t never falls
    have tup : ∀ v, t v ≤ setF t b k v := fun v => by
      by_cases z : v = b
      · subst z; rw [setF_same]; exact I.tk v
      · rw [setF_ne z]; exact Nat.le_refl _
    have rdn : ∀ v, setF S.r b (S.r a + c) v ≤ S.r v := fun v => by
      by_cases z : v = b
      · subst z; rw [setF_same]; omega
      · rw [setF_ne z]; exact Int.le_refl _
    refine ⟨setF t b k, setF u b (n + 1), n + 1, fun v => ?_, fun v => ?_, fun v hv => ?_, fun v a' hv => ?_, fun i e hi hl => ?_, fun i e hi hl => ?_, fun v hv => ?_, fun z => nomatch z⟩
    · by_cases z : v = b
      · subst z; rw [setF_same]; exact Nat.le_refl _
      · rw [setF_ne z]; exact I.tk v
    · by_cases z : v = b
      · subst z; rw [setF_same]; exact Nat.le_refl _
      · rw [setF_ne z]; exact Nat.le_succ_of_le (I.un v)
    · by_cases z : v = b
      · subst z
        have hv : setF S.ah v (some a) v = none := hv
        rw [setF_same] at hv
        exact nomatch hv
      · have hv : setF S.ah b (some a) v = none := hv
        rw [setF_ne z] at hv
        rw [setF_ne z]
        exact I.no v hv
    · have hv : setF S.ah b (some a) v = some a' := hv
      show a' < N ∧ v < N ∧ setF t b k v ≤ setF t b k a' + 1 ∧ ∃ c', (a', v, c') ∈ E ∧ setF S.r b (S.r a + c) a' + c' ≤ setF S.r b (S.r a + c) v ∧ (setF u b (n + 1) v ≤ setF u b (n + 1) a' → setF S.r b (S.r a + c) a' + c' < setF S.r b (S.r a + c) v)
      by_cases z : v = b
      · subst z
        rw [setF_same] at hv
        cases hv
        refine ⟨ha, hb, ?_, c, hm, ?_, fun q => ?_⟩
        · rw [setF_same, setF_ne hab]; exact hk
        · rw [setF_same, setF_ne hab]; exact Int.le_refl _
        · rw [setF_same, setF_ne hab] at q
          have := I.un a
          omega
      · rw [setF_ne z] at hv
        obtain ⟨h1, h2, h3, c', h4, h5, h6⟩ := I.ar v a' hv
        refine ⟨h1, h2, ?_, c', h4, ?_, fun q => ?_⟩
        · have := tup a'
          rw [setF_ne z]
          omega
        · have := rdn a'
          rw [setF_ne z]
          omega
        · rw [setF_ne z] at q
          rw [setF_ne z]
          by_cases z2 : a' = b
          · rw [z2] at h5 ⊢
            rw [setF_same]
            omega
          · rw [setF_ne z2] at q
            rw [setF_ne z2]
            exact h6 q
    · show setF S.r b (S.r a + c) e.2.1 ≤ setF S.r b (S.r a + c) e.1 + e.2.2 ∨ k ≤ setF t b k e.1
      by_cases z : e.1 = b
      · exact Or.inr (by rw [z, setF_same]; exact Nat.le_refl _)
      · rw [setF_ne z, setF_ne z]
        by_cases zi : i = m
        · rw [zi, he] at hi
          cases hi
          show setF S.r b (S.r a + c) b ≤ S.r a + c ∨ _
          rw [setF_same]
          exact Or.inl (Int.le_refl _)
        · rcases I.lo i e hi (by omega) with q | q
          · have := rdn e.2.1
            exact Or.inl (by omega)
          · exact Or.inr q
    · show setF S.r b (S.r a + c) e.2.1 ≤ setF S.r b (S.r a + c) e.1 + e.2.2 ∨ k ≤ setF t b k e.1 + 1
      by_cases z : e.1 = b
      · exact Or.inr (by rw [z, setF_same]; omega)
      · rw [setF_ne z, setF_ne z]
        rcases I.hi i e hi (by omega) with q | q
        · have := rdn e.2.1
          exact Or.inl (by omega)
        · exact Or.inr q
    · have hv : some b = some v := hv
      cases hv
      exact ⟨by rw [setF_same]; exact Nat.le_refl _, hb⟩
  · have er : relax S (a, b, c) = S := if_neg g
    rw [er]
    refine ⟨t, u, n, I.tk, I.un, I.no, I.ar, fun i e hi hl => ?_, fun i e hi hl => I.hi i e hi (by omega), I.chs, fun z i e hi hl => ?_⟩
    · by_cases zi : i = m
      · rw [zi, he] at hi
        cases hi
        exact Or.inl (by show S.r b ≤ S.r a + c; omega)
      · exact I.lo i e hi (by omega)
    · by_cases zi : i = m
      · rw [zi, he] at hi
        cases hi
        show S.r b ≤ S.r a + c
        omega
      · exact I.chn z i e hi (by omega)
/-- nothing changed in a whole round: the reaches keep all -/
theorem ri_none {N k : Nat} {E : List Edge} {S : RSt} (h : RI N E k E.length S) (hc : S.ch = none) : ∀ e ∈ E, S.r e.2.1 ≤ S.r e.1 + e.2.2 := by
  obtain ⟨t, u, n, I⟩ := h
  intro e he
  obtain ⟨i, hi, e1⟩ := List.mem_iff_getElem.mp he
  exact I.chn hc i e (by rw [List.getElem?_eq_getElem hi, e1]) hi
/-- a ring behind v: the points met, hop by hop -/
structure Back (N : Nat) (E : List Edge) (S : RSt) (v : Nat) (p : Nat → Nat) (L : Nat) : Prop where
  p0 : p 0 = v
  lt : ∀ n, p n < N
  ah : ∀ n, S.ah (p n) = some (p (n + 1))
  pos : 0 < L
  le : L ≤ N
  per : ∀ n, N ≤ n → p (n + L) = p n
  dn : ∀ n, ∃ c, (p (n + 1), p n, c) ∈ E ∧ S.r (p (n + 1)) + c ≤ S.r (p n)
  st : ∀ i, N ≤ i → ∃ m, i ≤ m ∧ m < i + L ∧ ∃ c, (p (m + 1), p m, c) ∈ E ∧ S.r (p (m + 1)) + c < S.r (p m)
theorem max_at (f : Nat → Nat) (i : Nat) : ∀ L, ∃ m, i ≤ m ∧ m ≤ i + L ∧ ∀ x, i ≤ x → x ≤ i + L → f x ≤ f m
  | 0 => ⟨i, Nat.le_refl _, Nat.le_refl _, fun x h1 h2 => by rw [show x = i by omega]; exact Nat.le_refl _⟩
  | L + 1 => by
    obtain ⟨m, h1, h2, h3⟩ := max_at f i L
    by_cases z : f m ≤ f (i + L + 1)
    · refine ⟨i + L + 1, by omega, by omega, fun x q1 q2 => ?_⟩
      by_cases e : x = i + L + 1
      · rw [e]; exact Nat.le_refl _
      · have := h3 x q1 (by omega)
        omega
    · refine ⟨m, h1, by omega, fun x q1 q2 => ?_⟩
      by_cases e : x = i + L + 1
      · rw [e]; omega
      · exact h3 x q1 (by omega)
theorem ri_back {N : Nat} {E : List Edge} {S : RSt} {v : Nat} (h : RI N E N E.length S) (hc : S.ch = some v) : ∃ p L, Back N E S v p L := by
  obtain ⟨t, u, n, I⟩ := h
  obtain ⟨htv, hv⟩ := I.chs v hc
  obtain ⟨f, ef⟩ : ∃ f : Nat → Nat, ∀ x, f x = (S.ah x).getD 0 := ⟨_, fun _ => rfl⟩
  obtain ⟨p, p0, ps⟩ : ∃ p : Nat → Nat, p 0 = v ∧ ∀ n, p (n + 1) = f (p n) := ⟨fun n => Nat.rec v (fun _ x => f x) n, rfl, fun _ => rfl⟩
  have hop : ∀ x, 1 ≤ t x → S.ah x = some (f x) := fun x hx => by
    cases e : S.ah x with
    | none => have := I.no x e; omega
    | some a => rw [ef, e]; rfl
  have early : ∀ i, i ≤ N → p i < N ∧ N ≤ t (p i) + i := by
    intro i
    induction i with
    | zero => intro _; rw [p0]; exact ⟨hv, htv⟩
    | succ i ih =>
      intro hi
      obtain ⟨_, h2⟩ := ih (by omega)
      have e := hop (p i) (by omega)
      obtain ⟨q1, q2, q3, _⟩ := I.ar _ _ e
      rw [ps]
      exact ⟨q1, by omega⟩
  have hopN : ∀ i, i < N → S.ah (p i) = some (p (i + 1)) := fun i hi => by
    rw [ps]
    exact hop _ (by have := (early i (by omega)).2; omega)
  obtain ⟨i, j, hij, hj, e⟩ := pigeon N p fun i hi => (early i hi).1
  obtain ⟨L, eL⟩ : ∃ L, L = j - i := ⟨_, rfl⟩
  have perI : ∀ x, p (i + x + L) = p (i + x) := by
    intro x
    induction x with
    | zero => rw [show i + 0 + L = j by omega, show i + 0 = i by omega]; exact e.symm
    | succ x ih =>
      rw [show i + (x + 1) + L = i + x + L + 1 by omega, show i + (x + 1) = i + x + 1 by omega, ps, ps, ih]
  have per : ∀ n, i ≤ n → p (n + L) = p n := fun n hn => by
    have := perI (n - i)
    rw [show i + (n - i) = n by omega] at this
    exact this
  have hops : ∀ n, S.ah (p n) = some (p (n + 1)) := by
    intro n
    induction n using Nat.strongRecOn with
    | ind n ih =>
      by_cases z : n < N
      · exact hopN n z
      · have h1 := per (n - L) (by omega)
        have h2 := per (n - L + 1) (by omega)
        rw [show n - L + L = n by omega] at h1
        rw [show n - L + 1 + L = n + 1 by omega] at h2
        rw [h1, h2]
        exact ih (n - L) (by omega)
  have dn : ∀ n, ∃ c, (p (n + 1), p n, c) ∈ E ∧ S.r (p (n + 1)) + c ≤ S.r (p n) ∧ (u (p n) ≤ u (p (n + 1)) → S.r (p (n + 1)) + c < S.r (p n)) := fun n => by
    obtain ⟨_, _, _, c, h1, h2, h3⟩ := I.ar _ _ (hops n)
    exact ⟨c, h1, h2, h3⟩
  refine ⟨p, L, p0, fun n => (I.ar _ _ (hops n)).2.1, hops, by omega, by omega, fun n hn => per n (by omega), fun n => ?_, fun x hx => ?_⟩
  · obtain ⟨c, h1, h2, _⟩ := dn n
    exact ⟨c, h1, h2⟩
  · -- the one changed last
    obtain ⟨m, h1, h2, h3⟩ := max_at (fun y => u (p y)) (x + 1) (L - 1)
    refine ⟨m - 1, by omega, by omega, ?_⟩
    obtain ⟨c, q1, q2, q3⟩ := dn (m - 1)
    refine ⟨c, q1, q3 ?_⟩
    rw [show m - 1 + 1 = m by omega]
    by_cases z : m = x + 1
    · have hh := h3 (x + L) (by omega) (by omega)
      have hh : u (p (x + L)) ≤ u (p m) := hh
      rw [per x (by omega)] at hh
      rw [show m - 1 = x by omega]
      exact hh
    · exact h3 (m - 1) (by omega) (by omega)
/-- a ring: nothing fits -/
theorem back_unfit {N : Nat} {E : List Edge} {S : RSt} {v : Nat} {p : Nat → Nat} {L : Nat} (B : Back N E S v p L) (s : Nat → Int) (f : ∀ e ∈ E, s e.1 - s e.2.1 ≤ e.2.2) : False := by
  obtain ⟨w, ew⟩ : ∃ w : Nat → Int, ∀ n, w n = s (p n) + S.r (p n) := ⟨_, fun _ => rfl⟩
  have dn : ∀ n, w (n + 1) ≤ w n := fun n => by
    obtain ⟨c, h1, h2⟩ := B.dn n
    have h3 : s (p (n + 1)) - s (p n) ≤ c := f _ h1
    rw [ew, ew]
    omega
  have dns : ∀ d n, w (n + d) ≤ w n := by
    intro d
    induction d with
    | zero => intro n; exact Int.le_refl _
    | succ d ih =>
      intro n
      have h1 := ih n
      have h2 := dn (n + d)
      rw [show n + (d + 1) = n + d + 1 by omega]
      omega
  obtain ⟨m, h1, h2, c, h3, h4⟩ := B.st N (Nat.le_refl _)
  have h5 : s (p (m + 1)) - s (p m) ≤ c := f _ h3
  have h6 : w (m + 1) < w m := by rw [ew, ew]; omega
  have h7 := dns (m - N) N
  rw [show N + (m - N) = m by omega] at h7
  have h8 := dns (N + L - (m + 1)) (m + 1)
  rw [show m + 1 + (N + L - (m + 1)) = N + L by omega] at h8
  have h9 : w (N + L) = w N := by rw [ew, ew, B.per N (Nat.le_refl _)]
  omega
end Bw
/-! What the defs of the tables promise. -/
namespace Bw
open PySem PySem.Spec PyProof.Rows L2 Evl
abbrev cTupleOf (K : PySem.W.Frag) : List V → Hp → VK → Prop := fun xs H Q => ∃ p ys, xs = [.ref p] ∧ ((SqL K H p ys ∧ ∀ l, H l = none → Q (.ref l) (upd H l (.tup ys))) ∨ (SqT K H p ys ∧ Q (.ref p) H))
/-- the value and the heap behind -/
abbrev Post := V → Hp → Prop
/-- a promise that only lays new things -/
def spOf (Pre : List V → Hp → Post → Prop) : Sp := fun vs H Q _ => ∃ P : Post, Pre vs H P ∧ ∀ v H2, Ex H H2 → P v H2 → Q v H2
def isV (z : V) : Post := fun v _ => v = z
def isT (xs : List V) : Post := fun v H2 => ∃ p, v = .ref p ∧ H2 p = some (.tup xs)
def isL (xs : List V) : Post := fun v H2 => ∃ p, v = .ref p ∧ H2 p = some (.lst xs)
def EvP (te : TE) (σ : L2.St) (H : Hp) (P : Post) : Prop := ∀ H1, Ex H H1 → ∀ Q : VK, (∀ v H2, Ex H1 H2 → P v H2 → Q v H2) → te σ H1 Q
section
variable {K : PySem.W.Frag} {σ : L2.St} {H : Hp} {te : TE} {P : Post} {z : V} {D : Ends}
theorem evp_v (h : Ev te σ H z) : EvP te σ H (isV z) := fun H1 e Q q => h H1 e Q fun H2 e2 => q z H2 e2 rfl
theorem ev_of (h : EvP te σ H (isV z)) : Ev te σ H z := fun H1 e Q q => h H1 e Q fun v H2 e2 hv => by
  rw [show v = z from hv]
  exact q H2 e2
theorem evp_call {Pre : List V → Hp → Post → Prop} {E : XK} {ta : TA} {vs : List V} (h : EvA ta σ H vs) (hp : ∀ H1, Ex H H1 → Pre vs H1 P) : EvP (tCall (spOf Pre) [] E ta) σ H P := fun H1 e Q q => h H1 e _ fun H2 e2 => by
  refine ⟨P, ?_, fun v H3 e3 p => q v H3 (e2.trans e3) p⟩
  rw [List.append_nil]
  exact hp H2 (e.trans e2)
theorem ev_callV {Pre : List V → Hp → Post → Prop} {E : XK} {ta : TA} {vs : List V} (h : EvA ta σ H vs) (hp : ∀ H1, Ex H H1 → Pre vs H1 (isV z)) : Ev (tCall (spOf Pre) [] E ta) σ H z := ev_of (evp_call h hp)
theorem p_ret (h : EvP te σ H P) (k : ∀ v H1, Ex H H1 → P v H1 → D.rt v H1) : tRet te D σ H := h H (Ex.refl H) _ k
theorem p_asg {i : Nat} (h : EvP te σ H P) (k : ∀ v H1, Ex H H1 → P v H1 → D.nx (σ.set i (some v)) H1) : tAsg te (gName i) D σ H := h H (Ex.refl H) _ k
/-- isinstance, the type being told -/
theorem rc_isi {x : V} {t c : String} {b : Bool} (ty : ∀ H1, Ex H H1 → TyX K H1 x (.type t)) (e : PySem.W.kitOne K (.type t) (.type c) = some b) : RC (rIsi K) [x, .ty c] H (.bl b) := fun H1 e1 Q q => ⟨x, .ty c, _, _, b, rfl, .ty c, ty H1 e1, e, q H1 (Ex.refl H1)⟩
theorem ty_int {i : Int} {H1 : Hp} : TyX K H1 (.int i) (.type "int") := .base (.int i)
theorem ty_tup {a : Addr} {xs : List V} {H1 : Hp} (h : H1 a = some (.tup xs)) : TyX K H1 (.ref a) (.type "tuple") := .base (.tup h)
theorem ev_isi {x : V} {t c : String} {b : Bool} (h : Ev te σ H x) (ty : ∀ H1, Ex H H1 → TyX K H1 x (.type t)) (e : PySem.W.kitOne K (.type t) (.type c) = some b) : Ev (tCB (rIsi K) (tCons te (tCons (tC (.ty c)) tNil))) σ H (.bl b) :=
  ev_cb (ea_cons h (ea_cons ev_c ea_nil)) (rc_isi ty e)
end
/-! ### the promises -/
def sp_is_number (C : Addr) : Sp := spOf fun vs H P => ∃ i : Int, vs = [.int i] ∧ P = isV (.bl true)
def sp_is_number_between (C : Addr) : Sp := spOf fun vs H P => ∃ i lo hi : Int, vs = [.int i, .int lo, .int hi] ∧ P = isV (.bl (decide (lo ≤ i) && decide (i ≤ hi)))
def sp_is_pair (C : Addr) : Sp := spOf fun vs H P => ∃ a xs, vs = [.ref a] ∧ H a = some (.tup xs) ∧ P = isV (.bl (decide ((xs.length : Int) = 2)))
abbrev intL (xs : List Int) : List V := xs.map V.int
/-- the sums ahead of each point -/
def preA (t : Int) : List Int → List Int
  | [] => [t]
  | x :: r => t :: preA (t + x) r
abbrev pre (xs : List Int) : List Int := preA 0 xs
def difs : List Int → List Int
  | x :: y :: r => (y - x) :: difs (y :: r)
  | _ => []
def sp_is_water (C : Addr) : Sp := spOf fun vs H P => ∃ a xs, vs = [.ref a] ∧ H a = some (.tup (intL xs)) ∧ 1 ≤ xs.length ∧ xs.length ≤ 12 ∧ P = isV (.bl true)
def sp_sums (C : Addr) : Sp := spOf fun vs H P => ∃ a xs, vs = [.ref a] ∧ H a = some (.tup (intL xs)) ∧ 1 ≤ xs.length ∧ xs.length ≤ 12 ∧ P = isT (intL (pre xs))
def sp__water_of (C : Addr) : Sp := spOf fun vs H P => ∃ a xs, vs = [.ref a] ∧ H a = some (.lst (intL xs)) ∧ xs.length ≤ 13 ∧ P = isT (intL (difs xs))
end Bw
/-! The small defs: numbers, pairs, waters, sums. -/
namespace Bw
open PySem PySem.Spec PyProof.Rows L2 Evl
def t_is_number_0 (K : PySem.W.Frag) (C : Addr) : TS := (tRet (tAndV (tCB (rIsi K) (tCons (tVar 0) (tCons (tC (.ty "int")) tNil))) (tNotV (tCB (rIsi K) (tCons (tVar 0) (tCons (tC (.ty "bool")) tNil))))))
def t_is_number_between_0 (K : PySem.W.Frag) (C : Addr) : TS := (tRet (tAndV (tCall (sp_is_number C) [] E0 (tCons (tVar 0) tNil)) (tChain rLeI rLeI (tVar 1) (tVar 0) (tVar 2))))
def t_is_pair_0 (K : PySem.W.Frag) (C : Addr) : TS := (tRet (tAndV (tCB (rIsi K) (tCons (tVar 0) (tCons (tC (.ty "tuple")) tNil))) (tOp rEq (tCB (cLen K) (tCons (tVar 0) tNil)) (tC (.int 2)))))
def t_is_water_1 (K : PySem.W.Frag) (C : Addr) : TS := (tRet (tCB (rAll K) (tCons (tLc (iTup K (tVar 0)) (gName 1) tYes (tCall (sp_is_number C) [] E0 (tCons (tVar 1) tNil)) [1]) tNil)))
def t_is_water_0 (K : PySem.W.Frag) (C : Addr) : TS := tSeq (tIfS (tOr (tNot (tB (tCB (rIsi K) (tCons (tVar 0) (tCons (tC (.ty "tuple")) tNil))))) (tNot (tTest (tChain rLeI rLeI (tC (.int 1)) (tCB (cLen K) (tCons (tVar 0) tNil)) (tC (.int 12)))))) (tRet (tC (.bl false))) tNext) (t_is_water_1 K C)
def t_sums_3 (K : PySem.W.Frag) (C : Addr) : TS := (tRet (tCB (cTupleOf K) (tCons (tVar 1) tNil)))
def t_sums_2 (K : PySem.W.Frag) (C : Addr) : TS := tSeq (tFor (iTup K (tVar 0)) (gName 2) (tDrop (tBM K "list" rAppend (tVar 1) (tCons (tOp rAddI (tOp (rIxL K) (tVar 1) (tUn rNegI (tC (.int 1)))) (tVar 2)) tNil)))) (t_sums_3 K C)
def t_sums_1 (K : PySem.W.Frag) (C : Addr) : TS := tSeq (tAsg (tLst (tCons (tC (.int 0)) tNil)) (gName 1)) (t_sums_2 K C)
def t_sums_0 (K : PySem.W.Frag) (C : Addr) : TS := tSeq (tIfS (tNot (tB (tCall (sp_is_water C) [] E0 (tCons (tVar 0) tNil)))) tNever tNext) (t_sums_1 K C)
def t__water_of_0 (K : PySem.W.Frag) (C : Addr) : TS := (tRet (tCB (cTupleOf K) (tCons (tLc (iZip K (tCons (tVar 0) (tCons (tSl (rSlL K) (tVar 0) (tPart (tC (.int 1))) tNoPart) tNil))) (gTup K 2 (gCons (gName 1) (gCons (gName 2) gNil))) tYes (tOp rSubI (tVar 2) (tVar 1)) [1, 2]) tNil)))
section
variable {K : PySem.W.Frag} {C : Addr} {σ : L2.St} {H : Hp} {ta tb tc te : TE} {D : Ends}
theorem ev_chain {i j k : Int} (ha : Ev ta σ H (.int i)) (hb : Ev tb σ H (.int j)) (hc : Ev tc σ H (.int k)) : Ev (tChain rLeI rLeI ta tb tc) σ H (.bl (decide (i ≤ j) && decide (j ≤ k))) := fun H1 e Q q =>
  ha H1 e _ fun H2 e2 => hb H2 (e.trans e2) _ fun H3 e3 => ⟨i, j, rfl, rfl, decide (i ≤ j), rfl, by
    cases hd : decide (i ≤ j) with
    | true =>
      refine iteT ?_
      rw [hd] at q
      exact hc H3 ((e.trans e2).trans e3) _ fun H4 e4 => ⟨j, k, rfl, rfl, by simpa using q H4 ((e2.trans e3).trans e4)⟩
    | false =>
      refine iteF ?_
      rw [hd] at q
      exact by simpa using q H3 (e2.trans e3)⟩
theorem ev_lenT {a : Addr} {xs : List V} (ha : Ev ta σ H (.ref a)) (h : SqT K H a xs) : Ev (tCB (cLen K) (tCons ta tNil)) σ H (.int (xs.length : Int)) := fun H1 e Q q => ha H1 e _ fun H2 e2 => ⟨.ref a, xs.length, rfl, Or.inr ⟨xs, ex_t (e.trans e2) h, rfl⟩, q H2 e2⟩
theorem ev_lenL {a : Addr} {xs : List V} (ha : Ev ta σ H (.ref a)) (h : SqL K H a xs) : Ev (tCB (cLen K) (tCons ta tNil)) σ H (.int (xs.length : Int)) := fun H1 e Q q => ha H1 e _ fun H2 e2 => ⟨.ref a, xs.length, rfl, Or.inl ⟨xs, ex_l (e.trans e2) h, rfl⟩, q H2 e2⟩
/-- [e for x in xs], xs a tuple -/
theorem el_mpT {a : Addr} {xs : List V} {tl : TE} {j : Nat} {vs : List Nat} (f : V → V) (h : Ev tl σ H (.ref a)) (hx : SqT K H a xs) (hz : xs.length ≤ 40000) (hw : ∀ x, wipe ((wipe σ vs).set j (some x)) vs = wipe σ vs)
    (he : ∀ (x : V) H1, Ex H H1 → x ∈ xs → Ev te ((wipe σ vs).set j (some x)) H1 (f x)) : EvL (tLc (iTup K tl) (gName j) tYes te vs) σ H (xs.map f) := fun H0 e Q q => h H0 e _ fun H1 e1 => ⟨a, rfl, ⟨xs, ex_t (e.trans e1) hx⟩, fun Dl hD => by
  refine lc_it (walk_tup (xs := xs)) (CwF H1 (fun x => some (f x)) xs Dl) ⟨hD, Ex.new hD, upd_same⟩ (fun i H' _ p => ex_t ((e.trans e1).trans p.2.1) hx) (fun i x H' H2 hi p y => ?_) (fun H' p => ?_)
  · obtain ⟨rfl, hx2⟩ := y
    exact ⟨hw x, cwF_turn p (by omega) hx2 (et_yes) (fun y hf => by
      cases hf
      exact he x H1 (e.trans e1) (List.mem_of_getElem? hx2))⟩
  · have p3 := p.2.2
    rw [List.take_length] at p3
    refine q Dl H' (fresh_back e1 p.1) (e1.trans p.2.1) ?_
    rw [p3]
    simp⟩
theorem ev_all {bs : List Bool} (h : EvL te σ H (bs.map V.bl)) : Ev (tCB (rAll K) (tCons te tNil)) σ H (.bl (bs.all id)) := fun H1 e Q q => h H1 e _ fun p H2 hp e2 h2 => ⟨p, bs, rfl, sq_of h2, q H2 e2⟩
theorem eu_tupleOf {xs : List V} {a : Addr} (h : Ev te σ H (.ref a)) (hx : H a = some (.lst xs)) : EvU (tCB (cTupleOf K) (tCons te tNil)) σ H xs := fun H1 e Q q => h H1 e _ fun H2 e2 =>
  ⟨a, xs, rfl, Or.inl ⟨sq_of ((e.trans e2) _ _ hx), fun l hl => q l _ (fresh_back e2 hl) (e2.trans (Ex.new hl)) upd_same⟩⟩
theorem eu_tupleOfN {xs : List V} (h : EvL te σ H xs) : EvU (tCB (cTupleOf K) (tCons te tNil)) σ H xs := fun H1 e Q q => h H1 e _ fun p H2 hp e2 h2 =>
  ⟨p, xs, rfl, Or.inl ⟨sq_of h2, fun l hl => q l _ (fresh_back e2 hl) (e2.trans (Ex.new hl)) upd_same⟩⟩
/-- what a walk over pairs has made behind i turns -/
def Zw (H : Hp) (f : V → V → V) (xs ys : List V) (Dl : Addr) (i : Nat) (H' : Hp) : Prop := H Dl = none ∧ Ex H H' ∧ H' Dl = some (.lst ((List.zipWith f xs ys).take i))
theorem zw_turn {H1 H' H2 : Hp} {f : V → V → V} {xs ys : List V} {x y : V} {Dl T : Addr} {i i1 i2 : Nat} {vs : List Nat} (p : Zw H1 f xs ys Dl i H') (hi : i < 40000) (hx : xs[i]? = some x) (hy : ys[i]? = some y) (hT : H' T = none) (e2 : H2 = upd H' T (.tup [x, y]))
    (hw : wipe (((wipe σ vs).set i1 (some x)).set i2 (some y)) vs = wipe σ vs) (he : Ev te (((wipe σ vs).set i1 (some x)).set i2 (some y)) H1 (f x y)) :
    gTup K 2 (gCons (gName i1) (gCons (gName i2) gNil)) (.ref T) (wipe σ vs) H2 fun σ2 H2 => wipe σ2 vs = wipe σ vs ∧ tYes σ2 H2 fun b H3 => if b = true then te σ2 H3 fun z H4 => ∃ acc, H4 Dl = some (.lst acc) ∧ acc.length < sizeLine ∧ Zw H1 f xs ys Dl (i + 1) (upd H4 Dl (.lst (acc ++ [z]))) else Zw H1 f xs ys Dl (i + 1) H3 := by
  obtain ⟨p1, p2, p3⟩ := p
  subst e2
  have eT : Ex H' (upd H' T (.tup [x, y])) := Ex.new hT
  refine ⟨T, [x, y], rfl, st_of upd_same, rfl, x, [y], rfl, y, [], rfl, rfl, hw, ?_⟩
  unfold tYes
  refine iteT (he _ (p2.trans eT) _ fun H4 e4 => ⟨_, e4 _ _ (eT _ _ p3), ?_, p1, Ex.mut ((p2.trans eT).trans e4) p1, ?_⟩)
  · refine Nat.lt_of_le_of_lt (List.length_take_le _ _) (sz_lt (by omega))
  · rw [upd_same]
    have hz : (List.zipWith f xs ys)[i]? = some (f x y) := by rw [List.getElem?_zipWith, hx, hy]
    rw [take_step hz]
theorem el_zipL {xs ys : List V} {ta : TA} {i1 i2 : Nat} {vs : List Nat} (f : V → V → V) (h : ∀ H0, Ex H H0 → ∀ Q : List V → Hp → Prop, (∀ a b H1, Ex H0 H1 → SqL K H1 a xs → SqL K H1 b ys → Q [.ref a, .ref b] H1) → ta σ H0 Q) (hz : xs.length ≤ 30000)
    (hw : ∀ x y, wipe (((wipe σ vs).set i1 (some x)).set i2 (some y)) vs = wipe σ vs) (he : ∀ (i : Nat) (x y : V) H1, Ex H H1 → xs[i]? = some x → ys[i]? = some y → Ev te (((wipe σ vs).set i1 (some x)).set i2 (some y)) H1 (f x y)) :
    EvL (tLc (iZip K ta) (gTup K 2 (gCons (gName i1) (gCons (gName i2) gNil))) tYes te vs) σ H (List.zipWith f xs ys) := fun H0 e Q q => h H0 e _ fun a b H1 e1 hx hy => ⟨a, b, xs, ys, rfl, hx, hy, fun Dl hD => by
  refine lc_it (walk_zip (xs := xs) (ys := ys) rfl) (Zw H1 f xs ys Dl) ⟨hD, Ex.new hD, upd_same⟩ (fun i H' _ p => ⟨ex_l p.2.1 hx, ex_l p.2.1 hy⟩) (fun i v H' H2 hi p y => ?_) (fun H' p => ?_)
  · obtain ⟨T, x, z, rfl, hT, e2, h1, h2⟩ := y
    exact zw_turn p (by have := (List.getElem?_eq_some_iff.mp h1).1; omega) h1 h2 hT e2 (hw x z) (he i x z H1 (e.trans e1) h1 h2)
  · have p3 := p.2.2
    refine q Dl H' (fresh_back e1 p.1) (e1.trans p.2.1) ?_
    rw [p3, List.take_of_length_le (by rw [List.length_zipWith]; exact Nat.le_refl _)]⟩
theorem cut1 (xs : List V) : cutV xs (some 1) none = xs.drop 1 := by
  unfold cutV
  have h1 : HT.sIx xs.length 0 (some 1) = min 1 xs.length := HT.sIx_nat xs.length 0 1
  have h2 : HT.sIx xs.length xs.length none = xs.length := rfl
  rw [h1, h2]
  cases xs with
  | nil => rfl
  | cons x r =>
    have e : min 1 (x :: r).length = 1 := by simp
    rw [e]
    simp
/-! ### the defs -/
abbrev ends (Q : VK) : Ends := { nx := fun _ H' => Q .non H', rt := Q }
theorem pure_is_number {i : Int} {Q : VK} (k : ∀ H1, Ex H H1 → Q (.bl true) H1) : t_is_number_0 K C (ends Q) [some (.int i)] H := by
  have a : Ev (tVar 0) [some (.int i)] H (.int i) := ev_var rfl
  refine s_ret (v := .bl (true && !false)) (ev_andV (ev_isi a (fun _ _ => ty_int) (kit_ty (by decide +kernel))) fun _ => ev_notV (ev_isi a (fun _ _ => ty_int) (kit_ty (by decide +kernel)))) k
theorem pure_is_number_between {i lo hi : Int} {Q : VK} (k : ∀ H1, Ex H H1 → Q (.bl (decide (lo ≤ i) && decide (i ≤ hi))) H1) : t_is_number_between_0 K C (ends Q) [some (.int i), some (.int lo), some (.int hi)] H := by
  refine s_ret (v := .bl (true && (decide (lo ≤ i) && decide (i ≤ hi)))) (ev_andV (ev_callV (ea_cons (ev_var rfl) ea_nil) fun _ _ => ⟨i, rfl, rfl⟩) fun _ => ev_chain (ev_var rfl) (ev_var rfl) (ev_var rfl)) ?_
  rw [Bool.true_and]
  exact k
theorem pure_is_pair {a : Addr} {xs : List V} {Q : VK} (h : H a = some (.tup xs)) (k : ∀ H1, Ex H H1 → Q (.bl (decide ((xs.length : Int) = 2))) H1) : t_is_pair_0 K C (ends Q) [some (.ref a)] H := by
  refine s_ret (v := .bl (true && decide ((V.int (xs.length : Int)) = V.int 2))) (ev_andV (ev_isi (ev_var rfl) (fun H1 e => ty_tup (e _ _ h)) (kit_ty (by decide +kernel))) fun _ => ev_op (ev_lenT (ev_var rfl) (st_of h)) ev_c (rv_eq rfl)) ?_
  intro H1 e
  have := k H1 e
  simpa using this
theorem ints_tests {xs : List Int} : (intL xs).map (fun x => V.bl true) = (xs.map fun _ => true).map V.bl := by
  simp [List.map_map, Function.comp_def]
theorem pure_is_water {a : Addr} {xs : List Int} {Q : VK} (h : H a = some (.tup (intL xs))) (h1 : 1 ≤ xs.length) (h2 : xs.length ≤ 12) (k : ∀ H1, Ex H H1 → Q (.bl true) H1) : t_is_water_0 K C (ends Q) [some (.ref a), none] H := by
  have hl : (intL xs).length = xs.length := List.length_map ..
  have va : Ev (tVar 0) [some (.ref a), none] H (.ref a) := ev_var rfl
  refine q_when (b := (!true) || (!(decide ((1 : Int) ≤ ((intL xs).length : Int)) && decide (((intL xs).length : Int) ≤ 12)))) (et_or (et_not (et_B (ev_isi va (fun H1 e => ty_tup (e _ _ h)) (kit_ty (by decide +kernel))))) fun _ => et_not (et_test (ev_chain ev_c (ev_lenT va (st_of h)) ev_c))) (fun hb => ?_) (fun _ H1 e => ?_)
  · rw [hl, decide_eq_true (show (1 : Int) ≤ (xs.length : Int) by omega), decide_eq_true (show (xs.length : Int) ≤ 12 by omega)] at hb
    exact nomatch hb
  · refine s_ret (v := .bl ((xs.map fun _ => true).all id)) (ev_all ?_) (fun H2 e2 => ?_)
    · rw [← ints_tests]
      refine el_mpT (fun _ => V.bl true) (ev_var rfl) (st_of (e _ _ h)) (by rw [hl]; omega) (fun x => rfl) fun x H3 e3 hm => ?_
      obtain ⟨i, _, rfl⟩ := List.mem_map.mp hm
      exact ev_callV (ea_cons (ev_var rfl) ea_nil) fun _ _ => ⟨i, rfl, rfl⟩
    · have : ((xs.map fun _ => true).all id) = true := by simp
      rw [this]
      exact k H2 (e.trans e2)
theorem preA_length (t : Int) (xs : List Int) : (preA t xs).length = xs.length + 1 := by
  induction xs generalizing t with
  | nil => rfl
  | cons x r ih => show (preA (t + x) r).length + 1 = r.length + 1 + 1; rw [ih]
theorem preA_snoc (t : Int) (xs : List Int) (x : Int) : ∃ y, (preA t xs).getLast? = some y ∧ preA t (xs ++ [x]) = preA t xs ++ [y + x] := by
  induction xs generalizing t with
  | nil => exact ⟨t, rfl, rfl⟩
  | cons z r ih =>
    obtain ⟨y, h1, h2⟩ := ih (t + z)
    refine ⟨y, ?_, ?_⟩
    · show (t :: preA (t + z) r).getLast? = some y
      cases e : preA (t + z) r with
      | nil => rw [e] at h1; exact nomatch h1
      | cons w s => rw [e] at h1; rw [List.getLast?_cons_cons]; exact h1
    · show t :: preA (t + z) (r ++ [x]) = _
      rw [h2]
      rfl
theorem at_last {xs : List V} {y : V} (h : xs.getLast? = some y) : atI xs (-1) = some y := by
  obtain ⟨ys, rfl⟩ := List.getLast?_eq_some_iff.mp h
  exact L2.atI_last ys y
theorem pure_sums {a : Addr} {xs : List Int} {Q : VK} (h : H a = some (.tup (intL xs))) (h1 : 1 ≤ xs.length) (h2 : xs.length ≤ 12) (k : ∀ p H1, Ex H H1 → H1 p = some (.tup (intL (pre xs))) → Q (.ref p) H1) : t_sums_0 K C (ends Q) [some (.ref a), none, none] H := by
  have hl : (intL xs).length = xs.length := List.length_map ..
  refine q_when (b := !true) (et_not (et_B (ev_callV (ea_cons (ev_var rfl) ea_nil) fun H1 e => ⟨a, xs, rfl, e _ _ h, h1, h2, rfl⟩))) (fun hb => nomatch hb) (fun _ H1 e => ?_)
  refine q_asgL (el_lst (ea_cons ev_c ea_nil) (by decide)) (fun p H2 hp e2 h2' => ?_)
  have ep : H p = none := fresh_back e hp
  refine q_forT (a := a) (xs := intL xs) (ev_var rfl) (st_of (e2 _ _ (e _ _ h))) (fun i σ' H' => ∃ v, σ' = [some (.ref a), some (.ref p), v] ∧ Ex H H' ∧ H' p = some (.lst (intL (pre (xs.take i))))) (fun H3 e3 => ⟨none, rfl, (e.trans e2).trans e3, e3 _ _ h2'⟩)
    (fun i σ' H' _ ⟨v, _, ex, _⟩ => st_of (ex _ _ h)) (fun i x σ' H' hx ⟨v, es, ex, hq⟩ => ?_) (fun σ' H' ⟨v, es, ex, hq⟩ => ?_)
  · subst es
    have hx2 : (intL xs)[i]? = some x := hx
    rw [List.getElem?_map] at hx2
    obtain ⟨y, hy, rfl⟩ := Option.map_eq_some_iff.mp hx2
    have hi := (List.getElem?_eq_some_iff.mp hy).1
    obtain ⟨z, z1, z2⟩ := preA_snoc 0 (xs.take i) y
    have lz : (intL (pre (xs.take i))).getLast? = some (.int z) := by
      rw [List.getLast?_map, z1]
      rfl
    show tDrop _ _ [some (.ref a), some (.ref p), some (.int y)] H'
    refine s_app (l := p) hq (ev_var rfl) (v := .int (z + y)) (ev_op (ev_op (ev_var rfl) (ev_un ev_c ru_neg) (rv_ixL (sq_of hq) (at_last lz))) (ev_var rfl) rv_I0) ?_ (fun H3 e3 => ?_)
    · have := preA_length 0 (xs.take i)
      rw [List.length_map, this, List.length_take]
      omega
    · refine ⟨_, rfl, Ex.mut (ex.trans e3) ep, ?_⟩
      rw [upd_same]
      have et : xs.take (i + 1) = xs.take i ++ [y] := take_step hy
      rw [et]
      show _ = some (HO.lst (intL (preA 0 (xs.take i ++ [y]))))
      rw [z2, show intL (preA 0 (xs.take i) ++ [z + y]) = intL (preA 0 (xs.take i)) ++ intL [z + y] from List.map_append ..]
      rfl
  · subst es
    rw [hl, List.take_length] at hq
    refine s_retU (eu_tupleOf (a := p) (ev_var rfl) hq) fun q H3 hqn e3 h3 => k q H3 (ex.trans e3) h3
theorem difs_zip : ∀ xs : List Int, List.zipWith (fun x y : V => match x, y with | .int i, .int j => V.int (j - i) | _, _ => .non) (intL xs) ((intL xs).drop 1) = intL (difs xs)
  | [] => rfl
  | [_] => rfl
  | x :: y :: r => by
    have ih := difs_zip (y :: r)
    show V.int (y - x) :: List.zipWith _ (intL (y :: r)) (intL r) = V.int (y - x) :: intL (difs (y :: r))
    rw [← ih]
    rfl
theorem pure_water_of {a : Addr} {xs : List Int} {Q : VK} (h : H a = some (.lst (intL xs))) (hz : xs.length ≤ 13) (k : ∀ p H1, Ex H H1 → H1 p = some (.tup (intL (difs xs))) → Q (.ref p) H1) : t__water_of_0 K C (ends Q) [some (.ref a), none, none] H := by
  have hl : (intL xs).length = xs.length := List.length_map ..
  refine s_retU (eu_tupleOfN (xs := intL (difs xs)) ?_) fun p H1 _ e h1 => k p H1 e h1
  rw [← difs_zip]
  have cut : cutV (intL xs) (some 1) none = (intL xs).drop 1 := cut1 _
  refine el_zipL _ (fun H0 e R r => ?_) (by rw [hl]; omega) (fun x y => rfl) (fun i x y H1 e hx hy => ?_)
  · refine ⟨_, rfl, ?_⟩
    refine el_sl (ev_var rfl) (eo_some ev_c) eo_none (sq_of h) H0 e _ fun p H1 hp e1 h1 => ?_
    rw [cut] at h1
    exact r a p H1 e1 (sq_of (e1 _ _ (e _ _ h))) (sq_of h1)
  · have hx2 : (xs.map V.int)[i]? = some x := hx
    have hy2 : ((xs.map V.int).drop 1)[i]? = some y := hy
    rw [List.getElem?_map] at hx2
    rw [List.getElem?_drop, List.getElem?_map] at hy2
    obtain ⟨u, _, rfl⟩ := Option.map_eq_some_iff.mp hx2
    obtain ⟨w, _, rfl⟩ := Option.map_eq_some_iff.mp hy2
    exact ev_op (ev_var rfl) (ev_var rfl) rv_I0
end
end Bw
/-! Tables: what stands where, and their own defs. -/
namespace Bw
open PySem PySem.Spec PyProof.Rows L2 Evl
/-- a dict comprehension over a walk: Pv by the turn and the heap, the new dict at D within -/
theorem dt_it {J : It} {n : Nat} {G : Hp → Prop} {Y : Nat → Hp → V → Hp → Prop} (w : Walk J n G Y) {g : TG} {tt : TT} {tk tv : TE} {vs : List Nat} {σ : L2.St} {H1 : Hp} {D : Addr} {R : Hp → Prop} (Pv : Nat → Hp → Prop) (h0 : Pv 0 (upd H1 D (.dT []))) (hG : ∀ i H, i ≤ n → Pv i H → G H)
    (hs : ∀ i x H H', i < n → Pv i H → Y i H x H' → g x (wipe σ vs) H' fun σ2 H2 => wipe σ2 vs = wipe σ vs ∧ tt σ2 H2 fun b H3 => if b = true then tk σ2 H3 fun y H4 => tv σ2 H4 fun z H5 => ∃ H6, DPut H5 D y z H6 ∧ Pv (i + 1) H6 else Pv (i + 1) H3) (hd : ∀ H, Pv n H → R H) :
    ∃ W : Nat → Nat → Hp → Prop, (∃ m, W 0 m (upd H1 D (.dT []))) ∧ ∀ i m H, W i m H →
      (J.stop i H ∧ R H) ∨ (J.go i H ∧ ∃ Nx : Hp → Prop, (∀ H', Nx H' → ∃ m', m' < m ∧ W (i + 1) m' H') ∧ ∀ x H', J.yld i H x H' → g x (wipe σ vs) H' fun σ2 H2 => wipe σ2 vs = wipe σ vs ∧ tt σ2 H2 fun b H3 =>
        if b = true then tk σ2 H3 fun y H4 => tv σ2 H4 fun z H5 => ∃ H6, DPut H5 D y z H6 ∧ Nx H6 else Nx H3) := by
  refine ⟨fun i m H => m = n - i ∧ i ≤ n ∧ Pv i H, ⟨n, rfl, Nat.zero_le _, h0⟩, fun i m H ⟨em, hi, p⟩ => ?_⟩
  subst em
  rcases Nat.lt_or_ge i n with hlt | hge
  · exact Or.inr ⟨w.goes i H hlt (hG i H hi p), Pv (i + 1), fun H' p' => ⟨n - (i + 1), by omega, rfl, hlt, p'⟩, fun x H' y => hs i x H H' hlt p (w.yields i H x H' hlt (hG i H hi p) y)⟩
  · have e : i = n := by omega
    subst e
    exact Or.inl ⟨w.stops H (hG i H hi p), hd H p⟩
/-! ### the tables -/
def ekey (e : Edge) : List Key := pk ((e.1 : Int), (e.2.1 : Int))
def kvE (e : Edge) : List Key × V := (ekey e, .int e.2.2)
def TabAt (C : Addr) (H : Hp) (t n : Nat) (E : List Edge) : Prop := ∃ dx d : Addr, H t = some (.ins C dx [("_size", .int (n : Int)), ("_bounds", .ref d)]) ∧ H d = some (.dT (E.map kvE)) ∧ GoodE (n + 1) E ∧ (E.map ekey).Nodup ∧ 1 ≤ n ∧ n ≤ 12
theorem TabAt.ex {C : Addr} {H H' : Hp} {t n : Nat} {E : List Edge} (h : TabAt C H t n E) (e : Ex H H') : TabAt C H' t n E := by
  obtain ⟨dx, d, h1, h2, r⟩ := h
  exact ⟨dx, d, e _ _ h1, e _ _ h2, r⟩
theorem ekey_inj {a b : Edge} (h : ekey a = ekey b) : a.1 = b.1 ∧ a.2.1 = b.2.1 := by
  have h1 : (Sum.inl (a.1 : Int) : Key) = Sum.inl (b.1 : Int) := (List.cons.inj h).1
  have h2 : (Sum.inl (a.2.1 : Int) : Key) = Sum.inl (b.2.1 : Int) := (List.cons.inj (List.cons.inj h).2).1
  exact ⟨by have := Sum.inl.inj h1; omega, by have := Sum.inl.inj h2; omega⟩
/-- bounds as a matrix -/
def matE (E : List Edge) : Mat := fun a b => if a = b then some 0 else (E.find? fun e => decide (e.1 = a) && decide (e.2.1 = b)).map (·.2.2)
def sp_Table_size (C : Addr) : Sp := spOf fun vs H P => ∃ t n E, vs = [.ref t] ∧ TabAt C H t n E ∧ P = isV (.int (n : Int))
def sp_Table_bounds (C : Addr) : Sp := fun vs H Q _ => ∃ t n E, vs = [.ref t] ∧ TabAt C H t n E ∧ ∀ d H2, H d = none → Ex H H2 → H2 d = some (.dT (E.map kvE)) → Q (.ref d) H2
/-- the own names of a table are no names of the class -/
structure TabF (K : PySem.W.Frag) (C : Addr) : Prop where
  cl : Cls K C
  ns : NoAttr K C "_size"
  nb : NoAttr K C "_bounds"
  ty : ∀ (H : Hp) (a dx : Addr) (fs : List (Str × V)), H a = some (.ins C dx fs) → TyX K H (.ref a) (.ref C)
  kit : PySem.W.kitOne K (.ref C) (.ref C) = some true
def t_Table_size_0 (K : PySem.W.Frag) (C : Addr) : TS := (tRet (tFld K (tVar 0) "_size"))
def t_Table_bounds_0 (K : PySem.W.Frag) (C : Addr) : TS := (tRet (tLockE (tDt (iKeys (tFld K (tVar 0) "_bounds")) (gName 1) tYes (tVar 1) (tDGet (tFld K (tVar 0) "_bounds") (tVar 1)) [1])))
def t_Table_fits_2 (K : PySem.W.Frag) (C : Addr) : TS := (tRet (tLockE (tCB (rAll K) (tCons (tLc (iKeys (tFld K (tVar 0) "_bounds")) (gTup K 2 (gCons (gName 3) (gCons (gName 4) gNil))) tYes (tOp rLeI (tOp rSubI (tOp (rIxT K) (tVar 2) (tVar 3)) (tOp (rIxT K) (tVar 2) (tVar 4))) (tDGet (tFld K (tVar 0) "_bounds") (tTup (tCons (tVar 3) (tCons (tVar 4) tNil))))) [3, 4]) tNil))))
def t_Table_fits_1 (K : PySem.W.Frag) (C : Addr) : TS := tSeq (tIfS (tTest (tOp rNe (tCB (cLen K) (tCons (tVar 1) tNil)) (tFld K (tVar 0) "_size"))) tNever tNext) (t_Table_fits_2 K C)
def t_Table_fits_0 (K : PySem.W.Frag) (C : Addr) : TS := tSeq (tAsg (tCall (sp_sums C) [] E0 (tCons (tVar 1) tNil)) (gName 2)) (t_Table_fits_1 K C)
section
variable {K : PySem.W.Frag} {C : Addr} {σ : L2.St} {H : Hp} {ta tb tc te : TE} {D : Ends} {t n : Nat} {E : List Edge}
theorem lk_size {d : Addr} : List.lookup ("_size" : Str) [(("_size" : Str), V.int (n : Int)), ("_bounds", V.ref d)] = some (.int (n : Int)) := by
  rw [List.lookup_cons]
  have : (("_size" : Str) == ("_size" : Str)) = true := by decide +kernel
  rw [this]
theorem lk_bounds {d : Addr} : List.lookup ("_bounds" : Str) [(("_size" : Str), V.int (n : Int)), ("_bounds", V.ref d)] = some (.ref d) := by
  rw [List.lookup_cons, List.lookup_cons]
  have h1 : (("_bounds" : Str) == ("_size" : Str)) = false := by decide +kernel
  have h2 : (("_bounds" : Str) == ("_bounds" : Str)) = true := by decide +kernel
  rw [h1, h2]
theorem ev_size (F : TabF K C) {dx d : Addr} (h : Ev te σ H (.ref t)) (ht : H t = some (.ins C dx [("_size", .int (n : Int)), ("_bounds", .ref d)])) : Ev (tFld K te "_size") σ H (.int (n : Int)) := fun H1 e Q q => h H1 e _ fun H2 e2 =>
  ⟨t, C, dx, _, _, rfl, (e.trans e2) _ _ ht, F.cl, F.ns, lk_size, q H2 e2⟩
theorem ev_bounds (F : TabF K C) {dx d : Addr} (h : Ev te σ H (.ref t)) (ht : H t = some (.ins C dx [("_size", .int (n : Int)), ("_bounds", .ref d)])) : Ev (tFld K te "_bounds") σ H (.ref d) := fun H1 e Q q => h H1 e _ fun H2 e2 =>
  ⟨t, C, dx, _, _, rfl, (e.trans e2) _ _ ht, F.cl, F.nb, lk_bounds, q H2 e2⟩
theorem pure_size (F : TabF K C) {Q : VK} (h : TabAt C H t n E) (k : ∀ H1, Ex H H1 → Q (.int (n : Int)) H1) : t_Table_size_0 K C (ends Q) [some (.ref t)] H := by
  obtain ⟨dx, d, h1, h2, r⟩ := h
  exact s_ret (ev_size F (ev_var rfl) h1) k
/-- behind a lock -/
theorem ex_unlock {H' : Hp} {d : Addr} {u : HO} {od : Obj} (hd : H d = some u) (e : Ex (upd H d (.frz od u)) H') : Ex H (upd H' d u) := fun b o hb => by
  by_cases c : b = d
  · subst c
    rw [upd_same]
    rw [hd] at hb
    exact hb
  · rw [upd_ne c]
    exact e b o (by rw [upd_ne c]; exact hb)
theorem len_take_kv {E : List Edge} {i : Nat} : ((E.take i).map kvE).length ≤ E.length := by
  rw [List.length_map, List.length_take]
  omega
theorem valV_out {kvs : List (List Key × V)} {k : List Key} (h : k ∉ kvs.map (·.1)) : valV kvs k = none := by
  induction kvs with
  | nil => rfl
  | cons p r ih =>
    rw [List.map_cons, List.mem_cons, not_or] at h
    rw [valV_neg (fun z => h.1 z.symm)]
    exact ih h.2
theorem valV_at {kvs : List (List Key × V)} (hn : (kvs.map (·.1)).Nodup) {i : Nat} {k : List Key} {v : V} (h : kvs[i]? = some (k, v)) : valV kvs k = some v := by
  induction kvs generalizing i with
  | nil => exact nomatch h
  | cons p r ih =>
    rw [List.map_cons, List.nodup_cons] at hn
    cases i with
    | zero =>
      rw [List.getElem?_cons_zero] at h
      cases h
      exact valV_pos rfl
    | succ j =>
      rw [List.getElem?_cons_succ] at h
      have hm : k ∈ r.map (·.1) := List.mem_map.mpr ⟨_, List.mem_of_getElem? h, rfl⟩
      rw [valV_neg (fun z => hn.1 (by rw [z]; exact hm))]
      exact ih hn.2 h
theorem put_step {kvs : List (List Key × V)} (hn : (kvs.map (·.1)).Nodup) {i : Nat} {k : List Key} {v : V} (h : kvs[i]? = some (k, v)) : putK (kvs.take i) k v = kvs.take (i + 1) := by
  have hk : k ∉ (kvs.take i).map (·.1) := fun hm => by
    rw [List.map_take] at hm
    obtain ⟨j, hj, ej⟩ := List.mem_iff_getElem.mp hm
    rw [List.length_take, List.length_map] at hj
    have hi := (List.getElem?_eq_some_iff.mp h).1
    rw [List.getElem_take] at ej
    have e2 : (kvs.map (·.1))[i]? = some k := by rw [List.getElem?_map, h]; rfl
    obtain ⟨hi2, e3⟩ := List.getElem?_eq_some_iff.mp e2
    have hji : j < i := by omega
    exact List.pairwise_iff_getElem.mp hn j i (by rw [List.length_map]; omega) hi2 hji (ej.trans e3.symm)
  rw [L2.putK_new v (valV_out hk), take_step h]
theorem keys_kvE (E : List Edge) : (E.map kvE).map (·.1) = E.map ekey := by
  rw [List.map_map]
  rfl
theorem pure_bounds (F : TabF K C) {Q : VK} (h : TabAt C H t n E) (hz : E.length ≤ 40000) (k : ∀ d H2, H d = none → Ex H H2 → H2 d = some (.dT (E.map kvE)) → Q (.ref d) H2) : t_Table_bounds_0 K C (ends Q) [some (.ref t), none] H := by
  obtain ⟨dx, b, h1, h2, hg, hn, _⟩ := h
  have hn2 : ((E.map kvE).map (·.1)).Nodup := by rw [keys_kvE]; exact hn
  refine ⟨b, .dT (E.map kvE), h2, True.intro, fun od => ?_⟩
  have tb : t ≠ b := ne_of h1 h2 (by intro z; cases z)
  obtain ⟨HL, eL⟩ : ∃ HL, HL = upd H b (.frz od (.dT (E.map kvE))) := ⟨_, rfl⟩
  rw [← eL]
  have g1 : HL t = some (.ins C dx [("_size", .int (n : Int)), ("_bounds", .ref b)]) := by rw [eL, upd_ne tb]; exact h1
  have g2 : HL b = some (.frz od (.dT (E.map kvE))) := by rw [eL]; exact upd_same
  have at_b : ∀ (x : Option V) (H3 : Hp), Ex HL H3 → Ev (tFld K (tVar 0) "_bounds") [some (.ref t), x] H3 (.ref b) := fun x H3 e3 => ev_bounds F (ev_var rfl) (e3 _ _ g1)
  unfold tDt iKeys
  refine at_b none HL (Ex.refl _) HL (Ex.refl _) _ fun H1 e1 => ?_
  refine ⟨b, od, rfl, Or.inr ⟨_, e1 _ _ g2, fun Dn hD => ?_⟩⟩
  have kz : (E.map kvE).length = E.length := List.length_map ..
  refine dt_it walk_keysT (fun i H' => Ex H1 H' ∧ H' Dn = some (.dT ((E.map kvE).take i))) ⟨Ex.new hD, upd_same⟩ (fun i H' _ p => p.1 _ _ (e1 _ _ g2)) (fun i x H' H2 hi p y => ?_) (fun H' p => ?_)
  · obtain ⟨rfl, key, v, q, hkv, rfl, hq⟩ := y
    obtain ⟨p1, p2⟩ := p
    refine ⟨rfl, ?_⟩
    unfold tYes
    refine iteT ⟨.ref q, rfl, ?_⟩
    refine at_b _ H2 (e1.trans p1) H2 (Ex.refl _) _ fun H3 e3 => ?_
    refine ⟨.ref q, rfl, b, v, rfl, ?_, _, DPut.t (e3 _ _ p2) (e3 _ _ hq) ?_, Ex.mut (p1.trans e3) hD, ?_⟩
    · exact Or.inr ⟨_, key, q, Or.inr ⟨od, e3 _ _ (p1 _ _ (e1 _ _ g2))⟩, rfl, e3 _ _ hq, (valV_at hn2 hkv).symm⟩
    · rw [List.length_take]
      exact sz_lt (by omega)
    · rw [upd_same, put_step hn2 hkv]
  · obtain ⟨p1, p2⟩ := p
    rw [List.take_length] at p2
    have hDL : HL Dn = none := fresh_back e1 hD
    have nb : Dn ≠ b := fun z => by rw [z, g2] at hDL; exact nomatch hDL
    have hDH : H Dn = none := by
      rw [eL, upd_ne nb] at hDL
      exact hDL
    have e2 : Ex HL H' := e1.trans p1
    rw [eL] at e2
    exact ⟨p1 _ _ (e1 _ _ g2), k Dn _ hDH (ex_unlock h2 e2) (by rw [upd_ne nb]; exact p2)⟩
end
end Bw
/-! Rows of least ways: a row gone through by a point in the middle. -/
namespace Bw
open PySem PySem.Spec PyProof.Rows L2 Evl
abbrev cListOf (K : PySem.W.Frag) : List V → Hp → VK → Prop := fun xs H Q => ∃ p ys, xs = [.ref p] ∧ (SqL K H p ys ∨ SqT K H p ys) ∧ ∀ l, H l = none → Q (.ref l) (upd H l (.lst ys))
def ov : Option Int → V
  | none => .non
  | some x => .int x
def rowV (D : Mat) (N a : Nat) : List V := (List.range N).map fun b => ov (D a b)
theorem rowV_at {D : Mat} {N a b : Nat} (hb : b < N) : (rowV D N a)[b]? = some (ov (D a b)) := by
  unfold rowV
  rw [List.getElem?_map, List.getElem?_range hb]
  rfl
theorem rowV_len {D : Mat} {N a : Nat} : (rowV D N a).length = N := by
  unfold rowV
  rw [List.length_map, List.length_range]
theorem rowV_ext {D E : Mat} {N a : Nat} (h : ∀ b, b < N → D a b = E a b) : rowV D N a = rowV E N a := by
  unfold rowV
  exact List.map_congr_left fun b hb => by rw [h b (List.mem_range.mp hb)]
theorem rowV_set {D E : Mat} {N a i : Nat} {x : Int} (hi : i < N) (h1 : E a i = some x) (h2 : ∀ b, b < N → b ≠ i → E a b = D a b) : (rowV D N a).set i (.int x) = rowV E N a := by
  apply List.ext_getElem?
  intro j
  rw [List.getElem?_set, rowV_len]
  by_cases hj : j < N
  · rw [rowV_at hj, rowV_at hj]
    by_cases e : i = j
    · subst e
      rw [if_pos rfl, if_pos hi, h1]
      rfl
    · rw [if_neg e, h2 j hj (fun z => e z.symm)]
  · rw [List.getElem?_eq_none (by rw [rowV_len]; omega), List.getElem?_eq_none (by rw [rowV_len]; omega)]
    by_cases e : i = j
    · exact absurd (e ▸ hi) hj
    · rw [if_neg e]
/-- the rows at rs (told by the list at p) hold D -/
structure RowsAt (H : Hp) (p : Addr) (rs : List Addr) (D : Mat) (N : Nat) : Prop where
  top : H p = some (.lst (rs.map V.ref))
  len : rs.length = N
  nd : rs.Nodup
  row : ∀ a r, rs[a]? = some r → H r = some (.lst (rowV D N a))
theorem RowsAt.ex {H H' : Hp} {p : Addr} {rs : List Addr} {D : Mat} {N : Nat} (h : RowsAt H p rs D N) (e : Ex H H') : RowsAt H' p rs D N := ⟨e _ _ h.top, h.len, h.nd, fun a r hr => e _ _ (h.row a r hr)⟩
theorem RowsAt.get {H : Hp} {p : Addr} {rs : List Addr} {D : Mat} {N a : Nat} (h : RowsAt H p rs D N) (ha : a < N) : ∃ r, rs[a]? = some r ∧ H r = some (.lst (rowV D N a)) := by
  have : a < rs.length := by rw [h.len]; exact ha
  exact ⟨rs[a], List.getElem?_eq_getElem this, h.row a _ (List.getElem?_eq_getElem this)⟩
/-- the list of the rows is none of them -/
theorem RowsAt.apart {H : Hp} {p : Addr} {rs : List Addr} {D : Mat} {N a : Nat} {r : Addr} (h : RowsAt H p rs D N) (hr : rs[a]? = some r) : p ≠ r := fun z => by
  have ha : a < N := by
    have := (List.getElem?_eq_some_iff.mp hr).1
    rw [h.len] at this
    exact this
  have h1 := h.row a r hr
  rw [← z, h.top] at h1
  have h2 : rs.map V.ref = rowV D N a := HO.lst.inj (Option.some.inj h1)
  have h3 : (rs.map V.ref)[a]? = some (V.ref r) := by rw [List.getElem?_map, hr]; rfl
  rw [h2, rowV_at ha] at h3
  cases e : D a a with
  | none => rw [e] at h3; exact nomatch h3
  | some x => rw [e] at h3; exact nomatch h3
/-- row a gone through by m, its first i numbers -/
def goP (D : Mat) (a m i : Nat) : Mat := fun x y => if x = a ∧ y < i then mn (D x y) (ad (D x m) (D m y)) else D x y
def goR (D : Mat) (a m : Nat) : Mat := fun x y => if x = a then mn (D x y) (ad (D x m) (D m y)) else D x y
def sp__go_through (C : Addr) : Sp := fun vs H Q _ => ∃ (p : Addr) (rs : List Addr) (D : Mat) (N a m : Nat) (st : Int) (r : Addr), vs = [.ref p, .int (a : Int), .int (m : Int)] ∧ RowsAt H p rs D N ∧ a < N ∧ m < N ∧ N ≤ 13 ∧ D a m = some st ∧ rs[a]? = some r ∧
  ∀ H2, (∀ b o, b ≠ r → H b = some o → H2 b = some o) → H2 r = some (.lst (rowV (goR D a m) N a)) → Q .non H2
def t__go_through_1 (K : PySem.W.Frag) (C : Addr) : TS := (tFor (iEnum K (tCons (tCB (cListOf K) (tCons (tOp (rIxL K) (tVar 0) (tVar 2)) tNil)) tNil)) (gTup K 2 (gCons (gName 4) (gCons (gName 5) gNil))) (tIfS (tAnd (tB (tNotN (tVar 5))) (tOr (tB (tIsN (tOp (rIxL K) (tOp (rIxL K) (tVar 0) (tVar 1)) (tVar 4)))) (tTest (tOp rLtI (tOp rAddI (tVar 3) (tVar 5)) (tOp (rIxL K) (tOp (rIxL K) (tVar 0) (tVar 1)) (tVar 4)))))) (tAsg (tOp rAddI (tVar 3) (tVar 5)) (gSub (tOp (rIxL K) (tVar 0) (tVar 1)) (tVar 4) rSetL)) tNext))
def t__go_through_0 (K : PySem.W.Frag) (C : Addr) : TS := tSeq (tAsg (tOp (rIxL K) (tOp (rIxL K) (tVar 0) (tVar 1)) (tVar 2)) (gName 3)) (t__go_through_1 K C)
section
variable {K : PySem.W.Frag} {C : Addr} {σ : L2.St} {H : Hp} {ta tb tc te : TE} {D : Ends}
theorem ev_notN {v : V} (h : Ev te σ H v) : Ev (tNotN te) σ H (.bl (!decide (v = .non))) := fun H1 e Q q => h H1 e _ fun H2 e2 => q H2 e2
theorem ev_isN {v : V} (h : Ev te σ H v) : Ev (tIsN te) σ H (.bl (decide (v = .non))) := fun H1 e Q q => h H1 e _ fun H2 e2 => q H2 e2
/-- least[a][b] -/
theorem ev_at {p : Addr} {rs : List Addr} {M : Mat} {N a b : Nat} {r : Addr} (h0 : Ev ta σ H (.ref p)) (h1 : Ev tb σ H (.int (a : Int))) (h2 : Ev tc σ H (.int (b : Int))) (hp : H p = some (.lst (rs.map V.ref))) (hr : rs[a]? = some r) (hq : H r = some (.lst (rowV M N a))) (hb : b < N) :
    Ev (tOp (rIxL K) (tOp (rIxL K) ta tb) tc) σ H (ov (M a b)) :=
  ev_op (ev_op h0 h1 (rv_ixL (sq_of hp) (atI_nat (by rw [List.getElem?_map, hr]; rfl)))) h2 (rv_ixL (sq_of hq) (atI_nat (rowV_at hb)))
theorem ev_row {p : Addr} {rs : List Addr} {a : Nat} {r : Addr} (h0 : Ev ta σ H (.ref p)) (h1 : Ev tb σ H (.int (a : Int))) (hp : H p = some (.lst (rs.map V.ref))) (hr : rs[a]? = some r) : Ev (tOp (rIxL K) ta tb) σ H (.ref r) :=
  ev_op h0 h1 (rv_ixL (sq_of hp) (atI_nat (by rw [List.getElem?_map, hr]; rfl)))
theorem el_listOf {xs : List V} {a : Addr} (h : Ev te σ H (.ref a)) (hx : H a = some (.lst xs)) : EvL (tCB (cListOf K) (tCons te tNil)) σ H xs := fun H1 e Q q => h H1 e _ fun H2 e2 =>
  ⟨a, xs, rfl, Or.inl (sq_of ((e.trans e2) _ _ hx)), fun l hl => q l _ (fresh_back e2 hl) (e2.trans (Ex.new hl)) upd_same⟩
theorem goP_step {M : Mat} {a m i : Nat} {st : Int} (hs : M a m = some st) : ∀ b, goP M a m (i + 1) a b = if b = i then mn (M a i) (ad (some st) (M m i)) else goP M a m i a b := fun b => by
  unfold goP
  by_cases e : b = i
  · subst e
    rw [if_pos rfl, if_pos ⟨rfl, Nat.lt_succ_self _⟩, hs]
  · rw [if_neg e]
    by_cases c : b < i
    · rw [if_pos ⟨rfl, by omega⟩, if_pos ⟨rfl, c⟩]
    · rw [if_neg (fun z => by omega), if_neg (fun z => c z.2)]
theorem goP_self {M : Mat} {a m i : Nat} : goP M a m i a i = M a i := by
  unfold goP
  rw [if_neg (fun z => Nat.lt_irrefl _ z.2)]
theorem pure_go_through {p : Addr} {rs : List Addr} {M : Mat} {N a m : Nat} {st : Int} {r : Addr} {Q : VK} (R : RowsAt H p rs M N) (ha : a < N) (hm : m < N) (hN : N ≤ 13) (hs : M a m = some st) (hr : rs[a]? = some r)
    (k : ∀ H2, (∀ b o, b ≠ r → H b = some o → H2 b = some o) → H2 r = some (.lst (rowV (goR M a m) N a)) → Q .non H2) : t__go_through_0 K C (ends Q) [some (.ref p), some (.int (a : Int)), some (.int (m : Int)), none, none, none] H := by
  obtain ⟨rm, hrm, hqm⟩ := R.get hm
  have hqr := R.row a r hr
  have npr := R.apart hr
  have h0 := ev_at (K := K) (ta := tVar 0) (tb := tVar 1) (tc := tVar 2) (σ := [some (.ref p), some (.int (a : Int)), some (.int (m : Int)), none, none, none]) (H := H) (ev_var rfl) (ev_var rfl) (ev_var rfl) R.top hr hqr hm
  rw [hs] at h0
  refine q_asg (v := .int st) h0 fun H1 e1 => ?_
  refine el_listOf (ev_row (ev_var rfl) (ev_var rfl) (e1 _ _ R.top) hrm) (e1 _ _ hqm) H1 (Ex.refl _) _ fun L H2 hL e2 h2 => ?_
  have hLH : H L = none := fresh_back e1 hL
  have e12 : Ex H H2 := e1.trans e2
  refine ⟨L, _, rfl, sq_of h2, ?_⟩
  have ln : (rowV M N m).length = N := rowV_len
  refine for_it (walk_enum (K := K) (a := L) (xs := rowV M N m)) (fun i σ' H' => ∃ v4 v5, σ' = [some (.ref p), some (.int (a : Int)), some (.int (m : Int)), some (.int st), v4, v5] ∧ (∀ b o, b ≠ r → H2 b = some o → H' b = some o) ∧ H' r = some (.lst (rowV (goP M a m i) N a)))
    ⟨none, none, rfl, fun b o _ h => h, ?_⟩ (fun i σ' H' _ ⟨v4, v5, _, hk, _⟩ => sq_of (hk L _ (fun z => by rw [z, hqr] at hLH; exact nomatch hLH) h2)) (fun i x σ' H' H3 hi ⟨v4, v5, es, hk, hq⟩ y => ?_) (fun σ' H' ⟨v4, v5, es, hk, hq⟩ => ?_)
  · rw [e12 _ _ hqr, rowV_ext (D := M) (E := goP M a m 0) fun b _ => by unfold goP; rw [if_neg (fun z => Nat.not_lt_zero _ z.2)]]
  · subst es
    rw [ln] at hi
    obtain ⟨T, u, w, rfl, hT, rfl, hu, hw⟩ := y
    cases hu
    have hw2 : (rowV M N m)[i]? = some w := hw
    rw [rowV_at hi] at hw2
    cases hw2
    have eT : Ex H' (upd H' T (.tup [.int (i : Nat), ov (M m i)])) := Ex.new hT
    refine ⟨T, _, rfl, st_of upd_same, rfl, _, _, rfl, _, _, rfl, rfl, ?_⟩
    obtain ⟨H3, e3⟩ : ∃ H3, H3 = upd H' T (.tup [.int (i : Nat), ov (M m i)]) := ⟨_, rfl⟩
    rw [← e3] at eT ⊢
    have hk3 : ∀ b o, b ≠ r → H2 b = some o → H3 b = some o := fun b o hb h => eT _ _ (hk b o hb h)
    have hq3 : H3 r = some (.lst (rowV (goP M a m i) N a)) := eT _ _ hq
    have hp3 : H3 p = some (.lst (rs.map V.ref)) := hk3 p _ npr (e12 _ _ R.top)
    show tIfS _ _ _ _ [some (.ref p), some (.int (a : Int)), some (.int (m : Int)), some (.int st), some (.int (i : Nat)), some (ov (M m i))] H3
    have at_i : Ev (tOp (rIxL K) (tOp (rIxL K) (tVar 0) (tVar 1)) (tVar 4)) [some (.ref p), some (.int (a : Int)), some (.int (m : Int)), some (.int st), some (.int (i : Nat)), some (ov (M m i))] H3 (ov (M a i)) := by
      have := ev_at (K := K) (ta := tVar 0) (tb := tVar 1) (tc := tVar 4) (σ := [some (.ref p), some (.int (a : Int)), some (.int (m : Int)), some (.int st), some (.int (i : Nat)), some (ov (M m i))]) (H := H3) (ev_var rfl) (ev_var rfl) (ev_var rfl) hp3 hr hq3 hi
      rw [goP_self] at this
      exact this
    -- nothing to do
    have stay : mn (M a i) (ad (some st) (M m i)) = M a i → ∀ H4, Ex H3 H4 → ∃ v4 v5, [some (V.ref p), some (.int (a : Int)), some (.int (m : Int)), some (.int st), some (.int (i : Nat)), some (ov (M m i))] = [some (.ref p), some (.int (a : Int)), some (.int (m : Int)), some (.int st), v4, v5] ∧ (∀ b o, b ≠ r → H2 b = some o → H4 b = some o) ∧ H4 r = some (.lst (rowV (goP M a m (i + 1)) N a)) := fun hm2 H4 e4 => by
      refine ⟨_, _, rfl, fun b o hb h => e4 _ _ (hk3 b o hb h), ?_⟩
      rw [e4 _ _ hq3, rowV_ext (D := goP M a m i) (E := goP M a m (i + 1)) fun b _ => ?_]
      rw [goP_step hs]
      by_cases c : b = i
      · rw [if_pos c, hm2, c, goP_self]
      · rw [if_neg c]
    cases ef : M m i with
    | none =>
      have er : mn (M a i) (ad (some st) (M m i)) = M a i := by
        rw [ef]
        cases M a i <;> rfl
      have at5 : Ev (tVar 5) [some (.ref p), some (.int (a : Int)), some (.int (m : Int)), some (.int st), some (.int (i : Nat)), some (ov (M m i))] H3 .non := by
        rw [ef]
        exact ev_var rfl
      rw [← ef]
      exact s_when (b := false && false) (et_and (a := false) (b := false) (et_B (ev_notN at5)) fun z => nomatch z) (fun z => nomatch z) fun _ H4 e4 => stay er H4 e4
    | some f =>
      have at5 : Ev (tVar 5) [some (.ref p), some (.int (a : Int)), some (.int (m : Int)), some (.int st), some (.int (i : Nat)), some (ov (M m i))] H3 (.int f) := by
        rw [ef]
        exact ev_var rfl
      have sum : Ev (tOp rAddI (tVar 3) (tVar 5)) [some (.ref p), some (.int (a : Int)), some (.int (m : Int)), some (.int st), some (.int (i : Nat)), some (ov (M m i))] H3 (.int (st + f)) := ev_op (ev_var rfl) at5 rv_I0
      rw [← ef]
      have put : mn (M a i) (ad (some st) (M m i)) = some (st + f) → ∀ H4, Ex H3 H4 → tAsg (tOp rAddI (tVar 3) (tVar 5)) (gSub (tOp (rIxL K) (tVar 0) (tVar 1)) (tVar 4) rSetL) { ends Q with nx := fun σ' H' => ∃ v4 v5, σ' = [some (V.ref p), some (.int (a : Int)), some (.int (m : Int)), some (.int st), v4, v5] ∧ (∀ b o, b ≠ r → H2 b = some o → H' b = some o) ∧ H' r = some (.lst (rowV (goP M a m (i + 1)) N a)), ct := fun σ' H' => ∃ v4 v5, σ' = [some (V.ref p), some (.int (a : Int)), some (.int (m : Int)), some (.int st), v4, v5] ∧ (∀ b o, b ≠ r → H2 b = some o → H' b = some o) ∧ H' r = some (.lst (rowV (goP M a m (i + 1)) N a)), bk := (ends Q).nx } [some (.ref p), some (.int (a : Int)), some (.int (m : Int)), some (.int st), some (.int (i : Nat)), some (ov (M m i))] H4 := fun he H4 e4 => by
        refine s_setL (l := r) (xs := rowV (goP M a m i) N a) (j := i) (v := .int (st + f)) (e4 _ _ hq3) (sum.mono e4) (ev_row (ev_var rfl) (ev_var rfl) (e4 _ _ hp3) hr) (ev_var rfl) (by rw [rowV_len]; exact hi) fun H5 e5 => ?_
        refine ⟨_, _, rfl, fun b o hb h => by rw [upd_ne hb]; exact e5 _ _ (e4 _ _ (hk3 b o hb h)), ?_⟩
        rw [upd_same]
        refine congrArg (fun l => some (HO.lst l)) (rowV_set hi ?_ fun b hb hne => ?_)
        · rw [goP_step hs, if_pos rfl, he]
        · rw [goP_step hs, if_neg hne]
      cases ec : M a i with
      | none =>
        rw [ec] at at_i
        have he : mn (M a i) (ad (some st) (M m i)) = some (st + f) := by rw [ec, ef]; rfl
        exact s_when (b := true && (true || true)) (et_and (a := true) (b := true || true) (et_B (ev_notN at5)) fun _ => et_or (a := true) (et_B (ev_isN at_i)) fun z => nomatch z) (fun _ H4 e4 => put he H4 e4) fun z => nomatch z
      | some c =>
        rw [ec] at at_i
        have tst : EvT (tAnd (tB (tNotN (tVar 5))) (tOr (tB (tIsN (tOp (rIxL K) (tOp (rIxL K) (tVar 0) (tVar 1)) (tVar 4)))) (tTest (tOp rLtI (tOp rAddI (tVar 3) (tVar 5)) (tOp (rIxL K) (tOp (rIxL K) (tVar 0) (tVar 1)) (tVar 4)))))) [some (.ref p), some (.int (a : Int)), some (.int (m : Int)), some (.int st), some (.int (i : Nat)), some (ov (M m i))] H3 (true && (false || decide (st + f < c))) :=
          et_and (a := true) (et_B (ev_notN at5)) fun _ => et_or (a := false) (et_B (ev_isN at_i)) fun _ => et_test (ev_op sum at_i rv_I0)
        rw [Bool.true_and, Bool.false_or] at tst
        refine s_when tst (fun hb H4 e4 => put ?_ H4 e4) fun hb H4 e4 => stay ?_ H4 e4
        · rw [ec, ef]
          show some (if st + f < c then st + f else c) = _
          rw [if_pos (of_decide_eq_true hb)]
        · rw [ec, ef]
          show some (if st + f < c then st + f else c) = _
          rw [if_neg (of_decide_eq_false hb)]
  · subst es
    rw [ln] at hq
    refine k H' (fun b o hb h => hk b o hb (e12 _ _ h)) ?_
    rw [hq]
    refine congrArg (fun l => some (HO.lst l)) (rowV_ext fun b hb => ?_)
    unfold goP goR
    rw [if_pos ⟨rfl, hb⟩, if_pos rfl]
end
end Bw
/-! The least ways of a table. -/
namespace Bw
open PySem PySem.Spec PyProof.Rows L2 Evl
def lookE (E : List Edge) (a b : Nat) : Option Int := (E.find? fun e => decide (e.1 = a) && decide (e.2.1 = b)).map (·.2.2)
def sp__least_ways (C : Addr) : Sp := spOf fun vs H P => ∃ t n E, vs = [.ref t] ∧ TabAt C H t n E ∧ P = fun v H2 => (v = .non ∧ ∀ s, ¬ Fits (n + 1) s (matE E)) ∨
  ∃ p rs D, v = .ref p ∧ RowsAt H2 p rs D (n + 1) ∧ Closed (n + 1) D ∧ (∀ s, Fits (n + 1) s (matE E) ↔ Fits (n + 1) s D) ∧ ∀ a b, a < n + 1 → b < n + 1 → Lo (D a b) (matE E a b)
def t__least_ways_5 (K : PySem.W.Frag) (C : Addr) : TS := (tRet (tVar 3))
def t__least_ways_4 (K : PySem.W.Frag) (C : Addr) : TS := tSeq (tFor (iRng1 (tCons (tVar 1) tNil)) (gName 5) (tSeq (tIfS (tTest (tOp rLtI (tOp (rIxL K) (tOp (rIxL K) (tVar 3) (tVar 5)) (tVar 5)) (tC (.int 0)))) (tRet (tC .non)) tNext) (tFor (iRng1 (tCons (tVar 1) tNil)) (gName 4) (tIfS (tB (tNotN (tOp (rIxL K) (tOp (rIxL K) (tVar 3) (tVar 4)) (tVar 5)))) (tDrop (tCall (sp__go_through C) [] E0 (tCons (tVar 3) (tCons (tVar 4) (tCons (tVar 5) tNil))))) tNext)))) (t__least_ways_5 K C)
def t__least_ways_3 (K : PySem.W.Frag) (C : Addr) : TS := tSeq (tFor (iRng1 (tCons (tVar 1) tNil)) (gName 4) (tAsg (tC (.int 0)) (gSub (tOp (rIxL K) (tVar 3) (tVar 4)) (tVar 4) rSetL))) (t__least_ways_4 K C)
def t__least_ways_2 (K : PySem.W.Frag) (C : Addr) : TS := tSeq (tAsg (tLc (iRng1 (tCons (tVar 1) tNil)) (gName 6) tYes (tLc (iRng1 (tCons (tVar 1) tNil)) (gName 7) tYes (tDGet1 (tVar 2) (tTup (tCons (tVar 6) (tCons (tVar 7) tNil)))) [7]) [6]) (gName 3)) (t__least_ways_3 K C)
def t__least_ways_1 (K : PySem.W.Frag) (C : Addr) : TS := tSeq (tAsg (tProp C (sp_Table_bounds C) [] E0 (tVar 0)) (gName 2)) (t__least_ways_2 K C)
def t__least_ways_0 (K : PySem.W.Frag) (C : Addr) : TS := tSeq (tAsg (tOp rAddI (tProp C (sp_Table_size C) [] E0 (tVar 0)) (tC (.int 1))) (gName 1)) (t__least_ways_1 K C)
section
variable {K : PySem.W.Frag} {C : Addr} {σ : L2.St} {H : Hp} {ta tb tc te : TE} {D : Ends} {t n : Nat} {E : List Edge}
theorem ev_propSize (h : Ev te σ H (.ref t)) (T : TabAt C H t n E) : Ev (tProp C (sp_Table_size C) [] E0 te) σ H (.int (n : Int)) := fun H1 e Q q => h H1 e _ fun H2 e2 => by
  have T2 := T.ex (e.trans e2)
  obtain ⟨dx, d, h1, _⟩ := id T2
  exact ⟨t, dx, _, rfl, h1, isV (.int (n : Int)), ⟨t, n, E, rfl, T2, rfl⟩, fun v H3 e3 hv => by
    rw [show v = .int (n : Int) from hv]
    exact q H3 (e2.trans e3)⟩
theorem q_bounds {i : Nat} {tz : TS} (h : Ev te σ H (.ref t)) (T : TabAt C H t n E) (k : ∀ d H1, H d = none → Ex H H1 → H1 d = some (.dT (E.map kvE)) → tz D (σ.set i (some (.ref d))) H1) : tSeq (tAsg (tProp C (sp_Table_bounds C) [] E0 te) (gName i)) tz D σ H := by
  refine h H (Ex.refl H) _ fun H2 e2 => ?_
  have T2 := T.ex e2
  obtain ⟨dx, d, h1, _⟩ := id T2
  exact ⟨t, dx, _, rfl, h1, t, n, E, rfl, T2, fun d' H3 hd e3 h3 => k d' H3 (fresh_back e2 hd) (e2.trans e3) h3⟩
theorem val_look {a b : Nat} : valV (E.map kvE) (pk ((a : Int), (b : Int))) = (lookE E a b).map V.int := by
  induction E with
  | nil => rfl
  | cons e r ih =>
    rw [List.map_cons]
    by_cases c : e.1 = a ∧ e.2.1 = b
    · rw [valV_pos (show (kvE e).1 = pk ((a : Int), (b : Int)) by rw [← c.1, ← c.2]; rfl)]
      unfold lookE
      rw [List.find?_cons_of_pos (by simp [c.1, c.2])]
      rfl
    · rw [valV_neg (fun z => c (by
        have h1 : (Sum.inl (e.1 : Int) : Key) = Sum.inl (a : Int) := (List.cons.inj z).1
        have h2 : (Sum.inl (e.2.1 : Int) : Key) = Sum.inl (b : Int) := (List.cons.inj (List.cons.inj z).2).1
        have h1 := Sum.inl.inj h1
        have h2 := Sum.inl.inj h2
        exact ⟨by omega, by omega⟩)), ih]
      unfold lookE
      rw [List.find?_cons_of_neg (by
        intro z
        rw [Bool.and_eq_true, decide_eq_true_eq, decide_eq_true_eq] at z
        exact c z)]
theorem ov_get (o : Option Int) : (o.map V.int).getD .non = ov o := by cases o <;> rfl
/-- bounds.get((a, b)) -/
theorem ev_get {d : Addr} {a b : Nat} (h0 : Ev ta σ H (.ref d)) (h1 : Ev tb σ H (.int (a : Int))) (h2 : Ev tc σ H (.int (b : Int))) (hd : H d = some (.dT (E.map kvE))) : Ev (tDGet1 ta (tTup (tCons tb (tCons tc tNil)))) σ H (ov (lookE E a b)) := fun H1 e Q q =>
  h0 H1 e _ fun H2 e2 => ⟨d, rfl, Or.inr ⟨_, Or.inl ((e.trans e2) _ _ hd)⟩, eu_tup (ea_cons h1 (ea_cons h2 ea_nil)) (show 2 ≤ 100000 by decide) H2 (e.trans e2) _ fun p H3 hp e3 h3 => ⟨_, DGet.t (k := pk ((a : Int), (b : Int))) (((e.trans e2).trans e3) _ _ hd) h3, by
    rw [val_look, ov_get]
    exact q H3 (e2.trans e3)⟩⟩
/-- a list of new lists -/
theorem rows_made {ta : TA} {j : Nat} {vs : List Nat} {N : Nat} {row : Nat → List V} (h : EvA ta σ H [.int (N : Int)]) (hN : N ≤ 30000) (hw : ∀ x, wipe ((wipe σ vs).set j (some x)) vs = wipe σ vs)
    (he : ∀ (a : Nat) H1, Ex H H1 → a < N → EvL te ((wipe σ vs).set j (some (.int (a : Int)))) H1 (row a)) {Q : VK}
    (q : ∀ (p : Addr) (rs : List Addr) (H2 : Hp), Ex H H2 → H p = none → H2 p = some (.lst (rs.map V.ref)) → rs.length = N → rs.Nodup → (∀ r ∈ rs, H r = none) → (∀ a r, rs[a]? = some r → H2 r = some (.lst (row a))) → Q (.ref p) H2) : tLc (iRng1 ta) (gName j) tYes te vs σ H Q := by
  refine h H (Ex.refl H) _ fun H1 e1 => ⟨(N : Int), rfl, by omega, by omega, fun Dl hD => ?_⟩
  refine lc_it (walk_range (lo := 0) (n := (N : Int).toNat)) (fun i H' => Ex H1 H' ∧ ∃ rs : List Addr, H' Dl = some (.lst (rs.map V.ref)) ∧ rs.length = i ∧ rs.Nodup ∧ (∀ r ∈ rs, H1 r = none ∧ r ≠ Dl) ∧ ∀ a r, rs[a]? = some r → H' r = some (.lst (row a)))
    ⟨Ex.new hD, [], upd_same, rfl, List.nodup_nil, fun r hr => (nomatch hr), fun a r hr => by cases hr⟩ (fun _ _ _ _ => True.intro) (fun i x H' H2 hi ⟨ex, rs, r1, r2, r3, r4, r5⟩ y => ?_) (fun H' ⟨ex, rs, r1, r2, r3, r4, r5⟩ => ?_)
  · obtain ⟨rfl, rfl⟩ := y
    have hiN : i < N := by omega
    refine ⟨hw _, ?_⟩
    unfold tYes
    refine iteT ?_
    show te ((wipe σ vs).set j (some (.int ((0 : Int) + (i : Int))))) H2 _
    rw [show (0 : Int) + (i : Int) = (i : Int) from Int.zero_add _]
    refine he i H2 (e1.trans ex) hiN H2 (Ex.refl _) _ fun p H3 hp e3 h3 => ?_
    have npD : p ≠ Dl := fun z => by rw [z, r1] at hp; exact nomatch hp
    have npr : p ∉ rs := fun hm => by
      obtain ⟨a, ha, er⟩ := List.mem_iff_getElem.mp hm
      have := r5 a p (by rw [List.getElem?_eq_getElem ha, er])
      rw [this] at hp
      exact nomatch hp
    have hp1 : H1 p = none := fresh_back ex hp
    refine ⟨_, e3 _ _ r1, by rw [List.length_map, r2]; exact sz_lt (by omega), Ex.mut (ex.trans e3) hD, rs ++ [p], ?_, by rw [List.length_append, r2]; rfl, ?_, fun r hr => ?_, fun a r hr => ?_⟩
    · rw [upd_same, List.map_append]
      rfl
    · rw [List.nodup_append]
      refine ⟨r3, by simp, fun x hx y hy => ?_⟩
      rw [List.mem_singleton.mp hy]
      exact fun z => npr (z ▸ hx)
    · rcases List.mem_append.mp hr with hr | hr
      · exact r4 r hr
      · rw [List.mem_singleton.mp hr]
        exact ⟨hp1, npD⟩
    · rcases Nat.lt_or_ge a rs.length with ha | ha
      · rw [List.getElem?_append_left ha] at hr
        rw [upd_ne (r4 r (List.mem_of_getElem? hr)).2]
        exact e3 _ _ (r5 a r hr)
      · rw [List.getElem?_append_right ha] at hr
        have ea : a - rs.length = 0 := by
          have := (List.getElem?_eq_some_iff.mp hr).1
          simp at this
          omega
        rw [ea] at hr
        cases hr
        have : a = i := by omega
        rw [upd_ne npD, this]
        exact h3
  · refine q Dl rs H' (e1.trans ex) (fresh_back e1 hD) r1 (by rw [r2]; omega) r3 (fun r hr => fresh_back e1 (r4 r hr).1) r5
/-- the rows are new since H -/
structure LW (H : Hp) (p : Addr) (rs : List Addr) (M : Mat) (N : Nat) (H' : Hp) : Prop where
  ex : Ex H H'
  rows : RowsAt H' p rs M N
  new : ∀ r ∈ rs, H r = none
theorem LW.go {H' H2 : Hp} {p : Addr} {rs : List Addr} {M : Mat} {N : Nat} (w : LW H p rs M N H') (e : Ex H' H2) : LW H p rs M N H2 := ⟨w.ex.trans e, w.rows.ex e, w.new⟩
/-- one row otherwise -/
theorem LW.put {H' H2 : Hp} {p : Addr} {rs : List Addr} {M M' : Mat} {N a : Nat} {r : Addr} (w : LW H p rs M N H') (hr : rs[a]? = some r) (k : ∀ b o, b ≠ r → H' b = some o → H2 b = some o) (h : H2 r = some (.lst (rowV M' N a))) (hM : ∀ x y, x ≠ a → x < N → y < N → M' x y = M x y) : LW H p rs M' N H2 := by
  have hm : r ∈ rs := List.mem_of_getElem? hr
  refine ⟨fun b o hb => k b o (fun z => ?_) (w.ex b o hb), ⟨k _ _ (w.rows.apart hr) w.rows.top, w.rows.len, w.rows.nd, fun x q hq => ?_⟩, w.new⟩
  · rw [z, w.new r hm] at hb
    exact nomatch hb
  · have hx : x < N := by
      have := (List.getElem?_eq_some_iff.mp hq).1
      rw [w.rows.len] at this
      exact this
    by_cases c : x = a
    · rw [c] at hq
      rw [hr] at hq
      cases hq
      rw [c]
      exact h
    · have nq : q ≠ r := fun z => by
        obtain ⟨i1, g1⟩ := List.getElem?_eq_some_iff.mp hq
        obtain ⟨i2, g2⟩ := List.getElem?_eq_some_iff.mp hr
        have := List.pairwise_iff_getElem.mp w.rows.nd
        rcases Nat.lt_or_gt_of_ne c with l | l
        · exact this x a i1 i2 l (by rw [g1, g2, z])
        · exact this a x i2 i1 l (by rw [g1, g2, z])
      rw [k _ _ nq (w.rows.row x q hq), rowV_ext fun b hb => (hM x b c hx hb)]
theorem LW.mat {H' : Hp} {p : Addr} {rs : List Addr} {M M' : Mat} {N : Nat} (w : LW H p rs M N H') (h : ∀ x y, x < N → y < N → M' x y = M x y) : LW H p rs M' N H' := by
  refine ⟨w.ex, ⟨w.rows.top, w.rows.len, w.rows.nd, fun x q hq => ?_⟩, w.new⟩
  have hx : x < N := by
    have := (List.getElem?_eq_some_iff.mp hq).1
    rw [w.rows.len] at this
    exact this
  rw [w.rows.row x q hq, rowV_ext fun b hb => (h x b hx hb)]
theorem given_all {N : Nat} {v : Nat → V} : given N (fun _ => true) v = (List.range N).map v := by
  unfold given
  rw [List.filter_eq_self.mpr (fun _ _ => rfl)]
def diag (E : List Edge) (i : Nat) : Mat := fun x y => if x = y ∧ x < i then some 0 else lookE E x y
def part (M : Mat) (m a : Nat) : Mat := fun x y => if x < a then fwS m M x y else M x y
abbrev sLW (t N d p : V) (v4 v5 : Option V) : L2.St := [some t, some N, some d, some p, v4, v5, none, none]
theorem pure_least_ways {Q : VK} (T : TabAt C H t n E)
    (k : ∀ v H2, Ex H H2 → ((v = .non ∧ ∀ s, ¬ Fits (n + 1) s (matE E)) ∨ ∃ p rs D, v = .ref p ∧ RowsAt H2 p rs D (n + 1) ∧ Closed (n + 1) D ∧ (∀ s, Fits (n + 1) s (matE E) ↔ Fits (n + 1) s D) ∧ ∀ a b, a < n + 1 → b < n + 1 → Lo (D a b) (matE E a b)) → Q v H2) :
    t__least_ways_0 K C (ends Q) [some (.ref t), none, none, none, none, none, none, none] H := by
  obtain ⟨N, eN⟩ : ∃ N, N = n + 1 := ⟨_, rfl⟩
  have hn : n ≤ 12 := by obtain ⟨_, _, _, _, _, _, _, h⟩ := id T; exact h
  rw [← eN] at k
  have hN : N ≤ 13 := by omega
  refine q_asg (v := .int (N : Int)) (ev_is (ev_op (ev_propSize (ev_var rfl) T) ev_c rv_I0) (by rw [eN]; rfl)) fun H1 e1 => ?_
  refine q_bounds (ev_var rfl) (T.ex e1) fun d H2 hd e2 h2 => ?_
  unfold t__least_ways_2 tSeq tAsg
  refine rows_made (σ := [some (.ref t), some (.int (N : Int)), some (.ref d), none, none, none, none, none]) (ta := tCons (tVar 1) tNil) (j := 6) (vs := [6]) (N := N) (row := fun a => rowV (lookE E) N a) (ea_cons (ev_var rfl) ea_nil) (by omega) (fun x => rfl) (fun a H3 e3 ha => ?_) (fun p rs H3 e3 hp htop hlen hnd hnew hrow => ?_)
  · have := el_lcR1 (σ := (wipe [some (V.ref t), some (.int (N : Int)), some (.ref d), none, none, none, none, none] [6]).set 6 (some (.int (a : Int)))) (H := H3) (ta := tCons (tVar 1) tNil) (te := tDGet1 (tVar 2) (tTup (tCons (tVar 6) (tCons (tVar 7) tNil)))) (t := tYes) (j := 7) (vs := [7]) (n := (N : Int)) (fun _ => true) (fun b => ov (lookE E a b))
      (ea_cons (ev_var rfl) ea_nil) (by omega) (fun x => rfl) (fun b H4 e4 hb => et_yes) (fun b H4 e4 hb _ => ev_get (ev_var rfl) (ev_var rfl) (ev_var rfl) (e4 _ _ (e3 _ _ h2)))
    rw [given_all, Int.toNat_natCast] at this
    exact this
  show t__least_ways_3 K C (ends Q) [some (.ref t), some (.int (N : Int)), some (.ref d), some (.ref p), none, none, none, none] H3
  have w0 : LW H p rs (lookE E) N H3 := ⟨e1.trans (e2.trans e3), ⟨htop, hlen, hnd, hrow⟩, fun r hr => fresh_back (e1.trans e2) (hnew r hr)⟩
  refine q_forR1 (n := (N : Int)) (ea_cons (ev_var rfl) ea_nil) (by omega) (fun i σ' H' => ∃ v4, σ' = sLW (.ref t) (.int (N : Int)) (.ref d) (.ref p) v4 none ∧ LW H p rs (diag E i) N H') (fun H4 e4 => ⟨none, rfl, (w0.go e4).mat fun x y _ _ => ?_⟩) (fun i σ' H' hi ⟨v4, es, w⟩ => ?_) (fun σ' H' ⟨v4, es, w⟩ => ?_)
  · unfold diag
    rw [if_neg (fun z => Nat.not_lt_zero _ z.2)]
  · subst es
    have hiN : i < N := by omega
    obtain ⟨r, hr, hq⟩ := w.rows.get hiN
    show tAsg _ _ _ (sLW (.ref t) (.int (N : Int)) (.ref d) (.ref p) (some (.int (i : Int))) none) H'
    refine s_setL (l := r) (xs := rowV (diag E i) N i) (j := i) (v := .int 0) hq ev_c (ev_row (ev_var rfl) (ev_var rfl) w.rows.top hr) (ev_var rfl) (by rw [rowV_len]; exact hiN) fun H5 e5 => ?_
    refine ⟨_, rfl, (w.go e5).put hr (fun b o hb h => by rw [upd_ne hb]; exact h) ?_ (fun x y hx _ _ => ?_)⟩
    · rw [upd_same]
      refine congrArg (fun l => some (HO.lst l)) (rowV_set hiN ?_ fun b _ hb => ?_)
      · unfold diag
        rw [if_pos ⟨rfl, Nat.lt_succ_self i⟩]
      · unfold diag
        rw [if_neg (fun z => hb z.1.symm), if_neg (fun z => hb z.1.symm)]
    · unfold diag
      by_cases c : x = y
      · by_cases l : x < i
        · rw [if_pos ⟨c, by omega⟩, if_pos ⟨c, l⟩]
        · rw [if_neg (fun z => by omega), if_neg (fun z => l z.2)]
      · rw [if_neg (fun z => c z.1), if_neg (fun z => c z.1)]
  subst es
  rw [Int.toNat_natCast] at w
  have w1 : LW H p rs (matE E) N H' := w.mat fun x y hx _ => by
    unfold matE diag
    by_cases c : x = y
    · rw [if_pos c, if_pos ⟨c, hx⟩]
    · rw [if_neg c, if_neg (fun z => c z.1)]
      rfl
  refine q_forR1 (n := (N : Int)) (ea_cons (ev_var rfl) ea_nil) (by omega) (fun m σ' H' => ∃ v4 v5 M, σ' = sLW (.ref t) (.int (N : Int)) (.ref d) (.ref p) v4 v5 ∧ LW H p rs M N H' ∧ Fwi N (matE E) m M)
    (fun H4 e4 => ⟨_, _, _, rfl, w1.go e4, fwi_start fun a _ => by unfold matE; rw [if_pos rfl]⟩) (fun m σ' H' hm ⟨v4, v5, M, es, w, I⟩ => ?_) (fun σ' H' ⟨v4, v5, M, es, w, I⟩ => ?_)
  · subst es
    have hmN : m < N := by omega
    obtain ⟨x, hx, _⟩ := I.dg m hmN
    obtain ⟨r, hr, hq⟩ := w.rows.get hmN
    show tSeq _ _ _ (sLW (.ref t) (.int (N : Int)) (.ref d) (.ref p) v4 (some (.int (m : Int)))) H'
    have atm := ev_at (K := K) (ta := tVar 3) (tb := tVar 5) (tc := tVar 5) (σ := sLW (.ref t) (.int (N : Int)) (.ref d) (.ref p) v4 (some (.int (m : Int)))) (H := H') (ev_var rfl) (ev_var rfl) (ev_var rfl) w.rows.top hr hq hmN
    rw [hx] at atm
    refine q_when (b := decide (x < 0)) (et_test (ev_op atm ev_c rv_I0)) (fun hb H4 e4 => ?_) (fun hb H4 e4 => ?_)
    · refine s_ret ev_c fun H5 e5 => k .non H5 (w.ex.trans (e4.trans e5)) (Or.inl ⟨rfl, fun s => ?_⟩)
      exact fwi_neg I hmN hx (of_decide_eq_true hb) s
    · have nn : NonNeg (M m m) := fun v hv => by
        rw [hx] at hv
        have hb := of_decide_eq_false hb
        cases hv
        omega
      refine s_forR1 (n := (N : Int)) (ea_cons (ev_var rfl) ea_nil) (by omega) (fun a σ' H' => ∃ v4, σ' = sLW (.ref t) (.int (N : Int)) (.ref d) (.ref p) v4 (some (.int (m : Int))) ∧ LW H p rs (part M m a) N H')
        (fun H5 e5 => ⟨_, rfl, (w.go (e4.trans e5)).mat fun x y _ _ => by unfold part; rw [if_neg (Nat.not_lt_zero _)]⟩) (fun a σ' H' ha ⟨v4, es, w⟩ => ?_) (fun σ' H' ⟨v4, es, w⟩ => ?_)
      · subst es
        have haN : a < N := by omega
        obtain ⟨ra, hra, hqa⟩ := w.rows.get haN
        show tIfS _ _ _ _ (sLW (.ref t) (.int (N : Int)) (.ref d) (.ref p) (some (.int (a : Int))) (some (.int (m : Int)))) H'
        have ata := ev_at (K := K) (ta := tVar 3) (tb := tVar 4) (tc := tVar 5) (σ := sLW (.ref t) (.int (N : Int)) (.ref d) (.ref p) (some (.int (a : Int))) (some (.int (m : Int)))) (H := H') (ev_var rfl) (ev_var rfl) (ev_var rfl) w.rows.top hra hqa hmN
        have pam : part M m a a m = M a m := by unfold part; rw [if_neg (Nat.lt_irrefl a)]
        rw [pam] at ata
        have pmy : ∀ y, part M m a m y = M m y := fun y => by
          unfold part
          by_cases c : m < a
          · rw [if_pos c]
            show mn (M m y) (ad (M m m) (M m y)) = M m y
            rw [hx]
            have x0 := nn x hx
            cases M m y with
            | none => rfl
            | some v =>
              show some (if x + v < v then x + v else v) = some v
              rw [if_neg (by omega)]
          · rw [if_neg c]
        cases em : M a m with
        | none =>
          rw [em] at ata
          refine s_when (b := false) (et_B (ev_notN ata)) (fun z => nomatch z) fun _ H5 e5 => ⟨_, rfl, (w.go e5).mat fun x y _ _ => ?_⟩
          unfold part
          by_cases c : x < a
          · rw [if_pos c, if_pos (by omega)]
          · by_cases c2 : x = a
            · rw [if_neg c, if_pos (by omega), c2]
              show mn (M a y) (ad (M a m) (M m y)) = M a y
              rw [em]
              cases M a y <;> rfl
            · rw [if_neg c, if_neg (by omega)]
        | some st =>
          rw [em] at ata
          refine s_when (b := true) (et_B (ev_notN ata)) (fun _ H5 e5 => ?_) fun z => nomatch z
          have w5 := w.go e5
          have args : EvA (tCons (tVar 3) (tCons (tVar 4) (tCons (tVar 5) tNil))) (sLW (.ref t) (.int (N : Int)) (.ref d) (.ref p) (some (.int (a : Int))) (some (.int (m : Int)))) H5 [.ref p, .int (a : Int), .int (m : Int)] := ea_cons (ev_var rfl) (ea_cons (ev_var rfl) (ea_cons (ev_var rfl) ea_nil))
          unfold tDrop tCall
          refine args H5 (Ex.refl _) _ fun H6 e6 => ?_
          have w6 := w5.go e6
          refine ⟨p, rs, part M m a, N, a, m, st, ra, rfl, w6.rows, haN, hmN, hN, by rw [pam]; exact em, hra, fun H7 kp hrow7 => ⟨_, rfl, w6.put hra kp ?_ fun x y hxa _ _ => ?_⟩⟩
          · rw [hrow7]
            refine congrArg (fun l => some (HO.lst l)) (rowV_ext fun b _ => ?_)
            unfold goR
            rw [if_pos rfl, pam, pmy]
            unfold part
            rw [if_neg (Nat.lt_irrefl a), if_pos (Nat.lt_succ_self a)]
            rfl
          · unfold part
            by_cases c : x < a
            · rw [if_pos c, if_pos (by omega)]
            · rw [if_neg c, if_neg (by omega)]
      · subst es
        rw [Int.toNat_natCast] at w
        exact ⟨_, _, fwS m M, rfl, w.mat fun x y hx _ => by unfold part; rw [if_pos hx], fwi_step I hmN nn⟩
  · subst es
    rw [Int.toNat_natCast] at I
    refine s_ret (ev_var rfl) fun H5 e5 => k (.ref p) H5 (w.ex.trans e5) (Or.inr ⟨p, rs, M, rfl, w.rows.ex e5, fwi_end I, fun s => ⟨I.sound s, fits_lo I.lo⟩, I.lo⟩)
end
end Bw
/-! Tables made. -/
namespace Bw
open PySem PySem.Spec PyProof.Rows L2 Evl
def sp__are_bounds (C : Addr) : Sp := spOf fun vs H P => ∃ (b : Addr) (n : Nat) (E : List Edge), vs = [.ref b, .int (n : Int)] ∧ H b = some (.dT (E.map kvE)) ∧ GoodE (n + 1) E ∧ (E.map ekey).Nodup ∧ P = isV (.bl true)
def sp_Table___init__ (C : Addr) : Sp := fun vs H Q _ => ∃ (x dx b : Addr) (n : Nat) (E : List Edge), vs = [.ref x, .int (n : Int), .ref b] ∧ H x = some (.ins C dx []) ∧ H b = some (.dT (E.map kvE)) ∧ GoodE (n + 1) E ∧ (E.map ekey).Nodup ∧ 1 ≤ n ∧ n ≤ 12 ∧ E.length ≤ 1000 ∧
  ∀ H2 E', (∀ c o, c ≠ x → H c = some o → H2 c = some o) → TabAt C H2 x n E' → E'.Perm E → Q .non H2
def t__are_bounds_2 (K : PySem.W.Frag) (C : Addr) : TS := (tRet (tC (.bl true)))
def t__are_bounds_1 (K : PySem.W.Frag) (C : Addr) : TS := tSeq (tLock (tFor (iKeys (tVar 0)) (gName 2) (tSeq (tIfS (tOr (tNot (tB (tCall (sp_is_pair C) [] E0 (tCons (tVar 2) tNil)))) (tNot (tB (tCall (sp_is_number C) [] E0 (tCons (tDGet (tVar 0) (tVar 2)) tNil))))) (tRet (tC (.bl false))) tNext) (tIfS (tOr (tNot (tB (tCB (rAll K) (tCons (tLc (iTup K (tVar 2)) (gName 3) tYes (tCall (sp_is_number_between C) [] E0 (tCons (tVar 3) (tCons (tC (.int 0)) (tCons (tVar 1) tNil)))) [3]) tNil)))) (tTest (tOp rEq (tOp (rIxT K) (tVar 2) (tC (.int 0))) (tOp (rIxT K) (tVar 2) (tC (.int 1)))))) (tRet (tC (.bl false))) tNext)))) (t__are_bounds_2 K C)
def t__are_bounds_0 (K : PySem.W.Frag) (C : Addr) : TS := tSeq (tIfS (tNot (tB (tCB (rIsi K) (tCons (tVar 0) (tCons (tC (.ty "dict")) tNil))))) (tRet (tC (.bl false))) tNext) (t__are_bounds_1 K C)
def t_Table___init___4 (K : PySem.W.Frag) (C : Addr) : TS := (sFld K (tVar 0) (tDt (iList K (tCB rSortedDT (tCons (tVar 2) tNil))) (gName 3) tYes (tVar 3) (tDGet (tVar 2) (tVar 3)) [3]) "_bounds")
def t_Table___init___3 (K : PySem.W.Frag) (C : Addr) : TS := tSeq (sFld K (tVar 0) (tVar 1) "_size") (t_Table___init___4 K C)
def t_Table___init___2 (K : PySem.W.Frag) (C : Addr) : TS := tSeq (tIfS (tNot (tB (tCall (sp__are_bounds C) [] E0 (tCons (tVar 2) (tCons (tVar 1) tNil))))) tNever tNext) (t_Table___init___3 K C)
def t_Table___init___1 (K : PySem.W.Frag) (C : Addr) : TS := tSeq (tIfS (tB (tIsN (tVar 2))) (tAsg tDNewT (gName 2)) tNext) (t_Table___init___2 K C)
def t_Table___init___0 (K : PySem.W.Frag) (C : Addr) : TS := tSeq (tIfS (tNot (tB (tCall (sp_is_number_between C) [] E0 (tCons (tVar 1) (tCons (tC (.int 1)) (tCons (tC (.int 12)) tNil)))))) tNever tNext) (t_Table___init___1 K C)
section
variable {K : PySem.W.Frag} {C : Addr} {σ : L2.St} {H : Hp} {ta tb tc te : TE} {D : Ends} {t n : Nat} {E : List Edge}
theorem ev_dget {d q : Addr} {k : List Key} {v : V} {kvs : List (List Key × V)} (h0 : Ev ta σ H (.ref d)) (h1 : Ev tb σ H (.ref q)) (hd : Rd H d (.dT kvs)) (hq : H q = some (.tup (k.map kV))) (hv : valV kvs k = some v) : Ev (tDGet ta tb) σ H v := fun H1 e Q r =>
  h0 H1 e _ fun H2 e2 => h1 H2 (e.trans e2) _ fun H3 e3 => ⟨d, v, rfl, Or.inr ⟨kvs, k, q, ex_rd ((e.trans e2).trans e3) hd, rfl, ((e.trans e2).trans e3) _ _ hq, hv.symm⟩, r H3 (e2.trans e3)⟩
theorem edge_at {i : Nat} {k : List Key} {v : V} (h : (E.map kvE)[i]? = some (k, v)) : ∃ e, E[i]? = some e ∧ k = ekey e ∧ v = .int e.2.2 := by
  rw [List.getElem?_map] at h
  obtain ⟨e, he, z⟩ := Option.map_eq_some_iff.mp h
  cases z
  exact ⟨e, he, rfl, rfl⟩
/-- a statement while a dict is locked, and what is behind it -/
theorem q_lock {tu tz : TS} {d : Addr} {u : HO} (hd : H d = some u) (mu : Mut (some u)) (h : ∀ od, tu ⟨fun σ' H' => H' d = some (.frz od u) ∧ tz D σ' (upd H' d u), fun v H' => H' d = some (.frz od u) ∧ D.rt v (upd H' d u), fun σ' H' => H' d = some (.frz od u) ∧ D.bk σ' (upd H' d u), fun σ' H' => H' d = some (.frz od u) ∧ D.ct σ' (upd H' d u)⟩ σ (upd H d (.frz od u))) : tSeq (tLock tu) tz D σ H := ⟨d, u, hd, mu, h⟩
/-- a for over the keys of a locked dict -/
theorem s_forKT {td : TE} {g : TG} {tu : TS} {d : Addr} {od : Obj} {kvs : List (List Key × V)} (h : Ev td σ H (.ref d)) (hd : H d = some (.frz od (.dT kvs))) (Pv : Nat → L2.St → Hp → Prop) (h0 : ∀ H1, Ex H H1 → Pv 0 σ H1) (hG : ∀ i σ' H', i ≤ kvs.length → Pv i σ' H' → H' d = some (.frz od (.dT kvs)))
    (hs : ∀ i k v q σ' H', kvs[i]? = some (k, v) → H' q = some (.tup (k.map kV)) → Pv i σ' H' → g (.ref q) σ' H' fun σ2 H2 => tu { D with nx := Pv (i + 1), ct := Pv (i + 1), bk := D.nx } σ2 H2) (he : ∀ σ' H', Pv kvs.length σ' H' → D.nx σ' H') : tFor (iKeys td) g tu D σ H :=
  h H (Ex.refl H) _ fun H1 e => ⟨d, od, rfl, Or.inr ⟨kvs, e _ _ hd, for_it walk_keysT Pv (h0 H1 e) hG (fun i x σ' H' H2 hi p y => by
    obtain ⟨rfl, k, v, q, hkv, rfl, hq⟩ := y
    exact hs i k v q σ' H2 hkv hq p) he⟩⟩
theorem pure_are_bounds {b : Addr} {Q : VK} (h : H b = some (.dT (E.map kvE))) (hg : GoodE (n + 1) E) (hn : (E.map ekey).Nodup) (k : ∀ H1, Ex H H1 → Q (.bl true) H1) : t__are_bounds_0 K C (ends Q) [some (.ref b), some (.int (n : Int)), none, none] H := by
  have hn2 : ((E.map kvE).map (·.1)).Nodup := by rw [keys_kvE]; exact hn
  refine q_when (b := !true) (et_not (et_B (ev_isi (ev_var rfl) (fun H1 e => .base (.dT (e _ _ h))) (kit_ty (by decide +kernel))))) (fun z => nomatch z) (fun _ H0 e0 => ?_)
  have h := e0 _ _ h
  have k : ∀ H1, Ex H0 H1 → Q (.bl true) H1 := fun H1 e => k H1 (e0.trans e)
  refine q_lock h True.intro fun od => ?_
  obtain ⟨HL, eL⟩ : ∃ HL, HL = upd H0 b (.frz od (.dT (E.map kvE))) := ⟨_, rfl⟩
  rw [← eL]
  have gb : HL b = some (.frz od (.dT (E.map kvE))) := by rw [eL]; exact upd_same
  refine s_forKT (ev_var rfl) gb (fun i σ' H' => ∃ v2 v3, σ' = [some (.ref b), some (.int (n : Int)), v2, v3] ∧ Ex HL H') (fun H1 e => ⟨_, _, rfl, e⟩) (fun i σ' H' _ ⟨_, _, _, e⟩ => e _ _ gb) (fun i key v q σ' H2 hkv hq ⟨v2, v3, es, ex⟩ => ?_) (fun σ' H' ⟨v2, v3, es, ex⟩ => ?_)
  · subst es
    obtain ⟨e, he, rfl, rfl⟩ := edge_at hkv
    obtain ⟨g1, g2, g3⟩ := hg e (List.mem_of_getElem? he)
    have hq2 : H2 q = some (.tup [.int (e.1 : Int), .int (e.2.1 : Int)]) := hq
    have hv := valV_at hn2 hkv
    show tSeq _ _ _ [some (.ref b), some (.int (n : Int)), some (.ref q), v3] H2
    have dg : Ev (tDGet (tVar 0) (tVar 2)) [some (.ref b), some (.int (n : Int)), some (.ref q), v3] H2 (.int e.2.2) := ev_dget (ev_var rfl) (ev_var rfl) (Or.inr ⟨od, ex _ _ gb⟩) hq hv
    refine q_when (b := !true || !true) (et_or (et_not (et_B (ev_callV (ea_cons (ev_var rfl) ea_nil) fun H3 e3 => ⟨q, _, rfl, e3 _ _ hq2, rfl⟩))) fun _ => et_not (et_B (ev_callV (ea_cons dg ea_nil) fun H3 e3 => ⟨_, rfl, rfl⟩))) (fun z => nomatch z) (fun _ H3 e3 => ?_)
    refine s_when (b := !true || false) (et_or (a := !true) (et_not (et_B (ev_is (w := .bl true) (ev_all (bs := [true, true]) ?_) rfl))) fun _ => ?_) (fun z => nomatch z) (fun _ H4 e4 => ⟨_, _, rfl, ex.trans (e3.trans e4)⟩)
    · have := el_mpT (K := K) (σ := [some (.ref b), some (.int (n : Int)), some (.ref q), v3]) (H := H3) (te := tCall (sp_is_number_between C) [] E0 (tCons (tVar 3) (tCons (tC (.int 0)) (tCons (tVar 1) tNil)))) (tl := tVar 2) (j := 3) (vs := [3]) (fun _ => V.bl true) (ev_var rfl) (st_of (e3 _ _ hq2)) (by show 2 ≤ 40000; decide) (fun x => rfl) (fun x H4 e4 hm => by
        have hx : ∃ i : Nat, x = .int (i : Int) ∧ i ≤ n := by
          rcases List.mem_cons.mp hm with z | hm
          · exact ⟨_, z, by omega⟩
          · exact ⟨_, List.mem_singleton.mp hm, by omega⟩
        obtain ⟨i, rfl, hin⟩ := hx
        exact ev_callV (ea_cons (ev_var rfl) (ea_cons ev_c (ea_cons (ev_var rfl) ea_nil))) fun H5 e5 => ⟨(i : Int), 0, (n : Int), rfl, by
          rw [decide_eq_true (show (0 : Int) ≤ (i : Int) by omega), decide_eq_true (show (i : Int) ≤ (n : Int) by omega)]
          rfl⟩)
      exact this
    · refine et_is (et_test (ev_op (ev_op (ev_var rfl) ev_c (rv_ixT (st_of (e3 _ _ hq2)) (atI_nat (j := 0) rfl))) (ev_op (ev_var rfl) ev_c (rv_ixT (st_of (e3 _ _ hq2)) (atI_nat (j := 1) rfl))) (rv_eq rfl))) (decide_eq_false fun z => g3 ?_)
      have := V.int.inj z
      omega
  · subst es
    refine ⟨ex _ _ gb, ?_⟩
    show t__are_bounds_2 K C (ends Q) _ _
    rw [eL] at ex
    exact s_ret ev_c fun H5 e5 => k H5 ((ex_unlock h ex).trans e5)
theorem perm_lift {α β : Type} (f : α → β) : ∀ (qs : List β) (l : List α), qs.Perm (l.map f) → ∃ l' : List α, l'.Perm l ∧ l'.map f = qs := by
  intro qs
  induction qs with
  | nil =>
    intro l h
    have : l.map f = [] := List.Perm.nil_eq h |>.symm
    exact ⟨[], by rw [List.map_eq_nil_iff.mp this], rfl⟩
  | cons q r ih =>
    intro l h
    have hm : q ∈ l.map f := h.mem_iff.mp (List.mem_cons_self ..)
    obtain ⟨e, he, rfl⟩ := List.mem_map.mp hm
    obtain ⟨s, u, rfl⟩ := List.append_of_mem he
    have hp : (s ++ e :: u).Perm (e :: (s ++ u)) := List.perm_middle
    have h2 : (f e :: r).Perm (f e :: (s ++ u).map f) := h.trans (hp.map f)
    obtain ⟨l', p1, p2⟩ := ih (s ++ u) h2.cons_inv
    exact ⟨e :: l', (p1.cons e).trans hp.symm, by rw [List.map_cons, p2]⟩
def key2 (e : Edge) : Int × Int := ((e.1 : Int), (e.2.1 : Int))
theorem val_mem {e : Edge} (hn : (E.map ekey).Nodup) (he : e ∈ E) : valV (E.map kvE) (ekey e) = some (.int e.2.2) := by
  obtain ⟨j, hj, ej⟩ := List.mem_iff_getElem.mp he
  have h1 : (E.map kvE)[j]? = some (ekey e, .int e.2.2) := by
    rw [List.getElem?_map, List.getElem?_eq_getElem hj, ej]
    rfl
  exact valV_at (by rw [keys_kvE]; exact hn) h1
theorem putF1 {d : Addr} : putF ("_bounds" : Str) (.ref d) [(("_size" : Str), V.int (n : Int))] = [(("_size" : Str), V.int (n : Int)), ("_bounds", .ref d)] := by
  have ne : ¬ ("_size" : Str) = "_bounds" := by decide +kernel
  show (if ("_size" : Str) = "_bounds" then _ else _) = _
  rw [if_neg ne]
  rfl
theorem pure_init (F : TabF K C) {x dx b : Addr} {Q : VK} (hx : H x = some (.ins C dx [])) (h : H b = some (.dT (E.map kvE))) (hg : GoodE (n + 1) E) (hn : (E.map ekey).Nodup) (n1 : 1 ≤ n) (n2 : n ≤ 12) (hz : E.length ≤ 1000)
    (k : ∀ H2 E', (∀ c o, c ≠ x → H c = some o → H2 c = some o) → TabAt C H2 x n E' → E'.Perm E → Q .non H2) : t_Table___init___0 K C (ends Q) [some (.ref x), some (.int (n : Int)), some (.ref b), none] H := by
  refine q_when (b := !true) (et_not (et_B (ev_callV (ea_cons (ev_var rfl) (ea_cons ev_c (ea_cons ev_c ea_nil))) fun H1 e => ⟨(n : Int), 1, 12, rfl, by
    rw [decide_eq_true (show (1 : Int) ≤ (n : Int) by omega), decide_eq_true (show (n : Int) ≤ 12 by omega)]
    rfl⟩))) (fun z => nomatch z) (fun _ H1 e1 => ?_)
  refine q_when (b := decide (V.ref b = V.non)) (et_B (ev_isN (ev_var rfl))) (fun z => nomatch (of_decide_eq_true z)) (fun _ H2 e2 => ?_)
  have g2 : Ex H H2 := e1.trans e2
  refine q_when (b := !true) (et_not (et_B (ev_callV (ea_cons (ev_var rfl) (ea_cons (ev_var rfl) ea_nil)) fun H3 e3 => ⟨b, n, E, rfl, e3 _ _ (g2 _ _ h), hg, hn, rfl⟩))) (fun z => nomatch z) (fun _ H3 e3 => ?_)
  have g3 : Ex H H3 := g2.trans e3
  refine ⟨.int (n : Int), rfl, .ref x, rfl, x, C, dx, [], rfl, g3 _ _ hx, F.cl, F.ns, by decide, ?_⟩
  have nbx : b ≠ x := ne_of h hx (by intro z; cases z)
  obtain ⟨Ha, ea⟩ : ∃ Ha, Ha = upd H3 x (.ins C dx (putF ("_size" : Str) (.int (n : Int)) [])) := ⟨_, rfl⟩
  show t_Table___init___4 K C (ends Q) [some (.ref x), some (.int (n : Int)), some (.ref b), none] (upd H3 x (.ins C dx (putF ("_size" : Str) (.int (n : Int)) [])))
  rw [← ea]
  have xa : Ha x = some (.ins C dx [(("_size" : Str), .int (n : Int))]) := by rw [ea, upd_same]; rfl
  have ka : ∀ c o, c ≠ x → H c = some o → Ha c = some o := fun c o hc ho => by rw [ea, upd_ne hc]; exact g3 _ _ ho
  have ba := ka b _ nbx h
  unfold t_Table___init___4 sFld tDt iList
  refine ⟨.ref b, rfl, b, _, E.map key2, rfl, Or.inl ba, by rw [keys_kvE, List.map_map]; rfl, fun qs cs p hperm hsrt hprs hp => ?_⟩
  obtain ⟨E', hE, hq⟩ := perm_lift key2 qs E hperm
  obtain ⟨Hs, es⟩ : ∃ Hs, Hs = upd Ha p (.lst (cs.map V.ref)) := ⟨_, rfl⟩
  rw [← es]
  have eas : Ex Ha Hs := by rw [es]; exact Ex.new hp
  have ps : Hs p = some (.lst (cs.map V.ref)) := by rw [es]; exact upd_same
  refine ⟨p, rfl, ⟨_, sq_of ps⟩, fun Dn hD => ?_⟩
  have lc : cs.length = E'.length := by rw [← prs_len hprs, ← hq, List.length_map]
  have hn' : (E'.map ekey).Nodup := (hE.map ekey).nodup_iff.mpr hn
  have hn2 : ((E'.map kvE).map (·.1)).Nodup := by rw [keys_kvE]; exact hn'
  refine dt_it (walk_list (xs := cs.map V.ref)) (fun i H' => Ex Hs H' ∧ H' Dn = some (.dT ((E'.map kvE).take i))) ⟨Ex.new hD, upd_same⟩ (fun i H' _ pq => sq_of (pq.1 _ _ ps)) (fun i v H' H5 hi ⟨p1, p2⟩ y => ?_) (fun H' ⟨p1, p2⟩ => ?_)
  · obtain ⟨rfl, hv⟩ := y
    rw [List.getElem?_map] at hv
    obtain ⟨c, hc, rfl⟩ := Option.map_eq_some_iff.mp hv
    obtain ⟨q, hq1, hq2⟩ := prs_at hprs hc
    rw [← hq, List.getElem?_map] at hq1
    obtain ⟨e, he, eq⟩ := Option.map_eq_some_iff.mp hq1
    subst eq
    have hc5 : H5 c = some (.tup ((ekey e).map kV)) := p1 _ _ (eas _ _ hq2)
    have hem : e ∈ E := hE.mem_iff.mp (List.mem_of_getElem? he)
    refine ⟨rfl, ?_⟩
    unfold tYes
    refine iteT ⟨.ref c, rfl, .ref b, rfl, .ref c, rfl, b, .int e.2.2, rfl, ?_, _, DPut.t p2 hc5 ?_, Ex.mut p1 hD, ?_⟩
    · exact Or.inr ⟨_, ekey e, c, Or.inl (p1 _ _ (eas _ _ ba)), rfl, hc5, (val_mem hn hem).symm⟩
    · rw [List.length_take, List.length_map]
      have := hE.length_eq
      exact sz_lt (by omega)
    · rw [upd_same]
      have hkv : (E'.map kvE)[i]? = some (ekey e, .int e.2.2) := by rw [List.getElem?_map, he]; rfl
      rw [put_step hn2 hkv]
  · have hl : (cs.map V.ref).length = (E'.map kvE).length := by rw [List.length_map, List.length_map, lc]
    rw [hl, List.take_length] at p2
    have x5 : H' x = some (.ins C dx [(("_size" : Str), .int (n : Int))]) := p1 _ _ (eas _ _ xa)
    refine ⟨.ref x, rfl, x, C, dx, _, rfl, x5, F.cl, F.nb, by show 1 < 1000; decide, ?_⟩
    rw [putF1]
    have nDx : Dn ≠ x := fun z => by rw [z, eas _ _ xa] at hD; exact nomatch hD
    refine k _ E' (fun c o hc ho => by rw [upd_ne hc]; exact p1 _ _ (eas _ _ (ka c o hc ho))) ⟨dx, Dn, upd_same, by rw [upd_ne nDx]; exact p2, fun e he => hg e (hE.mem_iff.mp he), hn', n1, n2⟩ hE
end
end Bw
/-! Tables told by displays, by rows; the closed one. -/
namespace Bw
open PySem PySem.Spec PyProof.Rows L2 Evl
abbrev E0n : List Edge := [(0, 1, -1), (1, 0, 0)]
def sp_nothing (C : Addr) : Sp := spOf fun vs H P => ∃ n : Nat, vs = [.int (n : Int)] ∧ 1 ≤ n ∧ n ≤ 12 ∧ P = fun v H2 => ∃ t E, v = .ref t ∧ TabAt C H2 t n E ∧ E.Perm E0n
def sp__table_of (C : Addr) : Sp := spOf fun vs H P => ∃ p rs D n, vs = [.ref p] ∧ RowsAt H p rs D (n + 1) ∧ 1 ≤ n ∧ n ≤ 12 ∧ P = fun v H2 => ∃ t E, v = .ref t ∧ TabAt C H2 t n E ∧ ∀ a b, a < n + 1 → b < n + 1 → a ≠ b → matE E a b = D a b
def sp__need_table (C : Addr) : Sp := spOf fun vs H P => ∃ t n E w, vs = [.ref t, w] ∧ TabAt C H t n E ∧ P = isV .non
def sp__need_two (C : Addr) : Sp := spOf fun vs H P => ∃ t u n E E2, vs = [.ref t, .ref u] ∧ TabAt C H t n E ∧ TabAt C H u n E2 ∧ P = isV .non
def t_nothing_0 (K : PySem.W.Frag) (C : Addr) : TS := (tRet (tMake C (sp_Table___init__ C) [] E0 (tCons (tVar 0) (tCons (tDispT [((tTup (tCons (tC (.int 0)) (tCons (tC (.int 1)) tNil))), (tUn rNegI (tC (.int 1)))), ((tTup (tCons (tC (.int 1)) (tCons (tC (.int 0)) tNil))), (tC (.int 0)))]) tNil))))
def t__table_of_2 (K : PySem.W.Frag) (C : Addr) : TS := (tRet (tMake C (sp_Table___init__ C) [] E0 (tCons (tOp rSubI (tCB (cLen K) (tCons (tVar 0) tNil)) (tC (.int 1))) (tCons (tVar 1) tNil))))
def t__table_of_1 (K : PySem.W.Frag) (C : Addr) : TS := tSeq (tFor (iEnum K (tCons (tVar 0) tNil)) (gTup K 2 (gCons (gName 2) (gCons (gName 3) gNil))) (tFor (iEnum K (tCons (tVar 3) tNil)) (gTup K 2 (gCons (gName 4) (gCons (gName 5) gNil))) (tIfS (tAnd (tTest (tOp rNe (tVar 2) (tVar 4))) (tB (tNotN (tVar 5)))) (sDPut (tVar 1) (tTup (tCons (tVar 2) (tCons (tVar 4) tNil))) (tVar 5)) tNext))) (t__table_of_2 K C)
def t__table_of_0 (K : PySem.W.Frag) (C : Addr) : TS := tSeq (tAsg tDNewT (gName 1)) (t__table_of_1 K C)
def t__need_table_0 (K : PySem.W.Frag) (C : Addr) : TS := (tIfS (tNot (tB (tCB (rIsi K) (tCons (tVar 0) (tCons (tC (.ref C)) tNil))))) tNever tNext)
def t__need_two_2 (K : PySem.W.Frag) (C : Addr) : TS := (tIfS (tTest (tOp rNe (tProp C (sp_Table_size C) [] E0 (tVar 0)) (tProp C (sp_Table_size C) [] E0 (tVar 1)))) tNever tNext)
def t__need_two_1 (K : PySem.W.Frag) (C : Addr) : TS := tSeq (tDrop (tCall (sp__need_table C) [] E0 (tCons (tVar 1) (tCons (tC (.str "other")) tNil)))) (t__need_two_2 K C)
def t__need_two_0 (K : PySem.W.Frag) (C : Addr) : TS := tSeq (tDrop (tCall (sp__need_table C) [] E0 (tCons (tVar 0) (tCons (tC (.str "one")) tNil)))) (t__need_two_1 K C)
section
variable {K : PySem.W.Frag} {C : Addr} {σ : L2.St} {H : Hp} {ta tb tc te : TE} {D : Ends} {t n : Nat} {E : List Edge}
/-- Table(.., ..) -/
theorem make_tab {tA : TA} {Q : VK} (h : ∀ R : List V → Hp → Prop, (∀ b H1, Ex H H1 → H1 b = some (.dT (E.map kvE)) → R [.int (n : Int), .ref b] H1) → tA σ H R) (hg : GoodE (n + 1) E) (hn : (E.map ekey).Nodup) (n1 : 1 ≤ n) (n2 : n ≤ 12) (hz : E.length ≤ 1000)
    (q : ∀ x H2 E', Ex H H2 → TabAt C H2 x n E' → E'.Perm E → Q (.ref x) H2) : tMake C (sp_Table___init__ C) [] E0 tA σ H Q := by
  refine h _ fun b H1 e1 hb => ?_
  intro x dx hx hdx ne
  have nbx : b ≠ x := ne_of_none hb hx
  have nbd : b ≠ dx := ne_of_none hb hdx
  refine ⟨x, dx, b, n, E, rfl, upd_same, by rw [upd_ne nbx, upd_ne nbd]; exact hb, hg, hn, n1, n2, hz, fun H2 E' k T p => ⟨rfl, q x H2 E' (e1.trans fun c o hc => ?_) T p⟩⟩
  have c1 : c ≠ x := ne_of_none hc hx
  have c2 : c ≠ dx := ne_of_none hc hdx
  refine k c o c1 ?_
  rw [upd_ne c1, upd_ne c2]
  exact hc
abbrev eTup (e : Edge) : List V := [.int (e.1 : Int), .int (e.2.1 : Int)]
theorem pairs_go : ∀ (trs : List (TE × TE)) (es : List Edge), Paired (fun (tr : TE × TE) (e : Edge) => EvU tr.1 σ H (eTup e) ∧ Ev tr.2 σ H (.int e.2.2)) trs es → ∀ H1, Ex H H1 → ∀ R : List (V × V) → Hp → Prop,
    (∀ ps H2, Ex H1 H2 → Paired (fun (p : V × V) (e : Edge) => ∃ q, p = (.ref q, .int e.2.2) ∧ H2 q = some (.tup (eTup e))) ps es → R ps H2) → tPairs trs σ H1 R := by
  intro trs es hp
  induction hp with
  | nil => intro H1 e1 R r; exact r [] H1 (Ex.refl _) .nil
  | @cons tr e trs es h t ih =>
    intro H1 e1 R r
    obtain ⟨tk, tv⟩ := tr
    refine h.1 H1 e1 _ fun p H2 hpn e2 h2 => ?_
    refine h.2 H2 (e1.trans e2) _ fun H3 e3 => ?_
    refine ih H3 ((e1.trans e2).trans e3) _ fun ps H4 e4 hps => r _ H4 ((e2.trans e3).trans e4) (.cons ⟨p, rfl, e4 _ _ (e3 _ _ h2)⟩ hps)
theorem put_go {p : Addr} {H0 : Hp} : ∀ (ps : List (V × V)) (es : List Edge), Paired (fun (q : V × V) (e : Edge) => ∃ b, q = (.ref b, .int e.2.2) ∧ H b = some (.tup (eTup e))) ps es → ∀ (ahead : List Edge) (H1 : Hp), (∀ b xs, H b = some (.tup xs) → H1 b = some (.tup xs)) → H1 p = some (.dT (ahead.map kvE)) → ((ahead ++ es).map ekey).Nodup → ahead.length + es.length ≤ 1000 → Ex H0 H1 → H0 p = none → ∀ R : Hp → Prop,
    (∀ H2, Ex H0 H2 → H2 p = some (.dT ((ahead ++ es).map kvE)) → R H2) → putAll p ps H1 R := by
  intro ps es hp
  induction hp with
  | nil =>
    intro ahead H1 ht hd hn hl e0 hp0 R r
    refine r H1 e0 ?_
    rw [List.append_nil]
    exact hd
  | @cons q e ps es h t ih =>
    intro ahead H1 ht hd hn hl e0 hp0 R r
    obtain ⟨b, rfl, hb⟩ := h
    have hb1 : H1 b = some (.tup ((ekey e).map kV)) := ht _ _ hb
    rw [List.length_cons] at hl
    refine ⟨_, DPut.t hd hb1 (by rw [List.length_map]; exact sz_lt (by omega)), ?_⟩
    have out : ekey e ∉ (ahead.map kvE).map (·.1) := by
      rw [keys_kvE]
      rw [List.map_append, List.map_cons] at hn
      intro hm
      exact (List.nodup_append.mp hn).2.2 _ hm _ (List.mem_cons_self ..) rfl
    rw [L2.putK_new _ (valV_out out)]
    have eq : ahead.map kvE ++ [(ekey e, V.int e.2.2)] = (ahead ++ [e]).map kvE := by
      rw [List.map_append]
      rfl
    rw [eq]
    refine ih (ahead ++ [e]) _ (fun c xs hc => ?_) upd_same (by rw [List.append_assoc]; exact hn) (by rw [List.length_append, List.length_singleton]; omega) (Ex.mut e0 hp0) hp0 R (fun H2 e2 h2 => r H2 e2 ?_)
    · have nc : c ≠ p := fun z => by
        have h5 := ht _ _ hc
        rw [z, hd] at h5
        exact nomatch h5
      rw [upd_ne nc]
      exact ht _ _ hc
    · rw [h2, List.append_assoc]
      rfl
/-- a display of bounds -/
theorem disp_go {trs : List (TE × TE)} {es : List Edge} (h : Paired (fun (tr : TE × TE) (e : Edge) => EvU tr.1 σ H (eTup e) ∧ Ev tr.2 σ H (.int e.2.2)) trs es) (hn : (es.map ekey).Nodup) (hl : es.length ≤ 1000) : ∀ H1, Ex H H1 → ∀ Q : VK, (∀ p H2, H1 p = none → Ex H1 H2 → H2 p = some (.dT (es.map kvE)) → Q (.ref p) H2) → tDispT trs σ H1 Q := by
  intro H1 e1 Q q p hp
  refine pairs_go trs es h _ (e1.trans (Ex.new hp)) _ fun ps H2 e2 hps => ?_
  refine put_go (H0 := H1) ps es hps [] H2 (fun _ _ z => z) (e2 _ _ upd_same) hn (by simpa using hl) ((Ex.new hp).trans e2) hp _ fun H3 e3 h3 => q p H3 hp e3 h3
theorem pure_nothing {Q : VK} (n1 : 1 ≤ n) (n2 : n ≤ 12) (k : ∀ t H2 E, Ex H H2 → TabAt C H2 t n E → E.Perm E0n → Q (.ref t) H2) : t_nothing_0 K C (ends Q) [some (.int (n : Int))] H := by
  refine make_tab (H := H) (E := E0n) (n := n) (fun R r => ?_) (fun e he => ?_) ?_ n1 n2 (by show 2 ≤ 1000; decide) fun x H2 E' e T p => k x H2 E' e T p
  · refine ⟨.int (n : Int), rfl, ?_⟩
    refine disp_go (σ := [some (.int (n : Int))]) (H := H) (es := E0n) (.cons ⟨eu_tup (ea_cons ev_c (ea_cons ev_c ea_nil)) (by show 2 ≤ 100000; decide), (show Ev (tUn rNegI (tC (.int 1))) _ _ (.int (-1)) from ev_un ev_c ru_neg)⟩ (.cons ⟨eu_tup (ea_cons ev_c (ea_cons ev_c ea_nil)) (by show 2 ≤ 100000; decide), ev_c⟩ .nil)) ?_ (by show 2 ≤ 1000; decide) H (Ex.refl _) _ fun p H2 hp e2 h2 => r p H2 e2 h2
    decide +kernel
  · rcases List.mem_cons.mp he with z | he
    · rw [z]; exact ⟨by show 0 < n + 1; omega, by show 1 < n + 1; omega, by show 0 ≠ 1; decide⟩
    · rw [List.mem_singleton.mp he]; exact ⟨by show 1 < n + 1; omega, by show 0 < n + 1; omega, by show 1 ≠ 0; decide⟩
  · decide +kernel
end
end Bw
/-! A table of rows. -/
namespace Bw
open PySem PySem.Spec PyProof.Rows L2 Evl
def cellE (D : Mat) (a b : Nat) : List Edge := if a = b then [] else match D a b with
  | some x => [(a, b, x)]
  | none => []
def rowE (D : Mat) (a : Nat) : Nat → List Edge
  | 0 => []
  | k + 1 => rowE D a k ++ cellE D a k
def allE (D : Mat) (N : Nat) : Nat → List Edge
  | 0 => []
  | k + 1 => allE D N k ++ rowE D k N
theorem mem_cell {D : Mat} {a b : Nat} {e : Edge} : e ∈ cellE D a b ↔ e.1 = a ∧ e.2.1 = b ∧ a ≠ b ∧ D a b = some e.2.2 := by
  obtain ⟨x, y, z⟩ := e
  unfold cellE
  by_cases c : a = b
  · rw [if_pos c]
    exact ⟨fun h => (nomatch h), fun h => absurd c h.2.2.1⟩
  · rw [if_neg c]
    cases h : D a b with
    | none => exact ⟨fun h => (nomatch h), fun h => nomatch h.2.2.2⟩
    | some w =>
      constructor
      · intro h
        have := List.mem_singleton.mp h
        cases this
        exact ⟨rfl, rfl, c, rfl⟩
      · intro ⟨h1, h2, _, h4⟩
        have h1 : x = a := h1
        have h2 : y = b := h2
        have h4 : w = z := Option.some.inj h4
        rw [h1, h2, h4]
        exact List.mem_singleton.mpr rfl
theorem mem_row {D : Mat} {a : Nat} {e : Edge} : ∀ {k : Nat}, e ∈ rowE D a k ↔ e.1 = a ∧ e.2.1 < k ∧ a ≠ e.2.1 ∧ D a e.2.1 = some e.2.2
  | 0 => ⟨fun h => (nomatch h), fun h => absurd h.2.1 (Nat.not_lt_zero _)⟩
  | k + 1 => by
    show e ∈ rowE D a k ++ cellE D a k ↔ _
    rw [List.mem_append, mem_row, mem_cell]
    constructor
    · rintro (⟨h1, h2, h3, h4⟩ | ⟨h1, h2, h3, h4⟩)
      · exact ⟨h1, by omega, h3, h4⟩
      · exact ⟨h1, by omega, by rw [h2]; exact h3, by rw [h2]; exact h4⟩
    · rintro ⟨h1, h2, h3, h4⟩
      by_cases c : e.2.1 = k
      · exact Or.inr ⟨h1, c, by rw [← c]; exact h3, by rw [← c]; exact h4⟩
      · exact Or.inl ⟨h1, by omega, h3, h4⟩
theorem mem_all {D : Mat} {N : Nat} {e : Edge} : ∀ {k : Nat}, e ∈ allE D N k ↔ e.1 < k ∧ e.2.1 < N ∧ e.1 ≠ e.2.1 ∧ D e.1 e.2.1 = some e.2.2
  | 0 => ⟨fun h => (nomatch h), fun h => absurd h.1 (Nat.not_lt_zero _)⟩
  | k + 1 => by
    show e ∈ allE D N k ++ rowE D k N ↔ _
    rw [List.mem_append, mem_all, mem_row]
    constructor
    · rintro (⟨h1, h2, h3, h4⟩ | ⟨h1, h2, h3, h4⟩)
      · exact ⟨by omega, h2, h3, h4⟩
      · exact ⟨by omega, h2, by rw [h1]; exact h3, by rw [h1]; exact h4⟩
    · rintro ⟨h1, h2, h3, h4⟩
      by_cases c : e.1 = k
      · exact Or.inr ⟨c, h2, by rw [← c]; exact h3, by rw [← c]; exact h4⟩
      · exact Or.inl ⟨by omega, h2, h3, h4⟩
theorem nodup_app {l m : List Edge} (h1 : (l.map ekey).Nodup) (h2 : (m.map ekey).Nodup) (h : ∀ e ∈ l, ∀ e' ∈ m, ¬ (e.1 = e'.1 ∧ e.2.1 = e'.2.1)) : ((l ++ m).map ekey).Nodup := by
  rw [List.map_append, List.nodup_append]
  refine ⟨h1, h2, fun x hx y hy z => ?_⟩
  obtain ⟨e, he, rfl⟩ := List.mem_map.mp hx
  obtain ⟨e', he', rfl⟩ := List.mem_map.mp hy
  exact h e he e' he' (ekey_inj z)
theorem nodup_cell {D : Mat} {a b : Nat} : ((cellE D a b).map ekey).Nodup := by
  unfold cellE
  by_cases c : a = b
  · rw [if_pos c]; exact List.nodup_nil
  · rw [if_neg c]
    cases D a b with
    | none => exact List.nodup_nil
    | some x => simp
theorem nodup_row {D : Mat} {a : Nat} : ∀ k, ((rowE D a k).map ekey).Nodup
  | 0 => List.nodup_nil
  | k + 1 => nodup_app (nodup_row k) nodup_cell fun e he e' he' z => by
    have h1 := (mem_row.mp he).2.1
    have h2 := (mem_cell.mp he').2.1
    omega
theorem nodup_all {D : Mat} {N : Nat} : ∀ k, ((allE D N k).map ekey).Nodup
  | 0 => List.nodup_nil
  | k + 1 => nodup_app (nodup_all k) (nodup_row N) fun e he e' he' z => by
    have h1 := (mem_all.mp he).1
    have h2 := (mem_row.mp he').1
    omega
theorem len_cell {D : Mat} {a b : Nat} : (cellE D a b).length ≤ 1 := by
  unfold cellE
  by_cases c : a = b
  · rw [if_pos c]; exact Nat.zero_le _
  · rw [if_neg c]
    cases D a b with
    | none => exact Nat.zero_le _
    | some x => exact Nat.le_refl _
theorem len_row {D : Mat} {a : Nat} : ∀ k, (rowE D a k).length ≤ k
  | 0 => Nat.le_refl _
  | k + 1 => by
    have h1 := len_row (D := D) (a := a) k
    have h2 := len_cell (D := D) (a := a) (b := k)
    show (rowE D a k ++ cellE D a k).length ≤ k + 1
    rw [List.length_append]
    omega
theorem len_all {D : Mat} {N : Nat} : ∀ k, (allE D N k).length ≤ k * N
  | 0 => Nat.zero_le _
  | k + 1 => by
    have h1 := len_all (D := D) (N := N) k
    have h2 := len_row (D := D) (a := k) N
    show (allE D N k ++ rowE D k N).length ≤ (k + 1) * N
    rw [List.length_append, Nat.succ_mul]
    omega
/-- what is looked up is there -/
theorem look_mem {E : List Edge} {a b : Nat} {x : Int} (hn : (E.map ekey).Nodup) : lookE E a b = some x ↔ (a, b, x) ∈ E := by
  induction E with
  | nil => exact ⟨fun h => (nomatch h), fun h => nomatch h⟩
  | cons e r ih =>
    rw [List.map_cons, List.nodup_cons] at hn
    have ih := ih hn.2
    by_cases c : e.1 = a ∧ e.2.1 = b
    · have : lookE (e :: r) a b = some e.2.2 := by
        unfold lookE
        rw [List.find?_cons_of_pos (by simp [c.1, c.2])]
        rfl
      rw [this, List.mem_cons]
      constructor
      · intro h
        left
        obtain ⟨e1, e2, e3⟩ := e
        have c1 : e1 = a := c.1
        have c2 : e2 = b := c.2
        have c3 : e3 = x := Option.some.inj h
        rw [c1, c2, c3]
      · rintro (h | h)
        · rw [← h]
        · exact absurd (List.mem_map.mpr ⟨_, h, by show ekey (a, b, x) = ekey e; unfold ekey; rw [c.1, c.2]⟩) hn.1
    · have : lookE (e :: r) a b = lookE r a b := by
        unfold lookE
        rw [List.find?_cons_of_neg (by
          intro z
          rw [Bool.and_eq_true, decide_eq_true_eq, decide_eq_true_eq] at z
          exact c z)]
      rw [this, ih, List.mem_cons]
      constructor
      · intro h; exact Or.inr h
      · rintro (h | h)
        · exact absurd ⟨by rw [← h], by rw [← h]⟩ c
        · exact h
theorem look_perm {E E' : List Edge} (hn : (E.map ekey).Nodup) (p : E'.Perm E) (a b : Nat) : lookE E' a b = lookE E a b := by
  have hn' : (E'.map ekey).Nodup := (p.map ekey).nodup_iff.mpr hn
  cases h : lookE E a b with
  | some x => exact (look_mem hn').mpr (p.mem_iff.mpr ((look_mem hn).mp h))
  | none =>
    cases h' : lookE E' a b with
    | none => rfl
    | some x =>
      have := (look_mem hn).mpr (p.mem_iff.mp ((look_mem hn').mp h'))
      rw [h] at this
      exact nomatch this
theorem mat_perm {E E' : List Edge} (hn : (E.map ekey).Nodup) (p : E'.Perm E) (a b : Nat) : matE E' a b = matE E a b := by
  have := look_perm hn p a b
  unfold matE
  by_cases c : a = b
  · rw [if_pos c, if_pos c]
  · rw [if_neg c, if_neg c]
    exact this
theorem mat_all {D : Mat} {N a b : Nat} (ha : a < N) (hb : b < N) (c : a ≠ b) : matE (allE D N N) a b = D a b := by
  show (if a = b then _ else lookE (allE D N N) a b) = _
  rw [if_neg c]
  have hn := nodup_all (D := D) (N := N) N
  cases h : D a b with
  | some x => exact (look_mem hn).mpr (mem_all.mpr ⟨ha, hb, c, h⟩)
  | none =>
    cases h' : lookE (allE D N N) a b with
    | none => rfl
    | some x =>
      have := (mem_all.mp ((look_mem hn).mp h')).2.2.2
      rw [h] at this
      exact nomatch this
section
variable {K : PySem.W.Frag} {C : Addr} {σ : L2.St} {H : Hp} {ta tb tc te : TE} {D : Ends} {t n : Nat} {E : List Edge}
/-- for i, x in enumerate(list) -/
theorem s_forEn {a : Addr} {xs : List V} {tA : TA} {tu : TS} {i1 i2 : Nat} (h : EvA tA σ H [.ref a]) (hx : SqL K H a xs) (Pv : Nat → L2.St → Hp → Prop) (h0 : ∀ H1, Ex H H1 → Pv 0 σ H1) (hl : ∀ i σ' H', i ≤ xs.length → Pv i σ' H' → SqL K H' a xs)
    (hs : ∀ i x σ' H' H2, xs[i]? = some x → Pv i σ' H' → Ex H' H2 → tu { D with nx := Pv (i + 1), ct := Pv (i + 1), bk := D.nx } ((σ'.set i1 (some (.int (i : Nat)))).set i2 (some x)) H2) (hd : ∀ σ' H', Pv xs.length σ' H' → D.nx σ' H') :
    tFor (iEnum K tA) (gTup K 2 (gCons (gName i1) (gCons (gName i2) gNil))) tu D σ H :=
  h H (Ex.refl H) _ fun H1 e => ⟨a, xs, rfl, ex_l e hx, for_it walk_enum Pv (h0 H1 e) hl (fun i v σ' H' H2 hi p y => by
    obtain ⟨T, u, w, rfl, hT, rfl, hu, hw⟩ := y
    cases hu
    exact ⟨T, _, rfl, st_of upd_same, rfl, _, _, rfl, _, _, rfl, rfl, hs i w σ' H' _ hw p (Ex.new hT)⟩) hd⟩
theorem pure_table_of {p : Addr} {rs : List Addr} {M : Mat} {Q : VK} (R : RowsAt H p rs M (n + 1)) (n1 : 1 ≤ n) (n2 : n ≤ 12)
    (k : ∀ t H2 E, Ex H H2 → TabAt C H2 t n E → (∀ a b, a < n + 1 → b < n + 1 → a ≠ b → matE E a b = M a b) → Q (.ref t) H2) : t__table_of_0 K C (ends Q) [some (.ref p), none, none, none, none, none] H := by
  obtain ⟨N, eN⟩ : ∃ N, N = n + 1 := ⟨_, rfl⟩
  rw [← eN] at R
  have hN : N ≤ 13 := by omega
  intro d hd
  have e1 : Ex H (upd H d (.dT [])) := Ex.new hd
  obtain ⟨H1, eH1⟩ : ∃ H1, H1 = upd H d (.dT []) := ⟨_, rfl⟩
  have d1 : H1 d = some (.dT []) := by rw [eH1]; exact upd_same
  rw [← eH1] at e1
  show t__table_of_1 K C (ends Q) [some (.ref p), some (.ref d), none, none, none, none] (upd H d (.dT []))
  rw [← eH1]
  have lr : (rs.map V.ref).length = N := by rw [List.length_map, R.len]
  -- the word of the loops
  have putc : ∀ (L : List Edge) (a b : Nat) (x : Int) (H2 : Hp), H2 d = some (.dT (L.map kvE)) → (∀ e ∈ L, ¬ (e.1 = a ∧ e.2.1 = b)) → putK (L.map kvE) (ekey (a, b, x)) (.int x) = (L ++ [(a, b, x)]).map kvE := fun L a b x H2 _ ho => by
    rw [L2.putK_new _ (valV_out (by
      rw [keys_kvE]
      intro hm
      obtain ⟨e, he, z⟩ := List.mem_map.mp hm
      exact ho e he (ekey_inj z))), List.map_append]
    rfl
  refine s_forEn (D := { ends Q with nx := t__table_of_2 K C (ends Q) }) (a := p) (xs := rs.map V.ref) (ea_cons (ev_var rfl) ea_nil) (sq_of (e1 _ _ R.top)) (fun a σ' H' => ∃ v2 v3 v4 v5, σ' = [some (.ref p), some (.ref d), v2, v3, v4, v5] ∧ Ex H H' ∧ H' d = some (.dT ((allE M N a).map kvE)))
    (fun H2 e2 => ⟨_, _, _, _, rfl, e1.trans e2, e2 _ _ d1⟩) (fun a σ' H' _ ⟨_, _, _, _, _, e, _⟩ => sq_of (e _ _ R.top)) (fun a x σ' H' H2 hx ⟨v2, v3, v4, v5, es, e, hdd⟩ e2 => ?_) (fun σ' H' ⟨v2, v3, v4, v5, es, e, hdd⟩ => ?_)
  · subst es
    rw [List.getElem?_map] at hx
    obtain ⟨r, hr, rfl⟩ := Option.map_eq_some_iff.mp hx
    have ha : a < N := by
      have := (List.getElem?_eq_some_iff.mp hr).1
      rw [R.len] at this
      exact this
    have hq := R.row a r hr
    have lrow : (rowV M N a).length = N := rowV_len
    show tFor _ _ _ _ [some (.ref p), some (.ref d), some (.int (a : Nat)), some (.ref r), v4, v5] H2
    refine s_forEn (a := r) (xs := rowV M N a) (ea_cons (ev_var rfl) ea_nil) (sq_of ((e.trans e2) _ _ hq)) (fun b σ' H' => ∃ v4 v5, σ' = [some (.ref p), some (.ref d), some (.int (a : Nat)), some (.ref r), v4, v5] ∧ Ex H H' ∧ H' d = some (.dT ((allE M N a ++ rowE M a b).map kvE)))
      (fun H3 e3 => ⟨_, _, rfl, e.trans (e2.trans e3), by rw [e3 _ _ (e2 _ _ hdd)]; show _ = some (HO.dT ((allE M N a ++ []).map kvE)); rw [List.append_nil]⟩) (fun b σ' H' _ ⟨_, _, _, e, _⟩ => sq_of (e _ _ hq)) (fun b x σ' H' H3 hx ⟨v4, v5, es, e, hdd⟩ e3 => ?_) (fun σ' H' ⟨v4, v5, es, e, hdd⟩ => ?_)
    · subst es
      have hb : b < N := by
        have := (List.getElem?_eq_some_iff.mp hx).1
        rw [lrow] at this
        exact this
      rw [rowV_at hb] at hx
      cases hx
      show tIfS _ _ _ _ [some (.ref p), some (.ref d), some (.int (a : Nat)), some (.ref r), some (.int (b : Nat)), some (ov (M a b))] H3
      have ne : EvT (tTest (tOp rNe (tVar 2) (tVar 4))) [some (.ref p), some (.ref d), some (.int (a : Nat)), some (.ref r), some (.int (b : Nat)), some (ov (M a b))] H3 (!decide ((V.int (a : Nat)) = V.int (b : Nat))) := et_test (ev_op (ev_var rfl) (ev_var rfl) (rv_ne rfl))
      have nn : EvT (tB (tNotN (tVar 5))) [some (.ref p), some (.ref d), some (.int (a : Nat)), some (.ref r), some (.int (b : Nat)), some (ov (M a b))] H3 (!decide (ov (M a b) = .non)) := et_B (ev_notN (ev_var rfl))
      have stay : cellE M a b = [] → ∀ H4, Ex H3 H4 → ∃ v4 v5, [some (V.ref p), some (.ref d), some (.int (a : Nat)), some (.ref r), some (.int (b : Nat)), some (ov (M a b))] = [some (.ref p), some (.ref d), some (.int (a : Nat)), some (.ref r), v4, v5] ∧ Ex H H4 ∧ H4 d = some (.dT ((allE M N a ++ rowE M a (b + 1)).map kvE)) := fun hc H4 e4 => ⟨_, _, rfl, e.trans (e3.trans e4), by
        rw [e4 _ _ (e3 _ _ hdd)]
        show _ = some (HO.dT ((allE M N a ++ (rowE M a b ++ cellE M a b)).map kvE))
        rw [hc, List.append_nil]⟩
      by_cases c : a = b
      · refine s_when (et_and ne fun _ => nn) (fun z => ?_) fun _ H4 e4 => stay (by unfold cellE; rw [if_pos c]) H4 e4
        rw [c, decide_eq_true rfl] at z
        exact nomatch z
      · have cd : decide ((V.int (a : Nat)) = V.int (b : Nat)) = false := decide_eq_false fun z => c (by have := V.int.inj z; omega)
        rw [cd] at ne
        cases em : M a b with
        | none =>
          rw [← em]
          refine s_when (et_and ne fun _ => nn) (fun z => ?_) fun _ H4 e4 => stay (by unfold cellE; rw [if_neg c, em]) H4 e4
          rw [em] at z
          exact nomatch z
        | some x =>
          rw [← em]
          refine s_when (b := !false && !decide (ov (M a b) = .non)) (et_and ne fun _ => nn) (fun _ H4 e4 => ?_) (fun z => ?_)
          · have hv : ov (M a b) = .int x := by rw [em]; rfl
            refine ⟨.int x, by rw [hv]; rfl, .ref d, rfl, ?_⟩
            have e34 := e3.trans e4
            refine eu_tup (σ := [some (.ref p), some (.ref d), some (.int (a : Nat)), some (.ref r), some (.int (b : Nat)), some (ov (M a b))]) (H := H4) (ea_cons (ev_var rfl) (ea_cons (ev_var rfl) ea_nil)) (by show 2 ≤ 100000; decide) H4 (Ex.refl _) _ fun q H5 hq5 e5 h5 => ?_
            have hd5 := e5 _ _ (e34 _ _ hdd)
            have hk : H5 q = some (.tup ((ekey (a, b, x)).map kV)) := h5
            refine ⟨d, _, rfl, DPut.t hd5 hk ?_, _, _, rfl, Ex.mut (e.trans (e34.trans e5)) hd, ?_⟩
            · have l1 := len_all (D := M) (N := N) a
              have l2 := len_row (D := M) (a := a) b
              have l3 : a * N ≤ 13 * 13 := Nat.mul_le_mul (by omega) hN
              rw [List.length_map, List.length_append]
              exact sz_lt (by omega)
            · rw [upd_same, putc _ a b x H5 hd5]
              · show _ = some (HO.dT ((allE M N a ++ (rowE M a b ++ cellE M a b)).map kvE))
                have hc : cellE M a b = [(a, b, x)] := by unfold cellE; rw [if_neg c, em]
                rw [hc, List.append_assoc]
              · intro e he ⟨z1, z2⟩
                rcases List.mem_append.mp he with he | he
                · have := (mem_all.mp he).1
                  omega
                · have := (mem_row.mp he).2.1
                  omega
          · rw [em] at z
            exact nomatch z
    · subst es
      rw [lrow] at hdd
      exact ⟨_, _, _, _, rfl, e, hdd⟩
  · subst es
    rw [lr] at hdd
    have lt : Ev (tOp rSubI (tCB (cLen K) (tCons (tVar 0) tNil)) (tC (.int 1))) [some (.ref p), some (.ref d), v2, v3, v4, v5] H' (.int (n : Int)) := by
      refine ev_is (ev_op (ev_lenL (ev_var rfl) (sq_of (e _ _ R.top))) ev_c rv_I0) ?_
      rw [lr, eN]
      show V.int (((n + 1 : Nat) : Int) - 1) = _
      congr 1
      omega
    have hga : GoodE (n + 1) (allE M N N) := fun x hx => by
      obtain ⟨h1, h2, h3, _⟩ := mem_all.mp hx
      exact ⟨by omega, by omega, h3⟩
    have l1 := len_all (D := M) (N := N) N
    have l3 : N * N ≤ 13 * 13 := Nat.mul_le_mul hN hN
    show tMake C (sp_Table___init__ C) [] E0 (tCons (tOp rSubI (tCB (cLen K) (tCons (tVar 0) tNil)) (tC (.int 1))) (tCons (tVar 1) tNil)) [some (.ref p), some (.ref d), v2, v3, v4, v5] H' Q
    refine make_tab (H := H') (E := allE M N N) (n := n) (fun S s => ?_) hga (nodup_all N) n1 n2 (by omega) fun x H2 E' e2 T pm => k x H2 E' (e.trans e2) T fun a b ha hb hab => ?_
    · have args : EvA (tCons (tOp rSubI (tCB (cLen K) (tCons (tVar 0) tNil)) (tC (.int 1))) (tCons (tVar 1) tNil)) [some (.ref p), some (.ref d), v2, v3, v4, v5] H' [.int (n : Int), .ref d] := ea_cons lt (ea_cons (ev_var rfl) ea_nil)
      exact args H' (Ex.refl _) _ fun H3 e3 => s d H3 e3 (e3 _ _ hdd)
    · rw [mat_perm (nodup_all N) pm]
      exact mat_all (by omega) (by omega) hab
end
end Bw
/-! Tables closed, compared, joined. -/
namespace Bw
open PySem PySem.Spec PyProof.Rows L2 Evl
/-- s keeps the table's bounds -/
abbrev FitE (n : Nat) (E : List Edge) (s : Nat → Int) : Prop := Fits (n + 1) s (matE E)
def sp_closed (C : Addr) : Sp := spOf fun vs H P => ∃ t n E, vs = [.ref t] ∧ TabAt C H t n E ∧ P = fun v H2 => ∃ u E', v = .ref u ∧ TabAt C H2 u n E' ∧ (∀ s, FitE n E' s ↔ FitE n E s) ∧ ((∀ s, ¬ FitE n E s) ∨ Closed (n + 1) (matE E'))
def t_closed_3 (K : PySem.W.Frag) (C : Addr) : TS := (tRet (tCall (sp__table_of C) [] E0 (tCons (tVar 1) tNil)))
def t_closed_2 (K : PySem.W.Frag) (C : Addr) : TS := tSeq (tIfS (tB (tIsN (tVar 1))) (tRet (tCall (sp_nothing C) [] E0 (tCons (tProp C (sp_Table_size C) [] E0 (tVar 0)) tNil))) tNext) (t_closed_3 K C)
def t_closed_1 (K : PySem.W.Frag) (C : Addr) : TS := tSeq (tAsg (tCall (sp__least_ways C) [] E0 (tCons (tVar 0) tNil)) (gName 1)) (t_closed_2 K C)
def t_closed_0 (K : PySem.W.Frag) (C : Addr) : TS := tSeq (tDrop (tCall (sp__need_table C) [] E0 (tCons (tVar 0) (tCons (tC .non) tNil)))) (t_closed_1 K C)
section
variable {K : PySem.W.Frag} {C : Addr} {σ : L2.St} {H : Hp} {ta tb tc te : TE} {D : Ends} {t n : Nat} {E : List Edge}
theorem q_pasg {i : Nat} {tz : TS} {P : Post} (h : EvP te σ H P) (k : ∀ v H1, Ex H H1 → P v H1 → tz D (σ.set i (some v)) H1) : tSeq (tAsg te (gName i)) tz D σ H := p_asg (D := { D with nx := tz D }) h k
theorem fits_edges (hn : (E.map ekey).Nodup) (hg : GoodE (n + 1) E) (s : Nat → Int) : FitE n E s ↔ ∀ e ∈ E, s e.1 - s e.2.1 ≤ e.2.2 := by
  constructor
  · intro h e he
    obtain ⟨h1, h2, h3⟩ := hg e he
    refine h e.1 e.2.1 e.2.2 h1 h2 ?_
    unfold matE
    rw [if_neg h3]
    exact (look_mem hn).mpr he
  · intro h a b x ha hb hx
    unfold matE at hx
    by_cases c : a = b
    · rw [if_pos c] at hx
      cases hx
      rw [c]
      omega
    · rw [if_neg c] at hx
      exact h _ ((look_mem hn).mp hx)
theorem TabAt.good {u : Nat} (T : TabAt C H u n E) : GoodE (n + 1) E ∧ (E.map ekey).Nodup ∧ 1 ≤ n ∧ n ≤ 12 := by
  obtain ⟨_, _, _, _, h1, h2, h3, h4⟩ := T
  exact ⟨h1, h2, h3, h4⟩
theorem TabAt.fits {u : Nat} (T : TabAt C H u n E) (s : Nat → Int) : FitE n E s ↔ ∀ e ∈ E, s e.1 - s e.2.1 ≤ e.2.2 := fits_edges T.good.2.1 T.good.1 s
theorem nothing_unfit {u : Nat} (T : TabAt C H u n E) (p : E.Perm E0n) (s : Nat → Int) : ¬ FitE n E s := fun f => by
  have h := (T.fits s).mp f
  have h1 := h (0, 1, -1) (p.mem_iff.mpr (List.mem_cons_self ..))
  have h2 := h (1, 0, 0) (p.mem_iff.mpr (List.mem_cons_of_mem _ (List.mem_cons_self ..)))
  have h1 : s 0 - s 1 ≤ -1 := h1
  have h2 : s 1 - s 0 ≤ 0 := h2
  omega
theorem fits_congr {N : Nat} {M M' : Mat} {s : Nat → Int} (h : ∀ a b, a < N → b < N → M a b = M' a b) (f : Fits N s M) : Fits N s M' := fun a b x ha hb hx => f a b x ha hb (by rw [h a b ha hb]; exact hx)
theorem pure_need_table (F : TabF K C) {w : V} {Q : VK} (T : TabAt C H t n E) (k : ∀ H1, Ex H H1 → Q .non H1) : t__need_table_0 K C (ends Q) [some (.ref t), some w] H := by
  obtain ⟨dx, d, h1, _⟩ := id T
  have isi : Ev (tCB (rIsi K) (tCons (tVar 0) (tCons (tC (.ref C)) tNil))) [some (.ref t), some w] H (.bl true) := ev_cb (ea_cons (ev_var rfl) (ea_cons ev_c ea_nil)) fun H1 e1 R q => ⟨.ref t, .ref C, _, _, true, rfl, .own C, F.ty H1 t dx _ (e1 _ _ h1), F.kit, q H1 (Ex.refl _)⟩
  exact s_when (b := !true) (et_not (et_B isi)) (fun z => nomatch z) fun _ H1 e1 => k H1 e1
theorem q_need {tz : TS} {w : V} (h : EvA (tCons ta (tCons tb tNil)) σ H [.ref t, w]) (T : TabAt C H t n E) (k : ∀ H1, Ex H H1 → tz D σ H1) : tSeq (tDrop (tCall (sp__need_table C) [] E0 (tCons ta (tCons tb tNil)))) tz D σ H :=
  q_drop (ev_callV h fun H1 e1 => ⟨t, n, E, w, rfl, T.ex e1, rfl⟩) k
theorem pure_need_two {u : Nat} {E2 : List Edge} {Q : VK} (T : TabAt C H t n E) (U : TabAt C H u n E2) (k : ∀ H1, Ex H H1 → Q .non H1) : t__need_two_0 K C (ends Q) [some (.ref t), some (.ref u)] H := by
  refine q_need (ea_cons (ev_var rfl) (ea_cons ev_c ea_nil)) T fun H1 e1 => ?_
  refine q_need (ea_cons (ev_var rfl) (ea_cons ev_c ea_nil)) (U.ex e1) fun H2 e2 => ?_
  have e12 := e1.trans e2
  refine s_when (b := !decide ((V.int (n : Int)) = V.int (n : Int))) (et_test (ev_op (ev_propSize (ev_var rfl) (T.ex e12)) (ev_propSize (ev_var rfl) (U.ex e12)) (rv_ne rfl))) (fun z => ?_) fun _ H3 e3 => k H3 (e12.trans e3)
  rw [decide_eq_true rfl] at z
  exact nomatch z
theorem pure_closed {Q : VK} (T : TabAt C H t n E) (k : ∀ u H2 E', Ex H H2 → TabAt C H2 u n E' → (∀ s, FitE n E' s ↔ FitE n E s) → ((∀ s, ¬ FitE n E s) ∨ Closed (n + 1) (matE E')) → Q (.ref u) H2) : t_closed_0 K C (ends Q) [some (.ref t), none] H := by
  obtain ⟨_, _, n1, n2⟩ := T.good
  refine q_need (ea_cons (ev_var rfl) (ea_cons ev_c ea_nil)) T fun H1 e1 => ?_
  refine q_pasg (evp_call (ea_cons (ev_var rfl) ea_nil) fun H2 e2 => ⟨t, n, E, rfl, T.ex (e1.trans e2), rfl⟩) fun v H2 e2 hv => ?_
  have e12 := e1.trans e2
  rcases hv with ⟨rfl, hno⟩ | ⟨p, rs, M, rfl, R, Cl, fit, lo⟩
  · refine q_when (b := decide (V.non = V.non)) (et_B (ev_isN (ev_var rfl))) (fun _ H3 e3 => ?_) (fun z => nomatch (of_decide_eq_false z rfl))
    have e13 := e12.trans e3
    refine p_ret (P := fun v H2 => ∃ t E, v = .ref t ∧ TabAt C H2 t n E ∧ E.Perm E0n) (evp_call (ea_cons (ev_propSize (ev_var rfl) (T.ex e13)) ea_nil) fun H4 e4 => ⟨n, rfl, n1, n2, rfl⟩) fun v H4 e4 ⟨u, E', hv, U, pm⟩ => ?_
    subst hv
    exact k u H4 E' (e13.trans e4) U (fun s => ⟨fun f => absurd f (nothing_unfit U pm s), fun f => absurd f (hno s)⟩) (Or.inl hno)
  · refine q_when (b := decide (V.ref p = V.non)) (et_B (ev_isN (ev_var rfl))) (fun z => nomatch (of_decide_eq_true z)) (fun _ H3 e3 => ?_)
    refine p_ret (P := fun v H2 => ∃ t E, v = .ref t ∧ TabAt C H2 t n E ∧ ∀ a b, a < n + 1 → b < n + 1 → a ≠ b → matE E a b = M a b) (evp_call (ea_cons (ev_var rfl) ea_nil) fun H4 e4 => ⟨p, rs, M, n, rfl, R.ex (e3.trans e4), n1, n2, rfl⟩) fun v H4 e4 ⟨u, E', hv, U, hm⟩ => ?_
    subst hv
    have all : ∀ a b, a < n + 1 → b < n + 1 → matE E' a b = M a b := fun a b ha hb => by
      by_cases c : a = b
      · rw [← c, Cl.dg a ha]
        unfold matE
        rw [if_pos rfl]
      · exact hm a b ha hb c
    refine k u H4 E' (e12.trans (e3.trans e4)) U (fun s => ?_) (Or.inr ⟨fun a ha => by rw [all a a ha ha]; exact Cl.dg a ha, fun a b c ha hb hc => by rw [all a b ha hb, all a c ha hc, all c b hc hb]; exact Cl.tri a b c ha hb hc⟩)
    exact ⟨fun f => (fit s).mpr (fits_congr all f), fun f => fits_congr (fun a b ha hb => (all a b ha hb).symm) ((fit s).mp f)⟩
end
end Bw
/-! Tables compared, joined, asked. -/
namespace Bw
open PySem PySem.Spec PyProof.Rows L2 Evl
def leB : Option Int → Int → Bool
  | none, _ => false
  | some x, c => decide (x ≤ c)
open Classical in
def sp_is_within (C : Addr) : Sp := spOf fun vs H P => ∃ t u n E E2, vs = [.ref t, .ref u] ∧ TabAt C H t n E ∧ TabAt C H u n E2 ∧ P = isV (.bl (decide (∀ s, FitE n E s → FitE n E2 s)))
open Classical in
def sp_is_same (C : Addr) : Sp := spOf fun vs H P => ∃ t u n E E2, vs = [.ref t, .ref u] ∧ TabAt C H t n E ∧ TabAt C H u n E2 ∧ P = isV (.bl (decide (∀ s, FitE n E s ↔ FitE n E2 s)))
def fitsB (E : List Edge) (ps : List Int) : Bool := E.all fun e => decide (ps.getD e.1 0 - ps.getD e.2.1 0 ≤ e.2.2)
def sp_Table_fits (C : Addr) : Sp := spOf fun vs H P => ∃ t w n E xs, vs = [.ref t, .ref w] ∧ TabAt C H t n E ∧ H w = some (.tup (intL xs)) ∧ xs.length = n ∧ P = isV (.bl (fitsB E (pre xs)))
def t_is_within_4 (K : PySem.W.Frag) (C : Addr) : TS := (tRet (tLockE (tCB (rAll K) (tCons (tLc (iKeys (tVar 3)) (gTup K 2 (gCons (gName 4) (gCons (gName 5) gNil))) tYes (tAndV (tNotN (tOp (rIxL K) (tOp (rIxL K) (tVar 2) (tVar 4)) (tVar 5))) (tOp rLeI (tOp (rIxL K) (tOp (rIxL K) (tVar 2) (tVar 4)) (tVar 5)) (tDGet (tVar 3) (tTup (tCons (tVar 4) (tCons (tVar 5) tNil)))))) [4, 5]) tNil))))
def t_is_within_3 (K : PySem.W.Frag) (C : Addr) : TS := tSeq (tAsg (tProp C (sp_Table_bounds C) [] E0 (tVar 1)) (gName 3)) (t_is_within_4 K C)
def t_is_within_2 (K : PySem.W.Frag) (C : Addr) : TS := tSeq (tIfS (tB (tIsN (tVar 2))) (tRet (tC (.bl true))) tNext) (t_is_within_3 K C)
def t_is_within_1 (K : PySem.W.Frag) (C : Addr) : TS := tSeq (tAsg (tCall (sp__least_ways C) [] E0 (tCons (tVar 0) tNil)) (gName 2)) (t_is_within_2 K C)
def t_is_within_0 (K : PySem.W.Frag) (C : Addr) : TS := tSeq (tDrop (tCall (sp__need_two C) [] E0 (tCons (tVar 0) (tCons (tVar 1) tNil)))) (t_is_within_1 K C)
def t_is_same_0 (K : PySem.W.Frag) (C : Addr) : TS := (tRet (tAndV (tCall (sp_is_within C) [] E0 (tCons (tVar 0) (tCons (tVar 1) tNil))) (tCall (sp_is_within C) [] E0 (tCons (tVar 1) (tCons (tVar 0) tNil)))))
section
variable {K : PySem.W.Frag} {C : Addr} {σ : L2.St} {H : Hp} {ta tb tc te : TE} {D : Ends} {t n : Nat} {E : List Edge}
/-- a value told while a dict is locked -/
theorem lock_v {d : Addr} {u : HO} {v : V} {Q : VK} (hd : H d = some u) (mu : Mut (some u)) (h : ∀ od, Ev te σ (upd H d (.frz od u)) v) (k : ∀ H2, Ex H H2 → Q v H2) : tLockE te σ H Q :=
  ⟨d, u, hd, mu, fun od => h od _ (Ex.refl _) _ fun H2 e2 => ⟨e2 _ _ upd_same, k _ (ex_unlock hd e2)⟩⟩
/-- [.. for a, b in bounds] -/
theorem el_keysE {td : TE} {d : Addr} {od : Obj} {i1 i2 : Nat} {vs : List Nat} (f : Edge → V) (h : Ev td σ H (.ref d)) (hd : H d = some (.frz od (.dT (E.map kvE)))) (hz : E.length ≤ 30000) (hw : ∀ x y, wipe (((wipe σ vs).set i1 (some x)).set i2 (some y)) vs = wipe σ vs)
    (he : ∀ (e : Edge) H1, Ex H H1 → e ∈ E → Ev te (((wipe σ vs).set i1 (some (.int (e.1 : Int)))).set i2 (some (.int (e.2.1 : Int)))) H1 (f e)) : EvL (tLc (iKeys td) (gTup K 2 (gCons (gName i1) (gCons (gName i2) gNil))) tYes te vs) σ H (E.map f) := fun H0 e0 Q q => h H0 e0 _ fun H1 e1 => ⟨d, od, rfl, Or.inr ⟨_, e1 _ _ (e0 _ _ hd), fun Dl hD => by
  have hd1 := e1 _ _ (e0 _ _ hd)
  refine lc_it walk_keysT (fun i H' => H1 Dl = none ∧ Ex H1 H' ∧ H' Dl = some (.lst ((E.map f).take i))) ⟨hD, Ex.new hD, upd_same⟩ (fun i H' _ p => p.2.1 _ _ hd1) (fun i x H' H2 hi p y => ?_) (fun H' p => ?_)
  · obtain ⟨rfl, key, v, q, hkv, rfl, hq⟩ := y
    obtain ⟨p1, p2, p3⟩ := p
    obtain ⟨e, hE, rfl, rfl⟩ := edge_at hkv
    refine ⟨q, _, rfl, st_of hq, rfl, _, _, rfl, _, _, rfl, rfl, hw _ _, ?_⟩
    unfold tYes
    refine iteT (he e H2 ((e0.trans e1).trans p2) (List.mem_of_getElem? hE) H2 (Ex.refl _) _ fun H4 e4 => ⟨_, e4 _ _ p3, ?_, p1, Ex.mut (p2.trans e4) p1, ?_⟩)
    · refine Nat.lt_of_le_of_lt (List.length_take_le _ _) ?_
      rw [List.length_map] at hi
      exact sz_lt (by omega)
    · rw [upd_same]
      have hz : (E.map f)[i]? = some (f e) := by rw [List.getElem?_map, hE]; rfl
      rw [take_step hz]
  · have p3 := p.2.2
    rw [List.length_map, ← List.length_map (as := E) (f := f), List.take_length] at p3
    exact q Dl H' (fresh_back e1 p.1) (e1.trans p.2.1) p3⟩⟩
theorem all_map {g : Edge → Bool} : (E.map fun e => V.bl (g e)) = (E.map g).map V.bl := by
  rw [List.map_map]
  rfl
theorem all_id {g : Edge → Bool} : (E.map g).all id = E.all g := by
  rw [List.all_map]
  rfl
theorem ev_leB {x : Option Int} {c : Int} (h1 : Ev ta σ H (ov x)) (h2 : Ev tb σ H (.int c)) : Ev (tAndV (tNotN ta) (tOp rLeI ta tb)) σ H (.bl (leB x c)) := by
  cases x with
  | none => exact ev_is (ev_andV (a := false) (b := false) (ev_notN h1) fun z => nomatch z) rfl
  | some y => exact ev_is (ev_andV (a := true) (ev_notN h1) fun _ => ev_op h1 h2 rv_I0) (by rw [Bool.true_and]; rfl)
theorem lenE {u : Nat} (T : TabAt C H u n E) : E.length ≤ 1000 := by
  obtain ⟨hg, hn, _, n2⟩ := T.good
  obtain ⟨N, eN⟩ : ∃ N, N = n + 1 := ⟨_, rfl⟩
  rw [← eN] at hg
  have hNN : N * N ≤ 13 * 13 := Nat.mul_le_mul (by omega) (by omega)
  rcases Nat.lt_or_ge (N * N) E.length with hlt | hge
  · exfalso
    have cd : ∀ i (hi : i < E.length), E[i].1 * N + E[i].2.1 < N * N := fun i hi => by
      obtain ⟨g1, g2, _⟩ := hg E[i] (List.getElem_mem hi)
      have : E[i].1 * N + N ≤ N * N := by
        rw [← Nat.succ_mul]
        exact Nat.mul_le_mul_right N g1
      omega
    obtain ⟨i, j, hij, hj, e⟩ := pigeon (N * N) (fun i => if h : i < E.length then E[i].1 * N + E[i].2.1 else 0) fun i hi => by
      have h : i < E.length := by omega
      show (if h : i < E.length then E[i].1 * N + E[i].2.1 else 0) < N * N
      rw [dif_pos h]
      exact cd i h
    have hi' : i < E.length := by omega
    have hj' : j < E.length := by omega
    have e : (if h : i < E.length then E[i].1 * N + E[i].2.1 else 0) = (if h : j < E.length then E[j].1 * N + E[j].2.1 else 0) := e
    rw [dif_pos hi', dif_pos hj'] at e
    obtain ⟨_, gi, _⟩ := hg E[i] (List.getElem_mem hi')
    obtain ⟨_, gj, _⟩ := hg E[j] (List.getElem_mem hj')
    have hN0 : 0 < N := by omega
    have d1 : E[i].1 = E[j].1 := by
      have q1 : (E[i].1 * N + E[i].2.1) / N = E[i].1 := by rw [Nat.mul_comm, Nat.mul_add_div hN0, Nat.div_eq_of_lt gi]; rfl
      have q2 : (E[j].1 * N + E[j].2.1) / N = E[j].1 := by rw [Nat.mul_comm, Nat.mul_add_div hN0, Nat.div_eq_of_lt gj]; rfl
      rw [← q1, ← q2, e]
    have d2 : E[i].2.1 = E[j].2.1 := by
      rw [d1] at e
      omega
    have hk := List.pairwise_iff_getElem.mp hn i j (by rw [List.length_map]; exact hi') (by rw [List.length_map]; exact hj') hij
    rw [List.getElem_map, List.getElem_map] at hk
    exact hk (by unfold ekey; rw [d1, d2])
  · omega
open Classical in
theorem within_iff {E2 : List Edge} {M : Mat} (Cl : Closed (n + 1) M) (fit : ∀ s, FitE n E s ↔ Fits (n + 1) s M) (hg : GoodE (n + 1) E2) (hn : (E2.map ekey).Nodup) : (E2.all fun e => leB (M e.1 e.2.1) e.2.2) = decide (∀ s, FitE n E s → FitE n E2 s) := by
  by_cases h : (E2.all fun e => leB (M e.1 e.2.1) e.2.2) = true
  · rw [h]
    refine (decide_eq_true fun s f => (fits_edges hn hg s).mpr fun e he => ?_).symm
    have h1 := List.all_eq_true.mp h e he
    obtain ⟨g1, g2, _⟩ := hg e he
    cases em : M e.1 e.2.1 with
    | none => rw [em] at h1; exact nomatch h1
    | some x =>
      rw [em] at h1
      have h2 : x ≤ e.2.2 := of_decide_eq_true h1
      have h3 := (fit s).mp f e.1 e.2.1 x g1 g2 em
      omega
  · have h0 : (E2.all fun e => leB (M e.1 e.2.1) e.2.2) = false := by
      cases hh : (E2.all fun e => leB (M e.1 e.2.1) e.2.2) with
      | true => exact absurd hh h
      | false => rfl
    rw [h0]
    refine (decide_eq_false fun z => ?_).symm
    obtain ⟨e, he, hb⟩ : ∃ e ∈ E2, ¬ leB (M e.1 e.2.1) e.2.2 = true := Classical.byContradiction fun w => h (List.all_eq_true.mpr fun e he => Classical.byContradiction fun w2 => w ⟨e, he, w2⟩)
    obtain ⟨g1, g2, _⟩ := hg e he
    obtain ⟨s, f, hs⟩ := feas_at Cl g1 g2 (x := e.2.2 + 1) fun v hv => by
      rw [hv] at hb
      have : ¬ v ≤ e.2.2 := fun w => hb (decide_eq_true w)
      omega
    have := (fits_edges hn hg s).mp (z s ((fit s).mpr f)) e he
    omega
open Classical in
theorem pure_is_within {u : Nat} {E2 : List Edge} {Q : VK} (T : TabAt C H t n E) (U : TabAt C H u n E2) (k : ∀ H1, Ex H H1 → Q (.bl (decide (∀ s, FitE n E s → FitE n E2 s))) H1) : t_is_within_0 K C (ends Q) [some (.ref t), some (.ref u), none, none, none, none] H := by
  refine q_drop (v := .non) (ev_callV (ea_cons (ev_var rfl) (ea_cons (ev_var rfl) ea_nil)) fun H1 e1 => ⟨t, u, n, E, E2, rfl, T.ex e1, U.ex e1, rfl⟩) fun H1 e1 => ?_
  refine q_pasg (evp_call (ea_cons (ev_var rfl) ea_nil) fun H2 e2 => ⟨t, n, E, rfl, T.ex (e1.trans e2), rfl⟩) fun v H2 e2 hv => ?_
  have e12 := e1.trans e2
  rcases hv with ⟨rfl, hno⟩ | ⟨p, rs, M, rfl, R, Cl, fit, lo⟩
  · refine q_when (b := decide (V.non = V.non)) (et_B (ev_isN (ev_var rfl))) (fun _ H3 e3 => ?_) (fun z => nomatch (of_decide_eq_false z rfl))
    refine s_ret ev_c fun H4 e4 => ?_
    have := k H4 (e12.trans (e3.trans e4))
    rw [decide_eq_true (fun s f => absurd f (hno s))] at this
    exact this
  · refine q_when (b := decide (V.ref p = V.non)) (et_B (ev_isN (ev_var rfl))) (fun z => nomatch (of_decide_eq_true z)) (fun _ H3 e3 => ?_)
    have e13 := e12.trans e3
    refine q_bounds (ev_var rfl) (U.ex e13) fun d H4 hd e4 h4 => ?_
    have R4 := R.ex (e3.trans e4)
    obtain ⟨hg, hn, _, _⟩ := U.good
    refine lock_v (v := .bl ((E2.map fun e => leB (M e.1 e.2.1) e.2.2).all id)) h4 True.intro (fun od => ev_all ?_) fun H5 e5 => ?_
    · rw [← all_map]
      have nd : ∀ c xs, H4 c = some (.lst xs) → upd H4 d (.frz od (.dT (E2.map kvE))) c = some (.lst xs) := fun c xs hc => by
        rw [upd_ne (fun z => by rw [z, h4] at hc; exact nomatch hc)]
        exact hc
      refine el_keysE (fun e => V.bl (leB (M e.1 e.2.1) e.2.2)) (ev_var rfl) upd_same (Nat.le_trans (lenE U) (by decide)) (fun x y => rfl) fun e H5 e5 he => ?_
      obtain ⟨g1, g2, _⟩ := hg e he
      obtain ⟨r, hr, hq⟩ := R4.get g1
      have at_ : Ev (tOp (rIxL K) (tOp (rIxL K) (tVar 2) (tVar 4)) (tVar 5)) [some (.ref t), some (.ref u), some (.ref p), some (.ref d), some (.int (e.1 : Int)), some (.int (e.2.1 : Int))] H5 (ov (M e.1 e.2.1)) :=
        ev_at (ev_var rfl) (ev_var rfl) (ev_var rfl) (e5 _ _ (nd _ _ R4.top)) hr (e5 _ _ (nd _ _ hq)) g2
      refine ev_leB at_ ?_
      intro H6 e6 S s
      refine ⟨.ref d, rfl, eu_tup (σ := [some (.ref t), some (.ref u), some (.ref p), some (.ref d), some (.int (e.1 : Int)), some (.int (e.2.1 : Int))]) (H := H6) (ea_cons (ev_var rfl) (ea_cons (ev_var rfl) ea_nil)) (by show 2 ≤ 100000; decide) H6 (Ex.refl _) _ fun q H7 hq7 e7 h7 => ?_⟩
      have h7 : H7 q = some (.tup ((ekey e).map kV)) := h7
      exact ⟨d, _, rfl, Or.inr ⟨_, ekey e, q, Or.inr ⟨od, (e5.trans (e6.trans e7)) _ _ upd_same⟩, rfl, h7, (val_mem hn he).symm⟩, s H7 e7⟩
    · rw [all_id, within_iff Cl fit hg hn]
      exact k H5 ((e13.trans e4).trans e5)
open Classical in
theorem pure_is_same {u : Nat} {E2 : List Edge} {Q : VK} (T : TabAt C H t n E) (U : TabAt C H u n E2) (k : ∀ H1, Ex H H1 → Q (.bl (decide (∀ s, FitE n E s ↔ FitE n E2 s))) H1) : t_is_same_0 K C (ends Q) [some (.ref t), some (.ref u)] H := by
  refine s_ret (v := .bl (decide (∀ s, FitE n E s → FitE n E2 s) && decide (∀ s, FitE n E2 s → FitE n E s))) (ev_andV (ev_callV (ea_cons (ev_var rfl) (ea_cons (ev_var rfl) ea_nil)) fun H1 e1 => ⟨t, u, n, E, E2, rfl, T.ex e1, U.ex e1, rfl⟩) fun _ => ev_callV (ea_cons (ev_var rfl) (ea_cons (ev_var rfl) ea_nil)) fun H1 e1 => ⟨u, t, n, E2, E, rfl, U.ex e1, T.ex e1, rfl⟩) fun H1 e1 => ?_
  have e : (decide (∀ s, FitE n E s → FitE n E2 s) && decide (∀ s, FitE n E2 s → FitE n E s)) = decide (∀ s, FitE n E s ↔ FitE n E2 s) := by
    rw [← Bool.decide_and]
    refine decide_eq_decide.mpr ⟨fun ⟨a, b⟩ s => ⟨a s, b s⟩, fun a => ⟨fun s => (a s).mp, fun s => (a s).mpr⟩⟩
  rw [e]
  exact k H1 e1
theorem getD_at {xs : List Int} {i : Nat} (hi : i < xs.length) : (intL xs)[i]? = some (V.int (xs.getD i 0)) := by
  rw [List.getElem?_map, List.getElem?_eq_getElem hi, List.getD_eq_getElem?_getD, List.getElem?_eq_getElem hi]
  rfl
theorem pure_fits (F : TabF K C) {w : Addr} {xs : List Int} {Q : VK} (T : TabAt C H t n E) (hw : H w = some (.tup (intL xs))) (hl : xs.length = n) (k : ∀ H1, Ex H H1 → Q (.bl (fitsB E (pre xs))) H1) : t_Table_fits_0 K C (ends Q) [some (.ref t), some (.ref w), none, none, none] H := by
  obtain ⟨hg, hn, n1, n2⟩ := T.good
  refine q_pasg (evp_call (ea_cons (ev_var rfl) ea_nil) fun H1 e1 => ⟨w, xs, rfl, e1 _ _ hw, by omega, by omega, rfl⟩) fun v H1 e1 ⟨p, hv, hp⟩ => ?_
  subst hv
  obtain ⟨dx, d, t1, t2, _⟩ := id (T.ex e1)
  have lw : (intL xs).length = n := by rw [List.length_map, hl]
  refine q_when (b := !decide ((V.int (((intL xs).length : Nat) : Int)) = V.int (n : Int))) (et_test (ev_op (ev_lenT (ev_var rfl) (st_of (e1 _ _ hw))) (ev_size F (ev_var rfl) t1) (rv_ne rfl))) (fun z => ?_) (fun _ H2 e2 => ?_)
  · rw [lw, decide_eq_true rfl] at z
    exact nomatch z
  have d2 := e2 _ _ t2
  have t2' := e2 _ _ t1
  have p2 := e2 _ _ hp
  have lp : (pre xs).length = n + 1 := by
    show (preA 0 xs).length = _
    rw [preA_length, hl]
  refine lock_v (v := .bl ((E.map fun e => decide ((pre xs).getD e.1 0 - (pre xs).getD e.2.1 0 ≤ e.2.2)).all id)) d2 True.intro (fun od => ev_all ?_) fun H5 e5 => ?_
  · rw [← all_map]
    have nt : t ≠ d := ne_of t2' d2 (by intro z; cases z)
    have np : p ≠ d := ne_of p2 d2 (by intro z; cases z)
    have gt : upd H2 d (.frz od (.dT (E.map kvE))) t = some (.ins C dx [("_size", .int (n : Int)), ("_bounds", .ref d)]) := by rw [upd_ne nt]; exact t2'
    have gp : upd H2 d (.frz od (.dT (E.map kvE))) p = some (.tup (intL (pre xs))) := by rw [upd_ne np]; exact p2
    refine el_keysE (fun e => V.bl (decide ((pre xs).getD e.1 0 - (pre xs).getD e.2.1 0 ≤ e.2.2))) (ev_bounds F (ev_var rfl) gt) upd_same (Nat.le_trans (lenE T) (by decide)) (fun x y => rfl) fun e H5 e5 he => ?_
    obtain ⟨g1, g2, _⟩ := hg e he
    refine ev_op (ev_op (ev_op (ev_var rfl) (ev_var rfl) (rv_ixT (st_of (e5 _ _ gp)) (atI_nat (getD_at (by omega))))) (ev_op (ev_var rfl) (ev_var rfl) (rv_ixT (st_of (e5 _ _ gp)) (atI_nat (getD_at (by omega))))) rv_I0) ?_ rv_I0
    intro H6 e6 S s
    refine ev_bounds F (σ := [some (.ref t), some (.ref w), some (.ref p), some (.int (e.1 : Int)), some (.int (e.2.1 : Int))]) (ev_var rfl) ((e5.trans e6) _ _ gt) H6 (Ex.refl _) _ fun H8 e8 => ?_
    refine eu_tup (σ := [some (.ref t), some (.ref w), some (.ref p), some (.int (e.1 : Int)), some (.int (e.2.1 : Int))]) (H := H8) (ea_cons (ev_var rfl) (ea_cons (ev_var rfl) ea_nil)) (by show 2 ≤ 100000; decide) H8 (Ex.refl _) _ fun q H7 hq7 e7 h7 => ?_
    have h7 : H7 q = some (.tup ((ekey e).map kV)) := h7
    exact ⟨d, _, rfl, Or.inr ⟨_, ekey e, q, Or.inr ⟨od, (e5.trans (e6.trans (e8.trans e7))) _ _ upd_same⟩, rfl, h7, (val_mem hn he).symm⟩, s H7 (e8.trans e7)⟩
  · rw [all_id]
    exact k H5 (e1.trans (e2.trans e5))
end
end Bw
/-! The highest and the lowest water. -/
namespace Bw
open PySem PySem.Spec PyProof.Rows L2 Evl
def sp_highest (C : Addr) : Sp := spOf fun vs H P => ∃ t n E, vs = [.ref t] ∧ TabAt C H t n E ∧ P = fun v H2 => v = .non ∨ ∃ w xs, v = .ref w ∧ H2 w = some (.tup (intL xs)) ∧ xs.length = n ∧ ∀ s, FitE n E s → ∀ a, a < n + 1 → s a - s 0 ≤ (pre xs).getD a 0
def sp_lowest (C : Addr) : Sp := spOf fun vs H P => ∃ t n E, vs = [.ref t] ∧ TabAt C H t n E ∧ P = fun v H2 => v = .non ∨ ∃ w xs, v = .ref w ∧ H2 w = some (.tup (intL xs)) ∧ xs.length = n ∧ ∀ s, FitE n E s → ∀ a, a < n + 1 → (pre xs).getD a 0 ≤ s a - s 0
def t_highest_5 (K : PySem.W.Frag) (C : Addr) : TS := (tRet (tCall (sp__water_of C) [] E0 (tCons (tVar 2) tNil)))
def t_highest_4 (K : PySem.W.Frag) (C : Addr) : TS := tSeq (tIfS (tTest (tOp (rIn K false) (tC .non) (tVar 2))) (tRet (tC .non)) tNext) (t_highest_5 K C)
def t_highest_3 (K : PySem.W.Frag) (C : Addr) : TS := tSeq (tAsg (tLc (iList K (tVar 1)) (gName 3) tYes (tOp (rIxL K) (tVar 3) (tC (.int 0))) [3]) (gName 2)) (t_highest_4 K C)
def t_highest_2 (K : PySem.W.Frag) (C : Addr) : TS := tSeq (tIfS (tB (tIsN (tVar 1))) (tRet (tC .non)) tNext) (t_highest_3 K C)
def t_highest_1 (K : PySem.W.Frag) (C : Addr) : TS := tSeq (tAsg (tCall (sp__least_ways C) [] E0 (tCons (tVar 0) tNil)) (gName 1)) (t_highest_2 K C)
def t_highest_0 (K : PySem.W.Frag) (C : Addr) : TS := tSeq (tDrop (tCall (sp__need_table C) [] E0 (tCons (tVar 0) (tCons (tC .non) tNil)))) (t_highest_1 K C)
def t_lowest_3 (K : PySem.W.Frag) (C : Addr) : TS := (tRet (tCall (sp__water_of C) [] E0 (tCons (tLc (iList K (tOp (rIxL K) (tVar 1) (tC (.int 0)))) (gName 2) tYes (tUn rNegI (tVar 2)) [2]) tNil)))
def t_lowest_2 (K : PySem.W.Frag) (C : Addr) : TS := tSeq (tIfS (tOr (tB (tIsN (tVar 1))) (tTest (tOp (rIn K false) (tC .non) (tOp (rIxL K) (tVar 1) (tC (.int 0)))))) (tRet (tC .non)) tNext) (t_lowest_3 K C)
def t_lowest_1 (K : PySem.W.Frag) (C : Addr) : TS := tSeq (tAsg (tCall (sp__least_ways C) [] E0 (tCons (tVar 0) tNil)) (gName 1)) (t_lowest_2 K C)
def t_lowest_0 (K : PySem.W.Frag) (C : Addr) : TS := tSeq (tDrop (tCall (sp__need_table C) [] E0 (tCons (tVar 0) (tCons (tC .non) tNil)))) (t_lowest_1 K C)
section
variable {K : PySem.W.Frag} {C : Addr} {σ : L2.St} {H : Hp} {ta tb tc te : TE} {D : Ends} {t n : Nat} {E : List Edge}
theorem pre_difs : ∀ (x : Int) (r : List Int), preA x (difs (x :: r)) = x :: r
  | x, [] => rfl
  | x, y :: r => by
    have ih := pre_difs y r
    show x :: preA (x + (y - x)) (difs (y :: r)) = x :: y :: r
    rw [show x + (y - x) = y by omega, ih]
theorem difs_len : ∀ (x : Int) (r : List Int), (difs (x :: r)).length = r.length
  | _, [] => rfl
  | x, y :: r => by
    show (difs (y :: r)).length + 1 = r.length + 1
    rw [difs_len y r]
theorem flat_ov (o : Option Int) : flatV (ov o) = true := by cases o <;> rfl
/-- all of a row or column told -/
theorem all_some {N : Nat} {f : Nat → Option Int} (h : inV .non ((List.range N).map fun b => ov (f b)) = false) : ∀ b, b < N → ∃ x, f b = some x := fun b hb => by
  cases e : f b with
  | some x => exact ⟨x, rfl⟩
  | none =>
    have hm : ov (f b) ∈ (List.range N).map fun b => ov (f b) := List.mem_map.mpr ⟨b, List.mem_range.mpr hb, rfl⟩
    have := List.any_eq_false.mp h _ hm
    rw [e] at this
    exact absurd rfl this
theorem flats {N : Nat} {f : Nat → Option Int} : ((List.range N).map fun b => ov (f b)).all flatV = true := List.all_eq_true.mpr fun x hx => by
  obtain ⟨b, _, rfl⟩ := List.mem_map.mp hx
  exact flat_ov _
/-- the numbers told -/
def nums (N : Nat) (f : Nat → Option Int) : List Int := (List.range N).map fun b => (f b).getD 0
theorem nums_ov {N : Nat} {f : Nat → Option Int} (h : ∀ b, b < N → ∃ x, f b = some x) : ((List.range N).map fun b => ov (f b)) = intL (nums N f) := by
  unfold nums intL
  rw [List.map_map]
  refine List.map_congr_left fun b hb => ?_
  obtain ⟨x, hx⟩ := h b (List.mem_range.mp hb)
  show ov (f b) = V.int ((f b).getD 0)
  rw [hx]
  rfl
theorem nums_at {N : Nat} {f : Nat → Option Int} {b : Nat} (hb : b < N) : (nums N f).getD b 0 = (f b).getD 0 := by
  unfold nums
  rw [List.getD_eq_getElem?_getD, List.getElem?_map, List.getElem?_range hb]
  rfl
theorem nums_cons {f : Nat → Option Int} : ∃ r, nums (n + 1) f = (f 0).getD 0 :: r ∧ r.length = n := by
  unfold nums
  rw [List.range_succ_eq_map, List.map_cons]
  exact ⟨_, rfl, by rw [List.length_map, List.length_map, List.length_range]⟩
/-- the water whose sums are told -/
theorem water_told {f : Nat → Option Int} (h0 : (f 0).getD 0 = 0) : (difs (nums (n + 1) f)).length = n ∧ pre (difs (nums (n + 1) f)) = nums (n + 1) f := by
  obtain ⟨r, e, hr⟩ := nums_cons (n := n) (f := f)
  rw [e, h0]
  exact ⟨by rw [difs_len, hr], pre_difs 0 r⟩
theorem pure_highest {Q : VK} (T : TabAt C H t n E) (k : ∀ v H2, Ex H H2 → (v = .non ∨ ∃ w xs, v = .ref w ∧ H2 w = some (.tup (intL xs)) ∧ xs.length = n ∧ ∀ s, FitE n E s → ∀ a, a < n + 1 → s a - s 0 ≤ (pre xs).getD a 0) → Q v H2) : t_highest_0 K C (ends Q) [some (.ref t), none, none, none] H := by
  obtain ⟨_, _, n1, n2⟩ := T.good
  refine q_need (ea_cons (ev_var rfl) (ea_cons ev_c ea_nil)) T fun H1 e1 => ?_
  refine q_pasg (evp_call (ea_cons (ev_var rfl) ea_nil) fun H2 e2 => ⟨t, n, E, rfl, T.ex (e1.trans e2), rfl⟩) fun v H2 e2 hv => ?_
  have e12 := e1.trans e2
  rcases hv with ⟨rfl, hno⟩ | ⟨p, rs, M, rfl, R, Cl, fit, lo⟩
  · refine q_when (b := decide (V.non = V.non)) (et_B (ev_isN (ev_var rfl))) (fun _ H3 e3 => ?_) (fun z => nomatch (of_decide_eq_false z rfl))
    exact s_ret ev_c fun H4 e4 => k .non H4 (e12.trans (e3.trans e4)) (Or.inl rfl)
  · refine q_when (b := decide (V.ref p = V.non)) (et_B (ev_isN (ev_var rfl))) (fun z => nomatch (of_decide_eq_true z)) (fun _ H3 e3 => ?_)
    have e13 := e12.trans e3
    have R3 := R.ex e3
    have lr : (rs.map V.ref).length = n + 1 := by rw [List.length_map, R3.len]
    have gl : given (rs.map V.ref).length (fun _ => true) (fun i => ov (M i 0)) = (List.range (n + 1)).map fun i => ov (M i 0) := by rw [given_all, lr]
    refine q_asgL (xs := (List.range (n + 1)).map fun i => ov (M i 0)) ?_ fun g H4 hg e4 h4 => ?_
    · rw [← gl]
      refine el_lcL (fun _ => true) (fun i => ov (M i 0)) (ev_var rfl) (sq_of R3.top) (by omega) (fun x => rfl) (fun _ _ _ _ _ => et_yes) fun i x H4 e4 hx _ => ?_
      rw [List.getElem?_map] at hx
      obtain ⟨r, hr, rfl⟩ := Option.map_eq_some_iff.mp hx
      have hi := (List.getElem?_eq_some_iff.mp hr).1
      exact ev_op (ev_var rfl) ev_c (rv_ixL (sq_of (e4 _ _ (R3.row i r hr))) (atI_nat (j := 0) (rowV_at (by omega))))
    · refine q_when (et_test (ev_op ev_c (ev_var rfl) (rv_isL (sq_of h4) rfl flats))) (fun _ H5 e5 => ?_) (fun hb H5 e5 => ?_)
      · exact s_ret ev_c fun H6 e6 => k .non H6 (e13.trans (e4.trans (e5.trans e6))) (Or.inl rfl)
      · have some_ := all_some hb
        have h00 : M 0 0 = some 0 := Cl.dg 0 (by omega)
        obtain ⟨w1, w2⟩ := water_told (n := n) (f := fun i => M i 0) (by rw [h00]; rfl)
        have h5 := e5 _ _ h4
        rw [nums_ov some_] at h5
        refine p_ret (evp_call (ea_cons (ev_var rfl) ea_nil) fun H6 e6 => ⟨g, _, rfl, e6 _ _ h5, by unfold nums; rw [List.length_map, List.length_range]; omega, rfl⟩) fun v H6 e6 ⟨w, hv, hw⟩ => ?_
        refine k v H6 (e13.trans (e4.trans (e5.trans e6))) (Or.inr ⟨w, _, hv, hw, w1, fun s f a ha => ?_⟩)
        rw [w2, nums_at ha]
        obtain ⟨x, hx⟩ := some_ a ha
        rw [hx]
        exact (fit s).mp f a 0 x ha (by omega) hx
theorem evp_callL {Pre : List V → Hp → Post → Prop} {X : XK} {xs : List V} {P : Post} (h : EvL te σ H xs) (hp : ∀ p H1, Ex H H1 → H1 p = some (.lst xs) → Pre [.ref p] H1 P) : EvP (tCall (spOf Pre) [] X (tCons te tNil)) σ H P := fun H1 e Q q => h H1 e _ fun p H2 _ e2 h2 =>
  ⟨P, hp p H2 (e.trans e2) h2, fun v H3 e3 pv => q v H3 (e2.trans e3) pv⟩
theorem pure_lowest {Q : VK} (T : TabAt C H t n E) (k : ∀ v H2, Ex H H2 → (v = .non ∨ ∃ w xs, v = .ref w ∧ H2 w = some (.tup (intL xs)) ∧ xs.length = n ∧ ∀ s, FitE n E s → ∀ a, a < n + 1 → (pre xs).getD a 0 ≤ s a - s 0) → Q v H2) : t_lowest_0 K C (ends Q) [some (.ref t), none, none] H := by
  obtain ⟨_, _, n1, n2⟩ := T.good
  refine q_need (ea_cons (ev_var rfl) (ea_cons ev_c ea_nil)) T fun H1 e1 => ?_
  refine q_pasg (evp_call (ea_cons (ev_var rfl) ea_nil) fun H2 e2 => ⟨t, n, E, rfl, T.ex (e1.trans e2), rfl⟩) fun v H2 e2 hv => ?_
  have e12 := e1.trans e2
  rcases hv with ⟨rfl, hno⟩ | ⟨p, rs, M, rfl, R, Cl, fit, lo⟩
  · refine q_when (b := true || true) (et_or (a := true) (et_B (ev_isN (v := .non) (ev_var rfl))) fun z => nomatch z) (fun _ H3 e3 => ?_) (fun z => nomatch z)
    exact s_ret ev_c fun H4 e4 => k .non H4 (e12.trans (e3.trans e4)) (Or.inl rfl)
  · obtain ⟨r0, hr0, hq0⟩ := R.get (a := 0) (by omega)
    have row0 : ∀ H3, Ex H2 H3 → Ev (tOp (rIxL K) (tVar 1) (tC (.int 0))) [some (.ref t), some (.ref p), none] H3 (.ref r0) := fun H3 e3 => ev_row (a := 0) (ev_var rfl) ev_c (e3 _ _ R.top) hr0
    refine q_when (b := false || inV .non (rowV M (n + 1) 0)) (et_or (a := false) (et_B (ev_isN (v := .ref p) (ev_var rfl))) fun _ => et_test (ev_op ev_c (row0 H2 (Ex.refl _)) (rv_isL (sq_of hq0) rfl flats))) (fun _ H3 e3 => ?_) (fun hb H3 e3 => ?_)
    · exact s_ret ev_c fun H6 e6 => k .non H6 (e12.trans (e3.trans e6)) (Or.inl rfl)
    · rw [Bool.false_or] at hb
      have some_ := all_some hb
      have h00 : M 0 0 = some 0 := Cl.dg 0 (by omega)
      obtain ⟨w1, w2⟩ := water_told (n := n) (f := fun i => (M 0 i).map fun x => -x) (by rw [h00]; rfl)
      have q3 := e3 _ _ hq0
      have row_ints : rowV M (n + 1) 0 = intL (nums (n + 1) (M 0)) := nums_ov some_
      have neg : (rowV M (n + 1) 0).map (fun x => match x with | .int i => V.int (-i) | _ => .non) = intL (nums (n + 1) fun i => (M 0 i).map fun x => -x) := by
        unfold rowV nums intL
        rw [List.map_map, List.map_map]
        refine List.map_congr_left fun b hb => ?_
        obtain ⟨x, hx⟩ := some_ b (List.mem_range.mp hb)
        show (match ov (M 0 b) with | .int i => V.int (-i) | _ => .non) = V.int (((M 0 b).map fun x => -x).getD 0)
        rw [hx]
        rfl
      have made : EvL (tLc (iList K (tOp (rIxL K) (tVar 1) (tC (.int 0)))) (gName 2) tYes (tUn rNegI (tVar 2)) [2]) [some (.ref t), some (.ref p), none] H3 (intL (nums (n + 1) fun i => (M 0 i).map fun x => -x)) := by
        rw [← neg]
        refine el_mp _ (row0 H3 e3) (sq_of q3) (by rw [rowV_len]; omega) (fun x => rfl) fun x H4 e4 hx => ?_
        rw [row_ints] at hx
        obtain ⟨y, _, rfl⟩ := List.mem_map.mp hx
        exact ev_un (ev_var rfl) ru_neg
      refine p_ret (evp_callL made fun g H6 e6 h6 => ⟨g, _, rfl, h6, by unfold nums; rw [List.length_map, List.length_range]; omega, rfl⟩) fun v H6 e6 ⟨w, hv, hw⟩ => ?_
      refine k v H6 (e12.trans (e3.trans e6)) (Or.inr ⟨w, _, hv, hw, w1, fun s f a ha => ?_⟩)
      rw [w2, nums_at ha]
      obtain ⟨x, hx⟩ := some_ a ha
      rw [hx]
      show -x ≤ s a - s 0
      have := (fit s).mp f 0 a x (by omega) ha hx
      omega
end
end Bw
/-! Two tables joined. -/
namespace Bw
open PySem PySem.Spec PyProof.Rows L2 Evl
def sp_both (C : Addr) : Sp := spOf fun vs H P => ∃ t u n E E2, vs = [.ref t, .ref u] ∧ TabAt C H t n E ∧ TabAt C H u n E2 ∧ P = fun v H2 => ∃ w E', v = .ref w ∧ TabAt C H2 w n E' ∧ ∀ s, FitE n E' s ↔ (FitE n E s ∧ FitE n E2 s)
def t_both_4 (K : PySem.W.Frag) (C : Addr) : TS := (tRet (tMake C (sp_Table___init__ C) [] E0 (tCons (tProp C (sp_Table_size C) [] E0 (tVar 0)) (tCons (tVar 2) tNil))))
def t_both_3 (K : PySem.W.Frag) (C : Addr) : TS := tSeq (tLock (tFor (iKeys (tVar 3)) (gName 4) (tIfS (tOr (tB (tDNotIn (tVar 4) (tVar 2))) (tTest (tOp rLtI (tDGet (tVar 3) (tVar 4)) (tDGet (tVar 2) (tVar 4))))) (sDPut (tVar 2) (tVar 4) (tDGet (tVar 3) (tVar 4))) tNext))) (t_both_4 K C)
def t_both_2 (K : PySem.W.Frag) (C : Addr) : TS := tSeq (tAsg (tProp C (sp_Table_bounds C) [] E0 (tVar 1)) (gName 3)) (t_both_3 K C)
def t_both_1 (K : PySem.W.Frag) (C : Addr) : TS := tSeq (tAsg (tProp C (sp_Table_bounds C) [] E0 (tVar 0)) (gName 2)) (t_both_2 K C)
def t_both_0 (K : PySem.W.Frag) (C : Addr) : TS := tSeq (tDrop (tCall (sp__need_two C) [] E0 (tCons (tVar 0) (tCons (tVar 1) tNil)))) (t_both_1 K C)
section
variable {K : PySem.W.Frag} {C : Addr} {σ : L2.St} {H : Hp} {ta tb tc te : TE} {D : Ends} {t n : Nat} {E : List Edge}
abbrev okE (s : Nat → Int) (e : Edge) : Prop := s e.1 - s e.2.1 ≤ e.2.2
def repE (L : List Edge) (e : Edge) : List Edge := L.map fun f => if f.1 = e.1 ∧ f.2.1 = e.2.1 then e else f
theorem rep_keys {L : List Edge} {e : Edge} : (repE L e).map ekey = L.map ekey := by
  unfold repE
  rw [List.map_map]
  refine List.map_congr_left fun f _ => ?_
  show ekey (if f.1 = e.1 ∧ f.2.1 = e.2.1 then e else f) = ekey f
  by_cases c : f.1 = e.1 ∧ f.2.1 = e.2.1
  · rw [if_pos c]
    unfold ekey
    rw [c.1, c.2]
  · rw [if_neg c]
theorem put_there {L : List Edge} {e : Edge} {x : Int} (h : lookE L e.1 e.2.1 = some x) : putK (L.map kvE) (ekey e) (.int e.2.2) = (repE L e).map kvE := by
  have hv : (valV (L.map kvE) (ekey e)).isSome = true := by
    show (valV (L.map kvE) (pk ((e.1 : Int), (e.2.1 : Int)))).isSome = true
    rw [val_look, h]
    rfl
  unfold putK
  rw [if_pos (by rw [valV_any]; exact hv)]
  unfold repE
  rw [List.map_map, List.map_map]
  refine List.map_congr_left fun f _ => ?_
  show (if (kvE f).1 = ekey e then ((kvE f).1, V.int e.2.2) else kvE f) = kvE (if f.1 = e.1 ∧ f.2.1 = e.2.1 then e else f)
  by_cases c : f.1 = e.1 ∧ f.2.1 = e.2.1
  · have hk : (kvE f).1 = ekey e := by show ekey f = ekey e; unfold ekey; rw [c.1, c.2]
    rw [if_pos c, if_pos hk, hk]
    rfl
  · have nk : ¬ (kvE f).1 = ekey e := fun z => c (ekey_inj z)
    rw [if_neg c, if_neg nk]
theorem ok_rep {L : List Edge} {e : Edge} {x : Int} {s : Nat → Int} (hn : (L.map ekey).Nodup) (h : lookE L e.1 e.2.1 = some x) (hx : e.2.2 < x) : (∀ f ∈ repE L e, okE s f) ↔ (∀ f ∈ L, okE s f) ∧ okE s e := by
  have hm := (look_mem hn).mp h
  constructor
  · intro a
    have he : okE s e := a e (List.mem_map.mpr ⟨_, hm, by rw [if_pos ⟨rfl, rfl⟩]⟩)
    refine ⟨fun f hf => ?_, he⟩
    by_cases c : f.1 = e.1 ∧ f.2.1 = e.2.1
    · have : lookE L e.1 e.2.1 = some f.2.2 := (look_mem hn).mpr (by rw [← c.1, ← c.2]; exact hf)
      rw [h] at this
      have hfx : x = f.2.2 := Option.some.inj this
      have he : s e.1 - s e.2.1 ≤ e.2.2 := he
      show s f.1 - s f.2.1 ≤ f.2.2
      rw [c.1, c.2]
      omega
    · exact a f (List.mem_map.mpr ⟨f, hf, by rw [if_neg c]⟩)
  · rintro ⟨a, b⟩ f hf
    obtain ⟨g, hg, rfl⟩ := List.mem_map.mp hf
    by_cases c : g.1 = e.1 ∧ g.2.1 = e.2.1
    · rw [if_pos c]; exact b
    · rw [if_neg c]; exact a g hg
theorem look_none {L : List Edge} {a b : Nat} (hn : (L.map ekey).Nodup) (h : lookE L a b = none) : ∀ f ∈ L, ¬ (f.1 = a ∧ f.2.1 = b) := fun f hf z => by
  have := (look_mem (a := f.1) (b := f.2.1) (x := f.2.2) hn).mpr hf
  rw [z.1, z.2, h] at this
  exact nomatch this
theorem lenG (hg : GoodE (n + 1) E) (hn : (E.map ekey).Nodup) (n1 : 1 ≤ n) (n2 : n ≤ 12) : E.length ≤ 1000 :=
  lenE (C := 0) (H := upd (upd (fun _ => none) 1 (.dT (E.map kvE))) 0 (.ins 0 0 [("_size", .int (n : Int)), ("_bounds", .ref 1)])) (u := 0) (n := n) ⟨0, 1, upd_same, by rw [upd_ne (by decide)]; exact upd_same, hg, hn, n1, n2⟩
/-- the word of the walk: the joined bounds as far as they are -/
def BothI (t u d d2 : Addr) (HL : Hp) (n : Nat) (E E2 : List Edge) (i : Nat) (σ' : L2.St) (H' : Hp) : Prop := ∃ v4 L, σ' = [some (.ref t), some (.ref u), some (.ref d), some (.ref d2), v4] ∧ (∀ b o, b ≠ d → HL b = some o → H' b = some o) ∧ H' d = some (.dT (L.map kvE)) ∧ GoodE (n + 1) L ∧ (L.map ekey).Nodup ∧ ∀ s, (∀ f ∈ L, okE s f) ↔ (∀ f ∈ E, okE s f) ∧ ∀ f ∈ E2.take i, okE s f
theorem ev_dnotin {d q : Addr} {k : List Key} {kvs : List (List Key × V)} (h0 : Ev ta σ H (.ref q)) (h1 : Ev tb σ H (.ref d)) (hd : H d = some (.dT kvs)) (hq : H q = some (.tup (k.map kV))) : Ev (tDNotIn ta tb) σ H (.bl (!(valV kvs k).isSome)) := fun H1 e Q r =>
  h0 H1 e _ fun H2 e2 => h1 H2 (e.trans e2) _ fun H3 e3 => ⟨d, _, rfl, DGet.t (((e.trans e2).trans e3) _ _ hd) (((e.trans e2).trans e3) _ _ hq), r H3 (e2.trans e3)⟩
theorem pure_both {u : Nat} {E2 : List Edge} {Q : VK} (T : TabAt C H t n E) (U : TabAt C H u n E2) (k : ∀ w H2 E', Ex H H2 → TabAt C H2 w n E' → (∀ s, FitE n E' s ↔ (FitE n E s ∧ FitE n E2 s)) → Q (.ref w) H2) : t_both_0 K C (ends Q) [some (.ref t), some (.ref u), none, none, none] H := by
  obtain ⟨hg, hn, n1, n2⟩ := T.good
  obtain ⟨hg2, hn2, _, _⟩ := U.good
  refine q_drop (v := .non) (ev_callV (ea_cons (ev_var rfl) (ea_cons (ev_var rfl) ea_nil)) fun H1 e1 => ⟨t, u, n, E, E2, rfl, T.ex e1, U.ex e1, rfl⟩) fun H1 e1 => ?_
  refine q_bounds (ev_var rfl) (T.ex e1) fun d H2 hd e2 h2 => ?_
  have e12 := e1.trans e2
  refine q_bounds (ev_var rfl) (U.ex e12) fun d2 H3 hd2 e3 h3 => ?_
  have e13 := e12.trans e3
  have hdH : H d = none := fresh_back e1 hd
  have hd2H : H d2 = none := fresh_back e12 hd2
  have ndd : d ≠ d2 := fun z => by rw [← z, h2] at hd2; exact nomatch hd2
  have h23 := e3 _ _ h2
  refine q_lock h3 True.intro fun od => ?_
  obtain ⟨HL, eL⟩ : ∃ HL, HL = upd H3 d2 (.frz od (.dT (E2.map kvE))) := ⟨_, rfl⟩
  rw [← eL]
  have gb : HL d2 = some (.frz od (.dT (E2.map kvE))) := by rw [eL]; exact upd_same
  have gd : HL d = some (.dT (E.map kvE)) := by rw [eL, upd_ne ndd]; exact h23
  have gH : ∀ b o, H b = some o → HL b = some o := fun b o hb => by
    rw [eL, upd_ne (ne_of_none hb hd2H)]
    exact e13 _ _ hb
  have kn2 : ((E2.map kvE).map (·.1)).Nodup := by rw [keys_kvE]; exact hn2
  have l2 := lenE U
  have l1 := lenE T
  refine s_forKT (ev_var rfl) gb (BothI t u d d2 HL n E E2)
    (fun H4 e4 => ⟨_, E, rfl, fun b o _ h => e4 _ _ h, e4 _ _ gd, hg, hn, fun s => ⟨fun a => ⟨a, fun f hf => nomatch hf⟩, fun a => a.1⟩⟩) (fun i σ' H' _ ⟨_, _, _, e, _⟩ => e _ _ (fun z => ndd z.symm) gb) (fun i key v q σ' H' hkv hq ⟨v4, L, es, ex, hL, gL, nL, okL⟩ => ?_) (fun σ' H' ⟨v4, L, es, ex, hL, gL, nL, okL⟩ => ?_)
  · subst es
    obtain ⟨e, he, rfl, rfl⟩ := edge_at hkv
    have hem := List.mem_of_getElem? he
    obtain ⟨g1, g2, g3⟩ := hg2 e hem
    have hb2 : H' d2 = some (.frz od (.dT (E2.map kvE))) := ex _ _ (fun z => ndd z.symm) gb
    have tk : E2.take (i + 1) = E2.take i ++ [e] := take_step he
    show tIfS _ _ _ _ [some (.ref t), some (.ref u), some (.ref d), some (.ref d2), some (.ref q)] H'
    have e3' : Ev (tDGet (tVar 3) (tVar 4)) [some (.ref t), some (.ref u), some (.ref d), some (.ref d2), some (.ref q)] H' (.int e.2.2) := ev_dget (ev_var rfl) (ev_var rfl) (Or.inr ⟨od, hb2⟩) hq (val_mem hn2 hem)
    have nin : Ev (tDNotIn (tVar 4) (tVar 2)) [some (.ref t), some (.ref u), some (.ref d), some (.ref d2), some (.ref q)] H' (.bl (!(valV (L.map kvE) (ekey e)).isSome)) := ev_dnotin (ev_var rfl) (ev_var rfl) hL hq
    have vl : valV (L.map kvE) (ekey e) = (lookE L e.1 e.2.1).map V.int := val_look
    have zl : (L.map kvE).length < sizeLine := by
      rw [List.length_map]
      have := lenG gL nL n1 n2
      exact sz_lt (by omega)
    have nxt : ∀ s, ((∀ f ∈ E, okE s f) ∧ ∀ f ∈ E2.take i, okE s f) ∧ okE s e ↔ (∀ f ∈ E, okE s f) ∧ ∀ f ∈ E2.take (i + 1), okE s f := fun s => by
      rw [tk]
      constructor
      · rintro ⟨⟨a, b⟩, c⟩
        refine ⟨a, fun f hf => ?_⟩
        rcases List.mem_append.mp hf with hf | hf
        · exact b f hf
        · rw [List.mem_singleton.mp hf]; exact c
      · rintro ⟨a, b⟩
        exact ⟨⟨a, fun f hf => b f (List.mem_append_left _ hf)⟩, b e (List.mem_append_right _ (List.mem_singleton.mpr rfl))⟩
    have put : ∀ (L' : List Edge), putK (L.map kvE) (ekey e) (.int e.2.2) = L'.map kvE → GoodE (n + 1) L' → (L'.map ekey).Nodup → (∀ s, (∀ f ∈ L', okE s f) ↔ (∀ f ∈ L, okE s f) ∧ okE s e) → ∀ (D' : Ends), (∀ σ' H', BothI t u d d2 HL n E E2 (i + 1) σ' H' → D'.nx σ' H') → ∀ H4, Ex H' H4 →
        sDPut (tVar 2) (tVar 4) (tDGet (tVar 3) (tVar 4)) D' [some (.ref t), some (.ref u), some (.ref d), some (.ref d2), some (.ref q)] H4 := fun L' hp gL' nL' ok' D' hD H4 e4 => by
      refine e3' H4 e4 _ fun H5 e5 => ?_
      have e45 := e4.trans e5
      refine ⟨.ref d, rfl, .ref q, rfl, d, _, rfl, DPut.t (e45 _ _ hL) (e45 _ _ hq) zl, hD _ _ ⟨_, L', rfl, fun b o hb h => ?_, ?_, gL', nL', fun s => ?_⟩⟩
      · rw [upd_ne hb]
        exact e45 _ _ (ex b o hb h)
      · rw [upd_same, hp]
      · rw [ok' s, okL s]
        exact nxt s
    cases el : lookE L e.1 e.2.1 with
    | none =>
      rw [vl, el] at nin
      have out := look_none nL el
      have hp : putK (L.map kvE) (ekey e) (.int e.2.2) = (L ++ [e]).map kvE := by
        rw [L2.putK_new _ (by rw [vl, el]; rfl), List.map_append]
        rfl
      refine s_when (b := true || false) (et_or (a := true) (et_B nin) fun z => nomatch z) (fun _ H4 e4 => put (L ++ [e]) hp (fun f hf => ?_) ?_ (fun s => ?_) _ (fun σ' H' h => h) H4 e4) fun z => nomatch z
      · rcases List.mem_append.mp hf with hf | hf
        · exact gL f hf
        · rw [List.mem_singleton.mp hf]; exact ⟨g1, g2, g3⟩
      · refine nodup_app nL (by simp) fun f hf f' hf' z => ?_
        rw [List.mem_singleton.mp hf'] at z
        exact out f hf z
      · constructor
        · intro a
          exact ⟨fun f hf => a f (List.mem_append_left _ hf), a e (List.mem_append_right _ (List.mem_singleton.mpr rfl))⟩
        · rintro ⟨a, b⟩ f hf
          rcases List.mem_append.mp hf with hf | hf
          · exact a f hf
          · rw [List.mem_singleton.mp hf]; exact b
    | some x =>
      rw [vl, el] at nin
      have bget : Ev (tDGet (tVar 2) (tVar 4)) [some (.ref t), some (.ref u), some (.ref d), some (.ref d2), some (.ref q)] H' (.int x) := ev_dget (ev_var rfl) (ev_var rfl) (Or.inl hL) hq (by rw [vl, el]; rfl)
      have tst : EvT (tOr (tB (tDNotIn (tVar 4) (tVar 2))) (tTest (tOp rLtI (tDGet (tVar 3) (tVar 4)) (tDGet (tVar 2) (tVar 4))))) [some (.ref t), some (.ref u), some (.ref d), some (.ref d2), some (.ref q)] H' (false || decide (e.2.2 < x)) := et_or (a := false) (et_B nin) fun _ => et_test (ev_op e3' bget rv_I0)
      rw [Bool.false_or] at tst
      refine s_when tst (fun hb H4 e4 => put (repE L e) (put_there el) (fun f hf => ?_) (by rw [rep_keys]; exact nL) (fun s => ok_rep nL el (of_decide_eq_true hb)) _ (fun σ' H' h => h) H4 e4) fun hb H4 e4 => ⟨_, L, rfl, fun b o hb h => e4 _ _ (ex b o hb h), e4 _ _ hL, gL, nL, fun s => ?_⟩
      · obtain ⟨g, hgm, rfl⟩ := List.mem_map.mp hf
        by_cases c : g.1 = e.1 ∧ g.2.1 = e.2.1
        · rw [if_pos c]; exact ⟨g1, g2, g3⟩
        · rw [if_neg c]; exact gL g hgm
      · rw [okL s, ← nxt s]
        refine ⟨fun a => ⟨a, ?_⟩, fun a => a.1⟩
        have h1 := (okL s).mpr a _ ((look_mem nL).mp el)
        have h1 : s e.1 - s e.2.1 ≤ x := h1
        have h2 := of_decide_eq_false hb
        show s e.1 - s e.2.1 ≤ e.2.2
        omega
  · subst es
    rw [List.length_map, List.take_length] at okL
    refine ⟨ex _ _ (fun z => ndd z.symm) gb, ?_⟩
    obtain ⟨HZ, eZ⟩ : ∃ HZ, HZ = upd H' d2 (.dT (E2.map kvE)) := ⟨_, rfl⟩
    have exZ : Ex H HZ := fun b o hb => by
      rw [eZ, upd_ne (ne_of_none hb hd2H)]
      exact ex b o (ne_of_none hb hdH) (gH b o hb)
    have dZ : HZ d = some (.dT (L.map kvE)) := by rw [eZ, upd_ne ndd]; exact hL
    rw [← eZ]
    show tMake C (sp_Table___init__ C) [] E0 (tCons (tProp C (sp_Table_size C) [] E0 (tVar 0)) (tCons (tVar 2) tNil)) [some (.ref t), some (.ref u), some (.ref d), some (.ref d2), v4] HZ Q
    have args : EvA (tCons (tProp C (sp_Table_size C) [] E0 (tVar 0)) (tCons (tVar 2) tNil)) [some (.ref t), some (.ref u), some (.ref d), some (.ref d2), v4] HZ [.int (n : Int), .ref d] := ea_cons (ev_propSize (ev_var rfl) (T.ex exZ)) (ea_cons (ev_var rfl) ea_nil)
    refine make_tab (H := HZ) (E := L) (n := n) (fun S s => args HZ (Ex.refl _) _ fun H3 e3 => s d H3 e3 (e3 _ _ dZ)) gL nL n1 n2 ?_ fun x H2 E' e2 W pm => k x H2 E' (exZ.trans e2) W fun s => ?_
    · exact lenG gL nL n1 n2
    · rw [W.fits s, T.fits s, U.fits s, ← okL s]
      exact ⟨fun a f hf => a f (pm.mem_iff.mpr hf), fun a f hf => a f (pm.mem_iff.mp hf)⟩
end
end Bw
/-! Rings. -/
namespace Bw
open PySem PySem.Spec PyProof.Rows L2 Evl
def on : Option Nat → V
  | none => .non
  | some x => .int (x : Int)
abbrev ahL (N : Nat) (f : Nat → Option Nat) : List V := (List.range N).map fun x => on (f x)
abbrev rL (N : Nat) (f : Nat → Int) : List V := (List.range N).map fun x => V.int (f x)
theorem map_at {N i : Nat} {f : Nat → V} (hi : i < N) : ((List.range N).map f)[i]? = some (f i) := by
  rw [List.getElem?_map, List.getElem?_range hi]
  rfl
theorem map_len {N : Nat} {f : Nat → V} : ((List.range N).map f).length = N := by rw [List.length_map, List.length_range]
theorem map_set {N i : Nat} {f g : Nat → V} {v : V} (hi : i < N) (h1 : g i = v) (h2 : ∀ x, x ≠ i → g x = f x) : ((List.range N).map f).set i v = (List.range N).map g := by
  apply List.ext_getElem?
  intro j
  rw [List.getElem?_set, map_len]
  by_cases hj : j < N
  · rw [map_at hj, map_at hj]
    by_cases e : i = j
    · subst e
      rw [if_pos rfl, if_pos hi, h1]
    · rw [if_neg e, h2 j (fun z => e z.symm)]
  · rw [List.getElem?_eq_none (by rw [map_len]; omega), List.getElem?_eq_none (by rw [map_len]; omega)]
    by_cases e : i = j
    · exact absurd (e ▸ hi) hj
    · rw [if_neg e]
def sp__ring_behind (C : Addr) : Sp := spOf fun vs H P => ∃ (a : Addr) (v N L : Nat) (f : Nat → Option Nat) (p : Nat → Nat), vs = [.ref a, .int (v : Int)] ∧ H a = some (.lst (ahL N f)) ∧ p 0 = v ∧ (∀ n, p n < N) ∧ (∀ n, f (p n) = some (p (n + 1))) ∧ 0 < L ∧ L ≤ N ∧ p (N + L) = p N ∧ N ≤ 13 ∧
  P = fun w H2 => ∃ q xs, w = .ref q ∧ H2 q = some (.lst xs)
def sp_ring (C : Addr) : Sp := spOf fun vs H P => ∃ t n E, vs = [.ref t] ∧ TabAt C H t n E ∧ P = fun v H2 => v = .non ∨ ((∀ s, ¬ FitE n E s) ∧ ∃ q xs, v = .ref q ∧ H2 q = some (.lst xs))
def t__ring_behind_5 (K : PySem.W.Frag) (C : Addr) : TS := (tRet (tRevL K (tVar 4)))
def t__ring_behind_4 (K : PySem.W.Frag) (C : Addr) : TS := tSeq (tWhile (tTest (tOp rNe (tVar 5) (tVar 2))) (tSeq (tDrop (tBM K "list" rAppend (tVar 4) (tCons (tVar 5) tNil))) (tAsg (tOp (rIxL K) (tVar 0) (tVar 5)) (gName 5)))) (t__ring_behind_5 K C)
def t__ring_behind_3 (K : PySem.W.Frag) (C : Addr) : TS := tSeq (tAsg (tOp (rIxL K) (tVar 0) (tVar 2)) (gName 5)) (t__ring_behind_4 K C)
def t__ring_behind_2 (K : PySem.W.Frag) (C : Addr) : TS := tSeq (tAsg (tLst (tCons (tVar 2) tNil)) (gName 4)) (t__ring_behind_3 K C)
def t__ring_behind_1 (K : PySem.W.Frag) (C : Addr) : TS := tSeq (tFor (iRng1 (tCons (tCB (cLen K) (tCons (tVar 0) tNil)) tNil)) (gName 3) (tAsg (tOp (rIxL K) (tVar 0) (tVar 2)) (gName 2))) (t__ring_behind_2 K C)
def t__ring_behind_0 (K : PySem.W.Frag) (C : Addr) : TS := tSeq (tAsg (tVar 1) (gName 2)) (t__ring_behind_1 K C)
def t_ring_8 (K : PySem.W.Frag) (C : Addr) : TS := (tRet (tCall (sp__ring_behind C) [] E0 (tCons (tVar 4) (tCons (tVar 5) tNil))))
def t_ring_7 (K : PySem.W.Frag) (C : Addr) : TS := tSeq (tIfS (tB (tIsN (tVar 5))) (tRet (tC .non)) tNext) (t_ring_8 K C)
def t_ring_6 (K : PySem.W.Frag) (C : Addr) : TS := tSeq (tFor (iRng1 (tCons (tVar 1) tNil)) (gName 6) (tSeq (tAsg (tC .non) (gName 5)) (tLock (tFor (iKeys (tVar 2)) (gTup K 2 (gCons (gName 7) (gCons (gName 8) gNil))) (tIfS (tTest (tOp rLtI (tOp rAddI (tOp (rIxL K) (tVar 3) (tVar 7)) (tDGet (tVar 2) (tTup (tCons (tVar 7) (tCons (tVar 8) tNil))))) (tOp (rIxL K) (tVar 3) (tVar 8)))) (tSeq (tAsg (tOp rAddI (tOp (rIxL K) (tVar 3) (tVar 7)) (tDGet (tVar 2) (tTup (tCons (tVar 7) (tCons (tVar 8) tNil))))) (gSub (tVar 3) (tVar 8) rSetL)) (tSeq (tAsg (tVar 7) (gSub (tVar 4) (tVar 8) rSetL)) (tAsg (tVar 8) (gName 5)))) tNext))))) (t_ring_7 K C)
def t_ring_5 (K : PySem.W.Frag) (C : Addr) : TS := tSeq (tAsg (tC .non) (gName 5)) (t_ring_6 K C)
def t_ring_4 (K : PySem.W.Frag) (C : Addr) : TS := tSeq (tAsg (tOp rRep (tLst (tCons (tC .non) tNil)) (tVar 1)) (gName 4)) (t_ring_5 K C)
def t_ring_3 (K : PySem.W.Frag) (C : Addr) : TS := tSeq (tAsg (tOp rRep (tLst (tCons (tC (.int 0)) tNil)) (tVar 1)) (gName 3)) (t_ring_4 K C)
def t_ring_2 (K : PySem.W.Frag) (C : Addr) : TS := tSeq (tAsg (tProp C (sp_Table_bounds C) [] E0 (tVar 0)) (gName 2)) (t_ring_3 K C)
def t_ring_1 (K : PySem.W.Frag) (C : Addr) : TS := tSeq (tAsg (tOp rAddI (tProp C (sp_Table_size C) [] E0 (tVar 0)) (tC (.int 1))) (gName 1)) (t_ring_2 K C)
def t_ring_0 (K : PySem.W.Frag) (C : Addr) : TS := tSeq (tDrop (tCall (sp__need_table C) [] E0 (tCons (tVar 0) (tCons (tC .non) tNil)))) (t_ring_1 K C)
section
variable {K : PySem.W.Frag} {C : Addr} {σ : L2.St} {H : Hp} {ta tb tc te : TE} {D : Ends} {t n : Nat} {E : List Edge}
theorem pure_ring_behind {a : Addr} {v N L : Nat} {f : Nat → Option Nat} {p : Nat → Nat} {Q : VK} (ha : H a = some (.lst (ahL N f))) (p0 : p 0 = v) (hp : ∀ n, p n < N) (hf : ∀ n, f (p n) = some (p (n + 1))) (h0 : 0 < L) (hL : L ≤ N) (per : p (N + L) = p N) (hN : N ≤ 13)
    (k : ∀ q xs H2, Ex H H2 → H2 q = some (.lst xs) → Q (.ref q) H2) : t__ring_behind_0 K C (ends Q) [some (.ref a), some (.int (v : Int)), none, none, none, none] H := by
  have ix : ∀ (σ : L2.St) (H1 : Hp) (te : TE) (i : Nat), σ[0]? = some (some (.ref a)) → Ex H H1 → Ev te σ H1 (.int ((p i : Nat) : Int)) → Ev (tOp (rIxL K) (tVar 0) te) σ H1 (.int ((p (i + 1) : Nat) : Int)) := fun σ H1 te i h0 e h =>
    ev_op (ev_var h0) h (rv_ixL (sq_of (e _ _ ha)) (atI_nat (by rw [map_at (hp i), hf i]; rfl)))
  refine q_asg (v := .int (v : Int)) (ev_var rfl) fun H1 e1 => ?_
  refine q_forR1 (n := (N : Int)) (ea_cons (ev_is (ev_lenL (ev_var rfl) (sq_of (e1 _ _ ha))) (by rw [map_len])) ea_nil) (by omega) (fun i σ' H' => ∃ v3, σ' = [some (.ref a), some (.int (v : Int)), some (.int ((p i : Nat) : Int)), v3, none, none] ∧ Ex H H') (fun H2 e2 => ⟨_, by rw [p0]; rfl, e1.trans e2⟩) (fun i σ' H' hi ⟨v3, es, e⟩ => ?_) (fun σ' H' ⟨v3, es, e⟩ => ?_)
  · subst es
    show tAsg _ _ _ [some (.ref a), some (.int (v : Int)), some (.int ((p i : Nat) : Int)), some (.int (i : Int)), none, none] H'
    exact s_asg (ix _ H' _ i rfl e (ev_var rfl)) fun H2 e2 => ⟨_, rfl, e.trans e2⟩
  · subst es
    rw [Int.toNat_natCast]
    refine q_asgL (el_lst (ea_cons (ev_var rfl) ea_nil) (by show 1 ≤ 100000; decide)) fun q H2 hq e2 h2 => ?_
    have hqH : H q = none := fresh_back e hq
    refine q_asg (v := .int ((p (N + 1) : Nat) : Int)) (ix _ H2 _ N rfl (e.trans e2) (ev_var rfl)) fun H3 e3 => ?_
    refine q_while (fun m σ' H' => ∃ i xs, σ' = [some (.ref a), some (.int (v : Int)), some (.int ((p N : Nat) : Int)), v3, some (.ref q), some (.int ((p (N + 1 + i) : Nat) : Int))] ∧ i < L ∧ m = L - i ∧ H' q = some (.lst xs) ∧ xs.length = i + 1 ∧ Ex H H') L ⟨0, _, rfl, h0, rfl, e3 _ _ h2, rfl, e.trans (e2.trans e3)⟩ (fun m σ' H' ⟨i, xs, es, hi, em, hx, lx, ex⟩ => ?_)
    subst es
    refine ⟨_, et_test (ev_op (ev_var rfl) (ev_var rfl) (rv_ne rfl)), fun hb H4 e4 => ?_, fun hb H4 e4 => ?_⟩
    · have ne : p (N + 1 + i) ≠ p N := fun z => by
        rw [z, decide_eq_true rfl] at hb
        exact nomatch hb
      have hi2 : i + 1 < L := by
        rcases Nat.lt_or_ge (i + 1) L with c | c
        · exact c
        · have : N + 1 + i = N + L := by omega
          rw [this, per] at ne
          exact absurd rfl ne
      refine ⟨fun σ2 H2 => ∃ i xs, σ2 = [some (.ref a), some (.int (v : Int)), some (.int ((p N : Nat) : Int)), v3, some (.ref q), some (.int ((p (N + 1 + i) : Nat) : Int))] ∧ i < L ∧ L - i < m ∧ H2 q = some (.lst xs) ∧ xs.length = i + 1 ∧ Ex H H2, fun σ2 H2 ⟨i, xs, h1, h2, h3, h4⟩ => ⟨L - i, h3, i, xs, h1, h2, rfl, h4⟩, ?_⟩
      refine q_app (l := q) (e4 _ _ hx) (ev_var rfl) (ev_var rfl) (by omega) fun H5 e5 => ?_
      have e5H : Ex H (upd H5 q (.lst (xs ++ [V.int ((p (N + 1 + i) : Nat) : Int)]))) := Ex.mut (ex.trans (e4.trans e5)) hqH
      refine s_asg (ix _ _ _ (N + 1 + i) rfl e5H (ev_var rfl)) fun H6 e6 => ⟨i + 1, _, rfl, hi2, by omega, e6 _ _ upd_same, by rw [List.length_append, lx]; rfl, e5H.trans e6⟩
    · have hx4 := e4 _ _ hx
      refine ⟨.ref q, rfl, q, xs, rfl, sq_of hx4, fun z hz => k z _ _ ((ex.trans e4).trans (Ex.new hz)) upd_same⟩
/-- the state of the rounds -/
structure RgAt (H : Hp) (r3 r4 d : Addr) (N : Nat) (E : List Edge) (S : RSt) (H' : Hp) : Prop where
  ex : Ex H H'
  rr : H' r3 = some (.lst (rL N S.r))
  aa : H' r4 = some (.lst (ahL N S.ah))
  bd : H' d = some (.dT (E.map kvE))
abbrev sRg (t N d r3 r4 c : V) (v6 v7 v8 : Option V) : L2.St := [some t, some N, some d, some r3, some r4, some c, v6, v7, v8]
theorem rep_len {N : Nat} {v : V} : List.replicate N v = (List.range N).map fun _ => v := by
  apply List.ext_getElem?
  intro j
  by_cases hj : j < N
  · rw [map_at hj, List.getElem?_replicate, if_pos hj]
  · rw [List.getElem?_eq_none (by rw [List.length_replicate]; omega), List.getElem?_eq_none (by rw [map_len]; omega)]
theorem el_rep {v : V} {N : Nat} (h1 : EvL ta σ H [v]) (h2 : Ev tb σ H (.int (N : Int))) (hN : N ≤ 1000) : EvL (tOp rRep ta tb) σ H (List.replicate N v) := fun H1 e Q q => h1 H1 e _ fun p H2 hp e2 hl => h2 H2 (e.trans e2) _ fun H3 e3 => ⟨p, (N : Int), [v], rfl, rfl, e3 _ _ hl, by omega, by omega, by
    rw [Int.toNat_natCast]
    exact sz_of (by simp; omega), fun p' hp' => by
    have er : (List.replicate (N : Int).toNat [v]).flatten = List.replicate N v := by
      rw [Int.toNat_natCast]
      exact List.flatten_replicate_singleton
    rw [er]
    exact q p' _ (fresh_back (e2.trans e3) hp') ((e2.trans e3).trans (Ex.new hp')) upd_same⟩
theorem pure_ring {Q : VK} (T : TabAt C H t n E) (k : ∀ v H2, Ex H H2 → (v = .non ∨ ((∀ s, ¬ FitE n E s) ∧ ∃ q xs, v = .ref q ∧ H2 q = some (.lst xs))) → Q v H2) : t_ring_0 K C (ends Q) [some (.ref t), none, none, none, none, none, none, none, none] H := by
  obtain ⟨hg, hn, n1, n2⟩ := T.good
  obtain ⟨N, eN⟩ : ∃ N, N = n + 1 := ⟨_, rfl⟩
  have hN : N ≤ 13 := by omega
  rw [← eN] at hg
  refine q_need (ea_cons (ev_var rfl) (ea_cons ev_c ea_nil)) T fun H1 e1 => ?_
  refine q_asg (v := .int (N : Int)) (ev_is (ev_op (ev_propSize (ev_var rfl) (T.ex e1)) ev_c rv_I0) (by rw [eN]; rfl)) fun H2 e2 => ?_
  have e12 := e1.trans e2
  refine q_bounds (ev_var rfl) (T.ex e12) fun d H3 hd e3 h3 => ?_
  have e13 := e12.trans e3
  have hdH : H d = none := fresh_back e12 hd
  refine q_asgL (el_rep (N := N) (el_lst (ea_cons ev_c ea_nil) (by show 1 ≤ 100000; decide)) (ev_var rfl) (by omega)) fun r3 H4 h3n e4 h4 => ?_
  have e14 := e13.trans e4
  have hr3H : H r3 = none := fresh_back e13 h3n
  refine q_asgL (el_rep (N := N) (el_lst (ea_cons ev_c ea_nil) (by show 1 ≤ 100000; decide)) (ev_var rfl) (by omega)) fun r4 H5 h4n e5 h5 => ?_
  have hr4H : H r4 = none := fresh_back e14 h4n
  have n34 : r3 ≠ r4 := fun z => by rw [z] at h4; rw [h4] at h4n; exact nomatch h4n
  have n3d : r3 ≠ d := fun z => by rw [z, h3] at h3n; exact nomatch h3n
  have n4d : r4 ≠ d := fun z => by rw [z, e4 _ _ h3] at h4n; exact nomatch h4n
  rw [rep_len] at h4 h5
  refine q_asg (v := .non) ev_c fun H6 e6 => ?_
  have w0 : RgAt H r3 r4 d N E ⟨fun _ => 0, fun _ => none, none⟩ H6 := ⟨e14.trans (e5.trans e6), e6 _ _ (e5 _ _ h4), e6 _ _ h5, e6 _ _ (e5 _ _ (e4 _ _ h3))⟩
  refine q_forR1 (n := (N : Int)) (ea_cons (ev_var rfl) ea_nil) (by omega) (fun i σ' H' => ∃ S v6 v7 v8, σ' = sRg (.ref t) (.int (N : Int)) (.ref d) (.ref r3) (.ref r4) (on S.ch) v6 v7 v8 ∧ RgAt H r3 r4 d N E S H' ∧ ((i = 0 ∧ S = ⟨fun _ => 0, fun _ => none, none⟩) ∨ (1 ≤ i ∧ RI N E i E.length S)))
    (fun H7 e7 => ⟨_, _, _, _, rfl, ⟨w0.ex.trans e7, e7 _ _ w0.rr, e7 _ _ w0.aa, e7 _ _ w0.bd⟩, Or.inl ⟨rfl, rfl⟩⟩) (fun i σ' H' hi ⟨S, v6, v7, v8, es, w, I⟩ => ?_) (fun σ' H' ⟨S, v6, v7, v8, es, w, I⟩ => ?_)
  · subst es
    show tSeq _ _ _ (sRg (.ref t) (.int (N : Int)) (.ref d) (.ref r3) (.ref r4) (on S.ch) (some (.int (i : Int))) v7 v8) H'
    refine q_asg (v := .non) ev_c fun H7 e7 => ?_
    have R0 : RI N E (i + 1) 0 ⟨S.r, S.ah, none⟩ := by
      rcases I with ⟨rfl, rfl⟩ | ⟨_, I⟩
      · exact ri_start
      · exact ri_next I
    have bd7 := e7 _ _ w.bd
    refine ⟨d, _, bd7, True.intro, fun od => ?_⟩
    obtain ⟨HL, eL⟩ : ∃ HL, HL = upd H7 d (.frz od (.dT (E.map kvE))) := ⟨_, rfl⟩
    rw [← eL]
    have gb : HL d = some (.frz od (.dT (E.map kvE))) := by rw [eL]; exact upd_same
    have gH : ∀ b o, H b = some o → HL b = some o := fun b o hb => by
      rw [eL, upd_ne (ne_of_none hb hdH)]
      exact e7 _ _ (w.ex _ _ hb)
    have g3 : HL r3 = some (.lst (rL N S.r)) := by rw [eL, upd_ne n3d]; exact e7 _ _ w.rr
    have g4 : HL r4 = some (.lst (ahL N S.ah)) := by rw [eL, upd_ne n4d]; exact e7 _ _ w.aa
    refine s_forKT (ev_var rfl) gb (fun j σ' H' => ∃ S v7 v8, σ' = sRg (.ref t) (.int (N : Int)) (.ref d) (.ref r3) (.ref r4) (on S.ch) (some (.int (i : Int))) v7 v8 ∧ (∀ b o, b ≠ r3 → b ≠ r4 → HL b = some o → H' b = some o) ∧ H' r3 = some (.lst (rL N S.r)) ∧ H' r4 = some (.lst (ahL N S.ah)) ∧ RI N E (i + 1) j S)
      (fun H8 e8 => ⟨⟨S.r, S.ah, none⟩, _, _, rfl, fun b o _ _ h => e8 _ _ h, e8 _ _ g3, e8 _ _ g4, R0⟩) (fun j σ' H' _ ⟨_, _, _, _, kp, _⟩ => kp _ _ (fun z => n3d z.symm) (fun z => n4d z.symm) gb) (fun j key v q σ' H' hkv hq ⟨S, v7, v8, es, kp, q3, q4, R⟩ => ?_) (fun σ' H' ⟨S, v7, v8, es, kp, q3, q4, R⟩ => ?_)
    · subst es
      obtain ⟨e, he, rfl, rfl⟩ := edge_at hkv
      have hem := List.mem_of_getElem? he
      obtain ⟨ga, gb', _⟩ := hg e hem
      have hd' : H' d = some (.frz od (.dT (E.map kvE))) := kp _ _ (fun z => n3d z.symm) (fun z => n4d z.symm) gb
      have R' := ri_step hg he R
      refine ⟨q, _, rfl, st_of hq, rfl, _, _, rfl, _, _, rfl, rfl, ?_⟩
      show tIfS _ _ _ _ (sRg (.ref t) (.int (N : Int)) (.ref d) (.ref r3) (.ref r4) (on S.ch) (some (.int (i : Int))) (some (.int (e.1 : Int))) (some (.int (e.2.1 : Int)))) H'
      have at3 : ∀ (x : Nat) (te : TE), x < N → Ev te (sRg (.ref t) (.int (N : Int)) (.ref d) (.ref r3) (.ref r4) (on S.ch) (some (.int (i : Int))) (some (.int (e.1 : Int))) (some (.int (e.2.1 : Int)))) H' (.int (x : Int)) → Ev (tOp (rIxL K) (tVar 3) te) (sRg (.ref t) (.int (N : Int)) (.ref d) (.ref r3) (.ref r4) (on S.ch) (some (.int (i : Int))) (some (.int (e.1 : Int))) (some (.int (e.2.1 : Int)))) H' (.int (S.r x)) :=
        fun x te hx h => ev_op (ev_var rfl) h (rv_ixL (sq_of q3) (atI_nat (map_at hx)))
      have bval : Ev (tDGet (tVar 2) (tTup (tCons (tVar 7) (tCons (tVar 8) tNil)))) (sRg (.ref t) (.int (N : Int)) (.ref d) (.ref r3) (.ref r4) (on S.ch) (some (.int (i : Int))) (some (.int (e.1 : Int))) (some (.int (e.2.1 : Int)))) H' (.int e.2.2) := by
        intro H8 e8 W w
        refine ⟨.ref d, rfl, eu_tup (σ := sRg (.ref t) (.int (N : Int)) (.ref d) (.ref r3) (.ref r4) (on S.ch) (some (.int (i : Int))) (some (.int (e.1 : Int))) (some (.int (e.2.1 : Int)))) (H := H8) (ea_cons (ev_var rfl) (ea_cons (ev_var rfl) ea_nil)) (by show 2 ≤ 100000; decide) H8 (Ex.refl _) _ fun q' H9 _ e9 h9 => ?_⟩
        have h9 : H9 q' = some (.tup ((ekey e).map kV)) := h9
        exact ⟨d, _, rfl, Or.inr ⟨_, ekey e, q', Or.inr ⟨od, (e8.trans e9) _ _ hd'⟩, rfl, h9, (val_mem hn hem).symm⟩, w H9 e9⟩
      have sum := ev_op (r := rAddI) (at3 e.1 (tVar 7) ga (ev_var rfl)) bval rv_I0
      refine s_when (b := decide (S.r e.1 + e.2.2 < S.r e.2.1)) (et_test (ev_op sum (at3 e.2.1 (tVar 8) gb' (ev_var rfl)) rv_I0)) (fun hb H8 e8 => ?_) (fun hb H8 e8 => ?_)
      · have er : relax S e = ⟨setF S.r e.2.1 (S.r e.1 + e.2.2), setF S.ah e.2.1 (some e.1), some e.2.1⟩ := if_pos (of_decide_eq_true hb)
        rw [er] at R'
        refine q_setL (l := r3) (xs := rL N S.r) (j := e.2.1) (v := .int (S.r e.1 + e.2.2)) (e8 _ _ q3) (sum.mono e8) (ev_var rfl) (ev_var rfl) (by rw [map_len]; exact gb') fun H9 e9 => ?_
        have q49 : upd H9 r3 (.lst ((rL N S.r).set e.2.1 (.int (S.r e.1 + e.2.2)))) r4 = some (.lst (ahL N S.ah)) := by
          rw [upd_ne (fun z => n34 z.symm)]
          exact e9 _ _ (e8 _ _ q4)
        refine q_setL (l := r4) (xs := ahL N S.ah) (j := e.2.1) (v := .int (e.1 : Int)) q49 (ev_var rfl) (ev_var rfl) (ev_var rfl) (by rw [map_len]; exact gb') fun H10 e10 => ?_
        refine s_asg (v := .int (e.2.1 : Int)) (ev_var rfl) fun H11 e11 => ⟨_, _, _, rfl, fun b o b3 b4 h => e11 _ _ ?_, e11 _ _ ?_, e11 _ _ ?_, R'⟩
        · rw [upd_ne b4]
          refine e10 _ _ ?_
          rw [upd_ne b3]
          exact e9 _ _ (e8 _ _ (kp b o b3 b4 h))
        · rw [upd_ne n34]
          refine e10 _ _ ?_
          rw [upd_same]
          refine congrArg (fun l => some (HO.lst l)) (map_set gb' ?_ fun x hx => ?_)
          · show V.int (setF S.r e.2.1 (S.r e.1 + e.2.2) e.2.1) = _
            rw [setF_same]
          · show V.int (setF S.r e.2.1 (S.r e.1 + e.2.2) x) = _
            rw [setF_ne hx]
        · rw [upd_same]
          refine congrArg (fun l => some (HO.lst l)) (map_set gb' ?_ fun x hx => ?_)
          · show on (setF S.ah e.2.1 (some e.1) e.2.1) = _
            rw [setF_same]
            rfl
          · show on (setF S.ah e.2.1 (some e.1) x) = _
            rw [setF_ne hx]
      · have er : relax S e = S := if_neg (of_decide_eq_false hb)
        rw [er] at R'
        exact ⟨S, _, _, rfl, fun b o b3 b4 h => e8 _ _ (kp b o b3 b4 h), e8 _ _ q3, e8 _ _ q4, R'⟩
    · subst es
      rw [List.length_map] at R
      refine ⟨kp _ _ (fun z => n3d z.symm) (fun z => n4d z.symm) gb, S, _, _, _, rfl, ⟨fun b o hb => ?_, ?_, ?_, upd_same⟩, Or.inr ⟨by omega, R⟩⟩
      · rw [upd_ne (ne_of_none hb hdH)]
        exact kp b o (ne_of_none hb hr3H) (ne_of_none hb hr4H) (gH b o hb)
      · rw [upd_ne n3d]; exact q3
      · rw [upd_ne n4d]; exact q4
  · subst es
    rw [Int.toNat_natCast] at I
    have RN : RI N E N E.length S := by
      rcases I with ⟨z, _⟩ | ⟨_, I⟩
      · omega
      · exact I
    cases hc : S.ch with
    | none =>
      refine q_when (b := true) (et_B (ev_isN (v := .non) (ev_var rfl))) (fun _ H7 e7 => ?_) (fun z => nomatch z)
      exact s_ret ev_c fun H8 e8 => k .non H8 (w.ex.trans (e7.trans e8)) (Or.inl rfl)
    | some v =>
      obtain ⟨p, L, B⟩ := ri_back RN hc
      have unfit : ∀ s, ¬ FitE n E s := fun s f => back_unfit B s ((T.fits s).mp f)
      refine q_when (b := false) (et_B (ev_isN (v := .int (v : Int)) (ev_var rfl))) (fun z => nomatch z) (fun _ H7 e7 => ?_)
      refine p_ret (evp_call (ea_cons (ev_var rfl) (ea_cons (ev_var (v := .int (v : Int)) rfl) ea_nil)) fun H8 e8 => ⟨r4, v, N, L, S.ah, p, rfl, e8 _ _ (e7 _ _ w.aa), B.p0, B.lt, B.ah, B.pos, B.le, B.per N (Nat.le_refl _), hN, rfl⟩) fun x H8 e8 ⟨q, xs, hv, hq⟩ => k x H8 (w.ex.trans (e7.trans e8)) (Or.inr ⟨unfit, q, xs, hv, hq⟩)
end
end Bw
/-! A point hidden. -/
namespace Bw
open PySem PySem.Spec PyProof.Rows L2 Evl
/-- the points but one -/
def lfs (n sp : Nat) : List Nat := (List.range (n + 1)).filter fun i => !decide (i = sp)
def sp__can_hide (C : Addr) : Sp := spOf fun vs H P => ∃ (p : Addr) (x n : Nat), vs = [.ref p, .int (n : Int)] ∧ H p = some (.tup [.int (x : Int)]) ∧ 1 ≤ x ∧ x ≤ n ∧ 2 ≤ n ∧ P = isV (.bl true)
def sp_hidden (C : Addr) : Sp := spOf fun vs H P => ∃ (t p : Addr) (x n : Nat) (E : List Edge), vs = [.ref t, .ref p] ∧ TabAt C H t n E ∧ H p = some (.tup [.int (x : Int)]) ∧ 1 ≤ x ∧ x ≤ n ∧ 2 ≤ n ∧
  P = fun v H2 => ∃ u E', v = .ref u ∧ TabAt C H2 u (n - 1) E' ∧ ∀ s, FitE n E s → FitE (n - 1) E' fun i => s ((lfs n x).getD i 0)
def t__can_hide_2 (K : PySem.W.Frag) (C : Addr) : TS := (tRet (tCB (rAll K) (tCons (tLc (RZ.iZipA K (tCons (tVar 0) (tCons (tSl (rSlT K) (tVar 0) (tPart (tC (.int 1))) tNoPart) tNil))) (gTup K 2 (gCons (gName 3) (gCons (gName 4) gNil))) tYes (tOp rLtI (tVar 3) (tVar 4)) [3, 4]) tNil)))
def t__can_hide_1 (K : PySem.W.Frag) (C : Addr) : TS := tSeq (tIfS (tNot (tB (tCB (rAll K) (tCons (tLc (iTup K (tVar 0)) (gName 2) tYes (tCall (sp_is_number_between C) [] E0 (tCons (tVar 2) (tCons (tC (.int 1)) (tCons (tVar 1) tNil)))) [2]) tNil)))) (tRet (tC (.bl false))) tNext) (t__can_hide_2 K C)
def t__can_hide_0 (K : PySem.W.Frag) (C : Addr) : TS := tSeq (tIfS (tOr (tNot (tB (tCB (rIsi K) (tCons (tVar 0) (tCons (tC (.ty "tuple")) tNil))))) (tTest (tOp rGeI (tCB (cLen K) (tCons (tVar 0) tNil)) (tVar 1)))) (tRet (tC (.bl false))) tNext) (t__can_hide_1 K C)
def t_hidden_5 (K : PySem.W.Frag) (C : Addr) : TS := (tRet (tCall (sp__table_of C) [] E0 (tCons (tLc (iList K (tVar 2)) (gName 5) tYes (tLc (iList K (tVar 2)) (gName 6) tYes (tOp (rIxL K) (tOp (rIxL K) (tVar 3) (tVar 5)) (tVar 6)) [6]) [5]) tNil)))
def t_hidden_4 (K : PySem.W.Frag) (C : Addr) : TS := tSeq (tIfS (tB (tIsN (tVar 3))) (tRet (tCall (sp_nothing C) [] E0 (tCons (tOp rSubI (tCB (cLen K) (tCons (tVar 2) tNil)) (tC (.int 1))) tNil))) tNext) (t_hidden_5 K C)
def t_hidden_3 (K : PySem.W.Frag) (C : Addr) : TS := tSeq (tAsg (tCall (sp__least_ways C) [] E0 (tCons (tVar 0) tNil)) (gName 3)) (t_hidden_4 K C)
def t_hidden_2 (K : PySem.W.Frag) (C : Addr) : TS := tSeq (tAsg (tLc (iRng1 (tCons (tOp rAddI (tProp C (sp_Table_size C) [] E0 (tVar 0)) (tC (.int 1))) tNil)) (gName 4) (tTest (tOp (rIn K true) (tVar 4) (tVar 1))) (tVar 4) [4]) (gName 2)) (t_hidden_3 K C)
def t_hidden_1 (K : PySem.W.Frag) (C : Addr) : TS := tSeq (tIfS (tNot (tB (tCall (sp__can_hide C) [] E0 (tCons (tVar 1) (tCons (tProp C (sp_Table_size C) [] E0 (tVar 0)) tNil))))) tNever tNext) (t_hidden_2 K C)
def t_hidden_0 (K : PySem.W.Frag) (C : Addr) : TS := tSeq (tDrop (tCall (sp__need_table C) [] E0 (tCons (tVar 0) (tCons (tC .non) tNil)))) (t_hidden_1 K C)
section
variable {K : PySem.W.Frag} {C : Addr} {σ : L2.St} {H : Hp} {ta tb tc te : TE} {D : Ends} {t n : Nat} {E : List Edge}
theorem walk_zT {a b : Addr} {xs ys : List V} {m : Nat} (hm : m = min xs.length ys.length) : Walk (RZ.ItzT K a b) m (fun H => SqT K H a xs ∧ SqT K H b ys) (YPair (fun i => xs[i]?) (fun i => ys[i]?)) where
  goes := fun i H hi q => ⟨xs, ys, xs[i]'(by omega), ys[i]'(by omega), q.1, q.2, List.getElem?_eq_getElem _, List.getElem?_eq_getElem _⟩
  stops := fun H q => ⟨xs, ys, q.1, q.2, by omega⟩
  yields := fun i H v H' _ q y => by
    obtain ⟨T, x, z, h1, h2, h3, h4, h5⟩ := y
    exact ⟨T, x, z, h1, h2, h3, h4 xs q.1, h5 ys q.2⟩
theorem el_zipT {xs ys : List V} {tA : TA} {i1 i2 : Nat} {vs : List Nat} (f : V → V → V) (h : ∀ H0, Ex H H0 → ∀ Q : List V → Hp → Prop, (∀ a b H1, Ex H0 H1 → SqT K H1 a xs → SqT K H1 b ys → Q [.ref a, .ref b] H1) → tA σ H0 Q) (hz : xs.length ≤ 30000)
    (hw : ∀ x y, wipe (((wipe σ vs).set i1 (some x)).set i2 (some y)) vs = wipe σ vs) (he : ∀ (i : Nat) (x y : V) H1, Ex H H1 → xs[i]? = some x → ys[i]? = some y → Ev te (((wipe σ vs).set i1 (some x)).set i2 (some y)) H1 (f x y)) :
    EvL (tLc (RZ.iZipA K tA) (gTup K 2 (gCons (gName i1) (gCons (gName i2) gNil))) tYes te vs) σ H (List.zipWith f xs ys) := fun H0 e Q q => h H0 e _ fun a b H1 e1 hx hy => ⟨a, b, xs, ys, rfl, Or.inr ⟨hx, hy, fun Dl hD => by
  refine lc_it (walk_zT (xs := xs) (ys := ys) rfl) (Zw H1 f xs ys Dl) ⟨hD, Ex.new hD, upd_same⟩ (fun i H' _ p => ⟨ex_t p.2.1 hx, ex_t p.2.1 hy⟩) (fun i v H' H2 hi p y => ?_) (fun H' p => ?_)
  · obtain ⟨T, x, z, rfl, hT, e2, h1, h2⟩ := y
    exact zw_turn p (by have := (List.getElem?_eq_some_iff.mp h1).1; omega) h1 h2 hT e2 (hw x z) (he i x z H1 (e.trans e1) h1 h2)
  · have p3 := p.2.2
    refine q Dl H' (fresh_back e1 p.1) (e1.trans p.2.1) ?_
    rw [p3, List.take_of_length_le (by rw [List.length_zipWith]; exact Nat.le_refl _)]⟩⟩
theorem pure_can_hide {p : Addr} {x : Nat} {Q : VK} (hp : H p = some (.tup [.int (x : Int)])) (x1 : 1 ≤ x) (x2 : x ≤ n) (n2 : 2 ≤ n) (k : ∀ H1, Ex H H1 → Q (.bl true) H1) : t__can_hide_0 K C (ends Q) [some (.ref p), some (.int (n : Int)), none, none, none] H := by
  refine q_when (b := !true || decide ((n : Int) ≤ ((1 : Nat) : Int))) (et_or (a := !true) (et_not (et_B (ev_isi (ev_var rfl) (fun H1 e => ty_tup (e _ _ hp)) (kit_ty (by decide +kernel))))) fun _ => et_test (ev_op (ev_lenT (ev_var rfl) (st_of hp)) (ev_var rfl) rv_I0)) (fun hb => ?_) (fun _ H1 e1 => ?_)
  · have : decide ((n : Int) ≤ ((1 : Nat) : Int)) = false := decide_eq_false (by omega)
    rw [this] at hb
    exact nomatch hb
  · refine q_when (b := !true) (et_not (et_B (ev_is (w := .bl true) (ev_all (bs := [true]) ?_) rfl))) (fun z => nomatch z) (fun _ H2 e2 => ?_)
    · have := el_mpT (K := K) (σ := [some (.ref p), some (.int (n : Int)), none, none, none]) (H := H1) (te := tCall (sp_is_number_between C) [] E0 (tCons (tVar 2) (tCons (tC (.int 1)) (tCons (tVar 1) tNil)))) (tl := tVar 0) (j := 2) (vs := [2]) (fun _ => V.bl true) (ev_var rfl) (st_of (e1 _ _ hp)) (by show 1 ≤ 40000; decide) (fun y => rfl) (fun y H4 e4 hm => by
        obtain rfl := List.mem_singleton.mp hm
        exact ev_callV (ea_cons (ev_var rfl) (ea_cons ev_c (ea_cons (ev_var rfl) ea_nil))) fun H5 e5 => ⟨(x : Int), 1, (n : Int), rfl, by
          rw [decide_eq_true (show (1 : Int) ≤ (x : Int) by omega), decide_eq_true (show (x : Int) ≤ (n : Int) by omega)]
          rfl⟩)
      exact this
    · refine s_ret (v := .bl (([] : List Bool).all id)) (ev_all ?_) fun H3 e3 => k H3 (e1.trans (e2.trans e3))
      have := el_zipT (K := K) (σ := [some (.ref p), some (.int (n : Int)), none, none, none]) (H := H2) (te := tOp rLtI (tVar 3) (tVar 4)) (tA := tCons (tVar 0) (tCons (tSl (rSlT K) (tVar 0) (tPart (tC (.int 1))) tNoPart) tNil)) (i1 := 3) (i2 := 4) (vs := [3, 4]) (xs := [.int (x : Int)]) (ys := []) (fun _ _ => .non) (fun H0 e0 R r => ?_) (by show 1 ≤ 30000; decide) (fun _ _ => rfl) (fun i y z H5 e5 hy hz => by cases hz)
      · exact this
      · have hp0 := (e1.trans (e2.trans e0)) _ _ hp
        refine ⟨_, rfl, .ref p, rfl, ?_⟩
        refine ⟨1, rfl, p, _, rfl, st_of hp0, (fun z => by cases z.1), fun q hq => ?_⟩
        exact r p q _ (Ex.new hq) (st_of ((Ex.new hq) _ _ hp0)) (st_of (by rw [upd_same]; rfl))
theorem rows_madeL {a : Addr} {xs : List V} {tl : TE} {j : Nat} {vs : List Nat} {row : Nat → List V} (h : Ev tl σ H (.ref a)) (hx : SqL K H a xs) (hz : xs.length ≤ 30000) (hw : ∀ x, wipe ((wipe σ vs).set j (some x)) vs = wipe σ vs)
    (he : ∀ (i : Nat) (x : V) H1, Ex H H1 → xs[i]? = some x → EvL te ((wipe σ vs).set j (some x)) H1 (row i)) {Q : VK}
    (q : ∀ (p : Addr) (rs : List Addr) (H2 : Hp), Ex H H2 → H2 p = some (.lst (rs.map V.ref)) → rs.length = xs.length → rs.Nodup → (∀ i r, rs[i]? = some r → H2 r = some (.lst (row i))) → Q (.ref p) H2) : tLc (iList K tl) (gName j) tYes te vs σ H Q := by
  refine h H (Ex.refl H) _ fun H1 e1 => ⟨a, rfl, ⟨xs, ex_l e1 hx⟩, fun Dl hD => ?_⟩
  have hx1 := ex_l e1 hx
  refine lc_it (walk_list (xs := xs)) (fun i H' => Ex H1 H' ∧ ∃ rs : List Addr, H' Dl = some (.lst (rs.map V.ref)) ∧ rs.length = i ∧ rs.Nodup ∧ (∀ r ∈ rs, H1 r = none ∧ r ≠ Dl) ∧ ∀ b r, rs[b]? = some r → H' r = some (.lst (row b)))
    ⟨Ex.new hD, [], upd_same, rfl, List.nodup_nil, fun r hr => (nomatch hr), fun b r hr => by cases hr⟩ (fun _ _ _ p => ex_l p.1 hx1) (fun i x H' H2 hi ⟨ex, rs, r1, r2, r3, r4, r5⟩ y => ?_) (fun H' ⟨ex, rs, r1, r2, r3, r4, r5⟩ => ?_)
  · obtain ⟨rfl, hxi⟩ := y
    refine ⟨hw _, ?_⟩
    unfold tYes
    refine iteT ?_
    refine he i x H2 (e1.trans ex) hxi H2 (Ex.refl _) _ fun p H3 hp e3 h3 => ?_
    have npD : p ≠ Dl := fun z => by rw [z, r1] at hp; exact nomatch hp
    have npr : p ∉ rs := fun hm => by
      obtain ⟨b, hb, er⟩ := List.mem_iff_getElem.mp hm
      have := r5 b p (by rw [List.getElem?_eq_getElem hb, er])
      rw [this] at hp
      exact nomatch hp
    have hp1 : H1 p = none := fresh_back ex hp
    refine ⟨_, e3 _ _ r1, by rw [List.length_map, r2]; exact sz_lt (by omega), Ex.mut (ex.trans e3) hD, rs ++ [p], ?_, by rw [List.length_append, r2]; rfl, ?_, fun r hr => ?_, fun b r hr => ?_⟩
    · rw [upd_same, List.map_append]
      rfl
    · rw [List.nodup_append]
      refine ⟨r3, by simp, fun u hu y hy => ?_⟩
      rw [List.mem_singleton.mp hy]
      exact fun z => npr (z ▸ hu)
    · rcases List.mem_append.mp hr with hr | hr
      · exact r4 r hr
      · rw [List.mem_singleton.mp hr]
        exact ⟨hp1, npD⟩
    · rcases Nat.lt_or_ge b rs.length with hb | hb
      · rw [List.getElem?_append_left hb] at hr
        rw [upd_ne (r4 r (List.mem_of_getElem? hr)).2]
        exact e3 _ _ (r5 b r hr)
      · rw [List.getElem?_append_right hb] at hr
        have eb : b - rs.length = 0 := by
          have := (List.getElem?_eq_some_iff.mp hr).1
          simp at this
          omega
        rw [eb] at hr
        cases hr
        have : b = i := by omega
        rw [upd_ne npD, this]
        exact h3
  · exact q Dl rs H' (e1.trans ex) r1 r2 r3 r5
theorem lfs_len1 (x : Nat) : ∀ m, ((List.range m).filter fun i => !decide (i = x)).length = if x < m then m - 1 else m
  | 0 => rfl
  | m + 1 => by
    rw [List.range_succ, List.filter_append, List.length_append, lfs_len1 x m]
    by_cases c : m = x
    · subst c
      rw [List.filter_cons_of_neg (by simp), if_neg (Nat.lt_irrefl m), if_pos (Nat.lt_succ_self m)]
      simp
    · rw [List.filter_cons_of_pos (by simp [c])]
      by_cases l : x < m
      · rw [if_pos l, if_pos (by omega)]
        simp
        omega
      · rw [if_neg l, if_neg (by omega)]
        simp
theorem lfs_len {x : Nat} (h : x ≤ n) : (lfs n x).length = n := by
  unfold lfs
  rw [lfs_len1, if_pos (by omega)]
  omega
theorem lfs_lt {x i : Nat} (hx : x ≤ n) (hi : i < n) : (lfs n x).getD i 0 < n + 1 ∧ (lfs n x)[i]? = some ((lfs n x).getD i 0) := by
  have hl : i < (lfs n x).length := by rw [lfs_len hx]; exact hi
  have e : (lfs n x).getD i 0 = (lfs n x)[i] := by rw [List.getD_eq_getElem?_getD, List.getElem?_eq_getElem hl]; rfl
  rw [e, List.getElem?_eq_getElem hl]
  exact ⟨List.mem_range.mp (List.mem_filter.mp (List.getElem_mem hl)).1, rfl⟩
theorem in_one (i x : Nat) : inV (.int (i : Int)) [V.int (x : Int)] = decide (i = x) := by
  have : inV (.int (i : Int)) [V.int (x : Int)] = (decide ((x : Int) = (i : Int)) || false) := rfl
  rw [this, Bool.or_false]
  refine decide_eq_decide.mpr ⟨fun h => by omega, fun h => by omega⟩
theorem pure_hidden {p : Addr} {x : Nat} {Q : VK} (T : TabAt C H t n E) (hp : H p = some (.tup [.int (x : Int)])) (x1 : 1 ≤ x) (x2 : x ≤ n) (n2 : 2 ≤ n)
    (k : ∀ u H2 E', Ex H H2 → TabAt C H2 u (n - 1) E' → (∀ s, FitE n E s → FitE (n - 1) E' fun i => s ((lfs n x).getD i 0)) → Q (.ref u) H2) : t_hidden_0 K C (ends Q) [some (.ref t), some (.ref p), none, none, none, none, none] H := by
  obtain ⟨_, _, n1, n3⟩ := T.good
  refine q_need (ea_cons (ev_var rfl) (ea_cons ev_c ea_nil)) T fun H1 e1 => ?_
  refine q_when (b := !true) (et_not (et_B (ev_callV (ea_cons (ev_var rfl) (ea_cons (ev_propSize (ev_var rfl) (T.ex e1)) ea_nil)) fun H2 e2 => ⟨p, x, n, rfl, (e1.trans e2) _ _ hp, x1, x2, n2, rfl⟩))) (fun z => nomatch z) (fun _ H2 e2 => ?_)
  have e12 := e1.trans e2
  have hp2 := e12 _ _ hp
  have gv : given (n + 1) (fun i => !(inV (.int (i : Int)) [V.int (x : Int)])) (fun i => .int (i : Int)) = (lfs n x).map fun i : Nat => V.int (i : Int) := by
    unfold given lfs
    refine congrArg (List.map _) (List.filter_congr fun i _ => ?_)
    rw [in_one]
  refine q_asgL (xs := (lfs n x).map fun i : Nat => V.int (i : Int)) ?_ fun l H3 hl e3 h3 => ?_
  · rw [← gv]
    have := el_lcR1 (σ := [some (.ref t), some (.ref p), none, none, none, none, none]) (H := H2) (ta := tCons (tOp rAddI (tProp C (sp_Table_size C) [] E0 (tVar 0)) (tC (.int 1))) tNil) (te := tVar 4) (t := tTest (tOp (rIn K true) (tVar 4) (tVar 1))) (j := 4) (vs := [4]) (n := ((n + 1 : Nat) : Int)) (fun i => !(inV (.int (i : Int)) [V.int (x : Int)])) (fun i => .int (i : Int))
      (ea_cons (ev_is (ev_op (ev_propSize (ev_var rfl) (T.ex e12)) ev_c rv_I0) rfl) ea_nil) (by omega) (fun _ => rfl) (fun i H3 e3 _ => et_test (ev_op (ev_var rfl) (ev_var rfl) (rv_niT (st_of (e3 _ _ hp2)) rfl rfl))) (fun i H3 e3 _ _ => ev_var rfl)
    rw [Int.toNat_natCast] at this
    exact this
  have e13 := e12.trans e3
  have ll : ((lfs n x).map fun i : Nat => V.int (i : Int)).length = n := by rw [List.length_map, lfs_len x2]
  refine q_pasg (evp_call (ea_cons (ev_var rfl) ea_nil) fun H4 e4 => ⟨t, n, E, rfl, T.ex (e13.trans e4), rfl⟩) fun v H4 e4 hv => ?_
  have e14 := e13.trans e4
  rcases hv with ⟨rfl, hno⟩ | ⟨q, rs, M, rfl, R, Cl, fit, lo⟩
  · refine q_when (b := true) (et_B (ev_isN (v := .non) (ev_var rfl))) (fun _ H5 e5 => ?_) (fun z => nomatch z)
    have ln : Ev (tOp rSubI (tCB (cLen K) (tCons (tVar 2) tNil)) (tC (.int 1))) [some (.ref t), some (.ref p), some (.ref l), some .non, none, none, none] H5 (.int ((n - 1 : Nat) : Int)) := by
      refine ev_is (ev_op (ev_lenL (ev_var rfl) (sq_of ((e4.trans e5) _ _ h3))) ev_c rv_I0) ?_
      rw [ll]
      congr 1
      omega
    refine p_ret (P := fun v H2 => ∃ t E, v = .ref t ∧ TabAt C H2 t (n - 1) E ∧ E.Perm E0n) (evp_call (ea_cons ln ea_nil) fun H6 e6 => ⟨n - 1, rfl, by omega, by omega, rfl⟩) fun v H6 e6 ⟨u, E', hv, U, pm⟩ => ?_
    subst hv
    exact k u H6 E' (e14.trans (e5.trans e6)) U fun s f => absurd f (hno s)
  · refine q_when (b := false) (et_B (ev_isN (v := .ref q) (ev_var rfl))) (fun z => nomatch z) (fun _ H5 e5 => ?_)
    have h5 := (e4.trans e5) _ _ h3
    have R5 := R.ex e5
    unfold t_hidden_5 tRet tCall
    have at_l : ∀ i w, ((lfs n x).map fun i : Nat => V.int (i : Int))[i]? = some w → i < n ∧ w = .int (((lfs n x).getD i 0 : Nat) : Int) := fun i w hw => by
      have hi := (List.getElem?_eq_some_iff.mp hw).1
      rw [ll] at hi
      rw [List.getElem?_map, (lfs_lt x2 hi).2] at hw
      exact ⟨hi, (Option.some.inj hw).symm⟩
    refine rows_madeL (σ := [some (.ref t), some (.ref p), some (.ref l), some (.ref q), none, none, none]) (a := l) (xs := (lfs n x).map fun i : Nat => V.int (i : Int)) (row := fun i => rowV (fun a b => M ((lfs n x).getD a 0) ((lfs n x).getD b 0)) n i) (ev_var rfl) (sq_of h5) (by omega) (fun _ => rfl) (fun i w H6 e6 hw => ?_) (fun p' rs' H6 e6 htop hlen hnd hrow => ?_)
    · obtain ⟨hi, rfl⟩ := at_l i w hw
      obtain ⟨r, hr, hq⟩ := (R5.ex e6).get (lfs_lt x2 hi).1
      have gl : given ((lfs n x).map fun i : Nat => V.int (i : Int)).length (fun _ => true) (fun b => ov (M ((lfs n x).getD i 0) ((lfs n x).getD b 0))) = rowV (fun a b => M ((lfs n x).getD a 0) ((lfs n x).getD b 0)) n i := by
        rw [given_all, ll]
        rfl
      rw [← gl]
      refine el_lcL (fun _ => true) _ (ev_var rfl) (sq_of (e6 _ _ h5)) (by omega) (fun _ => rfl) (fun _ _ _ _ _ => et_yes) fun b w H7 e7 hw _ => ?_
      obtain ⟨hb, rfl⟩ := at_l b w hw
      exact ev_at (ev_var rfl) (ev_var rfl) (ev_var rfl) ((R5.ex (e6.trans e7)).top) hr (e7 _ _ hq) (lfs_lt x2 hb).1
    · have en : n - 1 + 1 = n := by omega
      refine ⟨fun v H2 => ∃ u E', v = .ref u ∧ TabAt C H2 u (n - 1) E' ∧ ∀ a b, a < n - 1 + 1 → b < n - 1 + 1 → a ≠ b → matE E' a b = M ((lfs n x).getD a 0) ((lfs n x).getD b 0), ⟨p', rs', fun a b => M ((lfs n x).getD a 0) ((lfs n x).getD b 0), n - 1, rfl, ⟨htop, by rw [en, hlen, ll], hnd, fun a r hr => by rw [en]; exact hrow a r hr⟩, by omega, by omega, rfl⟩, fun v H7 e7 ⟨u, E', hv, U, hm⟩ => ?_⟩
      subst hv
      refine k u H7 E' (e14.trans (e5.trans (e6.trans e7))) U fun s f a b y ha hb hy => ?_
      by_cases c : a = b
      · subst c
        unfold matE at hy
        rw [if_pos rfl] at hy
        cases hy
        show s _ - s _ ≤ 0
        omega
      · rw [hm a b ha hb c] at hy
        exact (fit s).mp f _ _ y (lfs_lt x2 (by omega)).1 (lfs_lt x2 (by omega)).1 hy
end
end Bw
/-! The law's own small defs. -/
namespace Bw
open PySem PySem.Spec PyProof.Rows L2 Evl
/-- None, or a water whose sums are not passed upward -/
def TopOk (H : Hp) (n : Nat) (xs : List Int) (v : V) : Prop := v = .non ∨ ∃ w ys, v = .ref w ∧ H w = some (.tup (intL ys)) ∧ ys.length = n ∧ ∀ a, a < n + 1 → (pre xs).getD a 0 ≤ (pre ys).getD a 0
def LowOk (H : Hp) (n : Nat) (xs : List Int) (v : V) : Prop := v = .non ∨ ∃ w ys, v = .ref w ∧ H w = some (.tup (intL ys)) ∧ ys.length = n ∧ ∀ a, a < n + 1 → (pre ys).getD a 0 ≤ (pre xs).getD a 0
theorem TopOk.ex {H H' : Hp} {n : Nat} {xs : List Int} {v : V} (h : TopOk H n xs v) (e : Ex H H') : TopOk H' n xs v := by
  rcases h with h | ⟨w, ys, h1, h2, r⟩
  · exact Or.inl h
  · exact Or.inr ⟨w, ys, h1, e _ _ h2, r⟩
theorem LowOk.ex {H H' : Hp} {n : Nat} {xs : List Int} {v : V} (h : LowOk H n xs v) (e : Ex H H') : LowOk H' n xs v := by
  rcases h with h | ⟨w, ys, h1, h2, r⟩
  · exact Or.inl h
  · exact Or.inr ⟨w, ys, h1, e _ _ h2, r⟩
def sp__law_is_passed (C : Addr) : Sp := spOf fun vs H P => ∃ (p : Addr) (tp lw : V) (xs : List Int) (n : Nat), vs = [.ref p, tp, lw] ∧ H p = some (.tup (intL xs)) ∧ xs.length = n ∧ 1 ≤ n ∧ n ≤ 12 ∧ TopOk H n xs tp ∧ LowOk H n xs lw ∧ P = isV (.bl false)
def t__law_is_passed_2 (K : PySem.W.Frag) (C : Addr) : TS := (tRet (tAndV (tNotN (tVar 2)) (tOp (rNeD K) (tLc (iZipN K (tCons (tVar 3) (tCons (tCall (sp_sums C) [] E0 (tCons (tVar 2) tNil)) tNil))) (gName 4) (tTest (tOp rLtI (tOp (rIxT K) (tVar 4) (tC (.int 0))) (tOp (rIxT K) (tVar 4) (tC (.int 1))))) (tC (.int 1)) [4]) (tLst tNil))))
def t__law_is_passed_1 (K : PySem.W.Frag) (C : Addr) : TS := tSeq (tIfS (tAnd (tB (tNotN (tVar 1))) (tTest (tOp (rNeD K) (tLc (iZipN K (tCons (tVar 3) (tCons (tCall (sp_sums C) [] E0 (tCons (tVar 1) tNil)) tNil))) (gName 4) (tTest (tOp rGtI (tOp (rIxT K) (tVar 4) (tC (.int 0))) (tOp (rIxT K) (tVar 4) (tC (.int 1))))) (tC (.int 1)) [4]) (tLst tNil)))) (tRet (tC (.bl true))) tNext) (t__law_is_passed_2 K C)
def t__law_is_passed_0 (K : PySem.W.Frag) (C : Addr) : TS := tSeq (tAsg (tCall (sp_sums C) [] E0 (tCons (tVar 0) tNil)) (gName 3)) (t__law_is_passed_1 K C)
section
variable {K : PySem.W.Frag} {C : Addr} {σ : L2.St} {H : Hp} {ta tb tc te : TE} {t : TT} {D : Ends} {n : Nat}
/-- [.. for pair in zip(tuple, tuple) if ..], none taken -/
theorem el_zipN0 {xs ys : List V} {tA : TA} {j : Nat} {vs : List Nat} (h : ∀ H0, Ex H H0 → ∀ Q : List V → Hp → Prop, (∀ a b H1, Ex H0 H1 → SqT K H1 a xs → SqT K H1 b ys → Q [.ref a, .ref b] H1) → tA σ H0 Q)
    (hw : ∀ x, wipe ((wipe σ vs).set j (some x)) vs = wipe σ vs) (ht : ∀ (i : Nat) (x y : V) (T : Addr) H1, Ex H H1 → xs[i]? = some x → ys[i]? = some y → H1 T = some (.tup [x, y]) → EvT t ((wipe σ vs).set j (some (.ref T))) H1 false) :
    EvL (tLc (iZipN K tA) (gName j) t te vs) σ H [] := fun H0 e Q q => h H0 e _ fun a b H1 e1 hx hy => ⟨a, b, xs, ys, rfl, hx, hy, fun Dl hD => by
  refine lc_it (walk_zT (xs := xs) (ys := ys) rfl) (fun i H' => H1 Dl = none ∧ Ex H1 H' ∧ H' Dl = some (.lst [])) ⟨hD, Ex.new hD, upd_same⟩ (fun i H' _ p => ⟨ex_t p.2.1 hx, ex_t p.2.1 hy⟩) (fun i v H' H2 hi p y => ?_) (fun H' p => q Dl H' (fresh_back e1 p.1) (e1.trans p.2.1) p.2.2)
  obtain ⟨T, x, z, rfl, hT, rfl, h1, h2⟩ := y
  obtain ⟨p1, p2, p3⟩ := p
  have eT : Ex H' (upd H' T (.tup [x, z])) := Ex.new hT
  refine ⟨hw _, ht i x z T _ ((e.trans e1).trans (p2.trans eT)) h1 h2 upd_same _ (Ex.refl _) _ fun H3 e3 => ?_⟩
  exact iteF ⟨p1, p2.trans (eT.trans e3), e3 _ _ (eT _ _ p3)⟩⟩
theorem ev_neNil (h : EvL ta σ H []) : Ev (tOp (rNeD K) ta (tLst tNil)) σ H (.bl false) := fun H1 e Q q => h H1 e _ fun p H2 _ e2 h2 =>
  ⟨sz0, fun p2 hp2 => ne_nil (l := []) ((Ex.new hp2) _ _ h2) upd_same (q _ (e2.trans (Ex.new hp2)))⟩
theorem zip_args {a : Addr} {xs ys : List Int} (h0 : Ev ta σ H (.ref a)) (ha : H a = some (.tup (intL xs))) {b : Addr} (h1 : Ev tb σ H (.ref b)) (hb : H b = some (.tup (intL ys))) (l1 : 1 ≤ ys.length) (l2 : ys.length ≤ 12) :
    ∀ H0, Ex H H0 → ∀ Q : List V → Hp → Prop, (∀ a b H1, Ex H0 H1 → SqT K H1 a (intL xs) → SqT K H1 b (intL (pre ys)) → Q [.ref a, .ref b] H1) → (tCons ta (tCons (tCall (sp_sums C) [] E0 (tCons tb tNil)) tNil)) σ H0 Q := fun H0 e Q q =>
  h0 H0 e _ fun H1 e1 => evp_call (P := isT (intL (pre ys))) (ea_cons h1 ea_nil) (fun H2 e2 => ⟨b, ys, rfl, e2 _ _ hb, l1, l2, rfl⟩) H1 (e.trans e1) _ fun v H2 e2 ⟨p, hv, hp⟩ => by
    subst hv
    exact q a p H2 (e1.trans e2) (st_of ((e.trans (e1.trans e2)) _ _ ha)) (st_of hp)
theorem pre_at {xs : List Int} {i : Nat} {v : V} (h : (intL (pre xs))[i]? = some v) : i < xs.length + 1 ∧ v = .int ((pre xs).getD i 0) := by
  have hi := (List.getElem?_eq_some_iff.mp h).1
  rw [List.length_map] at hi
  have hl := preA_length 0 xs
  have hi2 : i < (pre xs).length := hi
  rw [getD_at hi2] at h
  exact ⟨by show i < _; rw [← hl]; exact hi, (Option.some.inj h).symm⟩
theorem pure_is_passed {p : Addr} {tp lw : V} {xs : List Int} {Q : VK} (hp : H p = some (.tup (intL xs))) (hl : xs.length = n) (n1 : 1 ≤ n) (n2 : n ≤ 12) (ht : TopOk H n xs tp) (hw : LowOk H n xs lw) (k : ∀ H1, Ex H H1 → Q (.bl false) H1) : t__law_is_passed_0 K C (ends Q) [some (.ref p), some tp, some lw, none, none] H := by
  refine q_pasg (evp_call (ea_cons (ev_var rfl) ea_nil) fun H1 e1 => ⟨p, xs, rfl, e1 _ _ hp, by omega, by omega, rfl⟩) fun v H1 e1 ⟨lv, hv, hlv⟩ => ?_
  subst hv
  show t__law_is_passed_1 K C (ends Q) [some (.ref p), some tp, some lw, some (.ref lv), none] H1
  have last : ∀ H2, Ex H1 H2 → t__law_is_passed_2 K C (ends Q) [some (.ref p), some tp, some lw, some (.ref lv), none] H2 := fun H2 e2 => by
    rcases (hw.ex e1).ex e2 with rfl | ⟨w, ys, rfl, hwt, ly, le⟩
    · exact s_ret (v := .bl (false && false)) (ev_andV (a := false) (b := false) (ev_notN (v := .non) (ev_var rfl)) fun z => nomatch z) fun H3 e3 => k H3 (e1.trans (e2.trans e3))
    · refine s_ret (v := .bl (true && false)) (ev_andV (a := true) (ev_notN (v := .ref w) (ev_var rfl)) fun _ => ev_neNil (el_zipN0 (zip_args (ev_var rfl) (e2 _ _ hlv) (ev_var rfl) hwt (by omega) (by omega)) (fun _ => rfl) fun i x y T H3 e3 hx hy hT => ?_)) fun H3 e3 => k H3 (e1.trans (e2.trans e3))
      obtain ⟨hi, rfl⟩ := pre_at hx
      obtain ⟨_, rfl⟩ := pre_at hy
      have := le i (by omega)
      exact et_is (et_test (ev_op (ev_op (ev_var rfl) ev_c (rv_ixT (st_of hT) (atI_nat (j := 0) rfl))) (ev_op (ev_var rfl) ev_c (rv_ixT (st_of hT) (atI_nat (j := 1) rfl))) rv_I0)) (decide_eq_false (by omega))
  rcases ht.ex e1 with rfl | ⟨w, ys, rfl, hwt, ly, le⟩
  · exact q_when (b := false && false) (et_and (a := false) (b := false) (et_B (ev_notN (v := .non) (ev_var rfl))) fun z => nomatch z) (fun z => nomatch z) fun _ H2 e2 => last H2 e2
  · refine q_when (b := true && false) (et_and (a := true) (et_B (ev_notN (v := .ref w) (ev_var rfl))) fun _ => et_test (ev_neNil (el_zipN0 (zip_args (ev_var rfl) hlv (ev_var rfl) hwt (by omega) (by omega)) (fun _ => rfl) fun i x y T H3 e3 hx hy hT => ?_))) (fun z => nomatch z) fun _ H2 e2 => last H2 e2
    obtain ⟨hi, rfl⟩ := pre_at hx
    obtain ⟨_, rfl⟩ := pre_at hy
    have := le i (by omega)
    exact et_is (et_test (ev_op (ev_op (ev_var rfl) ev_c (rv_ixT (st_of hT) (atI_nat (j := 0) rfl))) (ev_op (ev_var rfl) ev_c (rv_ixT (st_of hT) (atI_nat (j := 1) rfl))) rv_I0)) (decide_eq_false (by omega))
end
end Bw
/-! A water out of the other table is shown. -/
namespace Bw
open PySem PySem.Spec PyProof.Rows L2 Evl
def sp__law_out (C : Addr) : Sp := spOf fun vs H P => ∃ (t u n : Nat) (E E2 : List Edge), vs = [.ref t, .ref u, .int (n : Int)] ∧ TabAt C H t n E ∧ TabAt C H u n E2 ∧ ¬ (∀ s, FitE n E s → FitE n E2 s) ∧ P = isV (.bl true)
def t__law_out_2 (K : PySem.W.Frag) (C : Addr) : TS := (tRet (tC (.bl false)))
def t__law_out_1 (K : PySem.W.Frag) (C : Addr) : TS := tSeq (tFor (iItemsT (tProp C (sp_Table_bounds C) [] E0 (tVar 1))) (gTup K 2 (gCons (gName 4) (gCons (gName 5) gNil))) (tIfS (tOr (tB (tDNotIn (tVar 4) (tVar 3))) (tTest (tOp rGtI (tDGet (tVar 3) (tVar 4)) (tVar 5)))) (tSeq (tAsg (tVar 4) (gTup K 2 (gCons (gName 7) (gCons (gName 8) gNil)))) (tSeq (tAsg (tCall (sp_both C) [] E0 (tCons (tVar 0) (tCons (tMake C (sp_Table___init__ C) [] E0 (tCons (tVar 2) (tCons (tDispT [((tTup (tCons (tVar 8) (tCons (tVar 7) tNil))), (tOp rSubI (tOp rSubI (tC (.int 0)) (tVar 5)) (tC (.int 1))))]) tNil))) tNil))) (gName 6)) (tIfS (tAnd (tB (tIsN (tCall (sp_ring C) [] E0 (tCons (tVar 6) tNil)))) (tB (tCall (sp_is_within C) [] E0 (tCons (tVar 6) (tCons (tVar 0) tNil))))) (tRet (tC (.bl true))) tNext))) tNext)) (t__law_out_2 K C)
def t__law_out_0 (K : PySem.W.Frag) (C : Addr) : TS := tSeq (tAsg (tProp C (sp_Table_bounds C) [] E0 (tCall (sp_closed C) [] E0 (tCons (tVar 0) tNil))) (gName 3)) (t__law_out_1 K C)
section
variable {K : PySem.W.Frag} {C : Addr} {σ : L2.St} {H : Hp} {ta tb tc te : TE} {D : Ends} {t n : Nat} {E : List Edge}
theorem walk_itp {d : Addr} {o : Obj} {kvs : List (List Key × V)} : Walk (Itp d o kvs) kvs.length (fun H => H d = some (.frz o (.dT kvs))) (fun i H x H' => ∃ (T q : Addr) (k : List Key) (v : V), kvs[i]? = some (k, v) ∧ x = .ref T ∧ H T = none ∧ H q = some (.tup (k.map kV)) ∧ H' = upd H T (.tup [.ref q, v])) :=
  ⟨fun _ _ hi q => ⟨q, hi⟩, fun _ q => ⟨q, Nat.le_refl _⟩, fun _ _ _ _ _ _ y => y⟩
theorem ev_ofP {P : Post} {z : V} (h : EvP te σ H P) (hp : ∀ v H2, P v H2 → v = z) : Ev te σ H z := fun H1 e Q q => h H1 e Q fun v H2 e2 pv => by
  rw [hp v H2 pv]
  exact q H2 e2
/-- bounds of a table that an expression tells -/
theorem prop_bounds {P : Post} {Q : VK} (h : EvP te σ H P) (k : ∀ v H1, Ex H H1 → P v H1 → ∃ u E', v = .ref u ∧ TabAt C H1 u n E' ∧ ∀ d H2, H d = none → Ex H1 H2 → H2 d = some (.dT (E'.map kvE)) → Q (.ref d) H2) : tProp C (sp_Table_bounds C) [] E0 te σ H Q :=
  h H (Ex.refl _) _ fun v H1 e1 hv => by
    obtain ⟨u, E', rfl, T, q⟩ := k v H1 e1 hv
    obtain ⟨dx, d, h1, _⟩ := id T
    exact ⟨u, dx, _, rfl, h1, u, n, E', rfl, T, fun d' H2 hd e2 h2 => q d' H2 (fresh_back e1 hd) e2 h2⟩
/-- x = f(e, Table(..)) -/
theorem q_callM {Pre : List V → Hp → Post → Prop} {tm : TE} {i : Nat} {tz : TS} {X : XK} {v0 : V} {W : Addr → Hp → Prop} {P : Post} (h0 : Ev ta σ H v0) (hm : ∀ H1, Ex H H1 → ∀ R : VK, (∀ x H2, Ex H1 H2 → W x H2 → R (.ref x) H2) → tm σ H1 R)
    (hp : ∀ x H2, Ex H H2 → W x H2 → ∃ P', Pre [v0, .ref x] H2 P' ∧ ∀ v H3, P' v H3 → P v H3) (k : ∀ v H2, Ex H H2 → P v H2 → tz D (σ.set i (some v)) H2) : tSeq (tAsg (tCall (spOf Pre) [] X (tCons ta (tCons tm tNil))) (gName i)) tz D σ H :=
  h0 H (Ex.refl _) _ fun H1 e1 => hm H1 e1 _ fun x H2 e2 w => by
    obtain ⟨P', hP, hq⟩ := hp x H2 (e1.trans e2) w
    exact ⟨P', hP, fun v H3 e3 pv => k v H3 ((e1.trans e2).trans e3) (hq v H3 pv)⟩
open Classical in
theorem pure_out {u : Nat} {E2 : List Edge} {Q : VK} (T : TabAt C H t n E) (U : TabAt C H u n E2) (hno : ¬ (∀ s, FitE n E s → FitE n E2 s)) (k : ∀ H1, Ex H H1 → Q (.bl true) H1) : t__law_out_0 K C (ends Q) [some (.ref t), some (.ref u), some (.int (n : Int)), none, none, none, none, none, none] H := by
  obtain ⟨s0, f0, g0⟩ : ∃ s, FitE n E s ∧ ¬ FitE n E2 s := Classical.byContradiction fun z => hno fun s f => Classical.byContradiction fun w => z ⟨s, f, w⟩
  obtain ⟨_, _, n1, n2⟩ := T.good
  obtain ⟨hg2, hn2, _, _⟩ := U.good
  unfold t__law_out_0 tSeq tAsg
  refine prop_bounds (n := n) (P := fun v H2 => ∃ u E', v = .ref u ∧ TabAt C H2 u n E' ∧ (∀ s, FitE n E' s ↔ FitE n E s) ∧ ((∀ s, ¬ FitE n E s) ∨ Closed (n + 1) (matE E'))) (evp_call (ea_cons (ev_var rfl) ea_nil) fun H1 e1 => ⟨t, n, E, rfl, T.ex e1, rfl⟩) fun v H1 e1 ⟨uk, Ek, hv, Tk, fk, ck⟩ => ⟨uk, Ek, hv, Tk, fun dk H2 hdk e2 h2 => ?_⟩
  have Cl : Closed (n + 1) (matE Ek) := ck.resolve_left fun z => z s0 f0
  obtain ⟨hgk, hnk, _, _⟩ := Tk.good
  have e12 := e1.trans e2
  show t__law_out_1 K C (ends Q) [some (.ref t), some (.ref u), some (.int (n : Int)), some (.ref dk), none, none, none, none, none] H2
  unfold t__law_out_1 tSeq tFor iItemsT
  refine prop_bounds (n := n) (P := fun v H3 => v = .ref u) (evp_v (ev_var rfl)) fun v H3 e3 hv => ⟨u, E2, hv, U.ex (e12.trans e3), fun dr H4 hdr e4 h4 => ?_⟩
  have e14 := e12.trans (e3.trans e4)
  have e24 := e3.trans e4
  refine ⟨dr, _, rfl, h4, fun od => ?_⟩
  have hdrH : H dr = none := fresh_back e12 hdr
  have ndk : dk ≠ dr := fun z => by rw [← z, h2] at hdr; exact nomatch hdr
  obtain ⟨HL, eL⟩ : ∃ HL, HL = upd H4 dr (.frz od (.dT (E2.map kvE))) := ⟨_, rfl⟩
  rw [← eL]
  have gb : HL dr = some (.frz od (.dT (E2.map kvE))) := by rw [eL]; exact upd_same
  have eHL : Ex H HL := by rw [eL]; exact Ex.mut e14 hdrH
  have gk : HL dk = some (.dT (Ek.map kvE)) := by rw [eL, upd_ne ndk]; exact e24 _ _ h2
  refine for_it (D := { nx := t__law_out_2 K C (ends Q), rt := (ends Q).rt, bk := (ends Q).bk, ct := (ends Q).ct }) walk_itp (fun i σ' H' => ∃ v4 v5 v6 v7 v8, σ' = [some (.ref t), some (.ref u), some (.int (n : Int)), some (.ref dk), v4, v5, v6, v7, v8] ∧ Ex HL H' ∧ ∀ e ∈ E2.take i, ∃ x, lookE Ek e.1 e.2.1 = some x ∧ x ≤ e.2.2)
    ⟨_, _, _, _, _, rfl, Ex.refl _, fun e he => nomatch he⟩ (fun i σ' H' _ ⟨_, _, _, _, _, _, ex, _⟩ => ex _ _ gb) (fun i w σ' H' H5 hi ⟨v4, v5, v6, v7, v8, es, ex, ok⟩ y => ?_) (fun σ' H' ⟨v4, v5, v6, v7, v8, es, ex, ok⟩ => ?_)
  · subst es
    obtain ⟨Tp, q, key, v, hkv, rfl, hTp, hq, rfl⟩ := y
    obtain ⟨e, he, rfl, rfl⟩ := edge_at hkv
    have hem := List.mem_of_getElem? he
    obtain ⟨g1, g2, g3⟩ := hg2 e hem
    have eT : Ex H' (upd H' Tp (.tup [.ref q, .int e.2.2])) := Ex.new hTp
    refine ⟨Tp, _, rfl, st_of upd_same, rfl, _, _, rfl, _, _, rfl, rfl, ?_⟩
    obtain ⟨H5, e5⟩ : ∃ H5, H5 = upd H' Tp (.tup [.ref q, .int e.2.2]) := ⟨_, rfl⟩
    rw [← e5] at eT ⊢
    have hq5 : H5 q = some (.tup ((ekey e).map kV)) := eT _ _ hq
    have ex5 := ex.trans eT
    have k5 := ex5 _ _ gk
    have eH5 := eHL.trans ex5
    show tIfS _ _ _ _ [some (.ref t), some (.ref u), some (.int (n : Int)), some (.ref dk), some (.ref q), some (.int e.2.2), v6, v7, v8] H5
    have nin : Ev (tDNotIn (tVar 4) (tVar 3)) [some (.ref t), some (.ref u), some (.int (n : Int)), some (.ref dk), some (.ref q), some (.int e.2.2), v6, v7, v8] H5 (.bl (!(valV (Ek.map kvE) (ekey e)).isSome)) := ev_dnotin (ev_var rfl) (ev_var rfl) k5 hq5
    have vl : valV (Ek.map kvE) (ekey e) = (lookE Ek e.1 e.2.1).map V.int := val_look
    have tk : E2.take (i + 1) = E2.take i ++ [e] := take_step he
    have mk : matE Ek e.1 e.2.1 = lookE Ek e.1 e.2.1 := by unfold matE; rw [if_neg g3]; rfl
    have yes : (∃ s, FitE n E s ∧ e.2.2 + 1 ≤ s e.1 - s e.2.1) → ∀ (D' : Ends), D'.rt = Q → ∀ H6, Ex H5 H6 → tSeq (tAsg (tVar 4) (gTup K 2 (gCons (gName 7) (gCons (gName 8) gNil)))) (tSeq (tAsg (tCall (sp_both C) [] E0 (tCons (tVar 0) (tCons (tMake C (sp_Table___init__ C) [] E0 (tCons (tVar 2) (tCons (tDispT [((tTup (tCons (tVar 8) (tCons (tVar 7) tNil))), (tOp rSubI (tOp rSubI (tC (.int 0)) (tVar 5)) (tC (.int 1))))]) tNil))) tNil))) (gName 6)) (tIfS (tAnd (tB (tIsN (tCall (sp_ring C) [] E0 (tCons (tVar 6) tNil)))) (tB (tCall (sp_is_within C) [] E0 (tCons (tVar 6) (tCons (tVar 0) tNil))))) (tRet (tC (.bl true))) tNext)) D'
        [some (.ref t), some (.ref u), some (.int (n : Int)), some (.ref dk), some (.ref q), some (.int e.2.2), v6, v7, v8] H6 := fun ⟨s, fs, hs⟩ D' hrt H6 e6 => by
      refine ⟨.ref q, rfl, q, _, rfl, st_of (e6 _ _ hq5), rfl, _, _, rfl, _, _, rfl, rfl, ?_⟩
      show tSeq _ _ D' [some (.ref t), some (.ref u), some (.int (n : Int)), some (.ref dk), some (.ref q), some (.int e.2.2), v6, some (.int (e.1 : Int)), some (.int (e.2.1 : Int))] H6
      have eH6 := eH5.trans e6
      refine q_callM (v0 := .ref t) (W := fun x H7 => ∃ E1, TabAt C H7 x n E1 ∧ E1.Perm [(e.2.1, e.1, 0 - e.2.2 - 1)]) (P := fun v H8 => ∃ w En, v = .ref w ∧ TabAt C H8 w n En ∧ ∀ s, FitE n En s ↔ (FitE n E s ∧ okE s (e.2.1, e.1, 0 - e.2.2 - 1))) (ev_var rfl) (fun H7 e7 R r => ?_) (fun x H7 e7 ⟨E1, T1, pm⟩ => ?_) fun v H8 e8 ⟨w, En, hv, Tn, fn⟩ => ?_
      · refine make_tab (H := H7) (n := n) (E := [(e.2.1, e.1, 0 - e.2.2 - 1)]) (fun R' r' => ⟨.int (n : Int), rfl, ?_⟩) (fun f hf => ?_) (by simp) n1 n2 (by show 1 ≤ 1000; decide) fun x H8 E1 e8 T1 pm => r x H8 e8 ⟨E1, T1, pm⟩
        · refine disp_go (σ := [some (.ref t), some (.ref u), some (.int (n : Int)), some (.ref dk), some (.ref q), some (.int e.2.2), v6, some (.int (e.1 : Int)), some (.int (e.2.1 : Int))]) (H := H7) (es := [(e.2.1, e.1, 0 - e.2.2 - 1)]) (.cons ⟨eu_tup (ea_cons (ev_var rfl) (ea_cons (ev_var rfl) ea_nil)) (by show 2 ≤ 100000; decide), ?_⟩ .nil) (by simp) (by show 1 ≤ 1000; decide) H7 (Ex.refl _) _ fun pd H8 hpd e8 h8 => r' pd H8 e8 h8
          show Ev (tOp rSubI (tOp rSubI (tC (.int 0)) (tVar 5)) (tC (.int 1))) _ _ (.int (0 - e.2.2 - 1))
          exact ev_op (ev_op ev_c (ev_var rfl) rv_I0) ev_c rv_I0
        · rw [List.mem_singleton.mp hf]
          exact ⟨g2, g1, fun z => g3 z.symm⟩
      · refine ⟨_, ⟨t, x, n, E, E1, rfl, T.ex (eH6.trans e7), T1, rfl⟩, fun v H8 ⟨w, En, hv, Tn, fn⟩ => ⟨w, En, hv, Tn, fun s => ?_⟩⟩
        rw [fn s, T1.fits s]
        exact ⟨fun ⟨a, b⟩ => ⟨a, b _ (pm.mem_iff.mpr (List.mem_singleton.mpr rfl))⟩, fun ⟨a, b⟩ => ⟨a, fun f hf => by rw [List.mem_singleton.mp (pm.mem_iff.mp hf)]; exact b⟩⟩
      · subst hv
        have e18 := eH6.trans e8
        have hfit : FitE n En s := (fn s).mpr ⟨fs, by
          show s e.2.1 - s e.1 ≤ 0 - e.2.2 - 1
          omega⟩
        show tIfS _ _ _ D' [some (.ref t), some (.ref u), some (.int (n : Int)), some (.ref dk), some (.ref q), some (.int e.2.2), some (.ref w), some (.int (e.1 : Int)), some (.int (e.2.1 : Int))] H8
        have rg : Ev (tCall (sp_ring C) [] E0 (tCons (tVar 6) tNil)) [some (.ref t), some (.ref u), some (.int (n : Int)), some (.ref dk), some (.ref q), some (.int e.2.2), some (.ref w), some (.int (e.1 : Int)), some (.int (e.2.1 : Int))] H8 .non :=
          ev_ofP (evp_call (ea_cons (ev_var rfl) ea_nil) fun H9 e9 => ⟨w, n, En, rfl, Tn.ex e9, rfl⟩) fun v H9 pv => pv.resolve_right fun z => z.1 s hfit
        have wi : Ev (tCall (sp_is_within C) [] E0 (tCons (tVar 6) (tCons (tVar 0) tNil))) [some (.ref t), some (.ref u), some (.int (n : Int)), some (.ref dk), some (.ref q), some (.int e.2.2), some (.ref w), some (.int (e.1 : Int)), some (.int (e.2.1 : Int))] H8 (.bl true) := by
          refine ev_callV (ea_cons (ev_var rfl) (ea_cons (ev_var rfl) ea_nil)) fun H9 e9 => ⟨w, t, n, En, E, rfl, Tn.ex e9, T.ex (e18.trans e9), ?_⟩
          rw [decide_eq_true fun s f => ((fn s).mp f).1]
        refine s_when (b := true && true) (et_and (a := true) (et_B (ev_isN (v := .non) rg)) fun _ => et_B wi) (fun _ H9 e9 => s_ret ev_c fun H10 e10 => ?_) (fun z => nomatch z)
        rw [hrt]
        exact k H10 (e18.trans (e9.trans e10))
    have hit : (∀ x, lookE Ek e.1 e.2.1 = some x → e.2.2 < x) → ∃ s, FitE n E s ∧ e.2.2 + 1 ≤ s e.1 - s e.2.1 := fun h => by
      obtain ⟨s, fs, hs⟩ := feas_at Cl g1 g2 (x := e.2.2 + 1) fun v hv => by
        rw [mk] at hv
        have := h v hv
        omega
      exact ⟨s, (fk s).mp fs, hs⟩
    cases el : lookE Ek e.1 e.2.1 with
    | none =>
      rw [vl, el] at nin
      exact s_when (b := true || false) (et_or (a := true) (et_B nin) fun z => nomatch z) (fun _ H6 e6 => yes (hit fun x hx => by rw [el] at hx; exact nomatch hx) _ rfl H6 e6) fun z => nomatch z
    | some x =>
      rw [vl, el] at nin
      have bget : Ev (tDGet (tVar 3) (tVar 4)) [some (.ref t), some (.ref u), some (.int (n : Int)), some (.ref dk), some (.ref q), some (.int e.2.2), v6, v7, v8] H5 (.int x) := ev_dget (ev_var rfl) (ev_var rfl) (Or.inl k5) hq5 (by rw [vl, el]; rfl)
      have tst : EvT (tOr (tB (tDNotIn (tVar 4) (tVar 3))) (tTest (tOp rGtI (tDGet (tVar 3) (tVar 4)) (tVar 5)))) [some (.ref t), some (.ref u), some (.int (n : Int)), some (.ref dk), some (.ref q), some (.int e.2.2), v6, v7, v8] H5 (false || decide (e.2.2 < x)) := et_or (a := false) (et_B nin) fun _ => et_test (ev_op bget (ev_var rfl) rv_I0)
      rw [Bool.false_or] at tst
      refine s_when tst (fun hb H6 e6 => yes (hit fun y hy => ?_) _ rfl H6 e6) fun hb H6 e6 => ⟨_, _, _, _, _, rfl, ex5.trans e6, fun f hf => ?_⟩
      · rw [el] at hy
        cases hy
        exact of_decide_eq_true hb
      · rw [tk] at hf
        rcases List.mem_append.mp hf with hf | hf
        · exact ok f hf
        · rw [List.mem_singleton.mp hf]
          have := of_decide_eq_false hb
          exact ⟨x, el, by omega⟩
  · subst es
    exfalso
    rw [List.length_map, List.take_length] at ok
    refine g0 ((U.fits s0).mpr fun e he => ?_)
    obtain ⟨x, hx, hle⟩ := ok e he
    have := ((fits_edges hnk hgk s0).mp ((fk s0).mpr f0)) _ ((look_mem hnk).mp hx)
    have : s0 e.1 - s0 e.2.1 ≤ x := this
    omega
end
end Bw
/-! Bounds drawn. -/
namespace Bw
open PySem PySem.Spec PyProof.Rows L2 Evl
def sp__law_caps (C : Addr) : Sp := fun vs H Q _ => ∃ (st lg cs many thick n0 : Nat), vs = [.ref st, .int (many : Int), .int (thick : Int), .int 4] ∧ 1 ≤ many ∧ many ≤ 3 ∧ 0 < thick ∧ thick ≤ 1000 ∧ n0 < 2 ^ 30 ∧ Src H st lg cs n0 ∧
  ∀ d H' E, Src H' st lg cs (n0 + 100) → But H H' st lg → H d = none → d ≠ st → d ≠ lg → H' d = some (.dT (E.map kvE)) → GoodE (many + 1) E → (E.map ekey).Nodup → E.length ≤ 1000 → Q (.ref d) H'
def t__law_caps_2 (K : PySem.W.Frag) (C : Addr) : TS := (tRet (tVar 4))
def t__law_caps_1 (K : PySem.W.Frag) (C : Addr) : TS := tSeq (tFor (iRng1 (tCons (tOp rAddI (tVar 1) (tC (.int 1))) tNil)) (gName 5) (tFor (iRng1 (tCons (tOp rAddI (tVar 1) (tC (.int 1))) tNil)) (gName 6) (tIfS (tAnd (tTest (tOp rNe (tVar 5) (tVar 6))) (tTest (tOp rEq (tCall spDraw [] E0 (tCons (tVar 0) (tCons (tVar 2) tNil))) (tC (.int 0))))) (sDPut (tVar 4) (tTup (tCons (tVar 5) (tCons (tVar 6) tNil))) (tOp rSubI (tCall spDraw [] E0 (tCons (tVar 0) (tCons (tOp rAddI (tOp rMulI (tC (.int 2)) (tVar 3)) (tC (.int 1))) tNil))) (tCall (spPick K) [] E0 (tCons (tVar 0) (tCons (tLst (tCons (tC (.int 0)) (tCons (tVar 3) (tCons (tOp rDivI (tVar 3) (tC (.int 2))) tNil)))) tNil))))) tNext))) (t__law_caps_2 K C)
def t__law_caps_0 (K : PySem.W.Frag) (C : Addr) : TS := tSeq (tAsg tDNewT (gName 4)) (t__law_caps_1 K C)
section
variable {K : PySem.W.Frag} {C : Addr} {σ : L2.St} {H : Hp} {ta tb tc te : TE} {D : Ends} {t n : Nat} {E : List Edge} {st lg cs : Addr}
theorem Src.lift {H' : Hp} (S : Src H st lg cs n) (e : Ex H H') : Src H' st lg cs n := by
  obtain ⟨⟨large, cells, r, t, h1, h2, h3, h4⟩, nl⟩ := S
  exact ⟨⟨large, cells, r, t, e _ _ h1, e _ _ h2, e _ _ h3, h4⟩, nl⟩
theorem Src.up {m : Nat} (S : Src H st lg cs n) (h : n ≤ m) : Src H st lg cs m := by
  obtain ⟨⟨large, cells, r, t, h1, h2, h3, h4, h5⟩, nl⟩ := S
  exact ⟨⟨large, cells, r, t, h1, h2, h3, by omega, h5⟩, nl⟩
theorem Src.some_ (S : Src H st lg cs n) : H st ≠ none ∧ H lg ≠ none := by
  obtain ⟨⟨large, cells, r, t, h1, h2, h3, h4, h5⟩, nl⟩ := S
  exact ⟨fun z => by rw [h1] at z; exact (nomatch z), fun z => by rw [h2] at z; exact nomatch z⟩
theorem But.ex {H' : Hp} (e : Ex H H') : But H H' st lg := fun b o h _ _ => e b o h
theorem b_draw {m : Nat} {Q : VK} (h : EvA (tCons ta (tCons tb tNil)) σ H [.ref st, .int (m : Int)]) (hm : 0 < m) (hm2 : m ≤ 100000) (hn : n < 2 ^ 40) (S : Src H st lg cs n) (q : ∀ (r : Nat) (H' : Hp), r < m → Src H' st lg cs (n + 1) → But H H' st lg → Q (.int (r : Int)) H') : tCall spDraw [] E0 (tCons ta (tCons tb tNil)) σ H Q :=
  h H (Ex.refl _) _ fun H1 e1 => ⟨st, lg, cs, m, n, rfl, hm, Nat.lt_of_le_of_lt hm2 (by decide), hn, S.lift e1, fun r H' hr S' B => q r H' hr S' ((But.ex e1).trans B)⟩
theorem b_pick {xs : List V} {tl : TE} {Q : VK} (h0 : Ev ta σ H (.ref st)) (h1 : EvL tl σ H xs) (hx : 0 < xs.length) (hx2 : xs.length ≤ 1000) (hn : n < 2 ^ 40) (S : Src H st lg cs n) (q : ∀ (x : V) (H' : Hp), x ∈ xs → Src H' st lg cs (n + 1) → But H H' st lg → Q x H') : tCall (spPick K) [] E0 (tCons ta (tCons tl tNil)) σ H Q :=
  h0 H (Ex.refl _) _ fun H1 e1 => h1 H1 e1 _ fun p H2 hp e2 h2 => by
    have S1 := S.lift e1
    have np : p ≠ st ∧ p ≠ lg := ⟨fun z => S1.some_.1 (by rw [← z]; exact hp), fun z => S1.some_.2 (by rw [← z]; exact hp)⟩
    show spPick K [.ref st, .ref p] H2 Q E0
    exact ⟨st, lg, cs, p, xs, n, rfl, sq_of h2, np.1, np.2, hx, by omega, hn, S.lift (e1.trans e2), fun x H' hxm S' B => q x H' hxm S' ((But.ex (e1.trans e2)).trans B)⟩
/-- what is drawn so far -/
structure CapI (H : Hp) (st lg cs d n0 many : Nat) (k : Nat) (E : List Edge) (H' : Hp) : Prop where
  src : Src H' st lg cs (n0 + k)
  but : But H H' st lg
  dict : H' d = some (.dT (E.map kvE))
  good : GoodE (many + 1) E
  nd : (E.map ekey).Nodup
abbrev sCap (st many thick d : V) (v5 v6 : Option V) : L2.St := [some st, some many, some thick, some (.int 4), some d, v5, v6]
theorem pure_caps {many thick n0 : Nat} {Q : VK} (m1 : 1 ≤ many) (m2 : many ≤ 3) (t1 : 0 < thick) (t2 : thick ≤ 1000) (hn : n0 < 2 ^ 30) (S : Src H st lg cs n0)
    (k : ∀ d H' E, Src H' st lg cs (n0 + 100) → But H H' st lg → H d = none → d ≠ st → d ≠ lg → H' d = some (.dT (E.map kvE)) → GoodE (many + 1) E → (E.map ekey).Nodup → E.length ≤ 1000 → Q (.ref d) H') : t__law_caps_0 K C (ends Q) [some (.ref st), some (.int (many : Int)), some (.int (thick : Int)), some (.int 4), none, none, none] H := by
  intro d hd
  have nds : d ≠ st := fun z => S.some_.1 (by rw [← z]; exact hd)
  have ndl : d ≠ lg := fun z => S.some_.2 (by rw [← z]; exact hd)
  obtain ⟨H1, eH1⟩ : ∃ H1, H1 = upd H d (.dT []) := ⟨_, rfl⟩
  have e1 : Ex H H1 := by rw [eH1]; exact Ex.new hd
  have d1 : H1 d = some (.dT []) := by rw [eH1]; exact upd_same
  show t__law_caps_1 K C (ends Q) (sCap (.ref st) (.int (many : Int)) (.int (thick : Int)) (.ref d) none none) (upd H d (.dT []))
  rw [← eH1]
  have cnt : ∀ (v5 v6 : Option V) (H2 : Hp), EvA (tCons (tOp rAddI (tVar 1) (tC (.int 1))) tNil) (sCap (.ref st) (.int (many : Int)) (.int (thick : Int)) (.ref d) v5 v6) H2 [.int ((many + 1 : Nat) : Int)] := fun v5 v6 H2 => ea_cons (ev_is (ev_op (ev_var rfl) ev_c rv_I0) rfl) ea_nil
  have c0 : CapI H st lg cs d n0 many 0 [] H1 := ⟨S.lift e1, But.ex e1, d1, fun e he => (nomatch he), List.nodup_nil⟩
  have cex : ∀ {kk : Nat} {E : List Edge} {H2 H3 : Hp}, CapI H st lg cs d n0 many kk E H2 → Ex H2 H3 → CapI H st lg cs d n0 many kk E H3 := fun c e => ⟨c.src.lift e, c.but.trans (But.ex e), e _ _ c.dict, c.good, c.nd⟩
  refine q_forR1 (cnt _ _ H1) (by omega) (fun a σ' H' => ∃ v5 v6 E kk, σ' = sCap (.ref st) (.int (many : Int)) (.int (thick : Int)) (.ref d) v5 v6 ∧ CapI H st lg cs d n0 many kk E H' ∧ kk ≤ a * 12 ∧ ∀ e ∈ E, e.1 < a) (fun H2 e2 => ⟨_, _, [], 0, rfl, cex c0 e2, Nat.zero_le _, fun e he => nomatch he⟩) (fun a σ' H' ha ⟨v5, v6, E, kk, es, c, hk, hE⟩ => ?_) (fun σ' H' ⟨v5, v6, E, kk, es, c, hk, hE⟩ => ?_)
  · subst es
    have ha2 : a < many + 1 := by omega
    show tFor _ _ _ _ (sCap (.ref st) (.int (many : Int)) (.int (thick : Int)) (.ref d) (some (.int (a : Int))) v6) H'
    refine s_forR1 (cnt _ _ H') (by omega) (fun b σ' H' => ∃ v6 E kk, σ' = sCap (.ref st) (.int (many : Int)) (.int (thick : Int)) (.ref d) (some (.int (a : Int))) v6 ∧ CapI H st lg cs d n0 many kk E H' ∧ kk ≤ a * 12 + b * 3 ∧ ∀ e ∈ E, e.1 < a ∨ (e.1 = a ∧ e.2.1 < b)) (fun H2 e2 => ⟨_, E, kk, rfl, cex c e2, by omega, fun e he => Or.inl (hE e he)⟩) (fun b σ' H' hb ⟨v6, E, kk, es, c, hk, hE⟩ => ?_) (fun σ' H' ⟨v6, E, kk, es, c, hk, hE⟩ => ?_)
    · subst es
      have hb2 : b < many + 1 := by omega
      have hk40 : n0 + kk < 2 ^ 40 := by
        have : (2 : Nat) ^ 30 + 100 < 2 ^ 40 := by decide
        omega
      show tIfS _ _ _ _ (sCap (.ref st) (.int (many : Int)) (.int (thick : Int)) (.ref d) (some (.int (a : Int))) (some (.int (b : Int)))) H'
      have ne : EvT (tTest (tOp rNe (tVar 5) (tVar 6))) (sCap (.ref st) (.int (many : Int)) (.int (thick : Int)) (.ref d) (some (.int (a : Int))) (some (.int (b : Int)))) H' (!decide ((V.int (a : Int)) = V.int (b : Int))) := et_test (ev_op (ev_var rfl) (ev_var rfl) (rv_ne rfl))
      have later : ∀ e ∈ E, e.1 < a ∨ (e.1 = a ∧ e.2.1 < b + 1) := fun e he => by
        rcases hE e he with h | ⟨h1, h2⟩
        · exact Or.inl h
        · exact Or.inr ⟨h1, by omega⟩
      by_cases cab : a = b
      · refine s_when (b := !decide ((V.int (a : Int)) = V.int (b : Int)) && false) (et_and ne fun z => ?_) (fun z => ?_) fun _ H2 e2 => ⟨_, E, kk, rfl, cex c e2, by omega, later⟩
        · rw [cab, decide_eq_true rfl] at z
          exact nomatch z
        · rw [Bool.and_false] at z
          exact nomatch z
      · have cd : decide ((V.int (a : Int)) = V.int (b : Int)) = false := decide_eq_false fun z => cab (by have := V.int.inj z; omega)
        rw [cd] at ne
        unfold tIfS tAnd
        refine ne H' (Ex.refl _) _ fun H2 e2 => ?_
        refine iteT ?_
        have c2 := cex c e2
        have args : EvA (tCons (tVar 0) (tCons (tVar 2) tNil)) (sCap (.ref st) (.int (many : Int)) (.int (thick : Int)) (.ref d) (some (.int (a : Int))) (some (.int (b : Int)))) H2 [.ref st, .int (thick : Int)] := ea_cons (ev_var rfl) (ea_cons (ev_var rfl) ea_nil)
        refine b_draw args t1 (by omega) hk40 c2.src fun r H3 hr S3 B3 => ?_
        have c3 : CapI H st lg cs d n0 many (kk + 1) E H3 := ⟨S3, c2.but.trans B3, B3 _ _ c2.dict nds ndl, c2.good, c2.nd⟩
        refine ⟨rfl, _, rfl, ?_⟩
        refine ite_b (fun hz => ?_) (fun hz => ⟨_, E, kk + 1, rfl, c3, by omega, later⟩)
        -- a bound is drawn
        unfold sDPut
        have hk41 : n0 + (kk + 1) < 2 ^ 40 := by
          have : (2 : Nat) ^ 30 + 100 < 2 ^ 40 := by decide
          omega
        have hk42 : n0 + (kk + 1) + 1 < 2 ^ 40 := by
          have : (2 : Nat) ^ 30 + 100 < 2 ^ 40 := by decide
          omega
        have args9 : EvA (tCons (tVar 0) (tCons (tOp rAddI (tOp rMulI (tC (.int 2)) (tVar 3)) (tC (.int 1))) tNil)) (sCap (.ref st) (.int (many : Int)) (.int (thick : Int)) (.ref d) (some (.int (a : Int))) (some (.int (b : Int)))) H3 [.ref st, .int ((9 : Nat) : Int)] := ea_cons (ev_var rfl) (ea_cons (ev_op (ev_op ev_c (ev_var rfl) (rv_I (Or.inl ⟨by decide, by decide⟩))) ev_c rv_I0) ea_nil)
        refine b_draw args9 (by decide) (by decide) hk41 c3.src fun r2 H4 hr2 S4 B4 => ?_
        have list3 : EvL (tLst (tCons (tC (.int 0)) (tCons (tVar 3) (tCons (tOp rDivI (tVar 3) (tC (.int 2))) tNil)))) (sCap (.ref st) (.int (many : Int)) (.int (thick : Int)) (.ref d) (some (.int (a : Int))) (some (.int (b : Int)))) H4 [.int 0, .int 4, .int 2] := el_lst (ea_cons ev_c (ea_cons (ev_var rfl) (ea_cons (ev_op (ev_var rfl) ev_c (rv_I (C := CDiv) ⟨by decide, by decide⟩)) ea_nil))) (by show 3 ≤ 100000; decide)
        refine b_pick (K := K) (ev_var rfl) list3 (by show 0 < 3; decide) (by show 3 ≤ 1000; decide) hk42 S4 fun x H5 hx S5 B5 => ?_
        obtain ⟨w, rfl⟩ : ∃ w, x = .int w := by
          rcases List.mem_cons.mp hx with h | hx
          · exact ⟨_, h⟩
          · rcases List.mem_cons.mp hx with h | hx
            · exact ⟨_, h⟩
            · exact ⟨_, List.mem_singleton.mp hx⟩
        have B35 := (c3.but.trans B4).trans B5
        have d5 : H5 d = some (.dT (E.map kvE)) := B5 _ _ (B4 _ _ c3.dict nds ndl) nds ndl
        refine ⟨(r2 : Int), w, rfl, rfl, .ref d, rfl, ?_⟩
        have key : EvU (tTup (tCons (tVar 5) (tCons (tVar 6) tNil))) (sCap (.ref st) (.int (many : Int)) (.int (thick : Int)) (.ref d) (some (.int (a : Int))) (some (.int (b : Int)))) H5 [.int (a : Int), .int (b : Int)] := eu_tup (ea_cons (ev_var rfl) (ea_cons (ev_var rfl) ea_nil)) (by show 2 ≤ 100000; decide)
        refine key H5 (Ex.refl _) _ fun q H6 hq e6 h6 => ?_
        have h6 : H6 q = some (.tup ((ekey (a, b, (r2 : Int) - w)).map kV)) := h6
        have ln := lenG c3.good c3.nd m1 (by omega)
        have out : ∀ f ∈ E, ¬ (f.1 = a ∧ f.2.1 = b) := fun f hf z => by
          rcases hE f hf with h | ⟨_, h⟩
          · omega
          · omega
        have no : lookE E a b = none := by
          cases el : lookE E a b with
          | none => rfl
          | some y => exact absurd ⟨rfl, rfl⟩ (out _ ((look_mem c3.nd).mp el))
        have pk_ : putK (E.map kvE) (ekey (a, b, (r2 : Int) - w)) (.int ((r2 : Int) - w)) = (E ++ [(a, b, (r2 : Int) - w)]).map kvE := by
          rw [L2.putK_new _ (by
            have := val_look (E := E) (a := a) (b := b)
            rw [no] at this
            exact this), List.map_append]
          rfl
        have d6 := e6 _ _ d5
        have S6 := S5.lift e6
        have B6 := B35.trans (But.ex e6)
        refine ⟨d, _, rfl, DPut.t d6 h6 (by rw [List.length_map]; exact sz_lt (by omega)), _, E ++ [(a, b, (r2 : Int) - w)], kk + 3, rfl, ⟨?_, ?_, ?_, fun f hf => ?_, ?_⟩, by omega, fun f hf => ?_⟩
        · obtain ⟨⟨large, cells, r, t, g1, g2, g3, g4⟩, nl⟩ := S6
          have ncs : cs ≠ d := fun z => by rw [z, d6] at g3; exact nomatch g3
          exact ⟨⟨large, cells, r, t, by rw [upd_ne (fun z => nds z.symm)]; exact g1, by rw [upd_ne (fun z => ndl z.symm)]; exact g2, by rw [upd_ne ncs]; exact g3, g4⟩, nl⟩
        · intro b' o hb' n1 n2
          rw [upd_ne (ne_of_none hb' hd)]
          exact B6 b' o hb' n1 n2
        · rw [upd_same, pk_]
        · rcases List.mem_append.mp hf with hf | hf
          · exact c3.good f hf
          · rw [List.mem_singleton.mp hf]; exact ⟨ha2, hb2, cab⟩
        · refine nodup_app c3.nd (by simp) fun f hf f' hf' z => ?_
          rw [List.mem_singleton.mp hf'] at z
          exact out f hf z
        · rcases List.mem_append.mp hf with hf | hf
          · exact later f hf
          · rw [List.mem_singleton.mp hf]; exact Or.inr ⟨rfl, Nat.lt_succ_self b⟩
    · subst es
      rw [Int.toNat_natCast] at hk hE
      refine ⟨_, _, E, kk, rfl, c, by omega, fun e he => ?_⟩
      rcases hE e he with h | ⟨h, _⟩
      · omega
      · omega
  · subst es
    rw [Int.toNat_natCast] at hk
    refine s_ret (ev_var rfl) fun H2 e2 => ?_
    have c2 := cex c e2
    exact k d H2 E (c2.src.up (by omega)) c2.but hd nds ndl c2.dict c2.good c2.nd (lenG c2.good c2.nd m1 (by omega))
end
end Bw
/-! t + u with t empty or not; all small waters. -/
namespace Bw
open PySem PySem.Spec PyProof.Rows L2 Evl
def rCatX (K : PySem.W.Frag) : R2 := fun x y H Q => ∃ a b xs ys, x = .ref a ∧ y = .ref b ∧ SqT K H a xs ∧ SqT K H b ys ∧ xs.length + ys.length ≤ sizeLine ∧
  (xs = [] → Q (.ref b) H) ∧ (xs ≠ [] → ys = [] → Q (.ref a) H) ∧ (xs ≠ [] → ys ≠ [] → ∀ p, H p = none → Q (.ref p) (upd H p (.tup (xs ++ ys))))
theorem op_catX {X : Cx} : OpR X (binaryOp .Add) (rCatX X.K) := by
  intro pins s σ H x y v u Q I rx ry h
  obtain ⟨a, b, xs, ys, rfl, rfl, ha, hb, hz, q0, q1, q2⟩ := h
  by_cases c : xs = []
  · cases rx
    cases ry
    obtain ⟨its, r1, p1, _⟩ := I.tuple ha
    obtain ⟨its2, r2, p2, _⟩ := I.tuple hb
    have ei : its = [] := r1.nil_iff.mpr c
    subst ei
    obtain ⟨⟨cls, dd, data, sl⟩, ho, hc, n, hd⟩ := id p1
    obtain ⟨⟨cls2, dd2, data2, sl2⟩, ho2, hc2, n2, hd2⟩ := id p2
    simp only at hc hd hc2 hd2
    subst hc hd hc2 hd2
    exact concat_meets ⟨_, ho, rfl⟩ ⟨_, ho2, rfl⟩ noFill_tuple_add seq_tuple_add PySem.F.slot_tuple_add PySem.F.entry_tuple_add (PySem.F.args_tuple_add_2 _ _)
      (tuple_addW0 a b _ its2.toArray n n2 dd dd2 sl sl2 (by simp)) ⟨ho, ho2, ⟨.ref b, H, I, rfl, q0 c⟩⟩
  · exact op_catT pins s σ H _ _ v u Q I rx ry ⟨a, b, xs, ys, rfl, rfl, ha, hb, c, hz, q1 c, q2 c⟩
/-- a list of tuples of k numbers each -/
def WtAt (H : Hp) (p : Addr) (k : Nat) (cs : List Addr) : Prop := H p = some (.lst (cs.map V.ref)) ∧ ∀ c ∈ cs, ∃ xs : List Int, H c = some (.tup (intL xs)) ∧ xs.length = k
theorem WtAt.ex {H H' : Hp} {p : Addr} {k : Nat} {cs : List Addr} (h : WtAt H p k cs) (e : Ex H H') : WtAt H' p k cs := ⟨e _ _ h.1, fun c hc => by
  obtain ⟨xs, h1, h2⟩ := h.2 c hc
  exact ⟨xs, e _ _ h1, h2⟩⟩
def sp__law_waters (C : Addr) : Sp := spOf fun vs H P => ∃ many : Nat, vs = [.int (many : Int)] ∧ many ≤ 3 ∧ P = fun v H2 => ∃ p cs, v = .ref p ∧ WtAt H2 p many cs ∧ cs.length ≤ 1000
def t__law_waters_2 (K : PySem.W.Frag) (C : Addr) : TS := (tRet (tVar 1))
def t__law_waters_1 (K : PySem.W.Frag) (C : Addr) : TS := tSeq (tFor (iRng1 (tCons (tVar 0) tNil)) (gName 2) (tSeq (tAsg (tLst tNil) (gName 3)) (tSeq (tFor (iList K (tVar 1)) (gName 4) (tAsg (tOp rCat (tVar 3) (tLc (iRng2 (tCons (tUn rNegI (tC (.int 4))) (tCons (tC (.int 5)) tNil))) (gName 5) tYes (tOp (rCatX K) (tVar 4) (tTup (tCons (tVar 5) tNil))) [5])) (gName 3))) (tAsg (tVar 3) (gName 1))))) (t__law_waters_2 K C)
def t__law_waters_0 (K : PySem.W.Frag) (C : Addr) : TS := tSeq (tAsg (tLst (tCons (tTup tNil) tNil)) (gName 1)) (t__law_waters_1 K C)
section
variable {K : PySem.W.Frag} {C : Addr} {σ : L2.St} {H : Hp} {ta tb tc te : TE} {D : Ends}
/-- [pool + (part,) for part in range(-4, 5)] -/
theorem longer_made {σ : L2.St} {w : Addr} {k : Nat} {xs : List Int} {Q : VK} (hs : ∀ x, ((wipe σ [5]).set 5 (some x))[4]? = some (some (.ref w)) ∧ ((wipe σ [5]).set 5 (some x))[5]? = some (some x)) (hw : ∀ x, wipe ((wipe σ [5]).set 5 (some x)) [5] = wipe σ [5]) (hx : H w = some (.tup (intL xs))) (hl : xs.length = k) (hk : k ≤ 100)
    (q : ∀ p cs H2, Ex H H2 → WtAt H2 p (k + 1) cs → cs.length = 9 → H p = none → Q (.ref p) H2) : tLc (iRng2 (tCons (tUn rNegI (tC (.int 4))) (tCons (tC (.int 5)) tNil))) (gName 5) tYes (tOp (rCatX K) (tVar 4) (tTup (tCons (tVar 5) tNil))) [5] σ H Q := by
  have args : EvA (tCons (tUn rNegI (tC (.int 4))) (tCons (tC (.int 5)) tNil)) σ H [.int (-4), .int 5] := ea_cons (ev_un ev_c ru_neg) (ea_cons ev_c ea_nil)
  unfold tLc iRng2
  refine args H (Ex.refl _) _ fun H1 e1 => ?_
  refine ⟨-4, 5, rfl, ⟨by decide, by decide, by decide, by decide⟩, fun Dl hD => ?_⟩
  refine lc_it (walk_range (lo := -4) (n := ((5 : Int) - -4).toNat)) (fun i H' => Ex H1 H' ∧ ∃ cs : List Addr, WtAt H' Dl (k + 1) cs ∧ cs.length = i ∧ H1 Dl = none) ⟨Ex.new hD, [], ⟨upd_same, fun c hc => nomatch hc⟩, rfl, hD⟩ (fun _ _ _ _ => True.intro) (fun i x H' H2 hi ⟨ex, cs, wt, lc, hd⟩ y => ?_) (fun H' ⟨ex, cs, wt, lc, hd⟩ => ?_)
  · obtain ⟨rfl, rfl⟩ := y
    refine ⟨hw _, ?_⟩
    unfold tYes
    refine iteT ?_
    have h2 := ex _ _ (e1 _ _ hx)
    refine ⟨.ref w, (hs _).1, _, (hs _).2, by show 1 ≤ sizeLine; decide, fun p1 hp1 => ?_⟩
    have e2 : Ex H2 (upd H2 p1 (.tup [V.int (-4 + (i : Int))])) := Ex.new hp1
    have fin : ∀ (c : Addr) (H4 : Hp) (ys : List Int), Ex H2 H4 → H4 c = some (.tup (intL ys)) → ys.length = k + 1 → ∃ acc, H4 Dl = some (.lst acc) ∧ acc.length < sizeLine ∧ Ex H1 (upd H4 Dl (.lst (acc ++ [.ref c]))) ∧ ∃ cs, WtAt (upd H4 Dl (.lst (acc ++ [.ref c]))) Dl (k + 1) cs ∧ cs.length = i + 1 ∧ H1 Dl = none := fun c H4 ys e4 hc hy => by
      refine ⟨_, e4 _ _ wt.1, ?_, Ex.mut (ex.trans e4) hd, cs ++ [c], ⟨by rw [upd_same, List.map_append]; rfl, fun c' hc' => ?_⟩, by rw [List.length_append, lc]; rfl, hd⟩
      · rw [List.length_map, lc]
        have : i < 9 := hi
        exact sz_lt (by omega)
      · have keep : ∀ (c : Addr) (ys : List Int), H4 c = some (.tup (intL ys)) → upd H4 Dl (.lst (cs.map V.ref ++ [.ref c])) c = some (.tup (intL ys)) := fun c ys h => by
          rw [upd_ne (fun z => by rw [z, e4 _ _ wt.1] at h; exact nomatch h)]
          exact h
        have nd : ∀ (c' : Addr) (ys : List Int), H4 c' = some (.tup (intL ys)) → c' ≠ Dl := fun c' ys h z => by rw [z, e4 _ _ wt.1] at h; exact nomatch h
        rcases List.mem_append.mp hc' with hc' | hc'
        · obtain ⟨zs, z1, z2⟩ := wt.2 c' hc'
          exact ⟨zs, by rw [upd_ne (nd c' zs (e4 _ _ z1))]; exact e4 _ _ z1, z2⟩
        · rw [List.mem_singleton.mp hc']
          exact ⟨ys, by rw [upd_ne (nd c ys hc)]; exact hc, hy⟩
    refine ⟨w, p1, intL xs, [V.int (-4 + (i : Int))], rfl, rfl, st_of (e2 _ _ h2), st_of upd_same, ?_, fun hnil => ?_, fun _ z => (nomatch z), fun _ _ p hp => ?_⟩
    · rw [List.length_map]
      show xs.length + 1 ≤ sizeLine
      exact sz_of (by omega)
    · have x0 : xs = [] := List.map_eq_nil_iff.mp hnil
      have k0 : k = 0 := by rw [← hl, x0]; rfl
      exact fin p1 _ [-4 + (i : Int)] e2 upd_same (by rw [k0]; rfl)
    · refine fin p _ (xs ++ [-4 + (i : Int)]) (e2.trans (Ex.new hp)) ?_ (by rw [List.length_append, hl]; rfl)
      rw [upd_same]
      show _ = some (HO.tup (List.map V.int (xs ++ [-4 + (i : Int)])))
      rw [List.map_append]
      rfl
  · exact q Dl cs H' (e1.trans ex) wt (by rw [lc]; rfl) (fresh_back e1 hd)
theorem pure_waters {many : Nat} {Q : VK} (hm : many ≤ 3) (k : ∀ p cs H2, Ex H H2 → WtAt H2 p many cs → cs.length ≤ 1000 → Q (.ref p) H2) : t__law_waters_0 K C (ends Q) [some (.int (many : Int)), none, none, none, none, none] H := by
  unfold t__law_waters_0 tSeq tAsg tLst
  refine eu_tup (σ := [some (.int (many : Int)), none, none, none, none, none]) (H := H) ea_nil (by show 0 ≤ 100000; decide) H (Ex.refl _) _ fun w H1 hw e1 h1 => ⟨by show 1 ≤ sizeLine; decide, fun p hp => ?_⟩
  have eP : Ex H1 (upd H1 p (.lst [.ref w])) := Ex.new hp
  show t__law_waters_1 K C (ends Q) [some (.int (many : Int)), some (.ref p), none, none, none, none] (upd H1 p (.lst [.ref w]))
  have w0 : WtAt (upd H1 p (.lst [.ref w])) p 0 [w] := ⟨upd_same, fun c hc => ⟨[], by rw [List.mem_singleton.mp hc]; exact eP _ _ h1, rfl⟩⟩
  refine q_forR1 (n := (many : Int)) (ea_cons (ev_var rfl) ea_nil) (by omega) (fun s σ' H' => ∃ p cs v2 v3 v4, σ' = [some (.int (many : Int)), some (.ref p), v2, v3, v4, none] ∧ Ex H H' ∧ WtAt H' p s cs ∧ cs.length ≤ 9 ^ s) (fun H2 e2 => ⟨p, [w], _, _, _, rfl, e1.trans (eP.trans e2), w0.ex e2, Nat.le_refl _⟩) (fun s σ' H' hs ⟨p, cs, v2, v3, v4, es, ex, wt, lc⟩ => ?_) (fun σ' H' ⟨p, cs, v2, v3, v4, es, ex, wt, lc⟩ => ?_)
  · subst es
    have hs3 : s < 3 := by omega
    have p9 : 9 ^ s ≤ 81 := by
      have : s = 0 ∨ s = 1 ∨ s = 2 := by omega
      rcases this with h | h | h <;> rw [h] <;> decide
    show tSeq _ _ _ [some (.int (many : Int)), some (.ref p), some (.int (s : Int)), v3, v4, none] H'
    refine q_asgL (el_lst ea_nil (by show 0 ≤ 100000; decide)) fun q0 H2 hq0 e2 h2 => ?_
    have wt2 := wt.ex e2
    refine q_forLn (a := p) (xs := cs.map V.ref) (ev_var rfl) (sq_of wt2.1) (fun j σ' H' => ∃ q cs' v4, σ' = [some (.int (many : Int)), some (.ref p), some (.int (s : Int)), some (.ref q), v4, none] ∧ Ex H2 H' ∧ WtAt H' q (s + 1) cs' ∧ cs'.length = 9 * j) (fun H3 e3 => ⟨q0, [], _, rfl, e3, ⟨e3 _ _ h2, fun c hc => nomatch hc⟩, rfl⟩) (fun j σ' H' _ ⟨_, _, _, _, e, _⟩ => sq_of (e _ _ wt2.1)) (fun j x σ' H' hx ⟨q, cs', v4, es, e, wq, lq⟩ => ?_) (fun σ' H' ⟨q, cs', v4, es, e, wq, lq⟩ => ?_)
    · subst es
      have hjl := (List.getElem?_eq_some_iff.mp hx).1
      rw [List.length_map] at hjl
      rw [List.getElem?_map] at hx
      obtain ⟨c, hc, rfl⟩ := Option.map_eq_some_iff.mp hx
      obtain ⟨xs, hxs, lx⟩ := wt2.2 c (List.mem_of_getElem? hc)
      show tAsg _ _ _ [some (.int (many : Int)), some (.ref p), some (.int (s : Int)), some (.ref q), some (.ref c), none] H'
      unfold tAsg tOp
      refine ⟨.ref q, rfl, ?_⟩
      refine longer_made (K := K) (w := c) (fun x => ⟨rfl, rfl⟩) (fun x => rfl) (e _ _ hxs) lx (by omega) fun p2 cs2 H3 e3 w3 l3 hp2 => ?_
      have wq3 := wq.ex e3
      refine ⟨q, p2, _, _, rfl, rfl, wq3.1, w3.1, by rw [List.length_map, List.length_map, lq, l3]; exact sz_of (by omega), fun z hz => ?_⟩
      have eZ : Ex H3 (upd H3 z (.lst (cs'.map V.ref ++ cs2.map V.ref))) := Ex.new hz
      refine ⟨z, cs' ++ cs2, _, rfl, e.trans (e3.trans eZ), ⟨by rw [upd_same, List.map_append], fun c' hc' => ?_⟩, by rw [List.length_append, lq, l3]; omega⟩
      rcases List.mem_append.mp hc' with hc' | hc'
      · exact (wq3.ex eZ).2 c' hc'
      · exact (w3.ex eZ).2 c' hc'
    · subst es
      rw [List.length_map] at lq
      refine s_asg (v := .ref q) (ev_var rfl) fun H4 e4 => ⟨q, cs', _, _, _, rfl, ex.trans (e2.trans (e.trans e4)), wq.ex e4, ?_⟩
      rw [lq, Nat.pow_succ, Nat.mul_comm]
      exact Nat.mul_le_mul_right 9 lc
  · subst es
    rw [Int.toNat_natCast] at wt lc
    refine s_ret (ev_var rfl) fun H2 e2 => k p cs H2 (ex.trans e2) (wt.ex e2) ?_
    have : many = 0 ∨ many = 1 ∨ many = 2 ∨ many = 3 := by omega
    rcases this with h | h | h | h <;> rw [h] at lc <;> exact Nat.le_trans lc (by decide)
end
end Bw
/-! Words for the law itself. -/
namespace Bw
open PySem PySem.Spec PyProof.Rows L2 Evl
section
variable {K : PySem.W.Frag} {C : Addr} {H : Hp} {t n : Nat} {E : List Edge} {st lg cs : Addr}
abbrev lev (xs : List Int) : Nat → Int := fun i => (pre xs).getD i 0
theorem fitsB_iff (T : TabAt C H t n E) (xs : List Int) : fitsB E (pre xs) = true ↔ FitE n E (lev xs) := by
  rw [T.fits]
  unfold fitsB
  rw [List.all_eq_true]
  exact ⟨fun h e he => of_decide_eq_true (h e he), fun h e he => decide_eq_true (h e he)⟩
open Classical in
theorem fitsB_eq (T : TabAt C H t n E) (xs : List Int) : fitsB E (pre xs) = decide (FitE n E (lev xs)) := by
  have h := fitsB_iff T xs
  by_cases c : FitE n E (lev xs)
  · rw [decide_eq_true c, h.mpr c]
  · rw [decide_eq_false c]
    cases e : fitsB E (pre xs) with
    | true => exact absurd (h.mp e) c
    | false => rfl
/-- a draw leaves a table as it is -/
theorem TabAt.but {H' : Hp} {k : Nat} (T : TabAt C H t n E) (S : Src H st lg cs k) (b : But H H' st lg) : TabAt C H' t n E := by
  obtain ⟨⟨large, cells, r, u, h1, h2, h3, h4, h5⟩, nl⟩ := S
  obtain ⟨dx, d, t1, t2, g⟩ := T
  exact ⟨dx, d, b _ _ t1 (ne_of t1 h1 (by intro z; cases z)) (ne_of t1 h2 (by intro z; cases z)), b _ _ t2 (ne_of t2 h1 (by intro z; cases z)) (ne_of t2 h2 (by intro z; cases z)), g⟩
theorem tup_but {H' : Hp} {k : Nat} {a : Addr} {xs : List V} (h : H a = some (.tup xs)) (S : Src H st lg cs k) (b : But H H' st lg) : H' a = some (.tup xs) := by
  obtain ⟨⟨large, cells, r, u, h1, h2, h3, h4, h5⟩, nl⟩ := S
  exact b _ _ h (ne_of h h1 (by intro z; cases z)) (ne_of h h2 (by intro z; cases z))
/-- the levels but one are the levels at the points but one -/
theorem lev_skip {x : Nat} {xs : List Int} : ∀ m, m ≤ (pre xs).length → ((List.range m).filter fun i => !decide (i = x)).map (fun i => (pre xs).getD i 0) = ((List.range m).filter fun i => !decide (i = x)).map (lev xs) := fun m _ => rfl
/-- a water of differences has just these levels, less the first -/
theorem lev_difs (y : Int) (r : List Int) (i : Nat) (hi : i < r.length + 1) : lev (difs (y :: r)) i = (y :: r).getD i 0 - y := by
  have h : ∀ (c x : Int) (r : List Int) (i : Nat), i < r.length + 1 → (preA c (difs (x :: r))).getD i 0 = (x :: r).getD i 0 - x + c := by
    intro c x r
    induction r generalizing c x with
    | nil =>
      intro i hi
      have : i = 0 := by
        have : i < 0 + 1 := hi
        omega
      subst this
      show c = x - x + c
      omega
    | cons z r ih =>
      intro i hi
      cases i with
      | zero =>
        show c = x - x + c
        omega
      | succ j =>
        have := ih (c + (z - x)) z j (by
          have : j + 1 < r.length + 1 + 1 := hi
          omega)
        show (preA (c + (z - x)) (difs (z :: r))).getD j 0 = (z :: r).getD j 0 - x + c
        rw [this]
        omega
  have := h 0 y r i hi
  show (preA 0 (difs (y :: r))).getD i 0 = _
  omega
/-- bounds don't ask for the first level -/
theorem fits_shift {s : Nat → Int} {c : Int} (f : FitE n E s) : FitE n E fun i => s i - c := fun a b x ha hb hx => by
  have := f a b x ha hb hx
  show s a - c - (s b - c) ≤ x
  omega
end
end Bw
/-! The law: one water, one turn. -/
namespace Bw
open PySem PySem.Spec PyProof.Rows L2 Evl
abbrev rMin2 : List V → Hp → VK → Prop := fun xs H Q => ∃ i j, xs = [.int i, .int j] ∧ Q (.int (if j < i then j else i)) H
def t_lawP_4 (K : PySem.W.Frag) (C : Addr) : TS := (tIfS (tAnd (tB (tVar 15)) (tTest (tOp rGtI (tVar 3) (tC (.int 1))))) (tSeq (tAsg (tLc (iEnumT K (tCons (tCall (sp_sums C) [] E0 (tCons (tVar 8) tNil)) tNil)) (gTup K 2 (gCons (gName 17) (gCons (gName 18) gNil))) (tTest (tOp rNe (tVar 17) (tVar 6))) (tVar 18) [17, 18]) (gName 16)) (tIfS (tNot (tB (tMeth C "fits" (sp_Table_fits C) [] E0 (tVar 7) (tCons (tCB (cTupleOf K) (tCons (tLc (iRng1 (tCons (tOp rSubI (tVar 3) (tC (.int 1))) tNil)) (gName 17) tYes (tOp rSubI (tOp (rIxL K) (tVar 16) (tOp rAddI (tVar 17) (tC (.int 1)))) (tOp (rIxL K) (tVar 16) (tVar 17))) [17]) tNil)) tNil)))) (tRet (tC (.bl false))) tNext)) tNext)
def t_lawP_3 (K : PySem.W.Frag) (C : Addr) : TS := tSeq (tIfS (tAnd (tB (tVar 15)) (tOr (tAnd (tB (tVar 13)) (tNot (tB (tMeth C "fits" (sp_Table_fits C) [] E0 (tVar 5) (tCons (tVar 8) tNil))))) (tB (tCall (sp__law_is_passed C) [] E0 (tCons (tVar 8) (tCons (tVar 11) (tCons (tVar 12) tNil))))))) (tRet (tC (.bl false))) tNext) (t_lawP_4 K C)
def t_lawP_2 (K : PySem.W.Frag) (C : Addr) : TS := tSeq (tIfS (tOr (tTest (tOp rNe (tMeth C "fits" (sp_Table_fits C) [] E0 (tVar 10) (tCons (tVar 8) tNil)) (tVar 15))) (tTest (tOp rNe (tMeth C "fits" (sp_Table_fits C) [] E0 (tVar 9) (tCons (tVar 8) tNil)) (tAndV (tVar 15) (tMeth C "fits" (sp_Table_fits C) [] E0 (tVar 5) (tCons (tVar 8) tNil)))))) (tRet (tC (.bl false))) tNext) (t_lawP_3 K C)
def t_lawP_1 (K : PySem.W.Frag) (C : Addr) : TS := tSeq (tAsg (tOp rAddI (tVar 14) (tCB cInt1 (tCons (tVar 15) tNil))) (gName 14)) (t_lawP_2 K C)
def t_lawP_0 (K : PySem.W.Frag) (C : Addr) : TS := tSeq (tAsg (tMeth C "fits" (sp_Table_fits C) [] E0 (tVar 4) (tCons (tVar 8) tNil)) (gName 15)) (t_lawP_1 K C)
def t_lawT_10 (K : PySem.W.Frag) (C : Addr) : TS := (tIfS (tOr (tNot (tB (tCall (sp_is_same C) [] E0 (tCons (tVar 10) (tCons (tVar 4) tNil))))) (tOr (tNot (tB (tCall (sp_is_within C) [] E0 (tCons (tVar 9) (tCons (tVar 4) tNil))))) (tNot (tB (tCall (sp_is_within C) [] E0 (tCons (tVar 9) (tCons (tVar 5) tNil))))))) (tRet (tC (.bl false))) tNext)
def t_lawT_9 (K : PySem.W.Frag) (C : Addr) : TS := tSeq (tIfS (tOr (tAnd (tB (tNotN (tCall (sp_ring C) [] E0 (tCons (tVar 4) tNil)))) (tTest (tOp rGtI (tVar 14) (tC (.int 0))))) (tAnd (tNot (tB (tVar 13))) (tNot (tB (tCall (sp__law_out C) [] E0 (tCons (tVar 4) (tCons (tVar 5) (tCons (tVar 3) tNil)))))))) (tRet (tC (.bl false))) tNext) (t_lawT_10 K C)
def t_lawT_8 (K : PySem.W.Frag) (C : Addr) : TS := tSeq (tFor (iList K (tCall (sp__law_waters C) [] E0 (tCons (tVar 3) tNil))) (gName 8) (tSeq (tAsg (tMeth C "fits" (sp_Table_fits C) [] E0 (tVar 4) (tCons (tVar 8) tNil)) (gName 15)) (tSeq (tAsg (tOp rAddI (tVar 14) (tCB cInt1 (tCons (tVar 15) tNil))) (gName 14)) (tSeq (tIfS (tOr (tTest (tOp rNe (tMeth C "fits" (sp_Table_fits C) [] E0 (tVar 10) (tCons (tVar 8) tNil)) (tVar 15))) (tTest (tOp rNe (tMeth C "fits" (sp_Table_fits C) [] E0 (tVar 9) (tCons (tVar 8) tNil)) (tAndV (tVar 15) (tMeth C "fits" (sp_Table_fits C) [] E0 (tVar 5) (tCons (tVar 8) tNil)))))) (tRet (tC (.bl false))) tNext) (tSeq (tIfS (tAnd (tB (tVar 15)) (tOr (tAnd (tB (tVar 13)) (tNot (tB (tMeth C "fits" (sp_Table_fits C) [] E0 (tVar 5) (tCons (tVar 8) tNil))))) (tB (tCall (sp__law_is_passed C) [] E0 (tCons (tVar 8) (tCons (tVar 11) (tCons (tVar 12) tNil))))))) (tRet (tC (.bl false))) tNext) (tIfS (tAnd (tB (tVar 15)) (tTest (tOp rGtI (tVar 3) (tC (.int 1))))) (tSeq (tAsg (tLc (iEnumT K (tCons (tCall (sp_sums C) [] E0 (tCons (tVar 8) tNil)) tNil)) (gTup K 2 (gCons (gName 17) (gCons (gName 18) gNil))) (tTest (tOp rNe (tVar 17) (tVar 6))) (tVar 18) [17, 18]) (gName 16)) (tIfS (tNot (tB (tMeth C "fits" (sp_Table_fits C) [] E0 (tVar 7) (tCons (tCB (cTupleOf K) (tCons (tLc (iRng1 (tCons (tOp rSubI (tVar 3) (tC (.int 1))) tNil)) (gName 17) tYes (tOp rSubI (tOp (rIxL K) (tVar 16) (tOp rAddI (tVar 17) (tC (.int 1)))) (tOp (rIxL K) (tVar 16) (tVar 17))) [17]) tNil)) tNil)))) (tRet (tC (.bl false))) tNext)) tNext)))))) (t_lawT_9 K C)
def t_lawT_7 (K : PySem.W.Frag) (C : Addr) : TS := tSeq (tPar 13 14 (tCons (tCall (sp_is_within C) [] E0 (tCons (tVar 4) (tCons (tVar 5) tNil))) (tCons (tC (.int 0)) tNil))) (t_lawT_8 K C)
def t_lawT_6 (K : PySem.W.Frag) (C : Addr) : TS := tSeq (tAsg (tIf (tTest (tOp rGtI (tVar 3) (tC (.int 1)))) (tCall (sp_hidden C) [] E0 (tCons (tVar 4) (tCons (tTup (tCons (tVar 6) tNil)) tNil))) (tVar 4)) (gName 7)) (t_lawT_7 K C)
def t_lawT_5 (K : PySem.W.Frag) (C : Addr) : TS := tSeq (tAsg (tOp rAddI (tC (.int 1)) (tCall spDraw [] E0 (tCons (tVar 1) (tCons (tVar 3) tNil)))) (gName 6)) (t_lawT_6 K C)
def t_lawT_4 (K : PySem.W.Frag) (C : Addr) : TS := tSeq (tAsg (tTup (tCons (tCall (sp_both C) [] E0 (tCons (tVar 4) (tCons (tVar 5) tNil))) (tCons (tCall (sp_closed C) [] E0 (tCons (tVar 4) tNil)) (tCons (tCall (sp_highest C) [] E0 (tCons (tVar 4) tNil)) (tCons (tCall (sp_lowest C) [] E0 (tCons (tVar 4) tNil)) tNil))))) (gTup K 4 (gCons (gName 9) (gCons (gName 10) (gCons (gName 11) (gCons (gName 12) gNil)))))) (t_lawT_5 K C)
def t_lawT_3 (K : PySem.W.Frag) (C : Addr) : TS := tSeq (tIfS (tTest (tOp rEq (tCall spDraw [] E0 (tCons (tVar 1) (tCons (tC (.int 2)) tNil))) (tC (.int 0)))) (tAsg (tIf (tTest (tOp rEq (tCall spDraw [] E0 (tCons (tVar 1) (tCons (tC (.int 2)) tNil))) (tC (.int 0)))) (tCall (sp_both C) [] E0 (tCons (tVar 4) (tCons (tVar 5) tNil))) (tCall (sp_closed C) [] E0 (tCons (tVar 4) tNil))) (gName 5)) tNext) (t_lawT_4 K C)
def t_lawT_2 (K : PySem.W.Frag) (C : Addr) : TS := tSeq (tAsg (tMake C (sp_Table___init__ C) [] E0 (tCons (tVar 3) (tCons (tCall (sp__law_caps C) [] E0 (tCons (tVar 1) (tCons (tVar 3) (tCons (tCall (spPick K) [] E0 (tCons (tVar 1) (tCons (tLst (tCons (tC (.int 2)) (tCons (tC (.int 4)) tNil))) tNil))) (tCons (tC (.int 4)) tNil))))) tNil))) (gName 5)) (t_lawT_3 K C)
def t_lawT_1 (K : PySem.W.Frag) (C : Addr) : TS := tSeq (tAsg (tMake C (sp_Table___init__ C) [] E0 (tCons (tVar 3) (tCons (tCall (sp__law_caps C) [] E0 (tCons (tVar 1) (tCons (tVar 3) (tCons (tCall (spPick K) [] E0 (tCons (tVar 1) (tCons (tLst (tCons (tC (.int 1)) (tCons (tC (.int 2)) tNil))) tNil))) (tCons (tC (.int 4)) tNil))))) tNil))) (gName 4)) (t_lawT_2 K C)
def t_lawT_0 (K : PySem.W.Frag) (C : Addr) : TS := tSeq (tAsg (tCall (spPick K) [] E0 (tCons (tVar 1) (tCons (tLst (tCons (tC (.int 1)) (tCons (tC (.int 2)) (tCons (tC (.int 2)) (tCons (tC (.int 3)) tNil))))) tNil))) (gName 3)) (t_lawT_1 K C)
def t_law_2 (K : PySem.W.Frag) (C : Addr) : TS := (tRet (tC (.bl true)))
def t_law_1 (K : PySem.W.Frag) (C : Addr) : TS := tSeq (tFor (iRng1 (tCons (tOp rAddI (tC (.int 1)) (tCB rMin2 (tCons (tCB (cLen K) (tCons (tVar 0) tNil)) (tCons (tC (.int 2)) tNil)))) tNil)) (gName 2) (tSeq (tAsg (tCall (spPick K) [] E0 (tCons (tVar 1) (tCons (tLst (tCons (tC (.int 1)) (tCons (tC (.int 2)) (tCons (tC (.int 2)) (tCons (tC (.int 3)) tNil))))) tNil))) (gName 3)) (tSeq (tAsg (tMake C (sp_Table___init__ C) [] E0 (tCons (tVar 3) (tCons (tCall (sp__law_caps C) [] E0 (tCons (tVar 1) (tCons (tVar 3) (tCons (tCall (spPick K) [] E0 (tCons (tVar 1) (tCons (tLst (tCons (tC (.int 1)) (tCons (tC (.int 2)) tNil))) tNil))) (tCons (tC (.int 4)) tNil))))) tNil))) (gName 4)) (tSeq (tAsg (tMake C (sp_Table___init__ C) [] E0 (tCons (tVar 3) (tCons (tCall (sp__law_caps C) [] E0 (tCons (tVar 1) (tCons (tVar 3) (tCons (tCall (spPick K) [] E0 (tCons (tVar 1) (tCons (tLst (tCons (tC (.int 2)) (tCons (tC (.int 4)) tNil))) tNil))) (tCons (tC (.int 4)) tNil))))) tNil))) (gName 5)) (tSeq (tIfS (tTest (tOp rEq (tCall spDraw [] E0 (tCons (tVar 1) (tCons (tC (.int 2)) tNil))) (tC (.int 0)))) (tAsg (tIf (tTest (tOp rEq (tCall spDraw [] E0 (tCons (tVar 1) (tCons (tC (.int 2)) tNil))) (tC (.int 0)))) (tCall (sp_both C) [] E0 (tCons (tVar 4) (tCons (tVar 5) tNil))) (tCall (sp_closed C) [] E0 (tCons (tVar 4) tNil))) (gName 5)) tNext) (tSeq (tAsg (tTup (tCons (tCall (sp_both C) [] E0 (tCons (tVar 4) (tCons (tVar 5) tNil))) (tCons (tCall (sp_closed C) [] E0 (tCons (tVar 4) tNil)) (tCons (tCall (sp_highest C) [] E0 (tCons (tVar 4) tNil)) (tCons (tCall (sp_lowest C) [] E0 (tCons (tVar 4) tNil)) tNil))))) (gTup K 4 (gCons (gName 9) (gCons (gName 10) (gCons (gName 11) (gCons (gName 12) gNil)))))) (tSeq (tAsg (tOp rAddI (tC (.int 1)) (tCall spDraw [] E0 (tCons (tVar 1) (tCons (tVar 3) tNil)))) (gName 6)) (tSeq (tAsg (tIf (tTest (tOp rGtI (tVar 3) (tC (.int 1)))) (tCall (sp_hidden C) [] E0 (tCons (tVar 4) (tCons (tTup (tCons (tVar 6) tNil)) tNil))) (tVar 4)) (gName 7)) (tSeq (tPar 13 14 (tCons (tCall (sp_is_within C) [] E0 (tCons (tVar 4) (tCons (tVar 5) tNil))) (tCons (tC (.int 0)) tNil))) (tSeq (tFor (iList K (tCall (sp__law_waters C) [] E0 (tCons (tVar 3) tNil))) (gName 8) (tSeq (tAsg (tMeth C "fits" (sp_Table_fits C) [] E0 (tVar 4) (tCons (tVar 8) tNil)) (gName 15)) (tSeq (tAsg (tOp rAddI (tVar 14) (tCB cInt1 (tCons (tVar 15) tNil))) (gName 14)) (tSeq (tIfS (tOr (tTest (tOp rNe (tMeth C "fits" (sp_Table_fits C) [] E0 (tVar 10) (tCons (tVar 8) tNil)) (tVar 15))) (tTest (tOp rNe (tMeth C "fits" (sp_Table_fits C) [] E0 (tVar 9) (tCons (tVar 8) tNil)) (tAndV (tVar 15) (tMeth C "fits" (sp_Table_fits C) [] E0 (tVar 5) (tCons (tVar 8) tNil)))))) (tRet (tC (.bl false))) tNext) (tSeq (tIfS (tAnd (tB (tVar 15)) (tOr (tAnd (tB (tVar 13)) (tNot (tB (tMeth C "fits" (sp_Table_fits C) [] E0 (tVar 5) (tCons (tVar 8) tNil))))) (tB (tCall (sp__law_is_passed C) [] E0 (tCons (tVar 8) (tCons (tVar 11) (tCons (tVar 12) tNil))))))) (tRet (tC (.bl false))) tNext) (tIfS (tAnd (tB (tVar 15)) (tTest (tOp rGtI (tVar 3) (tC (.int 1))))) (tSeq (tAsg (tLc (iEnumT K (tCons (tCall (sp_sums C) [] E0 (tCons (tVar 8) tNil)) tNil)) (gTup K 2 (gCons (gName 17) (gCons (gName 18) gNil))) (tTest (tOp rNe (tVar 17) (tVar 6))) (tVar 18) [17, 18]) (gName 16)) (tIfS (tNot (tB (tMeth C "fits" (sp_Table_fits C) [] E0 (tVar 7) (tCons (tCB (cTupleOf K) (tCons (tLc (iRng1 (tCons (tOp rSubI (tVar 3) (tC (.int 1))) tNil)) (gName 17) tYes (tOp rSubI (tOp (rIxL K) (tVar 16) (tOp rAddI (tVar 17) (tC (.int 1)))) (tOp (rIxL K) (tVar 16) (tVar 17))) [17]) tNil)) tNil)))) (tRet (tC (.bl false))) tNext)) tNext)))))) (tSeq (tIfS (tOr (tAnd (tB (tNotN (tCall (sp_ring C) [] E0 (tCons (tVar 4) tNil)))) (tTest (tOp rGtI (tVar 14) (tC (.int 0))))) (tAnd (tNot (tB (tVar 13))) (tNot (tB (tCall (sp__law_out C) [] E0 (tCons (tVar 4) (tCons (tVar 5) (tCons (tVar 3) tNil)))))))) (tRet (tC (.bl false))) tNext) (tIfS (tOr (tNot (tB (tCall (sp_is_same C) [] E0 (tCons (tVar 10) (tCons (tVar 4) tNil))))) (tOr (tNot (tB (tCall (sp_is_within C) [] E0 (tCons (tVar 9) (tCons (tVar 4) tNil))))) (tNot (tB (tCall (sp_is_within C) [] E0 (tCons (tVar 9) (tCons (tVar 5) tNil))))))) (tRet (tC (.bl false))) tNext)))))))))))) (t_law_2 K C)
def t_law_0 (K : PySem.W.Frag) (C : Addr) : TS := tSeq (tAsg (tCall (spBegun K) [] E0 (tCons (tVar 0) tNil)) (gName 1)) (t_law_1 K C)
section
variable {K : PySem.W.Frag} {C : Addr} {σ : L2.St} {H : Hp} {ta tb tc te : TE} {D : Ends} {t n : Nat} {E : List Edge} {st lg cs : Addr}
/-- t.fits(w) -/
theorem ev_fits {w : Addr} {xs : List Int} (F : TabF K C) (h0 : Ev ta σ H (.ref t)) (h1 : Ev tb σ H (.ref w)) (T : TabAt C H t n E) (hw : H w = some (.tup (intL xs))) (hl : xs.length = n) : Ev (tMeth C "fits" (sp_Table_fits C) [] E0 ta (tCons tb tNil)) σ H (.bl (fitsB E (pre xs))) := fun H1 e Q q =>
  h0 H1 e _ fun H2 e2 => by
    have T2 := T.ex (e.trans e2)
    obtain ⟨dx, d, t1, _⟩ := id T2
    refine ⟨t, dx, _, rfl, t1, ?_, h1 H2 (e.trans e2) _ fun H3 e3 => ?_⟩
    · rw [List.lookup_cons, List.lookup_cons]
      have h1 : (("fits" : Str) == ("_size" : Str)) = false := by decide +kernel
      have h2 : (("fits" : Str) == ("_bounds" : Str)) = false := by decide +kernel
      rw [h1, h2]
      rfl
    · exact ⟨isV (.bl (fitsB E (pre xs))), ⟨t, w, n, E, xs, rfl, T2.ex e3, (e.trans (e2.trans e3)) _ _ hw, hl, rfl⟩, fun v H4 e4 hv => by
        rw [show v = .bl (fitsB E (pre xs)) from hv]
        exact q H4 (e2.trans (e3.trans e4))⟩
end
end Bw
/-! The law: a water with a point hidden. -/
namespace Bw
open PySem PySem.Spec PyProof.Rows L2 Evl
section
variable {K : PySem.W.Frag} {C : Addr} {σ : L2.St} {H : Hp} {ta tb tc te : TE} {t n : Nat} {E : List Edge}
/-- [level for k, level in enumerate(tuple) if k != x] -/
theorem el_skip {xs : List Int} {tA : TA} {i1 i2 : Nat} {vs : List Nat} {tt : TT} {x : Nat} (h : ∀ H0, Ex H H0 → ∀ Q : List V → Hp → Prop, (∀ a H1, Ex H0 H1 → SqT K H1 a (intL xs) → Q [.ref a] H1) → tA σ H0 Q) (hz : xs.length ≤ 1000)
    (hw : ∀ u v, wipe (((wipe σ vs).set i1 (some u)).set i2 (some v)) vs = wipe σ vs) (ht : ∀ (i : Nat) (v : V) H1, Ex H H1 → EvT tt (((wipe σ vs).set i1 (some (.int (i : Nat)))).set i2 (some v)) H1 (!decide (i = x)))
    (he : ∀ (i : Nat) (v : V) H1, Ex H H1 → Ev te (((wipe σ vs).set i1 (some (.int (i : Nat)))).set i2 (some v)) H1 v) :
    EvL (tLc (iEnumT K tA) (gTup K 2 (gCons (gName i1) (gCons (gName i2) gNil))) tt te vs) σ H (intL (((List.range xs.length).filter fun i => !decide (i = x)).map fun i => xs.getD i 0)) := fun H0 e Q q => h H0 e _ fun a H1 e1 hx => ⟨a, _, rfl, hx, fun Dl hD => by
  have walk : Walk (IteT K a) xs.length (fun H => SqT K H a (intL xs)) (fun i H v H' => ∃ T y, v = .ref T ∧ H T = none ∧ H' = upd H T (.tup [.int (i : Nat), y]) ∧ (intL xs)[i]? = some y) :=
    ⟨fun i H hi q => ⟨_, _, q, getD_at hi⟩, fun H q => ⟨_, q, by rw [List.length_map]; exact Nat.le_refl _⟩, fun i H v H' _ q y => by
      obtain ⟨T, y, h1, h2, h3, h4⟩ := y
      exact ⟨T, y, h1, h2, h3, h4 _ q⟩⟩
  refine lc_it walk (fun i H' => H1 Dl = none ∧ Ex H1 H' ∧ H' Dl = some (.lst (intL (((List.range i).filter fun i => !decide (i = x)).map fun i => xs.getD i 0)))) ⟨hD, Ex.new hD, upd_same⟩ (fun i H' _ p => ex_t p.2.1 hx) (fun i v H' H2 hi p y => ?_) (fun H' p => q Dl H' (fresh_back e1 p.1) (e1.trans p.2.1) p.2.2)
  obtain ⟨T, y, rfl, hT, rfl, hy⟩ := y
  obtain ⟨p1, p2, p3⟩ := p
  rw [getD_at hi] at hy
  cases hy
  have eT : Ex H' (upd H' T (.tup [.int (i : Nat), .int (xs.getD i 0)])) := Ex.new hT
  have e2 := (e.trans e1).trans (p2.trans eT)
  refine ⟨T, _, rfl, st_of upd_same, rfl, _, _, rfl, _, _, rfl, rfl, hw _ _, ht i _ _ e2 _ (Ex.refl _) _ fun H3 e3 => ?_⟩
  by_cases c : i = x
  · rw [decide_eq_true c]
    refine iteF ⟨p1, p2.trans (eT.trans e3), ?_⟩
    rw [List.range_succ, List.filter_append, List.filter_cons_of_neg (by simp [c])]
    rw [e3 _ _ (eT _ _ p3)]
    simp
  · rw [decide_eq_false c]
    refine iteT (he i _ H3 (e2.trans e3) H3 (Ex.refl _) _ fun H4 e4 => ⟨_, e4 _ _ (e3 _ _ (eT _ _ p3)), ?_, p1, Ex.mut ((p2.trans (eT.trans e3)).trans e4) p1, ?_⟩)
    · rw [List.length_map, List.length_map]
      refine Nat.lt_of_le_of_lt (List.length_filter_le _ _) ?_
      rw [List.length_range]
      exact sz_lt (by omega)
    · rw [upd_same, List.range_succ, List.filter_append, List.filter_cons_of_pos (by simp [c]), List.map_append]
      show _ = some (HO.lst (List.map V.int (_ ++ _)))
      rw [List.map_append]
      rfl⟩
theorem difs_at : ∀ (xs : List Int) (m : Nat), xs.length = m + 1 → (List.range m).map (fun i => V.int (xs.getD (i + 1) 0 - xs.getD i 0)) = intL (difs xs)
  | [], m, h => by
    have h : 0 = m + 1 := h
    omega
  | [x], m, h => by
    have : m = 0 := by
      have h : 0 + 1 = m + 1 := h
      omega
    subst this
    rfl
  | x :: y :: r, m, h => by
    cases m with
    | zero =>
      have h : r.length + 1 + 1 = 0 + 1 := h
      omega
    | succ m =>
      have ih := difs_at (y :: r) m (by
        have h : r.length + 1 + 1 = m + 1 + 1 := h
        show r.length + 1 = m + 1
        omega)
      rw [List.range_succ_eq_map, List.map_cons, List.map_map]
      show V.int (y - x) :: _ = V.int (y - x) :: intL (difs (y :: r))
      rw [← ih]
      rfl
end
end Bw
/-! The law: one water. -/
namespace Bw
open PySem PySem.Spec PyProof.Rows L2 Evl
section
variable {K : PySem.W.Frag} {C : Addr} {σ : L2.St} {H : Hp} {ta tb tc te : TE} {D : Ends} {t n : Nat} {E : List Edge}
abbrev sP (sc stv tr nv left right x slim pool shared known top low isin fit : V) (v15 v16 v17 v18 : Option V) : L2.St := [some sc, some stv, some tr, some nv, some left, some right, some x, some slim, some pool, some shared, some known, some top, some low, some isin, some fit, v15, v16, v17, v18]
/-- what a turn has made -/
structure Turn1 (C : Addr) (H : Hp) (n x t u sh kn : Nat) (E E2 Es Ek : List Edge) (slim top low : V) : Prop where
  T : TabAt C H t n E
  U : TabAt C H u n E2
  S : TabAt C H sh n Es
  Kn : TabAt C H kn n Ek
  fs : ∀ s, FitE n Es s ↔ (FitE n E s ∧ FitE n E2 s)
  fk : ∀ s, FitE n Ek s ↔ FitE n E s
  x1 : 1 ≤ x
  x2 : x ≤ n
  top : top = .non ∨ ∃ w xs, top = .ref w ∧ H w = some (.tup (intL xs)) ∧ xs.length = n ∧ ∀ s, FitE n E s → ∀ a, a < n + 1 → s a - s 0 ≤ (pre xs).getD a 0
  low : low = .non ∨ ∃ w xs, low = .ref w ∧ H w = some (.tup (intL xs)) ∧ xs.length = n ∧ ∀ s, FitE n E s → ∀ a, a < n + 1 → (pre xs).getD a 0 ≤ s a - s 0
  slim : 1 < n → ∃ v E', slim = .ref v ∧ TabAt C H v (n - 1) E' ∧ ∀ s, FitE n E s → FitE (n - 1) E' fun i => s ((lfs n x).getD i 0)
theorem Turn1.go {H' : Hp} {x u sh kn : Nat} {E2 Es Ek : List Edge} {slim top low : V} (h : Turn1 C H n x t u sh kn E E2 Es Ek slim top low) (e : Ex H H') : Turn1 C H' n x t u sh kn E E2 Es Ek slim top low := by
  obtain ⟨T, U, S, Kn, fs, fk, x1, x2, tp, lw, sl⟩ := h
  refine ⟨T.ex e, U.ex e, S.ex e, Kn.ex e, fs, fk, x1, x2, ?_, ?_, fun h => ?_⟩
  · rcases tp with h | ⟨w, xs, h1, h2, r⟩
    · exact Or.inl h
    · exact Or.inr ⟨w, xs, h1, e _ _ h2, r⟩
  · rcases lw with h | ⟨w, xs, h1, h2, r⟩
    · exact Or.inl h
    · exact Or.inr ⟨w, xs, h1, e _ _ h2, r⟩
  · obtain ⟨v, E', h1, h2, r⟩ := sl h
    exact ⟨v, E', h1, h2.ex e, r⟩
theorem ev_intB {b : Bool} (h : Ev te σ H (.bl b)) : Ev (tCB cInt1 (tCons te tNil)) σ H (.int (if b then 1 else 0)) := fun H1 e Q q => h H1 e _ fun H2 e2 => Or.inr ⟨b, rfl, q H2 e2⟩
theorem pre_zero (xs : List Int) : (pre xs).getD 0 0 = 0 := by cases xs <;> rfl
open Classical in
theorem pure_pool4 (F : TabF K C) {sc stv tr isin fit : V} {v16 v17 v18 : Option V} {f : Bool} {x u sh kn w : Nat} {E2 Es Ek : List Edge} {slim top low : V} {xs : List Int} (W : Turn1 C H n x t u sh kn E E2 Es Ek slim top low) (n1 : 1 ≤ n) (n2 : n ≤ 3) (hw : H w = some (.tup (intL xs))) (hl : xs.length = n) (hf : f = true → FitE n E (lev xs))
    (k : ∀ v16 v17 v18 H2, Ex H H2 → D.nx (sP sc stv tr (.int (n : Int)) (.ref t) (.ref u) (.int (x : Int)) slim (.ref w) (.ref sh) (.ref kn) top low isin fit (some (.bl f)) v16 v17 v18) H2) : t_lawP_4 K C D (sP sc stv tr (.int (n : Int)) (.ref t) (.ref u) (.int (x : Int)) slim (.ref w) (.ref sh) (.ref kn) top low isin fit (some (.bl f)) v16 v17 v18) H := by
  refine s_when (b := f && decide ((1 : Int) < (n : Int))) (et_and (et_B (ev_var rfl)) fun _ => et_test (ev_op (ev_var rfl) ev_c rv_I0)) (fun hb H1 e1 => ?_) fun _ H1 e1 => k _ _ _ H1 e1
  rw [Bool.and_eq_true] at hb
  have hn : 1 < n := by
    have := of_decide_eq_true hb.2
    omega
  have W1 := W.go e1
  obtain ⟨sv, E', rfl, Ts, fits⟩ := W1.slim hn
  have hw1 := e1 _ _ hw
  have lp : (pre xs).length = n + 1 := by
    show (preA 0 xs).length = _
    rw [preA_length, hl]
  obtain ⟨L, eLd⟩ : ∃ L : List Int, L = (lfs n x).map fun i => (pre xs).getD i 0 := ⟨_, rfl⟩
  have lL : L.length = n := by rw [eLd, List.length_map, lfs_len W.x2]
  have atL : ∀ i, i < n → L.getD i 0 = lev xs ((lfs n x).getD i 0) := fun i hi => by
    rw [eLd, List.getD_eq_getElem?_getD, List.getElem?_map, (lfs_lt W.x2 hi).2]
    rfl
  have made := el_skip (K := K) (σ := sP sc stv tr (.int (n : Int)) (.ref t) (.ref u) (.int (x : Int)) (.ref sv) (.ref w) (.ref sh) (.ref kn) top low isin fit (some (.bl f)) v16 v17 v18) (H := H1) (xs := pre xs) (tA := tCons (tCall (sp_sums C) [] E0 (tCons (tVar 8) tNil)) tNil) (i1 := 17) (i2 := 18) (vs := [17, 18]) (tt := tTest (tOp rNe (tVar 17) (tVar 6))) (te := tVar 18) (x := x)
    (fun H0 e0 R r => evp_call (P := isT (intL (pre xs))) (ea_cons (ev_var rfl) ea_nil) (fun H2 e2 => ⟨w, xs, rfl, e2 _ _ hw1, by omega, by omega, rfl⟩) H0 e0 _ fun v H2 e2 ⟨p, hv, hp⟩ => by
      subst hv
      exact r p H2 e2 (st_of hp)) (by rw [lp]; omega) (fun _ _ => rfl) (fun i v H2 e2 => et_is (et_test (ev_op (ev_var rfl) (ev_var rfl) (rv_ne rfl))) (by
        congr 1
        refine decide_eq_decide.mpr ⟨fun h => ?_, fun h => by rw [h]⟩
        have := V.int.inj h
        omega)) (fun i v H2 e2 => ev_var rfl)
  rw [lp] at made
  refine q_asgL (xs := intL L) (by rw [eLd]; exact made) fun l H2 hlf e2 h2 => ?_
  have e12 := e1.trans e2
  have inner : EvL (tLc (iRng1 (tCons (tOp rSubI (tVar 3) (tC (.int 1))) tNil)) (gName 17) tYes (tOp rSubI (tOp (rIxL K) (tVar 16) (tOp rAddI (tVar 17) (tC (.int 1)))) (tOp (rIxL K) (tVar 16) (tVar 17))) [17]) (sP sc stv tr (.int (n : Int)) (.ref t) (.ref u) (.int (x : Int)) (.ref sv) (.ref w) (.ref sh) (.ref kn) top low isin fit (some (.bl f)) (some (.ref l)) v17 v18) H2 (intL (difs L)) := by
    have := el_lcR1 (σ := sP sc stv tr (.int (n : Int)) (.ref t) (.ref u) (.int (x : Int)) (.ref sv) (.ref w) (.ref sh) (.ref kn) top low isin fit (some (.bl f)) (some (.ref l)) v17 v18) (H := H2) (ta := tCons (tOp rSubI (tVar 3) (tC (.int 1))) tNil) (te := tOp rSubI (tOp (rIxL K) (tVar 16) (tOp rAddI (tVar 17) (tC (.int 1)))) (tOp (rIxL K) (tVar 16) (tVar 17))) (t := tYes) (j := 17) (vs := [17]) (n := ((n - 1 : Nat) : Int)) (fun _ => true) (fun i => V.int (L.getD (i + 1) 0 - L.getD i 0))
      (ea_cons (ev_is (ev_op (ev_var rfl) ev_c rv_I0) (by congr 1; omega)) ea_nil) (by omega) (fun _ => rfl) (fun i H3 e3 hi => et_yes) (fun i H3 e3 hi _ => by
        have hi2 : i < n - 1 := by omega
        have i1 : (i : Int) + 1 = ((i + 1 : Nat) : Int) := by omega
        refine ev_op (ev_op (ev_var rfl) (ev_is (ev_op (ev_var rfl) ev_c rv_I0) (show V.int ((i : Int) + 1) = V.int ((i + 1 : Nat) : Int) by rw [i1])) (rv_ixL (sq_of (e3 _ _ h2)) (atI_nat (getD_at (by omega))))) (ev_op (ev_var rfl) (ev_var rfl) (rv_ixL (sq_of (e3 _ _ h2)) (atI_nat (getD_at (by omega))))) rv_I0)
    rw [given_all, Int.toNat_natCast, difs_at L (n - 1) (by omega)] at this
    exact this
  show tIfS _ _ _ D (sP sc stv tr (.int (n : Int)) (.ref t) (.ref u) (.int (x : Int)) (.ref sv) (.ref w) (.ref sh) (.ref kn) top low isin fit (some (.bl f)) (some (.ref l)) v17 v18) H2
  have Ts2 := Ts.ex e2
  have fin : fitsB E' (pre (difs L)) = true := by
    refine (fitsB_iff Ts2 (difs L)).mpr ?_
    have h1 := fits_shift (c := L.getD 0 0) (fits (lev xs) (hf hb.1))
    intro a b y ha hb' hy
    have h2 := h1 a b y ha hb' hy
    have en : n - 1 + 1 = n := by omega
    rw [en] at ha hb'
    obtain ⟨z, r, eL⟩ : ∃ z r, L = z :: r := by
      cases L with
      | nil =>
        have : 0 = n := lL
        omega
      | cons z r => exact ⟨z, r, rfl⟩
    have lr : r.length + 1 = n := by rw [eL] at lL; exact lL
    have la := lev_difs z r a (by omega)
    have lb := lev_difs z r b (by omega)
    rw [← eL] at la lb
    have l0 : L.getD 0 0 = z := by rw [eL]; rfl
    have ga := atL a ha
    have gb := atL b hb'
    show lev (difs L) a - lev (difs L) b ≤ y
    have h2 : lev xs ((lfs n x).getD a 0) - L.getD 0 0 - (lev xs ((lfs n x).getD b 0) - L.getD 0 0) ≤ y := h2
    rw [la, lb]
    omega
  have lD : (difs L).length = n - 1 := by
    cases L with
    | nil =>
      have : 0 = n := lL
      omega
    | cons z r =>
      rw [difs_len]
      have : r.length + 1 = n := lL
      omega
  have call : Ev (tMeth C "fits" (sp_Table_fits C) [] E0 (tVar 7) (tCons (tCB (cTupleOf K) (tCons (tLc (iRng1 (tCons (tOp rSubI (tVar 3) (tC (.int 1))) tNil)) (gName 17) tYes (tOp rSubI (tOp (rIxL K) (tVar 16) (tOp rAddI (tVar 17) (tC (.int 1)))) (tOp (rIxL K) (tVar 16) (tVar 17))) [17]) tNil)) tNil)) (sP sc stv tr (.int (n : Int)) (.ref t) (.ref u) (.int (x : Int)) (.ref sv) (.ref w) (.ref sh) (.ref kn) top low isin fit (some (.bl f)) (some (.ref l)) v17 v18) H2 (.bl true) := by
    intro H3 e3 R r
    refine ⟨.ref sv, rfl, ?_⟩
    have T3 := Ts2.ex e3
    obtain ⟨dx, d, t1, _⟩ := id T3
    refine ⟨sv, dx, _, rfl, t1, ?_, eu_tupleOfN inner H3 e3 _ fun p H4 hp e4 h4 => ?_⟩
    · rw [List.lookup_cons, List.lookup_cons]
      have h1 : (("fits" : Str) == ("_size" : Str)) = false := by decide +kernel
      have h2 : (("fits" : Str) == ("_bounds" : Str)) = false := by decide +kernel
      rw [h1, h2]
      rfl
    · refine ⟨isV (.bl (fitsB E' (pre (difs L)))), ⟨sv, p, n - 1, E', difs L, rfl, T3.ex e4, h4, lD, rfl⟩, fun v H5 e5 hv => ?_⟩
      rw [show v = .bl (fitsB E' (pre (difs L))) from hv, fin]
      exact r H5 (e4.trans e5)
  exact s_when (b := !true) (et_not (et_B call)) (fun z => nomatch z) fun _ H3 e3 => k _ _ _ H3 (e12.trans e3)
end
end Bw
/-! The law: one water, in full; all of them. -/
namespace Bw
open PySem PySem.Spec PyProof.Rows L2 Evl
section
variable {K : PySem.W.Frag} {C : Addr} {σ : L2.St} {H : Hp} {ta tb tc te : TE} {D : Ends} {t n : Nat} {E : List Edge}
open Classical in
theorem pure_pool (F : TabF K C) {sc stv tr : V} {fit : Int} {v15 v16 v17 v18 : Option V} {x u sh kn w : Nat} {E2 Es Ek : List Edge} {slim top low : V} {xs : List Int} (W : Turn1 C H n x t u sh kn E E2 Es Ek slim top low) (n1 : 1 ≤ n) (n2 : n ≤ 3) (hw : H w = some (.tup (intL xs))) (hl : xs.length = n)
    (k : ∀ v15 v16 v17 v18 H2, Ex H H2 → D.nx (sP sc stv tr (.int (n : Int)) (.ref t) (.ref u) (.int (x : Int)) slim (.ref w) (.ref sh) (.ref kn) top low (.bl (decide (∀ s, FitE n E s → FitE n E2 s))) (.int (fit + (if decide (FitE n E (lev xs)) = true then 1 else 0))) v15 v16 v17 v18) H2) :
    t_lawP_0 K C D (sP sc stv tr (.int (n : Int)) (.ref t) (.ref u) (.int (x : Int)) slim (.ref w) (.ref sh) (.ref kn) top low (.bl (decide (∀ s, FitE n E s → FitE n E2 s))) (.int fit) v15 v16 v17 v18) H := by
  obtain ⟨isin, eI⟩ : ∃ b, b = decide (∀ s, FitE n E s → FitE n E2 s) := ⟨_, rfl⟩
  obtain ⟨f, ef⟩ : ∃ b, b = decide (FitE n E (lev xs)) := ⟨_, rfl⟩
  rw [← eI] at k ⊢
  rw [← ef] at k
  have fT : fitsB E (pre xs) = f := by rw [ef]; exact fitsB_eq W.T xs
  have fK : fitsB Ek (pre xs) = f := by rw [ef, fitsB_eq W.Kn xs]; exact decide_eq_decide.mpr (W.fk _)
  have fS : fitsB Es (pre xs) = (f && fitsB E2 (pre xs)) := by
    rw [ef, fitsB_eq W.S xs, fitsB_eq W.U xs, ← Bool.decide_and]
    exact decide_eq_decide.mpr (W.fs _)
  refine q_asg (v := .bl f) (ev_is (ev_fits F (ev_var rfl) (ev_var rfl) W.T hw hl) (by rw [fT])) fun H1 e1 => ?_
  refine q_asg (v := .int (fit + (if f = true then 1 else 0))) (ev_op (ev_var rfl) (ev_intB (ev_var rfl)) rv_I0) fun H2 e2 => ?_
  have e12 := e1.trans e2
  have W2 := W.go e12
  have hw2 := e12 _ _ hw
  show t_lawP_2 K C D (sP sc stv tr (.int (n : Int)) (.ref t) (.ref u) (.int (x : Int)) slim (.ref w) (.ref sh) (.ref kn) top low (.bl isin) (.int (fit + (if f = true then 1 else 0))) (some (.bl f)) v16 v17 v18) H2
  have eb : ∀ b : Bool, (!decide (V.bl b = V.bl b)) = false := fun b => by rw [decide_eq_true rfl]; rfl
  refine q_when (b := false || false) (et_or (a := false) (et_is (et_test (ev_op (ev_is (ev_fits F (ev_var rfl) (ev_var rfl) W2.Kn hw2 hl) (by rw [fK])) (ev_var rfl) (rv_ne rfl))) (eb f)) fun _ => et_is (et_test (ev_op (ev_is (ev_fits F (ev_var rfl) (ev_var rfl) W2.S hw2 hl) (by rw [fS])) (ev_andV (ev_var rfl) fun _ => ev_fits F (ev_var rfl) (ev_var rfl) W2.U hw2 hl) (rv_ne rfl))) (eb _)) (fun z => nomatch z) (fun _ H3 e3 => ?_)
  have W3 := W2.go e3
  have hw3 := e3 _ _ hw2
  have e13 := e12.trans e3
  have pz : lev xs 0 = 0 := pre_zero xs
  refine q_when (b := f && false) (et_and (et_B (ev_var rfl)) fun hf => ?_) (fun z => ?_) (fun _ H4 e4 => ?_)
  · have hfit : FitE n E (lev xs) := of_decide_eq_true (by rw [← ef]; exact hf)
    refine et_is (et_or (a := isin && !(fitsB E2 (pre xs))) (b := false) (et_and (et_B (ev_var rfl)) fun _ => et_not (et_B (ev_fits F (ev_var rfl) (ev_var rfl) W3.U hw3 hl))) fun _ => et_B (ev_callV (ea_cons (ev_var rfl) (ea_cons (ev_var rfl) (ea_cons (ev_var rfl) ea_nil))) fun H4 e4 => ⟨w, top, low, xs, n, rfl, e4 _ _ hw3, hl, n1, by omega, ?_, ?_, rfl⟩)) ?_
    · rcases (W3.go e4).top with h | ⟨w', ys, h1, h2, h3, h4⟩
      · exact Or.inl h
      · refine Or.inr ⟨w', ys, h1, h2, h3, fun a ha => ?_⟩
        have := h4 _ hfit a ha
        show lev xs a ≤ _
        omega
    · rcases (W3.go e4).low with h | ⟨w', ys, h1, h2, h3, h4⟩
      · exact Or.inl h
      · refine Or.inr ⟨w', ys, h1, h2, h3, fun a ha => ?_⟩
        have := h4 _ hfit a ha
        show _ ≤ lev xs a
        omega
    · rw [Bool.or_false]
      cases ei : isin with
      | false => rfl
      | true =>
        have hall : ∀ s, FitE n E s → FitE n E2 s := of_decide_eq_true (by rw [← eI]; exact ei)
        have := (fitsB_iff W.U xs).mpr (hall _ hfit)
        rw [this]
        rfl
  · rw [Bool.and_false] at z
    exact nomatch z
  · exact pure_pool4 F (W3.go e4) n1 n2 (e4 _ _ hw3) hl (fun h => of_decide_eq_true (by rw [← ef]; exact h)) fun v16 v17 v18 H5 e5 => k _ v16 v17 v18 H5 (e13.trans (e4.trans e5))
end
end Bw
/-! The law: a turn behind its draws. -/
namespace Bw
open PySem PySem.Spec PyProof.Rows L2 Evl
section
variable {K : PySem.W.Frag} {C : Addr} {σ : L2.St} {H : Hp} {ta tb tc te : TE} {D : Ends} {t n : Nat} {E : List Edge}
abbrev sQ (sc stv tr nv left right x slim : V) (v8 : Option V) (shared known top low isin fit : V) (v15 v16 v17 v18 : Option V) : L2.St := [some sc, some stv, some tr, some nv, some left, some right, some x, some slim, v8, some shared, some known, some top, some low, some isin, some fit, v15, v16, v17, v18]
theorem et_notN_and {P : Post} {u : TT} (h : EvP te σ H P) (hu : EvT u σ H false) : EvT (tAnd (tB (tNotN te)) u) σ H false := fun H1 e Q q => h H1 e _ fun v H2 e2 _ => by
  refine ⟨_, rfl, ?_⟩
  cases (!decide (v = V.non)) with
  | true => exact iteT (hu H2 (e.trans e2) _ fun H3 e3 => q H3 (e2.trans e3))
  | false => exact iteF (q H2 e2)
open Classical in
theorem pure_T9 {sc stv tr : V} {fit : Int} {v8 v15 v16 v17 v18 : Option V} {x u sh kn : Nat} {E2 Es Ek : List Edge} {slim top low : V} (W : Turn1 C H n x t u sh kn E E2 Es Ek slim top low) (hf : 0 < fit → ∃ s, FitE n E s)
    (k : ∀ H2, Ex H H2 → D.nx (sQ sc stv tr (.int (n : Int)) (.ref t) (.ref u) (.int (x : Int)) slim v8 (.ref sh) (.ref kn) top low (.bl (decide (∀ s, FitE n E s → FitE n E2 s))) (.int fit) v15 v16 v17 v18) H2) :
    t_lawT_9 K C D (sQ sc stv tr (.int (n : Int)) (.ref t) (.ref u) (.int (x : Int)) slim v8 (.ref sh) (.ref kn) top low (.bl (decide (∀ s, FitE n E s → FitE n E2 s))) (.int fit) v15 v16 v17 v18) H := by
  have rg : EvP (tCall (sp_ring C) [] E0 (tCons (tVar 4) tNil)) (sQ sc stv tr (.int (n : Int)) (.ref t) (.ref u) (.int (x : Int)) slim v8 (.ref sh) (.ref kn) top low (.bl (decide (∀ s, FitE n E s → FitE n E2 s))) (.int fit) v15 v16 v17 v18) H fun v H2 => v = .non ∨ ((∀ s, ¬ FitE n E s) ∧ ∃ q xs, v = .ref q ∧ H2 q = some (.lst xs)) :=
    evp_call (ea_cons (ev_var rfl) ea_nil) fun H1 e1 => ⟨t, n, E, rfl, W.T.ex e1, rfl⟩
  refine q_when (b := false || false) (et_or (a := false) ?_ fun _ => ?_) (fun z => nomatch z) (fun _ H1 e1 => ?_)
  · by_cases c : 0 < fit
    · obtain ⟨s, hs⟩ := hf c
      exact et_is (et_and (a := false) (b := false) (et_B (ev_notN (v := .non) (ev_ofP rg fun v H2 pv => pv.resolve_right fun z => z.1 s hs))) fun z => nomatch z) rfl
    · exact et_notN_and rg (et_is (et_test (ev_op (ev_var rfl) ev_c rv_I0)) (decide_eq_false c))
  · by_cases c : ∀ s, FitE n E s → FitE n E2 s
    · refine et_is (et_and (a := !true) (b := false) (et_not (et_B (ev_is (ev_var rfl) (by rw [decide_eq_true c])))) fun z => nomatch z) rfl
    · exact et_is (et_and (a := !false) (b := !true) (et_not (et_B (ev_is (ev_var rfl) (by rw [decide_eq_false c])))) fun _ => et_not (et_B (ev_callV (ea_cons (ev_var rfl) (ea_cons (ev_var rfl) (ea_cons (ev_var rfl) ea_nil))) fun H1 e1 => ⟨t, u, n, E, E2, rfl, W.T.ex e1, W.U.ex e1, c, rfl⟩))) rfl
  · have W1 := W.go e1
    refine s_when (b := !true || (!true || !true)) (et_or (et_not (et_B (ev_callV (ea_cons (ev_var rfl) (ea_cons (ev_var rfl) ea_nil)) fun H2 e2 => ⟨kn, t, n, Ek, E, rfl, W1.Kn.ex e2, W1.T.ex e2, ?_⟩))) fun _ => et_or (et_not (et_B (ev_callV (ea_cons (ev_var rfl) (ea_cons (ev_var rfl) ea_nil)) fun H2 e2 => ⟨sh, t, n, Es, E, rfl, W1.S.ex e2, W1.T.ex e2, ?_⟩))) fun _ => et_not (et_B (ev_callV (ea_cons (ev_var rfl) (ea_cons (ev_var rfl) ea_nil)) fun H2 e2 => ⟨sh, u, n, Es, E2, rfl, W1.S.ex e2, W1.U.ex e2, ?_⟩))) (fun z => nomatch z) fun _ H2 e2 => k H2 (e1.trans e2)
    · rw [decide_eq_true W.fk]
    · rw [decide_eq_true fun s f => ((W.fs s).mp f).1]
    · rw [decide_eq_true fun s f => ((W.fs s).mp f).2]
theorem q_forLP {P : V → Hp → Prop} {tl : TE} {g : TG} {tu tz : TS} (h : EvP tl σ H P)
    (k : ∀ v H1, Ex H H1 → P v H1 → ∃ a xs, v = .ref a ∧ SqL K H1 a xs ∧ ∃ Pv : Nat → L2.St → Hp → Prop, Pv 0 σ H1 ∧ (∀ i σ' H', i ≤ xs.length → Pv i σ' H' → SqL K H' a xs) ∧
      (∀ i x σ' H', xs[i]? = some x → Pv i σ' H' → g x σ' H' fun σ2 H2 => tu { D with nx := Pv (i + 1), ct := Pv (i + 1), bk := tz D } σ2 H2) ∧ ∀ σ' H', Pv xs.length σ' H' → tz D σ' H') : tSeq (tFor (iList K tl) g tu) tz D σ H := by
  refine h H (Ex.refl H) _ fun v H1 e1 pv => ?_
  obtain ⟨a, xs, hv, hx, Pv, h0, hl, hs, hd⟩ := k v H1 e1 pv
  exact ⟨a, hv, ⟨xs, hx⟩, for_list (D := { D with nx := tz D }) Pv h0 hl hs hd⟩
open Classical in
theorem pure_T8 (F : TabF K C) {sc stv tr : V} {v8 v15 v16 v17 v18 : Option V} {x u sh kn : Nat} {E2 Es Ek : List Edge} {slim top low : V} (W : Turn1 C H n x t u sh kn E E2 Es Ek slim top low) (n1 : 1 ≤ n) (n2 : n ≤ 3)
    (k : ∀ fit v8 v15 v16 v17 v18 H2, Ex H H2 → D.nx (sQ sc stv tr (.int (n : Int)) (.ref t) (.ref u) (.int (x : Int)) slim v8 (.ref sh) (.ref kn) top low (.bl (decide (∀ s, FitE n E s → FitE n E2 s))) (.int fit) v15 v16 v17 v18) H2) :
    t_lawT_8 K C D (sQ sc stv tr (.int (n : Int)) (.ref t) (.ref u) (.int (x : Int)) slim v8 (.ref sh) (.ref kn) top low (.bl (decide (∀ s, FitE n E s → FitE n E2 s))) (.int 0) v15 v16 v17 v18) H := by
  have ws : EvP (tCall (sp__law_waters C) [] E0 (tCons (tVar 3) tNil)) (sQ sc stv tr (.int (n : Int)) (.ref t) (.ref u) (.int (x : Int)) slim v8 (.ref sh) (.ref kn) top low (.bl (decide (∀ s, FitE n E s → FitE n E2 s))) (.int 0) v15 v16 v17 v18) H fun v H2 => ∃ p cs, v = .ref p ∧ WtAt H2 p n cs ∧ cs.length ≤ 1000 := evp_call (ea_cons (ev_var rfl) ea_nil) fun H1 e1 => ⟨n, rfl, n2, rfl⟩
  refine q_forLP ws fun v H1 e1 ⟨p, cs, hv, wt, lc⟩ => ⟨p, cs.map V.ref, hv, sq_of wt.1, (fun j σ' H' => ∃ fit v8 v15 v16 v17 v18, σ' = sQ sc stv tr (.int (n : Int)) (.ref t) (.ref u) (.int (x : Int)) slim v8 (.ref sh) (.ref kn) top low (.bl (decide (∀ s, FitE n E s → FitE n E2 s))) (.int fit) v15 v16 v17 v18 ∧ Ex H1 H' ∧ (0 < fit → ∃ s, FitE n E s)),
    ⟨0, _, _, _, _, _, rfl, Ex.refl _, fun z => absurd z (by decide)⟩, fun j σ' H' _ ⟨_, _, _, _, _, _, _, e, _⟩ => sq_of (e _ _ wt.1), fun j y σ' H' hy ⟨fit, v8, v15, v16, v17, v18, es, e, hf⟩ => ?_, fun σ' H' ⟨fit, v8, v15, v16, v17, v18, es, e, hf⟩ => ?_⟩
  · subst es
    rw [List.getElem?_map] at hy
    obtain ⟨c, hc, rfl⟩ := Option.map_eq_some_iff.mp hy
    obtain ⟨xs, hx, lx⟩ := wt.2 c (List.mem_of_getElem? hc)
    refine pure_pool F (W.go (e1.trans e)) n1 n2 (e _ _ hx) lx fun v15 v16 v17 v18 H2 e2 => ⟨_, _, _, _, _, _, rfl, e.trans e2, fun z => ?_⟩
    by_cases c : FitE n E (lev xs)
    · exact ⟨_, c⟩
    · rw [decide_eq_false c] at z
      refine hf ?_
      have z : 0 < fit + 0 := z
      omega
  · subst es
    exact pure_T9 (W.go (e1.trans e)) hf fun H2 e2 => k fit v8 v15 v16 v17 v18 H2 (e1.trans (e.trans e2))
end
end Bw
/-! The law: a turn from its isin, from its slim. -/
namespace Bw
open PySem PySem.Spec PyProof.Rows L2 Evl
section
variable {K : PySem.W.Frag} {C : Addr} {σ : L2.St} {H : Hp} {ta tb tc te : TE} {D : Ends} {t n : Nat} {E : List Edge}
abbrev sR (sc stv tr nv left right x : V) (v7 v8 : Option V) (shared known top low : V) (v13 v14 v15 v16 v17 v18 : Option V) : L2.St := [some sc, some stv, some tr, some nv, some left, some right, some x, v7, v8, some shared, some known, some top, some low, v13, v14, v15, v16, v17, v18]
theorem evp_callVU {Pre : List V → Hp → Post → Prop} {X : XK} {v : V} {xs : List V} {P : Post} (h : Ev ta σ H v) (h2 : EvU te σ H xs) (hp : ∀ p H1, Ex H H1 → H1 p = some (.tup xs) → Pre [v, .ref p] H1 P) :
    EvP (tCall (spOf Pre) [] X (tCons ta (tCons te tNil))) σ H P := fun H1 e Q q => h H1 e _ fun H2 e2 => h2 H2 (e.trans e2) _ fun p H3 _ e3 h3 =>
  ⟨P, hp p H3 ((e.trans e2).trans e3) h3, fun v H4 e4 pv => q v H4 (e2.trans (e3.trans e4)) pv⟩
theorem evp_if {t : TT} {b : Bool} {P : Post} (h : EvT t σ H b) (h1 : b = true → EvP ta σ H P) (h2 : b = false → EvP tb σ H P) : EvP (tIf t ta tb) σ H P := fun H1 e Q q => h H1 e _ fun H2 e2 => by
  cases b with
  | true => exact iteT (h1 rfl H2 (e.trans e2) Q fun v H3 e3 => q v H3 (e2.trans e3))
  | false => exact iteF (h2 rfl H2 (e.trans e2) Q fun v H3 e3 => q v H3 (e2.trans e3))
open Classical in
theorem pure_T7 (F : TabF K C) {sc stv tr : V} {v8 v13 v14 v15 v16 v17 v18 : Option V} {x u sh kn : Nat} {E2 Es Ek : List Edge} {slim top low : V} (W : Turn1 C H n x t u sh kn E E2 Es Ek slim top low) (n1 : 1 ≤ n) (n2 : n ≤ 3)
    (k : ∀ isin fit v8 v15 v16 v17 v18 H2, Ex H H2 → D.nx (sQ sc stv tr (.int (n : Int)) (.ref t) (.ref u) (.int (x : Int)) slim v8 (.ref sh) (.ref kn) top low isin fit v15 v16 v17 v18) H2) :
    t_lawT_7 K C D (sR sc stv tr (.int (n : Int)) (.ref t) (.ref u) (.int (x : Int)) (some slim) v8 (.ref sh) (.ref kn) top low v13 v14 v15 v16 v17 v18) H := by
  have a : EvA (tCons (tCall (sp_is_within C) [] E0 (tCons (tVar 4) (tCons (tVar 5) tNil))) (tCons (tC (.int 0)) tNil)) (sR sc stv tr (.int (n : Int)) (.ref t) (.ref u) (.int (x : Int)) (some slim) v8 (.ref sh) (.ref kn) top low v13 v14 v15 v16 v17 v18) H [.bl (decide (∀ s, FitE n E s → FitE n E2 s)), .int 0] :=
    ea_cons (ev_callV (ea_cons (ev_var rfl) (ea_cons (ev_var rfl) ea_nil)) fun H1 e1 => ⟨t, u, n, E, E2, rfl, W.T.ex e1, W.U.ex e1, rfl⟩) (ea_cons ev_c ea_nil)
  unfold t_lawT_7 tSeq tPar
  refine a H (Ex.refl _) _ fun H1 e1 => ⟨_, _, rfl, ?_⟩
  exact pure_T8 F (W.go e1) n1 n2 fun fit v8 v15 v16 v17 v18 H2 e2 => k _ _ _ _ _ _ _ H2 (e1.trans e2)
theorem pure_T6 (F : TabF K C) {sc stv tr : V} {v7 v8 v13 v14 v15 v16 v17 v18 : Option V} {x u sh kn : Nat} {E2 Es Ek : List Edge} {top low : V} (T : TabAt C H t n E) (x1 : 1 ≤ x) (x2 : x ≤ n) (n1 : 1 ≤ n) (n2 : n ≤ 3)
    (W : ∀ slim H2, Ex H H2 → (1 < n → ∃ v E', slim = .ref v ∧ TabAt C H2 v (n - 1) E' ∧ ∀ s, FitE n E s → FitE (n - 1) E' fun i => s ((lfs n x).getD i 0)) → Turn1 C H2 n x t u sh kn E E2 Es Ek slim top low)
    (k : ∀ slim isin fit v8 v15 v16 v17 v18 H2, Ex H H2 → D.nx (sQ sc stv tr (.int (n : Int)) (.ref t) (.ref u) (.int (x : Int)) slim v8 (.ref sh) (.ref kn) top low isin fit v15 v16 v17 v18) H2) :
    t_lawT_6 K C D (sR sc stv tr (.int (n : Int)) (.ref t) (.ref u) (.int (x : Int)) v7 v8 (.ref sh) (.ref kn) top low v13 v14 v15 v16 v17 v18) H := by
  have hp : EvP (tIf (tTest (tOp rGtI (tVar 3) (tC (.int 1)))) (tCall (sp_hidden C) [] E0 (tCons (tVar 4) (tCons (tTup (tCons (tVar 6) tNil)) tNil))) (tVar 4)) (sR sc stv tr (.int (n : Int)) (.ref t) (.ref u) (.int (x : Int)) v7 v8 (.ref sh) (.ref kn) top low v13 v14 v15 v16 v17 v18) H fun slim H2 => 1 < n → ∃ v E', slim = .ref v ∧ TabAt C H2 v (n - 1) E' ∧ ∀ s, FitE n E s → FitE (n - 1) E' fun i => s ((lfs n x).getD i 0) := by
    refine evp_if (et_test (ev_op (ev_var rfl) ev_c rv_I0)) (fun c => ?_) fun c => ?_
    · have c : (1 : Int) < (n : Int) := of_decide_eq_true c
      refine evp_callVU (ev_var rfl) (eu_tup (ea_cons (ev_var rfl) ea_nil) (by simp)) fun p H4 e4 h4 => ⟨t, p, x, n, E, rfl, T.ex e4, h4, x1, x2, by omega, ?_⟩
      funext v H2
      exact propext ⟨fun z => z (by omega), fun z _ => z⟩
    · have c : ¬ (1 : Int) < (n : Int) := of_decide_eq_false c
      exact fun H1 e Q q => (ev_var rfl : Ev (tVar 4) _ H (.ref t)) H1 e _ fun H2 e2 => q _ H2 e2 fun z => absurd z (by omega)
  unfold t_lawT_6 tSeq tAsg
  refine hp H (Ex.refl _) _ fun slim H1 e1 w => ?_
  exact pure_T7 F (W slim H1 e1 w) n1 n2 fun isin fit v8 v15 v16 v17 v18 H2 e2 => k slim isin fit v8 v15 v16 v17 v18 H2 (e1.trans e2)
end
end Bw
/-! The law: a turn from its point on. -/
namespace Bw
open PySem PySem.Spec PyProof.Rows L2 Evl
/-- what a turn knows of its tables ahead of its point -/
structure Turn0 (C : Addr) (H : Hp) (n t u sh kn : Nat) (E E2 Es Ek : List Edge) (top low : V) : Prop where
  T : TabAt C H t n E
  U : TabAt C H u n E2
  S : TabAt C H sh n Es
  Kn : TabAt C H kn n Ek
  fs : ∀ s, FitE n Es s ↔ (FitE n E s ∧ FitE n E2 s)
  fk : ∀ s, FitE n Ek s ↔ FitE n E s
  top : top = .non ∨ ∃ w xs, top = .ref w ∧ H w = some (.tup (intL xs)) ∧ xs.length = n ∧ ∀ s, FitE n E s → ∀ a, a < n + 1 → s a - s 0 ≤ (pre xs).getD a 0
  low : low = .non ∨ ∃ w xs, low = .ref w ∧ H w = some (.tup (intL xs)) ∧ xs.length = n ∧ ∀ s, FitE n E s → ∀ a, a < n + 1 → (pre xs).getD a 0 ≤ s a - s 0
section
variable {K : PySem.W.Frag} {C : Addr} {σ : L2.St} {H : Hp} {ta tb tc te : TE} {D : Ends} {t n : Nat} {E : List Edge}
theorem Turn0.go {H' : Hp} {u sh kn : Nat} {E2 Es Ek : List Edge} {top low : V} (h : Turn0 C H n t u sh kn E E2 Es Ek top low) (e : Ex H H') : Turn0 C H' n t u sh kn E E2 Es Ek top low := by
  obtain ⟨T, U, S, Kn, fs, fk, tp, lw⟩ := h
  refine ⟨T.ex e, U.ex e, S.ex e, Kn.ex e, fs, fk, ?_, ?_⟩
  · rcases tp with h | ⟨w, xs, h1, h2, r⟩
    · exact Or.inl h
    · exact Or.inr ⟨w, xs, h1, e _ _ h2, r⟩
  · rcases lw with h | ⟨w, xs, h1, h2, r⟩
    · exact Or.inl h
    · exact Or.inr ⟨w, xs, h1, e _ _ h2, r⟩
theorem Turn0.but {H' : Hp} {st lg : Addr} {cs : Addr} {d : Nat} {u sh kn : Nat} {E2 Es Ek : List Edge} {top low : V} (h : Turn0 C H n t u sh kn E E2 Es Ek top low) (Sr : Src H st lg cs d) (b : But H H' st lg) : Turn0 C H' n t u sh kn E E2 Es Ek top low := by
  obtain ⟨T, U, S, Kn, fs, fk, tp, lw⟩ := h
  refine ⟨T.but Sr b, U.but Sr b, S.but Sr b, Kn.but Sr b, fs, fk, ?_, ?_⟩
  · rcases tp with h | ⟨w, xs, h1, h2, r⟩
    · exact Or.inl h
    · exact Or.inr ⟨w, xs, h1, tup_but h2 Sr b, r⟩
  · rcases lw with h | ⟨w, xs, h1, h2, r⟩
    · exact Or.inl h
    · exact Or.inr ⟨w, xs, h1, tup_but h2 Sr b, r⟩
/-- the slots behind a turn -/
def Rest (sc stv tr : V) (σ : L2.St) : Prop := ∃ v3 v4 v5 v6 v7 v8 v9 v10 v11 v12 v13 v14 v15 v16 v17 v18 : Option V, σ = [some sc, some stv, some tr, v3, v4, v5, v6, v7, v8, v9, v10, v11, v12, v13, v14, v15, v16, v17, v18]
theorem pure_T5 (F : TabF K C) {sc tr : V} {st lg : Addr} {cs : Addr} {d : Nat} {v6 v7 v8 v13 v14 v15 v16 v17 v18 : Option V} {u sh kn : Nat} {E2 Es Ek : List Edge} {top low : V} (W : Turn0 C H n t u sh kn E E2 Es Ek top low) (n1 : 1 ≤ n) (n2 : n ≤ 3)
    (Sr : Src H st lg cs d) (hd : d < 2 ^ 40) (k : ∀ σ' H2, Rest sc (.ref st) tr σ' → Src H2 st lg cs (d + 1) → D.nx σ' H2) :
    t_lawT_5 K C D [some sc, some (.ref st), some tr, some (.int (n : Int)), some (.ref t), some (.ref u), v6, v7, v8, some (.ref sh), some (.ref kn), some top, some low, v13, v14, v15, v16, v17, v18] H := by
  unfold t_lawT_5 tSeq tAsg
  refine (ev_c : Ev (tC (.int 1)) [some sc, some (.ref st), some tr, some (.int (n : Int)), some (.ref t), some (.ref u), v6, v7, v8, some (.ref sh), some (.ref kn), some top, some low, v13, v14, v15, v16, v17, v18] H (.int 1)) H (Ex.refl _) _ fun H1 e1 => ?_
  refine b_draw (ea_cons (ev_var rfl) (ea_cons (ev_var rfl) ea_nil)) n1 (by omega) hd (Sr.lift e1) fun r H2 hr S2 b2 => ?_
  have W2 := (W.go e1).but (Sr.lift e1) b2
  refine (rv_I0 : RV rAddI (.int 1) (.int (r : Int)) H2 _) H2 (Ex.refl _) _ fun H3 e3 => ?_
  have W3 := W2.go e3
  have ex : (1 : Int) + (r : Int) = ((r + 1 : Nat) : Int) := by omega
  rw [ex]
  refine pure_T6 (x := r + 1) (E2 := E2) (Es := Es) (Ek := Ek) F W3.T (by omega) (by omega) n1 n2 (fun slim H4 e4 h4 => ?_) fun slim isin fit v8 v15 v16 v17 v18 H4 e4 => k _ H4 ⟨_, _, _, _, _, _, _, _, _, _, _, _, _, _, _, _, rfl⟩ (S2.lift (e3.trans e4))
  obtain ⟨T, U, S, Kn, fs, fk, tp, lw⟩ := W3.go e4
  exact ⟨T, U, S, Kn, fs, fk, by omega, by omega, tp, lw, h4⟩
end
end Bw
/-! The law: a turn from its draws on. -/
namespace Bw
open PySem PySem.Spec PyProof.Rows L2 Evl
section
variable {K : PySem.W.Frag} {C : Addr} {σ : L2.St} {H : Hp} {ta tb tc te : TE} {D : Ends} {t n : Nat} {E : List Edge} {st lg cs : Addr} {d : Nat}
theorem src_but {H' : Hp} {o : HO} {b : Addr} (B : But H H' st lg) (hb : H b = some o) (h1 : b ≠ st) (h2 : b ≠ lg) : H' b = some o := B _ _ hb h1 h2
/-- Table(many, caps(state, many, pick(state, several), 4)) -/
theorem make_cap {a b : Nat} {tl tm : TE} {Q : VK} (h1 : ∀ H, Ev ta σ H (.ref st)) (h3 : ∀ H, Ev tm σ H (.int (n : Int))) (hl : ∀ H, EvL tl σ H [.int (a : Int), .int (b : Int)]) (a1 : 0 < a) (a2 : a ≤ 1000) (b1 : 0 < b) (b2 : b ≤ 1000) (n1 : 1 ≤ n) (n2 : n ≤ 3) (hd : d < 2 ^ 29) (S : Src H st lg cs d)
    (q : ∀ x H2 E', Src H2 st lg cs (d + 101) → But H H2 st lg → TabAt C H2 x n E' → Q (.ref x) H2) :
    tMake C (sp_Table___init__ C) [] E0 (tCons tm (tCons (tCall (sp__law_caps C) [] E0 (tCons ta (tCons tm (tCons (tCall (spPick K) [] E0 (tCons ta (tCons tl tNil))) (tCons (tC (.int 4)) tNil))))) tNil)) σ H Q := by
  refine h3 H H (Ex.refl _) _ fun H1 e1 => ?_
  refine h1 H1 H1 (Ex.refl _) _ fun H2 e2 => ?_
  refine h3 H2 H2 (Ex.refl _) _ fun H3 e3 => ?_
  have e13 := e1.trans (e2.trans e3)
  refine b_pick (h1 H3) (hl H3) (Nat.zero_lt_succ _) (show 2 ≤ 1000 by decide) (Nat.lt_trans hd (by decide)) (S.lift e13) fun x H4 hx S4 B4 => ?_
  have hx2 : ∃ k : Nat, x = .int (k : Int) ∧ 0 < k ∧ k ≤ 1000 := by
    rcases List.mem_cons.mp hx with h | h
    · exact ⟨a, h, a1, a2⟩
    · rcases List.mem_cons.mp h with h | h
      · exact ⟨b, h, b1, b2⟩
      · exact nomatch h
  obtain ⟨k, rfl, k1, k2⟩ := hx2
  refine (ev_c : Ev (tC (.int 4)) σ H4 (.int 4)) H4 (Ex.refl _) _ fun H4' e4' => ?_
  refine ⟨st, lg, cs, n, k, d + 1, rfl, n1, n2, k1, k2, by omega, S4.lift e4', fun dd H5 E' S5 B5 hn0 nst nlg hdd g nd len => ?_⟩
  have B15 : But H H5 st lg := (((But.ex e13).trans B4).trans (But.ex e4')).trans B5
  intro z dx hz hdx ne
  have nbx : dd ≠ z := ne_of_none hdd hz
  have nbd : dd ≠ dx := ne_of_none hdd hdx
  refine ⟨z, dx, dd, n, E', rfl, upd_same, by rw [upd_ne nbx, upd_ne nbd]; exact hdd, g, nd, n1, by omega, len, fun H6 E'' kk T p => ⟨rfl, ?_⟩⟩
  have e6 : Ex H5 H6 := fun c o hc => by
    have c1 : c ≠ z := ne_of_none hc hz
    have c2 : c ≠ dx := ne_of_none hc hdx
    refine kk c o c1 ?_
    rw [upd_ne c1, upd_ne c2]
    exact hc
  exact q z H6 E'' (S5.lift e6) (B15.trans (But.ex e6)) T
theorem pure_T4 (F : TabF K C) {sc tr : V} {v6 v7 v8 v9 v10 v11 v12 v13 v14 v15 v16 v17 v18 : Option V} {u : Nat} {E2 : List Edge} (T : TabAt C H t n E) (U : TabAt C H u n E2) (n1 : 1 ≤ n) (n2 : n ≤ 3)
    (Sr : Src H st lg cs d) (hd : d < 2 ^ 40) (k : ∀ σ' H2, Rest sc (.ref st) tr σ' → Src H2 st lg cs (d + 1) → D.nx σ' H2) :
    t_lawT_4 K C D [some sc, some (.ref st), some tr, some (.int (n : Int)), some (.ref t), some (.ref u), v6, v7, v8, v9, v10, v11, v12, v13, v14, v15, v16, v17, v18] H := by
  unfold t_lawT_4 tSeq tAsg
  generalize hs : ([some sc, some (.ref st), some tr, some (.int (n : Int)), some (.ref t), some (.ref u), v6, v7, v8, v9, v10, v11, v12, v13, v14, v15, v16, v17, v18] : L2.St) = σ0
  have vT : ∀ H, Ev (tVar 4) σ0 H (.ref t) := fun H => by subst hs; exact ev_var rfl
  have vU : ∀ H, Ev (tVar 5) σ0 H (.ref u) := fun H => by subst hs; exact ev_var rfl
  refine (evp_call (Pre := fun vs H P => ∃ t u n E E2, vs = [.ref t, .ref u] ∧ TabAt C H t n E ∧ TabAt C H u n E2 ∧ P = fun v H2 => ∃ w E', v = .ref w ∧ TabAt C H2 w n E' ∧ ∀ s, FitE n E' s ↔ (FitE n E s ∧ FitE n E2 s)) (P := fun v H2 => ∃ w E', v = .ref w ∧ TabAt C H2 w n E' ∧ ∀ s, FitE n E' s ↔ (FitE n E s ∧ FitE n E2 s)) (ea_cons (vT H) (ea_cons (vU H) ea_nil)) fun H1 e1 => ⟨t, u, n, E, E2, rfl, T.ex e1, U.ex e1, rfl⟩) H (Ex.refl _) _ fun v9' H1 e1 p9 => ?_
  refine (evp_call (Pre := fun vs H P => ∃ t n E, vs = [.ref t] ∧ TabAt C H t n E ∧ P = fun v H2 => ∃ u E', v = .ref u ∧ TabAt C H2 u n E' ∧ (∀ s, FitE n E' s ↔ FitE n E s) ∧ ((∀ s, ¬ FitE n E s) ∨ Closed (n + 1) (matE E'))) (P := fun v H2 => ∃ u E', v = .ref u ∧ TabAt C H2 u n E' ∧ (∀ s, FitE n E' s ↔ FitE n E s) ∧ ((∀ s, ¬ FitE n E s) ∨ Closed (n + 1) (matE E'))) (ea_cons (vT H1) ea_nil) fun H2 e2 => ⟨t, n, E, rfl, T.ex (e1.trans e2), rfl⟩) H1 (Ex.refl _) _ fun v10' H2 e2 p10 => ?_
  refine (evp_call (Pre := fun vs H P => ∃ t n E, vs = [.ref t] ∧ TabAt C H t n E ∧ P = fun v H2 => v = .non ∨ ∃ w xs, v = .ref w ∧ H2 w = some (.tup (intL xs)) ∧ xs.length = n ∧ ∀ s, FitE n E s → ∀ a, a < n + 1 → s a - s 0 ≤ (pre xs).getD a 0) (P := fun v H2 => v = .non ∨ ∃ w xs, v = .ref w ∧ H2 w = some (.tup (intL xs)) ∧ xs.length = n ∧ ∀ s, FitE n E s → ∀ a, a < n + 1 → s a - s 0 ≤ (pre xs).getD a 0) (ea_cons (vT H2) ea_nil) fun H3 e3 => ⟨t, n, E, rfl, T.ex (e1.trans (e2.trans e3)), rfl⟩) H2 (Ex.refl _) _ fun v11' H3 e3 p11 => ?_
  refine (evp_call (Pre := fun vs H P => ∃ t n E, vs = [.ref t] ∧ TabAt C H t n E ∧ P = fun v H2 => v = .non ∨ ∃ w xs, v = .ref w ∧ H2 w = some (.tup (intL xs)) ∧ xs.length = n ∧ ∀ s, FitE n E s → ∀ a, a < n + 1 → (pre xs).getD a 0 ≤ s a - s 0) (P := fun v H2 => v = .non ∨ ∃ w xs, v = .ref w ∧ H2 w = some (.tup (intL xs)) ∧ xs.length = n ∧ ∀ s, FitE n E s → ∀ a, a < n + 1 → (pre xs).getD a 0 ≤ s a - s 0) (ea_cons (vT H3) ea_nil) fun H4 e4 => ⟨t, n, E, rfl, T.ex (e1.trans (e2.trans (e3.trans e4))), rfl⟩) H3 (Ex.refl _) _ fun v12' H4 e4 p12 => ?_
  refine ⟨by show 4 ≤ _; decide, fun p hp => ?_⟩
  have e5 : Ex H4 (upd H4 p (.tup [v9', v10', v11', v12'])) := Ex.new hp
  refine ⟨p, _, rfl, st_of upd_same, rfl, _, _, rfl, _, _, rfl, _, _, rfl, _, _, rfl, rfl, ?_⟩
  obtain ⟨sh, Es, rfl, hS, fs⟩ := p9
  obtain ⟨kn, Ek, rfl, hK, fk, -⟩ := p10
  have eA := e1.trans (e2.trans (e3.trans (e4.trans e5)))
  subst hs
  refine pure_T5 (E := E) (E2 := E2) (Es := Es) (Ek := Ek) (t := t) (u := u) (sh := sh) (kn := kn) F ⟨T.ex eA, U.ex eA, hS.ex (e2.trans (e3.trans (e4.trans e5))), hK.ex (e3.trans (e4.trans e5)), fs, fk, ?_, ?_⟩ n1 n2 (Sr.lift eA) hd k
  · rcases p11 with h | ⟨w, xs, h1, h2, r⟩
    · exact Or.inl h
    · exact Or.inr ⟨w, xs, h1, (e4.trans e5) _ _ h2, r⟩
  · rcases p12 with h | ⟨w, xs, h1, h2, r⟩
    · exact Or.inl h
    · exact Or.inr ⟨w, xs, h1, e5 _ _ h2, r⟩
end
end Bw
/-! The law: a turn in full. -/
namespace Bw
open PySem PySem.Spec PyProof.Rows L2 Evl
section
variable {K : PySem.W.Frag} {C : Addr} {σ : L2.St} {H : Hp} {ta tb tc te : TE} {D : Ends} {t n : Nat} {E : List Edge} {st lg cs : Addr} {d : Nat}
theorem pure_T3 (F : TabF K C) {sc tr : V} {v6 v7 v8 v9 v10 v11 v12 v13 v14 v15 v16 v17 v18 : Option V} {u : Nat} {E2 : List Edge} (T : TabAt C H t n E) (U : TabAt C H u n E2) (n1 : 1 ≤ n) (n2 : n ≤ 3)
    (Sr : Src H st lg cs d) (hd : d < 2 ^ 30) (k : ∀ σ' H2, Rest sc (.ref st) tr σ' → Src H2 st lg cs (d + 3) → D.nx σ' H2) :
    t_lawT_3 K C D [some sc, some (.ref st), some tr, some (.int (n : Int)), some (.ref t), some (.ref u), v6, v7, v8, v9, v10, v11, v12, v13, v14, v15, v16, v17, v18] H := by
  have hd1 : d < 2 ^ 40 := Nat.lt_trans hd (by decide)
  have hd2 : d + 1 < 2 ^ 40 := by
    have : (2 : Nat) ^ 30 + 1 < 2 ^ 40 := by decide
    omega
  have hd3 : d + 2 < 2 ^ 40 := by
    have : (2 : Nat) ^ 30 + 2 < 2 ^ 40 := by decide
    omega
  unfold t_lawT_3 tSeq tIfS
  generalize hs : ([some sc, some (.ref st), some tr, some (.int (n : Int)), some (.ref t), some (.ref u), v6, v7, v8, v9, v10, v11, v12, v13, v14, v15, v16, v17, v18] : L2.St) = σ0
  have vS : ∀ H, Ev (tVar 1) σ0 H (.ref st) := fun H => by subst hs; exact ev_var rfl
  have vT : ∀ H, Ev (tVar 4) σ0 H (.ref t) := fun H => by subst hs; exact ev_var rfl
  have vU : ∀ H, Ev (tVar 5) σ0 H (.ref u) := fun H => by subst hs; exact ev_var rfl
  have arg : ∀ H, EvA (tCons (tVar 1) (tCons (tC (.int 2)) tNil)) σ0 H [.ref st, .int ((2 : Nat) : Int)] := fun H => ea_cons (vS H) (ea_cons ev_c ea_nil)
  refine b_draw (arg H) (by decide) (by decide) hd1 Sr fun r H1 hr S1 B1 => ?_
  refine ⟨rfl, _, rfl, ?_⟩
  have T1 := T.but Sr B1
  have U1 := U.but Sr B1
  refine ite_b (fun hz => ?_) (fun hz => ?_)
  · unfold tAsg tIf
    refine b_draw (arg H1) (by decide) (by decide) hd2 S1 fun r2 H2 hr2 S2 B2 => ?_
    refine ⟨rfl, _, rfl, ?_⟩
    have T2 := T1.but S1 B2
    have U2 := U1.but S1 B2
    refine ite_b (fun hz2 => ?_) (fun hz2 => ?_)
    · refine (evp_call (Pre := fun vs H P => ∃ t u n E E2, vs = [.ref t, .ref u] ∧ TabAt C H t n E ∧ TabAt C H u n E2 ∧ P = fun v H2 => ∃ w E', v = .ref w ∧ TabAt C H2 w n E' ∧ ∀ s, FitE n E' s ↔ (FitE n E s ∧ FitE n E2 s)) (P := fun v H2 => ∃ w E', v = .ref w ∧ TabAt C H2 w n E' ∧ ∀ s, FitE n E' s ↔ (FitE n E s ∧ FitE n E2 s)) (ea_cons (vT H2) (ea_cons (vU H2) ea_nil)) fun H3 e3 => ⟨t, u, n, E, E2, rfl, T2.ex e3, U2.ex e3, rfl⟩) H2 (Ex.refl _) _ fun v H3 e3 p => ?_
      obtain ⟨w, E', rfl, W, -⟩ := p
      subst hs
      exact pure_T4 (E := E) (E2 := E') F (T2.ex e3) W n1 n2 (S2.lift e3) hd3 fun σ' H4 hr hS => k σ' H4 hr hS
    · refine (evp_call (Pre := fun vs H P => ∃ t n E, vs = [.ref t] ∧ TabAt C H t n E ∧ P = fun v H2 => ∃ u E', v = .ref u ∧ TabAt C H2 u n E' ∧ (∀ s, FitE n E' s ↔ FitE n E s) ∧ ((∀ s, ¬ FitE n E s) ∨ Closed (n + 1) (matE E'))) (P := fun v H2 => ∃ u E', v = .ref u ∧ TabAt C H2 u n E' ∧ (∀ s, FitE n E' s ↔ FitE n E s) ∧ ((∀ s, ¬ FitE n E s) ∨ Closed (n + 1) (matE E'))) (ea_cons (vT H2) ea_nil) fun H3 e3 => ⟨t, n, E, rfl, T2.ex e3, rfl⟩) H2 (Ex.refl _) _ fun v H3 e3 p => ?_
      obtain ⟨w, E', rfl, W, -⟩ := p
      subst hs
      exact pure_T4 (E := E) (E2 := E') F (T2.ex e3) W n1 n2 (S2.lift e3) hd3 fun σ' H4 hr hS => k σ' H4 hr hS
  · subst hs
    exact pure_T4 (E := E) (E2 := E2) F T1 U1 n1 n2 S1 hd2 fun σ' H4 hr hS => k σ' H4 hr (hS.up (by omega))
theorem pure_T2 (F : TabF K C) {sc tr : V} {v5 v6 v7 v8 v9 v10 v11 v12 v13 v14 v15 v16 v17 v18 : Option V} (T : TabAt C H t n E) (n1 : 1 ≤ n) (n2 : n ≤ 3)
    (Sr : Src H st lg cs d) (hd : d < 2 ^ 28) (k : ∀ σ' H2, Rest sc (.ref st) tr σ' → Src H2 st lg cs (d + 104) → D.nx σ' H2) :
    t_lawT_2 K C D [some sc, some (.ref st), some tr, some (.int (n : Int)), some (.ref t), v5, v6, v7, v8, v9, v10, v11, v12, v13, v14, v15, v16, v17, v18] H := by
  have hd1 : d < 2 ^ 29 := Nat.lt_trans hd (by decide)
  have hd2 : d + 101 < 2 ^ 30 := by
    have : (2 : Nat) ^ 28 + 101 < 2 ^ 30 := by decide
    omega
  unfold t_lawT_2 tSeq tAsg
  refine make_cap (a := 2) (b := 4) (fun H => ev_var rfl) (fun H => ev_var rfl) (fun H => el_lst (ea_cons ev_c (ea_cons ev_c ea_nil)) (by show 2 ≤ 100000; decide)) (by decide) (by decide) (by decide) (by decide) n1 n2 hd1 Sr fun x H2 E' S2 B2 U => ?_
  exact pure_T3 (E := E) (E2 := E') F (T.but Sr B2) U n1 n2 S2 hd2 k
theorem pure_T1 (F : TabF K C) {sc tr : V} {v4 v5 v6 v7 v8 v9 v10 v11 v12 v13 v14 v15 v16 v17 v18 : Option V} (n1 : 1 ≤ n) (n2 : n ≤ 3)
    (Sr : Src H st lg cs d) (hd : d < 2 ^ 27) (k : ∀ σ' H2, Rest sc (.ref st) tr σ' → Src H2 st lg cs (d + 205) → D.nx σ' H2) :
    t_lawT_1 K C D [some sc, some (.ref st), some tr, some (.int (n : Int)), v4, v5, v6, v7, v8, v9, v10, v11, v12, v13, v14, v15, v16, v17, v18] H := by
  have hd1 : d < 2 ^ 29 := Nat.lt_trans hd (by decide)
  have hd2 : d + 101 < 2 ^ 28 := by
    have : (2 : Nat) ^ 27 + 101 < 2 ^ 28 := by decide
    omega
  unfold t_lawT_1 tSeq tAsg
  refine make_cap (a := 1) (b := 2) (fun H => ev_var rfl) (fun H => ev_var rfl) (fun H => el_lst (ea_cons ev_c (ea_cons ev_c ea_nil)) (by show 2 ≤ 100000; decide)) (by decide) (by decide) (by decide) (by decide) n1 n2 hd1 Sr fun x H2 E' S2 B2 U => ?_
  exact pure_T2 (E := E') F U n1 n2 S2 hd2 k
theorem pure_T0 (F : TabF K C) {sc tr : V} (h : Rest sc (.ref st) tr σ)
    (Sr : Src H st lg cs d) (hd : d < 2 ^ 26) (k : ∀ σ' H2, Rest sc (.ref st) tr σ' → Src H2 st lg cs (d + 206) → D.nx σ' H2) :
    t_lawT_0 K C D σ H := by
  obtain ⟨v3, v4, v5, v6, v7, v8, v9, v10, v11, v12, v13, v14, v15, v16, v17, v18, rfl⟩ := h
  have hd1 : d < 2 ^ 40 := Nat.lt_trans hd (by decide)
  have hd2 : d + 1 < 2 ^ 27 := by
    have : (2 : Nat) ^ 26 + 1 < 2 ^ 27 := by decide
    omega
  unfold t_lawT_0 tSeq tAsg
  refine b_pick (xs := [.int 1, .int 2, .int 2, .int 3]) (ev_var rfl) (el_lst (ea_cons ev_c (ea_cons ev_c (ea_cons ev_c (ea_cons ev_c ea_nil)))) (by show 4 ≤ 100000; decide)) (by show 0 < 4; decide) (by show 4 ≤ 1000; decide) hd1 Sr fun x H2 hx S2 B2 => ?_
  have hx2 : ∃ n : Nat, x = .int (n : Int) ∧ 1 ≤ n ∧ n ≤ 3 := by
    rcases List.mem_cons.mp hx with h | hx
    · exact ⟨1, h, by decide, by decide⟩
    rcases List.mem_cons.mp hx with h | hx
    · exact ⟨2, h, by decide, by decide⟩
    rcases List.mem_cons.mp hx with h | hx
    · exact ⟨2, h, by decide, by decide⟩
    · exact ⟨3, List.mem_singleton.mp hx, by decide, by decide⟩
  obtain ⟨n, rfl, n1, n2⟩ := hx2
  exact pure_T1 F n1 n2 S2 hd2 k
end
def sp_law (K : PySem.W.Frag) : Sp := fun vs H Q _ => ∃ (a : Addr) (ns : List Int), vs = [.ref a] ∧ SqL K H a (ns.map V.int) ∧ ns.length ≤ 1000 ∧ ∀ H', Q (.bl true) H'
end Bw
/-! The law in full. -/
namespace Bw
open PySem PySem.Spec PyProof.Rows L2 Evl
section
variable {K : PySem.W.Frag} {C : Addr} {σ : L2.St} {H : Hp} {ta tb tc te : TE} {D : Ends} {t n : Nat} {E : List Edge} {st lg cs : Addr} {d : Nat}
theorem pure_law (F : TabF K C) {a : Addr} {ns : List Int} {Q : VK} (hS : SqL K H a (ns.map V.int)) (hl : ns.length ≤ 1000) (q : ∀ H', Q (.bl true) H') :
    t_law_0 K C (ends Q) [some (.ref a), none, none, none, none, none, none, none, none, none, none, none, none, none, none, none, none, none, none] H := by
  unfold t_law_0 tSeq tAsg
  refine (ev_var rfl : Ev (tVar 0) [some (.ref a), none, none, none, none, none, none, none, none, none, none, none, none, none, none, none, none, none, none] H (.ref a)) H (Ex.refl _) _ fun H1 e1 => ?_
  refine ⟨a, ns, rfl, ex_l e1 hS, hl, fun st lg cs H2 n1 n2 S e2 => ?_⟩
  have cnt : EvA (tCons (tOp rAddI (tC (.int 1)) (tCB rMin2 (tCons (tCB (cLen K) (tCons (tVar 0) tNil)) (tCons (tC (.int 2)) tNil)))) tNil) [some (.ref a), some (.ref st), none, none, none, none, none, none, none, none, none, none, none, none, none, none, none, none, none] H2 [.int ((1 + min ns.length 2 : Nat) : Int)] := by
    refine ea_cons (ev_is (ev_op ev_c (ev_cb (z := .int (if (2 : Int) < (ns.length : Int) then 2 else (ns.length : Int))) (ea_cons (ev_cb (z := .int (ns.length : Int)) (ea_cons (ev_var rfl) ea_nil) fun H3 e3 Q q => ⟨_, _, rfl, Or.inl ⟨_, ex_l (e1.trans (e2.trans e3)) hS, rfl⟩, ?_⟩) (ea_cons ev_c ea_nil)) fun H3 e3 Q q => ⟨_, _, rfl, q H3 (Ex.refl _)⟩) rv_I0) ?_) ea_nil
    · rw [List.length_map]
      exact q H3 (Ex.refl _)
    · congr 1
      by_cases c : (2 : Int) < (ns.length : Int)
      · rw [if_pos c]
        omega
      · rw [if_neg c]
        omega
  unfold t_law_1
  have pw : ∀ i : Nat, i ≤ 3 → i * 206 < 2 ^ 26 := fun i hi => Nat.lt_of_le_of_lt (Nat.mul_le_mul_right 206 hi) (by decide)
  refine q_forR1 cnt (by omega) (fun i σ' H' => ∃ tr, Src H' st lg cs (i * 206) ∧ ∃ v3 v4 v5 v6 v7 v8 v9 v10 v11 v12 v13 v14 v15 v16 v17 v18 : Option V, σ' = [some (.ref a), some (.ref st), tr, v3, v4, v5, v6, v7, v8, v9, v10, v11, v12, v13, v14, v15, v16, v17, v18]) (fun H3 e3 => ⟨none, S.lift e3, _, _, _, _, _, _, _, _, _, _, _, _, _, _, _, _, rfl⟩) (fun i σ' H' hi ⟨tr, S', v3, v4, v5, v6, v7, v8, v9, v10, v11, v12, v13, v14, v15, v16, v17, v18, es⟩ => ?_) (fun σ' H' _ => ?_)
  · subst es
    have hi3 : i ≤ 3 := by omega
    refine pure_T0 (d := i * 206) (sc := .ref a) (tr := .int (i : Int)) F ⟨v3, v4, v5, v6, v7, v8, v9, v10, v11, v12, v13, v14, v15, v16, v17, v18, rfl⟩ S' (pw i hi3) fun σ2 H2 ⟨w3, w4, w5, w6, w7, w8, w9, w10, w11, w12, w13, w14, w15, w16, w17, w18, es2⟩ S2 => ?_
    exact ⟨_, by rw [Nat.succ_mul]; exact S2, _, _, _, _, _, _, _, _, _, _, _, _, _, _, _, _, es2⟩
  · exact q H'
end
end Bw
/-! Rounds of shorter reaches kept in tables, until a ring shows behind what was changed last: told as a function of the bounds. -/
namespace Bw
/-! ### tables of numbers -/
section
variable {α : Type}
def getA (A : List (Nat × α)) (x : Nat) : Option α := (A.find? fun p => decide (p.1 = x)).map (·.2)
def putA (A : List (Nat × α)) (x : Nat) (y : α) : List (Nat × α) := if (A.any fun p => decide (p.1 = x)) = true then A.map (fun p => if p.1 = x then (p.1, y) else p) else A ++ [(x, y)]
theorem getA_nil {x : Nat} : getA ([] : List (Nat × α)) x = none := rfl
theorem getA_cons {A : List (Nat × α)} {p : Nat × α} {x : Nat} : getA (p :: A) x = if p.1 = x then some p.2 else getA A x := by
  unfold getA
  rw [List.find?_cons]
  by_cases c : p.1 = x
  · rw [decide_eq_true c, if_pos c]; rfl
  · rw [decide_eq_false c, if_neg c]
theorem getA_none {A : List (Nat × α)} {x : Nat} : getA A x = none ↔ x ∉ A.map (·.1) := by
  induction A with
  | nil => exact ⟨fun _ h => (nomatch h), fun _ => rfl⟩
  | cons p r ih =>
    rw [getA_cons, List.map_cons, List.mem_cons]
    by_cases c : p.1 = x
    · rw [if_pos c]
      exact ⟨fun h => (nomatch h), fun h => absurd (Or.inl c.symm) h⟩
    · rw [if_neg c, ih]
      exact ⟨fun h z => z.elim (fun e => c e.symm) h, fun h z => h (Or.inr z)⟩
theorem getA_some {A : List (Nat × α)} {x : Nat} : (∃ y, getA A x = some y) ↔ x ∈ A.map (·.1) := by
  constructor
  · intro ⟨y, h⟩
    refine Classical.byContradiction fun z => ?_
    rw [getA_none.mpr z] at h
    exact nomatch h
  · intro h
    cases e : getA A x with
    | none => exact absurd h (getA_none.mp e)
    | some y => exact ⟨y, rfl⟩
theorem anyA {A : List (Nat × α)} {x : Nat} : (A.any fun p => decide (p.1 = x)) = true ↔ x ∈ A.map (·.1) := by
  rw [List.any_eq_true, List.mem_map]
  exact ⟨fun ⟨p, h1, h2⟩ => ⟨p, h1, of_decide_eq_true h2⟩, fun ⟨p, h1, h2⟩ => ⟨p, h1, decide_eq_true h2⟩⟩
theorem getA_map {A : List (Nat × α)} {x z : Nat} {y : α} : getA (A.map fun p => if p.1 = x then (p.1, y) else p) z = if z = x then (getA A z).map fun _ => y else getA A z := by
  induction A with
  | nil =>
    rw [List.map_nil, getA_nil]
    split <;> rfl
  | cons p r ih =>
    rw [List.map_cons, getA_cons, getA_cons, ih]
    by_cases c : p.1 = x
    · rw [if_pos c]
      by_cases d : p.1 = z
      · rw [if_pos d, if_pos d, if_pos (d.symm.trans c)]
        rfl
      · rw [if_neg d, if_neg d]
    · rw [if_neg c]
      by_cases d : p.1 = z
      · rw [if_pos d, if_pos d, if_neg (fun e => c (d.trans e))]
      · rw [if_neg d, if_neg d]
theorem getA_app {A B : List (Nat × α)} {z : Nat} : getA (A ++ B) z = (getA A z).or (getA B z) := by
  induction A with
  | nil => rfl
  | cons p r ih =>
    rw [List.cons_append, getA_cons, getA_cons, ih]
    by_cases c : p.1 = z
    · rw [if_pos c, if_pos c]; rfl
    · rw [if_neg c, if_neg c]
theorem getA_put {A : List (Nat × α)} {x z : Nat} {y : α} : getA (putA A x y) z = if z = x then some y else getA A z := by
  unfold putA
  by_cases c : (A.any fun p => decide (p.1 = x)) = true
  · rw [if_pos c, getA_map]
    by_cases d : z = x
    · rw [if_pos d, if_pos d, d]
      obtain ⟨w, hw⟩ := getA_some.mpr (anyA.mp c)
      rw [hw]; rfl
    · rw [if_neg d, if_neg d]
  · rw [if_neg c, getA_app, getA_cons, getA_nil]
    have no : getA A x = none := getA_none.mpr fun h => c (anyA.mpr h)
    by_cases d : z = x
    · rw [if_pos d, if_pos d.symm, d, no]; rfl
    · rw [if_neg d, if_neg (fun e => d e.symm)]
      cases getA A z <;> rfl
theorem keys_put {A : List (Nat × α)} {x : Nat} {y : α} : (putA A x y).map (·.1) = if x ∈ A.map (·.1) then A.map (·.1) else A.map (·.1) ++ [x] := by
  unfold putA
  by_cases c : (A.any fun p => decide (p.1 = x)) = true
  · rw [if_pos c, if_pos (anyA.mp c), List.map_map]
    refine List.map_congr_left fun p _ => ?_
    show (if p.1 = x then (p.1, y) else p).1 = p.1
    split <;> rfl
  · rw [if_neg c, if_neg (fun h => c (anyA.mpr h)), List.map_append]
    rfl
theorem nodup_put {A : List (Nat × α)} {x : Nat} {y : α} (h : (A.map (·.1)).Nodup) : ((putA A x y).map (·.1)).Nodup := by
  rw [keys_put]
  by_cases c : x ∈ A.map (·.1)
  · rw [if_pos c]; exact h
  · rw [if_neg c]
    exact List.nodup_append.mpr ⟨h, List.nodup_cons.mpr ⟨List.not_mem_nil, List.nodup_nil⟩, fun a ha b hb e => c (List.mem_singleton.mp hb ▸ e ▸ ha)⟩
theorem mem_put {A : List (Nat × α)} {x z : Nat} {y : α} (h : z ∈ A.map (·.1)) : z ∈ (putA A x y).map (·.1) := by
  rw [keys_put]
  split
  · exact h
  · exact List.mem_append_left _ h
end
theorem small_len : ∀ (l : List Nat) (N : Nat), l.Nodup → (∀ x ∈ l, x < N) → l.length ≤ N := by
  intro l N hn hl
  refine Classical.byContradiction fun c => ?_
  have lt : N < l.length := Nat.lt_of_not_le c
  obtain ⟨i, j, hij, hj, e⟩ := pigeon N (fun i => l.getD i 0) fun i hi => by
    have hi' : i < l.length := by omega
    show l.getD i 0 < N
    rw [List.getD_eq_getElem?_getD, List.getElem?_eq_getElem hi']
    exact hl _ (List.getElem_mem hi')
  have hi' : i < l.length := by omega
  have hj' : j < l.length := by omega
  have e : l.getD i 0 = l.getD j 0 := e
  rw [List.getD_eq_getElem?_getD, List.getD_eq_getElem?_getD, List.getElem?_eq_getElem hi', List.getElem?_eq_getElem hj'] at e
  have e : l[i] = l[j] := e
  exact absurd e (List.pairwise_iff_getElem.mp hn i j hi' hj' hij)
/-! ### the rounds -/
structure LSt where
  R : List (Nat × Int)
  A : List (Nat × Nat)
  ch : Option Nat
def rOf (S : LSt) (x : Nat) : Int := (getA S.R x).getD 0
def toR (S : LSt) : RSt := ⟨rOf S, getA S.A, S.ch⟩
def relaxL (S : LSt) (e : Edge) : LSt := if rOf S e.1 + e.2.2 < rOf S e.2.1 then ⟨putA S.R e.2.1 (rOf S e.1 + e.2.2), putA S.A e.2.1 e.1, some e.2.1⟩ else S
theorem toR_relax {S : LSt} {e : Edge} : toR (relaxL S e) = relax (toR S) e := by
  unfold relaxL relax
  show toR (if rOf S e.1 + e.2.2 < rOf S e.2.1 then _ else S) = if rOf S e.1 + e.2.2 < rOf S e.2.1 then _ else toR S
  by_cases c : rOf S e.1 + e.2.2 < rOf S e.2.1
  · rw [if_pos c, if_pos c]
    unfold toR
    refine congr (congr (congrArg RSt.mk (funext fun x => ?_)) (funext fun x => ?_)) rfl
    · show (getA (putA S.R e.2.1 (rOf S e.1 + e.2.2)) x).getD 0 = setF (rOf S) e.2.1 (rOf S e.1 + e.2.2) x
      rw [getA_put]
      unfold setF
      split <;> rfl
    · show getA (putA S.A e.2.1 e.1) x = setF (getA S.A) e.2.1 (some e.1) x
      rw [getA_put]
      rfl
  · rw [if_neg c, if_neg c]
def roundL (E : List Edge) (S : LSt) : LSt := E.foldl relaxL { S with ch := none }
/-- what was changed has its place, and each change is told once -/
structure LOk (E : List Edge) (S : LSt) : Prop where
  nd : (S.A.map (·.1)).Nodup
  rk : ∀ e ∈ E, e.1 ∈ S.R.map (·.1) ∧ e.2.1 ∈ S.R.map (·.1)
theorem LOk.relax {E : List Edge} {S : LSt} {e : Edge} (h : LOk E S) : LOk E (relaxL S e) := by
  unfold relaxL
  split
  · exact ⟨nodup_put h.nd, fun f hf => ⟨mem_put (h.rk f hf).1, mem_put (h.rk f hf).2⟩⟩
  · exact h
theorem LOk.ch {E : List Edge} {S : LSt} {c : Option Nat} (h : LOk E S) : LOk E { S with ch := c } := ⟨h.nd, h.rk⟩
/-! ### the ring behind -/
def hopsA (A : List (Nat × Nat)) : Nat → Nat → Option Nat
  | 0, v => some v
  | n + 1, v => (getA A v).bind (hopsA A n)
def trail (A : List (Nat × Nat)) (v : Nat) : Nat → Nat → List Nat
  | 0, _ => []
  | k + 1, w => if w = v then [] else w :: trail A v k ((getA A w).getD 0)
def behind (A : List (Nat × Nat)) (s : Nat) : Option (List Nat) := (hopsA A A.length s).bind fun v => (getA A v).map fun w => (v :: trail A v A.length w).reverse
def loopL (E : List Edge) : Nat → LSt → Option (List Nat)
  | 0, _ => none
  | k + 1, S => (roundL E S).ch.bind fun c => (behind (roundL E S).A c).or (loopL E k (roundL E S))
/-- the first points met, 0 for each -/
def startR (E : List Edge) : List (Nat × Int) := E.foldl (fun R e => putA (putA R e.1 0) e.2.1 0) []
def ringF (n : Nat) (E : List Edge) : Option (List Nat) := loopL E (n + 3) ⟨startR E, [], none⟩
theorem hops_add {A : List (Nat × Nat)} : ∀ {i j v : Nat}, hopsA A (i + j) v = (hopsA A i v).bind (hopsA A j)
  | 0, j, v => by rw [Nat.zero_add]; rfl
  | i + 1, j, v => by
    rw [show i + 1 + j = (i + j) + 1 by omega]
    show (getA A v).bind (hopsA A (i + j)) = ((getA A v).bind (hopsA A i)).bind (hopsA A j)
    cases getA A v with
    | none => rfl
    | some w => exact hops_add
theorem hops_one {A : List (Nat × Nat)} {v : Nat} : hopsA A 1 v = getA A v := by
  show (getA A v).bind (hopsA A 0) = _
  cases getA A v <;> rfl
theorem hops_succ {A : List (Nat × Nat)} {i v : Nat} : hopsA A (i + 1) v = (hopsA A i v).bind (getA A) := by
  rw [hops_add]
  cases hopsA A i v with
  | none => rfl
  | some w => exact hops_one
theorem hops_pre {A : List (Nat × Nat)} {i j v w : Nat} (h : hopsA A j v = some w) (hij : i ≤ j) : ∃ x, hopsA A i v = some x := by
  have e : hopsA A (i + (j - i)) v = some w := by rw [show i + (j - i) = j by omega]; exact h
  rw [hops_add] at e
  cases q : hopsA A i v with
  | none => rw [q] at e; exact nomatch e
  | some x => exact ⟨x, rfl⟩
/-- a way back without end: as many hops as there are keys, and one more -/
theorem hops_all {A : List (Nat × Nat)} {s : Nat} (h : ∃ w, hopsA A (A.length + 1) s = some w) : ∃ (p : Nat → Nat) (i L : Nat), p 0 = s ∧ (∀ j, hopsA A j s = some (p j)) ∧ (∀ j, getA A (p j) = some (p (j + 1))) ∧ 0 < L ∧ i + L ≤ A.length ∧ ∀ j, i ≤ j → p (j + L) = p j := by
  obtain ⟨w, hw⟩ := h
  obtain ⟨p, ep⟩ : ∃ p : Nat → Nat, ∀ j, p j = (hopsA A j s).getD 0 := ⟨_, fun _ => rfl⟩
  have at0 : ∀ j, j ≤ A.length + 1 → hopsA A j s = some (p j) := fun j hj => by
    obtain ⟨x, hx⟩ := hops_pre hw hj
    rw [ep, hx]; rfl
  have nx : ∀ j, j ≤ A.length → getA A (p j) = some (p (j + 1)) := fun j hj => by
    have h1 := at0 (j + 1) (by omega)
    rw [hops_succ, at0 j (by omega)] at h1
    exact h1
  -- two of them are one
  have key : ∀ j, j ≤ A.length → p j ∈ A.map (·.1) := fun j hj => getA_some.mp ⟨_, nx j hj⟩
  obtain ⟨f, ef⟩ : ∃ f : Nat → Nat, ∀ x, f x = (A.map (·.1)).idxOf x := ⟨_, fun _ => rfl⟩
  obtain ⟨i, j, hij, hj, e⟩ := pigeon A.length (fun j => f (p j)) fun j hj => by
    show f (p j) < A.length
    rw [ef]
    have := List.idxOf_lt_length_iff.mpr (key j hj)
    rwa [List.length_map] at this
  have e : f (p i) = f (p j) := e
  have pe : p i = p j := by
    have h1 := List.idxOf_lt_length_iff.mpr (key i (by omega))
    have h2 := List.idxOf_lt_length_iff.mpr (key j hj)
    rw [ef, ef] at e
    have e1 : (A.map (·.1))[(A.map (·.1)).idxOf (p i)]? = some (p i) := by rw [List.getElem?_eq_getElem h1, List.getElem_idxOf h1]
    have e2 : (A.map (·.1))[(A.map (·.1)).idxOf (p j)]? = some (p j) := by rw [List.getElem?_eq_getElem h2, List.getElem_idxOf h2]
    rw [e] at e1
    exact Option.some.inj (e1.symm.trans e2)
  obtain ⟨L, eL⟩ : ∃ L, L = j - i := ⟨_, rfl⟩
  have back : hopsA A L (p i) = some (p i) := by
    have h1 := at0 (i + L) (by omega)
    rw [hops_add, at0 i (by omega)] at h1
    rw [show i + L = j by omega, ← pe] at h1
    exact h1
  -- all hops are there
  have ends : ∀ j, ∃ x, hopsA A j s = some x := by
    intro j
    induction j using Nat.strongRecOn with
    | ind j ih =>
      by_cases c : j ≤ A.length
      · exact ⟨_, at0 j (by omega)⟩
      · obtain ⟨x, hx⟩ := ih (j - L) (by omega)
        refine ⟨x, ?_⟩
        have e1 : j = i + L + (j - (i + L)) := by omega
        have e2 : j - L = i + (j - (i + L)) := by omega
        rw [e2, hops_add, at0 i (by omega)] at hx
        rw [e1, hops_add, hops_add, at0 i (by omega)]
        show ((hopsA A L (p i)).bind (hopsA A (j - (i + L)))) = some x
        rw [back]
        exact hx
  have at_ : ∀ j, hopsA A j s = some (p j) := fun j => by
    obtain ⟨x, hx⟩ := ends j
    rw [ep, hx]; rfl
  refine ⟨p, i, L, by rw [ep]; rfl, at_, fun j => ?_, by omega, by omega, fun j hj => ?_⟩
  · have h1 := at_ (j + 1)
    rw [hops_succ, at_ j] at h1
    exact h1
  · have h1 := at_ (j + L)
    rw [show j + L = i + L + (j - i) by omega, hops_add, hops_add, at_ i] at h1
    have h2 := at_ j
    rw [show j = i + (j - i) by omega, hops_add, at_ i] at h2
    have h1 : (hopsA A L (p i)).bind (hopsA A (j - i)) = some (p (i + L + (j - i))) := h1
    rw [back] at h1
    have h1 : hopsA A (j - i) (p i) = some (p (i + L + (j - i))) := h1
    have h2 : hopsA A (j - i) (p i) = some (p (i + (j - i))) := h2
    rw [h2] at h1
    rw [show j + L = i + L + (j - i) by omega, ← Option.some.inj h1, show i + (j - i) = j by omega]
theorem trail_at {A : List (Nat × Nat)} {p : Nat → Nat} (hp : ∀ j, getA A (p j) = some (p (j + 1))) {v L : Nat} : ∀ {k m : Nat}, (∀ i, i < L → p (m + i) ≠ v) → p (m + L) = v → L < k → trail A v k (p m) = (List.range L).map fun i => p (m + i) := by
  induction L with
  | zero =>
    intro k m _ h2 h3
    obtain ⟨k, rfl⟩ : ∃ k', k = k' + 1 := ⟨k - 1, by omega⟩
    show (if p m = v then [] else _) = _
    rw [if_pos (show p m = v from h2)]
    rfl
  | succ L ih =>
    intro k m h1 h2 h3
    obtain ⟨k, rfl⟩ : ∃ k', k = k' + 1 := ⟨k - 1, by omega⟩
    show (if p m = v then [] else p m :: trail A v k ((getA A (p m)).getD 0)) = _
    rw [if_neg (show ¬ p m = v from h1 0 (by omega)), hp m]
    show p m :: trail A v k (p (m + 1)) = _
    rw [ih (fun i hi => by rw [show m + 1 + i = m + (i + 1) by omega]; exact h1 (i + 1) (by omega)) (by rw [show m + 1 + L = m + (L + 1) by omega]; exact h2) (by omega)]
    rw [List.range_succ_eq_map, List.map_cons, List.map_map]
    refine congrArg (List.cons (p m)) (List.map_congr_left fun i _ => ?_)
    show p (m + 1 + i) = p (m + (i + 1))
    rw [show m + 1 + i = m + (i + 1) by omega]
/-- the least number of hops from v back to v -/
theorem least_back {p : Nat → Nat} {m L0 : Nat} (h0 : 0 < L0) (h : p (m + L0) = p m) : ∃ L, 0 < L ∧ L ≤ L0 ∧ p (m + L) = p m ∧ ∀ i, 0 < i → i < L → p (m + i) ≠ p m := by
  induction L0 using Nat.strongRecOn with
  | ind L0 ih =>
    by_cases c : ∃ i, 0 < i ∧ i < L0 ∧ p (m + i) = p m
    · obtain ⟨i, h1, h2, h3⟩ := c
      obtain ⟨L, q1, q2, q3⟩ := ih i h2 h1 h3
      exact ⟨L, q1, by omega, q3⟩
    · exact ⟨L0, h0, Nat.le_refl _, h, fun i h1 h2 h3 => c ⟨i, h1, h2, h3⟩⟩
/-- what behind tells -/
structure RingBk (A : List (Nat × Nat)) (p : Nat → Nat) (m L : Nat) (r : List Nat) : Prop where
  hop : ∀ j, getA A (p j) = some (p (j + 1))
  pos : 0 < L
  le : L ≤ A.length
  back : p (m + L) = p m
  first : ∀ i, 0 < i → i < L → p (m + i) ≠ p m
  eq : r = ((List.range L).map fun i => p (m + i)).reverse
theorem behind_some {A : List (Nat × Nat)} {s : Nat} {r : List Nat} (h : behind A s = some r) : ∃ p L, p 0 = s ∧ RingBk A p A.length L r := by
  unfold behind at h
  cases e1 : hopsA A A.length s with
  | none => rw [e1] at h; exact nomatch h
  | some v =>
    rw [e1] at h
    have h : (getA A v).map (fun w => (v :: trail A v A.length w).reverse) = some r := h
    cases e2 : getA A v with
    | none => rw [e2] at h; exact nomatch h
    | some w =>
      rw [e2] at h
      have h : some (v :: trail A v A.length w).reverse = some r := h
      obtain ⟨p, i, L0, p0, at_, hop, hL0, le, per⟩ := hops_all (A := A) (s := s) ⟨w, by rw [hops_succ, e1]; exact e2⟩
      have ev : p A.length = v := Option.some.inj ((at_ A.length).symm.trans e1)
      have ew : p (A.length + 1) = w := by
        have := hop A.length
        rw [ev, e2] at this
        exact (Option.some.inj this).symm
      obtain ⟨L, q1, q2, q3, q4⟩ := least_back hL0 (per A.length (by omega))
      refine ⟨p, L, p0, hop, q1, by omega, q3, q4, ?_⟩
      rw [← Option.some.inj h, ← ew, ← ev]
      obtain ⟨L', rfl⟩ : ∃ L', L = L' + 1 := ⟨L - 1, by omega⟩
      rw [trail_at hop (L := L') (fun i hi => by rw [show A.length + 1 + i = A.length + (i + 1) by omega]; exact q4 (i + 1) (by omega) (by omega)) (by rw [show A.length + 1 + L' = A.length + (L' + 1) by omega]; exact q3) (by omega)]
      rw [List.range_succ_eq_map, List.map_cons, List.map_map]
      refine congrArg List.reverse (congrArg (List.cons (p A.length)) (List.map_congr_left fun i _ => ?_))
      show p (A.length + 1 + i) = p (A.length + (i + 1))
      rw [show A.length + 1 + i = A.length + (i + 1) by omega]
/-- where behind tells none the way back ends -/
theorem behind_none {A : List (Nat × Nat)} {s : Nat} (h : behind A s = none) : ∃ i x, i ≤ A.length ∧ hopsA A i s = some x ∧ getA A x = none := by
  have e : hopsA A (A.length + 1) s = none := by
    rw [hops_succ]
    unfold behind at h
    cases e1 : hopsA A A.length s with
    | none => rfl
    | some v =>
      rw [e1] at h
      have h : (getA A v).map (fun w => (v :: trail A v A.length w).reverse) = none := h
      show getA A v = none
      cases e2 : getA A v with
      | none => rfl
      | some w => rw [e2] at h; exact nomatch h
  have go : ∀ m, hopsA A (m + 1) s = none → ∃ i x, i ≤ m ∧ hopsA A i s = some x ∧ getA A x = none := by
    intro m
    induction m with
    | zero => exact fun h => ⟨0, s, Nat.le_refl _, rfl, by rw [hops_one] at h; exact h⟩
    | succ m ih =>
      intro h
      cases e1 : hopsA A (m + 1) s with
      | none => obtain ⟨i, x, h1, h2⟩ := ih e1; exact ⟨i, x, by omega, h2⟩
      | some x =>
        rw [hops_succ, e1] at h
        exact ⟨m + 1, x, Nat.le_refl _, e1, h⟩
  exact go A.length e
end Bw
/-! Longer and longer ways of bounds: the mathematics of the laws' own closing. -/
namespace Bw
/-- a way of m steps from a to b whose bounds sum to x -/
def PW (E : List Edge) (a b m : Nat) (x : Int) : Prop := ∃ (p : Nat → Nat) (t : Nat → Int), p 0 = a ∧ p m = b ∧ t 0 = 0 ∧ t m = x ∧ ∀ i, i < m → (p i, p (i + 1), t (i + 1) - t i) ∈ E
/-- a water fits, told by its sums -/
abbrev OkS (E : List Edge) (s : Nat → Int) : Prop := ∀ e ∈ E, s e.1 - s e.2.1 ≤ e.2.2
section
variable {E : List Edge} {N a b c m : Nat} {x y : Int} {s : Nat → Int}
theorem pw_nil : PW E a a 0 0 := ⟨fun _ => a, fun _ => 0, rfl, rfl, rfl, rfl, fun i hi => absurd hi (Nat.not_lt_zero i)⟩
theorem pw_snoc (h : PW E a b m x) (e : (b, c, y) ∈ E) : PW E a c (m + 1) (x + y) := by
  obtain ⟨p, t, p0, pm, t0, tm, hs⟩ := h
  refine ⟨fun i => if i ≤ m then p i else c, fun i => if i ≤ m then t i else x + y, ?_, ?_, ?_, ?_, fun i hi => ?_⟩
  · show (if 0 ≤ m then p 0 else c) = a
    rw [if_pos (Nat.zero_le m), p0]
  · show (if m + 1 ≤ m then p (m + 1) else c) = c
    rw [if_neg (by omega)]
  · show (if 0 ≤ m then t 0 else x + y) = 0
    rw [if_pos (Nat.zero_le m), t0]
  · show (if m + 1 ≤ m then t (m + 1) else x + y) = x + y
    rw [if_neg (by omega)]
  · show ((if i ≤ m then p i else c), (if i + 1 ≤ m then p (i + 1) else c), (if i + 1 ≤ m then t (i + 1) else x + y) - (if i ≤ m then t i else x + y)) ∈ E
    rw [if_pos (show i ≤ m by omega), if_pos (show i ≤ m by omega)]
    by_cases hm : i + 1 ≤ m
    · rw [if_pos hm, if_pos hm]
      exact hs i (by omega)
    · rw [if_neg hm, if_neg hm]
      have him : i = m := by omega
      rw [him, pm, tm, show x + y - x = y by omega]
      exact e
theorem pw_one (e : (a, b, x) ∈ E) : PW E a b 1 x := by
  have := pw_snoc (pw_nil (E := E) (a := a)) e
  rw [Int.zero_add] at this
  exact this
theorem pw_last (h : PW E a c (m + 1) x) : ∃ b y, PW E a b m (x - y) ∧ (b, c, y) ∈ E := by
  obtain ⟨p, t, p0, pm, t0, tm, hs⟩ := h
  refine ⟨p m, t (m + 1) - t m, ⟨p, t, p0, rfl, t0, ?_, fun i hi => hs i (by omega)⟩, ?_⟩
  · rw [tm]
    omega
  · have := hs m (by omega)
    rw [pm] at this
    exact this
theorem pw_zero (h : PW E a b 0 x) : a = b ∧ x = 0 := by
  obtain ⟨p, t, p0, pm, t0, tm, _⟩ := h
  exact ⟨p0.symm.trans pm, tm.symm.trans t0⟩
theorem pw_le (f : OkS E s) (h : PW E a b m x) : s a - s b ≤ x := by
  induction m generalizing b x with
  | zero =>
    obtain ⟨rfl, rfl⟩ := pw_zero h
    omega
  | succ m ih =>
    obtain ⟨b', y, h1, h2⟩ := pw_last h
    have h3 := ih h1
    have h4 : s b' - s b ≤ y := f _ h2
    omega
theorem pw_in (g : GoodE N E) (h : PW E a b m x) (ha : a < N) : b < N := by
  cases m with
  | zero => rw [← (pw_zero h).1]; exact ha
  | succ m =>
    obtain ⟨b', y, _, h2⟩ := pw_last h
    exact (g _ h2).2.1
/-- a ring is cut out -/
theorem pw_cut1 (f : OkS E s) {p : Nat → Nat} {t : Nat → Int} (hs : ∀ i, i < m → (p i, p (i + 1), t (i + 1) - t i) ∈ E) {i j : Nat} (hij : i < j) (hj : j ≤ m) (e : p i = p j) (t0 : t 0 = 0) : ∃ x', x' ≤ t m ∧ PW E (p 0) (p m) (m - (j - i)) x' := by
  have mid : ∀ k, i + k ≤ m → s (p i) - s (p (i + k)) ≤ t (i + k) - t i := by
    intro k
    induction k with
    | zero => intro _; simp
    | succ k ih =>
      intro hk
      have h1 := ih (by omega)
      have h2 : s (p (i + k)) - s (p (i + k + 1)) ≤ t (i + k + 1) - t (i + k) := f _ (hs (i + k) (by omega))
      show s (p i) - s (p (i + k + 1)) ≤ t (i + k + 1) - t i
      omega
  have ring := mid (j - i) (by omega)
  rw [show i + (j - i) = j by omega, ← e] at ring
  refine ⟨t m - (t j - t i), by omega, fun k => if k ≤ i then p k else p (k + (j - i)), fun k => if k ≤ i then t k else t (k + (j - i)) - (t j - t i), ?_, ?_, ?_, ?_, fun k hk => ?_⟩
  · show (if 0 ≤ i then p 0 else p (0 + (j - i))) = p 0
    rw [if_pos (Nat.zero_le i)]
  · show (if m - (j - i) ≤ i then p (m - (j - i)) else p (m - (j - i) + (j - i))) = p m
    by_cases h : m - (j - i) ≤ i
    · have : m = j := by omega
      rw [if_pos h, this, show j - (j - i) = i by omega, e]
    · rw [if_neg h, show m - (j - i) + (j - i) = m by omega]
  · show (if 0 ≤ i then t 0 else t (0 + (j - i)) - (t j - t i)) = 0
    rw [if_pos (Nat.zero_le i), t0]
  · show (if m - (j - i) ≤ i then t (m - (j - i)) else t (m - (j - i) + (j - i)) - (t j - t i)) = t m - (t j - t i)
    by_cases h : m - (j - i) ≤ i
    · have : m = j := by omega
      rw [if_pos h, this, show j - (j - i) = i by omega]
      omega
    · rw [if_neg h, show m - (j - i) + (j - i) = m by omega]
  · show ((if k ≤ i then p k else p (k + (j - i))), (if k + 1 ≤ i then p (k + 1) else p (k + 1 + (j - i))), (if k + 1 ≤ i then t (k + 1) else t (k + 1 + (j - i)) - (t j - t i)) - (if k ≤ i then t k else t (k + (j - i)) - (t j - t i))) ∈ E
    by_cases h1 : k + 1 ≤ i
    · rw [if_pos (show k ≤ i by omega), if_pos h1, if_pos h1, if_pos (show k ≤ i by omega)]
      exact hs k (by omega)
    · by_cases h2 : k ≤ i
      · have hki : k = i := by omega
        subst hki
        rw [if_pos h2, if_neg h1, if_neg h1, if_pos h2]
        have := hs j (by omega)
        rw [← e] at this
        rw [show k + 1 + (j - k) = j + 1 by omega, show t (j + 1) - (t j - t k) - t k = t (j + 1) - t j by omega]
        exact this
      · rw [if_neg h2, if_neg h1, if_neg h1, if_neg h2]
        have := hs (k + (j - i)) (by omega)
        rw [show k + 1 + (j - i) = k + (j - i) + 1 by omega, show t (k + (j - i) + 1) - (t j - t i) - (t (k + (j - i)) - (t j - t i)) = t (k + (j - i) + 1) - t (k + (j - i)) by omega]
        exact this
/-- a way has one of fewer steps than there are points, no longer -/
theorem pw_cut (g : GoodE N E) (f : OkS E s) (ha : a < N) : ∀ (m : Nat) (x : Int), PW E a b m x → ∃ m' x', m' < N ∧ x' ≤ x ∧ PW E a b m' x' := by
  intro m
  induction m using Nat.strongRecOn with
  | _ m ih =>
    intro x h
    by_cases hm : m < N
    · exact ⟨m, x, hm, Int.le_refl _, h⟩
    obtain ⟨p, t, p0, pm, t0, tm, hs⟩ := id h
    have inN : ∀ i, i ≤ N → p i < N := fun i hi => by
      cases i with
      | zero => rw [p0]; exact ha
      | succ i => exact (g _ (hs i (by omega))).2.1
    obtain ⟨i, j, hij, hj, e⟩ := pigeon N p inN
    obtain ⟨x1, l1, h1⟩ := pw_cut1 f hs hij (by omega) e t0
    rw [p0, pm] at h1
    obtain ⟨m2, x2, h2, l2, h3⟩ := ih (m - (j - i)) (by omega) x1 h1
    exact ⟨m2, x2, h2, by omega, h3⟩
end
/-! ### the state between two turns -/
/-- F: what is found; k whole turns are done -/
structure Fd (N : Nat) (E : List Edge) (F : Mat) : Prop where
  sound : ∀ a b x, F a b = some x → a ≠ b ∧ a < N ∧ b < N ∧ ∃ m, PW E a b m x
  base : ∀ e ∈ E, Lo (F e.1 e.2.1) (some e.2.2)
def Far (E : List Edge) (F : Mat) (k : Nat) : Prop := (∃ s, OkS E s) → ∀ a b m x, a ≠ b → m ≤ k → PW E a b m x → Lo (F a b) (some x)
theorem lo_some {x : Option Int} {v : Int} : Lo x (some v) ↔ ∃ u, x = some u ∧ u ≤ v := ⟨fun h => h v rfl, fun h w e => by cases e; exact h⟩
/-- one step asks nothing more -/
def StepOk (F : Mat) (a : Nat) (e : Edge) : Prop := ∀ u, F a e.1 = some u → (a ≠ e.2.1 → Lo (F a e.2.1) (some (u + e.2.2))) ∧ (a = e.2.1 → 0 ≤ u + e.2.2)
section
variable {E : List Edge} {N : Nat} {F F0 : Mat} {s : Nat → Int}
theorem fd_le (D : Fd N E F) (f : OkS E s) {a b : Nat} {x : Int} (h : F a b = some x) : s a - s b ≤ x := by
  obtain ⟨_, _, _, m, w⟩ := D.sound a b x h
  exact pw_le f w
/-- behind enough turns nothing more is found -/
theorem far_full (g : GoodE N E) (D : Fd N E F) {k : Nat} (R : Far E F k) (hk : N ≤ k + 1) (f : ∃ s, OkS E s) (a : Nat) {e : Edge} (he : e ∈ E) : StepOk F a e := by
  intro u hu
  obtain ⟨hne, ha, hb, m, w⟩ := D.sound _ _ _ hu
  obtain ⟨s, fs⟩ := id f
  have w2 := pw_snoc w (show (e.1, e.2.1, e.2.2) ∈ E from he)
  refine ⟨fun hac => ?_, fun hac => ?_⟩
  · obtain ⟨m', x', hm, hx, w3⟩ := pw_cut g fs ha _ _ w2
    obtain ⟨v, hv, l⟩ := lo_some.mp (R f a e.2.1 m' x' hac (by omega) w3)
    exact lo_some.mpr ⟨v, hv, by omega⟩
  · have := pw_le fs w2
    rw [← hac] at this
    omega
/-- where no step asks for more it is closed -/
theorem still_way (g : GoodE N E) (D : Fd N E F) (S : ∀ a, ∀ e ∈ E, StepOk F a e) {a c : Nat} {u : Int} (hu : F a c = some u) : ∀ (m : Nat) (b : Nat) (v : Int), PW E c b m v → (a ≠ b → Lo (F a b) (some (u + v))) ∧ (a = b → 0 ≤ u + v) := by
  intro m
  induction m with
  | zero =>
    intro b v w
    obtain ⟨rfl, rfl⟩ := pw_zero w
    refine ⟨fun _ => lo_some.mpr ⟨u, hu, by omega⟩, fun z => absurd z (D.sound _ _ _ hu).1⟩
  | succ m ih =>
    intro b v w
    obtain ⟨b', y, w1, he⟩ := pw_last w
    obtain ⟨i1, i2⟩ := ih b' _ w1
    obtain ⟨_, _, ne⟩ := g _ he
    by_cases hab : a = b'
    · have h0 := i2 hab
      refine ⟨fun hne => ?_, fun z => absurd (hab.symm.trans z) ne⟩
      obtain ⟨z, hz, l⟩ := lo_some.mp (D.base _ he)
      rw [hab]
      exact lo_some.mpr ⟨z, hz, by have l : z ≤ y := l; omega⟩
    · obtain ⟨z, hz, l⟩ := lo_some.mp (i1 hab)
      obtain ⟨s1, s2⟩ := S a _ he z hz
      refine ⟨fun hne => ?_, fun z2 => ?_⟩
      · obtain ⟨z3, hz3, l3⟩ := lo_some.mp (s1 hne)
        exact lo_some.mpr ⟨z3, hz3, by have l3 : z3 ≤ z + y := l3; omega⟩
      · have := s2 z2
        have : 0 ≤ z + y := this
        omega
def diagM (F : Mat) : Mat := fun a b => if a = b then some 0 else F a b
theorem still_closed (g : GoodE N E) (D : Fd N E F) (S : ∀ a, ∀ e ∈ E, StepOk F a e) : Closed N (diagM F) where
  dg := fun a _ => if_pos rfl
  tri := by
    intro a b c ha hb hc v hv
    obtain ⟨p, q, hp, hq, rfl⟩ := ad_some hv
    have hp : (if a = c then some 0 else F a c) = some p := hp
    have hq : (if c = b then some 0 else F c b) = some q := hq
    show ∃ u, (if a = b then some 0 else F a b) = some u ∧ u ≤ p + q
    by_cases hac : a = c
    · rw [if_pos hac] at hp
      cases hp
      rw [hac]
      exact ⟨q, hq, by omega⟩
    · rw [if_neg hac] at hp
      by_cases hcb : c = b
      · rw [if_pos hcb] at hq
        cases hq
        rw [← hcb, if_neg hac]
        exact ⟨p, hp, by omega⟩
      · rw [if_neg hcb] at hq
        obtain ⟨_, _, _, m, w⟩ := D.sound _ _ _ hq
        obtain ⟨i1, i2⟩ := still_way g D S hp m b q w
        by_cases hab : a = b
        · rw [if_pos hab]
          exact ⟨0, rfl, i2 hab⟩
        · rw [if_neg hab]
          exact lo_some.mp (i1 hab)
theorem fd_fits (g : GoodE N E) (D : Fd N E F) (s : Nat → Int) : Fits N s (diagM F) ↔ OkS E s := by
  constructor
  · intro f e he
    obtain ⟨g1, g2, g3⟩ := g e he
    obtain ⟨u, hu, l⟩ := lo_some.mp (D.base e he)
    have := f e.1 e.2.1 u g1 g2 (by show (if e.1 = e.2.1 then some 0 else F e.1 e.2.1) = some u; rw [if_neg g3]; exact hu)
    omega
  · intro f a b x ha hb hx
    have hx : (if a = b then some 0 else F a b) = some x := hx
    by_cases hab : a = b
    · rw [if_pos hab] at hx
      cases hx
      rw [hab]
      omega
    · rw [if_neg hab] at hx
      exact fd_le D f hx
/-! ### a turn -/
/-- within a turn that began with F0: done tells what is looked at; st: nothing was changed yet -/
structure Tn (N : Nat) (E : List Edge) (F0 : Mat) (done : Nat → Edge → Prop) (st : Bool) (F : Mat) : Prop where
  fd : Fd N E F
  mono : ∀ a b, Lo (F a b) (F0 a b)
  got : ∀ a e, done a e → ∀ u, F0 a e.1 = some u → a ≠ e.2.1 → Lo (F a e.2.1) (some (u + e.2.2))
  same : st = true → F = F0 ∧ ∀ a e, done a e → StepOk F0 a e
theorem tn_start (D : Fd N E F) : Tn N E F (fun _ _ => False) true F := ⟨D, fun _ _ => Lo.refl, fun _ _ z => z.elim, fun _ => ⟨rfl, fun _ _ z => z.elim⟩⟩
def setM (F : Mat) (a c : Nat) (v : Int) : Mat := fun x y => if x = a ∧ y = c then some v else F x y
theorem setM_lo {a c : Nat} {v : Int} (h : ∀ w, F a c = some w → v ≤ w) (x y : Nat) : Lo (setM F a c v x y) (F x y) := by
  intro w hw
  unfold setM
  by_cases q : x = a ∧ y = c
  · rw [if_pos q]
    rw [q.1, q.2] at hw
    exact ⟨v, rfl, h w hw⟩
  · rw [if_neg q]
    exact ⟨w, hw, Int.le_refl _⟩
/-- a step that finds a lesser one -/
theorem tn_set {done : Nat → Edge → Prop} {st : Bool} {a : Nat} {e : Edge} {u : Int} (T : Tn N E F0 done st F) (he : e ∈ E) (g : GoodE N E) (hu : F a e.1 = some u) (hac : a ≠ e.2.1) (h : ∀ w, F a e.2.1 = some w → u + e.2.2 ≤ w) :
    Tn N E F0 (fun b d => done b d ∨ (b = a ∧ d = e)) false (setM F a e.2.1 (u + e.2.2)) := by
  obtain ⟨_, ha, hb, m, w⟩ := T.fd.sound _ _ _ hu
  refine ⟨⟨fun b c x hx => ?_, fun d hd => ?_⟩, fun b c => (setM_lo h b c).trans (T.mono b c), fun b d hd u0 hu0 hne => ?_, fun z => nomatch z⟩
  · unfold setM at hx
    by_cases q : b = a ∧ c = e.2.1
    · rw [if_pos q] at hx
      cases hx
      rw [q.1, q.2]
      exact ⟨hac, ha, (g e he).2.1, m + 1, pw_snoc w he⟩
    · rw [if_neg q] at hx
      exact T.fd.sound b c x hx
  · exact (setM_lo h _ _).trans (T.fd.base d hd)
  · rcases hd with hd | ⟨rfl, rfl⟩
    · exact (setM_lo h _ _).trans (T.got b d hd u0 hu0 hne)
    · obtain ⟨u1, h1, l1⟩ := T.mono _ _ u0 hu0
      rw [hu] at h1
      cases h1
      refine lo_some.mpr ⟨u + d.2.2, ?_, by omega⟩
      unfold setM
      rw [if_pos ⟨rfl, rfl⟩]
/-- a step that finds nothing -/
theorem tn_skip {done : Nat → Edge → Prop} {st : Bool} {a : Nat} {e : Edge} {u : Int} (T : Tn N E F0 done st F) (hu : F a e.1 = some u) (h1 : a = e.2.1 → 0 ≤ u + e.2.2) (h2 : a ≠ e.2.1 → Lo (F a e.2.1) (some (u + e.2.2))) :
    Tn N E F0 (fun b d => done b d ∨ (b = a ∧ d = e)) st F := by
  refine ⟨T.fd, T.mono, fun b d hd u0 hu0 hne => ?_, fun z => ?_⟩
  · rcases hd with hd | ⟨rfl, rfl⟩
    · exact T.got b d hd u0 hu0 hne
    · obtain ⟨u1, k1, l1⟩ := T.mono _ _ u0 hu0
      rw [hu] at k1
      cases k1
      obtain ⟨v, hv, l⟩ := lo_some.mp (h2 hne)
      exact lo_some.mpr ⟨v, hv, by omega⟩
  · obtain ⟨rfl, k⟩ := T.same z
    refine ⟨rfl, fun b d hd => ?_⟩
    rcases hd with hd | ⟨rfl, rfl⟩
    · exact k b d hd
    · intro u0 hu0
      rw [hu] at hu0
      cases hu0
      exact ⟨h2, h1⟩
theorem tn_imp {done done' : Nat → Edge → Prop} {st : Bool} (T : Tn N E F0 done st F) (h : ∀ a e, done' a e → done a e) : Tn N E F0 done' st F :=
  ⟨T.fd, T.mono, fun b d hd => T.got b d (h _ _ hd), fun z => ⟨(T.same z).1, fun b d hd => (T.same z).2 b d (h _ _ hd)⟩⟩
/-- a whole turn takes the ways one step further -/
theorem tn_far {st : Bool} {k : Nat} (g : GoodE N E) (D0 : Fd N E F0) (T : Tn N E F0 (fun a e => e ∈ E ∧ ∃ u, F0 a e.1 = some u) st F) (R : Far E F0 k) : Far E F (k + 1) := by
  intro f a b m x hab hm w
  cases m with
  | zero => exact absurd (pw_zero w).1 hab
  | succ m =>
    obtain ⟨c, y, w1, he⟩ := pw_last w
    by_cases hac : a = c
    · obtain ⟨s, fs⟩ := f
      have h0 := pw_le fs w1
      obtain ⟨z, hz, l⟩ := lo_some.mp (T.fd.base _ he)
      rw [hac]
      refine lo_some.mpr ⟨z, hz, ?_⟩
      have l : z ≤ y := l
      rw [hac] at h0
      omega
    · obtain ⟨u, hu, l⟩ := lo_some.mp (R f a c m _ hac (by omega) w1)
      obtain ⟨v, hv, l2⟩ := lo_some.mp (T.got a _ ⟨he, u, hu⟩ u hu hab)
      exact lo_some.mpr ⟨v, hv, by have l2 : v ≤ u + y := l2; omega⟩
theorem tn_still (T : Tn N E F0 (fun a e => e ∈ E ∧ ∃ u, F0 a e.1 = some u) true F) : F = F0 ∧ ∀ a, ∀ e ∈ E, StepOk F a e := by
  obtain ⟨rfl, k⟩ := T.same rfl
  exact ⟨rfl, fun a e he u hu => k a e ⟨he, u, hu⟩ u hu⟩
/-- where enough turns are done a turn changes nothing -/
theorem set_never {k : Nat} (g : GoodE N E) {done : Nat → Edge → Prop} (T : Tn N E F0 done true F) (R : Far E F0 k) (hk : N ≤ k + 1) (f : ∃ s, OkS E s) {a : Nat} {e : Edge} (he : e ∈ E) : StepOk F a e := by
  obtain ⟨rfl, _⟩ := T.same rfl
  exact far_full g T.fd R hk f a he
end
end Bw
/-! What the rounds tell: None just where something fits, else a ring. -/
namespace Bw
/-! ### sums round a ring -/
section
variable {α : Type}
theorem sum_le {l : List α} {f h : α → Int} (hl : ∀ q ∈ l, f q ≤ h q) : (l.map f).sum ≤ (l.map h).sum := by
  induction l with
  | nil => exact Int.le_refl _
  | cons x r ih =>
    rw [List.map_cons, List.map_cons, List.sum_cons, List.sum_cons]
    have := hl x List.mem_cons_self
    have := ih fun q hq => hl q (List.mem_cons_of_mem _ hq)
    omega
theorem sum_lt {l : List α} {f h : α → Int} (hl : ∀ q ∈ l, f q ≤ h q) (hx : ∃ q ∈ l, f q < h q) : (l.map f).sum < (l.map h).sum := by
  induction l with
  | nil => obtain ⟨q, hq, _⟩ := hx; exact nomatch hq
  | cons x r ih =>
    rw [List.map_cons, List.map_cons, List.sum_cons, List.sum_cons]
    have h1 := hl x List.mem_cons_self
    have h2 := sum_le fun q hq => hl q (List.mem_cons_of_mem _ hq)
    obtain ⟨q, hq, hs⟩ := hx
    rcases List.mem_cons.mp hq with e | hq
    · rw [e] at hs
      omega
    · have := ih (fun q hq => hl q (List.mem_cons_of_mem _ hq)) ⟨q, hq, hs⟩
      omega
end
/-- the steps of a ring, the last one back to the first -/
def cyc (r : List Nat) : List (Nat × Nat) := r.zip (r.tail ++ r.take 1)
theorem zip_sum (g : Nat → Int) : ∀ xs ys : List Nat, xs.length = ys.length → ((xs.zip ys).map fun q => g q.2 - g q.1).sum = (ys.map g).sum - (xs.map g).sum
  | [], [], _ => rfl
  | x :: xs, y :: ys, h => by
    have ih := zip_sum g xs ys (by simpa using h)
    rw [List.zip_cons_cons, List.map_cons, List.map_cons, List.map_cons, List.sum_cons, List.sum_cons, List.sum_cons, ih]
    show g y - g x + _ = _
    omega
theorem cyc_len (r : List Nat) : r.length = (r.tail ++ r.take 1).length := by
  cases r with
  | nil => rfl
  | cons x t => simp
theorem cyc_sum (g : Nat → Int) (r : List Nat) : ((cyc r).map fun q => g q.2 - g q.1).sum = 0 := by
  unfold cyc
  rw [zip_sum g _ _ (cyc_len r)]
  cases r with
  | nil => rfl
  | cons x t =>
    show ((t ++ [x]).map g).sum - ((x :: t).map g).sum = 0
    rw [List.map_append, List.sum_append, List.map_cons, List.map_cons, List.sum_cons, List.sum_cons]
    show (t.map g).sum + (g x + 0) - (g x + (t.map g).sum) = 0
    omega
theorem cyc_length (r : List Nat) : (cyc r).length = r.length := by
  unfold cyc
  rw [List.length_zip, ← cyc_len r]
  exact Nat.min_self _
/-- a ring of bounds -/
def ringOk (c : Nat → Nat → Option Int) (r : List Nat) : Bool := decide (2 ≤ r.length) && decide r.Nodup && (cyc r).all (fun q => (c q.1 q.2).isSome) && decide (((cyc r).map fun q => (c q.1 q.2).getD 0).sum < 0)
theorem ring_unfit {E : List Edge} {c : Nat → Nat → Option Int} {s : Nat → Int} {r : List Nat} (hc : ∀ a b x, c a b = some x ↔ (a, b, x) ∈ E) (h : ringOk c r = true) (f : OkS E s) : False := by
  unfold ringOk at h
  rw [Bool.and_eq_true, Bool.and_eq_true] at h
  have h1 := List.all_eq_true.mp h.1.2
  have h2 := of_decide_eq_true h.2
  have h3 : ((cyc r).map fun q => s q.1 - s q.2).sum ≤ ((cyc r).map fun q => (c q.1 q.2).getD 0).sum := sum_le fun q hq => by
    obtain ⟨x, hx⟩ := Option.isSome_iff_exists.mp (h1 q hq)
    rw [hx]
    exact f _ ((hc _ _ _).mp hx)
  have h4 := cyc_sum (fun x => - s x) r
  have h5 : ((cyc r).map fun q => s q.1 - s q.2) = (cyc r).map fun q => - s q.2 - - s q.1 := List.map_congr_left fun q _ => by omega
  rw [h5, h4] at h3
  omega
/-- the steps of what behind tells -/
theorem behind_cyc {A : List (Nat × Nat)} {p : Nat → Nat} {m L : Nat} {r : List Nat} (B : RingBk A p m L r) : ∀ q ∈ cyc r, getA A q.2 = some q.1 := by
  have len : r.length = L := by rw [B.eq, List.length_reverse, List.length_map, List.length_range]
  have at_ : ∀ i, i < L → r[i]? = some (p (m + (L - 1 - i))) := fun i hi => by
    rw [B.eq, List.getElem?_reverse (by rw [List.length_map, List.length_range]; exact hi), List.length_map, List.length_range, List.getElem?_map, List.getElem?_range (by omega)]
    rfl
  intro q hq
  obtain ⟨i, hi, e⟩ := List.mem_iff_getElem.mp hq
  have e : (cyc r)[i]? = some q := by rw [List.getElem?_eq_getElem hi, e]
  rw [cyc_length, len] at hi
  unfold cyc at e
  rw [List.getElem?_zip_eq_some] at e
  obtain ⟨e1, e2⟩ := e
  have e1 := Option.some.inj ((at_ i hi).symm.trans e1)
  rw [← e1]
  by_cases c : i + 1 < L
  · have e3 : (r.tail ++ r.take 1)[i]? = r[i + 1]? := by
      rw [List.getElem?_append_left (by rw [List.length_tail, len]; omega), List.getElem?_tail]
    rw [e3, at_ (i + 1) c] at e2
    rw [← Option.some.inj e2, B.hop]
    congr 2
    omega
  · have e3 : (r.tail ++ r.take 1)[i]? = r[0]? := by
      rw [List.getElem?_append_right (by rw [List.length_tail, len]; omega), List.length_tail, len, show i - (L - 1) = 0 by omega, List.getElem?_take_of_lt Nat.zero_lt_one]
    rw [e3, at_ 0 B.pos] at e2
    rw [← Option.some.inj e2, B.hop, ← show p (m + L) = p (m + (L - 1 - i)) by rw [B.back, show L - 1 - i = 0 by omega, Nat.add_zero]]
    congr 2
    have := B.pos
    omega
theorem behind_nodup {A : List (Nat × Nat)} {p : Nat → Nat} {m L : Nat} {r : List Nat} (B : RingBk A p m L r) : r.Nodup := by
  rw [B.eq]
  refine (List.pairwise_reverse.mpr (List.Pairwise.imp (fun h => Ne.symm h) (List.pairwise_iff_getElem.mpr fun i j hi hj hij => ?_)) : List.Nodup _)
  rw [List.getElem_map, List.getElem_map, List.getElem_range, List.getElem_range]
  rw [List.length_map, List.length_range] at hj
  intro e
  have step : ∀ d, p (m + i + d) = p (m + j + d) := by
    intro d
    induction d with
    | zero => exact e
    | succ d ih =>
      have h1 := B.hop (m + i + d)
      have h2 := B.hop (m + j + d)
      rw [ih, h2] at h1
      exact (Option.some.inj h1).symm
  have := step (L - j)
  rw [show m + j + (L - j) = m + L by omega, B.back] at this
  exact B.first (i + (L - j)) (by omega) (by omega) (by rw [← this]; congr 1; omega)
section
variable {N : Nat} {E : List Edge} {c : Nat → Nat → Option Int} {S : LSt} {k : Nat}
/-- what behind tells in a round is a ring -/
theorem behind_ring (hc : ∀ a b x, c a b = some x ↔ (a, b, x) ∈ E) (G : GoodE N E) (I : RI N E k E.length (toR S)) {s : Nat} {r : List Nat} (h : behind S.A s = some r) : ringOk c r = true ∧ (∀ x ∈ r, x < N) ∧ r.length ≤ S.A.length := by
  obtain ⟨t, u, n, I⟩ := I
  obtain ⟨p, L, p0, B⟩ := behind_some h
  have len : r.length = L := by rw [B.eq, List.length_reverse, List.length_map, List.length_range]
  have cy := behind_cyc B
  have ed : ∀ q ∈ cyc r, ∃ x, (q.1, q.2, x) ∈ E ∧ rOf S q.1 + x ≤ rOf S q.2 ∧ (u q.2 ≤ u q.1 → rOf S q.1 + x < rOf S q.2) := fun q hq => (I.ar q.2 q.1 (cy q hq)).2.2.2
  have lt : ∀ x ∈ r, x < N := fun x hx => by
    rw [B.eq, List.mem_reverse, List.mem_map] at hx
    obtain ⟨i, _, rfl⟩ := hx
    exact (I.ar _ _ (B.hop (S.A.length + i))).2.1
  have two : 2 ≤ r.length := by
    rw [len]
    rcases Nat.lt_or_ge 1 L with z | z
    · exact z
    · have e : L = 1 := by have := B.pos; omega
      have h1 := B.back
      rw [e] at h1
      obtain ⟨_, _, _, x, hx, _⟩ := I.ar _ _ (B.hop S.A.length)
      have := (G _ hx).2.2
      exact absurd h1 this
  refine ⟨?_, lt, by rw [len]; exact B.le⟩
  unfold ringOk
  rw [Bool.and_eq_true, Bool.and_eq_true, Bool.and_eq_true]
  refine ⟨⟨⟨decide_eq_true two, decide_eq_true (behind_nodup B)⟩, List.all_eq_true.mpr fun q hq => ?_⟩, decide_eq_true ?_⟩
  · obtain ⟨x, hx, _⟩ := ed q hq
    rw [(hc _ _ _).mpr hx]
    rfl
  · have le : ∀ q ∈ cyc r, (c q.1 q.2).getD 0 ≤ rOf S q.2 - rOf S q.1 := fun q hq => by
      obtain ⟨x, hx, h1, _⟩ := ed q hq
      rw [(hc _ _ _).mpr hx]
      show x ≤ _
      omega
    have z := cyc_sum (rOf S) r
    have st : ∃ q ∈ cyc r, (c q.1 q.2).getD 0 < rOf S q.2 - rOf S q.1 := by
      refine Classical.byContradiction fun no => ?_
      have up : ∀ q ∈ cyc r, (0 : Int) < (u q.2 : Int) - (u q.1 : Int) := fun q hq => by
        obtain ⟨x, hx, h1, h2⟩ := ed q hq
        rcases Nat.lt_or_ge (u q.1) (u q.2) with g | g
        · omega
        · refine absurd ⟨q, hq, ?_⟩ no
          rw [(hc _ _ _).mpr hx]
          show x < _
          have := h2 g
          omega
      have ne : ∃ q, q ∈ cyc r := by
        have : 0 < (cyc r).length := by rw [cyc_length]; omega
        exact ⟨_, List.getElem_mem this⟩
      obtain ⟨q, hq⟩ := ne
      have h1 := sum_lt (l := cyc r) (f := fun _ => 0) (h := fun q => (u q.2 : Int) - (u q.1 : Int)) (fun q hq => Int.le_of_lt (up q hq)) ⟨q, hq, up q hq⟩
      have h2 := cyc_sum (fun x => (u x : Int)) r
      have h2 : ((cyc r).map fun q => (u q.2 : Int) - (u q.1 : Int)).sum = 0 := h2
      rw [h2] at h1
      have h3 : ((cyc r).map fun _ => (0 : Int)).sum = 0 := by
        generalize cyc r = l
        induction l with
        | nil => rfl
        | cons x t ih => rw [List.map_cons, List.sum_cons, ih]; rfl
      rw [h3] at h1
      omega
    have := sum_lt le st
    rw [z] at this
    exact this
theorem keys_lt {m : Nat} (I : RI N E k m (toR S)) : ∀ x ∈ S.A.map (·.1), x < N := fun x hx => by
  obtain ⟨t, u, n, I⟩ := I
  obtain ⟨y, hy⟩ := getA_some.mpr hx
  exact (I.ar x y hy).2.1
/-- no ring behind what was changed last: not many rounds yet -/
theorem behind_few (O : LOk E S) (I : RI N E k E.length (toR S)) {v : Nat} (hv : S.ch = some v) (h : behind S.A v = none) : k ≤ N := by
  have hA : S.A.length ≤ N := by
    have := small_len _ N O.nd (keys_lt I)
    rwa [List.length_map] at this
  obtain ⟨t, u, n, I⟩ := I
  obtain ⟨i, x, hi, hx, no⟩ := behind_none h
  have early : ∀ j y, j ≤ i → hopsA S.A j v = some y → k ≤ t y + j := by
    intro j
    induction j with
    | zero =>
      intro y _ hy
      have e : v = y := Option.some.inj hy
      rw [← e]
      exact (I.chs v hv).1
    | succ j ih =>
      intro y hj hy
      rw [hops_succ] at hy
      cases e : hopsA S.A j v with
      | none => rw [e] at hy; exact nomatch hy
      | some z =>
        rw [e] at hy
        have := ih z (by omega) e
        have hy : getA S.A z = some y := hy
        have := (I.ar z y hy).2.2.1
        omega
  have := early i x (Nat.le_refl _) hx
  have := I.no x no
  omega
/-- the state behind k whole rounds -/
def LI (N : Nat) (E : List Edge) (k : Nat) (S : LSt) : Prop := LOk E S ∧ ((k = 0 ∧ S.A = [] ∧ rOf S = fun _ => 0) ∨ (1 ≤ k ∧ RI N E k E.length (toR S)))
theorem li_begin (h : LI N E k S) : RI N E (k + 1) 0 (toR { S with ch := none }) := by
  obtain ⟨_, ⟨rfl, hA, hr⟩ | ⟨_, I⟩⟩ := h
  · have e : toR { S with ch := none } = ⟨fun _ => 0, fun _ => none, none⟩ := by
      unfold toR
      refine congr (congr (congrArg RSt.mk hr) (funext fun x => ?_)) rfl
      show getA S.A x = none
      rw [hA]; rfl
    rw [e]
    exact ri_start
  · exact ri_next I
theorem part_ri (G : GoodE N E) (h : LI N E k S) : ∀ j, j ≤ E.length → RI N E (k + 1) j (toR ((E.take j).foldl relaxL { S with ch := none })) ∧ LOk E ((E.take j).foldl relaxL { S with ch := none })
  | 0, _ => ⟨li_begin h, h.1.ch⟩
  | j + 1, hj => by
    obtain ⟨h1, h2⟩ := part_ri G h j (by omega)
    have hj' : j < E.length := by omega
    have he : E[j]? = some E[j] := List.getElem?_eq_getElem hj'
    have e : (E.take (j + 1)).foldl relaxL { S with ch := none } = relaxL ((E.take j).foldl relaxL { S with ch := none }) E[j] := by
      rw [List.take_add_one, he, List.foldl_append]
      rfl
    rw [e, toR_relax]
    exact ⟨ri_step G he h1, h2.relax⟩
theorem round_li (G : GoodE N E) (h : LI N E k S) : LI N E (k + 1) (roundL E S) := by
  obtain ⟨h1, h2⟩ := part_ri G h E.length (Nat.le_refl _)
  rw [List.take_length] at h1 h2
  exact ⟨h2, Or.inr ⟨by omega, h1⟩⟩
theorem round_ri (h : LI N E (k + 1) S) : RI N E (k + 1) E.length (toR S) := by
  obtain ⟨_, ⟨z, _⟩ | ⟨_, I⟩⟩ := h
  · exact absurd z (by omega)
  · exact I
/-- nothing changed: something fits -/
theorem round_none (h : LI N E (k + 1) S) (hn : S.ch = none) : OkS E fun x => - rOf S x := fun e he => by
  have := ri_none (round_ri h) hn e he
  have this : rOf S e.2.1 ≤ rOf S e.1 + e.2.2 := this
  show - rOf S e.1 - - rOf S e.2.1 ≤ e.2.2
  omega
theorem loop_ring (hc : ∀ a b x, c a b = some x ↔ (a, b, x) ∈ E) (G : GoodE N E) : ∀ f k S, LI N E k S → f + k = N + 2 → k ≤ N →
    (loopL E f S = none → ∃ s, OkS E s) ∧ ∀ r, loopL E f S = some r → ringOk c r = true ∧ (∀ x ∈ r, x < N) ∧ r.length ≤ N
  | 0, k, S, _, hf, hk => absurd hf (by omega)
  | f + 1, k, S, h, hf, hk => by
    have h1 := round_li G h
    have I := round_ri h1
    unfold loopL
    cases e : (roundL E S).ch with
    | none => exact ⟨fun _ => ⟨_, round_none h1 e⟩, fun r hr => nomatch hr⟩
    | some v =>
      show ((behind (roundL E S).A v).or (loopL E f (roundL E S)) = none → _) ∧ ∀ r, (behind (roundL E S).A v).or (loopL E f (roundL E S)) = some r → _
      cases e2 : behind (roundL E S).A v with
      | some r =>
        refine ⟨fun z => (nomatch z), fun r' hr => ?_⟩
        have hr : some r = some r' := hr
        cases hr
        obtain ⟨q1, q2, q3⟩ := behind_ring hc G I e2
        refine ⟨q1, q2, Nat.le_trans q3 ?_⟩
        have := small_len _ N h1.1.nd (keys_lt I)
        rwa [List.length_map] at this
      | none =>
        have := behind_few h1.1 I e e2
        show (loopL E f (roundL E S) = none → _) ∧ ∀ r, loopL E f (roundL E S) = some r → _
        exact loop_ring hc G f (k + 1) (roundL E S) h1 (by omega) (by omega)
end
/-! ### the start -/
def startK (R : List (Nat × Int)) (e : Edge) : List (Nat × Int) := putA (putA R e.1 0) e.2.1 0
theorem start_zero : ∀ (E : List Edge) (R : List (Nat × Int)), (∀ x, (getA R x).getD 0 = 0) → ∀ x, (getA (E.foldl startK R) x).getD 0 = 0
  | [], R, h, x => h x
  | e :: r, R, h, x => by
    show (getA (r.foldl startK (startK R e)) x).getD 0 = 0
    refine start_zero r _ (fun y => ?_) x
    show (getA (putA (putA R e.1 0) e.2.1 0) y).getD 0 = 0
    rw [getA_put, getA_put]
    split
    · rfl
    · split
      · rfl
      · exact h y
theorem start_old : ∀ (E : List Edge) (R : List (Nat × Int)) (x : Nat), x ∈ R.map (·.1) → x ∈ (E.foldl startK R).map (·.1)
  | [], R, x, h => h
  | e :: r, R, x, h => start_old r _ x (mem_put (mem_put h))
theorem start_keys : ∀ (E : List Edge) (R : List (Nat × Int)), ∀ e ∈ E, e.1 ∈ (E.foldl startK R).map (·.1) ∧ e.2.1 ∈ (E.foldl startK R).map (·.1)
  | f :: r, R, e, he => by
    rcases List.mem_cons.mp he with z | z
    · subst z
      refine ⟨start_old r _ _ (mem_put ?_), start_old r _ _ ?_⟩
      · exact getA_some.mp ⟨0, by rw [getA_put, if_pos rfl]⟩
      · exact getA_some.mp ⟨0, by unfold startK; rw [getA_put, if_pos rfl]⟩
    · exact start_keys r _ e z
theorem li_start {N : Nat} {E : List Edge} : LI N E 0 ⟨startR E, [], none⟩ :=
  ⟨⟨List.nodup_nil, fun e he => start_keys E [] e he⟩, Or.inl ⟨rfl, rfl, funext fun x => start_zero E [] (fun _ => rfl) x⟩⟩
/-- what is told: None just where something fits, else a ring -/
theorem ring_told {n : Nat} {E : List Edge} {c : Nat → Nat → Option Int} (hc : ∀ a b x, c a b = some x ↔ (a, b, x) ∈ E) (G : GoodE (n + 1) E) :
    (ringF n E = none ↔ ∃ s, OkS E s) ∧ ∀ r, ringF n E = some r → ringOk c r = true ∧ (∀ x ∈ r, x < n + 1) ∧ r.length ≤ n + 1 := by
  obtain ⟨h1, h2⟩ := loop_ring hc G (n + 3) 0 _ li_start (by omega) (by omega)
  refine ⟨⟨h1, fun ⟨s, f⟩ => ?_⟩, h2⟩
  cases e : ringF n E with
  | none => rfl
  | some r => exact (ring_unfit hc (h2 r e).1 f).elim
end Bw
/-! A dict comprehension of two clauses, kept under a name. -/
namespace Bw
open PySem PySem.Spec PyProof.Rows L2
section
variable {P : Program} {w : World} {A : Around} {R : Result → Shared → Prop} {s : Shared} {kx vx ta ia tb ib : Expr} {fa fb : List Expr} {scope : Scope} {pos : Pos} {it : Value} {D : Addr} {env : Env}
abbrev twoD (kx vx ta ia tb ib : Expr) (fa fb : List Expr) (scope : Scope) (pos : Pos) : Expr := .DictComp kx vx [⟨ta, ia, fa, 0⟩, ⟨tb, ib, fb, 0⟩] scope pos
abbrev asked (fs : List Expr) (env : Env) : Sem Bool := forIn fs true fun c r => if r = true then do let ok ← isTrue c env (eval c env); pure (ForInStep.yield ok) else pure (ForInStep.yield r)
theorem turn_outer : compTurn (twoD kx vx ta ia tb ib fa fb scope pos) 0 it (.ref D) env = (do
    standAt ia.pos
    match ← pyNext it with
    | none => pure (.done .next)
    | some v =>
      letOwnedTupleGo ta it v
      assign ta env v
      let mut go := true
      for c in fa do
        if go then go ← isTrue c env (eval c env)
      if go then
        let y ← eval ib env
        standAt ib.pos
        let y ← foldedSetIterable ib env y
        let _ ← runOwn (.compStart (twoD kx vx ta ia tb ib fa fb scope pos) 1 (← holding [y] (pyIter y)) (.ref D) env) env
      again (.compLoop (twoD kx vx ta ia tb ib fa fb scope pos) 0 it (.ref D) env)) := by rfl
theorem turn_inner : compTurn (twoD kx vx ta ia tb ib fa fb scope pos) 1 it (.ref D) env = (do
    standAt ib.pos
    match ← pyNext it with
    | none => pure (.done .next)
    | some v =>
      letOwnedTupleGo tb it v
      assign tb env v
      let mut go := true
      for c in fb do
        if go then go ← isTrue c env (eval c env)
      if go then
        (do
          let k ← eval kx env
          let z ← holding [k] (eval vx env)
          standAt { kx.pos with endLine := vx.pos.endLine, endCol := vx.pos.endCol }
          holding [k, z] (dictSet D k z))
      again (.compLoop (twoD kx vx ta ia tb ib fa fb scope pos) 1 it (.ref D) env)) := by rfl
abbrev bad (P : Program) (w : World) (A : Around) (env : Env) (R : Result → Shared → Prop) : Value → Shared → Prop := notedBy (model P w) A env fun e t => R (.error e) t
/-- the walk of the first clause -/
theorem loop_outer (fold : ∀ x, foldedSetIterable ib env x = pure x) (G : Nat → Shared → Prop)
    (go : ∀ n s, G n s → wpAny (model P w) A (pyNext it) (fun r s1 => match r with
      | none => R (.ok .next) s1
      | some v => wpAny (model P w) A (letOwnedTupleGo ta it v) (fun _ s2 => wpAny (model P w) A (assign ta env v) (fun _ s3 => wpAny (model P w) A (asked fa env) (fun b s4 =>
          if b = true then wpAny (model P w) A (eval ib env) (fun x s5 => wpAny (model P w) A (pyIter x) (fun it1 s6 =>
            codeAny (model P w) A (.compStart (twoD kx vx ta ia tb ib fa fb scope pos) 1 it1 (.ref D) env) (fun r t => match r with
              | .ok _ => ∃ m, m < n ∧ G m t
              | .error _ => False) s6) (bad P w A env R) s5) (bad P w A env R) s4
          else ∃ m, m < n ∧ G m s4) (bad P w A env R) s3) (bad P w A env R) s2) (bad P w A env R) s1) (bad P w A env R) s)
    (n : Nat) (h : G n s) : codeAny (model P w) A (.compLoop (twoD kx vx ta ia tb ib fa fb scope pos) 0 it (.ref D) env) R s := by
  refine codeAny_loop rfl G (fun n t hG => ?_) n h
  show wpAny _ A ((compTurn (twoD kx vx ta ia tb ib fa fb scope pos) 0 it (.ref D) env).onRaise (fun x => do noteFrame x env; theTreesLotGoes x)) _ _ t
  refine wpAny_noted ?_
  rw [turn_outer]
  refine wpAny_bind (wpAny_standAt (wpAny_bind (wpAny_mono (go n t hG) (fun r s1 h1 => ?_) fun _ _ z => z)))
  cases r with
  | none => exact wpAny_pure h1
  | some v =>
    refine wpAny_bind (wpAny_mono h1 (fun _ s2 h2 => wpAny_bind (wpAny_mono h2 (fun _ s3 h3 => wpAny_bind (wpAny_mono h3 (fun b s4 h4 => ?_) fun _ _ z => z)) fun _ _ z => z)) fun _ _ z => z)
    cases b with
    | false => exact wpAny_pure ⟨rfl, h4⟩
    | true =>
      refine wpAny_bind (wpAny_mono h4 (fun x s5 h5 => wpAny_bind (wpAny_standAt (wpAny_bind (wpAny_of_eq (fold x) (wpAny_bind (wpAny_holding (wpAny_mono h5 (fun it1 s6 h6 => ?_) fun _ _ z => z))))))) fun _ _ z => z)
      refine wpAny_bind (wpAny_runOwn ?_)
      rw [Around.mark_none]
      refine codeAny_mono h6 fun r t hr => ?_
      cases r with
      | error e => exact hr.elim
      | ok f =>
        first
          | exact wpAny_pure ⟨rfl, hr⟩
          | exact wpAny_bind (wpAny_pure (wpAny_pure ⟨rfl, hr⟩))
/-- .. of the second -/
theorem loop_inner (G : Nat → Shared → Prop)
    (go : ∀ n s, G n s → wpAny (model P w) A (pyNext it) (fun r s1 => match r with
      | none => R (.ok .next) s1
      | some v => wpAny (model P w) A (letOwnedTupleGo tb it v) (fun _ s2 => wpAny (model P w) A (assign tb env v) (fun _ s3 => wpAny (model P w) A (asked fb env) (fun b s4 =>
          if b = true then wpAny (model P w) A (eval kx env) (fun k s5 => wpAny (model P w) A (eval vx env) (fun z s6 => wpAny (model P w) A (dictSet D k z) (fun _ s7 => ∃ m, m < n ∧ G m s7) (bad P w A env R) s6) (bad P w A env R) s5) (bad P w A env R) s4
          else ∃ m, m < n ∧ G m s4) (bad P w A env R) s3) (bad P w A env R) s2) (bad P w A env R) s1) (bad P w A env R) s)
    (n : Nat) (h : G n s) : codeAny (model P w) A (.compLoop (twoD kx vx ta ia tb ib fa fb scope pos) 1 it (.ref D) env) R s := by
  refine codeAny_loop rfl G (fun n t hG => ?_) n h
  show wpAny _ A ((compTurn (twoD kx vx ta ia tb ib fa fb scope pos) 1 it (.ref D) env).onRaise (fun x => do noteFrame x env; theTreesLotGoes x)) _ _ t
  refine wpAny_noted ?_
  rw [turn_inner]
  refine wpAny_bind (wpAny_standAt (wpAny_bind (wpAny_mono (go n t hG) (fun r s1 h1 => ?_) fun _ _ z => z)))
  cases r with
  | none => exact wpAny_pure h1
  | some v =>
    refine wpAny_bind (wpAny_mono h1 (fun _ s2 h2 => wpAny_bind (wpAny_mono h2 (fun _ s3 h3 => wpAny_bind (wpAny_mono h3 (fun b s4 h4 => ?_) fun _ _ z => z)) fun _ _ z => z)) fun _ _ z => z)
    cases b with
    | false => exact wpAny_pure ⟨rfl, h4⟩
    | true =>
      exact wpAny_bind (wpAny_bind (wpAny_mono h4 (fun k s5 h5 => wpAny_bind (wpAny_holding (wpAny_mono h5 (fun z s6 h6 => wpAny_bind (wpAny_standAt (wpAny_holding (wpAny_mono h6 (fun _ s7 h7 => wpAny_pure ⟨rfl, h7⟩) fun _ _ q => q)))) fun _ _ q => q))) fun _ _ q => q))
theorem start_inner (h0 : codeAny (model P w) A (.compLoop (twoD kx vx ta ia tb ib fa fb scope pos) 1 it (.ref D) env) R s)
    (h : wpAny (model P w) A (pyIter it) (fun it' t => codeAny (model P w) A (.compLoop (twoD kx vx ta ia tb ib fa fb scope pos) 1 it' (.ref D) env) R t) (bad P w A env R) s) :
    codeAny (model P w) A (.compStart (twoD kx vx ta ia tb ib fa fb scope pos) 1 it (.ref D) env) R s := by
  refine codeAny_of_tree ?_
  show wpAny _ _ ((compStart (twoD kx vx ta ia tb ib fa fb scope pos) 1 it (.ref D) env).onRaise (fun x => do noteFrame x env; standAt theWindowsPlace)) _ _ s
  refine wpAny_notedAt ?_
  unfold compStart
  show wpAny _ _ (ask >>= _) _ _ s
  refine wpAny_bind (wpAny_askSetting (wpAny_ite ?_))
  split
  · first
      | exact wpAny_bind (wpAny_pure (wpAny_pure ⟨rfl, h0⟩))
      | exact wpAny_pure ⟨rfl, h0⟩
  · refine wpAny_bind (wpAny_rule ?_)
    show wpAny _ _ (standAt ib.pos >>= _) _ _ s
    exact wpAny_bind (wpAny_standAt (wpAny_bind (wpAny_mono h (fun it' t q => wpAny_pure ⟨rfl, q⟩) fun _ _ q => q)))
end
section
variable {X : Cx}
/-- {k: v for target in iter if .. for target in iter if ..}: D the new dict -/
def tDc2 (wi : TI) (g : TG) (tt : TT) (wj : TI) (gj : TG) (tu : TT) (tk tv : TE) (vs us : List Nat) : TE := fun σ H Q => wi σ H fun J H1 => ∀ D, H1 D = none → ∃ W : Nat → Nat → Hp → Prop, (∃ m, W 0 m (upd H1 D (.dK []))) ∧ ∀ i m H, W i m H →
  (J.stop i H ∧ Q (.ref D) H) ∨ (J.go i H ∧ ∃ Nx : Hp → Prop, (∀ H', Nx H' → ∃ m', m' < m ∧ W (i + 1) m' H') ∧ ∀ x H', J.yld i H x H' → g x (wipe σ vs) H' fun σ2 H2 => wipe σ2 vs = wipe σ vs ∧ tt σ2 H2 fun b H3 =>
    if b = true then wj σ2 H3 fun J1 H4 => ∃ V1 : Nat → Nat → Hp → Prop, (∃ m, V1 0 m H4) ∧ ∀ j k H, V1 j k H →
      (J1.stop j H ∧ Nx H) ∨ (J1.go j H ∧ ∃ Ny : Hp → Prop, (∀ H', Ny H' → ∃ k', k' < k ∧ V1 (j + 1) k' H') ∧ ∀ x H', J1.yld j H x H' → gj x (wipe σ2 us) H' fun σ3 H5 => wipe σ3 us = wipe σ2 us ∧ tu σ3 H5 fun b H6 =>
        if b = true then tk σ3 H6 fun y H7 => tv σ3 H7 fun z H8 => ∃ kvs k, y = kV k ∧ H8 D = some (.dK kvs) ∧ kvs.length < sizeLine ∧ Ny (upd H8 D (.dK (putK kvs k z))) else Ny H6)
    else Nx H3)
abbrev freshD : Obj := { cls := .type "dict", data := .dict #[] }
theorem made_two {pins : List (Addr × Obj)} {s0 : Shared} {σ : L2.St} {H0 : Hp} {Q : VK} {kx vx ta ia tb ib : Expr} {fa fb : List Expr} {scope : Scope} {own : List (Str × Nat)} {us : List Nat} {pos pos' : Pos} {wi wj : TI} {g gj : TG} {tt tu : TT} {tk tv : TE} {use : Option (Value → Sem Unit)} {Qf : Value → Shared → Prop}
    (hc : X.calm = true) (hN : X.N.Nodup) (I0 : Inv X pins σ H0 s0) (hi : PI X ta ia wi) (ok : BlkOk X.N X.env.scope scope own) (hv : ∀ i ∈ us, i ∈ own.map (·.2))
    (hg : ∀ s H C cl fp, PG (X.blk s H scope (compEnvC scope cl C X.env) fp) ta g) (ht : ∀ s H C cl fp, PTs (X.blk s H scope (compEnvC scope cl C X.env) fp) fa tt)
    (hj : ∀ s H C cl fp, PI (X.blk s H scope (compEnvC scope cl C X.env) fp) tb ib wj) (hgj : ∀ s H C cl fp, PG (X.blk s H scope (compEnvC scope cl C X.env) fp) tb gj) (htj : ∀ s H C cl fp, PTs (X.blk s H scope (compEnvC scope cl C X.env) fp) fb tu)
    (hk : ∀ s H C cl fp, PE (X.blk s H scope (compEnvC scope cl C X.env) fp) kx tk) (he : ∀ s H C cl fp, PE (X.blk s H scope (compEnvC scope cl C X.env) fp) vx tv)
    (hs : ∀ x, foldedSetIterable ia X.env x = pure x) (hs1 : ∀ env x, foldedSetIterable ib env x = pure x)
    (hw : tDc2 wi g tt wj gj tu tk tv (own.map (·.2)) us σ H0 Q)
    (out : ∀ D C s' m H', Inv X pins σ H' s' → Q (.ref D) H' → s'.heap.Ns C m → FpOk X pins H' C → compPost (model X.prog X.w) X.A X.xe use Qf (.ref D) C (.ok .next) s') :
    wpAny (model X.prog X.w) X.A (comprehension (twoD kx vx ta ia tb ib fa fb scope pos) scope X.env pos' newDict false (eval ia X.env) use) Qf X.xe s0 := by
  have cells : ∀ y ∈ scope.names, y.2 = .free → ∃ c, X.env.cells.lookup y.1 = some c := fun y hy e => I0.ok.has _ ((ok.free y hy e).imp id id)
  refine wpAny_comprehension_free (use := use) rfl hs (closure_ok cells) ok.kind (fun y hy e => by rw [ok.uniq y hy, e]) (thn (hi.run pins s0 σ H0 _ I0 hw) fun _ sa ha => thn ha fun _ sb hb => ?_)
  obtain ⟨it, fp, tn, J, Hb, rfl, Ib, T, tbb, fbb, q⟩ := hb
  refine wpAny_newObj_type (newEnv_comp ?_)
  obtain ⟨D, eD⟩ : ∃ D, D = sb.heap.objs.size := ⟨_, rfl⟩
  have nD : Hb D = none := Ib.hok.fresh (by rw [eD]; exact Nat.le_refl _)
  obtain ⟨W, ⟨m0, w0⟩, turn⟩ := q D nD
  obtain ⟨sd, ed⟩ : ∃ sd : Shared, sd = { sb with heap := sb.heap.push freshD } := ⟨_, rfl⟩
  have kd : ∀ b o, sb.heap.get? b = some o → sd.heap.get? b = some o := fun b o e => by rw [ed]; exact Heap.get?_push_of_some _ e
  obtain ⟨Hd, eH⟩ : ∃ Hd, Hd = upd Hb D (.dK []) := ⟨_, rfl⟩
  have Id : Inv X pins σ Hd sd := by
    rw [ed, eH, eD]
    exact Ib.laid (t' := sb.toks) (fun b o e => Heap.get?_push_of_some _ e) (Nat.le_refl _) (dk_empty sb.heap Ib.big)
  have fd : ∀ b ∈ fp, FpOk X pins Hd b ∧ b < sd.heap.objs.size := fun b hb => by
    obtain ⟨o, e, _⟩ := T.obj _ _ tbb b hb
    have lt := Heap.lt_size e
    have ne : b ≠ D := by rw [eD]; exact Nat.ne_of_lt lt
    exact ⟨⟨by rw [eH, upd_ne ne]; exact (fbb b hb).1, (fbb b hb).2⟩, Heap.lt_size (kd b o e)⟩
  have Ie := block_start Id ok hN fd
  obtain ⟨cl, ecl⟩ : ∃ cl, cl = cellsFrom (sd.heap.objs.size + 1) scope.names (cloFrom X.env.cells scope.names []) := ⟨_, rfl⟩
  obtain ⟨C, eC⟩ : ∃ C, C = sd.heap.objs.size := ⟨_, rfl⟩
  obtain ⟨se, ee⟩ : ∃ se : Shared, se = { sd with heap := pushCells (sd.heap.push freshD) scope.names } := ⟨_, rfl⟩
  have te : tn 0 se.heap := T.keep _ _ _ tbb fun b _ o e => by rw [ee]; exact pushCells_keeps _ _ _ _ (Heap.get?_push_of_some _ (kd b o e))
  have pg := hg sd Hd C cl fp
  have pt := ht sd Hd C cl fp
  have pj := hj sd Hd C cl fp
  have pgj := hgj sd Hd C cl fp
  have ptj := htj sd Hd C cl fp
  have pk := hk sd Hd C cl fp
  have pv := he sd Hd C cl fp
  have e1 : sb.heap.objs.size = D := eD.symm
  have e2 : ({ sb with heap := pushCells ((sb.heap.push freshD).push freshD) scope.names } : Shared) = se := by rw [ee, ed]
  have e3 : (sb.heap.push freshD).objs.size = C := by rw [eC, ed]
  have goal : codeAny (model X.prog X.w) X.A (.compStart (twoD kx vx ta ia tb ib fa fb scope pos) 0 (.ref it) (.ref D) (compEnvC scope cl C X.env)) (compPost (model X.prog X.w) X.A X.xe use Qf (.ref D) C) se := by
    rw [← ecl, ← eC, ← ee] at Ie
    generalize hB : compEnvC scope cl C X.env = ce at Ie pg pt pj pgj ptj pk pv ⊢
    have cC : ce.locals = C := by rw [← hB]; rfl
    have own_ok : ∀ {σ' : L2.St} {H' : Hp} {s' : Shared}, Inv (X.blk sd Hd scope ce fp) [] σ' H' s' → (∀ b ∈ fp, H' b = none) → ∀ b ∈ fp, FpOk (X.blk sd Hd scope ce fp) [] H' b := fun J' hn b hb => by
      have z := J'.ok.exf b hb
      exact ⟨hn b hb, z.1, J'.ok.exfs b hb, Or.inl hb, fun x c e => z.2 x c e, fun p hp => by cases hp⟩
    have lp : codeAny (model X.prog X.w) X.A (.compLoop (twoD kx vx ta ia tb ib fa fb scope pos) 0 (.ref it) (.ref D) ce) (compPost (model X.prog X.w) X.A X.xe use Qf (.ref D) C) se := by
      refine loop_outer (hs1 ce) (fun n s' => ∃ i H', Inv (X.blk sd Hd scope ce fp) [] (wipe σ (own.map (·.2))) H' s' ∧ tn i s'.heap ∧ (∀ b ∈ fp, H' b = none) ∧ W i n H') ?_ m0 ⟨0, Hd, Ie, te, fun b hb => (fd b hb).1.1, by rw [eH]; exact w0⟩
      rintro n s5 ⟨i, H5, I5, t5, n5, w5⟩
      rcases turn i n H5 w5 with ⟨stop, qq⟩ | ⟨go, Nx, hNx, step⟩
      · refine thnF (T.done (X.blk sd Hd scope ce fp) rfl rfl rfl hc i [] s5 _ H5 (fun _ _ => False) I5 (own_ok I5 n5) t5 stop) fun r s6 hr => ?_
        obtain ⟨rfl, I6⟩ := hr
        have I7 : Inv X pins σ H5 s6 := Id.call' (ch := fp) I6.os I6.base I6.hok I6.bare fun b hb => by
          obtain ⟨_, p1, _, p3, p4, p5⟩ := (fd b hb).1
          exact ⟨p3, p1, p4, p5⟩
        have nC : H5 C = none := by
          rw [← cC]
          exact I6.free
        obtain ⟨m, hm, _⟩ := I6.loc
        have hm2 : s6.heap.Ns C m := by
          rw [← cC]
          exact hm
        exact out D C s6 m H5 I7 qq hm2 (Id.fpOk (by rw [eC]; exact Nat.le_refl _) nC)
      · refine thnF (T.item (X.blk sd Hd scope ce fp) rfl rfl rfl hc i [] s5 _ H5 (fun _ _ => False) I5 (own_ok I5 n5) t5 go) fun r s6 hr => ?_
        obtain ⟨u, rfl, h6⟩ := hr
        refine thnF h6 fun _ s7 ⟨x, H7, I7, r7, y7, t7, n7⟩ => ?_
        have P7 := I7.pinned (own_ok I7 n7) (T.obj _ _ t7)
        -- from a turn's end back to the block's own state
        have fin : ∀ {σ9 : L2.St} {s' : Shared} {H' : Hp}, (wipe σ (own.map (·.2))).length = σ9.length → (∀ (j : Nat) v, (wipe σ (own.map (·.2)))[j]? = some (some v) → σ9[j]? = some (some v)) → Inv (X.blk sd Hd scope ce fp) ([] ++ pinsAt fp s7.heap) σ9 H' s' → Nx H' →
            ∃ m, m < n ∧ ∃ i H', Inv (X.blk sd Hd scope ce fp) [] (wipe σ (own.map (·.2))) H' s' ∧ tn i s'.heap ∧ (∀ b ∈ fp, H' b = none) ∧ W i m H' := fun hl hk8 J8 nx => by
          obtain ⟨m, hm, w'⟩ := hNx _ nx
          have still : ∀ b ∈ fp, ∀ o, s7.heap.get? b = some o → _ := fun b hb o e => J8.pin (b, o) (List.mem_append_right _ (List.mem_append_right _ (mem_pinsAt hb e)))
          refine ⟨m, hm, i + 1, _, (J8.unpinned (pins := [])).weak hl hk8, T.keep _ _ _ t7 fun b hb o e => (still b hb o e).1, fun b hb => ?_, w'⟩
          obtain ⟨o, e, _⟩ := T.obj _ _ t7 b hb
          exact (still b hb o e).2.1
        refine thnF (pg.run _ s7 _ H7 x u _ P7 r7 (step x H7 y7)) fun _ s8 ⟨σ8, H8, I8, hw8, q8⟩ => ?_
        refine thnF (pt.run _ s8 σ8 H8 _ I8 q8) fun b s9 ⟨H9, I9, q9⟩ => ?_
        have l8 : (wipe σ (own.map (·.2))).length = σ8.length := by rw [← hw8, wipe_length]
        have k8 : ∀ (j : Nat) v, (wipe σ (own.map (·.2)))[j]? = some (some v) → σ8[j]? = some (some v) := fun j v e => by
          rw [← hw8] at e
          exact (wipe_some e).1
        have k9 : ∀ (j : Nat) v, (wipe σ (own.map (·.2)))[j]? = some (some v) → (wipe σ8 us)[j]? = some (some v) := fun j v e => by
          rw [← hw8] at e
          obtain ⟨f1, f2⟩ := wipe_some e
          rw [wipe_out fun z => f2 (hv j z)]
          exact f1
        cases b with
        | false => exact fin l8 k8 I9 q9
        | true =>
          have q9 : wj σ8 H9 _ := q9
          show wpAny _ _ (eval ib ce) _ _ s9
          refine thnF (pj.run _ s9 σ8 H9 _ I9 q9) fun xv s10 hx => thnF hx fun itv s11 h11 => ?_
          obtain ⟨it1, fp1, tn1, J1, H11, rfl, I11, T1, t11, f11, V1, ⟨m1, w1⟩, turn1⟩ := h11
          have own1 : ∀ {H' : Hp}, (∀ b ∈ fp1, H' b = none) → ∀ b ∈ fp1, FpOk (X.blk sd Hd scope ce fp) ([] ++ pinsAt fp s7.heap) H' b := fun hn b hb => ⟨hn b hb, (f11 b hb).2⟩
          have lp1 : codeAny (model X.prog X.w) X.A (.compLoop (twoD kx vx ta ia tb ib fa fb scope pos) 1 (.ref it1) (.ref D) ce)
              (fun r s' => match r with
                | .ok _ => ∃ m, m < n ∧ ∃ i H', Inv (X.blk sd Hd scope ce fp) [] (wipe σ (own.map (·.2))) H' s' ∧ tn i s'.heap ∧ (∀ b ∈ fp, H' b = none) ∧ W i m H'
                | .error _ => False) s11 := by
            refine loop_inner (fun k s' => ∃ j H', Inv (X.blk sd Hd scope ce fp) ([] ++ pinsAt fp s7.heap) (wipe σ8 us) H' s' ∧ tn1 j s'.heap ∧ (∀ b ∈ fp1, H' b = none) ∧ V1 j k H') ?_ m1 ⟨0, H11, I11.weak (wipe_length _ _) (fun j v e => (wipe_some e).1), t11, fun b hb => (f11 b hb).1, w1⟩
            rintro k s12 ⟨j, H12, I12, t12, n12, w12⟩
            rcases turn1 j k H12 w12 with ⟨stop1, nx1⟩ | ⟨go1, Ny, hNy, step1⟩
            · refine thnF (T1.done (X.blk sd Hd scope ce fp) rfl rfl rfl hc j _ s12 (wipe σ8 us) H12 (fun _ _ => False) I12 (own1 n12) t12 stop1) fun r s13 hr => ?_
              obtain ⟨rfl, I13⟩ := hr
              exact fin (l8.trans (wipe_length σ8 us).symm) k9 I13 nx1
            · refine thnF (T1.item (X.blk sd Hd scope ce fp) rfl rfl rfl hc j _ s12 (wipe σ8 us) H12 (fun _ _ => False) I12 (own1 n12) t12 go1) fun r s13 hr => ?_
              obtain ⟨u1, rfl, h13⟩ := hr
              refine thnF h13 fun _ s14 ⟨x1, H14, I14, r14, y14, t14, n14⟩ => ?_
              have P14 := I14.pinned (own1 n14) (T1.obj _ _ t14)
              refine thnF (pgj.run _ s14 (wipe σ8 us) H14 x1 u1 _ P14 r14 (step1 x1 H14 y14)) fun _ s15 ⟨σ15, H15, I15, hw15, q15⟩ => ?_
              refine thnF (ptj.run _ s15 σ15 H15 _ I15 q15) fun b1 s16 ⟨H16, I16, q16⟩ => ?_
              have fin1 : ∀ {s' : Shared} {H' : Hp}, Inv (X.blk sd Hd scope ce fp) (([] ++ pinsAt fp s7.heap) ++ pinsAt fp1 s14.heap) σ15 H' s' → Ny H' →
                  ∃ m, m < k ∧ ∃ j H', Inv (X.blk sd Hd scope ce fp) ([] ++ pinsAt fp s7.heap) (wipe σ8 us) H' s' ∧ tn1 j s'.heap ∧ (∀ b ∈ fp1, H' b = none) ∧ V1 j m H' := fun J1 nx => by
                obtain ⟨m, hm, w'⟩ := hNy _ nx
                have still1 : ∀ b ∈ fp1, ∀ o, s14.heap.get? b = some o → _ := fun b hb o e => J1.pin (b, o) (List.mem_append_right _ (List.mem_append_right _ (mem_pinsAt hb e)))
                refine ⟨m, hm, j + 1, _, J1.unpinned.weak (by rw [← hw15, wipe_length]) (fun j v e => by rw [← hw15] at e; exact (wipe_some e).1), T1.keep _ _ _ t14 fun b hb o e => (still1 b hb o e).1, fun b hb => ?_, w'⟩
                obtain ⟨o, e, _⟩ := T1.obj _ _ t14 b hb
                exact (still1 b hb o e).2.1
              cases b1 with
              | false => exact fin1 I16 q16
              | true =>
                refine thnF (pk.run _ s16 σ15 H16 _ I16 q16) fun y s17 ⟨yk, H17, I17, r17, q17⟩ => ?_
                refine thnF (pv.run _ s17 σ15 H17 _ I17 q17) fun z s18 ⟨yv, H18, I18, r18, kvs, key, ek, hD18, hz18, nx⟩ => ?_
                subst ek
                exact d_dictSet (X := X.blk sd Hd scope ce fp) I18 hD18 hz18 r17 r18 fun s19 I19 => fin1 I19 nx
          exact start_inner lp1 (T1.self X.A 0 _ _ _ t11 lp1)
    exact codeAny_compStart_dict lp (T.self X.A 0 _ _ _ te lp)
  rw [← e2] at goal
  rw [ecl, ← eC, ← e3, ← e1] at goal
  exact goal
theorem sw_dict {kx vx : Expr} {cs : List Comprehension} {scope : Scope} {pos py : Pos} {y : Str} {l : Nat} {env : Env} (fn : env.scope.kind = .function) (loc : env.scope.names.lookup y = some .local) (same : (py.line == pos.line) = true)
    (no : (scope.names.any fun (n, k) => n == y && (k == .local || k == .cell)) = false) : swapsWith (.DictComp kx vx cs scope pos) (some (.Name y py)) l env = pure true := by
  have k1 : env.kindOf y = some .local := loc
  have k2 : env.blockKind = .function := by
    unfold Env.blockKind
    rw [fn]
    rfl
  unfold swapsWith
  simp only [k2, k1, no, Expr.pos, same]
  rfl
/-- y = {..}, y a plain local name -/
theorem ps_setDc2 {i : Nat} {y : Str} {py : Pos} {kx vx ta ia tb ib : Expr} {fa fb : List Expr} {scope : Scope} {own : List (Str × Nat)} {us : List Nat} {pos spos : Pos} {wi wj : TI} {g gj : TG} {tt tu : TT} {tk tv : TE} (hc : X.calm = true) (hN : X.N.Nodup) (hy : X.N[i]? = some y) (hyl : X.env.scope.names.lookup y = some .local)
    (hsw : swapsWith (twoD kx vx ta ia tb ib fa fb scope pos) (some (.Name y py)) spos.line X.env = pure true) (hi : PI X ta ia wi) (ok : BlkOk X.N X.env.scope scope own) (hv : ∀ i ∈ us, i ∈ own.map (·.2))
    (hg : ∀ s H C cl fp, PG (X.blk s H scope (compEnvC scope cl C X.env) fp) ta g) (ht : ∀ s H C cl fp, PTs (X.blk s H scope (compEnvC scope cl C X.env) fp) fa tt)
    (hj : ∀ s H C cl fp, PI (X.blk s H scope (compEnvC scope cl C X.env) fp) tb ib wj) (hgj : ∀ s H C cl fp, PG (X.blk s H scope (compEnvC scope cl C X.env) fp) tb gj) (htj : ∀ s H C cl fp, PTs (X.blk s H scope (compEnvC scope cl C X.env) fp) fb tu)
    (hk : ∀ s H C cl fp, PE (X.blk s H scope (compEnvC scope cl C X.env) fp) kx tk) (he : ∀ s H C cl fp, PE (X.blk s H scope (compEnvC scope cl C X.env) fp) vx tv)
    (hs : ∀ x, foldedSetIterable ia X.env x = pure x := by intro _; rfl) (hs1 : ∀ env x, foldedSetIterable ib env x = pure x := by intro _ _; rfl) :
    PS X (.Assign [.Name y py] (twoD kx vx ta ia tb ib fa fb scope pos) spos) (tAsg (tDc2 wi g tt wj gj tu tk tv (own.map (·.2)) us) (gName i)) := by
  refine ⟨fun pins s σ H En I h => ?_⟩
  rw [exec_Assign_Name_used _ _ _ _ hsw]
  refine wpAny_bind (wpAny_standAt (wpAny_bind ?_))
  show wpAny _ X.A (do let _ ← comprehension (twoD kx vx ta ia tb ib fa fb scope pos) scope X.env (firstIterPos [⟨ta, ia, fa, 0⟩, ⟨tb, ib, fb, 0⟩] pos) newDict false (eval ia X.env) (some (assign (.Name y py) X.env))) _ _ s
  have h : tDc2 wi g tt wj gj tu tk tv (own.map (·.2)) us σ H (fun x H1 => gName i x σ H1 En.nx) := h
  refine wpAny_bind (thn (made_two (Qf := fun _ t => SP X pins En .next t) hc hN I hi ok hv hg ht hj hgj htj hk he hs hs1 h fun L C t m H' I' q hn f => ?_) fun _ t hq => wpAny_pure (wpAny_pure hq))
  show wpAny _ _ (assign (.Name y py) X.env (.ref L)) _ _ _
  refine wpAny_assign_Name (store_ok2 (v := V.ref L) I' hN hy (.inl hyl) rfl (fun s2 I2 ⟨a, sb, ha⟩ => ?_) (.inr hyl))
  obtain ⟨f0, f1, f2, f3, f4, f5⟩ := f
  have ne : C ≠ a := ha.elim (fun z => by rw [z]; exact f1) fun z e => f4 y a z e.symm
  exact ⟨m, hn.sameBut sb ne, fun h3 sb3 => ⟨_, H', I2.turned (t' := s2.toks) (fun b o hb e => (sb3.2 b hb).trans e) f0 f1 f3 f4 f5, q⟩⟩
end
end Bw
/-! len(set(xs)) of numbers, some of them twice, xs a list or a tuple. -/
namespace Bw
open PySem PySem.Spec PyProof.Rows L2
theorem met_nodup (f : Nat → Int) : ∀ i, (PyProof.Rows.firstMet f i).Nodup ∧ (∀ k, k ∈ PyProof.Rows.firstMet f i ↔ ∃ j, j < i ∧ f j = k)
  | 0 => ⟨List.nodup_nil, fun k => ⟨fun h => (nomatch h), fun ⟨j, h, _⟩ => absurd h (Nat.not_lt_zero _)⟩⟩
  | i + 1 => by
    obtain ⟨h1, h2⟩ := met_nodup f i
    rw [PyProof.Rows.firstMet_succ]
    unfold PyProof.Rows.step_dedup
    by_cases c : ((PyProof.Rows.firstMet f i).any (· == f i)) = true
    · rw [if_pos c]
      refine ⟨h1, fun k => (h2 k).trans ⟨fun ⟨j, hj, e⟩ => ⟨j, by omega, e⟩, fun ⟨j, hj, e⟩ => ?_⟩⟩
      by_cases z : j = i
      · subst z
        obtain ⟨y, hy, ey⟩ := List.any_eq_true.mp c
        rw [← e, ← eq_of_beq ey]
        exact (h2 y).mp hy
      · exact ⟨j, by omega, e⟩
    · rw [if_neg c]
      have no : f i ∉ PyProof.Rows.firstMet f i := fun h => c (List.any_eq_true.mpr ⟨_, h, beq_self_eq_true _⟩)
      refine ⟨List.nodup_append.mpr ⟨h1, by simp, fun a ha b hb z => no ?_⟩, fun k => ?_⟩
      · rw [← List.mem_singleton.mp hb, ← z]
        exact ha
      · rw [List.mem_append, List.mem_singleton, h2]
        constructor
        · rintro (⟨j, hj, e⟩ | e)
          · exact ⟨j, by omega, e⟩
          · exact ⟨i, by omega, e.symm⟩
        · rintro ⟨j, hj, e⟩
          by_cases z : j = i
          · exact Or.inr (by rw [← e, z])
          · exact Or.inl ⟨j, by omega, e⟩
theorem card_le : ∀ (l ns : List Int), l.Nodup → (∀ k ∈ l, k ∈ ns) → l.length ≤ ns.length
  | [], _, _, _ => Nat.zero_le _
  | x :: l, ns, hn, hs => by
    obtain ⟨h1, h2⟩ := List.nodup_cons.mp hn
    have hx : x ∈ ns := hs x List.mem_cons_self
    have ih := card_le l (ns.erase x) h2 fun k hk => (List.mem_erase_of_ne fun z => h1 (by rw [z] at hk; exact hk)).mpr (hs k (List.mem_cons_of_mem _ hk))
    rw [List.length_erase_of_mem hx] at ih
    have := List.length_pos_of_mem hx
    rw [List.length_cons]
    omega
theorem card_nodup : ∀ (ns l : List Int), l.Nodup → (∀ k ∈ l, k ∈ ns) → ns.length ≤ l.length → ns.Nodup
  | [], _, _, _, _ => List.nodup_nil
  | x :: r, l, hn, hs, hl => by
    rw [List.length_cons] at hl
    have nd : (l.erase x).Nodup := hn.erase x
    have nx : x ∉ l.erase x := fun h => ((List.Nodup.mem_erase_iff hn).mp h).1 rfl
    have sub : ∀ k ∈ l.erase x, k ∈ r := fun k hk => by
      rcases List.mem_cons.mp (hs k (List.mem_of_mem_erase hk)) with z | z
      · exact absurd (by rw [z] at hk; exact hk) nx
      · exact z
    have le : r.length ≤ (l.erase x).length := by
      by_cases c : x ∈ l
      · rw [List.length_erase_of_mem c]
        omega
      · rw [List.erase_of_not_mem c]
        omega
    refine List.nodup_cons.mpr ⟨fun hx => ?_, card_nodup r _ nd sub le⟩
    have := card_le (l.erase x) (r.erase x) nd fun k hk => (List.mem_erase_of_ne fun z => nx (by rw [z] at hk; exact hk)).mpr (sub k hk)
    rw [List.length_erase_of_mem hx] at this
    have := List.length_pos_of_mem hx
    omega
/-- as many different ones as members: none stands twice -/
theorem card_eq {l ns : List Int} (hn : l.Nodup) (hm : ∀ k, k ∈ l ↔ k ∈ ns) : (l.length = ns.length ↔ ns.Nodup) :=
  ⟨fun e => card_nodup ns l hn (fun k hk => (hm k).mp hk) (by omega), fun h => Nat.le_antisymm (card_le l ns hn fun k hk => (hm k).mp hk) (card_le ns l h fun k hk => (hm k).mpr hk)⟩
theorem all_ints : ∀ {ns : List Int} {us : List Value}, Vals (ns.map V.int) us → PyProof.Rows.IntsAre us ns
  | [], _, .nil => .nil
  | n :: ns, _, .cons r t => by
    obtain ⟨k, rfl⟩ := r
    exact .cons n k (all_ints t)
/-- how many different ones there are: as many as members just where none stands twice -/
def tLenSetD (K : PySem.W.Frag) (ta : TE) : TE := fun σ H Q => ta σ H fun x H1 => ∃ (l : Addr) (ns : List Int), x = .ref l ∧ (SqL K H1 l (ns.map V.int) ∨ SqT K H1 l (ns.map V.int)) ∧ ns.length ≤ 4000 ∧ ∀ c : Nat, (c = ns.length ↔ ns.Nodup) → Q (.int (c : Int)) H1
theorem pe_lenSetD {X : Cx} {a : Expr} {ta : TE} {p p2 q pos : Pos} (hg : Gl X "len") (hm : X.mg "len" = none) (hg2 : Gl X "set") (hm2 : X.mg "set" = none) (ha : PE X a ta) (hc : X.calm = true := by rfl)
    (na : starEach [a] X.env = (false, eval a X.env) :: starEach [] X.env := by rfl) : PE X (.Call (.Name "len" p) [.Call (.Name "set" p2) [a] [] q] [] pos) (tLenSetD X.K ta) := by
  refine ⟨fun pins s σ H Q I h => Call_ (ld_blt I hg hm boot_len (PyProof.Rows.callWith_builtin1 (PyProof.Rows.args_cons ?_ rfl) rfl rfl))⟩
  refine Call_ (ld_blt I hg2 hm2 boot_set (PyProof.Rows.callWith_type1 (PyProof.Rows.args_cons (thn (ha.run pins s σ H _ I h) fun v s1 hv => PyProof.Rows.args_nil ?_) na) na rfl))
  obtain ⟨x, H1, I1, r1, l, ns, rfl, hq, hl, k⟩ := hv
  cases r1
  rcases hq with hq | hq
  · obtain ⟨its, r, pl, hz⟩ := I1.list hq
    have len : its.toArray.size = ns.length := by
      have z := r.length
      rw [List.length_map] at z
      rw [List.size_toArray]
      exact z.symm
    refine call_set_list (I1.ok.hd hc) pl.isList (by simpa using all_ints r) (by rw [len]; unfold scanBound; omega) fun h' tk S keep => PyProof.Rows.args_nil ?_
    rw [len] at S
    obtain ⟨nd, mm⟩ := met_nodup (fun i => ns.getD i 0) ns.length
    have le := PyProof.Rows.firstMet_length_le (fun i => ns.getD i 0) ns.length
    have same : ∀ z, z ∈ PyProof.Rows.firstMet (fun i => ns.getD i 0) ns.length ↔ z ∈ ns := fun z => by
      rw [mm, List.mem_iff_getElem]
      constructor
      · rintro ⟨j, hj, e⟩
        refine ⟨j, hj, ?_⟩
        rw [← e]
        show ns[j] = ns.getD j 0
        rw [List.getD_eq_getElem?_getD, List.getElem?_eq_getElem hj]
        rfl
      · rintro ⟨j, hj, e⟩
        refine ⟨j, hj, ?_⟩
        show ns.getD j 0 = z
        rw [List.getD_eq_getElem?_getD, List.getElem?_eq_getElem hj]
        exact e
    obtain ⟨o, es, ep, t, ho, hex, hd, _, _, _, hf, hn⟩ := S
    have I2 : Inv X pins σ H1 { s1 with heap := h', toks := tk } := I1.kept fun b o e => keep b o (Heap.lt_size e) e
    exact call_len_set ho hex hd hf (by rw [hn] <;> omega) ⟨.int _, H1, I2.tok _, ⟨_, by rw [hn]⟩, k _ (card_eq nd same)⟩
  · obtain ⟨its, r, pl, hz⟩ := I1.tuple hq
    refine call_set_tupI ns (I1.ok.hd hc) pl (by simpa using all_ints r) (by unfold scanBound; omega) fun h' tk c S hcl keep => PyProof.Rows.args_nil ?_
    obtain ⟨o, es, ep, t, ho, hex, hd, g, nd, hm, hb, hf, hn, _⟩ := S
    have I2 : Inv X pins σ H1 { s1 with heap := h', toks := tk } := I1.kept fun b o e => keep b o e
    have e1 : (es.toList.map keyOf).length = c := by rw [List.length_map, Array.length_toList, hn]
    refine call_len_set ho hex hd hf (by rw [hn] <;> omega) ⟨.int _, H1, I2.tok _, ⟨_, by rw [hn]⟩, k c ?_⟩
    rw [← e1]
    exact card_eq nd fun z => (hm z).symm.trans decide_eq_true_iff
end Bw
/-! Rings told exactly: the way back from what was changed last. -/
namespace Bw
open PySem PySem.Spec PyProof.Rows L2 Evl
abbrev cLenD : List V → Hp → VK → Prop := fun xs H Q => ∃ a kvs, xs = [V.ref a] ∧ H a = some (.dK kvs) ∧ Q (.int kvs.length) H
/-- a dict whose keys are numbers -/
def kvG {α : Type} (f : α → V) (A : List (Nat × α)) : List (Key × V) := A.map fun p => ((Sum.inl (p.1 : Int) : Key), f p.2)
abbrev natV (x : Nat) : V := .int (x : Int)
section
variable {α : Type} {f : α → V} {A : List (Nat × α)} {x : Nat} {y : α}
theorem inl_eq {x y : Nat} : ((Sum.inl (x : Int) : Key) = Sum.inl (y : Int)) ↔ x = y := ⟨fun h => by have := Sum.inl.inj h; omega, fun h => by rw [h]⟩
theorem valV_kvG : valV (kvG f A) (Sum.inl (x : Int)) = (getA A x).map f := by
  induction A with
  | nil => rfl
  | cons p r ih =>
    rw [getA_cons]
    by_cases c : p.1 = x
    · rw [if_pos c]
      exact valV_pos (by show (Sum.inl (p.1 : Int) : Key) = _; rw [c])
    · rw [if_neg c, ← ih]
      exact valV_neg (fun z => c (inl_eq.mp z))
theorem putK_kvG : putK (kvG f A) (Sum.inl (x : Int)) (f y) = kvG f (putA A x y) := by
  have e : ((kvG f A).any fun kv => decide (kv.1 = (Sum.inl (x : Int) : Key))) = A.any fun p => decide (p.1 = x) := by
    unfold kvG
    rw [List.any_map]
    refine congrArg (fun g => A.any g) (funext fun p => ?_)
    show decide ((Sum.inl (p.1 : Int) : Key) = Sum.inl (x : Int)) = decide (p.1 = x)
    exact decide_eq_decide.mpr inl_eq
  unfold putK putA
  rw [e]
  by_cases c : (A.any fun p => decide (p.1 = x)) = true
  · rw [if_pos c, if_pos c]
    unfold kvG
    rw [List.map_map, List.map_map]
    refine List.map_congr_left fun p _ => ?_
    show (if (Sum.inl (p.1 : Int) : Key) = Sum.inl (x : Int) then _ else _) = _
    by_cases d : p.1 = x
    · rw [if_pos (inl_eq.mpr d)]
      show _ = ((Sum.inl ((if p.1 = x then (p.1, y) else p).1 : Int) : Key), f (if p.1 = x then (p.1, y) else p).2)
      rw [if_pos d]
    · rw [if_neg (fun z => d (inl_eq.mp z))]
      show _ = ((Sum.inl ((if p.1 = x then (p.1, y) else p).1 : Int) : Key), f (if p.1 = x then (p.1, y) else p).2)
      rw [if_neg d]
  · rw [if_neg c, if_neg c]
    unfold kvG
    rw [List.map_append]
    rfl
theorem kvG_len : (kvG f A).length = A.length := List.length_map _
end
theorem hops_of {A : List (Nat × Nat)} {p : Nat → Nat} (h : ∀ j, getA A (p j) = some (p (j + 1))) : ∀ j, hopsA A j (p 0) = some (p j)
  | 0 => rfl
  | j + 1 => by rw [hops_succ, hops_of h j]; exact h j
def sp_behind4 (C : Addr) : Sp := spOf fun vs H P => ∃ (a : Addr) (v : Nat) (A : List (Nat × Nat)), vs = [.ref a, .int (v : Int)] ∧ H a = some (.dK (kvG natV A)) ∧ A.length ≤ 1000 ∧
  P = fun w H2 => (behind A v = none ∧ w = .non) ∨ ∃ r q, behind A v = some r ∧ w = .ref q ∧ H2 q = some (.lst (natL r))
def u__ring_behind_6 (K : PySem.W.Frag) (C : Addr) : TS := (tRet (tRevL K (tVar 4)))
def u__ring_behind_5 (K : PySem.W.Frag) (C : Addr) : TS := tSeq (tWhile (tTest (tOp rNe (tVar 5) (tVar 2))) (tSeq (tDrop (tBM K "list" rAppend (tVar 4) (tCons (tVar 5) tNil))) (tAsg (tDGet (tVar 0) (tVar 5)) (gName 5)))) (u__ring_behind_6 K C)
def u__ring_behind_4 (K : PySem.W.Frag) (C : Addr) : TS := tSeq (tAsg (tDGet (tVar 0) (tVar 2)) (gName 5)) (u__ring_behind_5 K C)
def u__ring_behind_3 (K : PySem.W.Frag) (C : Addr) : TS := tSeq (tAsg (tLst (tCons (tVar 2) tNil)) (gName 4)) (u__ring_behind_4 K C)
def u__ring_behind_2 (K : PySem.W.Frag) (C : Addr) : TS := tSeq (tIfS (tB (tDNotIn (tVar 2) (tVar 0))) (tRet (tC .non)) tNext) (u__ring_behind_3 K C)
def u__ring_behind_1 (K : PySem.W.Frag) (C : Addr) : TS := tSeq (tFor (iRng1 (tCons (tCB cLenD (tCons (tVar 0) tNil)) tNil)) (gName 3) (tSeq (tIfS (tB (tDNotIn (tVar 2) (tVar 0))) (tRet (tC .non)) tNext) (tAsg (tDGet (tVar 0) (tVar 2)) (gName 2)))) (u__ring_behind_2 K C)
def u__ring_behind_0 (K : PySem.W.Frag) (C : Addr) : TS := tSeq (tAsg (tVar 1) (gName 2)) (u__ring_behind_1 K C)
section
variable {K : PySem.W.Frag} {C : Addr} {σ : L2.St} {H : Hp} {ta tb tc te : TE} {D : Ends} {t n : Nat} {E : List Edge}
theorem ev_dgetK {d : Addr} {k : Key} {v : V} {kvs : List (Key × V)} (h0 : Ev ta σ H (.ref d)) (h1 : Ev tb σ H (kV k)) (hd : H d = some (.dK kvs)) (hv : valV kvs k = some v) : Ev (tDGet ta tb) σ H v := fun H1 e Q r =>
  h0 H1 e _ fun H2 e2 => h1 H2 (e.trans e2) _ fun H3 e3 => ⟨d, v, rfl, by rw [← hv]; exact DGet.k (((e.trans e2).trans e3) _ _ hd), r H3 (e2.trans e3)⟩
theorem ev_dnotinK {d : Addr} {k : Key} {kvs : List (Key × V)} (h0 : Ev ta σ H (kV k)) (h1 : Ev tb σ H (.ref d)) (hd : H d = some (.dK kvs)) : Ev (tDNotIn ta tb) σ H (.bl (!(valV kvs k).isSome)) := fun H1 e Q r =>
  h0 H1 e _ fun H2 e2 => h1 H2 (e.trans e2) _ fun H3 e3 => ⟨d, _, rfl, DGet.k (((e.trans e2).trans e3) _ _ hd), r H3 (e2.trans e3)⟩
theorem ev_lenD {d : Addr} {kvs : List (Key × V)} (h0 : Ev ta σ H (.ref d)) (hd : H d = some (.dK kvs)) : Ev (tCB cLenD (tCons ta tNil)) σ H (.int (kvs.length : Int)) := fun H1 e Q r =>
  h0 H1 e _ fun H2 e2 => ⟨d, kvs, rfl, (e.trans e2) _ _ hd, r H2 e2⟩
theorem el_rev {a : Addr} {xs : List V} (h : Ev te σ H (.ref a)) (hx : H a = some (.lst xs)) : EvL (tRevL K te) σ H xs.reverse := fun H1 e Q q => h H1 e _ fun H2 e2 => ⟨a, xs, rfl, sq_of ((e.trans e2) _ _ hx), fun p hp => q p _ (fresh_back e2 hp) (e2.trans (Ex.new hp)) upd_same⟩
theorem pure_behind4 {a : Addr} {v : Nat} {A : List (Nat × Nat)} {Q : VK} (ha : H a = some (.dK (kvG natV A))) (hz : A.length ≤ 1000)
    (kN : behind A v = none → ∀ H2, Ex H H2 → Q .non H2) (kS : ∀ r q H2, behind A v = some r → Ex H H2 → H2 q = some (.lst (natL r)) → Q (.ref q) H2) : u__ring_behind_0 K C (ends Q) [some (.ref a), some (.int (v : Int)), none, none, none, none] H := by
  have look : ∀ (x : Nat), valV (kvG natV A) (Sum.inl (x : Int)) = (getA A x).map natV := fun x => valV_kvG
  refine q_asg (v := .int (v : Int)) (ev_var rfl) fun H1 e1 => ?_
  refine q_forR1 (n := (A.length : Int)) (ea_cons (ev_is (ev_lenD (ev_var rfl) (e1 _ _ ha)) (by rw [kvG_len])) ea_nil) (by omega) (fun i σ' H' => ∃ (x : Nat) (v3 : Option V), σ' = [some (.ref a), some (.int (v : Int)), some (.int (x : Int)), v3, none, none] ∧ hopsA A i v = some x ∧ Ex H H')
    (fun H2 e2 => ⟨v, _, rfl, rfl, e1.trans e2⟩) (fun i σ' H' hi ⟨x, v3, es, hx, e⟩ => ?_) (fun σ' H' ⟨x, v3, es, hx, e⟩ => ?_)
  · subst es
    show tSeq _ _ _ [some (.ref a), some (.int (v : Int)), some (.int (x : Int)), some (.int (i : Int)), none, none] H'
    cases hy : getA A x with
    | none =>
      refine q_when (b := !(none : Option V).isSome) (et_B (ev_is (ev_dnotinK (k := Sum.inl (x : Int)) (ev_var rfl) (ev_var rfl) (e _ _ ha)) (by rw [look, hy]; rfl))) (fun _ H2 e2 => ?_) (fun z => nomatch z)
      refine s_ret ev_c fun H3 e3 => kN ?_ H3 (e.trans (e2.trans e3))
      have h1 : hopsA A (i + 1) v = none := by rw [hops_succ, hx]; exact hy
      unfold behind
      cases h2 : hopsA A A.length v with
      | none => rfl
      | some w =>
        obtain ⟨y, h3⟩ := hops_pre h2 (show i + 1 ≤ A.length by omega)
        rw [h1] at h3
        exact nomatch h3
    | some y =>
      refine q_when (b := !(some (natV y)).isSome) (et_B (ev_is (ev_dnotinK (k := Sum.inl (x : Int)) (ev_var rfl) (ev_var rfl) (e _ _ ha)) (by rw [look, hy]; rfl))) (fun z => nomatch z) (fun _ H2 e2 => ?_)
      refine s_asg (v := .int (y : Int)) (ev_dgetK (k := Sum.inl (x : Int)) (ev_var rfl) (ev_var rfl) ((e.trans e2) _ _ ha) (by rw [look, hy]; rfl)) fun H3 e3 => ?_
      exact ⟨y, _, rfl, by rw [hops_succ, hx]; exact hy, e.trans (e2.trans e3)⟩
  · subst es
    rw [Int.toNat_natCast] at hx
    cases hy : getA A x with
    | none =>
      refine q_when (b := !(none : Option V).isSome) (et_B (ev_is (ev_dnotinK (k := Sum.inl (x : Int)) (ev_var rfl) (ev_var rfl) (e _ _ ha)) (by rw [look, hy]; rfl))) (fun _ H2 e2 => ?_) (fun z => nomatch z)
      refine s_ret ev_c fun H3 e3 => kN ?_ H3 (e.trans (e2.trans e3))
      unfold behind
      rw [hx]
      show (getA A x).map _ = none
      rw [hy]
      rfl
    | some w =>
      refine q_when (b := !(some (natV w)).isSome) (et_B (ev_is (ev_dnotinK (k := Sum.inl (x : Int)) (ev_var rfl) (ev_var rfl) (e _ _ ha)) (by rw [look, hy]; rfl))) (fun z => nomatch z) (fun _ H2 e2 => ?_)
      have e02 := e.trans e2
      obtain ⟨r, hr⟩ : ∃ r, behind A v = some r := ⟨_, by unfold behind; rw [hx]; show (getA A x).map _ = some _; rw [hy]; rfl⟩
      obtain ⟨p, L, p0, B⟩ := behind_some hr
      have ex : p A.length = x := by
        have := hops_of B.hop A.length
        rw [p0, hx] at this
        exact (Option.some.inj this).symm
      have ew : p (A.length + 1) = w := by
        have := B.hop A.length
        rw [ex, hy] at this
        exact (Option.some.inj this).symm
      have hgot : ∀ j, valV (kvG natV A) (Sum.inl (p j : Int)) = some (natV (p (j + 1))) := fun j => by rw [look, B.hop j]; rfl
      refine q_asgL (el_lst (ea_cons (ev_var rfl) ea_nil) (by show 1 ≤ 100000; decide)) fun q H3 hq e3 h3 => ?_
      have hqH : H q = none := fresh_back e02 hq
      have e03 := e02.trans e3
      refine q_asg (v := .int (p (A.length + 1) : Int)) (ev_dgetK (k := Sum.inl (x : Int)) (ev_var rfl) (ev_var rfl) (e03 _ _ ha) (by rw [← ex]; exact hgot _)) fun H4 e4 => ?_
      refine q_while (fun m σ' H' => ∃ i, σ' = [some (.ref a), some (.int (v : Int)), some (.int (x : Int)), v3, some (.ref q), some (.int (p (A.length + 1 + i) : Int))] ∧ i + 1 ≤ L ∧ m = L - i ∧ H' q = some (.lst (natL ((List.range (i + 1)).map fun j => p (A.length + j)))) ∧ Ex H H') L
        ⟨0, rfl, B.pos, rfl, by rw [e4 _ _ h3, ← ex]; rfl, e03.trans e4⟩ (fun m σ' H' ⟨i, es, hi, em, hl, ex'⟩ => ?_)
      subst es
      refine ⟨_, et_test (ev_op (ev_var rfl) (ev_var rfl) (rv_ne rfl)), fun hb H5 e5 => ?_, fun hb H5 e5 => ?_⟩
      · have ne : p (A.length + 1 + i) ≠ x := fun z => by
          rw [z, decide_eq_true rfl] at hb
          exact nomatch hb
        have hi2 : i + 2 ≤ L := by
          rcases Nat.lt_or_ge (i + 1) L with c | c
          · exact c
          · have : A.length + 1 + i = A.length + L := by omega
            rw [this, B.back] at ne
            exact absurd ex ne
        refine ⟨fun σ2 H2 => ∃ i, σ2 = [some (.ref a), some (.int (v : Int)), some (.int (x : Int)), v3, some (.ref q), some (.int (p (A.length + 1 + i) : Int))] ∧ i + 1 ≤ L ∧ L - i < m ∧ H2 q = some (.lst (natL ((List.range (i + 1)).map fun j => p (A.length + j)))) ∧ Ex H H2, fun σ2 H2 ⟨i, h1, h2, h3, h4⟩ => ⟨L - i, h3, i, h1, h2, rfl, h4⟩, ?_⟩
        have lle := B.le
        refine q_app (l := q) (e5 _ _ hl) (ev_var rfl) (ev_var rfl) (by simp; omega) fun H6 e6 => ?_
        have e6H : Ex H (upd H6 q (.lst (natL ((List.range (i + 1)).map fun j => p (A.length + j)) ++ [V.int (p (A.length + 1 + i) : Int)]))) := Ex.mut (ex'.trans (e5.trans e6)) hqH
        refine s_asg (v := .int (p (A.length + 1 + (i + 1)) : Int)) (ev_dgetK (k := Sum.inl (p (A.length + 1 + i) : Int)) (ev_var rfl) (ev_var rfl) (e6H _ _ ha) (hgot _)) fun H7 e7 => ⟨i + 1, rfl, hi2, by omega, ?_, e6H.trans e7⟩
        rw [e7 _ _ upd_same, List.range_succ (n := i + 1), List.map_append]
        show _ = some (HO.lst ((_ ++ [p (A.length + (i + 1))]).map _))
        rw [List.map_append, show A.length + (i + 1) = A.length + 1 + i by omega]
        rfl
      · have hi2 : i + 1 = L := by
          rcases Nat.lt_or_ge (i + 1) L with c | c
          · have := B.first (i + 1) (by omega) c
            rw [show A.length + (i + 1) = A.length + 1 + i by omega, ex] at this
            have z : V.int (p (A.length + 1 + i) : Int) ≠ V.int (x : Int) := fun z => this (by have := V.int.inj z; omega)
            rw [decide_eq_false z] at hb
            exact nomatch hb
          · omega
        refine (el_rev (ev_var rfl) (e5 _ _ hl)) H5 (Ex.refl _) _ fun z H6 hz e6 h6 => kS r z H6 hr (ex'.trans (e5.trans e6)) ?_
        rw [h6, ← List.map_reverse, B.eq, hi2]
end
end Bw
/-! Rings told exactly: losing_ring, ring. -/
namespace Bw
open PySem PySem.Spec PyProof.Rows L2 Evl
def sp_losing (C : Addr) : Sp := spOf fun vs H P => ∃ (b : Addr) (n : Nat) (E : List Edge), vs = [.ref b] ∧ H b = some (.dT (E.map kvE)) ∧ GoodE (n + 1) E ∧ (E.map ekey).Nodup ∧ 1 ≤ n ∧ n ≤ 12 ∧
  P = fun w H2 => (ringF n E = none ∧ w = .non) ∨ ∃ r q, ringF n E = some r ∧ w = .ref q ∧ H2 q = some (.lst (natL r))
def sp_ring4 (C : Addr) : Sp := spOf fun vs H P => ∃ t n E, vs = [.ref t] ∧ TabAt C H t n E ∧
  P = fun w H2 => (ringF n E = none ∧ w = .non) ∨ ∃ r q, ringF n E = some r ∧ w = .ref q ∧ H2 q = some (.lst (natL r))
def u_losing_ring_2 (K : PySem.W.Frag) (C : Addr) : TS := (tWhile (tB (tC (.bl true))) (tSeq (tAsg (tC .non) (gName 3)) (tSeq (tLock (tFor (iKeys (tVar 0)) (gTup K 2 (gCons (gName 7) (gCons (gName 8) gNil))) (tIfS (tTest (tOp rLtI (tOp rAddI (tDGet (tVar 1) (tVar 7)) (tDGet (tVar 0) (tTup (tCons (tVar 7) (tCons (tVar 8) tNil))))) (tDGet (tVar 1) (tVar 8)))) (tSeq (sDPut (tVar 1) (tVar 8) (tOp rAddI (tDGet (tVar 1) (tVar 7)) (tDGet (tVar 0) (tTup (tCons (tVar 7) (tCons (tVar 8) tNil)))))) (tSeq (sDPut (tVar 2) (tVar 8) (tVar 7)) (tAsg (tVar 8) (gName 3)))) tNext))) (tSeq (tIfS (tB (tIsN (tVar 3))) (tRet (tC .non)) tNext) (tSeq (tAsg (tCall (sp_behind4 C) [] E0 (tCons (tVar 2) (tCons (tVar 3) tNil))) (gName 4)) (tIfS (tB (tNotN (tVar 4))) (tRet (tVar 4)) tNext))))))
def u_losing_ring_1 (K : PySem.W.Frag) (C : Addr) : TS := tSeq (tAsg tDNewK (gName 2)) (u_losing_ring_2 K C)
def u_losing_ring_0 (K : PySem.W.Frag) (C : Addr) : TS := tSeq (tLock (tAsg (tDc2 (iKeys (tVar 0)) (gName 5) tYes (iTup K (tVar 5)) (gName 6) tYes (tVar 6) (tC (.int 0)) [5, 6] [6]) (gName 1))) (u_losing_ring_1 K C)
def u_ring_1 (K : PySem.W.Frag) (C : Addr) : TS := (tRet (tCall (sp_losing C) [] E0 (tCons (tProp C (sp_Table_bounds C) [] E0 (tVar 0)) tNil)))
def u_ring_0 (K : PySem.W.Frag) (C : Addr) : TS := tSeq (tDrop (tCall (sp__need_table C) [] E0 (tCons (tVar 0) (tCons (tC .non) tNil)))) (u_ring_1 K C)
section
variable {K : PySem.W.Frag} {C : Addr} {σ : L2.St} {H : Hp} {ta tb tc te : TE} {D : Ends} {t n : Nat} {E : List Edge}
theorem dc2_it {J : It} {n : Nat} {G : Hp → Prop} {Y : Nat → Hp → V → Hp → Prop} (w : Walk J n G Y) {g gj : TG} {tt tu : TT} {wj : TI} {tk tv : TE} {vs us : List Nat} {σ : L2.St} {H1 : Hp} {D : Addr} {R : Hp → Prop} (Pv : Nat → Hp → Prop) (h0 : Pv 0 (upd H1 D (.dK []))) (hG : ∀ i H, i ≤ n → Pv i H → G H)
    (hs : ∀ i x H H', i < n → Pv i H → Y i H x H' → g x (wipe σ vs) H' fun σ2 H2 => wipe σ2 vs = wipe σ vs ∧ tt σ2 H2 fun b H3 => if b = true then wj σ2 H3 fun J1 H4 => ∃ V1 : Nat → Nat → Hp → Prop, (∃ m, V1 0 m H4) ∧ ∀ j k H, V1 j k H →
      (J1.stop j H ∧ Pv (i + 1) H) ∨ (J1.go j H ∧ ∃ Ny : Hp → Prop, (∀ H', Ny H' → ∃ k', k' < k ∧ V1 (j + 1) k' H') ∧ ∀ x H', J1.yld j H x H' → gj x (wipe σ2 us) H' fun σ3 H5 => wipe σ3 us = wipe σ2 us ∧ tu σ3 H5 fun b H6 =>
        if b = true then tk σ3 H6 fun y H7 => tv σ3 H7 fun z H8 => ∃ kvs k, y = kV k ∧ H8 D = some (.dK kvs) ∧ kvs.length < sizeLine ∧ Ny (upd H8 D (.dK (putK kvs k z))) else Ny H6) else Pv (i + 1) H3) (hd : ∀ H, Pv n H → R H) :
    ∃ W : Nat → Nat → Hp → Prop, (∃ m, W 0 m (upd H1 D (.dK []))) ∧ ∀ i m H, W i m H →
      (J.stop i H ∧ R H) ∨ (J.go i H ∧ ∃ Nx : Hp → Prop, (∀ H', Nx H' → ∃ m', m' < m ∧ W (i + 1) m' H') ∧ ∀ x H', J.yld i H x H' → g x (wipe σ vs) H' fun σ2 H2 => wipe σ2 vs = wipe σ vs ∧ tt σ2 H2 fun b H3 =>
        if b = true then wj σ2 H3 fun J1 H4 => ∃ V1 : Nat → Nat → Hp → Prop, (∃ m, V1 0 m H4) ∧ ∀ j k H, V1 j k H →
          (J1.stop j H ∧ Nx H) ∨ (J1.go j H ∧ ∃ Ny : Hp → Prop, (∀ H', Ny H' → ∃ k', k' < k ∧ V1 (j + 1) k' H') ∧ ∀ x H', J1.yld j H x H' → gj x (wipe σ2 us) H' fun σ3 H5 => wipe σ3 us = wipe σ2 us ∧ tu σ3 H5 fun b H6 =>
            if b = true then tk σ3 H6 fun y H7 => tv σ3 H7 fun z H8 => ∃ kvs k, y = kV k ∧ H8 D = some (.dK kvs) ∧ kvs.length < sizeLine ∧ Ny (upd H8 D (.dK (putK kvs k z))) else Ny H6)
        else Nx H3) := by
  refine ⟨fun i m H => m = n - i ∧ i ≤ n ∧ Pv i H, ⟨n, rfl, Nat.zero_le _, h0⟩, fun i m H ⟨em, hi, p⟩ => ?_⟩
  subst em
  rcases Nat.lt_or_ge i n with hlt | hge
  · exact Or.inr ⟨w.goes i H hlt (hG i H hi p), Pv (i + 1), fun H' p' => ⟨n - (i + 1), by omega, rfl, hlt, p'⟩, fun x H' y => hs i x H H' hlt p (w.yields i H x H' hlt (hG i H hi p) y)⟩
  · have e : i = n := by omega
    subst e
    exact Or.inl ⟨w.stops H (hG i H hi p), hd H p⟩
theorem len_put {α : Type} {A : List (Nat × α)} {x : Nat} {y : α} : (putA A x y).length ≤ A.length + 1 := by
  unfold putA
  split
  · rw [List.length_map]; omega
  · rw [List.length_append]; exact Nat.le_refl _
theorem len_start : ∀ (E : List Edge) (R : List (Nat × Int)), (E.foldl startK R).length ≤ R.length + 2 * E.length
  | [], R => by show R.length ≤ _; omega
  | e :: r, R => by
    have h1 := len_start r (startK R e)
    have h2 : (startK R e).length ≤ R.length + 2 := by
      have a := len_put (A := R) (x := e.1) (y := (0 : Int))
      have b := len_put (A := putA R e.1 0) (x := e.2.1) (y := (0 : Int))
      unfold startK
      omega
    show (r.foldl startK (startK R e)).length ≤ _
    rw [List.length_cons]
    omega
theorem q_dputK {α : Type} {f : α → V} {tz : TS} {d : Addr} {A : List (Nat × α)} {x : Nat} {y : α} (hd : H d = some (.dK (kvG f A))) (hv : Ev tc σ H (f y)) (h0 : Ev ta σ H (.ref d)) (h1 : Ev tb σ H (.int (x : Int))) (hz : A.length < 100000)
    (k : ∀ H1, Ex H H1 → tz D σ (upd H1 d (.dK (kvG f (putA A x y))))) : tSeq (sDPut ta tb tc) tz D σ H :=
  hv H (Ex.refl _) _ fun H1 e1 => h0 H1 e1 _ fun H2 e2 => h1 H2 (e1.trans e2) _ fun H3 e3 => ⟨d, _, rfl, DPut.k (k := Sum.inl (x : Int)) (((e1.trans e2).trans e3) _ _ hd) (by rw [kvG_len]; exact sz_lt hz), by
    rw [putK_kvG]
    exact k H3 ((e1.trans e2).trans e3)⟩
/-- what the rounds keep -/
structure LAt (H : Hp) (b rr aa : Addr) (E : List Edge) (S : LSt) (H' : Hp) : Prop where
  ex : Ex H H'
  rr : H' rr = some (.dK (kvG V.int S.R))
  aa : H' aa = some (.dK (kvG natV S.A))
  bd : H' b = some (.dT (E.map kvE))
abbrev sLs (b rr aa : Addr) (v3 v4 v7 v8 : Option V) : L2.St := [some (.ref b), some (.ref rr), some (.ref aa), v3, v4, none, none, v7, v8]
theorem relax_len {S : LSt} {e : Edge} : (relaxL S e).R.length ≤ S.R.length + 1 ∧ (relaxL S e).A.length ≤ S.A.length + 1 := by
  unfold relaxL
  split
  · exact ⟨len_put, len_put⟩
  · exact ⟨by omega, by omega⟩
theorem len_keys {α : Type} {A : List (Nat × α)} : A.length = (A.map (·.1)).length := (List.length_map _).symm
/-- a round -/
theorem ls_round {b rr aa : Addr} {S : LSt} {k : Nat} {v4 v7 v8 : Option V} {tz : TS} {H0 : Hp} (gE : GoodE (n + 1) E) (nE : (E.map ekey).Nodup) (I : LI (n + 1) E k S) (w : LAt H0 b rr aa E S H) (fr : H0 rr = none) (fa : H0 aa = none) (hb0 : H0 b = some (.dT (E.map kvE))) (nra : rr ≠ aa) (hlr : S.R.length ≤ 1000) (n2 : n ≤ 12)
    (kk : ∀ v7 v8 H2, LAt H0 b rr aa E (roundL E S) H2 → (roundL E S).R.length ≤ 1000 → tz D (sLs b rr aa (some (on (roundL E S).ch)) v4 v7 v8) H2)
    (keep : ∀ e ∈ E, e.1 ∈ S.R.map (·.1) ∧ e.2.1 ∈ S.R.map (·.1)) :
    tSeq (tLock (tFor (iKeys (tVar 0)) (gTup K 2 (gCons (gName 7) (gCons (gName 8) gNil))) (tIfS (tTest (tOp rLtI (tOp rAddI (tDGet (tVar 1) (tVar 7)) (tDGet (tVar 0) (tTup (tCons (tVar 7) (tCons (tVar 8) tNil))))) (tDGet (tVar 1) (tVar 8)))) (tSeq (sDPut (tVar 1) (tVar 8) (tOp rAddI (tDGet (tVar 1) (tVar 7)) (tDGet (tVar 0) (tTup (tCons (tVar 7) (tCons (tVar 8) tNil)))))) (tSeq (sDPut (tVar 2) (tVar 8) (tVar 7)) (tAsg (tVar 8) (gName 3)))) tNext))) tz D (sLs b rr aa (some .non) v4 v7 v8) H := by
  have nrb : rr ≠ b := fun z => by rw [z, hb0] at fr; exact nomatch fr
  have nab : aa ≠ b := fun z => by rw [z, hb0] at fa; exact nomatch fa
  refine q_lock w.bd True.intro fun od => ?_
  obtain ⟨HL, eL⟩ : ∃ HL, HL = upd H b (.frz od (.dT (E.map kvE))) := ⟨_, rfl⟩
  rw [← eL]
  have gb : HL b = some (.frz od (.dT (E.map kvE))) := by rw [eL]; exact upd_same
  have g3 : HL rr = some (.dK (kvG V.int S.R)) := by rw [eL, upd_ne nrb]; exact w.rr
  have g4 : HL aa = some (.dK (kvG natV S.A)) := by rw [eL, upd_ne nab]; exact w.aa
  have P0 := part_ri gE I
  have keysR : ∀ j, ((E.take j).foldl relaxL { S with ch := none }).R.map (·.1) = S.R.map (·.1) := by
    intro j
    have go : ∀ (l : List Edge) (U : LSt), (∀ e ∈ l, e.2.1 ∈ U.R.map (·.1)) → (l.foldl relaxL U).R.map (·.1) = U.R.map (·.1) := by
      intro l
      induction l with
      | nil => intro U _; rfl
      | cons e l ih =>
        intro U hU
        have e1 : (relaxL U e).R.map (·.1) = U.R.map (·.1) := by
          unfold relaxL
          split
          · show (putA U.R e.2.1 _).map (·.1) = _
            rw [keys_put, if_pos (hU e List.mem_cons_self)]
          · rfl
        show (l.foldl relaxL (relaxL U e)).R.map (·.1) = _
        rw [ih (relaxL U e) fun f hf => by rw [e1]; exact hU f (List.mem_cons_of_mem _ hf), e1]
    exact go _ _ fun e he => (keep e (List.mem_of_mem_take he)).2
  have lenR : ∀ j, ((E.take j).foldl relaxL { S with ch := none }).R.length ≤ 1000 := fun j => by
    rw [len_keys, keysR, ← len_keys]
    exact hlr
  have lenA : ∀ j, j ≤ E.length → ((E.take j).foldl relaxL { S with ch := none }).A.length ≤ n + 1 := fun j hj => by
    have h := small_len _ (n + 1) (P0 j hj).2.nd (keys_lt (P0 j hj).1)
    rwa [← len_keys] at h
  refine s_forKT (ev_var rfl) gb (fun j σ' H' => ∃ S' v7 v8, S' = (E.take j).foldl relaxL { S with ch := none } ∧ σ' = sLs b rr aa (some (on S'.ch)) v4 v7 v8 ∧ (∀ c o, c ≠ rr → c ≠ aa → HL c = some o → H' c = some o) ∧ H' rr = some (.dK (kvG V.int S'.R)) ∧ H' aa = some (.dK (kvG natV S'.A)))
    (fun H8 e8 => ⟨_, _, _, rfl, rfl, fun c o _ _ h => e8 _ _ h, e8 _ _ g3, e8 _ _ g4⟩) (fun j σ' H' _ ⟨_, _, _, _, _, kp, _⟩ => kp _ _ (fun z => nrb z.symm) (fun z => nab z.symm) gb) (fun j key v q σ' H' hkv hq ⟨S', v7, v8, eS, es, kp, q3, q4⟩ => ?_) (fun σ' H' ⟨S', v7, v8, eS, es, kp, q3, q4⟩ => ?_)
  · subst es
    obtain ⟨e, he, rfl, rfl⟩ := edge_at hkv
    have hem := List.mem_of_getElem? he
    have hj : j < E.length := (List.getElem?_eq_some_iff.mp he).1
    have hd' : H' b = some (.frz od (.dT (E.map kvE))) := kp _ _ (fun z => nrb z.symm) (fun z => nab z.symm) gb
    have eS2 : (E.take (j + 1)).foldl relaxL { S with ch := none } = relaxL S' e := by
      rw [List.take_add_one, he, List.foldl_append, ← eS]
      rfl
    have got : ∀ x : Nat, x ∈ S.R.map (·.1) → valV (kvG V.int S'.R) (Sum.inl (x : Int)) = some (.int (rOf S' x)) := fun x hx => by
      rw [valV_kvG]
      rw [← keysR j, ← eS] at hx
      obtain ⟨y, hy⟩ := getA_some.mpr hx
      unfold rOf
      rw [hy]
      rfl
    refine ⟨q, _, rfl, st_of hq, rfl, _, _, rfl, _, _, rfl, rfl, ?_⟩
    show tIfS _ _ _ _ (sLs b rr aa (some (on S'.ch)) v4 (some (.int (e.1 : Int))) (some (.int (e.2.1 : Int)))) H'
    have at7 : Ev (tDGet (tVar 1) (tVar 7)) (sLs b rr aa (some (on S'.ch)) v4 (some (.int (e.1 : Int))) (some (.int (e.2.1 : Int)))) H' (.int (rOf S' e.1)) := ev_dgetK (k := Sum.inl (e.1 : Int)) (ev_var rfl) (ev_var rfl) q3 (got _ (keep e hem).1)
    have at8 : Ev (tDGet (tVar 1) (tVar 8)) (sLs b rr aa (some (on S'.ch)) v4 (some (.int (e.1 : Int))) (some (.int (e.2.1 : Int)))) H' (.int (rOf S' e.2.1)) := ev_dgetK (k := Sum.inl (e.2.1 : Int)) (ev_var rfl) (ev_var rfl) q3 (got _ (keep e hem).2)
    have bval : Ev (tDGet (tVar 0) (tTup (tCons (tVar 7) (tCons (tVar 8) tNil)))) (sLs b rr aa (some (on S'.ch)) v4 (some (.int (e.1 : Int))) (some (.int (e.2.1 : Int)))) H' (.int e.2.2) := by
      intro H8 e8 W w
      refine ⟨.ref b, rfl, eu_tup (σ := sLs b rr aa (some (on S'.ch)) v4 (some (.int (e.1 : Int))) (some (.int (e.2.1 : Int)))) (H := H8) (ea_cons (ev_var rfl) (ea_cons (ev_var rfl) ea_nil)) (by show 2 ≤ 100000; decide) H8 (Ex.refl _) _ fun q' H9 _ e9 h9 => ?_⟩
      have h9 : H9 q' = some (.tup ((ekey e).map kV)) := h9
      exact ⟨b, _, rfl, Or.inr ⟨_, ekey e, q', Or.inr ⟨od, (e8.trans e9) _ _ hd'⟩, rfl, h9, (val_mem nE hem).symm⟩, w H9 e9⟩
    have sum := ev_op (r := rAddI) at7 bval rv_I0
    refine s_when (b := decide (rOf S' e.1 + e.2.2 < rOf S' e.2.1)) (et_test (ev_op sum at8 rv_I0)) (fun hb H8 e8 => ?_) (fun hb H8 e8 => ?_)
    · have er : relaxL S' e = ⟨putA S'.R e.2.1 (rOf S' e.1 + e.2.2), putA S'.A e.2.1 e.1, some e.2.1⟩ := if_pos (of_decide_eq_true hb)
      have l1 := lenR j
      have l2 := lenA j (by omega)
      rw [← eS] at l1 l2
      refine q_dputK (f := V.int) (e8 _ _ q3) (sum.mono e8) (ev_var rfl) (ev_var rfl) (by omega) fun H9 e9 => ?_
      have q49 : upd H9 rr (.dK (kvG V.int (putA S'.R e.2.1 (rOf S' e.1 + e.2.2)))) aa = some (.dK (kvG natV S'.A)) := by
        rw [upd_ne (fun z => nra z.symm)]
        exact e9 _ _ (e8 _ _ q4)
      refine q_dputK (f := natV) (y := e.1) q49 (ev_var rfl) (ev_var rfl) (ev_var rfl) (by omega) fun H10 e10 => ?_
      refine s_asg (v := .int (e.2.1 : Int)) (ev_var rfl) fun H11 e11 => ⟨relaxL S' e, _, _, eS2.symm, by rw [er]; rfl, fun c o c3 c4 h => e11 _ _ ?_, e11 _ _ ?_, e11 _ _ ?_⟩
      · rw [upd_ne c4]
        refine e10 _ _ ?_
        rw [upd_ne c3]
        exact e9 _ _ (e8 _ _ (kp c o c3 c4 h))
      · rw [upd_ne nra, er]
        exact e10 _ _ upd_same
      · rw [upd_same, er]
    · have er : relaxL S' e = S' := if_neg (of_decide_eq_false hb)
      exact ⟨relaxL S' e, _, _, eS2.symm, by rw [er], fun c o c3 c4 h => e8 _ _ (kp c o c3 c4 h), by rw [er]; exact e8 _ _ q3, by rw [er]; exact e8 _ _ q4⟩
  · subst es
    rw [List.length_map, List.take_length] at eS
    have eR : S' = roundL E S := eS
    rw [← eR] at kk
    refine ⟨kp _ _ (fun z => nrb z.symm) (fun z => nab z.symm) gb, ?_⟩
    have l1 := lenR E.length
    rw [List.take_length, ← eS] at l1
    refine kk v7 v8 _ ⟨fun c o hc => ?_, by rw [upd_ne nrb]; exact q3, by rw [upd_ne nab]; exact q4, upd_same⟩ l1
    by_cases cb : c = b
    · rw [cb, upd_same]
      rw [cb, hb0] at hc
      exact hc
    · rw [upd_ne cb]
      refine kp c o (ne_of_none hc fr) (ne_of_none hc fa) ?_
      rw [eL, upd_ne cb]
      exact w.ex _ _ hc
theorem pure_losing {b : Addr} {Q : VK} (hb : H b = some (.dT (E.map kvE))) (gE : GoodE (n + 1) E) (nE : (E.map ekey).Nodup) (n1 : 1 ≤ n) (n2 : n ≤ 12)
    (kN : ringF n E = none → ∀ H2, Ex H H2 → Q .non H2) (kS : ∀ r q H2, ringF n E = some r → Ex H H2 → H2 q = some (.lst (natL r)) → Q (.ref q) H2) : u_losing_ring_0 K C (ends Q) [some (.ref b), none, none, none, none, none, none, none, none] H := by
  have hz := lenG gE nE n1 n2
  unfold u_losing_ring_0
  refine q_lock hb True.intro fun od => ?_
  obtain ⟨HL, eL⟩ : ∃ HL, HL = upd H b (.frz od (.dT (E.map kvE))) := ⟨_, rfl⟩
  rw [← eL]
  have gb : HL b = some (.frz od (.dT (E.map kvE))) := by rw [eL]; exact upd_same
  unfold tAsg tDc2 iKeys
  refine (ev_var rfl : Ev (tVar 0) [some (.ref b), none, none, none, none, none, none, none, none] HL (.ref b)) HL (Ex.refl _) _ fun H1 e1 => ?_
  have gb1 := e1 _ _ gb
  refine ⟨b, od, rfl, Or.inr ⟨_, gb1, fun Dn hD => ?_⟩⟩
  have hDL : HL Dn = none := fresh_back e1 hD
  have nb : Dn ≠ b := fun z => by rw [z, gb] at hDL; exact nomatch hDL
  have hDH : H Dn = none := by
    rw [eL, upd_ne nb] at hDL
    exact hDL
  refine dc2_it walk_keysT (fun i H' => Ex H1 H' ∧ H' Dn = some (.dK (kvG V.int ((E.take i).foldl startK [])))) ⟨Ex.new hD, upd_same⟩ (fun i H' _ p => p.1 _ _ gb1) (fun i x H' H2 hi p y => ?_) (fun H' p => ?_)
  · obtain ⟨rfl, key, v, q, hkv, rfl, hq⟩ := y
    obtain ⟨p1, p2⟩ := p
    obtain ⟨e, he, rfl, rfl⟩ := edge_at hkv
    have hj : i < E.length := (List.getElem?_eq_some_iff.mp he).1
    have hq2 : H2 q = some (.tup (eTup e)) := hq
    have nqD : q ≠ Dn := ne_of hq2 p2 (by intro z; cases z)
    obtain ⟨R, eR⟩ : ∃ R, R = (E.take i).foldl startK [] := ⟨_, rfl⟩
    rw [← eR] at p2
    have lR : R.length ≤ 2 * i := by
      have := len_start (E.take i) []
      rw [← eR, List.length_take] at this
      have : ([] : List (Nat × Int)).length = 0 := rfl
      omega
    have eN : (E.take (i + 1)).foldl startK [] = startK R e := by rw [List.take_add_one, he, List.foldl_append, ← eR]; rfl
    refine ⟨rfl, ?_⟩
    unfold tYes
    refine iteT ?_
    unfold iTup
    refine ⟨.ref q, rfl, q, rfl, ⟨_, st_of hq2⟩, ?_⟩
    refine ⟨fun j k H' => k = 2 - j ∧ j ≤ 2 ∧ Ex H1 H' ∧ H' q = some (.tup (eTup e)) ∧ H' Dn = some (.dK (kvG V.int (if j = 0 then R else if j = 1 then putA R e.1 0 else startK R e))), ⟨2, rfl, by omega, p1, hq2, p2⟩, fun j k H' ⟨ek, hj2, x1, x2, x3⟩ => ?_⟩
    subst ek
    rcases Nat.lt_or_ge j 2 with hlt | hge
    · obtain ⟨z, hz'⟩ : ∃ z : Nat, (eTup e)[j]? = some (.int (z : Int)) ∧ ((j = 0 ∧ z = e.1) ∨ (j = 1 ∧ z = e.2.1)) := by
        match j, hlt with
        | 0, _ => exact ⟨e.1, rfl, Or.inl ⟨rfl, rfl⟩⟩
        | 1, _ => exact ⟨e.2.1, rfl, Or.inr ⟨rfl, rfl⟩⟩
      refine Or.inr ⟨⟨_, _, st_of x2, hz'.1⟩, fun H' => Ex H1 H' ∧ H' q = some (.tup (eTup e)) ∧ H' Dn = some (.dK (kvG V.int (if j + 1 = 0 then R else if j + 1 = 1 then putA R e.1 0 else startK R e))), fun H' y => ⟨2 - (j + 1), by omega, rfl, by omega, y⟩, fun x H3 y => ?_⟩
      obtain ⟨rfl, y⟩ := y
      have ex : x = .int (z : Int) := by
        have := y _ (st_of x2)
        rw [hz'.1] at this
        exact (Option.some.inj this).symm
      subst ex
      refine ⟨rfl, iteT ⟨.int (z : Int), rfl, _, Sum.inl (z : Int), rfl, x3, ?_, Ex.mut x1 hD, ?_, ?_⟩⟩
      · rw [kvG_len]
        have a := len_put (A := R) (x := e.1) (y := (0 : Int))
        refine sz_lt ?_
        rcases hz'.2 with ⟨rfl, _⟩ | ⟨rfl, _⟩
        · rw [if_pos rfl]; omega
        · rw [if_neg (by decide), if_pos rfl]; omega
      · rw [upd_ne nqD]; exact x2
      · rw [upd_same]
        refine congrArg (fun l => some (HO.dK l)) ?_
        rcases hz'.2 with ⟨rfl, rfl⟩ | ⟨rfl, rfl⟩
        · rw [if_pos rfl, if_neg (by decide), if_pos rfl]
          exact putK_kvG
        · rw [if_neg (by decide), if_pos rfl, if_neg (by decide), if_neg (by decide)]
          exact putK_kvG
    · have : j = 2 := by omega
      subst this
      refine Or.inl ⟨⟨_, st_of x2, Nat.le_refl _⟩, x1, ?_⟩
      rw [x3, if_neg (by decide), if_neg (by decide), eN]
  · obtain ⟨p1, p2⟩ := p
    rw [List.length_map, List.take_length] at p2
    have p2 : H' Dn = some (.dK (kvG V.int (startR E))) := p2
    have e2 : Ex HL H' := e1.trans p1
    rw [eL] at e2
    refine ⟨p1 _ _ gb1, ?_⟩
    have eHU : Ex H (upd H' b (.dT (E.map kvE))) := ex_unlock hb e2
    have hUD : upd H' b (.dT (E.map kvE)) Dn = some (.dK (kvG V.int (startR E))) := by rw [upd_ne nb]; exact p2
    generalize upd H' b (.dT (E.map kvE)) = HU at eHU hUD ⊢
    show u_losing_ring_1 K C (ends Q) [some (.ref b), some (.ref Dn), none, none, none, none, none, none, none] HU
    unfold u_losing_ring_1 tSeq tAsg
    intro aa haa
    have haH : H aa = none := fresh_back eHU haa
    have nDa : Dn ≠ aa := ne_of_none hUD haa
    have sl : (startR E).length ≤ 1000 := by
      have h1 : ((startR E).map (·.1)).length ≤ n + 1 := by
        have go : ∀ (l : List Edge) (R : List (Nat × Int)), (∀ e ∈ l, e.1 < n + 1 ∧ e.2.1 < n + 1) → (R.map (·.1)).Nodup ∧ (∀ x ∈ R.map (·.1), x < n + 1) → ((l.foldl startK R).map (·.1)).Nodup ∧ ∀ x ∈ (l.foldl startK R).map (·.1), x < n + 1 := by
          intro l
          induction l with
          | nil => intro R _ h; exact h
          | cons e l ih =>
            intro R hl h
            obtain ⟨l1, l2⟩ := hl e List.mem_cons_self
            refine ih _ (fun f hf => hl f (List.mem_cons_of_mem _ hf)) ⟨nodup_put (nodup_put h.1), fun x hx => ?_⟩
            unfold startK at hx
            rw [keys_put] at hx
            have inner : ∀ y ∈ (putA R e.1 (0 : Int)).map (·.1), y < n + 1 := fun y hy => by
              rw [keys_put] at hy
              split at hy
              · exact h.2 y hy
              · rcases List.mem_append.mp hy with z | z
                · exact h.2 y z
                · rw [List.mem_singleton.mp z]; exact l1
            split at hx
            · exact inner x hx
            · rcases List.mem_append.mp hx with z | z
              · exact inner x z
              · rw [List.mem_singleton.mp z]; exact l2
        obtain ⟨q1, q2⟩ := go E [] (fun e he => ⟨(gE e he).1, (gE e he).2.1⟩) ⟨List.nodup_nil, fun x hx => nomatch hx⟩
        exact small_len _ _ q1 q2
      rw [List.length_map] at h1
      omega
    have w0 : LAt H b Dn aa E ⟨startR E, [], none⟩ (upd HU aa (.dK [])) := ⟨eHU.trans (Ex.new haa), by rw [upd_ne nDa]; exact hUD, upd_same, by rw [upd_ne (ne_of_none (eHU _ _ hb) haa)]; exact eHU _ _ hb⟩
    show u_losing_ring_2 K C (ends Q) [some (.ref b), some (.ref Dn), some (.ref aa), none, none, none, none, none, none] (upd HU aa (.dK []))
    generalize upd HU aa (.dK []) = HV at w0 ⊢
    unfold u_losing_ring_2
    refine s_while (fun m σ' H' => ∃ k S v3 v4 v7 v8, σ' = sLs b Dn aa v3 v4 v7 v8 ∧ LAt H b Dn aa E S H' ∧ LI (n + 1) E k S ∧ loopL E (n + 3 - k) S = ringF n E ∧ m = n + 3 - k ∧ k ≤ n + 1 ∧ S.R.length ≤ 1000) (n + 3)
      ⟨0, _, _, _, _, _, rfl, w0, li_start, rfl, rfl, by omega, sl⟩ (fun m σ' H' ⟨k, S, v3, v4, v7, v8, es, w, I, lo, em, hk, hl⟩ => ⟨true, et_B ev_c, fun _ H3 e3 => ?_, fun z => nomatch z⟩)
    subst es
    obtain ⟨f, ef⟩ : ∃ f, n + 3 - k = f + 1 := ⟨n + 2 - k, by omega⟩
    rw [ef] at lo
    unfold loopL at lo
    have I' := round_li gE I
    have R' := round_ri I'
    refine ⟨fun σ2 H2 => ∃ k S v3 v4 v7 v8, σ2 = sLs b Dn aa v3 v4 v7 v8 ∧ LAt H b Dn aa E S H2 ∧ LI (n + 1) E k S ∧ loopL E (n + 3 - k) S = ringF n E ∧ n + 3 - k < m ∧ k ≤ n + 1 ∧ S.R.length ≤ 1000, fun σ2 H2 ⟨k, S, v3, v4, v7, v8, h1, h2, h3, h4, h5, h6⟩ => ⟨n + 3 - k, h5, k, S, v3, v4, v7, v8, h1, h2, h3, h4, rfl, h6⟩, ?_⟩
    refine q_asg (v := .non) ev_c fun H4 e4 => ?_
    have e34 := e3.trans e4
    refine ls_round (H0 := H) gE nE I ⟨w.ex.trans e34, e34 _ _ w.rr, e34 _ _ w.aa, e34 _ _ w.bd⟩ hDH haH hb nDa hl n2 (fun v7 v8 H5 w5 l5 => ?_) I.1.rk
    cases hc : (roundL E S).ch with
    | none =>
      refine q_when (b := true) (et_B (ev_isN (v := .non) (ev_var rfl))) (fun _ H7 e7 => ?_) (fun z => nomatch z)
      refine s_ret ev_c fun H8 e8 => kN ?_ H8 (w5.ex.trans (e7.trans e8))
      rw [← lo, hc]
      rfl
    | some v =>
      refine q_when (b := false) (et_B (ev_isN (v := .int (v : Int)) (ev_var rfl))) (fun z => nomatch z) (fun _ H7 e7 => ?_)
      have lA : (roundL E S).A.length ≤ 1000 := by
        have h := small_len _ (n + 1) I'.1.nd (keys_lt R')
        rw [List.length_map] at h
        omega
      rw [hc] at lo
      have lo : (behind (roundL E S).A v).or (loopL E f (roundL E S)) = ringF n E := lo
      refine q_pasg (evp_call (ea_cons (ev_var rfl) (ea_cons (ev_var (v := .int (v : Int)) rfl) ea_nil)) fun H8 e8 => ⟨aa, v, (roundL E S).A, rfl, e8 _ _ (e7 _ _ w5.aa), lA, rfl⟩) fun x H8 e8 hx => ?_
      have w8 : LAt H b Dn aa E (roundL E S) H8 := ⟨w5.ex.trans (e7.trans e8), (e7.trans e8) _ _ w5.rr, (e7.trans e8) _ _ w5.aa, (e7.trans e8) _ _ w5.bd⟩
      rcases hx with ⟨hno, rfl⟩ | ⟨r, q, hr, rfl, hq⟩
      · have few := behind_few I'.1 R' hc hno
        rw [hno] at lo
        refine s_when (b := false) (et_B (ev_notN (v := .non) (ev_var rfl))) (fun z => nomatch z) (fun _ H9 e9 => ?_)
        exact ⟨k + 1, roundL E S, _, _, _, _, rfl, ⟨w8.ex.trans e9, e9 _ _ w8.rr, e9 _ _ w8.aa, e9 _ _ w8.bd⟩, I', by rw [show n + 3 - (k + 1) = f by omega]; exact lo, by omega, by omega, l5⟩
      · rw [hr] at lo
        refine s_when (b := true) (et_B (ev_notN (v := .ref q) (ev_var rfl))) (fun _ H9 e9 => ?_) (fun z => nomatch z)
        exact s_ret (ev_var rfl) fun H10 e10 => kS r q H10 lo.symm (w8.ex.trans (e9.trans e10)) (e10 _ _ (e9 _ _ hq))
/-- None just where something fits -/
theorem ring_fit (T : TabAt C H t n E) : (ringF n E = none ↔ ∃ s, FitE n E s) ∧ ∀ r, ringF n E = some r → ringOk (lookE E) r = true ∧ (∀ x ∈ r, x < n + 1) ∧ r.length ≤ n + 1 := by
  obtain ⟨hg, hn, _⟩ := T.good
  obtain ⟨h1, h2⟩ := ring_told (c := lookE E) (fun a b x => look_mem hn) hg
  exact ⟨h1.trans ⟨fun ⟨s, f⟩ => ⟨s, (T.fits s).mpr f⟩, fun ⟨s, f⟩ => ⟨s, (T.fits s).mp f⟩⟩, h2⟩
theorem pure_ring4 {Q : VK} (T : TabAt C H t n E) (k : ∀ v H2, Ex H H2 → ((ringF n E = none ∧ v = .non) ∨ ∃ r q, ringF n E = some r ∧ v = .ref q ∧ H2 q = some (.lst (natL r))) → Q v H2) : u_ring_0 K C (ends Q) [some (.ref t)] H := by
  obtain ⟨hg, hn, n1, n2⟩ := T.good
  refine q_need (ea_cons (ev_var rfl) (ea_cons ev_c ea_nil)) T fun H1 e1 => ?_
  unfold u_ring_1 tRet tCall tCons
  refine (ev_var rfl : Ev (tVar 0) [some (.ref t)] H1 (.ref t)) H1 (Ex.refl _) _ fun H2 e2 => ?_
  have e12 := e1.trans e2
  obtain ⟨dx, d, h1, _⟩ := id (T.ex e12)
  refine ⟨t, dx, _, rfl, h1, t, n, E, rfl, T.ex e12, fun d' H3 hd e3 h3 => ?_⟩
  exact ⟨_, ⟨d', n, E, rfl, h3, hg, hn, n1, n2, rfl⟩, fun v H4 e4 hv => k v H4 (e12.trans (e3.trans e4)) hv⟩
end
end Bw
namespace Bw
open PySem PySem.Spec PyProof.Rows L2
theorem ring_old {K : PySem.W.Frag} {C : Addr} {H H2 : Hp} {t n : Nat} {E : List Edge} {v : V} (T1 : TabAt C H t n E) (hv : (ringF n E = none ∧ v = .non) ∨ ∃ r q, ringF n E = some r ∧ v = .ref q ∧ H2 q = some (.lst (natL r))) : v = .non ∨ ((∀ s, ¬ FitE n E s) ∧ ∃ q xs, v = .ref q ∧ H2 q = some (.lst xs)) := by
  rcases hv with ⟨_, h⟩ | ⟨r, q, hr, h1, h2⟩
  · exact Or.inl h
  · refine Or.inr ⟨fun s f => ?_, q, _, h1, h2⟩
    have := (ring_fit T1).1.mpr ⟨s, f⟩
    rw [hr] at this
    exact nomatch this
def top (i : Nat) : Stmt := PySem.Challenge.pw_blindweirs_k10_whole_tables_and_all_smal.main.body.getD i (.Pass ⟨0, 0, 0, 0⟩)
structure TxtB (mg : Str → Option Value) : Prop where
  n_isinstance : mg "isinstance" = none
  n_len : mg "len" = none
  n_all : mg "all" = none
  n_sorted : mg "sorted" = none
  n_range : mg "range" = none
  n_enumerate : mg "enumerate" = none
  n_zip : mg "zip" = none
  n_int : mg "int" = none
  n_bool : mg "bool" = none
  n_tuple : mg "tuple" = none
  n_dict : mg "dict" = none
  n_list : mg "list" = none
  n_abs : mg "abs" = none
  n_min : mg "min" = none
  n_max : mg "max" = none
  n_sum : mg "sum" = none
  n_set : mg "set" = none
abbrev sx_is_number : Stmt := top 7
theorem sc_is_number : FnScope ["thing"] ["thing"] (defScope sx_is_number) := ⟨rfl, rfl, rfl, by decide +kernel, rfl, by decide +kernel, by decide +kernel⟩
theorem ok_is_number {P : Program} {w : World} {K : PySem.W.Frag} {C : Addr} {mg : Str → Option Value} {base : Heap} {f : Addr} {fd : FuncData} (F : FunD K "is_number" "is_number" (defArgs sx_is_number) (defBody sx_is_number) (defScope sx_is_number) [] [] f fd) (T : TxtB mg) (TF : TabF K C) : FnOk P w K mg base CX0 3 f fd ["thing"] (sp_is_number C) := by
  have cT := TF.cl
  refine F.ok sc_is_number (fun vs H Q E h => ?_) (fun cdv A outer s H vs Q X h0 h => ?_)
  · obtain ⟨P0, ⟨i, rfl, rfl⟩, kk⟩ := h
    rfl
  · have hr := h0
    have hu := hu_of hr
    refine ⟨_, PSs.nox (pss_one (ps_ret (pe_and (pe_callB call_isi (by rfl) T.n_isinstance (by decide +kernel) (pa_cons (pv 0) (pa_cons (pe_bltn (by rfl) T.n_int (by decide +kernel) (show RelV (.ty "int") _ from rfl)) pa_nil))) (pe_one (pe_not (pe_callB call_isi (by rfl) T.n_isinstance (by decide +kernel) (pa_cons (pv 0) (pa_cons (pe_bltn (by rfl) T.n_bool (by decide +kernel) (show RelV (.ty "bool") _ from rfl)) pa_nil)))))))), ?_⟩
    obtain ⟨P0, ⟨i, rfl, rfl⟩, kk⟩ := h
    exact pure_is_number (K := K) (C := C) (fun H1 e => kk _ _ e rfl)
abbrev sx_is_water : Stmt := top 15
theorem sc_is_water : FnScope ["thing", "cell"] ["thing"] (defScope sx_is_water) := ⟨rfl, rfl, rfl, by decide +kernel, rfl, by decide +kernel, by decide +kernel⟩
theorem ok_is_water {P : Program} {w : World} {K : PySem.W.Frag} {C : Addr} {mg : Str → Option Value} {base : Heap} {f : Addr} {fd : FuncData} (F : FunD K "is_water" "is_water" (defArgs sx_is_water) (defBody sx_is_water) (defScope sx_is_water) [] [] f fd) (T : TxtB mg) (TF : TabF K C) (gMOST : ∃ t, mg "MOST_CELLS" = some (.int 12 t))
  {f_is_number : Addr} {d_is_number : FuncData} (G_is_number : FnOk P w K mg base CX0 3 f_is_number d_is_number ["thing"] (sp_is_number C)) (g_is_number : mg "is_number" = some (.ref f_is_number)) (k_is_number : PySem.W.keepIn K (.ref f_is_number) = true) (b_is_number : Binds K d_is_number ["thing"] []) : FnOk P w K mg base CX0 6 f fd ["thing"] (sp_is_water C) := by
  have cT := TF.cl
  obtain ⟨_, gMOST⟩ := gMOST
  refine F.ok sc_is_water (fun vs H Q E h => ?_) (fun cdv A outer s H vs Q X h0 h => ?_)
  · obtain ⟨P0, ⟨a, xs, rfl, h1, h2, h3, rfl⟩, kk⟩ := h
    rfl
  · have hr := h0
    have hu := hu_of hr
    refine ⟨_, PSs.nox (pss_cons (ps_if (PW.pt (pw_or (pt_not (pt_val (pe_callB call_isi (by rfl) T.n_isinstance (by decide +kernel) (pa_cons (pv 0) (pa_cons (pe_bltn (by rfl) T.n_tuple (by decide +kernel) (show RelV (.ty "tuple") _ from rfl)) pa_nil))))) (pw_or1 (pt_not (pt_chain op_le op_le pe_int (pe_callB call_len (by rfl) T.n_len (by decide +kernel) (pa_cons (pv 0) pa_nil)) (pe_glob (v := .int 12) rfl gMOST ⟨_, rfl⟩))))))
        (pss_one (ps_ret pe_bl))
        pss_nil)
      (pss_one (ps_ret (pe_callB (cr_all rfl) (by rfl) T.n_all (by decide +kernel) (pa_cons (pe_lc (own := [("cell", 1)]) (g := (gName 1)) (wi := (iTup K (tVar 0))) (tt := tYes) (te := (tCall (sp_is_number C) [] E0 (tCons (tVar 1) tNil))) rfl sc_is_water.nd (pi_tup (pv 0)) (blkOk_by (N := ["thing", "cell"]) (sc := defScope sx_is_water) (by decide +kernel)) (fun _ _ _ _ _ => (pg_name (i := 1) sc_is_water.nd rfl (by first | exact Or.inl rfl | exact Or.inr rfl))) (fun _ _ _ _ _ => pts_nil) (fun _ _ _ _ _ => (pe_call G_is_number (hr.mono (by decide)) rfl g_is_number k_is_number b_is_number .nil pass0 (pa_cons (pv 1) pa_nil)))) pa_nil))))), ?_⟩
    obtain ⟨P0, ⟨a, xs, rfl, h1, h2, h3, rfl⟩, kk⟩ := h
    exact pure_is_water (K := K) (C := C) h1 h2 h3 (fun H1 e => kk _ _ e rfl)
abbrev sx_sums : Stmt := top 16
theorem sc_sums : FnScope ["water", "found", "cell"] ["water"] (defScope sx_sums) := ⟨rfl, rfl, rfl, by decide +kernel, rfl, by decide +kernel, by decide +kernel⟩
theorem ok_sums {P : Program} {w : World} {K : PySem.W.Frag} {C : Addr} {mg : Str → Option Value} {base : Heap} {f : Addr} {fd : FuncData} (F : FunD K "sums" "sums" (defArgs sx_sums) (defBody sx_sums) (defScope sx_sums) [] [] f fd) (T : TxtB mg) (TF : TabF K C)
  {f_is_water : Addr} {d_is_water : FuncData} (G_is_water : FnOk P w K mg base CX0 6 f_is_water d_is_water ["thing"] (sp_is_water C)) (g_is_water : mg "is_water" = some (.ref f_is_water)) (k_is_water : PySem.W.keepIn K (.ref f_is_water) = true) (b_is_water : Binds K d_is_water ["thing"] []) : FnOk P w K mg base CX0 9 f fd ["water"] (sp_sums C) := by
  have cT := TF.cl
  refine F.ok sc_sums (fun vs H Q E h => ?_) (fun cdv A outer s H vs Q X h0 h => ?_)
  · obtain ⟨P0, ⟨a, xs, rfl, h1, h2, h3, rfl⟩, kk⟩ := h
    rfl
  · have hr := h0
    have hu := hu_of hr
    refine ⟨_, PSs.nox (pss_cons (ps_if (pt_not (pt_val (pe_call G_is_water (hr.mono (by decide)) rfl g_is_water k_is_water b_is_water .nil pass0 (pa_cons (pv 0) pa_nil))))
        (pss_one ps_never)
        pss_nil)
      (pss_cons (ps_set (i := 1) sc_sums.nd rfl (by first | exact Or.inl rfl | exact Or.inr rfl) (pe_lst (pa_cons pe_int pa_nil)))
      (pss_cons (ps_for PassesOwn.never rfl (pi_tup (pv 0)) (pg_name (i := 2) sc_sums.nd rfl (by first | exact Or.inl rfl | exact Or.inr rfl))
        (pss_one (ps_expr (pe_bm PySem.F.plainAttrs_list PySem.F.slot_list_append PySem.F.type_list_append mt_append (pv 1) (pa_cons (pe_op op_add (pe_ix ix_list (pv 1) (pe_un un_neg pe_int) (fun _ _ => rfl)) (pv 2)) pa_nil)))))
      (pss_one (ps_ret (pe_callTy call_tuple_of (by rfl) T.n_tuple (by decide +kernel) (pa_cons (pv 1) pa_nil))))))), ?_⟩
    obtain ⟨P0, ⟨a, xs, rfl, h1, h2, h3, rfl⟩, kk⟩ := h
    exact pure_sums (K := K) (C := C) h1 h2 h3 (fun p H1 e hp => kk _ _ e ⟨p, rfl, hp⟩)
abbrev sx__need_table : Stmt := top 20
theorem sc__need_table : FnScope ["table", "part"] ["table", "part"] (defScope sx__need_table) := ⟨rfl, rfl, rfl, by decide +kernel, rfl, by decide +kernel, by decide +kernel⟩
theorem ok__need_table {P : Program} {w : World} {K : PySem.W.Frag} {C : Addr} {mg : Str → Option Value} {base : Heap} {f : Addr} {fd : FuncData} (F : FunD K "_need_table" "_need_table" (defArgs sx__need_table) (defBody sx__need_table) (defScope sx__need_table) [] [] f fd) (T : TxtB mg) (TF : TabF K C) (gTable : mg "Table" = some (.ref C)) : FnOk P w K mg base CX0 3 f fd ["table", "part"] (sp__need_table C) := by
  have cT := TF.cl
  refine F.ok sc__need_table (fun vs H Q E h => ?_) (fun cdv A outer s H vs Q X h0 h => ?_)
  · obtain ⟨P0, ⟨t, n, E, w, rfl, T1, rfl⟩, kk⟩ := h
    rfl
  · have hr := h0
    have hu := hu_of hr
    refine ⟨_, PSs.nox (pss_one (ps_if (pt_not (pt_val (pe_callB call_isi (by rfl) T.n_isinstance (by decide +kernel) (pa_cons (pv 0) (pa_cons (pe_glob rfl gTable (show RelV (.ref C) _ from rfl)) pa_nil)))))
        (pss_one ps_never)
        pss_nil)), ?_⟩
    obtain ⟨P0, ⟨t, n, E, w, rfl, T1, rfl⟩, kk⟩ := h
    exact pure_need_table (K := K) (C := C) TF T1 (fun H1 e => kk _ _ e rfl)
abbrev sx_is_number_between : Stmt := top 8
theorem sc_is_number_between : FnScope ["thing", "least", "most"] ["thing", "least", "most"] (defScope sx_is_number_between) := ⟨rfl, rfl, rfl, by decide +kernel, rfl, by decide +kernel, by decide +kernel⟩
theorem ok_is_number_between {P : Program} {w : World} {K : PySem.W.Frag} {C : Addr} {mg : Str → Option Value} {base : Heap} {f : Addr} {fd : FuncData} (F : FunD K "is_number_between" "is_number_between" (defArgs sx_is_number_between) (defBody sx_is_number_between) (defScope sx_is_number_between) [] [] f fd) (T : TxtB mg) (TF : TabF K C)
  {f_is_number : Addr} {d_is_number : FuncData} (G_is_number : FnOk P w K mg base CX0 3 f_is_number d_is_number ["thing"] (sp_is_number C)) (g_is_number : mg "is_number" = some (.ref f_is_number)) (k_is_number : PySem.W.keepIn K (.ref f_is_number) = true) (b_is_number : Binds K d_is_number ["thing"] []) : FnOk P w K mg base CX0 6 f fd ["thing", "least", "most"] (sp_is_number_between C) := by
  have cT := TF.cl
  refine F.ok sc_is_number_between (fun vs H Q E h => ?_) (fun cdv A outer s H vs Q X h0 h => ?_)
  · obtain ⟨P0, ⟨i, lo, hi, rfl, rfl⟩, kk⟩ := h
    rfl
  · have hr := h0
    have hu := hu_of hr
    refine ⟨_, PSs.nox (pss_one (ps_ret (pe_and (pe_call G_is_number (hr.mono (by decide)) rfl g_is_number k_is_number b_is_number .nil pass0 (pa_cons (pv 0) pa_nil)) (pe_one (pe_chain op_le op_le (pv 1) (pv 0) (pv 2)))))), ?_⟩
    obtain ⟨P0, ⟨i, lo, hi, rfl, rfl⟩, kk⟩ := h
    exact pure_is_number_between (K := K) (C := C) (fun H1 e => kk _ _ e rfl)
abbrev sx_is_pair : Stmt := top 9
theorem sc_is_pair : FnScope ["thing"] ["thing"] (defScope sx_is_pair) := ⟨rfl, rfl, rfl, by decide +kernel, rfl, by decide +kernel, by decide +kernel⟩
theorem ok_is_pair {P : Program} {w : World} {K : PySem.W.Frag} {C : Addr} {mg : Str → Option Value} {base : Heap} {f : Addr} {fd : FuncData} (F : FunD K "is_pair" "is_pair" (defArgs sx_is_pair) (defBody sx_is_pair) (defScope sx_is_pair) [] [] f fd) (T : TxtB mg) (TF : TabF K C) : FnOk P w K mg base CX0 3 f fd ["thing"] (sp_is_pair C) := by
  have cT := TF.cl
  refine F.ok sc_is_pair (fun vs H Q E h => ?_) (fun cdv A outer s H vs Q X h0 h => ?_)
  · obtain ⟨P0, ⟨a, xs, rfl, h1, rfl⟩, kk⟩ := h
    rfl
  · have hr := h0
    have hu := hu_of hr
    refine ⟨_, PSs.nox (pss_one (ps_ret (pe_and (pe_callB call_isi (by rfl) T.n_isinstance (by decide +kernel) (pa_cons (pv 0) (pa_cons (pe_bltn (by rfl) T.n_tuple (by decide +kernel) (show RelV (.ty "tuple") _ from rfl)) pa_nil))) (pe_one (pe_cmpR op_eq (pe_callB call_len (by rfl) T.n_len (by decide +kernel) (pa_cons (pv 0) pa_nil)) pe_int (nomark _)))))), ?_⟩
    obtain ⟨P0, ⟨a, xs, rfl, h1, rfl⟩, kk⟩ := h
    exact pure_is_pair (K := K) (C := C) h1 (fun H1 e => kk _ _ e rfl)
abbrev sx__are_bounds : Stmt := top 18
theorem sc__are_bounds : FnScope ["thing", "size", "pair", "point"] ["thing", "size"] (defScope sx__are_bounds) := ⟨rfl, rfl, rfl, by decide +kernel, rfl, by decide +kernel, by decide +kernel⟩
theorem ok__are_bounds {P : Program} {w : World} {K : PySem.W.Frag} {C : Addr} {mg : Str → Option Value} {base : Heap} {f : Addr} {fd : FuncData} (F : FunD K "_are_bounds" "_are_bounds" (defArgs sx__are_bounds) (defBody sx__are_bounds) (defScope sx__are_bounds) [] [] f fd) (T : TxtB mg) (TF : TabF K C)
  {f_is_number : Addr} {d_is_number : FuncData} (G_is_number : FnOk P w K mg base CX0 3 f_is_number d_is_number ["thing"] (sp_is_number C)) (g_is_number : mg "is_number" = some (.ref f_is_number)) (k_is_number : PySem.W.keepIn K (.ref f_is_number) = true) (b_is_number : Binds K d_is_number ["thing"] [])
  {f_is_number_between : Addr} {d_is_number_between : FuncData} (G_is_number_between : FnOk P w K mg base CX0 6 f_is_number_between d_is_number_between ["thing", "least", "most"] (sp_is_number_between C)) (g_is_number_between : mg "is_number_between" = some (.ref f_is_number_between)) (k_is_number_between : PySem.W.keepIn K (.ref f_is_number_between) = true) (b_is_number_between : Binds K d_is_number_between ["thing", "least", "most"] [])
  {f_is_pair : Addr} {d_is_pair : FuncData} (G_is_pair : FnOk P w K mg base CX0 3 f_is_pair d_is_pair ["thing"] (sp_is_pair C)) (g_is_pair : mg "is_pair" = some (.ref f_is_pair)) (k_is_pair : PySem.W.keepIn K (.ref f_is_pair) = true) (b_is_pair : Binds K d_is_pair ["thing"] []) : FnOk P w K mg base CX0 9 f fd ["thing", "size"] (sp__are_bounds C) := by
  have cT := TF.cl
  refine F.ok sc__are_bounds (fun vs H Q E h => ?_) (fun cdv A outer s H vs Q X h0 h => ?_)
  · obtain ⟨P0, ⟨b, n, E, rfl, h1, h2, h3, rfl⟩, kk⟩ := h
    rfl
  · have hr := h0
    have hu := hu_of hr
    refine ⟨_, PSs.nox (pss_cons (ps_if (pt_not (pt_val (pe_callB call_isi (by rfl) T.n_isinstance (by decide +kernel) (pa_cons (pv 0) (pa_cons (pe_bltn (by rfl) T.n_dict (by decide +kernel) (show RelV (.ty "dict") _ from rfl)) pa_nil)))))
        (pss_one (ps_ret pe_bl))
        pss_nil)
      (pss_cons (ps_lock (ps_for PassesOwn.never rfl (pi_keys (pv 0)) (pg_name (i := 2) sc__are_bounds.nd rfl (by first | exact Or.inl rfl | exact Or.inr rfl))
        (pss_cons (ps_if (PW.pt (pw_or (pt_not (pt_val (pe_call G_is_pair (hr.mono (by decide)) rfl g_is_pair k_is_pair b_is_pair .nil pass0 (pa_cons (pv 2) pa_nil)))) (pw_or1 (pt_not (pt_val (pe_call G_is_number (hr.mono (by decide)) rfl g_is_number k_is_number b_is_number .nil pass0 (pa_cons (pe_dget hu (pv 0) (pv 2) (fun _ _ => rfl)) pa_nil)))))))
            (pss_one (ps_ret pe_bl))
            pss_nil)
          (pss_one (ps_if (PW.pt (pw_or (pt_not (pt_val (pe_callB (cr_all rfl) (by rfl) T.n_all (by decide +kernel) (pa_cons (pe_lc (own := [("point", 3)]) (g := (gName 3)) (wi := (iTup K (tVar 2))) (tt := tYes) (te := (tCall (sp_is_number_between C) [] E0 (tCons (tVar 3) (tCons (tC (.int 0)) (tCons (tVar 1) tNil))))) rfl sc__are_bounds.nd (pi_tup (pv 2)) (blkOk_by (N := ["thing", "size", "pair", "point"]) (sc := defScope sx__are_bounds) (by decide +kernel)) (fun _ _ _ _ _ => (pg_name (i := 3) sc__are_bounds.nd rfl (by first | exact Or.inl rfl | exact Or.inr rfl))) (fun _ _ _ _ _ => pts_nil) (fun _ _ _ _ _ => (pe_call G_is_number_between (hr.mono (by decide)) rfl g_is_number_between k_is_number_between b_is_number_between .nil pass0 (pa_cons (pv 3) (pa_cons pe_int (pa_cons (pv 1) pa_nil)))))) pa_nil)))) (pw_or1 (pt_cmpR op_eq (pe_ix ix_tup (pv 2) pe_int (fun _ _ => rfl)) (pe_ix ix_tup (pv 2) pe_int (fun _ _ => rfl)) (nomark _)))))
            (pss_one (ps_ret pe_bl))
            pss_nil)))))
      (pss_one (ps_ret pe_bl)))), ?_⟩
    obtain ⟨P0, ⟨b, n, E, rfl, h1, h2, h3, rfl⟩, kk⟩ := h
    exact pure_are_bounds (K := K) (C := C) h1 h2 h3 (fun H1 e => kk _ _ e rfl)
abbrev sx_Table___init__ : Stmt := inClass (top 19) 0
theorem sc_Table___init__ : FnScope ["self", "size", "bounds", "pair"] ["self", "size", "bounds"] (defScope sx_Table___init__) := ⟨rfl, rfl, rfl, by decide +kernel, rfl, by decide +kernel, by decide +kernel⟩
theorem ok_Table___init__ {P : Program} {w : World} {K : PySem.W.Frag} {C : Addr} {mg : Str → Option Value} {base : Heap} {f : Addr} {fd : FuncData} (F : FunD K "__init__" "Table.__init__" (defArgs sx_Table___init__) (defBody sx_Table___init__) (defScope sx_Table___init__) [.non] [] f fd) (T : TxtB mg) (TF : TabF K C) (gMOST : ∃ t, mg "MOST_CELLS" = some (.int 12 t))
  {f_is_number_between : Addr} {d_is_number_between : FuncData} (G_is_number_between : FnOk P w K mg base CX0 6 f_is_number_between d_is_number_between ["thing", "least", "most"] (sp_is_number_between C)) (g_is_number_between : mg "is_number_between" = some (.ref f_is_number_between)) (k_is_number_between : PySem.W.keepIn K (.ref f_is_number_between) = true) (b_is_number_between : Binds K d_is_number_between ["thing", "least", "most"] [])
  {f__are_bounds : Addr} {d__are_bounds : FuncData} (G__are_bounds : FnOk P w K mg base CX0 9 f__are_bounds d__are_bounds ["thing", "size"] (sp__are_bounds C)) (g__are_bounds : mg "_are_bounds" = some (.ref f__are_bounds)) (k__are_bounds : PySem.W.keepIn K (.ref f__are_bounds) = true) (b__are_bounds : Binds K d__are_bounds ["thing", "size"] []) : FnOk P w K mg base CX0 12 f fd ["self", "size", "bounds"] (sp_Table___init__ C) := by
  have cT := TF.cl
  obtain ⟨_, gMOST⟩ := gMOST
  refine F.ok sc_Table___init__ (fun vs H Q E h => ?_) (fun cdv A outer s H vs Q X h0 h => ?_)
  · obtain ⟨x, dx, b, n, E, rfl, h1, h2, h3, h4, h5, h6, h7, kk⟩ := h
    rfl
  · have hr := h0
    have hu := hu_of hr
    refine ⟨_, PSs.nox (pss_cons (ps_if (pt_not (pt_val (pe_call G_is_number_between (hr.mono (by decide)) rfl g_is_number_between k_is_number_between b_is_number_between .nil pass0 (pa_cons (pv 1) (pa_cons pe_int (pa_cons (pe_glob (v := .int 12) rfl gMOST ⟨_, rfl⟩) pa_nil))))))
        (pss_one ps_never)
        pss_nil)
      (pss_cons (ps_if (pt_cmp (pc_isN (pv 2)))
        (pss_one (ps_set (i := 2) sc_Table___init__.nd rfl (by first | exact Or.inl rfl | exact Or.inr rfl) pe_dnewT))
        pss_nil)
      (pss_cons (ps_if (pt_not (pt_val (pe_call G__are_bounds (hr.mono (by decide)) rfl g__are_bounds k__are_bounds b__are_bounds .nil pass0 (pa_cons (pv 2) (pa_cons (pv 1) pa_nil)))))
        (pss_one ps_never)
        pss_nil)
      (pss_cons (ps_fld (pv 0) (pv 1) rfl)
      (pss_one (ps_fld (pv 0) (pe_dt (own := [("pair", 3)]) (g := (gName 3)) (wi := (iList K (tCB rSortedDT (tCons (tVar 2) tNil)))) (tt := tYes) (tk := (tVar 3)) (tv := (tDGet (tVar 2) (tVar 3))) hu rfl sc_Table___init__.nd (pi_list (pe_callB (cr_sortedDT rfl) (by rfl) T.n_sorted (by decide +kernel) (pa_cons (pv 2) pa_nil))) (blkOk_by (N := ["self", "size", "bounds", "pair"]) (sc := defScope sx_Table___init__) (by decide +kernel)) (fun _ _ _ _ _ => (pg_name (i := 3) sc_Table___init__.nd rfl (by first | exact Or.inl rfl | exact Or.inr rfl))) (fun _ _ _ _ _ => pts_nil) (fun _ _ _ _ _ => (pv 3)) (fun _ _ _ _ _ => (pe_dget hu (pv 2) (pv 3) (fun _ _ => rfl)))) rfl)))))), ?_⟩
    obtain ⟨x, dx, b, n, E, rfl, h1, h2, h3, h4, h5, h6, h7, kk⟩ := h
    exact pure_init (K := K) (C := C) TF h1 h2 h3 h4 h5 h6 h7 kk
abbrev sx_nothing : Stmt := top 22
theorem sc_nothing : FnScope ["size"] ["size"] (defScope sx_nothing) := ⟨rfl, rfl, rfl, by decide +kernel, rfl, by decide +kernel, by decide +kernel⟩
theorem ok_nothing {P : Program} {w : World} {K : PySem.W.Frag} {C : Addr} {mg : Str → Option Value} {base : Heap} {f : Addr} {fd : FuncData} (F : FunD K "nothing" "nothing" (defArgs sx_nothing) (defBody sx_nothing) (defScope sx_nothing) [] [] f fd) (T : TxtB mg) (TF : TabF K C) (gTable : mg "Table" = some (.ref C))
  {f_init : Addr} {d_init : FuncData} (G_init : FnOk P w K mg base CX0 12 f_init d_init ["self", "size", "bounds"] (sp_Table___init__ C)) (b_init : Binds K d_init ["self", "size", "bounds"] []) (mk : Mk K C f_init) : FnOk P w K mg base CX0 15 f fd ["size"] (sp_nothing C) := by
  have cT := TF.cl
  refine F.ok sc_nothing (fun vs H Q E h => ?_) (fun cdv A outer s H vs Q X h0 h => ?_)
  · obtain ⟨P0, ⟨n, rfl, h1, h2, rfl⟩, kk⟩ := h
    rfl
  · have hr := h0
    have hu := hu_of hr
    refine ⟨_, PSs.nox (pss_one (ps_ret (pe_make mk G_init (hr.mono (by decide)) rfl gTable b_init .nil pass0 (pa_cons (pv 0) (pa_cons (pe_dispT hu (pps_cons (pe_tup (pa_cons pe_int (pa_cons pe_int pa_nil))) (pe_un un_neg pe_int) (pps_cons (pe_tup (pa_cons pe_int (pa_cons pe_int pa_nil))) pe_int pps_nil)) (by rfl) (by rfl) (fun z => by cases z) (by decide)) pa_nil))))), ?_⟩
    obtain ⟨P0, ⟨n, rfl, h1, h2, rfl⟩, kk⟩ := h
    exact pure_nothing (K := K) (C := C) h1 h2 (fun t H2 E e T1 p => kk _ _ e ⟨t, E, rfl, T1, p⟩)
abbrev sx__go_through : Stmt := top 24
theorem sc__go_through : FnScope ["least", "a", "middle", "step", "b", "further"] ["least", "a", "middle"] (defScope sx__go_through) := ⟨rfl, rfl, rfl, by decide +kernel, rfl, by decide +kernel, by decide +kernel⟩
theorem ok__go_through {P : Program} {w : World} {K : PySem.W.Frag} {C : Addr} {mg : Str → Option Value} {base : Heap} {f : Addr} {fd : FuncData} (F : FunD K "_go_through" "_go_through" (defArgs sx__go_through) (defBody sx__go_through) (defScope sx__go_through) [] [] f fd) (T : TxtB mg) (TF : TabF K C) : FnOk P w K mg base CX0 3 f fd ["least", "a", "middle"] (sp__go_through C) := by
  have cT := TF.cl
  refine F.ok sc__go_through (fun vs H Q E h => ?_) (fun cdv A outer s H vs Q X h0 h => ?_)
  · obtain ⟨p, rs, M, N, a, m, st, r, rfl, h1, h2, h3, h4, h5, h6, kk⟩ := h
    rfl
  · have hr := h0
    have hu := hu_of hr
    refine ⟨_, PSs.nox (pss_cons (ps_set (i := 3) sc__go_through.nd rfl (by first | exact Or.inl rfl | exact Or.inr rfl) (pe_ix ix_list (pe_ix ix_list (pv 0) (pv 1) (fun _ _ => rfl)) (pv 2) (fun _ _ => rfl)))
      (pss_one (ps_for PassesOwn.never rfl (pi_enum (by rfl) T.n_enumerate (pa_cons (pe_callTy call_list_of (by rfl) T.n_list (by decide +kernel) (pa_cons (pe_ix ix_list (pv 0) (pv 2) (fun _ _ => rfl)) pa_nil)) pa_nil)) (pg_tup rfl (pgs_cons (pg_name (i := 4) sc__go_through.nd rfl (by first | exact Or.inl rfl | exact Or.inr rfl)) (pgs_cons (pg_name (i := 5) sc__go_through.nd rfl (by first | exact Or.inl rfl | exact Or.inr rfl)) pgs_nil)))
        (pss_one (ps_if (PW.pt (pw_and (pt_cmp (pc_notN (pv 5))) (pw_and1 (PW.pt (pw_or (pt_cmp (pc_isN (pe_ix ix_list (pe_ix ix_list (pv 0) (pv 1) (fun _ _ => rfl)) (pv 4) (fun _ _ => rfl)))) (pw_or1 (pt_cmpR op_lt (pe_op op_add (pv 3) (pv 5)) (pe_ix ix_list (pe_ix ix_list (pv 0) (pv 1) (fun _ _ => rfl)) (pv 4) (fun _ _ => rfl)) (nomark _))))))))
            (pss_one (ps_asg (pe_op op_add (pv 3) (pv 5)) (pg_sub (pe_ix ix_list (pv 0) (pv 1) (fun _ _ => rfl)) (pv 4) set_list)))
            pss_nil))))), ?_⟩
    obtain ⟨p, rs, M, N, a, m, st, r, rfl, h1, h2, h3, h4, h5, h6, kk⟩ := h
    exact pure_go_through (K := K) (C := C) h1 h2 h3 h4 h5 h6 kk
abbrev sx_Table_size : Stmt := inClass (top 19) 1
theorem sc_Table_size : FnScope ["self"] ["self"] (defScope sx_Table_size) := ⟨rfl, rfl, rfl, by decide +kernel, rfl, by decide +kernel, by decide +kernel⟩
theorem ok_Table_size {P : Program} {w : World} {K : PySem.W.Frag} {C : Addr} {mg : Str → Option Value} {base : Heap} {f : Addr} {fd : FuncData} (F : FunD K "size" "Table.size" (defArgs sx_Table_size) (defBody sx_Table_size) (defScope sx_Table_size) [] [] f fd) (T : TxtB mg) (TF : TabF K C) : FnOk P w K mg base CX0 3 f fd ["self"] (sp_Table_size C) := by
  have cT := TF.cl
  refine F.ok sc_Table_size (fun vs H Q E h => ?_) (fun cdv A outer s H vs Q X h0 h => ?_)
  · obtain ⟨P0, ⟨t, n, E, rfl, T1, rfl⟩, kk⟩ := h
    rfl
  · have hr := h0
    have hu := hu_of hr
    refine ⟨_, PSs.nox (pss_one (ps_ret (pe_fld (pv 0) rfl))), ?_⟩
    obtain ⟨P0, ⟨t, n, E, rfl, T1, rfl⟩, kk⟩ := h
    exact pure_size (K := K) (C := C) TF T1 (fun H1 e => kk _ _ e rfl)
abbrev sx_Table_bounds : Stmt := inClass (top 19) 2
theorem sc_Table_bounds : FnScope ["self", "pair"] ["self"] (defScope sx_Table_bounds) := ⟨rfl, rfl, rfl, by decide +kernel, rfl, by decide +kernel, by decide +kernel⟩
theorem ok_Table_bounds {P : Program} {w : World} {K : PySem.W.Frag} {C : Addr} {mg : Str → Option Value} {base : Heap} {f : Addr} {fd : FuncData} (F : FunD K "bounds" "Table.bounds" (defArgs sx_Table_bounds) (defBody sx_Table_bounds) (defScope sx_Table_bounds) [] [] f fd) (T : TxtB mg) (TF : TabF K C) : FnOk P w K mg base CX0 3 f fd ["self"] (sp_Table_bounds C) := by
  have cT := TF.cl
  refine F.ok sc_Table_bounds (fun vs H Q E h => ?_) (fun cdv A outer s H vs Q X h0 h => ?_)
  · obtain ⟨t, n, E, rfl, T1, kk⟩ := h
    rfl
  · have hr := h0
    have hu := hu_of hr
    refine ⟨_, PSs.nox (pss_one (ps_ret (pe_lock (pe_dt (own := [("pair", 1)]) (g := (gName 1)) (wi := (iKeys (tFld K (tVar 0) "_bounds"))) (tt := tYes) (tk := (tVar 1)) (tv := (tDGet (tFld K (tVar 0) "_bounds") (tVar 1))) hu rfl sc_Table_bounds.nd (pi_keys (pe_fld (pv 0) rfl)) (blkOk_by (N := ["self", "pair"]) (sc := defScope sx_Table_bounds) (by decide +kernel)) (fun _ _ _ _ _ => (pg_name (i := 1) sc_Table_bounds.nd rfl (by first | exact Or.inl rfl | exact Or.inr rfl))) (fun _ _ _ _ _ => pts_nil) (fun _ _ _ _ _ => (pv 1)) (fun _ _ _ _ _ => (pe_dget hu (pe_fld (pv 0) rfl) (pv 1) (fun _ _ => rfl))))))), ?_⟩
    obtain ⟨t, n, E, rfl, T1, kk⟩ := h
    exact pure_bounds (K := K) (C := C) TF T1 (Nat.le_trans (lenE T1) (by decide)) kk
abbrev sx__least_ways : Stmt := top 23
theorem sc__least_ways : FnScope ["table", "count", "bounds", "least", "a", "middle", "above", "below"] ["table"] (defScope sx__least_ways) := ⟨rfl, rfl, rfl, by decide +kernel, rfl, by decide +kernel, by decide +kernel⟩
theorem ok__least_ways {P : Program} {w : World} {K : PySem.W.Frag} {C : Addr} {mg : Str → Option Value} {base : Heap} {f : Addr} {fd : FuncData} (F : FunD K "_least_ways" "_least_ways" (defArgs sx__least_ways) (defBody sx__least_ways) (defScope sx__least_ways) [] [] f fd) (T : TxtB mg) (TF : TabF K C)
  {f__go_through : Addr} {d__go_through : FuncData} (G__go_through : FnOk P w K mg base CX0 3 f__go_through d__go_through ["least", "a", "middle"] (sp__go_through C)) (g__go_through : mg "_go_through" = some (.ref f__go_through)) (k__go_through : PySem.W.keepIn K (.ref f__go_through) = true) (b__go_through : Binds K d__go_through ["least", "a", "middle"] [])
  {q_size f_size : Addr} {d_size : FuncData} (G_size : FnOk P w K mg base CX0 3 f_size d_size ["self"] (sp_Table_size C)) (b_size : Binds K d_size ["self"] []) (hp_size : PropOf K C "size" q_size f_size)
  {q_bounds f_bounds : Addr} {d_bounds : FuncData} (G_bounds : FnOk P w K mg base CX0 3 f_bounds d_bounds ["self"] (sp_Table_bounds C)) (b_bounds : Binds K d_bounds ["self"] []) (hp_bounds : PropOf K C "bounds" q_bounds f_bounds) : FnOk P w K mg base CX0 6 f fd ["table"] (sp__least_ways C) := by
  have cT := TF.cl
  refine F.ok sc__least_ways (fun vs H Q E h => ?_) (fun cdv A outer s H vs Q X h0 h => ?_)
  · obtain ⟨P0, ⟨t, n, E, rfl, T1, rfl⟩, kk⟩ := h
    rfl
  · have hr := h0
    have hu := hu_of hr
    refine ⟨_, PSs.nox (pss_cons (ps_set (i := 1) sc__least_ways.nd rfl (by first | exact Or.inl rfl | exact Or.inr rfl) (pe_op op_add (pe_prop (pv 0) cT hp_size G_size (hr.mono (by decide)) b_size .nil pass0 rfl) pe_int))
      (pss_cons (ps_set (i := 2) sc__least_ways.nd rfl (by first | exact Or.inl rfl | exact Or.inr rfl) (pe_prop (pv 0) cT hp_bounds G_bounds (hr.mono (by decide)) b_bounds .nil pass0 rfl))
      (pss_cons (ps_setLc (i := 3) (own := [("above", 6)]) (g := (gName 6)) (wi := (iRng1 (tCons (tVar 1) tNil))) (tt := tYes) (te := (tLc (iRng1 (tCons (tVar 1) tNil)) (gName 7) tYes (tDGet1 (tVar 2) (tTup (tCons (tVar 6) (tCons (tVar 7) tNil)))) [7])) rfl sc__least_ways.nd rfl rfl (sw_true rfl rfl rfl (by decide +kernel)) (pi_range1 rfl T.n_range (pa_cons (pv 1) pa_nil)) (blkOk_by (N := ["table", "count", "bounds", "least", "a", "middle", "above", "below"]) (sc := defScope sx__least_ways) (by decide +kernel)) (fun _ _ _ _ _ => (pg_name (i := 6) sc__least_ways.nd rfl (by first | exact Or.inl rfl | exact Or.inr rfl))) (fun _ _ _ _ _ => pts_nil) (fun _ _ _ _ _ => (pe_lc (own := [("below", 7)]) (g := (gName 7)) (wi := (iRng1 (tCons (tVar 1) tNil))) (tt := tYes) (te := (tDGet1 (tVar 2) (tTup (tCons (tVar 6) (tCons (tVar 7) tNil))))) rfl sc__least_ways.nd (pi_range1 rfl T.n_range (pa_cons (pv 1) pa_nil)) (blkOk_by (N := ["table", "count", "bounds", "least", "a", "middle", "above", "below"]) (sc := { kind := .function, names := [(".0", .local), ("above", .cell), ("range", .globalImplicit), ("bounds", .cell), ("count", .cell)], isGenerator := false, isCoroutine := false }) (by decide +kernel)) (fun _ _ _ _ _ => (pg_name (i := 7) sc__least_ways.nd rfl (by first | exact Or.inl rfl | exact Or.inr rfl))) (fun _ _ _ _ _ => pts_nil) (fun _ _ _ _ _ => (pe_dget1 hu (pv 2) (pe_tup (pa_cons (pv 6) (pa_cons (pv 7) pa_nil))) ⟨rfl, rfl, rfl, rfl⟩)))))
      (pss_cons (ps_for PassesOwn.never rfl (pi_range1 rfl T.n_range (pa_cons (pv 1) pa_nil)) (pg_name (i := 4) sc__least_ways.nd rfl (by first | exact Or.inl rfl | exact Or.inr rfl))
        (pss_one (ps_asg pe_int (pg_sub (pe_ix ix_list (pv 3) (pv 4) (fun _ _ => rfl)) (pv 4) set_list))))
      (pss_cons (ps_for PassesOwn.never rfl (pi_range1 rfl T.n_range (pa_cons (pv 1) pa_nil)) (pg_name (i := 5) sc__least_ways.nd rfl (by first | exact Or.inl rfl | exact Or.inr rfl))
        (pss_cons (ps_if (pt_cmpR op_lt (pe_ix ix_list (pe_ix ix_list (pv 3) (pv 5) (fun _ _ => rfl)) (pv 5) (fun _ _ => rfl)) pe_int (nomark _))
            (pss_one (ps_ret pe_non))
            pss_nil)
          (pss_one (ps_for PassesOwn.never rfl (pi_range1 rfl T.n_range (pa_cons (pv 1) pa_nil)) (pg_name (i := 4) sc__least_ways.nd rfl (by first | exact Or.inl rfl | exact Or.inr rfl))
            (pss_one (ps_if (pt_cmp (pc_notN (pe_ix ix_list (pe_ix ix_list (pv 3) (pv 4) (fun _ _ => rfl)) (pv 5) (fun _ _ => rfl))))
                (pss_one (ps_expr (pe_call G__go_through (hr.mono (by decide)) rfl g__go_through k__go_through b__go_through .nil pass0 (pa_cons (pv 3) (pa_cons (pv 4) (pa_cons (pv 5) pa_nil))))))
                pss_nil))))))
      (pss_one (ps_ret (pv 3)))))))), ?_⟩
    obtain ⟨P0, ⟨t, n, E, rfl, T1, rfl⟩, kk⟩ := h
    exact pure_least_ways (K := K) (C := C) T1 (fun v H2 e hv => kk _ _ e hv)
abbrev sx__table_of : Stmt := top 25
theorem sc__table_of : FnScope ["least", "bounds", "a", "row", "b", "number"] ["least"] (defScope sx__table_of) := ⟨rfl, rfl, rfl, by decide +kernel, rfl, by decide +kernel, by decide +kernel⟩
theorem ok__table_of {P : Program} {w : World} {K : PySem.W.Frag} {C : Addr} {mg : Str → Option Value} {base : Heap} {f : Addr} {fd : FuncData} (F : FunD K "_table_of" "_table_of" (defArgs sx__table_of) (defBody sx__table_of) (defScope sx__table_of) [] [] f fd) (T : TxtB mg) (TF : TabF K C) (gTable : mg "Table" = some (.ref C))
  {f_init : Addr} {d_init : FuncData} (G_init : FnOk P w K mg base CX0 12 f_init d_init ["self", "size", "bounds"] (sp_Table___init__ C)) (b_init : Binds K d_init ["self", "size", "bounds"] []) (mk : Mk K C f_init) : FnOk P w K mg base CX0 15 f fd ["least"] (sp__table_of C) := by
  have cT := TF.cl
  refine F.ok sc__table_of (fun vs H Q E h => ?_) (fun cdv A outer s H vs Q X h0 h => ?_)
  · obtain ⟨P0, ⟨p, rs, M, n, rfl, h1, h2, h3, rfl⟩, kk⟩ := h
    rfl
  · have hr := h0
    have hu := hu_of hr
    refine ⟨_, PSs.nox (pss_cons (ps_set (i := 1) sc__table_of.nd rfl (by first | exact Or.inl rfl | exact Or.inr rfl) pe_dnewT)
      (pss_cons (ps_for PassesOwn.never rfl (pi_enum (by rfl) T.n_enumerate (pa_cons (pv 0) pa_nil)) (pg_tup rfl (pgs_cons (pg_name (i := 2) sc__table_of.nd rfl (by first | exact Or.inl rfl | exact Or.inr rfl)) (pgs_cons (pg_name (i := 3) sc__table_of.nd rfl (by first | exact Or.inl rfl | exact Or.inr rfl)) pgs_nil)))
        (pss_one (ps_for PassesOwn.never rfl (pi_enum (by rfl) T.n_enumerate (pa_cons (pv 3) pa_nil)) (pg_tup rfl (pgs_cons (pg_name (i := 4) sc__table_of.nd rfl (by first | exact Or.inl rfl | exact Or.inr rfl)) (pgs_cons (pg_name (i := 5) sc__table_of.nd rfl (by first | exact Or.inl rfl | exact Or.inr rfl)) pgs_nil)))
            (pss_one (ps_if (PW.pt (pw_and (pt_cmpR op_ne (pv 2) (pv 4) (nomark _)) (pw_and1 (pt_cmp (pc_notN (pv 5))))))
                (pss_one (ps_dput hu (pv 1) (pe_tup (pa_cons (pv 2) (pa_cons (pv 4) pa_nil))) (pv 5) rfl))
                pss_nil)))))
      (pss_one (ps_ret (pe_make mk G_init (hr.mono (by decide)) rfl gTable b_init .nil pass0 (pa_cons (pe_op op_sub (pe_callB call_len (by rfl) T.n_len (by decide +kernel) (pa_cons (pv 0) pa_nil)) pe_int) (pa_cons (pv 1) pa_nil))))))), ?_⟩
    obtain ⟨P0, ⟨p, rs, M, n, rfl, h1, h2, h3, rfl⟩, kk⟩ := h
    exact pure_table_of (K := K) (C := C) h1 h2 h3 (fun t H2 E e T1 hm => kk _ _ e ⟨t, E, rfl, T1, hm⟩)
abbrev sx_closed : Stmt := top 26
theorem sc_closed : FnScope ["table", "least"] ["table"] (defScope sx_closed) := ⟨rfl, rfl, rfl, by decide +kernel, rfl, by decide +kernel, by decide +kernel⟩
theorem ok_closed {P : Program} {w : World} {K : PySem.W.Frag} {C : Addr} {mg : Str → Option Value} {base : Heap} {f : Addr} {fd : FuncData} (F : FunD K "closed" "closed" (defArgs sx_closed) (defBody sx_closed) (defScope sx_closed) [] [] f fd) (T : TxtB mg) (TF : TabF K C)
  {f__need_table : Addr} {d__need_table : FuncData} (G__need_table : FnOk P w K mg base CX0 3 f__need_table d__need_table ["table", "part"] (sp__need_table C)) (g__need_table : mg "_need_table" = some (.ref f__need_table)) (k__need_table : PySem.W.keepIn K (.ref f__need_table) = true) (b__need_table : Binds K d__need_table ["table", "part"] [])
  {f_nothing : Addr} {d_nothing : FuncData} (G_nothing : FnOk P w K mg base CX0 15 f_nothing d_nothing ["size"] (sp_nothing C)) (g_nothing : mg "nothing" = some (.ref f_nothing)) (k_nothing : PySem.W.keepIn K (.ref f_nothing) = true) (b_nothing : Binds K d_nothing ["size"] [])
  {f__least_ways : Addr} {d__least_ways : FuncData} (G__least_ways : FnOk P w K mg base CX0 6 f__least_ways d__least_ways ["table"] (sp__least_ways C)) (g__least_ways : mg "_least_ways" = some (.ref f__least_ways)) (k__least_ways : PySem.W.keepIn K (.ref f__least_ways) = true) (b__least_ways : Binds K d__least_ways ["table"] [])
  {f__table_of : Addr} {d__table_of : FuncData} (G__table_of : FnOk P w K mg base CX0 15 f__table_of d__table_of ["least"] (sp__table_of C)) (g__table_of : mg "_table_of" = some (.ref f__table_of)) (k__table_of : PySem.W.keepIn K (.ref f__table_of) = true) (b__table_of : Binds K d__table_of ["least"] [])
  {q_size f_size : Addr} {d_size : FuncData} (G_size : FnOk P w K mg base CX0 3 f_size d_size ["self"] (sp_Table_size C)) (b_size : Binds K d_size ["self"] []) (hp_size : PropOf K C "size" q_size f_size) : FnOk P w K mg base CX0 18 f fd ["table"] (sp_closed C) := by
  have cT := TF.cl
  refine F.ok sc_closed (fun vs H Q E h => ?_) (fun cdv A outer s H vs Q X h0 h => ?_)
  · obtain ⟨P0, ⟨t, n, E, rfl, T1, rfl⟩, kk⟩ := h
    rfl
  · have hr := h0
    have hu := hu_of hr
    refine ⟨_, PSs.nox (pss_cons (ps_expr (pe_call G__need_table (hr.mono (by decide)) rfl g__need_table k__need_table b__need_table .nil pass0 (pa_cons (pv 0) (pa_cons pe_non pa_nil))))
      (pss_cons (ps_set (i := 1) sc_closed.nd rfl (by first | exact Or.inl rfl | exact Or.inr rfl) (pe_call G__least_ways (hr.mono (by decide)) rfl g__least_ways k__least_ways b__least_ways .nil pass0 (pa_cons (pv 0) pa_nil)))
      (pss_cons (ps_if (pt_cmp (pc_isN (pv 1)))
        (pss_one (ps_ret (pe_call G_nothing (hr.mono (by decide)) rfl g_nothing k_nothing b_nothing .nil pass0 (pa_cons (pe_prop (pv 0) cT hp_size G_size (hr.mono (by decide)) b_size .nil pass0 rfl) pa_nil))))
        pss_nil)
      (pss_one (ps_ret (pe_call G__table_of (hr.mono (by decide)) rfl g__table_of k__table_of b__table_of .nil pass0 (pa_cons (pv 1) pa_nil))))))), ?_⟩
    obtain ⟨P0, ⟨t, n, E, rfl, T1, rfl⟩, kk⟩ := h
    exact pure_closed (K := K) (C := C) T1 (fun u H2 E' e T2 h1 h2 => kk _ _ e ⟨u, E', rfl, T2, h1, h2⟩)
abbrev sx__ring_behind : Stmt := top 12
theorem sc__ring_behind : FnScope ["ahead", "start", "node", "_", "found", "step"] ["ahead", "start"] (defScope sx__ring_behind) := ⟨rfl, rfl, rfl, by decide +kernel, rfl, by decide +kernel, by decide +kernel⟩
theorem ok__ring_behind {P : Program} {w : World} {K : PySem.W.Frag} {C : Addr} {mg : Str → Option Value} {base : Heap} {f : Addr} {fd : FuncData} (F : FunD K "_ring_behind" "_ring_behind" (defArgs sx__ring_behind) (defBody sx__ring_behind) (defScope sx__ring_behind) [] [] f fd) (T : TxtB mg) (TF : TabF K C) : FnOk P w K mg base CX0 3 f fd ["ahead", "start"] (sp_behind4 C) := by
  have cT := TF.cl
  refine F.ok sc__ring_behind (fun vs H Q E h => ?_) (fun cdv A outer s H vs Q X h0 h => ?_)
  · obtain ⟨P0, ⟨a, v, A, rfl, h1, h2, rfl⟩, kk⟩ := h
    rfl
  · have hr := h0
    have hu := hu_of hr
    refine ⟨_, PSs.nox (pss_cons (ps_set (i := 2) sc__ring_behind.nd rfl (by first | exact Or.inl rfl | exact Or.inr rfl) (pv 1))
      (pss_cons (ps_for PassesOwn.never rfl (pi_range1 rfl T.n_range (pa_cons (pe_callB call_lenD (by rfl) T.n_len (by decide +kernel) (pa_cons (pv 0) pa_nil)) pa_nil)) (pg_name (i := 3) sc__ring_behind.nd rfl (by first | exact Or.inl rfl | exact Or.inr rfl))
        (pss_cons (ps_if (pt_cmp (pc_dnotin hu (pv 2) (pv 0)))
            (pss_one (ps_ret pe_non))
            pss_nil)
          (pss_one (ps_set (i := 2) sc__ring_behind.nd rfl (by first | exact Or.inl rfl | exact Or.inr rfl) (pe_dget hu (pv 0) (pv 2) (fun _ _ => rfl))))))
      (pss_cons (ps_if (pt_cmp (pc_dnotin hu (pv 2) (pv 0)))
        (pss_one (ps_ret pe_non))
        pss_nil)
      (pss_cons (ps_set (i := 4) sc__ring_behind.nd rfl (by first | exact Or.inl rfl | exact Or.inr rfl) (pe_lst (pa_cons (pv 2) pa_nil)))
      (pss_cons (ps_set (i := 5) sc__ring_behind.nd rfl (by first | exact Or.inl rfl | exact Or.inr rfl) (pe_dget hu (pv 0) (pv 2) (fun _ _ => rfl)))
      (pss_cons (ps_while PassesOwn.never (pt_cmpR op_ne (pv 5) (pv 2) (nomark _))
        (pss_cons (ps_expr (pe_bm PySem.F.plainAttrs_list PySem.F.slot_list_append PySem.F.type_list_append mt_append (pv 4) (pa_cons (pv 5) pa_nil)))
          (pss_one (ps_set (i := 5) sc__ring_behind.nd rfl (by first | exact Or.inl rfl | exact Or.inr rfl) (pe_dget hu (pv 0) (pv 5) (fun _ _ => rfl))))))
      (pss_one (ps_ret (pe_revL (pv 4)))))))))), ?_⟩
    obtain ⟨P0, ⟨a, v, A, rfl, h1, h2, rfl⟩, kk⟩ := h
    exact pure_behind4 (K := K) (C := C) h1 h2 (fun hno H2 e => kk _ _ e (Or.inl ⟨hno, rfl⟩)) (fun r q H2 hr e hq => kk _ _ e (Or.inr ⟨r, q, hr, rfl, hq⟩))
abbrev sx_losing_ring : Stmt := top 11
theorem sc_losing_ring : FnScope ["bounds", "reached", "ahead", "changed", "found", "pair", "node", "x", "y"] ["bounds"] (defScope sx_losing_ring) := ⟨rfl, rfl, rfl, by decide +kernel, rfl, by decide +kernel, by decide +kernel⟩
theorem ok_losing_ring {P : Program} {w : World} {K : PySem.W.Frag} {C : Addr} {mg : Str → Option Value} {base : Heap} {f : Addr} {fd : FuncData} (F : FunD K "losing_ring" "losing_ring" (defArgs sx_losing_ring) (defBody sx_losing_ring) (defScope sx_losing_ring) [] [] f fd) (T : TxtB mg) (TF : TabF K C)
  {f__ring_behind : Addr} {d__ring_behind : FuncData} (G__ring_behind : FnOk P w K mg base CX0 3 f__ring_behind d__ring_behind ["ahead", "start"] (sp_behind4 C)) (g__ring_behind : mg "_ring_behind" = some (.ref f__ring_behind)) (k__ring_behind : PySem.W.keepIn K (.ref f__ring_behind) = true) (b__ring_behind : Binds K d__ring_behind ["ahead", "start"] []) : FnOk P w K mg base CX0 6 f fd ["bounds"] (sp_losing C) := by
  have cT := TF.cl
  refine F.ok sc_losing_ring (fun vs H Q E h => ?_) (fun cdv A outer s H vs Q X h0 h => ?_)
  · obtain ⟨P0, ⟨b, n, E, rfl, h1, h2, h3, h4, h5, rfl⟩, kk⟩ := h
    rfl
  · have hr := h0
    have hu := hu_of hr
    refine ⟨_, PSs.nox (pss_cons (ps_lock (ps_setDc2 (i := 1) (own := [("pair", 5), ("node", 6)]) (us := [6]) (wi := (iKeys (tVar 0))) (g := (gName 5)) (tt := tYes) (wj := (iTup K (tVar 5))) (gj := (gName 6)) (tu := tYes) (tk := (tVar 6)) (tv := (tC (.int 0))) rfl sc_losing_ring.nd rfl rfl (sw_dict rfl rfl rfl (by decide +kernel)) (pi_keys (pv 0)) (blkOk_by (N := ["bounds", "reached", "ahead", "changed", "found", "pair", "node", "x", "y"]) (sc := defScope sx_losing_ring) (by decide +kernel)) (by decide +kernel) (fun _ _ _ _ _ => (pg_name (i := 5) sc_losing_ring.nd rfl (by first | exact Or.inl rfl | exact Or.inr rfl))) (fun _ _ _ _ _ => pts_nil) (fun _ _ _ _ _ => (pi_tup (pv 5))) (fun _ _ _ _ _ => (pg_name (i := 6) sc_losing_ring.nd rfl (by first | exact Or.inl rfl | exact Or.inr rfl))) (fun _ _ _ _ _ => pts_nil) (fun _ _ _ _ _ => (pv 6)) (fun _ _ _ _ _ => pe_int)))
      (pss_cons (ps_set (i := 2) sc_losing_ring.nd rfl (by first | exact Or.inl rfl | exact Or.inr rfl) pe_dnewK)
      (pss_one (ps_while PassesOwn.never (pt_val pe_bl)
        (pss_cons (ps_set (i := 3) sc_losing_ring.nd rfl (by first | exact Or.inl rfl | exact Or.inr rfl) pe_non)
          (pss_cons (ps_lock (ps_for PassesOwn.never rfl (pi_keys (pv 0)) (pg_tup rfl (pgs_cons (pg_name (i := 7) sc_losing_ring.nd rfl (by first | exact Or.inl rfl | exact Or.inr rfl)) (pgs_cons (pg_name (i := 8) sc_losing_ring.nd rfl (by first | exact Or.inl rfl | exact Or.inr rfl)) pgs_nil)))
            (pss_one (ps_if (pt_cmpR op_lt (pe_op op_add (pe_dget hu (pv 1) (pv 7) (fun _ _ => rfl)) (pe_dget hu (pv 0) (pe_tup (pa_cons (pv 7) (pa_cons (pv 8) pa_nil))) (fun _ _ => rfl))) (pe_dget hu (pv 1) (pv 8) (fun _ _ => rfl)) (nomark _))
                (pss_cons (ps_dput hu (pv 1) (pv 8) (pe_op op_add (pe_dget hu (pv 1) (pv 7) (fun _ _ => rfl)) (pe_dget hu (pv 0) (pe_tup (pa_cons (pv 7) (pa_cons (pv 8) pa_nil))) (fun _ _ => rfl))) rfl)
                  (pss_cons (ps_dput hu (pv 2) (pv 8) (pv 7) rfl)
                  (pss_one (ps_set (i := 3) sc_losing_ring.nd rfl (by first | exact Or.inl rfl | exact Or.inr rfl) (pv 8)))))
                pss_nil))))
          (pss_cons (ps_if (pt_cmp (pc_isN (pv 3)))
            (pss_one (ps_ret pe_non))
            pss_nil)
          (pss_cons (ps_set (i := 4) sc_losing_ring.nd rfl (by first | exact Or.inl rfl | exact Or.inr rfl) (pe_call G__ring_behind (hr.mono (by decide)) rfl g__ring_behind k__ring_behind b__ring_behind .nil pass0 (pa_cons (pv 2) (pa_cons (pv 3) pa_nil))))
          (pss_one (ps_if (pt_cmp (pc_notN (pv 4)))
            (pss_one (ps_ret (pv 4)))
            pss_nil)))))))))), ?_⟩
    obtain ⟨P0, ⟨b, n, E, rfl, h1, h2, h3, h4, h5, rfl⟩, kk⟩ := h
    exact pure_losing (K := K) (C := C) h1 h2 h3 h4 h5 (fun hno H2 e => kk _ _ e (Or.inl ⟨hno, rfl⟩)) (fun r q H2 hr e hq => kk _ _ e (Or.inr ⟨r, q, hr, rfl, hq⟩))
abbrev sx_ring : Stmt := top 27
theorem sc_ring : FnScope ["table"] ["table"] (defScope sx_ring) := ⟨rfl, rfl, rfl, by decide +kernel, rfl, by decide +kernel, by decide +kernel⟩
theorem ok_ring {P : Program} {w : World} {K : PySem.W.Frag} {C : Addr} {mg : Str → Option Value} {base : Heap} {f : Addr} {fd : FuncData} (F : FunD K "ring" "ring" (defArgs sx_ring) (defBody sx_ring) (defScope sx_ring) [] [] f fd) (T : TxtB mg) (TF : TabF K C)
  {f_losing_ring : Addr} {d_losing_ring : FuncData} (G_losing_ring : FnOk P w K mg base CX0 6 f_losing_ring d_losing_ring ["bounds"] (sp_losing C)) (g_losing_ring : mg "losing_ring" = some (.ref f_losing_ring)) (k_losing_ring : PySem.W.keepIn K (.ref f_losing_ring) = true) (b_losing_ring : Binds K d_losing_ring ["bounds"] [])
  {f__need_table : Addr} {d__need_table : FuncData} (G__need_table : FnOk P w K mg base CX0 3 f__need_table d__need_table ["table", "part"] (sp__need_table C)) (g__need_table : mg "_need_table" = some (.ref f__need_table)) (k__need_table : PySem.W.keepIn K (.ref f__need_table) = true) (b__need_table : Binds K d__need_table ["table", "part"] [])
  {q_bounds f_bounds : Addr} {d_bounds : FuncData} (G_bounds : FnOk P w K mg base CX0 3 f_bounds d_bounds ["self"] (sp_Table_bounds C)) (b_bounds : Binds K d_bounds ["self"] []) (hp_bounds : PropOf K C "bounds" q_bounds f_bounds) : FnOk P w K mg base CX0 9 f fd ["table"] (sp_ring C) := by
  have cT := TF.cl
  refine F.ok sc_ring (fun vs H Q E h => ?_) (fun cdv A outer s H vs Q X h0 h => ?_)
  · obtain ⟨P0, ⟨t, n, E, rfl, T1, rfl⟩, kk⟩ := h
    rfl
  · have hr := h0
    have hu := hu_of hr
    refine ⟨_, PSs.nox (pss_cons (ps_expr (pe_call G__need_table (hr.mono (by decide)) rfl g__need_table k__need_table b__need_table .nil pass0 (pa_cons (pv 0) (pa_cons pe_non pa_nil))))
      (pss_one (ps_ret (pe_call G_losing_ring (hr.mono (by decide)) rfl g_losing_ring k_losing_ring b_losing_ring .nil pass0 (pa_cons (pe_prop (pv 0) cT hp_bounds G_bounds (hr.mono (by decide)) b_bounds .nil pass0 rfl) pa_nil))))), ?_⟩
    obtain ⟨P0, ⟨t, n, E, rfl, T1, rfl⟩, kk⟩ := h
    exact pure_ring4 (K := K) (C := C) T1 (fun v H2 e hv => kk _ _ e (ring_old (K := K) T1 hv))
abbrev sx__need_two : Stmt := top 21
theorem sc__need_two : FnScope ["one", "other"] ["one", "other"] (defScope sx__need_two) := ⟨rfl, rfl, rfl, by decide +kernel, rfl, by decide +kernel, by decide +kernel⟩
theorem ok__need_two {P : Program} {w : World} {K : PySem.W.Frag} {C : Addr} {mg : Str → Option Value} {base : Heap} {f : Addr} {fd : FuncData} (F : FunD K "_need_two" "_need_two" (defArgs sx__need_two) (defBody sx__need_two) (defScope sx__need_two) [] [] f fd) (T : TxtB mg) (TF : TabF K C)
  {f__need_table : Addr} {d__need_table : FuncData} (G__need_table : FnOk P w K mg base CX0 3 f__need_table d__need_table ["table", "part"] (sp__need_table C)) (g__need_table : mg "_need_table" = some (.ref f__need_table)) (k__need_table : PySem.W.keepIn K (.ref f__need_table) = true) (b__need_table : Binds K d__need_table ["table", "part"] [])
  {q_size f_size : Addr} {d_size : FuncData} (G_size : FnOk P w K mg base CX0 3 f_size d_size ["self"] (sp_Table_size C)) (b_size : Binds K d_size ["self"] []) (hp_size : PropOf K C "size" q_size f_size) : FnOk P w K mg base CX0 6 f fd ["one", "other"] (sp__need_two C) := by
  have cT := TF.cl
  refine F.ok sc__need_two (fun vs H Q E h => ?_) (fun cdv A outer s H vs Q X h0 h => ?_)
  · obtain ⟨P0, ⟨t, u, n, E, E2, rfl, T1, T2, rfl⟩, kk⟩ := h
    rfl
  · have hr := h0
    have hu := hu_of hr
    refine ⟨_, PSs.nox (pss_cons (ps_expr (pe_call G__need_table (hr.mono (by decide)) rfl g__need_table k__need_table b__need_table .nil pass0 (pa_cons (pv 0) (pa_cons pe_str pa_nil))))
      (pss_cons (ps_expr (pe_call G__need_table (hr.mono (by decide)) rfl g__need_table k__need_table b__need_table .nil pass0 (pa_cons (pv 1) (pa_cons pe_str pa_nil))))
      (pss_one (ps_if (pt_cmpR op_ne (pe_prop (pv 0) cT hp_size G_size (hr.mono (by decide)) b_size .nil pass0 rfl) (pe_prop (pv 1) cT hp_size G_size (hr.mono (by decide)) b_size .nil pass0 rfl) (nomark _))
        (pss_one ps_never)
        pss_nil)))), ?_⟩
    obtain ⟨P0, ⟨t, u, n, E, E2, rfl, T1, T2, rfl⟩, kk⟩ := h
    exact pure_need_two (K := K) (C := C) T1 T2 (fun H1 e => kk _ _ e rfl)
abbrev sx_is_within : Stmt := top 28
theorem sc_is_within : FnScope ["one", "other", "least", "limits", "a", "b"] ["one", "other"] (defScope sx_is_within) := ⟨rfl, rfl, rfl, by decide +kernel, rfl, by decide +kernel, by decide +kernel⟩
theorem ok_is_within {P : Program} {w : World} {K : PySem.W.Frag} {C : Addr} {mg : Str → Option Value} {base : Heap} {f : Addr} {fd : FuncData} (F : FunD K "is_within" "is_within" (defArgs sx_is_within) (defBody sx_is_within) (defScope sx_is_within) [] [] f fd) (T : TxtB mg) (TF : TabF K C)
  {f__need_two : Addr} {d__need_two : FuncData} (G__need_two : FnOk P w K mg base CX0 6 f__need_two d__need_two ["one", "other"] (sp__need_two C)) (g__need_two : mg "_need_two" = some (.ref f__need_two)) (k__need_two : PySem.W.keepIn K (.ref f__need_two) = true) (b__need_two : Binds K d__need_two ["one", "other"] [])
  {f__least_ways : Addr} {d__least_ways : FuncData} (G__least_ways : FnOk P w K mg base CX0 6 f__least_ways d__least_ways ["table"] (sp__least_ways C)) (g__least_ways : mg "_least_ways" = some (.ref f__least_ways)) (k__least_ways : PySem.W.keepIn K (.ref f__least_ways) = true) (b__least_ways : Binds K d__least_ways ["table"] [])
  {q_bounds f_bounds : Addr} {d_bounds : FuncData} (G_bounds : FnOk P w K mg base CX0 3 f_bounds d_bounds ["self"] (sp_Table_bounds C)) (b_bounds : Binds K d_bounds ["self"] []) (hp_bounds : PropOf K C "bounds" q_bounds f_bounds) : FnOk P w K mg base CX0 9 f fd ["one", "other"] (sp_is_within C) := by
  have cT := TF.cl
  refine F.ok sc_is_within (fun vs H Q E h => ?_) (fun cdv A outer s H vs Q X h0 h => ?_)
  · obtain ⟨P0, ⟨t, u, n, E, E2, rfl, T1, T2, rfl⟩, kk⟩ := h
    rfl
  · have hr := h0
    have hu := hu_of hr
    refine ⟨_, PSs.nox (pss_cons (ps_expr (pe_call G__need_two (hr.mono (by decide)) rfl g__need_two k__need_two b__need_two .nil pass0 (pa_cons (pv 0) (pa_cons (pv 1) pa_nil))))
      (pss_cons (ps_set (i := 2) sc_is_within.nd rfl (by first | exact Or.inl rfl | exact Or.inr rfl) (pe_call G__least_ways (hr.mono (by decide)) rfl g__least_ways k__least_ways b__least_ways .nil pass0 (pa_cons (pv 0) pa_nil)))
      (pss_cons (ps_if (pt_cmp (pc_isN (pv 2)))
        (pss_one (ps_ret pe_bl))
        pss_nil)
      (pss_cons (ps_set (i := 3) sc_is_within.nd rfl (by first | exact Or.inl rfl | exact Or.inr rfl) (pe_prop (pv 1) cT hp_bounds G_bounds (hr.mono (by decide)) b_bounds .nil pass0 rfl))
      (pss_one (ps_ret (pe_lock (pe_callB (cr_all rfl) (by rfl) T.n_all (by decide +kernel) (pa_cons (pe_lc (own := [("a", 4), ("b", 5)]) (g := (gTup K 2 (gCons (gName 4) (gCons (gName 5) gNil)))) (wi := (iKeys (tVar 3))) (tt := tYes) (te := (tAndV (tNotN (tOp (rIxL K) (tOp (rIxL K) (tVar 2) (tVar 4)) (tVar 5))) (tOp rLeI (tOp (rIxL K) (tOp (rIxL K) (tVar 2) (tVar 4)) (tVar 5)) (tDGet (tVar 3) (tTup (tCons (tVar 4) (tCons (tVar 5) tNil))))))) rfl sc_is_within.nd (pi_keys (pv 3)) (blkOk_by (N := ["one", "other", "least", "limits", "a", "b"]) (sc := defScope sx_is_within) (by decide +kernel)) (fun _ _ _ _ _ => (pg_tup rfl (pgs_cons (pg_name (i := 4) sc_is_within.nd rfl (by first | exact Or.inl rfl | exact Or.inr rfl)) (pgs_cons (pg_name (i := 5) sc_is_within.nd rfl (by first | exact Or.inl rfl | exact Or.inr rfl)) pgs_nil)))) (fun _ _ _ _ _ => pts_nil) (fun _ _ _ _ _ => (pe_and (pe_cmp (pc_notN (pe_ix ix_list (pe_ix ix_list (pv 2) (pv 4) (fun _ _ => rfl)) (pv 5) (fun _ _ => rfl))) rfl) (pe_one (pe_cmpR op_le (pe_ix ix_list (pe_ix ix_list (pv 2) (pv 4) (fun _ _ => rfl)) (pv 5) (fun _ _ => rfl)) (pe_dget hu (pv 3) (pe_tup (pa_cons (pv 4) (pa_cons (pv 5) pa_nil))) (fun _ _ => rfl)) (nomark _)))))) pa_nil))))))))), ?_⟩
    obtain ⟨P0, ⟨t, u, n, E, E2, rfl, T1, T2, rfl⟩, kk⟩ := h
    exact pure_is_within (K := K) (C := C) T1 T2 (fun H1 e => kk _ _ e rfl)
abbrev sx_is_same : Stmt := top 29
theorem sc_is_same : FnScope ["one", "other"] ["one", "other"] (defScope sx_is_same) := ⟨rfl, rfl, rfl, by decide +kernel, rfl, by decide +kernel, by decide +kernel⟩
theorem ok_is_same {P : Program} {w : World} {K : PySem.W.Frag} {C : Addr} {mg : Str → Option Value} {base : Heap} {f : Addr} {fd : FuncData} (F : FunD K "is_same" "is_same" (defArgs sx_is_same) (defBody sx_is_same) (defScope sx_is_same) [] [] f fd) (T : TxtB mg) (TF : TabF K C)
  {f_is_within : Addr} {d_is_within : FuncData} (G_is_within : FnOk P w K mg base CX0 9 f_is_within d_is_within ["one", "other"] (sp_is_within C)) (g_is_within : mg "is_within" = some (.ref f_is_within)) (k_is_within : PySem.W.keepIn K (.ref f_is_within) = true) (b_is_within : Binds K d_is_within ["one", "other"] []) : FnOk P w K mg base CX0 12 f fd ["one", "other"] (sp_is_same C) := by
  have cT := TF.cl
  refine F.ok sc_is_same (fun vs H Q E h => ?_) (fun cdv A outer s H vs Q X h0 h => ?_)
  · obtain ⟨P0, ⟨t, u, n, E, E2, rfl, T1, T2, rfl⟩, kk⟩ := h
    rfl
  · have hr := h0
    have hu := hu_of hr
    refine ⟨_, PSs.nox (pss_one (ps_ret (pe_and (pe_call G_is_within (hr.mono (by decide)) rfl g_is_within k_is_within b_is_within .nil pass0 (pa_cons (pv 0) (pa_cons (pv 1) pa_nil))) (pe_one (pe_call G_is_within (hr.mono (by decide)) rfl g_is_within k_is_within b_is_within .nil pass0 (pa_cons (pv 1) (pa_cons (pv 0) pa_nil))))))), ?_⟩
    obtain ⟨P0, ⟨t, u, n, E, E2, rfl, T1, T2, rfl⟩, kk⟩ := h
    exact pure_is_same (K := K) (C := C) T1 T2 (fun H1 e => kk _ _ e rfl)
abbrev sx_both : Stmt := top 30
theorem sc_both : FnScope ["one", "other", "bounds", "further", "pair"] ["one", "other"] (defScope sx_both) := ⟨rfl, rfl, rfl, by decide +kernel, rfl, by decide +kernel, by decide +kernel⟩
theorem ok_both {P : Program} {w : World} {K : PySem.W.Frag} {C : Addr} {mg : Str → Option Value} {base : Heap} {f : Addr} {fd : FuncData} (F : FunD K "both" "both" (defArgs sx_both) (defBody sx_both) (defScope sx_both) [] [] f fd) (T : TxtB mg) (TF : TabF K C) (gTable : mg "Table" = some (.ref C))
  {f__need_two : Addr} {d__need_two : FuncData} (G__need_two : FnOk P w K mg base CX0 6 f__need_two d__need_two ["one", "other"] (sp__need_two C)) (g__need_two : mg "_need_two" = some (.ref f__need_two)) (k__need_two : PySem.W.keepIn K (.ref f__need_two) = true) (b__need_two : Binds K d__need_two ["one", "other"] [])
  {q_size f_size : Addr} {d_size : FuncData} (G_size : FnOk P w K mg base CX0 3 f_size d_size ["self"] (sp_Table_size C)) (b_size : Binds K d_size ["self"] []) (hp_size : PropOf K C "size" q_size f_size)
  {q_bounds f_bounds : Addr} {d_bounds : FuncData} (G_bounds : FnOk P w K mg base CX0 3 f_bounds d_bounds ["self"] (sp_Table_bounds C)) (b_bounds : Binds K d_bounds ["self"] []) (hp_bounds : PropOf K C "bounds" q_bounds f_bounds)
  {f_init : Addr} {d_init : FuncData} (G_init : FnOk P w K mg base CX0 12 f_init d_init ["self", "size", "bounds"] (sp_Table___init__ C)) (b_init : Binds K d_init ["self", "size", "bounds"] []) (mk : Mk K C f_init) : FnOk P w K mg base CX0 15 f fd ["one", "other"] (sp_both C) := by
  have cT := TF.cl
  refine F.ok sc_both (fun vs H Q E h => ?_) (fun cdv A outer s H vs Q X h0 h => ?_)
  · obtain ⟨P0, ⟨t, u, n, E, E2, rfl, T1, T2, rfl⟩, kk⟩ := h
    rfl
  · have hr := h0
    have hu := hu_of hr
    refine ⟨_, PSs.nox (pss_cons (ps_expr (pe_call G__need_two (hr.mono (by decide)) rfl g__need_two k__need_two b__need_two .nil pass0 (pa_cons (pv 0) (pa_cons (pv 1) pa_nil))))
      (pss_cons (ps_set (i := 2) sc_both.nd rfl (by first | exact Or.inl rfl | exact Or.inr rfl) (pe_prop (pv 0) cT hp_bounds G_bounds (hr.mono (by decide)) b_bounds .nil pass0 rfl))
      (pss_cons (ps_set (i := 3) sc_both.nd rfl (by first | exact Or.inl rfl | exact Or.inr rfl) (pe_prop (pv 1) cT hp_bounds G_bounds (hr.mono (by decide)) b_bounds .nil pass0 rfl))
      (pss_cons (ps_lock (ps_for PassesOwn.never rfl (pi_keys (pv 3)) (pg_name (i := 4) sc_both.nd rfl (by first | exact Or.inl rfl | exact Or.inr rfl))
        (pss_one (ps_if (PW.pt (pw_or (pt_cmp (pc_dnotin hu (pv 4) (pv 2))) (pw_or1 (pt_cmpR op_lt (pe_dget hu (pv 3) (pv 4) (fun _ _ => rfl)) (pe_dget hu (pv 2) (pv 4) (fun _ _ => rfl)) (nomark _)))))
            (pss_one (ps_dput hu (pv 2) (pv 4) (pe_dget hu (pv 3) (pv 4) (fun _ _ => rfl)) rfl))
            pss_nil))))
      (pss_one (ps_ret (pe_make mk G_init (hr.mono (by decide)) rfl gTable b_init .nil pass0 (pa_cons (pe_prop (pv 0) cT hp_size G_size (hr.mono (by decide)) b_size .nil pass0 rfl) (pa_cons (pv 2) pa_nil))))))))), ?_⟩
    obtain ⟨P0, ⟨t, u, n, E, E2, rfl, T1, T2, rfl⟩, kk⟩ := h
    exact pure_both (K := K) (C := C) T1 T2 (fun w H2 E' e T3 hs => kk _ _ e ⟨w, E', rfl, T3, hs⟩)
abbrev sx_water_of : Stmt := top 17
theorem sc_water_of : FnScope ["points", "above", "below"] ["points"] (defScope sx_water_of) := ⟨rfl, rfl, rfl, by decide +kernel, rfl, by decide +kernel, by decide +kernel⟩
theorem ok_water_of {P : Program} {w : World} {K : PySem.W.Frag} {C : Addr} {mg : Str → Option Value} {base : Heap} {f : Addr} {fd : FuncData} (F : FunD K "water_of" "water_of" (defArgs sx_water_of) (defBody sx_water_of) (defScope sx_water_of) [] [] f fd) (T : TxtB mg) (TF : TabF K C) : FnOk P w K mg base CX0 3 f fd ["points"] (sp__water_of C) := by
  have cT := TF.cl
  refine F.ok sc_water_of (fun vs H Q E h => ?_) (fun cdv A outer s H vs Q X h0 h => ?_)
  · obtain ⟨P0, ⟨a, xs, rfl, h1, h2, rfl⟩, kk⟩ := h
    rfl
  · have hr := h0
    have hu := hu_of hr
    refine ⟨_, PSs.nox (pss_one (ps_ret (pe_callTy call_tuple_of (by rfl) T.n_tuple (by decide +kernel) (pa_cons (pe_lc (own := [("above", 1), ("below", 2)]) (g := (gTup K 2 (gCons (gName 1) (gCons (gName 2) gNil)))) (wi := (iZip K (tCons (tVar 0) (tCons (tSl (rSlL K) (tVar 0) (tPart (tC (.int 1))) tNoPart) tNil)))) (tt := tYes) (te := (tOp rSubI (tVar 2) (tVar 1))) rfl sc_water_of.nd (pi_zip (by rfl) T.n_zip (pa_cons (pv 0) (pa_cons (pe_slice sl_list (pv 0) (po_some pe_int) po_none) pa_nil))) (blkOk_by (N := ["points", "above", "below"]) (sc := defScope sx_water_of) (by decide +kernel)) (fun _ _ _ _ _ => (pg_tup rfl (pgs_cons (pg_name (i := 1) sc_water_of.nd rfl (by first | exact Or.inl rfl | exact Or.inr rfl)) (pgs_cons (pg_name (i := 2) sc_water_of.nd rfl (by first | exact Or.inl rfl | exact Or.inr rfl)) pgs_nil)))) (fun _ _ _ _ _ => pts_nil) (fun _ _ _ _ _ => (pe_op op_sub (pv 2) (pv 1)))) pa_nil)))), ?_⟩
    obtain ⟨P0, ⟨a, xs, rfl, h1, h2, rfl⟩, kk⟩ := h
    exact pure_water_of (K := K) (C := C) h1 h2 (fun p H1 e hp => kk _ _ e ⟨p, rfl, hp⟩)
abbrev sx_highest : Stmt := top 31
theorem sc_highest : FnScope ["table", "least", "greatest", "row"] ["table"] (defScope sx_highest) := ⟨rfl, rfl, rfl, by decide +kernel, rfl, by decide +kernel, by decide +kernel⟩
theorem ok_highest {P : Program} {w : World} {K : PySem.W.Frag} {C : Addr} {mg : Str → Option Value} {base : Heap} {f : Addr} {fd : FuncData} (F : FunD K "highest" "highest" (defArgs sx_highest) (defBody sx_highest) (defScope sx_highest) [] [] f fd) (T : TxtB mg) (TF : TabF K C)
  {f_water_of : Addr} {d_water_of : FuncData} (G_water_of : FnOk P w K mg base CX0 3 f_water_of d_water_of ["points"] (sp__water_of C)) (g_water_of : mg "water_of" = some (.ref f_water_of)) (k_water_of : PySem.W.keepIn K (.ref f_water_of) = true) (b_water_of : Binds K d_water_of ["points"] [])
  {f__need_table : Addr} {d__need_table : FuncData} (G__need_table : FnOk P w K mg base CX0 3 f__need_table d__need_table ["table", "part"] (sp__need_table C)) (g__need_table : mg "_need_table" = some (.ref f__need_table)) (k__need_table : PySem.W.keepIn K (.ref f__need_table) = true) (b__need_table : Binds K d__need_table ["table", "part"] [])
  {f__least_ways : Addr} {d__least_ways : FuncData} (G__least_ways : FnOk P w K mg base CX0 6 f__least_ways d__least_ways ["table"] (sp__least_ways C)) (g__least_ways : mg "_least_ways" = some (.ref f__least_ways)) (k__least_ways : PySem.W.keepIn K (.ref f__least_ways) = true) (b__least_ways : Binds K d__least_ways ["table"] []) : FnOk P w K mg base CX0 9 f fd ["table"] (sp_highest C) := by
  have cT := TF.cl
  refine F.ok sc_highest (fun vs H Q E h => ?_) (fun cdv A outer s H vs Q X h0 h => ?_)
  · obtain ⟨P0, ⟨t, n, E, rfl, T1, rfl⟩, kk⟩ := h
    rfl
  · have hr := h0
    have hu := hu_of hr
    refine ⟨_, PSs.nox (pss_cons (ps_expr (pe_call G__need_table (hr.mono (by decide)) rfl g__need_table k__need_table b__need_table .nil pass0 (pa_cons (pv 0) (pa_cons pe_non pa_nil))))
      (pss_cons (ps_set (i := 1) sc_highest.nd rfl (by first | exact Or.inl rfl | exact Or.inr rfl) (pe_call G__least_ways (hr.mono (by decide)) rfl g__least_ways k__least_ways b__least_ways .nil pass0 (pa_cons (pv 0) pa_nil)))
      (pss_cons (ps_if (pt_cmp (pc_isN (pv 1)))
        (pss_one (ps_ret pe_non))
        pss_nil)
      (pss_cons (ps_setLc (i := 2) (own := [("row", 3)]) (g := (gName 3)) (wi := (iList K (tVar 1))) (tt := tYes) (te := (tOp (rIxL K) (tVar 3) (tC (.int 0)))) rfl sc_highest.nd rfl rfl (sw_true rfl rfl rfl (by decide +kernel)) (pi_list (pv 1)) (blkOk_by (N := ["table", "least", "greatest", "row"]) (sc := defScope sx_highest) (by decide +kernel)) (fun _ _ _ _ _ => (pg_name (i := 3) sc_highest.nd rfl (by first | exact Or.inl rfl | exact Or.inr rfl))) (fun _ _ _ _ _ => pts_nil) (fun _ _ _ _ _ => (pe_ix ix_list (pv 3) pe_int (fun _ _ => rfl))))
      (pss_cons (ps_if (pt_cmpR op_in_seq pe_non (pv 2) (by with_unfolding_all rfl))
        (pss_one (ps_ret pe_non))
        pss_nil)
      (pss_one (ps_ret (pe_call G_water_of (hr.mono (by decide)) rfl g_water_of k_water_of b_water_of .nil pass0 (pa_cons (pv 2) pa_nil))))))))), ?_⟩
    obtain ⟨P0, ⟨t, n, E, rfl, T1, rfl⟩, kk⟩ := h
    exact pure_highest (K := K) (C := C) T1 (fun v H2 e hv => kk _ _ e hv)
abbrev sx_lowest : Stmt := top 32
theorem sc_lowest : FnScope ["table", "least", "number"] ["table"] (defScope sx_lowest) := ⟨rfl, rfl, rfl, by decide +kernel, rfl, by decide +kernel, by decide +kernel⟩
theorem ok_lowest {P : Program} {w : World} {K : PySem.W.Frag} {C : Addr} {mg : Str → Option Value} {base : Heap} {f : Addr} {fd : FuncData} (F : FunD K "lowest" "lowest" (defArgs sx_lowest) (defBody sx_lowest) (defScope sx_lowest) [] [] f fd) (T : TxtB mg) (TF : TabF K C)
  {f_water_of : Addr} {d_water_of : FuncData} (G_water_of : FnOk P w K mg base CX0 3 f_water_of d_water_of ["points"] (sp__water_of C)) (g_water_of : mg "water_of" = some (.ref f_water_of)) (k_water_of : PySem.W.keepIn K (.ref f_water_of) = true) (b_water_of : Binds K d_water_of ["points"] [])
  {f__need_table : Addr} {d__need_table : FuncData} (G__need_table : FnOk P w K mg base CX0 3 f__need_table d__need_table ["table", "part"] (sp__need_table C)) (g__need_table : mg "_need_table" = some (.ref f__need_table)) (k__need_table : PySem.W.keepIn K (.ref f__need_table) = true) (b__need_table : Binds K d__need_table ["table", "part"] [])
  {f__least_ways : Addr} {d__least_ways : FuncData} (G__least_ways : FnOk P w K mg base CX0 6 f__least_ways d__least_ways ["table"] (sp__least_ways C)) (g__least_ways : mg "_least_ways" = some (.ref f__least_ways)) (k__least_ways : PySem.W.keepIn K (.ref f__least_ways) = true) (b__least_ways : Binds K d__least_ways ["table"] []) : FnOk P w K mg base CX0 9 f fd ["table"] (sp_lowest C) := by
  have cT := TF.cl
  refine F.ok sc_lowest (fun vs H Q E h => ?_) (fun cdv A outer s H vs Q X h0 h => ?_)
  · obtain ⟨P0, ⟨t, n, E, rfl, T1, rfl⟩, kk⟩ := h
    rfl
  · have hr := h0
    have hu := hu_of hr
    refine ⟨_, PSs.nox (pss_cons (ps_expr (pe_call G__need_table (hr.mono (by decide)) rfl g__need_table k__need_table b__need_table .nil pass0 (pa_cons (pv 0) (pa_cons pe_non pa_nil))))
      (pss_cons (ps_set (i := 1) sc_lowest.nd rfl (by first | exact Or.inl rfl | exact Or.inr rfl) (pe_call G__least_ways (hr.mono (by decide)) rfl g__least_ways k__least_ways b__least_ways .nil pass0 (pa_cons (pv 0) pa_nil)))
      (pss_cons (ps_if (PW.pt (pw_or (pt_cmp (pc_isN (pv 1))) (pw_or1 (pt_cmpR op_in_seq pe_non (pe_ix ix_list (pv 1) pe_int (fun _ _ => rfl)) (by with_unfolding_all rfl)))))
        (pss_one (ps_ret pe_non))
        pss_nil)
      (pss_one (ps_ret (pe_call G_water_of (hr.mono (by decide)) rfl g_water_of k_water_of b_water_of .nil pass0 (pa_cons (pe_lc (own := [("number", 2)]) (g := (gName 2)) (wi := (iList K (tOp (rIxL K) (tVar 1) (tC (.int 0))))) (tt := tYes) (te := (tUn rNegI (tVar 2))) rfl sc_lowest.nd (pi_list (pe_ix ix_list (pv 1) pe_int (fun _ _ => rfl))) (blkOk_by (N := ["table", "least", "number"]) (sc := defScope sx_lowest) (by decide +kernel)) (fun _ _ _ _ _ => (pg_name (i := 2) sc_lowest.nd rfl (by first | exact Or.inl rfl | exact Or.inr rfl))) (fun _ _ _ _ _ => pts_nil) (fun _ _ _ _ _ => (pe_un un_neg (pv 2)))) pa_nil))))))), ?_⟩
    obtain ⟨P0, ⟨t, n, E, rfl, T1, rfl⟩, kk⟩ := h
    exact pure_lowest (K := K) (C := C) T1 (fun v H2 e hv => kk _ _ e hv)
abbrev sx__can_hide : Stmt := top 34
theorem sc__can_hide : FnScope ["points", "size", "point", "above", "below"] ["points", "size"] (defScope sx__can_hide) := ⟨rfl, rfl, rfl, by decide +kernel, rfl, by decide +kernel, by decide +kernel⟩
theorem ok__can_hide {P : Program} {w : World} {K : PySem.W.Frag} {C : Addr} {mg : Str → Option Value} {base : Heap} {f : Addr} {fd : FuncData} (F : FunD K "_can_hide" "_can_hide" (defArgs sx__can_hide) (defBody sx__can_hide) (defScope sx__can_hide) [] [] f fd) (T : TxtB mg) (TF : TabF K C)
  {f_is_number_between : Addr} {d_is_number_between : FuncData} (G_is_number_between : FnOk P w K mg base CX0 6 f_is_number_between d_is_number_between ["thing", "least", "most"] (sp_is_number_between C)) (g_is_number_between : mg "is_number_between" = some (.ref f_is_number_between)) (k_is_number_between : PySem.W.keepIn K (.ref f_is_number_between) = true) (b_is_number_between : Binds K d_is_number_between ["thing", "least", "most"] []) : FnOk P w K mg base CX0 9 f fd ["points", "size"] (sp__can_hide C) := by
  have cT := TF.cl
  refine F.ok sc__can_hide (fun vs H Q E h => ?_) (fun cdv A outer s H vs Q X h0 h => ?_)
  · obtain ⟨P0, ⟨p, x, n, rfl, h1, h2, h3, h4, rfl⟩, kk⟩ := h
    rfl
  · have hr := h0
    have hu := hu_of hr
    refine ⟨_, PSs.nox (pss_cons (ps_if (PW.pt (pw_or (pt_not (pt_val (pe_callB call_isi (by rfl) T.n_isinstance (by decide +kernel) (pa_cons (pv 0) (pa_cons (pe_bltn (by rfl) T.n_tuple (by decide +kernel) (show RelV (.ty "tuple") _ from rfl)) pa_nil))))) (pw_or1 (pt_cmpR op_ge (pe_callB call_len (by rfl) T.n_len (by decide +kernel) (pa_cons (pv 0) pa_nil)) (pv 1) (nomark _)))))
        (pss_one (ps_ret pe_bl))
        pss_nil)
      (pss_cons (ps_if (pt_not (pt_val (pe_callB (cr_all rfl) (by rfl) T.n_all (by decide +kernel) (pa_cons (pe_lc (own := [("point", 2)]) (g := (gName 2)) (wi := (iTup K (tVar 0))) (tt := tYes) (te := (tCall (sp_is_number_between C) [] E0 (tCons (tVar 2) (tCons (tC (.int 1)) (tCons (tVar 1) tNil))))) rfl sc__can_hide.nd (pi_tup (pv 0)) (blkOk_by (N := ["points", "size", "point", "above", "below"]) (sc := defScope sx__can_hide) (by decide +kernel)) (fun _ _ _ _ _ => (pg_name (i := 2) sc__can_hide.nd rfl (by first | exact Or.inl rfl | exact Or.inr rfl))) (fun _ _ _ _ _ => pts_nil) (fun _ _ _ _ _ => (pe_call G_is_number_between (hr.mono (by decide)) rfl g_is_number_between k_is_number_between b_is_number_between .nil pass0 (pa_cons (pv 2) (pa_cons pe_int (pa_cons (pv 1) pa_nil)))))) pa_nil))))
        (pss_one (ps_ret pe_bl))
        pss_nil)
      (pss_one (ps_ret (pe_callB (cr_all rfl) (by rfl) T.n_all (by decide +kernel) (pa_cons (pe_lc (own := [("above", 3), ("below", 4)]) (g := (gTup K 2 (gCons (gName 3) (gCons (gName 4) gNil)))) (wi := (RZ.iZipA K (tCons (tVar 0) (tCons (tSl (rSlT K) (tVar 0) (tPart (tC (.int 1))) tNoPart) tNil)))) (tt := tYes) (te := (tOp rLtI (tVar 3) (tVar 4))) rfl sc__can_hide.nd (RZ.pi_zipA (by rfl) T.n_zip (pa_cons (pv 0) (pa_cons (pe_slice sl_tup (pv 0) (po_some pe_int) po_none) pa_nil))) (blkOk_by (N := ["points", "size", "point", "above", "below"]) (sc := defScope sx__can_hide) (by decide +kernel)) (fun _ _ _ _ _ => (pg_tup rfl (pgs_cons (pg_name (i := 3) sc__can_hide.nd rfl (by first | exact Or.inl rfl | exact Or.inr rfl)) (pgs_cons (pg_name (i := 4) sc__can_hide.nd rfl (by first | exact Or.inl rfl | exact Or.inr rfl)) pgs_nil)))) (fun _ _ _ _ _ => pts_nil) (fun _ _ _ _ _ => (pe_cmpR op_lt (pv 3) (pv 4) (nomark _)))) pa_nil)))))), ?_⟩
    obtain ⟨P0, ⟨p, x, n, rfl, h1, h2, h3, h4, rfl⟩, kk⟩ := h
    exact pure_can_hide (K := K) (C := C) h1 h2 h3 h4 (fun H1 e => kk _ _ e rfl)
abbrev sx_hidden : Stmt := top 33
theorem sc_hidden : FnScope ["table", "points", "left", "least", "point", "a", "b"] ["table", "points"] (defScope sx_hidden) := ⟨rfl, rfl, rfl, by decide +kernel, rfl, by decide +kernel, by decide +kernel⟩
theorem ok_hidden {P : Program} {w : World} {K : PySem.W.Frag} {C : Addr} {mg : Str → Option Value} {base : Heap} {f : Addr} {fd : FuncData} (F : FunD K "hidden" "hidden" (defArgs sx_hidden) (defBody sx_hidden) (defScope sx_hidden) [] [] f fd) (T : TxtB mg) (TF : TabF K C)
  {f__need_table : Addr} {d__need_table : FuncData} (G__need_table : FnOk P w K mg base CX0 3 f__need_table d__need_table ["table", "part"] (sp__need_table C)) (g__need_table : mg "_need_table" = some (.ref f__need_table)) (k__need_table : PySem.W.keepIn K (.ref f__need_table) = true) (b__need_table : Binds K d__need_table ["table", "part"] [])
  {f_nothing : Addr} {d_nothing : FuncData} (G_nothing : FnOk P w K mg base CX0 15 f_nothing d_nothing ["size"] (sp_nothing C)) (g_nothing : mg "nothing" = some (.ref f_nothing)) (k_nothing : PySem.W.keepIn K (.ref f_nothing) = true) (b_nothing : Binds K d_nothing ["size"] [])
  {f__least_ways : Addr} {d__least_ways : FuncData} (G__least_ways : FnOk P w K mg base CX0 6 f__least_ways d__least_ways ["table"] (sp__least_ways C)) (g__least_ways : mg "_least_ways" = some (.ref f__least_ways)) (k__least_ways : PySem.W.keepIn K (.ref f__least_ways) = true) (b__least_ways : Binds K d__least_ways ["table"] [])
  {f__table_of : Addr} {d__table_of : FuncData} (G__table_of : FnOk P w K mg base CX0 15 f__table_of d__table_of ["least"] (sp__table_of C)) (g__table_of : mg "_table_of" = some (.ref f__table_of)) (k__table_of : PySem.W.keepIn K (.ref f__table_of) = true) (b__table_of : Binds K d__table_of ["least"] [])
  {f__can_hide : Addr} {d__can_hide : FuncData} (G__can_hide : FnOk P w K mg base CX0 9 f__can_hide d__can_hide ["points", "size"] (sp__can_hide C)) (g__can_hide : mg "_can_hide" = some (.ref f__can_hide)) (k__can_hide : PySem.W.keepIn K (.ref f__can_hide) = true) (b__can_hide : Binds K d__can_hide ["points", "size"] [])
  {q_size f_size : Addr} {d_size : FuncData} (G_size : FnOk P w K mg base CX0 3 f_size d_size ["self"] (sp_Table_size C)) (b_size : Binds K d_size ["self"] []) (hp_size : PropOf K C "size" q_size f_size) : FnOk P w K mg base CX0 18 f fd ["table", "points"] (sp_hidden C) := by
  have cT := TF.cl
  refine F.ok sc_hidden (fun vs H Q E h => ?_) (fun cdv A outer s H vs Q X h0 h => ?_)
  · obtain ⟨P0, ⟨t, p, x, n, E, rfl, T1, h1, h2, h3, h4, rfl⟩, kk⟩ := h
    rfl
  · have hr := h0
    have hu := hu_of hr
    refine ⟨_, PSs.nox (pss_cons (ps_expr (pe_call G__need_table (hr.mono (by decide)) rfl g__need_table k__need_table b__need_table .nil pass0 (pa_cons (pv 0) (pa_cons pe_non pa_nil))))
      (pss_cons (ps_if (pt_not (pt_val (pe_call G__can_hide (hr.mono (by decide)) rfl g__can_hide k__can_hide b__can_hide .nil pass0 (pa_cons (pv 1) (pa_cons (pe_prop (pv 0) cT hp_size G_size (hr.mono (by decide)) b_size .nil pass0 rfl) pa_nil)))))
        (pss_one ps_never)
        pss_nil)
      (pss_cons (ps_set (i := 2) sc_hidden.nd rfl (by first | exact Or.inl rfl | exact Or.inr rfl) (pe_lc (own := [("point", 4)]) (g := (gName 4)) (wi := (iRng1 (tCons (tOp rAddI (tProp C (sp_Table_size C) [] E0 (tVar 0)) (tC (.int 1))) tNil))) (tt := (tTest (tOp (rIn K true) (tVar 4) (tVar 1)))) (te := (tVar 4)) rfl sc_hidden.nd (pi_range1 rfl T.n_range (pa_cons (pe_op op_add (pe_prop (pv 0) cT hp_size G_size (hr.mono (by decide)) b_size .nil pass0 rfl) pe_int) pa_nil)) (blkOk_by (N := ["table", "points", "left", "least", "point", "a", "b"]) (sc := defScope sx_hidden) (by decide +kernel)) (fun _ _ _ _ _ => (pg_name (i := 4) sc_hidden.nd rfl (by first | exact Or.inl rfl | exact Or.inr rfl))) (fun _ _ _ _ _ => (pts_one (pt_cmpR op_notIn_seq (pv 4) (pv 1) (by with_unfolding_all rfl)))) (fun _ _ _ _ _ => (pv 4))))
      (pss_cons (ps_set (i := 3) sc_hidden.nd rfl (by first | exact Or.inl rfl | exact Or.inr rfl) (pe_call G__least_ways (hr.mono (by decide)) rfl g__least_ways k__least_ways b__least_ways .nil pass0 (pa_cons (pv 0) pa_nil)))
      (pss_cons (ps_if (pt_cmp (pc_isN (pv 3)))
        (pss_one (ps_ret (pe_call G_nothing (hr.mono (by decide)) rfl g_nothing k_nothing b_nothing .nil pass0 (pa_cons (pe_op op_sub (pe_callB call_len (by rfl) T.n_len (by decide +kernel) (pa_cons (pv 2) pa_nil)) pe_int) pa_nil))))
        pss_nil)
      (pss_one (ps_ret (pe_call G__table_of (hr.mono (by decide)) rfl g__table_of k__table_of b__table_of .nil pass0 (pa_cons (pe_lc (own := [("a", 5)]) (g := (gName 5)) (wi := (iList K (tVar 2))) (tt := tYes) (te := (tLc (iList K (tVar 2)) (gName 6) tYes (tOp (rIxL K) (tOp (rIxL K) (tVar 3) (tVar 5)) (tVar 6)) [6])) rfl sc_hidden.nd (pi_list (pv 2)) (blkOk_by (N := ["table", "points", "left", "least", "point", "a", "b"]) (sc := defScope sx_hidden) (by decide +kernel)) (fun _ _ _ _ _ => (pg_name (i := 5) sc_hidden.nd rfl (by first | exact Or.inl rfl | exact Or.inr rfl))) (fun _ _ _ _ _ => pts_nil) (fun _ _ _ _ _ => (pe_lc (own := [("b", 6)]) (g := (gName 6)) (wi := (iList K (tVar 2))) (tt := tYes) (te := (tOp (rIxL K) (tOp (rIxL K) (tVar 3) (tVar 5)) (tVar 6))) rfl sc_hidden.nd (pi_list (pv 2)) (blkOk_by (N := ["table", "points", "left", "least", "point", "a", "b"]) (sc := { kind := .function, names := [(".0", .local), ("a", .cell), ("least", .cell), ("left", .cell)], isGenerator := false, isCoroutine := false }) (by decide +kernel)) (fun _ _ _ _ _ => (pg_name (i := 6) sc_hidden.nd rfl (by first | exact Or.inl rfl | exact Or.inr rfl))) (fun _ _ _ _ _ => pts_nil) (fun _ _ _ _ _ => (pe_ix ix_list (pe_ix ix_list (pv 3) (pv 5) (fun _ _ => rfl)) (pv 6) (fun _ _ => rfl)))))) pa_nil))))))))), ?_⟩
    obtain ⟨P0, ⟨t, p, x, n, E, rfl, T1, h1, h2, h3, h4, rfl⟩, kk⟩ := h
    exact pure_hidden (K := K) (C := C) T1 h1 h2 h3 h4 (fun u H2 E' e T2 hs => kk _ _ e ⟨u, E', rfl, T2, hs⟩)
abbrev sx__law_begun : Stmt := top 36
theorem sc__law_begun : FnScope ["_law_script", "_law_cells", "_law_cell"] ["_law_script"] (defScope sx__law_begun) := ⟨rfl, rfl, rfl, by decide +kernel, rfl, by decide +kernel, by decide +kernel⟩
theorem ok__law_begun {P : Program} {w : World} {K : PySem.W.Frag} {C : Addr} {mg : Str → Option Value} {base : Heap} {f : Addr} {fd : FuncData} (F : FunD K "_law_begun" "_law_begun" (defArgs sx__law_begun) (defBody sx__law_begun) (defScope sx__law_begun) [] [] f fd) (T : TxtB mg) (TF : TabF K C) : FnOk P w K mg base CX0 3 f fd ["_law_script"] (spBegun K) := by
  have cT := TF.cl
  refine F.ok sc__law_begun (fun vs H Q E h => ?_) (fun cdv A outer s H vs Q X h0 h => ?_)
  · obtain ⟨a, ns, rfl, rest⟩ := h
    rfl
  · have hr := h0
    have hu := hu_of hr
    refine ⟨_, PSs.nox (pss_cons (ps_setLc (i := 1) (own := [("_law_cell", 2)]) (g := (gName 2)) (wi := (iList K (tVar 0))) (tt := tYes) (te := (tCB cAbs (tCons (tVar 2) tNil))) rfl sc__law_begun.nd rfl rfl (sw_true rfl rfl rfl (by decide +kernel)) (pi_list (pv 0)) (blkOk_by (N := ["_law_script", "_law_cells", "_law_cell"]) (sc := defScope sx__law_begun) (by decide +kernel)) (fun _ _ _ _ _ => (pg_name (i := 2) sc__law_begun.nd rfl (by first | exact Or.inl rfl | exact Or.inr rfl))) (fun _ _ _ _ _ => pts_nil) (fun _ _ _ _ _ => (pe_callB call_abs (by rfl) T.n_abs (by decide +kernel) (pa_cons (pv 2) pa_nil))))
      (pss_one (ps_ret (pe_disp (pps_cons pe_str (pe_lc (own := [("_law_cell", 2)]) (g := (gName 2)) (wi := (iList K (tVar 1))) (tt := (tTest (tOp rGeI (tVar 2) (tOp rPowI (tC (.int 10)) (tC (.int 18)))))) (te := (tOp rSubI (tVar 2) (tOp rPowI (tC (.int 10)) (tC (.int 18))))) rfl sc__law_begun.nd (pi_list (pv 1)) (blkOk_by (N := ["_law_script", "_law_cells", "_law_cell"]) (sc := defScope sx__law_begun) (by decide +kernel)) (fun _ _ _ _ _ => (pg_name (i := 2) sc__law_begun.nd rfl (by first | exact Or.inl rfl | exact Or.inr rfl))) (fun _ _ _ _ _ => (pts_one (pt_cmpR op_ge (pv 2) (pe_op op_pow pe_int pe_int) (nomark _)))) (fun _ _ _ _ _ => (pe_op op_sub (pv 2) (pe_op op_pow pe_int pe_int)))) (pps_cons pe_str (pv 1) (pps_cons pe_str pe_int (pps_cons pe_str pe_int pps_nil)))) (by rfl) (by rfl) (fun z => by cases z) (by decide))))), ?_⟩
    exact pure_begun (K := K) vs H Q X h
abbrev sx__law_draw : Stmt := top 37
theorem sc__law_draw : FnScope ["_law_state", "_law_many", "_law_turn", "_law_cell", "_law_mixed", "_law_found"] ["_law_state", "_law_many"] (defScope sx__law_draw) := ⟨rfl, rfl, rfl, by decide +kernel, rfl, by decide +kernel, by decide +kernel⟩
theorem ok__law_draw {P : Program} {w : World} {K : PySem.W.Frag} {C : Addr} {mg : Str → Option Value} {base : Heap} {f : Addr} {fd : FuncData} (F : FunD K "_law_draw" "_law_draw" (defArgs sx__law_draw) (defBody sx__law_draw) (defScope sx__law_draw) [] [] f fd) (T : TxtB mg) (TF : TabF K C) : FnOk P w K mg base CX0 3 f fd ["_law_state", "_law_many"] spDraw := by
  have cT := TF.cl
  refine F.ok sc__law_draw (fun vs H Q E h => ?_) (fun cdv A outer s H vs Q X h0 h => ?_)
  · obtain ⟨st, lg, cs, m, n, rfl, rest⟩ := h
    rfl
  · have hr := h0
    have hu := hu_of hr
    refine ⟨_, PSs.nox (pss_cons (ps_while PassesOwn.never (PW.pt (pw_and (pt_cmpR op_eq (pe_dget hu (pv 0) pe_str (fun _ _ => rfl)) pe_int (nomark _)) (pw_and1 (pt_cmpR (op_neD hr.units) (pe_dget hu (pv 0) pe_str (fun _ _ => rfl)) (pe_lst pa_nil) (nomark _)))))
        (pss_one (ps_dput hu (pv 0) pe_str (pe_bm PySem.F.plainAttrs_list PySem.F.slot_list_pop PySem.F.type_list_pop mt_popAt (pe_dget hu (pv 0) pe_str (fun _ _ => rfl)) (pa_cons pe_int pa_nil)) rfl)))
      (pss_cons (ps_if (pt_cmpR op_gt (pe_dget hu (pv 0) pe_str (fun _ _ => rfl)) pe_int (nomark _))
        (pss_cons (ps_set (i := 5) sc__law_draw.nd rfl (by first | exact Or.inl rfl | exact Or.inr rfl) (pe_op op_mod (pe_callTy call_int1 (by rfl) T.n_int (by decide +kernel) (pa_cons (pe_dget hu (pv 0) pe_str (fun _ _ => rfl)) pa_nil)) (pv 1)))
          (pss_cons (ps_dput hu (pv 0) pe_str (pe_op op_fdivW (pe_dget hu (pv 0) pe_str (fun _ _ => rfl)) (pv 1)) rfl)
          (pss_one (ps_ret (pv 5)))))
        pss_nil)
      (pss_cons (ps_set (i := 2) sc__law_draw.nd rfl (by first | exact Or.inl rfl | exact Or.inr rfl) (pe_op op_add (pe_dget hu (pv 0) pe_str (fun _ _ => rfl)) pe_int))
      (pss_cons (ps_dput hu (pv 0) pe_str (pv 2) rfl)
      (pss_cons (ps_set (i := 3) sc__law_draw.nd rfl (by first | exact Or.inl rfl | exact Or.inr rfl) (pe_ifExp (pt_cmpR (op_neD hr.units) (pe_dget hu (pv 0) pe_str (fun _ _ => rfl)) (pe_lst pa_nil) (nomark _)) (pe_ix ix_list (pe_dget hu (pv 0) pe_str (fun _ _ => rfl)) (pe_op op_mod (pe_callTy call_int1 (by rfl) T.n_int (by decide +kernel) (pa_cons (pv 2) pa_nil)) (pe_callB call_len (by rfl) T.n_len (by decide +kernel) (pa_cons (pe_dget hu (pv 0) pe_str (fun _ _ => rfl)) pa_nil))) (fun _ _ => rfl)) pe_int))
      (pss_cons (ps_set (i := 4) sc__law_draw.nd rfl (by first | exact Or.inl rfl | exact Or.inr rfl) (pe_op op_mod (pe_callTy call_int1 (by rfl) T.n_int (by decide +kernel) (pa_cons (pe_op op_pow (pe_op op_add (pe_op op_add (pe_op op_mod (pe_callTy call_int1 (by rfl) T.n_int (by decide +kernel) (pa_cons (pv 3) pa_nil)) pe_int) (pe_op op_mul pe_int (pv 2))) pe_int) pe_int) pa_nil)) pe_int))
      (pss_one (ps_ret (pe_op op_mod (pe_callTy call_int1 (by rfl) T.n_int (by decide +kernel) (pa_cons (pe_op op_fdiv (pe_op op_mod (pe_callTy call_int1 (by rfl) T.n_int (by decide +kernel) (pa_cons (pe_op op_pow (pe_op op_add (pv 4) (pe_op op_mul pe_int (pv 2))) pe_int) pa_nil)) pe_int) pe_int) pa_nil)) (pv 1)))))))))), ?_⟩
    exact pure_draw (K := K) vs H Q X h
abbrev sx__law_pick : Stmt := top 38
theorem sc__law_pick : FnScope ["_law_state", "_law_several"] ["_law_state", "_law_several"] (defScope sx__law_pick) := ⟨rfl, rfl, rfl, by decide +kernel, rfl, by decide +kernel, by decide +kernel⟩
theorem ok__law_pick {P : Program} {w : World} {K : PySem.W.Frag} {C : Addr} {mg : Str → Option Value} {base : Heap} {f : Addr} {fd : FuncData} (F : FunD K "_law_pick" "_law_pick" (defArgs sx__law_pick) (defBody sx__law_pick) (defScope sx__law_pick) [] [] f fd) (T : TxtB mg) (TF : TabF K C)
  {f__law_draw : Addr} {d__law_draw : FuncData} (G__law_draw : FnOk P w K mg base CX0 3 f__law_draw d__law_draw ["_law_state", "_law_many"] spDraw) (g__law_draw : mg "_law_draw" = some (.ref f__law_draw)) (k__law_draw : PySem.W.keepIn K (.ref f__law_draw) = true) (b__law_draw : Binds K d__law_draw ["_law_state", "_law_many"] []) : FnOk P w K mg base CX0 6 f fd ["_law_state", "_law_several"] (spPick K) := by
  have cT := TF.cl
  refine F.ok sc__law_pick (fun vs H Q E h => ?_) (fun cdv A outer s H vs Q X h0 h => ?_)
  · obtain ⟨st, lg, cs, p, xs, n, rfl, rest⟩ := h
    rfl
  · have hr := h0
    have hu := hu_of hr
    refine ⟨_, PSs.nox (pss_one (ps_ret (pe_ix ix_list (pv 1) (pe_call G__law_draw (hr.mono (by decide)) rfl g__law_draw k__law_draw b__law_draw .nil pass0 (pa_cons (pv 0) (pa_cons (pe_callB call_len (by rfl) T.n_len (by decide +kernel) (pa_cons (pv 1) pa_nil)) pa_nil))) (fun _ _ => rfl)))), ?_⟩
    exact pure_pick (K := K) vs H Q X h
abbrev sx__law_caps : Stmt := top 39
theorem sc__law_caps : FnScope ["_law_state", "_law_many", "_law_thick", "_law_wide", "_law_found", "_law_a_here", "_law_b_here"] ["_law_state", "_law_many", "_law_thick", "_law_wide"] (defScope sx__law_caps) := ⟨rfl, rfl, rfl, by decide +kernel, rfl, by decide +kernel, by decide +kernel⟩
theorem ok__law_caps {P : Program} {w : World} {K : PySem.W.Frag} {C : Addr} {mg : Str → Option Value} {base : Heap} {f : Addr} {fd : FuncData} (F : FunD K "_law_caps" "_law_caps" (defArgs sx__law_caps) (defBody sx__law_caps) (defScope sx__law_caps) [] [] f fd) (T : TxtB mg) (TF : TabF K C)
  {f__law_draw : Addr} {d__law_draw : FuncData} (G__law_draw : FnOk P w K mg base CX0 3 f__law_draw d__law_draw ["_law_state", "_law_many"] spDraw) (g__law_draw : mg "_law_draw" = some (.ref f__law_draw)) (k__law_draw : PySem.W.keepIn K (.ref f__law_draw) = true) (b__law_draw : Binds K d__law_draw ["_law_state", "_law_many"] [])
  {f__law_pick : Addr} {d__law_pick : FuncData} (G__law_pick : FnOk P w K mg base CX0 6 f__law_pick d__law_pick ["_law_state", "_law_several"] (spPick K)) (g__law_pick : mg "_law_pick" = some (.ref f__law_pick)) (k__law_pick : PySem.W.keepIn K (.ref f__law_pick) = true) (b__law_pick : Binds K d__law_pick ["_law_state", "_law_several"] []) : FnOk P w K mg base CX0 9 f fd ["_law_state", "_law_many", "_law_thick", "_law_wide"] (sp__law_caps C) := by
  have cT := TF.cl
  refine F.ok sc__law_caps (fun vs H Q E h => ?_) (fun cdv A outer s H vs Q X h0 h => ?_)
  · obtain ⟨st, lg, cs, many, thick, n0, rfl, h1, h2, h3, h4, h5, h6, kk⟩ := h
    rfl
  · have hr := h0
    have hu := hu_of hr
    refine ⟨_, PSs.nox (pss_cons (ps_set (i := 4) sc__law_caps.nd rfl (by first | exact Or.inl rfl | exact Or.inr rfl) pe_dnewT)
      (pss_cons (ps_for PassesOwn.never rfl (pi_range1 rfl T.n_range (pa_cons (pe_op op_add (pv 1) pe_int) pa_nil)) (pg_name (i := 5) sc__law_caps.nd rfl (by first | exact Or.inl rfl | exact Or.inr rfl))
        (pss_one (ps_for PassesOwn.never rfl (pi_range1 rfl T.n_range (pa_cons (pe_op op_add (pv 1) pe_int) pa_nil)) (pg_name (i := 6) sc__law_caps.nd rfl (by first | exact Or.inl rfl | exact Or.inr rfl))
            (pss_one (ps_if (PW.pt (pw_and (pt_cmpR op_ne (pv 5) (pv 6) (nomark _)) (pw_and1 (pt_cmpR op_eq (pe_call G__law_draw (hr.mono (by decide)) rfl g__law_draw k__law_draw b__law_draw .nil pass0 (pa_cons (pv 0) (pa_cons (pv 2) pa_nil))) pe_int (nomark _)))))
                (pss_one (ps_dput hu (pv 4) (pe_tup (pa_cons (pv 5) (pa_cons (pv 6) pa_nil))) (pe_op op_sub (pe_call G__law_draw (hr.mono (by decide)) rfl g__law_draw k__law_draw b__law_draw .nil pass0 (pa_cons (pv 0) (pa_cons (pe_op op_add (pe_op op_mul pe_int (pv 3)) pe_int) pa_nil))) (pe_call G__law_pick (hr.mono (by decide)) rfl g__law_pick k__law_pick b__law_pick .nil pass0 (pa_cons (pv 0) (pa_cons (pe_lst (pa_cons pe_int (pa_cons (pv 3) (pa_cons (pe_op op_fdiv (pv 3) pe_int) pa_nil)))) pa_nil)))) rfl))
                pss_nil)))))
      (pss_one (ps_ret (pv 4))))), ?_⟩
    obtain ⟨st, lg, cs, many, thick, n0, rfl, h1, h2, h3, h4, h5, h6, kk⟩ := h
    exact pure_caps (K := K) (C := C) h1 h2 h3 h4 h5 h6 kk
abbrev sx__law_waters : Stmt := top 40
theorem sc__law_waters : FnScope ["_law_many", "_law_found", "_law_spot", "_law_longer", "_law_pool", "_law_part"] ["_law_many"] (defScope sx__law_waters) := ⟨rfl, rfl, rfl, by decide +kernel, rfl, by decide +kernel, by decide +kernel⟩
theorem ok__law_waters {P : Program} {w : World} {K : PySem.W.Frag} {C : Addr} {mg : Str → Option Value} {base : Heap} {f : Addr} {fd : FuncData} (F : FunD K "_law_waters" "_law_waters" (defArgs sx__law_waters) (defBody sx__law_waters) (defScope sx__law_waters) [] [] f fd) (T : TxtB mg) (TF : TabF K C) : FnOk P w K mg base CX0 3 f fd ["_law_many"] (sp__law_waters C) := by
  have cT := TF.cl
  refine F.ok sc__law_waters (fun vs H Q E h => ?_) (fun cdv A outer s H vs Q X h0 h => ?_)
  · obtain ⟨P0, ⟨many, rfl, h1, rfl⟩, kk⟩ := h
    rfl
  · have hr := h0
    have hu := hu_of hr
    refine ⟨_, PSs.nox (pss_cons (ps_set (i := 1) sc__law_waters.nd rfl (by first | exact Or.inl rfl | exact Or.inr rfl) (pe_lst (pa_cons (pe_tup pa_nil) pa_nil)))
      (pss_cons (ps_for PassesOwn.never rfl (pi_range1 rfl T.n_range (pa_cons (pv 0) pa_nil)) (pg_name (i := 2) sc__law_waters.nd rfl (by first | exact Or.inl rfl | exact Or.inr rfl))
        (pss_cons (ps_set (i := 3) sc__law_waters.nd rfl (by first | exact Or.inl rfl | exact Or.inr rfl) (pe_lst pa_nil))
          (pss_cons (ps_for PassesOwn.never rfl (pi_list (pv 1)) (pg_name (i := 4) sc__law_waters.nd rfl (by first | exact Or.inl rfl | exact Or.inr rfl))
            (pss_one (ps_set (i := 3) sc__law_waters.nd rfl (by first | exact Or.inl rfl | exact Or.inr rfl) (pe_op op_cat (pv 3) (pe_lc (own := [("_law_part", 5)]) (g := (gName 5)) (wi := (iRng2 (tCons (tUn rNegI (tC (.int 4))) (tCons (tC (.int 5)) tNil)))) (tt := tYes) (te := (tOp (rCatX K) (tVar 4) (tTup (tCons (tVar 5) tNil)))) rfl sc__law_waters.nd (pi_range2 rfl T.n_range (pa_cons (pe_un un_neg pe_int) (pa_cons pe_int pa_nil))) (blkOk_by (N := ["_law_many", "_law_found", "_law_spot", "_law_longer", "_law_pool", "_law_part"]) (sc := defScope sx__law_waters) (by decide +kernel)) (fun _ _ _ _ _ => (pg_name (i := 5) sc__law_waters.nd rfl (by first | exact Or.inl rfl | exact Or.inr rfl))) (fun _ _ _ _ _ => pts_nil) (fun _ _ _ _ _ => (pe_op op_catX (pv 4) (pe_tup (pa_cons (pv 5) pa_nil)))))))))
          (pss_one (ps_set (i := 1) sc__law_waters.nd rfl (by first | exact Or.inl rfl | exact Or.inr rfl) (pv 3))))))
      (pss_one (ps_ret (pv 1))))), ?_⟩
    obtain ⟨P0, ⟨many, rfl, h1, rfl⟩, kk⟩ := h
    exact pure_waters (K := K) (C := C) h1 (fun p cs H2 e hw hl => kk _ _ e ⟨p, cs, rfl, hw, hl⟩)
abbrev sx__law_is_passed : Stmt := top 41
theorem sc__law_is_passed : FnScope ["_law_pool", "_law_top", "_law_low", "_law_levels", "_law_pair"] ["_law_pool", "_law_top", "_law_low"] (defScope sx__law_is_passed) := ⟨rfl, rfl, rfl, by decide +kernel, rfl, by decide +kernel, by decide +kernel⟩
theorem ok__law_is_passed {P : Program} {w : World} {K : PySem.W.Frag} {C : Addr} {mg : Str → Option Value} {base : Heap} {f : Addr} {fd : FuncData} (F : FunD K "_law_is_passed" "_law_is_passed" (defArgs sx__law_is_passed) (defBody sx__law_is_passed) (defScope sx__law_is_passed) [] [] f fd) (T : TxtB mg) (TF : TabF K C)
  {f_sums : Addr} {d_sums : FuncData} (G_sums : FnOk P w K mg base CX0 9 f_sums d_sums ["water"] (sp_sums C)) (g_sums : mg "sums" = some (.ref f_sums)) (k_sums : PySem.W.keepIn K (.ref f_sums) = true) (b_sums : Binds K d_sums ["water"] []) : FnOk P w K mg base CX0 12 f fd ["_law_pool", "_law_top", "_law_low"] (sp__law_is_passed C) := by
  have cT := TF.cl
  refine F.ok sc__law_is_passed (fun vs H Q E h => ?_) (fun cdv A outer s H vs Q X h0 h => ?_)
  · obtain ⟨P0, ⟨p, tp, lw, xs, n, rfl, h1, h2, h3, h4, h5, h6, rfl⟩, kk⟩ := h
    rfl
  · have hr := h0
    have hu := hu_of hr
    refine ⟨_, PSs.nox (pss_cons (ps_set (i := 3) sc__law_is_passed.nd rfl (by first | exact Or.inl rfl | exact Or.inr rfl) (pe_call G_sums (hr.mono (by decide)) rfl g_sums k_sums b_sums .nil pass0 (pa_cons (pv 0) pa_nil)))
      (pss_cons (ps_if (PW.pt (pw_and (pt_cmp (pc_notN (pv 1))) (pw_and1 (pt_cmpR (op_neD hr.units) (pe_lc (own := [("_law_pair", 4)]) (g := (gName 4)) (wi := (iZipN K (tCons (tVar 3) (tCons (tCall (sp_sums C) [] E0 (tCons (tVar 1) tNil)) tNil)))) (tt := (tTest (tOp rGtI (tOp (rIxT K) (tVar 4) (tC (.int 0))) (tOp (rIxT K) (tVar 4) (tC (.int 1)))))) (te := (tC (.int 1))) rfl sc__law_is_passed.nd (pi_zipN (by rfl) T.n_zip (pa_cons (pv 3) (pa_cons (pe_call G_sums (hr.mono (by decide)) rfl g_sums k_sums b_sums .nil pass0 (pa_cons (pv 1) pa_nil)) pa_nil))) (blkOk_by (N := ["_law_pool", "_law_top", "_law_low", "_law_levels", "_law_pair"]) (sc := defScope sx__law_is_passed) (by decide +kernel)) (fun _ _ _ _ _ => (pg_name (i := 4) sc__law_is_passed.nd rfl (by first | exact Or.inl rfl | exact Or.inr rfl))) (fun _ _ _ _ _ => (pts_one (pt_cmpR op_gt (pe_ix ix_tup (pv 4) pe_int (fun _ _ => rfl)) (pe_ix ix_tup (pv 4) pe_int (fun _ _ => rfl)) (nomark _)))) (fun _ _ _ _ _ => pe_int)) (pe_lst pa_nil) (nomark _)))))
        (pss_one (ps_ret pe_bl))
        pss_nil)
      (pss_one (ps_ret (pe_and (pe_cmp (pc_notN (pv 2)) rfl) (pe_one (pe_cmpR (op_neD hr.units) (pe_lc (own := [("_law_pair", 4)]) (g := (gName 4)) (wi := (iZipN K (tCons (tVar 3) (tCons (tCall (sp_sums C) [] E0 (tCons (tVar 2) tNil)) tNil)))) (tt := (tTest (tOp rLtI (tOp (rIxT K) (tVar 4) (tC (.int 0))) (tOp (rIxT K) (tVar 4) (tC (.int 1)))))) (te := (tC (.int 1))) rfl sc__law_is_passed.nd (pi_zipN (by rfl) T.n_zip (pa_cons (pv 3) (pa_cons (pe_call G_sums (hr.mono (by decide)) rfl g_sums k_sums b_sums .nil pass0 (pa_cons (pv 2) pa_nil)) pa_nil))) (blkOk_by (N := ["_law_pool", "_law_top", "_law_low", "_law_levels", "_law_pair"]) (sc := defScope sx__law_is_passed) (by decide +kernel)) (fun _ _ _ _ _ => (pg_name (i := 4) sc__law_is_passed.nd rfl (by first | exact Or.inl rfl | exact Or.inr rfl))) (fun _ _ _ _ _ => (pts_one (pt_cmpR op_lt (pe_ix ix_tup (pv 4) pe_int (fun _ _ => rfl)) (pe_ix ix_tup (pv 4) pe_int (fun _ _ => rfl)) (nomark _)))) (fun _ _ _ _ _ => pe_int)) (pe_lst pa_nil) (nomark _)))))))), ?_⟩
    obtain ⟨P0, ⟨p, tp, lw, xs, n, rfl, h1, h2, h3, h4, h5, h6, rfl⟩, kk⟩ := h
    exact pure_is_passed (K := K) (C := C) h1 h2 h3 h4 h5 h6 (fun H1 e => kk _ _ e rfl)
abbrev sx__law_out : Stmt := top 42
theorem sc__law_out : FnScope ["_law_left", "_law_right", "_law_many", "_law_known", "_law_pair", "_law_cap", "_law_near", "_law_a_here", "_law_b_here"] ["_law_left", "_law_right", "_law_many"] (defScope sx__law_out) := ⟨rfl, rfl, rfl, by decide +kernel, rfl, by decide +kernel, by decide +kernel⟩
theorem ok__law_out {P : Program} {w : World} {K : PySem.W.Frag} {C : Addr} {mg : Str → Option Value} {base : Heap} {f : Addr} {fd : FuncData} (F : FunD K "_law_out" "_law_out" (defArgs sx__law_out) (defBody sx__law_out) (defScope sx__law_out) [] [] f fd) (T : TxtB mg) (TF : TabF K C) (gTable : mg "Table" = some (.ref C))
  {f_closed : Addr} {d_closed : FuncData} (G_closed : FnOk P w K mg base CX0 18 f_closed d_closed ["table"] (sp_closed C)) (g_closed : mg "closed" = some (.ref f_closed)) (k_closed : PySem.W.keepIn K (.ref f_closed) = true) (b_closed : Binds K d_closed ["table"] [])
  {f_ring : Addr} {d_ring : FuncData} (G_ring : FnOk P w K mg base CX0 9 f_ring d_ring ["table"] (sp_ring C)) (g_ring : mg "ring" = some (.ref f_ring)) (k_ring : PySem.W.keepIn K (.ref f_ring) = true) (b_ring : Binds K d_ring ["table"] [])
  {f_is_within : Addr} {d_is_within : FuncData} (G_is_within : FnOk P w K mg base CX0 9 f_is_within d_is_within ["one", "other"] (sp_is_within C)) (g_is_within : mg "is_within" = some (.ref f_is_within)) (k_is_within : PySem.W.keepIn K (.ref f_is_within) = true) (b_is_within : Binds K d_is_within ["one", "other"] [])
  {f_both : Addr} {d_both : FuncData} (G_both : FnOk P w K mg base CX0 15 f_both d_both ["one", "other"] (sp_both C)) (g_both : mg "both" = some (.ref f_both)) (k_both : PySem.W.keepIn K (.ref f_both) = true) (b_both : Binds K d_both ["one", "other"] [])
  {q_bounds f_bounds : Addr} {d_bounds : FuncData} (G_bounds : FnOk P w K mg base CX0 3 f_bounds d_bounds ["self"] (sp_Table_bounds C)) (b_bounds : Binds K d_bounds ["self"] []) (hp_bounds : PropOf K C "bounds" q_bounds f_bounds)
  {f_init : Addr} {d_init : FuncData} (G_init : FnOk P w K mg base CX0 12 f_init d_init ["self", "size", "bounds"] (sp_Table___init__ C)) (b_init : Binds K d_init ["self", "size", "bounds"] []) (mk : Mk K C f_init) : FnOk P w K mg base CX0 21 f fd ["_law_left", "_law_right", "_law_many"] (sp__law_out C) := by
  have cT := TF.cl
  refine F.ok sc__law_out (fun vs H Q E h => ?_) (fun cdv A outer s H vs Q X h0 h => ?_)
  · obtain ⟨P0, ⟨t, u, n, E, E2, rfl, T1, T2, h1, rfl⟩, kk⟩ := h
    rfl
  · have hr := h0
    have hu := hu_of hr
    refine ⟨_, PSs.nox (pss_cons (ps_set (i := 3) sc__law_out.nd rfl (by first | exact Or.inl rfl | exact Or.inr rfl) (pe_prop (pe_call G_closed (hr.mono (by decide)) rfl g_closed k_closed b_closed .nil pass0 (pa_cons (pv 0) pa_nil)) cT hp_bounds G_bounds (hr.mono (by decide)) b_bounds .nil pass0 rfl))
      (pss_cons (ps_for PassesOwn.never rfl (pi_itemsT (pe_prop (pv 1) cT hp_bounds G_bounds (hr.mono (by decide)) b_bounds .nil pass0 rfl)) (pg_tup rfl (pgs_cons (pg_name (i := 4) sc__law_out.nd rfl (by first | exact Or.inl rfl | exact Or.inr rfl)) (pgs_cons (pg_name (i := 5) sc__law_out.nd rfl (by first | exact Or.inl rfl | exact Or.inr rfl)) pgs_nil)))
        (pss_one (ps_if (PW.pt (pw_or (pt_cmp (pc_dnotin hu (pv 4) (pv 3))) (pw_or1 (pt_cmpR op_gt (pe_dget hu (pv 3) (pv 4) (fun _ _ => rfl)) (pv 5) (nomark _)))))
            (pss_cons (ps_asg (pv 4) (pg_tup rfl (pgs_cons (pg_name (i := 7) sc__law_out.nd rfl (by first | exact Or.inl rfl | exact Or.inr rfl)) (pgs_cons (pg_name (i := 8) sc__law_out.nd rfl (by first | exact Or.inl rfl | exact Or.inr rfl)) pgs_nil))))
              (pss_cons (ps_set (i := 6) sc__law_out.nd rfl (by first | exact Or.inl rfl | exact Or.inr rfl) (pe_call G_both (hr.mono (by decide)) rfl g_both k_both b_both .nil pass0 (pa_cons (pv 0) (pa_cons (pe_make mk G_init (hr.mono (by decide)) rfl gTable b_init .nil pass0 (pa_cons (pv 2) (pa_cons (pe_dispT hu (pps_cons (pe_tup (pa_cons (pv 8) (pa_cons (pv 7) pa_nil))) (pe_op op_sub (pe_op op_sub pe_int (pv 5)) pe_int) pps_nil) (by rfl) (by rfl) (fun z => by cases z) (by decide)) pa_nil))) pa_nil))))
              (pss_one (ps_if (PW.pt (pw_and (pt_cmp (pc_isN (pe_call G_ring (hr.mono (by decide)) rfl g_ring k_ring b_ring .nil pass0 (pa_cons (pv 6) pa_nil)))) (pw_and1 (pt_val (pe_call G_is_within (hr.mono (by decide)) rfl g_is_within k_is_within b_is_within .nil pass0 (pa_cons (pv 6) (pa_cons (pv 0) pa_nil)))))))
                (pss_one (ps_ret pe_bl))
                pss_nil))))
            pss_nil)))
      (pss_one (ps_ret pe_bl)))), ?_⟩
    obtain ⟨P0, ⟨t, u, n, E, E2, rfl, T1, T2, h1, rfl⟩, kk⟩ := h
    exact pure_out (K := K) (C := C) T1 T2 h1 (fun H1 e => kk _ _ e rfl)
abbrev sx_Table_fits : Stmt := inClass (top 19) 3
theorem sc_Table_fits : FnScope ["self", "water", "found", "a", "b"] ["self", "water"] (defScope sx_Table_fits) := ⟨rfl, rfl, rfl, by decide +kernel, rfl, by decide +kernel, by decide +kernel⟩
theorem ok_Table_fits {P : Program} {w : World} {K : PySem.W.Frag} {C : Addr} {mg : Str → Option Value} {base : Heap} {f : Addr} {fd : FuncData} (F : FunD K "fits" "Table.fits" (defArgs sx_Table_fits) (defBody sx_Table_fits) (defScope sx_Table_fits) [] [] f fd) (T : TxtB mg) (TF : TabF K C)
  {f_sums : Addr} {d_sums : FuncData} (G_sums : FnOk P w K mg base CX0 9 f_sums d_sums ["water"] (sp_sums C)) (g_sums : mg "sums" = some (.ref f_sums)) (k_sums : PySem.W.keepIn K (.ref f_sums) = true) (b_sums : Binds K d_sums ["water"] []) : FnOk P w K mg base CX0 12 f fd ["self", "water"] (sp_Table_fits C) := by
  have cT := TF.cl
  refine F.ok sc_Table_fits (fun vs H Q E h => ?_) (fun cdv A outer s H vs Q X h0 h => ?_)
  · obtain ⟨P0, ⟨t, w, n, E, xs, rfl, T1, h1, h2, rfl⟩, kk⟩ := h
    rfl
  · have hr := h0
    have hu := hu_of hr
    refine ⟨_, PSs.nox (pss_cons (ps_set (i := 2) sc_Table_fits.nd rfl (by first | exact Or.inl rfl | exact Or.inr rfl) (pe_call G_sums (hr.mono (by decide)) rfl g_sums k_sums b_sums .nil pass0 (pa_cons (pv 1) pa_nil)))
      (pss_cons (ps_if (pt_cmpR op_ne (pe_callB call_len (by rfl) T.n_len (by decide +kernel) (pa_cons (pv 1) pa_nil)) (pe_fld (pv 0) rfl) (nomark _))
        (pss_one ps_never)
        pss_nil)
      (pss_one (ps_ret (pe_lock (pe_callB (cr_all rfl) (by rfl) T.n_all (by decide +kernel) (pa_cons (pe_lc (own := [("a", 3), ("b", 4)]) (g := (gTup K 2 (gCons (gName 3) (gCons (gName 4) gNil)))) (wi := (iKeys (tFld K (tVar 0) "_bounds"))) (tt := tYes) (te := (tOp rLeI (tOp rSubI (tOp (rIxT K) (tVar 2) (tVar 3)) (tOp (rIxT K) (tVar 2) (tVar 4))) (tDGet (tFld K (tVar 0) "_bounds") (tTup (tCons (tVar 3) (tCons (tVar 4) tNil)))))) rfl sc_Table_fits.nd (pi_keys (pe_fld (pv 0) rfl)) (blkOk_by (N := ["self", "water", "found", "a", "b"]) (sc := defScope sx_Table_fits) (by decide +kernel)) (fun _ _ _ _ _ => (pg_tup rfl (pgs_cons (pg_name (i := 3) sc_Table_fits.nd rfl (by first | exact Or.inl rfl | exact Or.inr rfl)) (pgs_cons (pg_name (i := 4) sc_Table_fits.nd rfl (by first | exact Or.inl rfl | exact Or.inr rfl)) pgs_nil)))) (fun _ _ _ _ _ => pts_nil) (fun _ _ _ _ _ => (pe_cmpR op_le (pe_op op_sub (pe_ix ix_tup (pv 2) (pv 3) (fun _ _ => rfl)) (pe_ix ix_tup (pv 2) (pv 4) (fun _ _ => rfl))) (pe_dget hu (pe_fld (pv 0) rfl) (pe_tup (pa_cons (pv 3) (pa_cons (pv 4) pa_nil))) (fun _ _ => rfl)) (nomark _)))) pa_nil))))))), ?_⟩
    obtain ⟨P0, ⟨t, w, n, E, xs, rfl, T1, h1, h2, rfl⟩, kk⟩ := h
    exact pure_fits (K := K) (C := C) TF T1 h1 h2 (fun H1 e => kk _ _ e rfl)
abbrev sx_law : Stmt := top 43
theorem sc_law : FnScope ["_law_script", "_law_state", "_law_turn", "_law_many", "_law_left", "_law_right", "_law_spot", "_law_slim", "_law_pool", "_law_shared", "_law_known", "_law_top", "_law_low", "_law_is_in", "_law_fitting", "_law_fits_here", "_law_levels", "_law_k", "_law_level"] ["_law_script"] (defScope sx_law) := ⟨rfl, rfl, rfl, by decide +kernel, rfl, by decide +kernel, by decide +kernel⟩
theorem ok_law {P : Program} {w : World} {K : PySem.W.Frag} {C : Addr} {mg : Str → Option Value} {base : Heap} {f : Addr} {fd : FuncData} (F : FunD K "law" "law" (defArgs sx_law) (defBody sx_law) (defScope sx_law) [] [] f fd) (T : TxtB mg) (TF : TabF K C) (gTable : mg "Table" = some (.ref C))
  {f_sums : Addr} {d_sums : FuncData} (G_sums : FnOk P w K mg base CX0 9 f_sums d_sums ["water"] (sp_sums C)) (g_sums : mg "sums" = some (.ref f_sums)) (k_sums : PySem.W.keepIn K (.ref f_sums) = true) (b_sums : Binds K d_sums ["water"] [])
  {f_closed : Addr} {d_closed : FuncData} (G_closed : FnOk P w K mg base CX0 18 f_closed d_closed ["table"] (sp_closed C)) (g_closed : mg "closed" = some (.ref f_closed)) (k_closed : PySem.W.keepIn K (.ref f_closed) = true) (b_closed : Binds K d_closed ["table"] [])
  {f_ring : Addr} {d_ring : FuncData} (G_ring : FnOk P w K mg base CX0 9 f_ring d_ring ["table"] (sp_ring C)) (g_ring : mg "ring" = some (.ref f_ring)) (k_ring : PySem.W.keepIn K (.ref f_ring) = true) (b_ring : Binds K d_ring ["table"] [])
  {f_is_within : Addr} {d_is_within : FuncData} (G_is_within : FnOk P w K mg base CX0 9 f_is_within d_is_within ["one", "other"] (sp_is_within C)) (g_is_within : mg "is_within" = some (.ref f_is_within)) (k_is_within : PySem.W.keepIn K (.ref f_is_within) = true) (b_is_within : Binds K d_is_within ["one", "other"] [])
  {f_is_same : Addr} {d_is_same : FuncData} (G_is_same : FnOk P w K mg base CX0 12 f_is_same d_is_same ["one", "other"] (sp_is_same C)) (g_is_same : mg "is_same" = some (.ref f_is_same)) (k_is_same : PySem.W.keepIn K (.ref f_is_same) = true) (b_is_same : Binds K d_is_same ["one", "other"] [])
  {f_both : Addr} {d_both : FuncData} (G_both : FnOk P w K mg base CX0 15 f_both d_both ["one", "other"] (sp_both C)) (g_both : mg "both" = some (.ref f_both)) (k_both : PySem.W.keepIn K (.ref f_both) = true) (b_both : Binds K d_both ["one", "other"] [])
  {f_highest : Addr} {d_highest : FuncData} (G_highest : FnOk P w K mg base CX0 9 f_highest d_highest ["table"] (sp_highest C)) (g_highest : mg "highest" = some (.ref f_highest)) (k_highest : PySem.W.keepIn K (.ref f_highest) = true) (b_highest : Binds K d_highest ["table"] [])
  {f_lowest : Addr} {d_lowest : FuncData} (G_lowest : FnOk P w K mg base CX0 9 f_lowest d_lowest ["table"] (sp_lowest C)) (g_lowest : mg "lowest" = some (.ref f_lowest)) (k_lowest : PySem.W.keepIn K (.ref f_lowest) = true) (b_lowest : Binds K d_lowest ["table"] [])
  {f_hidden : Addr} {d_hidden : FuncData} (G_hidden : FnOk P w K mg base CX0 18 f_hidden d_hidden ["table", "points"] (sp_hidden C)) (g_hidden : mg "hidden" = some (.ref f_hidden)) (k_hidden : PySem.W.keepIn K (.ref f_hidden) = true) (b_hidden : Binds K d_hidden ["table", "points"] [])
  {f__law_begun : Addr} {d__law_begun : FuncData} (G__law_begun : FnOk P w K mg base CX0 3 f__law_begun d__law_begun ["_law_script"] (spBegun K)) (g__law_begun : mg "_law_begun" = some (.ref f__law_begun)) (k__law_begun : PySem.W.keepIn K (.ref f__law_begun) = true) (b__law_begun : Binds K d__law_begun ["_law_script"] [])
  {f__law_draw : Addr} {d__law_draw : FuncData} (G__law_draw : FnOk P w K mg base CX0 3 f__law_draw d__law_draw ["_law_state", "_law_many"] spDraw) (g__law_draw : mg "_law_draw" = some (.ref f__law_draw)) (k__law_draw : PySem.W.keepIn K (.ref f__law_draw) = true) (b__law_draw : Binds K d__law_draw ["_law_state", "_law_many"] [])
  {f__law_pick : Addr} {d__law_pick : FuncData} (G__law_pick : FnOk P w K mg base CX0 6 f__law_pick d__law_pick ["_law_state", "_law_several"] (spPick K)) (g__law_pick : mg "_law_pick" = some (.ref f__law_pick)) (k__law_pick : PySem.W.keepIn K (.ref f__law_pick) = true) (b__law_pick : Binds K d__law_pick ["_law_state", "_law_several"] [])
  {f__law_caps : Addr} {d__law_caps : FuncData} (G__law_caps : FnOk P w K mg base CX0 9 f__law_caps d__law_caps ["_law_state", "_law_many", "_law_thick", "_law_wide"] (sp__law_caps C)) (g__law_caps : mg "_law_caps" = some (.ref f__law_caps)) (k__law_caps : PySem.W.keepIn K (.ref f__law_caps) = true) (b__law_caps : Binds K d__law_caps ["_law_state", "_law_many", "_law_thick", "_law_wide"] [])
  {f__law_waters : Addr} {d__law_waters : FuncData} (G__law_waters : FnOk P w K mg base CX0 3 f__law_waters d__law_waters ["_law_many"] (sp__law_waters C)) (g__law_waters : mg "_law_waters" = some (.ref f__law_waters)) (k__law_waters : PySem.W.keepIn K (.ref f__law_waters) = true) (b__law_waters : Binds K d__law_waters ["_law_many"] [])
  {f__law_is_passed : Addr} {d__law_is_passed : FuncData} (G__law_is_passed : FnOk P w K mg base CX0 12 f__law_is_passed d__law_is_passed ["_law_pool", "_law_top", "_law_low"] (sp__law_is_passed C)) (g__law_is_passed : mg "_law_is_passed" = some (.ref f__law_is_passed)) (k__law_is_passed : PySem.W.keepIn K (.ref f__law_is_passed) = true) (b__law_is_passed : Binds K d__law_is_passed ["_law_pool", "_law_top", "_law_low"] [])
  {f__law_out : Addr} {d__law_out : FuncData} (G__law_out : FnOk P w K mg base CX0 21 f__law_out d__law_out ["_law_left", "_law_right", "_law_many"] (sp__law_out C)) (g__law_out : mg "_law_out" = some (.ref f__law_out)) (k__law_out : PySem.W.keepIn K (.ref f__law_out) = true) (b__law_out : Binds K d__law_out ["_law_left", "_law_right", "_law_many"] [])
  {f_init : Addr} {d_init : FuncData} (G_init : FnOk P w K mg base CX0 12 f_init d_init ["self", "size", "bounds"] (sp_Table___init__ C)) (b_init : Binds K d_init ["self", "size", "bounds"] []) (mk : Mk K C f_init)
  {f_fits : Addr} {d_fits : FuncData} (G_fits : FnOk P w K mg base CX0 12 f_fits d_fits ["self", "water"] (sp_Table_fits C)) (b_fits : Binds K d_fits ["self", "water"] []) (m_fits : Meth K C "fits" f_fits) : FnOk P w K mg base CX0 24 f fd ["_law_script"] (sp_law K) := by
  have cT := TF.cl
  refine F.ok sc_law (fun vs H Q E h => ?_) (fun cdv A outer s H vs Q X h0 h => ?_)
  · obtain ⟨a, ns, rfl, h1, h2, kk⟩ := h
    rfl
  · have hr := h0
    have hu := hu_of hr
    refine ⟨_, PSs.nox (pss_cons (ps_set (i := 1) sc_law.nd rfl (by first | exact Or.inl rfl | exact Or.inr rfl) (pe_call G__law_begun (hr.mono (by decide)) rfl g__law_begun k__law_begun b__law_begun .nil pass0 (pa_cons (pv 0) pa_nil)))
      (pss_cons (ps_for PassesOwn.never rfl (pi_range1 rfl T.n_range (pa_cons (pe_op op_add pe_int (pe_callB (call_min2 rfl) (by rfl) T.n_min (by decide +kernel) (pa_cons (pe_callB call_len (by rfl) T.n_len (by decide +kernel) (pa_cons (pv 0) pa_nil)) (pa_cons pe_int pa_nil)))) pa_nil)) (pg_name (i := 2) sc_law.nd rfl (by first | exact Or.inl rfl | exact Or.inr rfl))
        (pss_cons (ps_set (i := 3) sc_law.nd rfl (by first | exact Or.inl rfl | exact Or.inr rfl) (pe_call G__law_pick (hr.mono (by decide)) rfl g__law_pick k__law_pick b__law_pick .nil pass0 (pa_cons (pv 1) (pa_cons (pe_lst (pa_cons pe_int (pa_cons pe_int (pa_cons pe_int (pa_cons pe_int pa_nil))))) pa_nil))))
          (pss_cons (ps_set (i := 4) sc_law.nd rfl (by first | exact Or.inl rfl | exact Or.inr rfl) (pe_make mk G_init (hr.mono (by decide)) rfl gTable b_init .nil pass0 (pa_cons (pv 3) (pa_cons (pe_call G__law_caps (hr.mono (by decide)) rfl g__law_caps k__law_caps b__law_caps .nil pass0 (pa_cons (pv 1) (pa_cons (pv 3) (pa_cons (pe_call G__law_pick (hr.mono (by decide)) rfl g__law_pick k__law_pick b__law_pick .nil pass0 (pa_cons (pv 1) (pa_cons (pe_lst (pa_cons pe_int (pa_cons pe_int pa_nil))) pa_nil))) (pa_cons pe_int pa_nil))))) pa_nil))))
          (pss_cons (ps_set (i := 5) sc_law.nd rfl (by first | exact Or.inl rfl | exact Or.inr rfl) (pe_make mk G_init (hr.mono (by decide)) rfl gTable b_init .nil pass0 (pa_cons (pv 3) (pa_cons (pe_call G__law_caps (hr.mono (by decide)) rfl g__law_caps k__law_caps b__law_caps .nil pass0 (pa_cons (pv 1) (pa_cons (pv 3) (pa_cons (pe_call G__law_pick (hr.mono (by decide)) rfl g__law_pick k__law_pick b__law_pick .nil pass0 (pa_cons (pv 1) (pa_cons (pe_lst (pa_cons pe_int (pa_cons pe_int pa_nil))) pa_nil))) (pa_cons pe_int pa_nil))))) pa_nil))))
          (pss_cons (ps_if (pt_cmpR op_eq (pe_call G__law_draw (hr.mono (by decide)) rfl g__law_draw k__law_draw b__law_draw .nil pass0 (pa_cons (pv 1) (pa_cons pe_int pa_nil))) pe_int (nomark _))
            (pss_one (ps_set (i := 5) sc_law.nd rfl (by first | exact Or.inl rfl | exact Or.inr rfl) (pe_ifExp (pt_cmpR op_eq (pe_call G__law_draw (hr.mono (by decide)) rfl g__law_draw k__law_draw b__law_draw .nil pass0 (pa_cons (pv 1) (pa_cons pe_int pa_nil))) pe_int (nomark _)) (pe_call G_both (hr.mono (by decide)) rfl g_both k_both b_both .nil pass0 (pa_cons (pv 4) (pa_cons (pv 5) pa_nil))) (pe_call G_closed (hr.mono (by decide)) rfl g_closed k_closed b_closed .nil pass0 (pa_cons (pv 4) pa_nil)))))
            pss_nil)
          (pss_cons (ps_asg (pe_tup (pa_cons (pe_call G_both (hr.mono (by decide)) rfl g_both k_both b_both .nil pass0 (pa_cons (pv 4) (pa_cons (pv 5) pa_nil))) (pa_cons (pe_call G_closed (hr.mono (by decide)) rfl g_closed k_closed b_closed .nil pass0 (pa_cons (pv 4) pa_nil)) (pa_cons (pe_call G_highest (hr.mono (by decide)) rfl g_highest k_highest b_highest .nil pass0 (pa_cons (pv 4) pa_nil)) (pa_cons (pe_call G_lowest (hr.mono (by decide)) rfl g_lowest k_lowest b_lowest .nil pass0 (pa_cons (pv 4) pa_nil)) pa_nil))))) (pg_tup rfl (pgs_cons (pg_name (i := 9) sc_law.nd rfl (by first | exact Or.inl rfl | exact Or.inr rfl)) (pgs_cons (pg_name (i := 10) sc_law.nd rfl (by first | exact Or.inl rfl | exact Or.inr rfl)) (pgs_cons (pg_name (i := 11) sc_law.nd rfl (by first | exact Or.inl rfl | exact Or.inr rfl)) (pgs_cons (pg_name (i := 12) sc_law.nd rfl (by first | exact Or.inl rfl | exact Or.inr rfl)) pgs_nil))))))
          (pss_cons (ps_set (i := 6) sc_law.nd rfl (by first | exact Or.inl rfl | exact Or.inr rfl) (pe_op op_add pe_int (pe_call G__law_draw (hr.mono (by decide)) rfl g__law_draw k__law_draw b__law_draw .nil pass0 (pa_cons (pv 1) (pa_cons (pv 3) pa_nil)))))
          (pss_cons (ps_set (i := 7) sc_law.nd rfl (by first | exact Or.inl rfl | exact Or.inr rfl) (pe_ifExp (pt_cmpR op_gt (pv 3) pe_int (nomark _)) (pe_call G_hidden (hr.mono (by decide)) rfl g_hidden k_hidden b_hidden .nil pass0 (pa_cons (pv 4) (pa_cons (pe_tup (pa_cons (pv 6) pa_nil)) pa_nil))) (pv 4)))
          (pss_cons (ps_par (i := 13) (j := 14) (by rfl) sc_law.nd rfl rfl (by decide) rfl rfl (pa_cons (pe_call G_is_within (hr.mono (by decide)) rfl g_is_within k_is_within b_is_within .nil pass0 (pa_cons (pv 4) (pa_cons (pv 5) pa_nil))) (pa_cons pe_int pa_nil)) (by rfl))
          (pss_cons (ps_for PassesOwn.never rfl (pi_list (pe_call G__law_waters (hr.mono (by decide)) rfl g__law_waters k__law_waters b__law_waters .nil pass0 (pa_cons (pv 3) pa_nil))) (pg_name (i := 8) sc_law.nd rfl (by first | exact Or.inl rfl | exact Or.inr rfl))
            (pss_cons (ps_set (i := 15) sc_law.nd rfl (by first | exact Or.inl rfl | exact Or.inr rfl) (pe_meth (pv 4) cT m_fits G_fits (hr.mono (by decide)) b_fits .nil pass0 (pa_cons (pv 8) pa_nil)))
              (pss_cons (ps_set (i := 14) sc_law.nd rfl (by first | exact Or.inl rfl | exact Or.inr rfl) (pe_op op_add (pv 14) (pe_callTy call_int1 (by rfl) T.n_int (by decide +kernel) (pa_cons (pv 15) pa_nil))))
              (pss_cons (ps_if (PW.pt (pw_or (pt_cmpR op_ne (pe_meth (pv 10) cT m_fits G_fits (hr.mono (by decide)) b_fits .nil pass0 (pa_cons (pv 8) pa_nil)) (pv 15) (nomark _)) (pw_or1 (pt_cmpR op_ne (pe_meth (pv 9) cT m_fits G_fits (hr.mono (by decide)) b_fits .nil pass0 (pa_cons (pv 8) pa_nil)) (pe_and (pv 15) (pe_one (pe_meth (pv 5) cT m_fits G_fits (hr.mono (by decide)) b_fits .nil pass0 (pa_cons (pv 8) pa_nil)))) (nomark _)))))
                (pss_one (ps_ret pe_bl))
                pss_nil)
              (pss_cons (ps_if (PW.pt (pw_and (pt_val (pv 15)) (pw_and1 (PW.pt (pw_or (PW.pt (pw_and (pt_val (pv 13)) (pw_and1 (pt_not (pt_val (pe_meth (pv 5) cT m_fits G_fits (hr.mono (by decide)) b_fits .nil pass0 (pa_cons (pv 8) pa_nil))))))) (pw_or1 (pt_val (pe_call G__law_is_passed (hr.mono (by decide)) rfl g__law_is_passed k__law_is_passed b__law_is_passed .nil pass0 (pa_cons (pv 8) (pa_cons (pv 11) (pa_cons (pv 12) pa_nil)))))))))))
                (pss_one (ps_ret pe_bl))
                pss_nil)
              (pss_one (ps_if (PW.pt (pw_and (pt_val (pv 15)) (pw_and1 (pt_cmpR op_gt (pv 3) pe_int (nomark _)))))
                (pss_cons (ps_set (i := 16) sc_law.nd rfl (by first | exact Or.inl rfl | exact Or.inr rfl) (pe_lc (own := [("_law_k", 17), ("_law_level", 18)]) (g := (gTup K 2 (gCons (gName 17) (gCons (gName 18) gNil)))) (wi := (iEnumT K (tCons (tCall (sp_sums C) [] E0 (tCons (tVar 8) tNil)) tNil))) (tt := (tTest (tOp rNe (tVar 17) (tVar 6)))) (te := (tVar 18)) rfl sc_law.nd (pi_enumT (by rfl) T.n_enumerate (pa_cons (pe_call G_sums (hr.mono (by decide)) rfl g_sums k_sums b_sums .nil pass0 (pa_cons (pv 8) pa_nil)) pa_nil)) (blkOk_by (N := ["_law_script", "_law_state", "_law_turn", "_law_many", "_law_left", "_law_right", "_law_spot", "_law_slim", "_law_pool", "_law_shared", "_law_known", "_law_top", "_law_low", "_law_is_in", "_law_fitting", "_law_fits_here", "_law_levels", "_law_k", "_law_level"]) (sc := defScope sx_law) (by decide +kernel)) (fun _ _ _ _ _ => (pg_tup rfl (pgs_cons (pg_name (i := 17) sc_law.nd rfl (by first | exact Or.inl rfl | exact Or.inr rfl)) (pgs_cons (pg_name (i := 18) sc_law.nd rfl (by first | exact Or.inl rfl | exact Or.inr rfl)) pgs_nil)))) (fun _ _ _ _ _ => (pts_one (pt_cmpR op_ne (pv 17) (pv 6) (nomark _)))) (fun _ _ _ _ _ => (pv 18))))
                  (pss_one (ps_if (pt_not (pt_val (pe_meth (pv 7) cT m_fits G_fits (hr.mono (by decide)) b_fits .nil pass0 (pa_cons (pe_callTy call_tuple_of (by rfl) T.n_tuple (by decide +kernel) (pa_cons (pe_lc (own := [("_law_k", 17)]) (g := (gName 17)) (wi := (iRng1 (tCons (tOp rSubI (tVar 3) (tC (.int 1))) tNil))) (tt := tYes) (te := (tOp rSubI (tOp (rIxL K) (tVar 16) (tOp rAddI (tVar 17) (tC (.int 1)))) (tOp (rIxL K) (tVar 16) (tVar 17)))) rfl sc_law.nd (pi_range1 rfl T.n_range (pa_cons (pe_op op_sub (pv 3) pe_int) pa_nil)) (blkOk_by (N := ["_law_script", "_law_state", "_law_turn", "_law_many", "_law_left", "_law_right", "_law_spot", "_law_slim", "_law_pool", "_law_shared", "_law_known", "_law_top", "_law_low", "_law_is_in", "_law_fitting", "_law_fits_here", "_law_levels", "_law_k", "_law_level"]) (sc := defScope sx_law) (by decide +kernel)) (fun _ _ _ _ _ => (pg_name (i := 17) sc_law.nd rfl (by first | exact Or.inl rfl | exact Or.inr rfl))) (fun _ _ _ _ _ => pts_nil) (fun _ _ _ _ _ => (pe_op op_sub (pe_ix ix_list (pv 16) (pe_op op_add (pv 17) pe_int) (fun _ _ => rfl)) (pe_ix ix_list (pv 16) (pv 17) (fun _ _ => rfl))))) pa_nil)) pa_nil))))
                    (pss_one (ps_ret pe_bl))
                    pss_nil)))
                pss_nil)))))))
          (pss_cons (ps_if (PW.pt (pw_or (PW.pt (pw_and (pt_cmp (pc_notN (pe_call G_ring (hr.mono (by decide)) rfl g_ring k_ring b_ring .nil pass0 (pa_cons (pv 4) pa_nil)))) (pw_and1 (pt_cmpR op_gt (pv 14) pe_int (nomark _))))) (pw_or1 (PW.pt (pw_and (pt_not (pt_val (pv 13))) (pw_and1 (pt_not (pt_val (pe_call G__law_out (hr.mono (by decide)) rfl g__law_out k__law_out b__law_out .nil pass0 (pa_cons (pv 4) (pa_cons (pv 5) (pa_cons (pv 3) pa_nil))))))))))))
            (pss_one (ps_ret pe_bl))
            pss_nil)
          (pss_one (ps_if (PW.pt (pw_or (pt_not (pt_val (pe_call G_is_same (hr.mono (by decide)) rfl g_is_same k_is_same b_is_same .nil pass0 (pa_cons (pv 10) (pa_cons (pv 4) pa_nil))))) (pw_or (pt_not (pt_val (pe_call G_is_within (hr.mono (by decide)) rfl g_is_within k_is_within b_is_within .nil pass0 (pa_cons (pv 9) (pa_cons (pv 4) pa_nil))))) (pw_or1 (pt_not (pt_val (pe_call G_is_within (hr.mono (by decide)) rfl g_is_within k_is_within b_is_within .nil pass0 (pa_cons (pv 9) (pa_cons (pv 5) pa_nil)))))))))
            (pss_one (ps_ret pe_bl))
            pss_nil)))))))))))))
      (pss_one (ps_ret pe_bl)))), ?_⟩
    obtain ⟨a, ns, rfl, h1, h2, kk⟩ := h
    exact pure_law (K := K) (C := C) TF h1 h2 kk
end Bw
/-! A head's facts with properties of classes, and with classes asked by isinstance. -/
namespace BwHk
open PySem PySem.Spec PyProof.Rows L2 He
/-- a property: its class, its name, its getter's def -/
structure PrD where
  cls : Str
  f : Str
  d : DefD
def prA (K : PySem.W.Frag) (q : PrD) : Addr := ma K (ga K q.cls) q.f
def prG (K : PySem.W.Frag) (q : PrD) : Addr := match PySem.W.recIn K (prA K q) "property" with
  | some (.ref g :: _) => g
  | _ => 0
def prR (K : PySem.W.Frag) (q : PrD) : Bool := match PySem.W.recIn K (prA K q) "property" with
  | some (.ref _ :: _) => true
  | _ => false
def prW (K : PySem.W.Frag) (q : PrD) : FnW := match K.lookup (prG K q) with
  | some ⟨_, _, .func fd, _⟩ => some (fd.name, fd.qualname, fd.params, fd.body, fd.scope, fd.globals, fd.closure, fd.builtins)
  | _ => none
def prF (K : PySem.W.Frag) (q : PrD) : Bool := match K.lookup (prG K q) with
  | some ⟨_, _, .func fd, _⟩ => PySem.W.codeIn K fd.code q.d.qual && (dflB K fd.defaults [] && kwdB K fd.kwdefaults [])
  | _ => false
def prB (K : PySem.W.Frag) (q : PrD) : Bool := eqO (PySem.W.findIn K (.ref (ga K q.cls)) q.f) (some (some (.ref (prA K q)))) && (eqO (PySem.W.specialIn K (.ref (prA K q)) "__get__") (some (some (.builtin "property.__get__"))) && (decide (PySem.W.takesIn K (.ref (prA K q)) = some true) && (prR K q && (PySem.W.keepIn K (.ref (prG K q)) && prF K q))))
def tyB (K : PySem.W.Frag) (x : Str) : Bool := decide (PySem.W.kitOne K (.ref (ga K x)) (.ref (ga K x)) = some true) && (eqO (PySem.W.findIn K (.ref (ga K x)) "__class__") (some (some (.builtin "object.__class__"))) && (eqO (PySem.W.specialIn K (.builtin "object.__class__") "__get__") (some (some (.builtin "getset_descriptor.__get__"))) && (decide (PySem.W.takesIn K (.builtin "object.__class__") = some true) && decide (PySem.W.mroIn K (ga K x) (.type "object") = some true))))
theorem pr_ok {K : PySem.W.Frag} {q : PrD} (e : prW K q = q.d.val) (c : prB K q = true) : PropOf K (ga K q.cls) q.f (prA K q) (prG K q) ∧ ∃ fd, FunD K q.d.name q.d.qual q.d.params q.d.body q.d.scope [] [] (prG K q) fd := by
  obtain ⟨c1, c⟩ := ba c
  obtain ⟨c2, c⟩ := ba c
  obtain ⟨c3, c⟩ := ba c
  obtain ⟨c4, c⟩ := ba c
  obtain ⟨c5, c6⟩ := ba c
  refine ⟨⟨eqO_ok c1, eqO_ok c2, of_decide_eq_true c3, ?_⟩, ?_⟩
  · unfold prR at c4
    unfold prG
    split at c4
    · rename_i g r hq
      exact ⟨r, by rw [hq]⟩
    · cases c4
  · unfold prF at c6
    unfold prW at e
    cases hl : K.lookup (prG K q) with
    | none =>
      rw [hl] at c6
      cases c6
    | some o =>
      obtain ⟨oc, od, dt, osl⟩ := o
      rw [hl] at c6 e
      cases dt with
      | func fd =>
        obtain ⟨n1, n2, n3, n4, n5, n6, n7, n8, n9, n10, n11, n12, n13, n14, n15⟩ := fd
        have e2 : (some (n1, n2, n3, n4, n5, n6, n7, n15) : FnW) = some (q.d.name, q.d.qual, q.d.params, .stmts q.d.body, q.d.scope, mainGlobals, [], builtinsNs) := e
        injection e2 with e3
        injection e3 with h1 e3
        injection e3 with h2 e3
        injection e3 with h3 e3
        injection e3 with h4 e3
        injection e3 with h5 e3
        injection e3 with h6 e3
        injection e3 with h7 h8
        obtain ⟨k1, k2⟩ := ba (show (PySem.W.codeIn K n13 q.d.qual && (dflB K n8 [] && kwdB K n9 [])) = true from c6)
        obtain ⟨k3, k4⟩ := ba k2
        subst h1 h2 h3 h4 h5 h6 h7 h8
        exact ⟨_, ⟨oc, od, n8, n9, n10, n11, n12, n13, n14, osl, rfl, hl, k1, dflB_ok k3, kwdB_ok k4⟩, c5⟩
      | _ => cases c6
theorem ty_ok {K : PySem.W.Frag} {x : Str} (cl : Cls K (ga K x)) (c : tyB K x = true) : PySem.W.kitOne K (.ref (ga K x)) (.ref (ga K x)) = some true ∧ ∀ (H : Hp) (a dx : Addr) (fs : List (Str × V)), H a = some (.ins (ga K x) dx fs) → TyX K H (.ref a) (.ref (ga K x)) := by
  obtain ⟨c1, c⟩ := ba c
  obtain ⟨c2, c⟩ := ba c
  obtain ⟨c3, c⟩ := ba c
  obtain ⟨c4, c5⟩ := ba c
  exact ⟨of_decide_eq_true c1, fun H a dx fs h => .base (.ins h cl (eqO_ok c2) (eqO_ok c3) (of_decide_eq_true c4) (of_decide_eq_true c5))⟩
/-! ### the Hook -/
abbrev AlP : Type := AlD × Bool × List FnW
def obsP (fa : List Fa) (fn : List DefD) (pr : List PrD) (ty : List Str) (K : PySem.W.Frag) : AlP := (obsD fa fn K, (pr.all fun q => prB K q) && (ty.all fun x => tyB K x), pr.map fun q => prW K q)
def valP (fn : List DefD) (pr : List PrD) : AlP := (valD fn, true, pr.map fun q => q.d.val)
def SaysP (fa : List Fa) (fn : List DefD) (pr : List PrD) (ty : List Str) (K : PySem.W.Frag) : Prop := obsP fa fn pr ty K = valP fn pr
def obsPG (n : Nat) (fa : List Fa) (fn : List DefD) (pr : List PrD) (ty : List Str) (g : Addr → Option Obj) : AlP := obsP fa fn pr ty (frG g (asD g n))
def hookP (n : Nat) (fa : List Fa) (fn : List DefD) (pr : List PrD) (ty : List Str) : PySem.W.Hook where
  α := AlP
  obs := fun s => obsPG n fa fn pr ty s.heap.get?
  val := fun _ => valP fn pr
  says := fun _ h => ∃ K : PySem.W.Frag, K.In h ∧ SaysP fa fn pr ty K
  of := fun _ _ e => ⟨_, frG_in, e⟩
  keeps := fun _ _ _ ⟨K, hK, c⟩ k => ⟨K, PySem.W.Frag.In.keeps hK k, c⟩
theorem obsPG_eq {n : Nat} {fa : List Fa} {fn : List DefD} {pr : List PrD} {ty : List Str} {g : Addr → Option Obj} {s : Shared} (h : ∀ a, g a = s.heap.get? a) : obsPG n fa fn pr ty g = (hookP n fa fn pr ty).obs s := by
  have e : g = s.heap.get? := funext h
  rw [e] <;> rfl
section
variable {fa : List Fa} {fn : List DefD} {pr : List PrD} {ty : List Str} {K : PySem.W.Frag}
theorem SaysP.d (c : SaysP fa fn pr ty K) : SaysD fa fn K := congrArg (fun z : AlP => z.1) c
theorem SaysP.prop_ (c : SaysP fa fn pr ty K) (i : Nat) {q : PrD} (h : pr[i]? = some q := by rfl) : PropOf K (ga K q.cls) q.f (prA K q) (prG K q) ∧ ∃ fd, FunD K q.d.name q.d.qual q.d.params q.d.body q.d.scope [] [] (prG K q) fd := by
  have c1 := (ba (show ((pr.all fun q => prB K q) && (ty.all fun x => tyB K x)) = true from congrArg (fun z : AlP => z.2.1) c)).1
  have e : pr.map (fun q => prW K q) = pr.map fun q => q.d.val := congrArg (fun z : AlP => z.2.2) c
  have e2 : (pr.map fun q => prW K q)[i]? = (pr.map fun q => q.d.val)[i]? := by rw [e]
  rw [List.getElem?_map, List.getElem?_map, h] at e2
  exact pr_ok (Option.some.inj e2) (List.all_eq_true.mp c1 q (List.mem_of_getElem? h))
theorem SaysP.isty_ (c : SaysP fa fn pr ty K) (i : Nat) {x : Str} (h : ty[i]? = some x := by rfl) : tyB K x = true := by
  have c1 := (ba (show ((pr.all fun q => prB K q) && (ty.all fun x => tyB K x)) = true from congrArg (fun z : AlP => z.2.1) c)).2
  exact List.all_eq_true.mp c1 x (List.mem_of_getElem? h)
end
end BwHk
set_option maxHeartbeats 8000000
namespace Bw
open PySem PySem.Spec PyProof.Rows L2
def dd_is_number : He.DefD := ⟨("is_number", none), "is_number", "is_number", defArgs sx_is_number, defBody sx_is_number, defScope sx_is_number, [], []⟩
def dd_is_water : He.DefD := ⟨("is_water", none), "is_water", "is_water", defArgs sx_is_water, defBody sx_is_water, defScope sx_is_water, [], []⟩
def dd_sums : He.DefD := ⟨("sums", none), "sums", "sums", defArgs sx_sums, defBody sx_sums, defScope sx_sums, [], []⟩
def dd__need_table : He.DefD := ⟨("_need_table", none), "_need_table", "_need_table", defArgs sx__need_table, defBody sx__need_table, defScope sx__need_table, [], []⟩
def dd_is_number_between : He.DefD := ⟨("is_number_between", none), "is_number_between", "is_number_between", defArgs sx_is_number_between, defBody sx_is_number_between, defScope sx_is_number_between, [], []⟩
def dd_is_pair : He.DefD := ⟨("is_pair", none), "is_pair", "is_pair", defArgs sx_is_pair, defBody sx_is_pair, defScope sx_is_pair, [], []⟩
def dd__are_bounds : He.DefD := ⟨("_are_bounds", none), "_are_bounds", "_are_bounds", defArgs sx__are_bounds, defBody sx__are_bounds, defScope sx__are_bounds, [], []⟩
def dd_Table___init__ : He.DefD := ⟨("Table", some "__init__"), "__init__", "Table.__init__", defArgs sx_Table___init__, defBody sx_Table___init__, defScope sx_Table___init__, [.non], []⟩
def dd_nothing : He.DefD := ⟨("nothing", none), "nothing", "nothing", defArgs sx_nothing, defBody sx_nothing, defScope sx_nothing, [], []⟩
def dd__go_through : He.DefD := ⟨("_go_through", none), "_go_through", "_go_through", defArgs sx__go_through, defBody sx__go_through, defScope sx__go_through, [], []⟩
def dd_Table_size : He.DefD := ⟨("Table", some "size"), "size", "Table.size", defArgs sx_Table_size, defBody sx_Table_size, defScope sx_Table_size, [], []⟩
def dd_Table_bounds : He.DefD := ⟨("Table", some "bounds"), "bounds", "Table.bounds", defArgs sx_Table_bounds, defBody sx_Table_bounds, defScope sx_Table_bounds, [], []⟩
def dd__least_ways : He.DefD := ⟨("_least_ways", none), "_least_ways", "_least_ways", defArgs sx__least_ways, defBody sx__least_ways, defScope sx__least_ways, [], []⟩
def dd__table_of : He.DefD := ⟨("_table_of", none), "_table_of", "_table_of", defArgs sx__table_of, defBody sx__table_of, defScope sx__table_of, [], []⟩
def dd_closed : He.DefD := ⟨("closed", none), "closed", "closed", defArgs sx_closed, defBody sx_closed, defScope sx_closed, [], []⟩
def dd__ring_behind : He.DefD := ⟨("_ring_behind", none), "_ring_behind", "_ring_behind", defArgs sx__ring_behind, defBody sx__ring_behind, defScope sx__ring_behind, [], []⟩
def dd_losing_ring : He.DefD := ⟨("losing_ring", none), "losing_ring", "losing_ring", defArgs sx_losing_ring, defBody sx_losing_ring, defScope sx_losing_ring, [], []⟩
def dd_ring : He.DefD := ⟨("ring", none), "ring", "ring", defArgs sx_ring, defBody sx_ring, defScope sx_ring, [], []⟩
def dd__need_two : He.DefD := ⟨("_need_two", none), "_need_two", "_need_two", defArgs sx__need_two, defBody sx__need_two, defScope sx__need_two, [], []⟩
def dd_is_within : He.DefD := ⟨("is_within", none), "is_within", "is_within", defArgs sx_is_within, defBody sx_is_within, defScope sx_is_within, [], []⟩
def dd_is_same : He.DefD := ⟨("is_same", none), "is_same", "is_same", defArgs sx_is_same, defBody sx_is_same, defScope sx_is_same, [], []⟩
def dd_both : He.DefD := ⟨("both", none), "both", "both", defArgs sx_both, defBody sx_both, defScope sx_both, [], []⟩
def dd_water_of : He.DefD := ⟨("water_of", none), "water_of", "water_of", defArgs sx_water_of, defBody sx_water_of, defScope sx_water_of, [], []⟩
def dd_highest : He.DefD := ⟨("highest", none), "highest", "highest", defArgs sx_highest, defBody sx_highest, defScope sx_highest, [], []⟩
def dd_lowest : He.DefD := ⟨("lowest", none), "lowest", "lowest", defArgs sx_lowest, defBody sx_lowest, defScope sx_lowest, [], []⟩
def dd__can_hide : He.DefD := ⟨("_can_hide", none), "_can_hide", "_can_hide", defArgs sx__can_hide, defBody sx__can_hide, defScope sx__can_hide, [], []⟩
def dd_hidden : He.DefD := ⟨("hidden", none), "hidden", "hidden", defArgs sx_hidden, defBody sx_hidden, defScope sx_hidden, [], []⟩
def dd__law_begun : He.DefD := ⟨("_law_begun", none), "_law_begun", "_law_begun", defArgs sx__law_begun, defBody sx__law_begun, defScope sx__law_begun, [], []⟩
def dd__law_draw : He.DefD := ⟨("_law_draw", none), "_law_draw", "_law_draw", defArgs sx__law_draw, defBody sx__law_draw, defScope sx__law_draw, [], []⟩
def dd__law_pick : He.DefD := ⟨("_law_pick", none), "_law_pick", "_law_pick", defArgs sx__law_pick, defBody sx__law_pick, defScope sx__law_pick, [], []⟩
def dd__law_caps : He.DefD := ⟨("_law_caps", none), "_law_caps", "_law_caps", defArgs sx__law_caps, defBody sx__law_caps, defScope sx__law_caps, [], []⟩
def dd__law_waters : He.DefD := ⟨("_law_waters", none), "_law_waters", "_law_waters", defArgs sx__law_waters, defBody sx__law_waters, defScope sx__law_waters, [], []⟩
def dd__law_is_passed : He.DefD := ⟨("_law_is_passed", none), "_law_is_passed", "_law_is_passed", defArgs sx__law_is_passed, defBody sx__law_is_passed, defScope sx__law_is_passed, [], []⟩
def dd__law_out : He.DefD := ⟨("_law_out", none), "_law_out", "_law_out", defArgs sx__law_out, defBody sx__law_out, defScope sx__law_out, [], []⟩
def dd_Table_fits : He.DefD := ⟨("Table", some "fits"), "fits", "Table.fits", defArgs sx_Table_fits, defBody sx_Table_fits, defScope sx_Table_fits, [], []⟩
def dd_law : He.DefD := ⟨("law", none), "law", "law", defArgs sx_law, defBody sx_law, defScope sx_law, [], []⟩
def fn : List He.DefD := [dd_is_number, dd_is_water, dd_sums, dd__need_table, dd_is_number_between, dd_is_pair, dd__are_bounds, dd_nothing, dd__go_through, dd__least_ways, dd__table_of, dd_closed, dd__ring_behind, dd_losing_ring, dd_ring, dd__need_two, dd_is_within, dd_is_same, dd_both, dd_water_of, dd_highest, dd_lowest, dd__can_hide, dd_hidden, dd__law_begun, dd__law_draw, dd__law_pick, dd__law_caps, dd__law_waters, dd__law_is_passed, dd__law_out, dd_law, dd_Table___init__, dd_Table_fits]
def pr : List BwHk.PrD := [⟨"Table", "size", dd_Table_size⟩, ⟨"Table", "bounds", dd_Table_bounds⟩]
def fa : List He.Fa := [.glo "is_number", .glo "is_water", .glo "sums", .glo "_need_table", .glo "is_number_between", .glo "is_pair", .glo "_are_bounds", .glo "nothing", .glo "_go_through", .glo "_least_ways", .glo "_table_of", .glo "closed", .glo "_ring_behind", .glo "losing_ring", .glo "ring", .glo "_need_two", .glo "is_within", .glo "is_same", .glo "both", .glo "water_of", .glo "highest", .glo "lowest", .glo "_can_hide", .glo "hidden", .glo "_law_begun", .glo "_law_draw", .glo "_law_pick", .glo "_law_caps", .glo "_law_waters", .glo "_law_is_passed", .glo "_law_out", .glo "law", .glo "Table", .int "MOST_CELLS" 12, .cls "Table", .noat "Table" "_size", .noat "Table" "_bounds", .meth "Table" "fits", .mkr "Table", .free "isinstance", .free "len", .free "all", .free "sorted", .free "range", .free "enumerate", .free "zip", .free "int", .free "bool", .free "tuple", .free "dict", .free "list", .free "abs", .free "min", .free "max", .free "sum", .free "set"]
def loose0 : List PySem.Str := ["RiverError", "BadWater", "BadTable", "OtherSize", "BadPoints", "is_number", "is_number_between", "is_pair", "losing_ring", "_ring_behind", "MOST_CELLS", "is_water", "sums", "water_of", "_are_bounds", "Table", "_need_table", "_need_two", "nothing", "_least_ways", "_go_through", "_table_of", "closed", "ring", "is_within", "is_same", "both", "highest", "lowest", "hidden"]
def loose1 : List PySem.Str := ["_can_hide", "_law_begun", "_law_draw", "_law_pick", "_law_caps", "_law_waters", "_law_is_passed", "_law_out"]
def loose : List PySem.Str := loose0 ++ loose1
abbrev RR : PySem.W.OpenRow := PySem.W.OpenLaw.row PySem.Challenge.rw_blindweirs_k10_whole_tables_and_all_smal
abbrev hk : PySem.W.Hook := BwHk.hookP 7 fa fn pr ["Table"]
def ob (s : PySem.W.SharedT) : BwHk.AlP := BwHk.obsPG 7 fa fn pr ["Table"] (HandSHeadRun.getT s)
theorem ob_eq (s : PySem.W.SharedT) : ob s = hk.obs s.abs := BwHk.obsPG_eq (HandSHeadRun.getT_eq s)
theorem binds_init {K : PySem.W.Frag} {f : Addr} {fd : FuncData} (F : FunD K "__init__" "Table.__init__" (defArgs sx_Table___init__) (defBody sx_Table___init__) (defScope sx_Table___init__) [.non] [] f fd) : Binds K fd ["self", "size", "bounds"] [] := by
  obtain ⟨ds, v, b⟩ := FunD.binds1 (ps := ["self", "size", "bounds"]) F 3 1 (by simp) rfl fun Tt kV doc pm an cdv ct us its hu hi => match us, its, hu, hi with
    | [_, _, _], [_], _, _ => ⟨_, rfl, rfl⟩
  cases v
  exact b
theorem facts {P : Program} {w : World} {K : PySem.W.Frag} {h : Heap} {mg : Str → Option Value} {f : Addr} (X : K.In h) (G : h.Ns mainGlobals mg) (hfa : mg ("law" : Str) = some (.ref f)) (c : BwHk.SaysP fa fn pr ["Table"] K) :
    ∃ fd : FuncData, (∀ (s : Shared) (v : Value), BindsTo s fd ⟨[v], []⟩ [("_law_script", v)]) ∧ ∀ base : Heap, K.In base → base.Ns mainGlobals mg → FnOk P w K mg base CX0 24 f fd ["_law_script"] (sp_law K) := by
  have cd := c.d
  have cT : Cls K (He.ga K "Table") := He.cls_ok (cd.fact 34 (f := .cls "Table") rfl)
  have ty := BwHk.ty_ok cT (c.isty_ 0 (x := "Table") rfl)
  have TF : TabF K (He.ga K "Table") := ⟨cT, He.noat_ok (cd.fact 35 (f := .noat "Table" "_size") rfl), He.noat_ok (cd.fact 36 (f := .noat "Table" "_bounds") rfl), ty.2, ty.1⟩
  have m_fits : Meth K (He.ga K "Table") "fits" (He.ma K (He.ga K "Table") "fits") := He.meth_ok (cd.fact 37 (f := .meth "Table" "fits") rfl)
  have mk : Mk K (He.ga K "Table") (He.ma K (He.ga K "Table") "__init__") := He.mkr_ok (cd.fact 38 (f := .mkr "Table") rfl)
  have gTable := He.glo_ok X G (cd.fact 32 (f := .glo "Table") rfl)
  have gMOST := He.int_ok X G (cd.fact 33 (f := .int "MOST_CELLS" 12) rfl)
  have T : TxtB mg := ⟨He.free_ok X G (cd.fact 39 (f := .free "isinstance") rfl), He.free_ok X G (cd.fact 40 (f := .free "len") rfl), He.free_ok X G (cd.fact 41 (f := .free "all") rfl), He.free_ok X G (cd.fact 42 (f := .free "sorted") rfl), He.free_ok X G (cd.fact 43 (f := .free "range") rfl), He.free_ok X G (cd.fact 44 (f := .free "enumerate") rfl), He.free_ok X G (cd.fact 45 (f := .free "zip") rfl), He.free_ok X G (cd.fact 46 (f := .free "int") rfl), He.free_ok X G (cd.fact 47 (f := .free "bool") rfl), He.free_ok X G (cd.fact 48 (f := .free "tuple") rfl), He.free_ok X G (cd.fact 49 (f := .free "dict") rfl), He.free_ok X G (cd.fact 50 (f := .free "list") rfl), He.free_ok X G (cd.fact 51 (f := .free "abs") rfl), He.free_ok X G (cd.fact 52 (f := .free "min") rfl), He.free_ok X G (cd.fact 53 (f := .free "max") rfl), He.free_ok X G (cd.fact 54 (f := .free "sum") rfl), He.free_ok X G (cd.fact 55 (f := .free "set") rfl)⟩
  have g_is_number := He.glo_ok X G (cd.fact 0 (f := .glo "is_number") rfl)
  have g_is_water := He.glo_ok X G (cd.fact 1 (f := .glo "is_water") rfl)
  have g_sums := He.glo_ok X G (cd.fact 2 (f := .glo "sums") rfl)
  have g__need_table := He.glo_ok X G (cd.fact 3 (f := .glo "_need_table") rfl)
  have g_is_number_between := He.glo_ok X G (cd.fact 4 (f := .glo "is_number_between") rfl)
  have g_is_pair := He.glo_ok X G (cd.fact 5 (f := .glo "is_pair") rfl)
  have g__are_bounds := He.glo_ok X G (cd.fact 6 (f := .glo "_are_bounds") rfl)
  have g_nothing := He.glo_ok X G (cd.fact 7 (f := .glo "nothing") rfl)
  have g__go_through := He.glo_ok X G (cd.fact 8 (f := .glo "_go_through") rfl)
  have g__least_ways := He.glo_ok X G (cd.fact 9 (f := .glo "_least_ways") rfl)
  have g__table_of := He.glo_ok X G (cd.fact 10 (f := .glo "_table_of") rfl)
  have g_closed := He.glo_ok X G (cd.fact 11 (f := .glo "closed") rfl)
  have g__ring_behind := He.glo_ok X G (cd.fact 12 (f := .glo "_ring_behind") rfl)
  have g_losing_ring := He.glo_ok X G (cd.fact 13 (f := .glo "losing_ring") rfl)
  have g_ring := He.glo_ok X G (cd.fact 14 (f := .glo "ring") rfl)
  have g__need_two := He.glo_ok X G (cd.fact 15 (f := .glo "_need_two") rfl)
  have g_is_within := He.glo_ok X G (cd.fact 16 (f := .glo "is_within") rfl)
  have g_is_same := He.glo_ok X G (cd.fact 17 (f := .glo "is_same") rfl)
  have g_both := He.glo_ok X G (cd.fact 18 (f := .glo "both") rfl)
  have g_water_of := He.glo_ok X G (cd.fact 19 (f := .glo "water_of") rfl)
  have g_highest := He.glo_ok X G (cd.fact 20 (f := .glo "highest") rfl)
  have g_lowest := He.glo_ok X G (cd.fact 21 (f := .glo "lowest") rfl)
  have g__can_hide := He.glo_ok X G (cd.fact 22 (f := .glo "_can_hide") rfl)
  have g_hidden := He.glo_ok X G (cd.fact 23 (f := .glo "hidden") rfl)
  have g__law_begun := He.glo_ok X G (cd.fact 24 (f := .glo "_law_begun") rfl)
  have g__law_draw := He.glo_ok X G (cd.fact 25 (f := .glo "_law_draw") rfl)
  have g__law_pick := He.glo_ok X G (cd.fact 26 (f := .glo "_law_pick") rfl)
  have g__law_caps := He.glo_ok X G (cd.fact 27 (f := .glo "_law_caps") rfl)
  have g__law_waters := He.glo_ok X G (cd.fact 28 (f := .glo "_law_waters") rfl)
  have g__law_is_passed := He.glo_ok X G (cd.fact 29 (f := .glo "_law_is_passed") rfl)
  have g__law_out := He.glo_ok X G (cd.fact 30 (f := .glo "_law_out") rfl)
  have g_law := He.glo_ok X G (cd.fact 31 (f := .glo "law") rfl)
  obtain ⟨d_is_number, F_is_number⟩ := cd.def_ 0 (d := dd_is_number) rfl
  obtain ⟨d_is_water, F_is_water⟩ := cd.def_ 1 (d := dd_is_water) rfl
  obtain ⟨d_sums, F_sums⟩ := cd.def_ 2 (d := dd_sums) rfl
  obtain ⟨d__need_table, F__need_table⟩ := cd.def_ 3 (d := dd__need_table) rfl
  obtain ⟨d_is_number_between, F_is_number_between⟩ := cd.def_ 4 (d := dd_is_number_between) rfl
  obtain ⟨d_is_pair, F_is_pair⟩ := cd.def_ 5 (d := dd_is_pair) rfl
  obtain ⟨d__are_bounds, F__are_bounds⟩ := cd.def_ 6 (d := dd__are_bounds) rfl
  obtain ⟨d_nothing, F_nothing⟩ := cd.def_ 7 (d := dd_nothing) rfl
  obtain ⟨d__go_through, F__go_through⟩ := cd.def_ 8 (d := dd__go_through) rfl
  obtain ⟨d__least_ways, F__least_ways⟩ := cd.def_ 9 (d := dd__least_ways) rfl
  obtain ⟨d__table_of, F__table_of⟩ := cd.def_ 10 (d := dd__table_of) rfl
  obtain ⟨d_closed, F_closed⟩ := cd.def_ 11 (d := dd_closed) rfl
  obtain ⟨d__ring_behind, F__ring_behind⟩ := cd.def_ 12 (d := dd__ring_behind) rfl
  obtain ⟨d_losing_ring, F_losing_ring⟩ := cd.def_ 13 (d := dd_losing_ring) rfl
  obtain ⟨d_ring, F_ring⟩ := cd.def_ 14 (d := dd_ring) rfl
  obtain ⟨d__need_two, F__need_two⟩ := cd.def_ 15 (d := dd__need_two) rfl
  obtain ⟨d_is_within, F_is_within⟩ := cd.def_ 16 (d := dd_is_within) rfl
  obtain ⟨d_is_same, F_is_same⟩ := cd.def_ 17 (d := dd_is_same) rfl
  obtain ⟨d_both, F_both⟩ := cd.def_ 18 (d := dd_both) rfl
  obtain ⟨d_water_of, F_water_of⟩ := cd.def_ 19 (d := dd_water_of) rfl
  obtain ⟨d_highest, F_highest⟩ := cd.def_ 20 (d := dd_highest) rfl
  obtain ⟨d_lowest, F_lowest⟩ := cd.def_ 21 (d := dd_lowest) rfl
  obtain ⟨d__can_hide, F__can_hide⟩ := cd.def_ 22 (d := dd__can_hide) rfl
  obtain ⟨d_hidden, F_hidden⟩ := cd.def_ 23 (d := dd_hidden) rfl
  obtain ⟨d__law_begun, F__law_begun⟩ := cd.def_ 24 (d := dd__law_begun) rfl
  obtain ⟨d__law_draw, F__law_draw⟩ := cd.def_ 25 (d := dd__law_draw) rfl
  obtain ⟨d__law_pick, F__law_pick⟩ := cd.def_ 26 (d := dd__law_pick) rfl
  obtain ⟨d__law_caps, F__law_caps⟩ := cd.def_ 27 (d := dd__law_caps) rfl
  obtain ⟨d__law_waters, F__law_waters⟩ := cd.def_ 28 (d := dd__law_waters) rfl
  obtain ⟨d__law_is_passed, F__law_is_passed⟩ := cd.def_ 29 (d := dd__law_is_passed) rfl
  obtain ⟨d__law_out, F__law_out⟩ := cd.def_ 30 (d := dd__law_out) rfl
  obtain ⟨d_law, F_law⟩ := cd.def_ 31 (d := dd_law) rfl
  obtain ⟨d_Table___init__, F_Table___init__⟩ := cd.def_ 32 (d := dd_Table___init__) rfl
  obtain ⟨d_Table_fits, F_Table_fits⟩ := cd.def_ 33 (d := dd_Table_fits) rfl
  obtain ⟨hp_size, d_Table_size, F_Table_size⟩ := c.prop_ 0 (q := ⟨"Table", "size", dd_Table_size⟩) rfl
  obtain ⟨hp_bounds, d_Table_bounds, F_Table_bounds⟩ := c.prop_ 1 (q := ⟨"Table", "bounds", dd_Table_bounds⟩) rfl
  have b_is_number : Binds K d_is_number ["thing"] [] := FunD.bindsN (ps := ["thing"]) F_is_number fun _ _ _ _ _ _ us hl => match us, hl with | [_], _ => rfl
  have b_is_water : Binds K d_is_water ["thing"] [] := FunD.bindsN (ps := ["thing"]) F_is_water fun _ _ _ _ _ _ us hl => match us, hl with | [_], _ => rfl
  have b_sums : Binds K d_sums ["water"] [] := FunD.bindsN (ps := ["water"]) F_sums fun _ _ _ _ _ _ us hl => match us, hl with | [_], _ => rfl
  have b__need_table : Binds K d__need_table ["table", "part"] [] := FunD.bindsN (ps := ["table", "part"]) F__need_table fun _ _ _ _ _ _ us hl => match us, hl with | [_, _], _ => rfl
  have b_is_number_between : Binds K d_is_number_between ["thing", "least", "most"] [] := FunD.bindsN (ps := ["thing", "least", "most"]) F_is_number_between fun _ _ _ _ _ _ us hl => match us, hl with | [_, _, _], _ => rfl
  have b_is_pair : Binds K d_is_pair ["thing"] [] := FunD.bindsN (ps := ["thing"]) F_is_pair fun _ _ _ _ _ _ us hl => match us, hl with | [_], _ => rfl
  have b__are_bounds : Binds K d__are_bounds ["thing", "size"] [] := FunD.bindsN (ps := ["thing", "size"]) F__are_bounds fun _ _ _ _ _ _ us hl => match us, hl with | [_, _], _ => rfl
  have b_Table___init__ : Binds K d_Table___init__ ["self", "size", "bounds"] [] := binds_init F_Table___init__
  have b_nothing : Binds K d_nothing ["size"] [] := FunD.bindsN (ps := ["size"]) F_nothing fun _ _ _ _ _ _ us hl => match us, hl with | [_], _ => rfl
  have b__go_through : Binds K d__go_through ["least", "a", "middle"] [] := FunD.bindsN (ps := ["least", "a", "middle"]) F__go_through fun _ _ _ _ _ _ us hl => match us, hl with | [_, _, _], _ => rfl
  have b_Table_size : Binds K d_Table_size ["self"] [] := FunD.bindsN (ps := ["self"]) F_Table_size fun _ _ _ _ _ _ us hl => match us, hl with | [_], _ => rfl
  have b_Table_bounds : Binds K d_Table_bounds ["self"] [] := FunD.bindsN (ps := ["self"]) F_Table_bounds fun _ _ _ _ _ _ us hl => match us, hl with | [_], _ => rfl
  have b__least_ways : Binds K d__least_ways ["table"] [] := FunD.bindsN (ps := ["table"]) F__least_ways fun _ _ _ _ _ _ us hl => match us, hl with | [_], _ => rfl
  have b__table_of : Binds K d__table_of ["least"] [] := FunD.bindsN (ps := ["least"]) F__table_of fun _ _ _ _ _ _ us hl => match us, hl with | [_], _ => rfl
  have b_closed : Binds K d_closed ["table"] [] := FunD.bindsN (ps := ["table"]) F_closed fun _ _ _ _ _ _ us hl => match us, hl with | [_], _ => rfl
  have b__ring_behind : Binds K d__ring_behind ["ahead", "start"] [] := FunD.bindsN (ps := ["ahead", "start"]) F__ring_behind fun _ _ _ _ _ _ us hl => match us, hl with | [_, _], _ => rfl
  have b_losing_ring : Binds K d_losing_ring ["bounds"] [] := FunD.bindsN (ps := ["bounds"]) F_losing_ring fun _ _ _ _ _ _ us hl => match us, hl with | [_], _ => rfl
  have b_ring : Binds K d_ring ["table"] [] := FunD.bindsN (ps := ["table"]) F_ring fun _ _ _ _ _ _ us hl => match us, hl with | [_], _ => rfl
  have b__need_two : Binds K d__need_two ["one", "other"] [] := FunD.bindsN (ps := ["one", "other"]) F__need_two fun _ _ _ _ _ _ us hl => match us, hl with | [_, _], _ => rfl
  have b_is_within : Binds K d_is_within ["one", "other"] [] := FunD.bindsN (ps := ["one", "other"]) F_is_within fun _ _ _ _ _ _ us hl => match us, hl with | [_, _], _ => rfl
  have b_is_same : Binds K d_is_same ["one", "other"] [] := FunD.bindsN (ps := ["one", "other"]) F_is_same fun _ _ _ _ _ _ us hl => match us, hl with | [_, _], _ => rfl
  have b_both : Binds K d_both ["one", "other"] [] := FunD.bindsN (ps := ["one", "other"]) F_both fun _ _ _ _ _ _ us hl => match us, hl with | [_, _], _ => rfl
  have b_water_of : Binds K d_water_of ["points"] [] := FunD.bindsN (ps := ["points"]) F_water_of fun _ _ _ _ _ _ us hl => match us, hl with | [_], _ => rfl
  have b_highest : Binds K d_highest ["table"] [] := FunD.bindsN (ps := ["table"]) F_highest fun _ _ _ _ _ _ us hl => match us, hl with | [_], _ => rfl
  have b_lowest : Binds K d_lowest ["table"] [] := FunD.bindsN (ps := ["table"]) F_lowest fun _ _ _ _ _ _ us hl => match us, hl with | [_], _ => rfl
  have b__can_hide : Binds K d__can_hide ["points", "size"] [] := FunD.bindsN (ps := ["points", "size"]) F__can_hide fun _ _ _ _ _ _ us hl => match us, hl with | [_, _], _ => rfl
  have b_hidden : Binds K d_hidden ["table", "points"] [] := FunD.bindsN (ps := ["table", "points"]) F_hidden fun _ _ _ _ _ _ us hl => match us, hl with | [_, _], _ => rfl
  have b__law_begun : Binds K d__law_begun ["_law_script"] [] := FunD.bindsN (ps := ["_law_script"]) F__law_begun fun _ _ _ _ _ _ us hl => match us, hl with | [_], _ => rfl
  have b__law_draw : Binds K d__law_draw ["_law_state", "_law_many"] [] := FunD.bindsN (ps := ["_law_state", "_law_many"]) F__law_draw fun _ _ _ _ _ _ us hl => match us, hl with | [_, _], _ => rfl
  have b__law_pick : Binds K d__law_pick ["_law_state", "_law_several"] [] := FunD.bindsN (ps := ["_law_state", "_law_several"]) F__law_pick fun _ _ _ _ _ _ us hl => match us, hl with | [_, _], _ => rfl
  have b__law_caps : Binds K d__law_caps ["_law_state", "_law_many", "_law_thick", "_law_wide"] [] := FunD.bindsN (ps := ["_law_state", "_law_many", "_law_thick", "_law_wide"]) F__law_caps fun _ _ _ _ _ _ us hl => match us, hl with | [_, _, _, _], _ => rfl
  have b__law_waters : Binds K d__law_waters ["_law_many"] [] := FunD.bindsN (ps := ["_law_many"]) F__law_waters fun _ _ _ _ _ _ us hl => match us, hl with | [_], _ => rfl
  have b__law_is_passed : Binds K d__law_is_passed ["_law_pool", "_law_top", "_law_low"] [] := FunD.bindsN (ps := ["_law_pool", "_law_top", "_law_low"]) F__law_is_passed fun _ _ _ _ _ _ us hl => match us, hl with | [_, _, _], _ => rfl
  have b__law_out : Binds K d__law_out ["_law_left", "_law_right", "_law_many"] [] := FunD.bindsN (ps := ["_law_left", "_law_right", "_law_many"]) F__law_out fun _ _ _ _ _ _ us hl => match us, hl with | [_, _, _], _ => rfl
  have b_Table_fits : Binds K d_Table_fits ["self", "water"] [] := FunD.bindsN (ps := ["self", "water"]) F_Table_fits fun _ _ _ _ _ _ us hl => match us, hl with | [_, _], _ => rfl
  have b_law : Binds K d_law ["_law_script"] [] := FunD.bindsN (ps := ["_law_script"]) F_law fun _ _ _ _ _ _ us hl => match us, hl with | [_], _ => rfl
  have e := hfa.symm.trans g_law
  cases e
  have b := FunD.bindsA (ps := ["_law_script"]) F_law fun _ _ _ _ _ _ us hl => match us, hl with | [_], _ => rfl
  refine ⟨d_law, fun s v => b s [v] rfl, fun base _ _ => ?_⟩
  have G_is_number := ok_is_number (P := P) (w := w) (base := base) F_is_number T TF
  have G_is_water := ok_is_water (P := P) (w := w) (base := base) F_is_water T TF gMOST G_is_number g_is_number F_is_number.kp b_is_number
  have G_sums := ok_sums (P := P) (w := w) (base := base) F_sums T TF G_is_water g_is_water F_is_water.kp b_is_water
  have G__need_table := ok__need_table (P := P) (w := w) (base := base) F__need_table T TF gTable
  have G_is_number_between := ok_is_number_between (P := P) (w := w) (base := base) F_is_number_between T TF G_is_number g_is_number F_is_number.kp b_is_number
  have G_is_pair := ok_is_pair (P := P) (w := w) (base := base) F_is_pair T TF
  have G__are_bounds := ok__are_bounds (P := P) (w := w) (base := base) F__are_bounds T TF G_is_number g_is_number F_is_number.kp b_is_number G_is_number_between g_is_number_between F_is_number_between.kp b_is_number_between G_is_pair g_is_pair F_is_pair.kp b_is_pair
  have G_Table___init__ := ok_Table___init__ (P := P) (w := w) (base := base) F_Table___init__ T TF gMOST G_is_number_between g_is_number_between F_is_number_between.kp b_is_number_between G__are_bounds g__are_bounds F__are_bounds.kp b__are_bounds
  have G_nothing := ok_nothing (P := P) (w := w) (base := base) F_nothing T TF gTable G_Table___init__ b_Table___init__ mk
  have G__go_through := ok__go_through (P := P) (w := w) (base := base) F__go_through T TF
  have G_Table_size := ok_Table_size (P := P) (w := w) (base := base) F_Table_size T TF
  have G_Table_bounds := ok_Table_bounds (P := P) (w := w) (base := base) F_Table_bounds T TF
  have G__least_ways := ok__least_ways (P := P) (w := w) (base := base) F__least_ways T TF G__go_through g__go_through F__go_through.kp b__go_through G_Table_size b_Table_size hp_size G_Table_bounds b_Table_bounds hp_bounds
  have G__table_of := ok__table_of (P := P) (w := w) (base := base) F__table_of T TF gTable G_Table___init__ b_Table___init__ mk
  have G_closed := ok_closed (P := P) (w := w) (base := base) F_closed T TF G__need_table g__need_table F__need_table.kp b__need_table G_nothing g_nothing F_nothing.kp b_nothing G__least_ways g__least_ways F__least_ways.kp b__least_ways G__table_of g__table_of F__table_of.kp b__table_of G_Table_size b_Table_size hp_size
  have G__ring_behind := ok__ring_behind (P := P) (w := w) (base := base) F__ring_behind T TF
  have G_losing_ring := ok_losing_ring (P := P) (w := w) (base := base) F_losing_ring T TF G__ring_behind g__ring_behind F__ring_behind.kp b__ring_behind
  have G_ring := ok_ring (P := P) (w := w) (base := base) F_ring T TF G_losing_ring g_losing_ring F_losing_ring.kp b_losing_ring G__need_table g__need_table F__need_table.kp b__need_table G_Table_bounds b_Table_bounds hp_bounds
  have G__need_two := ok__need_two (P := P) (w := w) (base := base) F__need_two T TF G__need_table g__need_table F__need_table.kp b__need_table G_Table_size b_Table_size hp_size
  have G_is_within := ok_is_within (P := P) (w := w) (base := base) F_is_within T TF G__need_two g__need_two F__need_two.kp b__need_two G__least_ways g__least_ways F__least_ways.kp b__least_ways G_Table_bounds b_Table_bounds hp_bounds
  have G_is_same := ok_is_same (P := P) (w := w) (base := base) F_is_same T TF G_is_within g_is_within F_is_within.kp b_is_within
  have G_both := ok_both (P := P) (w := w) (base := base) F_both T TF gTable G__need_two g__need_two F__need_two.kp b__need_two G_Table_size b_Table_size hp_size G_Table_bounds b_Table_bounds hp_bounds G_Table___init__ b_Table___init__ mk
  have G_water_of := ok_water_of (P := P) (w := w) (base := base) F_water_of T TF
  have G_highest := ok_highest (P := P) (w := w) (base := base) F_highest T TF G_water_of g_water_of F_water_of.kp b_water_of G__need_table g__need_table F__need_table.kp b__need_table G__least_ways g__least_ways F__least_ways.kp b__least_ways
  have G_lowest := ok_lowest (P := P) (w := w) (base := base) F_lowest T TF G_water_of g_water_of F_water_of.kp b_water_of G__need_table g__need_table F__need_table.kp b__need_table G__least_ways g__least_ways F__least_ways.kp b__least_ways
  have G__can_hide := ok__can_hide (P := P) (w := w) (base := base) F__can_hide T TF G_is_number_between g_is_number_between F_is_number_between.kp b_is_number_between
  have G_hidden := ok_hidden (P := P) (w := w) (base := base) F_hidden T TF G__need_table g__need_table F__need_table.kp b__need_table G_nothing g_nothing F_nothing.kp b_nothing G__least_ways g__least_ways F__least_ways.kp b__least_ways G__table_of g__table_of F__table_of.kp b__table_of G__can_hide g__can_hide F__can_hide.kp b__can_hide G_Table_size b_Table_size hp_size
  have G__law_begun := ok__law_begun (P := P) (w := w) (base := base) F__law_begun T TF
  have G__law_draw := ok__law_draw (P := P) (w := w) (base := base) F__law_draw T TF
  have G__law_pick := ok__law_pick (P := P) (w := w) (base := base) F__law_pick T TF G__law_draw g__law_draw F__law_draw.kp b__law_draw
  have G__law_caps := ok__law_caps (P := P) (w := w) (base := base) F__law_caps T TF G__law_draw g__law_draw F__law_draw.kp b__law_draw G__law_pick g__law_pick F__law_pick.kp b__law_pick
  have G__law_waters := ok__law_waters (P := P) (w := w) (base := base) F__law_waters T TF
  have G__law_is_passed := ok__law_is_passed (P := P) (w := w) (base := base) F__law_is_passed T TF G_sums g_sums F_sums.kp b_sums
  have G__law_out := ok__law_out (P := P) (w := w) (base := base) F__law_out T TF gTable G_closed g_closed F_closed.kp b_closed G_ring g_ring F_ring.kp b_ring G_is_within g_is_within F_is_within.kp b_is_within G_both g_both F_both.kp b_both G_Table_bounds b_Table_bounds hp_bounds G_Table___init__ b_Table___init__ mk
  have G_Table_fits := ok_Table_fits (P := P) (w := w) (base := base) F_Table_fits T TF G_sums g_sums F_sums.kp b_sums
  have G_law := ok_law (P := P) (w := w) (base := base) F_law T TF gTable G_sums g_sums F_sums.kp b_sums G_closed g_closed F_closed.kp b_closed G_ring g_ring F_ring.kp b_ring G_is_within g_is_within F_is_within.kp b_is_within G_is_same g_is_same F_is_same.kp b_is_same G_both g_both F_both.kp b_both G_highest g_highest F_highest.kp b_highest G_lowest g_lowest F_lowest.kp b_lowest G_hidden g_hidden F_hidden.kp b_hidden G__law_begun g__law_begun F__law_begun.kp b__law_begun G__law_draw g__law_draw F__law_draw.kp b__law_draw G__law_pick g__law_pick F__law_pick.kp b__law_pick G__law_caps g__law_caps F__law_caps.kp b__law_caps G__law_waters g__law_waters F__law_waters.kp b__law_waters G__law_is_passed g__law_is_passed F__law_is_passed.kp b__law_is_passed G__law_out g__law_out F__law_out.kp b__law_out G_Table___init__ b_Table___init__ mk G_Table_fits b_Table_fits m_fits
  exact G_law
end Bw
namespace Bw
open PySem PySem.Spec PyProof.Rows L2
theorem run (w : World) : HandSHeadRun.RunEq RR (PySem.W.view RR.prog [43]) hk ob 3000 loose w := by
  intro os
  kernel_rfl
end Bw
open PySem PySem.W PySem.Calls PyProof.Rows
set_option maxRecDepth 100000 in
set_option maxHeartbeats 8000000 in
theorem PySem.Challenge.cw_blindweirs_k10_whole_tables_and_all_smal_holds : PySem.Challenge.rw_blindweirs_k10_whole_tables_and_all_smal.Holds := by
  w_on; o_law
  refine HandSHeadRun.head_any (r := OpenLaw.row PySem.Challenge.rw_blindweirs_k10_whole_tables_and_all_smal) (q := view (OpenLaw.row PySem.Challenge.rw_blindweirs_k10_whole_tables_and_all_smal).prog [43]) (H := Bw.hk) (ob := Bw.ob) (M := 3000) (loose := Bw.loose) (d := HandSHeadRun.topDef (OpenLaw.row PySem.Challenge.rw_blindweirs_k10_whole_tables_and_all_smal).prog 43) (kwd := []) Bw.ob_eq
    (by kernel_rfl) (fun s => by kernel_rfl) Bw.run (by kernel_rfl) (by kernel_rfl) (by kernel_rfl) (by rfl) (by first | assumption | decide +kernel) (by decide +kernel) ⟨rfl, rfl, rfl, rfl, rfl, by decide +kernel⟩ ?hw ?hc
  case hw => w_witness2
  case hc =>
    refine L2.walk_ofE (l := PySem.Challenge.rw_blindweirs_k10_whole_tables_and_all_smal) (n := 63) (k := 24) (x := "_law_script") (CX := L2.CX0) rfl (by decide) (by kernel_rfl) ⟨rfl, by decide, by decide⟩ ?F (fun _ _ _ _ z => z)
    intro w mg fa h Y G hmg0
    obtain ⟨K, KX, c⟩ := Y
    have hmg : mg ("law" : PySem.Str) = some (.ref fa) := by
      have e : (HandSHeadRun.topDef (OpenLaw.row PySem.Challenge.rw_blindweirs_k10_whole_tables_and_all_smal).prog 43).name = ("law" : PySem.Str) := by kernel_rfl
      rw [← e]
      exact hmg0
    obtain ⟨fd, hb, hF⟩ := Bw.facts (P := (PySem.Challenge.rw_blindweirs_k10_whole_tables_and_all_smal).prog) (w := w) KX G hmg c
    exact ⟨K, fd, Bw.sp_law K, KX, hb, fun H a ns hl _ hS => ⟨a, ns, rfl, hS, Nat.le_trans hl (by decide), fun _ => rfl⟩, hF⟩
