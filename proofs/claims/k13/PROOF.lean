import PyProof.Rows.All
import Wide.All
import OpenK.AllK
import Wide.FinOn
import HandS.ForMost
import HandS.SortKw
import HandS.More
import HandS.OwnEq
import HandS.Keys
import KE.SortKeyHeap
import HandS.IsInst
import HandS.TupAny
import HandS.Wide
import HandS.ClsMeth
import HandS.Star
import HandS.CallLocal
import HandS.Codes
import KE.GoesMore
import HandS.Zip
import HandS.Walk
import HandS.MakeKwOnly
import KE.KStar
import HandS.Style
import HandS.Conv
import HandS.SetFor
import HandS.SetTxt0
import HandS.Strs
import HandS.ExcField
import HandS.ExcIs
import HandS.ExcInit
import KE.KExcIs
import HandS.ForExc
import HandS.ListEq
import HandS.Deep
import HandS.Head0
import HandS.Head1
import HandS.Head2
import HandS.HeadEnd
import HandS.HeadHook1
import HandS.HeadHook2
import HandS.HeadNt
import HandS.Flow
import KE.SortData
import HandS.Dict
import HandS.DictTup
import HandS.DictEq
import PyProof.DictMoreH
import KE.KDictZip
import HandS.Property
import HandS.TupLen
import PyProof.ReprRoads
import PySem.Challenge.RW_speaklast_k13_regions_of_homes
set_option Elab.async false
set_option linter.all false
set_option maxRecDepth 100000
set_option maxHeartbeats 2000000
namespace Spk
open PySem PySem.Spec PyProof.Rows PySem.W L2

/-! ## sorted(xs, key=f), f a def of the program that keeps an L2 promise -/
theorem heap_without (h : Heap) (k : Addr) : ∃ g : Heap, g.get? k = none ∧ ∀ b, b ≠ k → g.get? b = h.get? b := by
  by_cases hk : k < h.objs.size
  · refine ⟨{ h with objs := h.objs.set k ⟨.none, none, .freed, #[]⟩ hk }, ?_, fun b hb => ?_⟩
    · unfold Heap.get?
      simp
    · unfold Heap.get?
      simp only [Array.getElem?_set, if_neg (Ne.symm hb)]
  · refine ⟨h, ?_, fun _ _ => rfl⟩
    unfold Heap.get?
    rw [Array.getElem?_eq_none (Nat.le_of_not_lt hk)]

mutual
theorem dp_same {K : Frag} {H H' : Hp} (e : Same H H') : ∀ (d : PyData) (v : V), Dp K H v d → Dp K H' v d
  | .none, _, h => by cases h; exact .non
  | .bool b, _, h => by cases h; exact .bl b
  | .int i, _, h => by cases h; exact .int i
  | .str x, _, h => by cases h; exact .str x
  | .list ds, _, h => by
    cases h with
    | lst s a => exact .lst (SqL.ext s e) (dps_same e ds _ a)
  | .tuple ds, _, h => by
    cases h with
    | tup s a => exact .tup (SqT.ext s e) (dps_same e ds _ a)
  | .dict _, _, h => by cases h
theorem dps_same {K : Frag} {H H' : Hp} (e : Same H H') : ∀ (ds : List PyData) (vs : List V), DpAll K H vs ds → DpAll K H' vs ds
  | [], _, h => by cases h; exact .nil
  | d :: ds, _, h => by
    cases h with
    | cons a b => exact .cons (dp_same e d _ a) (dps_same e ds _ b)
end

/-- a def that keeps a promise, called somewhere below the running body -/
theorem call_at {X : Cx} {n : Nat} {f : Addr} {sp : Sp} (F : FnR X.prog X.w X.K X.mg X.base CX0 n f sp) {A' : Around} (sb : Sub X n A') {pins : List (Addr × Obj)} {s : Shared} {σ : L2.St} {H : Hp} (I : Inv X pins σ H s)
    {vs : List V} {us : List Value} {Q : VK} {E : Value → Shared → Prop} (r : Vals vs us) (h : sp vs H Q E0) : wpAny (model X.prog X.w) A' (call (.ref f) us) (EP X pins σ Q) E s := by
  have e0 : Env0 X.prog X.w X.K X.mg X.base A' X.stack s H := by
    have e := I.env0
    exact ⟨by rw [sb.fr]; exact e.frames, e.mod, e.bs, e.bsz, e.funs, e.frf, e.hok, e.bare⟩
  refine wpAny_call (codeAny_mono (F A' X.stack s H us vs Q E0 sb.room e0 r h) fun r s' hq => ?_)
  cases r with
  | error e => exact False.elim hq
  | ok fl =>
    cases fl with
    | ret w => exact I.after hq
    | next => exact False.elim hq
    | brk => exact False.elim hq
    | cont => exact False.elim hq

/-- the keys told so far -/
def KeysIn (K : Frag) (H : Hp) : List Value → List PyData → Prop := EachIs fun u d => ∃ v, RelV v u ∧ Dp K H v d

structure KeyLoop (X : Cx) (pins : List (Addr × Obj)) (σ : L2.St) (H : Hp) (a kS : Addr) (e1 : Nat) (kz : List PyData) (i : Nat) (s' : Shared) : Prop where
  ex : ∃ (H' : Hp) (kA : Array Value) (e : Nat), Inv X pins σ H' s' ∧ Same H H' ∧ FpOk X pins H' a ∧ FpOk X pins H' kS ∧ s'.heap.get? kS = some (seqObj "list" kA e) ∧
    s'.heap.get? a = some (seqObj "list" #[] e1) ∧ KeysIn X.K H' kA.toList (kz.take i)

theorem key_turn {X : Cx} {n : Nat} {f : Addr} {sp : Sp} (F : FnR X.prog X.w X.K X.mg X.base CX0 n f sp) {A' : Around} (sb : Sub X n A') {pins : List (Addr × Obj)} {σ : L2.St} {H : Hp} {a kS : Addr} {e1 : Nat} {kz : List PyData} {i : Nat} {s' : Shared}
    (hka : kS ≠ a) {x : V} {u : Value} {d : PyData} (ru : RelV x u) (hd : kz[i]? = some d) (turn : ∀ H', Same H H' → sp [x] H' (fun v H'' => Same H' H'' ∧ Dp X.K H'' v d) E0) (J : KeyLoop X pins σ H a kS e1 kz i s') {E : Value → Shared → Prop} :
    wpAny (model X.prog X.w) A' (call (.ref f) [u]) (fun v s'' => ∃ (kA : Array Value) (e : Nat), s''.heap.get? kS = some (seqObj "list" kA e) ∧ kA.size ≤ i ∧
      ∀ h' : Heap, (∀ b o, b ≠ kS → s''.heap.get? b = some o → h'.get? b = some o) → (∃ e', h'.get? kS = some (seqObj "list" (kA.push v) e')) → KeyLoop X pins σ H a kS e1 kz (i + 1) { s'' with heap := h' }) E s' := by
  obtain ⟨H', kA, e, I, sm, fa, fk, nk, na, ks⟩ := J.ex
  have Ip := I.pinned (fp := [a, kS]) (fun b hb => by
      rcases List.mem_cons.mp hb with rfl | hb
      · exact fa
      · rw [List.mem_singleton.mp hb]; exact fk) (fun b hb => by
      rcases List.mem_cons.mp hb with rfl | hb
      · exact ⟨_, na, fun v z => nomatch z⟩
      · rw [List.mem_singleton.mp hb]; exact ⟨_, nk, fun v z => nomatch z⟩)
  refine wpAny_mono (call_at F sb Ip (.cons ru .nil) (turn H' sm)) (fun v s'' he => ?_) fun _ _ z => z
  obtain ⟨w, H2, I2, rw2, sm2, dp⟩ := he
  have pa := I2.pin (a, _) (List.mem_append_right _ (List.mem_append_right _ (mem_pinsAt (by simp) na)))
  have pk := I2.pin (kS, _) (List.mem_append_right _ (List.mem_append_right _ (mem_pinsAt (by simp) nk)))
  have I3 := I2.unpinned
  have hsz : kA.size ≤ i := by
    have h1 := ks.length
    rw [Array.length_toList, List.length_take] at h1
    omega
  have fk2 : FpOk X pins H2 kS := ⟨pk.2.1, fk.2⟩
  have fa2 : FpOk X pins H2 a := ⟨pa.2.1, fa.2⟩
  refine ⟨kA, e, pk.1, hsz, fun h' keep ⟨e', hk'⟩ => ⟨⟨H2, kA.push v, e', ?_, fun b o q => sm2 b o (sm b o q), fa2, fk2, hk', keep a _ (Ne.symm hka) pa.1, ?_⟩⟩⟩
  · exact I3.turnedL (t' := s''.toks) (ch := [kS]) (fun b o hb q => keep b o (by simpa using hb) q) (fun b hb => by rw [List.mem_singleton.mp hb]; exact fk2)
  · have ek : kz.take (i + 1) = kz.take i ++ [d] := by rw [List.take_add_one, hd]; simp
    have ea : (kA.push v).toList = kA.toList ++ [v] := by simp
    rw [ea, ek]
    unfold KeysIn
    refine each_snoc ⟨w, rw2, dp⟩ ?_
    exact EachIs.mono (fun u d ⟨z, rz, dz⟩ => ⟨z, rz, dp_same sm2 d z dz⟩) ks

/-- the items in the order of their keys -/
def byKeys (xs : List V) (kz : List PyData) : List V := ((xs.zip kz).mergeSort (dataLe false (·.2))).map (·.1)

theorem each_vals : ∀ {vs : List Value} {bs : List (V × PyData)}, EachIs (fun u (b : V × PyData) => RelV b.1 u) vs bs → Vals (bs.map (·.1)) vs := by
  intro vs bs h
  induction h with
  | nil => exact .nil
  | cons r _ ih => exact .cons r ih
theorem each_zip : ∀ {xs : List V} {vs : List Value} {kz : List PyData}, Vals xs vs → kz.length = xs.length → EachIs (fun u (b : V × PyData) => RelV b.1 u) vs (xs.zip kz)
  | _, _, [], .nil, _ => .nil
  | _, _, d :: kz, .cons r t, h => .cons r (each_zip t (by simpa using h))
  | _, _, [], .cons _ _, h => by simp at h
  | _, _, _ :: _, .nil, h => by simp at h

theorem sort_rest {X : Cx} {n : Nat} {f : Addr} {sp : Sp} (F : FnR X.prog X.w X.K X.mg X.base CX0 n f sp) {A' : Around} (sb : Sub X n A') {pins : List (Addr × Obj)} {σ : L2.St} {H : Hp} {a kS : Addr} {e1 : Nat} {kz : List PyData} {s : Shared} {xs : List V} {vs : List Value}
    (hka : kS ≠ a) (r : Vals xs vs) (hlen : kz.length = xs.length) (hZ : xs.length ≤ sizeLine) (hal : AllAlike kz) (hsk : Sortable kz) (hdep : ∀ d, d ∈ kz → A'.units + d.depth < cLine)
    (turn : ∀ (i : Nat) x d, xs[i]? = some x → kz[i]? = some d → ∀ H', Same H H' → sp [x] H' (fun v H'' => Same H' H'' ∧ Dp X.K H'' v d) E0)
    (J : KeyLoop X pins σ H a kS e1 kz 0 s) {P : PySem.Fin → Shared → Prop} {E : Value → Shared → Prop}
    (q : ∀ (H' : Hp) (s' : Shared) (out : List Value) (c : Nat), Inv X pins σ H' s' → Same H H' → FpOk X pins H' a → s'.heap.get? a = some (seqObj "list" out.toArray c) → Vals (byKeys xs kz) out → P (.done (.ret .none)) s') :
    wpAny (model X.prog X.w) A' (ksk_rest a (.ref f) false vs.toArray e1 (.ref kS)) P E s := by
  have hvl : vs.length = xs.length := r.length.symm
  unfold ksk_rest
  refine wpAny_bind (wpAny_rule ?_)
  rw [← Array.forIn_toList]
  refine wpAny_bind (ksk_fold (fun i s' => KeyLoop X pins σ H a kS e1 kz i s') vs 0 s J ?step ?done)
  case step =>
    intro j u s' hu J'
    simp only [Nat.zero_add] at J' ⊢
    have hj : j < vs.length := (List.getElem?_eq_some_iff.mp hu).1
    have hjx : j < xs.length := by omega
    obtain ⟨u', hu', ru⟩ := r.get (i := j) (List.getElem?_eq_getElem hjx)
    rw [hu] at hu'
    cases hu'
    have hjk : j < kz.length := by omega
    refine wpAny_bind (wpAny_attempt (wpAny_mono (key_turn F sb hka ru (List.getElem?_eq_getElem hjk) (turn j _ _ (List.getElem?_eq_getElem hjx) (List.getElem?_eq_getElem hjk)) J') (fun v s'' he => ?_) fun _ _ hF => hF))
    obtain ⟨kA, e, nk, hs, go⟩ := he
    try dsimp only
    have s1 := Heap.SameBut.update s''.heap kS (Obj.mapSeq (·.push v))
    have hks : kA.size ≤ sizeLine := by omega
    refine wpAny_bind (listUpdate_at nk rfl ?_ hks (Nat.le_trans (Nat.le_of_eq (Array.size_push ..)) (Nat.succ_le_succ hks)))
    exact wpAny_pure ⟨rfl, go _ (fun b o hb z => (s1.2 b hb).trans z) ⟨_, get?_update_seq nk (·.push v)⟩⟩
  case done =>
    intro s' J'
    obtain ⟨H', kA, e, I, sm, fa, fk, nk, na, ks⟩ := J'.ex
    rw [Nat.zero_add, hvl, ← hlen, List.take_length] at ks
    have hk' : EachIs (fun v k => ∃ as, Reads s'.heap v k as) kA.toList kz := EachIs.mono (fun u d ⟨z, rz, dz⟩ => Dp.reads I d z u dz rz) ks
    have hsz : kA.size = vs.length := by
      have h1 := hk'.length
      rw [Array.length_toList] at h1
      omega
    refine wpAny_bind (listItems_at nk rfl ?_)
    obtain ⟨g, g0, g1⟩ := heap_without s'.heap kS
    have kp : KeepsBut a g s'.heap := fun b o _ z => by
      by_cases hb : b = kS
      · rw [hb, g0] at z; cases z
      · rw [← g1 b hb]; exact z
    refine keyH_end (κ := dataKind s'.heap kz) (h₁ := g) kp g0 nk na hka (SortsAt.data hk' hal hsk hdep) hsz (by omega) fun h3 tk3 c k3 n3 => ?_
    have keep : ∀ b o, b ∉ [a, kS] → s'.heap.get? b = some o → h3.get? b = some o := fun b o hb z => by
      simp only [List.mem_cons, List.not_mem_nil, or_false, not_or] at hb
      exact k3 b o hb.1 (by rw [g1 b hb.2]; exact z)
    refine q H' _ _ c (I.turnedL (ch := [a, kS]) keep (fun b hb => ?_)) sm fa n3 ?_
    · rcases List.mem_cons.mp hb with rfl | hb
      · exact fa
      · rw [List.mem_singleton.mp hb]; exact fk
    · have ko : KeyedOut false ((xs.zip kz).map (·.2)) vs (sortVals (dataKind s'.heap kz) false kA.toList vs) := by
        rw [List.map_snd_zip (by omega)]
        exact ⟨s'.heap, kA.toList, hal, rfl, hk'⟩
      exact each_vals (keyedOut_each (·.2) ko (each_zip r hlen))

theorem sort_tree {X : Cx} {n : Nat} {f : Addr} {sp : Sp} (F : FnR X.prog X.w X.K X.mg X.base CX0 n f sp) {A' : Around} (sb : Sub X n A') {pins : List (Addr × Obj)} {σ : L2.St} {H : Hp} {kz : List PyData} {s : Shared} {xs : List V} {vs : List Value}
    (I : Inv X pins σ H s) (r : Vals xs vs) (hlen : kz.length = xs.length) (hZ : xs.length ≤ sizeLine) (hal : AllAlike kz) (hsk : Sortable kz) (hdep : ∀ d, d ∈ kz → A'.units + d.depth < cLine)
    (turn : ∀ (i : Nat) x d, xs[i]? = some x → kz[i]? = some d → ∀ H', Same H H' → sp [x] H' (fun v H'' => Same H' H'' ∧ Dp X.K H'' v d) E0)
    {P : PySem.Fin → Shared → Prop} {E : Value → Shared → Prop}
    (q : ∀ (H' : Hp) (s' : Shared), Inv X pins σ (upd H' s.heap.objs.size (.lst (byKeys xs kz))) s' → Same H H' → H' s.heap.objs.size = none → P (.done (.ret .none)) s') :
    wpAny (model X.prog X.w) A' (ksk_tree s.heap.objs.size (.ref f) false) P E { s with heap := s.heap.push (seqObj "list" vs.toArray 0) } := by
  have hvl : vs.length = xs.length := r.length.symm
  have hvz : vs.toArray.size ≤ sizeLine := by rw [List.size_toArray]; omega
  have ho : (s.heap.push (seqObj "list" vs.toArray 0)).get? s.heap.objs.size = some (seqObj "list" vs.toArray 0) := Heap.get?_push_size _ rfl
  have s1 := Heap.SameBut.update (s.heap.push (seqObj "list" vs.toArray 0)) s.heap.objs.size (Obj.mapSeq fun _ => (#[] : Array Value))
  obtain ⟨e1, ho1⟩ : ∃ e1, ((s.heap.push (seqObj "list" vs.toArray 0)).update s.heap.objs.size (Obj.mapSeq fun _ => (#[] : Array Value))).get? s.heap.objs.size = some (seqObj "list" #[] e1) :=
    ⟨_, get?_update_seq ho fun _ => #[]⟩
  have hk : (((s.heap.push (seqObj "list" vs.toArray 0)).update s.heap.objs.size (Obj.mapSeq fun _ => (#[] : Array Value))).push (seqObj "tuple" vs.toArray 0)).objs.size = s.heap.objs.size + 2 := by
    rw [size_push', Heap.size_update, size_push']
  have Ha : H s.heap.objs.size = none := I.hok.fresh (Nat.le_refl _)
  have Hk : H (s.heap.objs.size + 2) = none := I.hok.fresh (Nat.le_add_right _ _)
  unfold ksk_tree
  refine wpAny_bind (listItems_at ho rfl ?_)
  refine wpAny_bind (listUpdate_at ho rfl ?_ hvz (Nat.zero_le _))
  refine wpAny_bind (seqEpoch_at ho1 rfl ?_)
  refine wpAny_bind (wpAny_newTuple ?_ (by show vs.length ≤ _; omega))
  refine wpAny_bind (wpAny_newList ?_ (Nat.zero_le _))
  refine wpAny_holding ?_
  rw [hk]
  refine sort_rest F sb (pins := pins) (σ := σ) (H := H) (a := s.heap.objs.size) (kS := s.heap.objs.size + 2) (Nat.ne_of_gt (Nat.lt_add_of_pos_right (by decide))) r hlen hZ hal hsk hdep turn ⟨H, #[], 0, ?_, Same.refl H, I.fpOk (Nat.le_refl _) Ha, I.fpOk (Nat.le_add_right _ _) Hk, ?_, ?_, ?_⟩ ?_
  · exact I.kept (t' := s.toks) fun b o e => by
      refine Heap.get?_push_of_some _ (Heap.get?_push_of_some _ ?_)
      rw [s1.2 b (Nat.ne_of_lt (Heap.lt_size e))]
      exact Heap.get?_push_of_some _ e
  · have := Heap.get?_push_size (((s.heap.push (seqObj "list" vs.toArray 0)).update s.heap.objs.size (Obj.mapSeq fun _ => (#[] : Array Value))).push (seqObj "tuple" vs.toArray 0)) (o := seqObj "list" #[] 0) rfl
    rw [hk] at this
    exact this
  · exact Heap.get?_push_of_some _ (Heap.get?_push_of_some _ ho1)
  · rw [List.take_zero]
    exact EachIs.nil
  · intro H' s' out c I' sm fa na ro
    refine q H' s' ?_ sm fa.1
    have z : (byKeys xs kz).length ≤ sizeLine := by
      unfold byKeys
      rw [List.length_map, List.length_mergeSort, List.length_zip]
      omega
    exact I'.take (it := s.heap.objs.size) (t' := s'.toks) (fun b ob _ e => e) fa ⟨z, out, c, ro, na⟩

/-- sorted(xs, key=f), xs a list or a tuple: what it asks -/
def rSortKey (K : Frag) (f : Addr) (sp : Sp) : List V → List V → Hp → VK → Prop := fun vs zs H Q => ∃ (l : Addr) (xs : List V) (kz : List PyData), vs = [V.ref l] ∧ zs = [V.ref f] ∧ (SqL K H l xs ∨ SqT K H l xs) ∧
  kz.length = xs.length ∧ AllAlike kz ∧ Sortable kz ∧ (∀ d, d ∈ kz → d.depth ≤ 100) ∧
  (∀ (i : Nat) x d, xs[i]? = some x → kz[i]? = some d → ∀ H', Same H H' → sp [x] H' (fun v H'' => Same H' H'' ∧ Dp K H'' v d) E0) ∧
  ∀ (H' : Hp) (p : Addr), Same H H' → H' p = none → Q (.ref p) (upd H' p (.lst (byKeys xs kz)))

theorem cr_sortKey {X : Cx} {n : Nat} {f : Addr} {sp : Sp} (F : FnR X.prog X.w X.K X.mg X.base CX0 n f sp) (hr : Room (n + 2) X.A) : CallRK X (.builtin "sorted") [Str.ofString "key"] (rSortKey X.K f sp) := by
  intro pins s σ H vs zs us ws Q I r1 r2 h
  obtain ⟨l, xs, kz, rfl, rfl, hl, hlen, hal, hsk, hdep, turn, q⟩ := h
  obtain ⟨u, rfl, ru⟩ := r1.one
  obtain ⟨y, rfl, ry⟩ := r2.one
  cases ru
  cases ry
  show wpAny (model X.prog X.w) X.A (call (.builtin "sorted") [.ref l] [(Str.ofString "key", .ref f)]) (EP X pins σ Q) X.xe s
  have sb : Sub X n X.A.in1.in1 := Sub.in1 (Sub.in1 ⟨hr, rfl⟩)
  obtain ⟨T, o, its, k, hT, ho, hc, hd, r, z⟩ : ∃ (T : String) (o : Obj) (its : List Value) (k : Nat), (T = "list" ∨ T = "tuple") ∧ s.heap.get? l = some o ∧ o.cls = .type T ∧ o.data = .seq its.toArray k ∧ Vals xs its ∧ xs.length ≤ sizeLine := by
    rcases hl with hl | hl
    · obtain ⟨its, r, ⟨o, k, ho, hc, _, hd⟩, z⟩ := I.list hl
      exact ⟨"list", o, its, k, .inl rfl, ho, hc, hd, r, z⟩
    · obtain ⟨its, r, ⟨o, ho, hc, k, hd⟩, z⟩ := I.tuple hl
      exact ⟨"tuple", o, its, k, .inr rfl, ho, hc, hd, r, z⟩
  have hsz : its.length ≤ sizeLine := by rw [← r.length]; exact z
  refine call_function_entry_kw kind_sorted plain_sorted entry_sorted (ksk_s1 _ _) ?_
  unfold Builtin.«sorted»
  refine wpAny_bind (m := checkCount "sorted" 1 1 _) (wpAny_pure ?_)
  refine wpAny_bind (wpAny_collect_seq l hT ho hc hd (fun h' hk => ?_) (by rw [List.size_toArray]; exact hsz))
  have I1 : Inv X pins σ H { s with heap := h' } := I.kept (t' := s.toks) hk
  refine wpAny_bind (wpAny_newList ?_ hsz)
  refine wpAny_bind (wpAny_holding (wpAny_call_entry_kw slot_list_sort ⟨_, Heap.get?_push_size h' rfl, rfl⟩ entry_list_sort ?body (ksk_l1 _ _)))
  case body =>
    rw [ksk_t1]
    refine sort_tree F (s := { s with heap := h' }) sb I1 r hlen z hal hsk (fun d hd => ?_) turn fun H' s' J sm hn => ?_
    · have h1 := hr.un
      have h2 := hdep d hd
      show X.A.units + 1 + 1 + d.depth < cLine
      omega
    · exact ⟨.none, rfl, wpAny_pure ⟨_, rfl, ⟨V.ref h'.objs.size, _, J, rfl, q H' _ sm hn⟩⟩⟩
end Spk

set_option Elab.async false
set_option linter.all false
set_option maxRecDepth 100000
set_option maxHeartbeats 2000000
namespace Spk
open PySem PySem.Spec PyProof.Rows PySem.W L2

/-! ## operators of a class of the program's own -/
section
variable {X : Cx} {n : Nat} {C f : Addr} {sp : Sp}

theorem relR (a : Addr) : RelV (.ref a) (.ref a) := rfl
theorem relB (b : Bool) : RelV (.bl b) (.bool b) := rfl
theorem rel_back {w : V} {r : Value} {Q : Value → Shared → Prop} {s' : Shared} (h : RelV w r) (q : Q r s') : PySem.W.CmpBack Q r s' := by
  cases w with
  | non => cases h; exact q
  | bl b => cases h; exact q
  | int i => obtain ⟨t, rfl⟩ := h; exact q
  | str x => obtain ⟨t, rfl⟩ := h; exact q
  | byt x => obtain ⟨t, rfl⟩ := h; exact q
  | flt x => obtain ⟨t, rfl⟩ := h; exact q
  | ref a => cases h; exact q
  | ty n => cases h; exact q
theorem sub0 {k : Nat} (hr : Room k X.A) : Sub X k X.A := ⟨hr, rfl⟩

/-- an instance as the library's rules want it -/
theorem inst_of {pins : List (Addr × Obj)} {s : Shared} {σ : L2.St} {H : Hp} {a dx : Addr} {fs : List (Str × V)} (I : Inv X pins σ H s) (h : H a = some (.ins C dx fs)) :
    ∃ od, InstAt s.heap a (instObj C dx) C (some od) := by
  obtain ⟨mA, O, _⟩ := ins_get I.hok h
  obtain ⟨od, J, _⟩ := O.look
  exact ⟨od, J⟩

/-- a op b, both instances of C, by C's method -/
def rBin (C : Addr) (sp : Sp) : R2 := fun x y H Q => ∃ a b dx dy fs gs, x = .ref a ∧ y = .ref b ∧ H a = some (.ins C dx fs) ∧ H b = some (.ins C dy gs) ∧ sp [.ref a, .ref b] H Q E0
theorem op_own {op : Operator} (F : FnR X.prog X.w X.K X.mg X.base CX0 n f sp) (hr : Room n X.A) (hc : selfFirst X.K C = true) (hs : findIn X.K (.ref C) (PySem.dunder op.info.2) = some (some (.ref f))) (hf : isFn X.K (.ref f) = true) :
    OpR X (binaryOp op) (rBin C sp) := by
  intro pins s σ H x y v u Q I rx ry h
  obtain ⟨a, b, dx, dy, fs, gs, rfl, rfl, ha, hb, q⟩ := h
  cases rx
  cases ry
  obtain ⟨oa, ja⟩ := inst_of I ha
  obtain ⟨ob, jb⟩ := inst_of I hb
  obtain ⟨m, hF⟩ := I.fr
  refine binop_K hF I.ok.mod.kin ja jb.type hc hs hf ?_
  refine wpAny_mono (call_at F (sub0 hr) I (.cons (relR _) (.cons (relR _) .nil)) q) (fun r s' z => ?_) fun _ _ z => z
  obtain ⟨w, H', I', rw', q'⟩ := id z
  exact rel_back rw' z

/-- ~a -/
def rUno (C : Addr) (sp : Sp) : V → Hp → VK → Prop := fun x H Q => ∃ a dx fs, x = .ref a ∧ H a = some (.ins C dx fs) ∧ sp [.ref a] H Q E0
theorem un_own (F : FnR X.prog X.w X.K X.mg X.base CX0 n f sp) (hr : Room n X.A) (hs : findIn X.K (.ref C) "__invert__" = some (some (.ref f))) (hf : isFn X.K (.ref f) = true) :
    UnR X (unaryOp .Invert) (rUno C sp) := by
  intro pins s σ H x v Q I rx h
  obtain ⟨a, dx, fs, rfl, ha, q⟩ := h
  cases rx
  obtain ⟨oa, ja⟩ := inst_of I ha
  obtain ⟨m, hF⟩ := I.fr
  exact ksp_inv hF I.ok.mod.kin ja hs hf (call_at F (sub0 hr) I (.cons (relR _) .nil) q)

/-- x in a, x not in a -/
def rInO (C : Addr) (sp : Sp) (neg : Bool) : R2 := fun x y H Q => ∃ b dy gs, y = .ref b ∧ H b = some (.ins C dy gs) ∧ sp [.ref b, x] H (fun v H' => ∃ k, v = .bl k ∧ Q (.bl (if neg then !k else k)) H') E0
theorem op_inO (F : FnR X.prog X.w X.K X.mg X.base CX0 n f sp) (hr : Room n X.A) (hs : findIn X.K (.ref C) "__contains__" = some (some (.ref f))) (hf : isFn X.K (.ref f) = true) :
    OpR X (compareOp .In) (rInO C sp false) := by
  intro pins s σ H x y v u Q I rx ry h
  obtain ⟨b, dy, gs, rfl, hb, q⟩ := h
  cases ry
  obtain ⟨ob, jb⟩ := inst_of I hb
  obtain ⟨m, hF⟩ := I.fr
  refine in_K hF I.ok.mod.kin jb hs hf ?_
  refine wpAny_mono (call_at F (sub0 hr) I (.cons (relR _) (.cons rx .nil)) q) (fun r s' z => ?_) fun _ _ z => z
  obtain ⟨w, H', I', rw', k, rfl, q'⟩ := z
  cases rw'
  exact wpAny_truthy_bool ⟨_, H', I', relB _, q'⟩
theorem op_notInO (F : FnR X.prog X.w X.K X.mg X.base CX0 n f sp) (hr : Room n X.A) (hs : findIn X.K (.ref C) "__contains__" = some (some (.ref f))) (hf : isFn X.K (.ref f) = true) :
    OpR X (compareOp .NotIn) (rInO C sp true) := by
  intro pins s σ H x y v u Q I rx ry h
  obtain ⟨b, dy, gs, rfl, hb, q⟩ := h
  cases ry
  obtain ⟨ob, jb⟩ := inst_of I hb
  obtain ⟨m, hF⟩ := I.fr
  refine notIn_K hF I.ok.mod.kin jb hs hf ?_
  refine wpAny_mono (call_at F (sub0 hr) I (.cons (relR _) (.cons rx .nil)) q) (fun r s' z => ?_) fun _ _ z => z
  obtain ⟨w, H', I', rw', k, rfl, q'⟩ := z
  cases rw'
  exact wpAny_truthy_bool ⟨_, H', I', relB _, q'⟩

/-- a == y, a an instance of C with its own ==, y anything of a known type that is no subclass of C -/
def rEqO (K : Frag) (C : Addr) (sp : Sp) : R2 := fun x y H Q => ∃ a dx fs t, x = .ref a ∧ H a = some (.ins C dx fs) ∧ TyX K H y t ∧ notFirst K C t = true ∧ sp [.ref a, y] H (fun v H' => ∃ k, v = .bl k ∧ Q (.bl k) H') E0
theorem op_eqO (F : FnR X.prog X.w X.K X.mg X.base CX0 n f sp) (hr : Room n X.A) (hs : findIn X.K (.ref C) "__eq__" = some (some (.ref f))) (hf : isFn X.K (.ref f) = true) :
    OpR X (compareOp .Eq) (rEqO X.K C sp) := by
  intro pins s σ H x y v u Q I rx ry h
  obtain ⟨a, dx, fs, t, rfl, ha, ty, nf, q⟩ := h
  cases rx
  obtain ⟨oa, ja⟩ := inst_of I ha
  obtain ⟨m, hF⟩ := I.fr
  obtain ⟨P, kx, hp, _⟩ := kit_of I ry ty
  show wpAny (model X.prog X.w) X.A (richCompare .Eq (.ref a) u) (EP X pins σ Q) X.xe s
  refine cmp_K (op := .Eq) hr.units0 hF I.ok.mod.kin ja (kx.ty _ _ I.kIn hp) nf hs hf ?_
  refine wpAny_mono (call_at F (sub0 hr) I (.cons (relR _) (.cons ry .nil)) q) (fun r s' z => ?_) fun _ _ z => z
  obtain ⟨w, H', I', rw', k, rfl, q'⟩ := z
  cases rw'
  exact ⟨_, H', I', relB _, q'⟩

/-! ### a != y: object.__ne__ turns the own == round -/
theorem ifBoundB {M : Model} {A : Around} {E : Value → Shared → Prop} {s : Shared} {K : Frag} {x : Addr} {ox : Obj} {od : Option Obj} {name : Str} {id : String} {args : List Value} {Q : Option Value → Shared → Prop} (Xk : K.In s.heap) (I : InstAt s.heap x ox C od)
    (hs : findIn K (.ref C) name = some (some (.builtin id))) (hb : ∀ self, bindSpecial (.builtin id) self = pure (.builtin id, [self]))
    (h : wpAny M A (call (.builtin id) (.ref x :: args)) (fun v => Q (some v)) E s) : wpAny M A (callSpecialIfBound? (.ref x) name args) Q E s := by
  simp only [callSpecialIfBound?, bindSpecialIfBound?]
  refine wpAny_holding (wpAny_bind (wpAny_bind (wpAny_bind (I.type.here ((looks_findIn Xk hs).here ?_)))))
  simp only [hb]
  have fin : wpAny M A (call (.builtin id) ([.ref x] ++ args) >>= fun v => pure (some v)) Q E s :=
    wpAny_bind (wpAny_mono h (fun v s' z => wpAny_pure z) fun _ _ z => z)
  refine wpAny_bind (wpAny_askSetting (wpAny_ite ?_))
  split
  · exact wpAny_bind (wpAny_pure (wpAny_pure fin))
  · exact wpAny_tryCatch (wpAny_bind (wpAny_pure (wpAny_pure fin)))

theorem call_ne {pins : List (Addr × Obj)} {s : Shared} {σ : L2.St} {H : Hp} {a dx : Addr} {fs : List (Str × V)} {y : V} {u : Value} {Q : VK} {E : Value → Shared → Prop} {A : Around} (F : FnR X.prog X.w X.K X.mg X.base CX0 n f sp) (sb : Sub X (n + 1) A)
    (hs : findIn X.K (.ref C) "__eq__" = some (some (.ref f))) (hf : isFn X.K (.ref f) = true) (hob : subIn X.K (.ref C) (.type "object") = some true)
    (I : Inv X pins σ H s) (ha : H a = some (.ins C dx fs)) (ry : RelV y u) (q : sp [.ref a, y] H (fun v H' => ∃ k, v = .bl k ∧ Q (.bl (!k)) H') E0) :
    wpAny (model X.prog X.w) A (call (.builtin "object.__ne__") [.ref a, u]) (EP X pins σ fun v H' => (∃ k, v = .bl k) ∧ Q v H') E s := by
  obtain ⟨oa, ja⟩ := inst_of I ha
  have li : Looks (model X.prog X.w) s.heap (isInstance (.ref a) (.type "object")) true := ja.type.andThen (looks_subIn I.kIn hob)
  refine wpAny_call (codeAny_call_builtin PySem.F.cmp_object.ne.plain PySem.F.cmpEntry_ne (check_slot PySem.F.cmpKind_ne PySem.F.cmpSplit_ne li (PySem.F.cmpArgs_ne _ _) ?_))
  have body : wpAny (model X.prog X.w) A.in1 (Builtin.«object.__ne__» ⟨[.ref a, u], []⟩) (fun fin s' => ∃ v, fin = .done (.ret v) ∧ EP X pins σ (fun v H' => (∃ k, v = .bl k) ∧ Q v H') v s') (fun _ _ => False) s := by
    unfold Builtin.«object.__ne__»
    have hu : A.in1.units < cLine := sb.in1.room.units0
    refine wpAny_bind (wpAny_pure ?_)
    dsimp only
    refine wpAny_bind (wpAny_cRoomFor hu ?_)
    refine wpAny_bind (ifBound_K I.kIn ja hs hf (wpAny_mono (call_at F sb.in1 I (.cons (relR _) (.cons ry .nil)) q) (fun r s' z => ?_) fun _ _ z => z))
    obtain ⟨w, H', I', rw', k, rfl, q'⟩ := z
    cases rw'
    dsimp only
    refine wpAny_bind (wpAny_truthy_bool ?_)
    exact wpAny_pure ⟨_, rfl, _, H', I', relB _, ⟨_, rfl⟩, q'⟩
  refine wpAny_mono body (fun fin s' z => ?_) fun _ _ z => z.elim
  obtain ⟨v, rfl, z⟩ := z
  exact z
end
end Spk

set_option Elab.async false
set_option linter.all false
set_option maxRecDepth 100000
set_option maxHeartbeats 2000000
namespace Spk
open PySem PySem.Spec PyProof.Rows PySem.W L2
open AutoSeq1 (wpAny_loadPart')
open MeetsSeq MeetsSeq2 MeetsSeq3 SeqRoads2

/-! ## built-in == and != decline an instance of an own class -/
section
variable {prog : Program} {w : World} {x C dx : Addr}
theorem int_eq_dec (b : Int) (u : Tok) : Meets (Builtin.«int.__eq__» ⟨[.int b u, .ref x], []⟩) (fun _ R s => s.heap.get? x = some (instObj C dx) ∧ R (.ok (.ret .notImplemented)) s) :=
  .of_wp fun prog w A R s h => by obtain ⟨hp, g, d, tk, os⟩ := s; obtain ⟨hl, h⟩ := h; unfold instObj at hl; wp_walk using wpAny_loadPart' hl, wpAny_load hl; exact ⟨_, rfl, h⟩
theorem int_ne_dec (b : Int) (u : Tok) : Meets (Builtin.«int.__ne__» ⟨[.int b u, .ref x], []⟩) (fun _ R s => s.heap.get? x = some (instObj C dx) ∧ R (.ok (.ret .notImplemented)) s) :=
  .of_wp fun prog w A R s h => by obtain ⟨hp, g, d, tk, os⟩ := s; obtain ⟨hl, h⟩ := h; unfold instObj at hl; wp_walk using wpAny_loadPart' hl, wpAny_load hl; exact ⟨_, rfl, h⟩
theorem bool_eq_dec (b : Bool) : Meets (Builtin.«int.__eq__» ⟨[.bool b, .ref x], []⟩) (fun _ R s => s.heap.get? x = some (instObj C dx) ∧ R (.ok (.ret .notImplemented)) s) :=
  .of_wp fun prog w A R s h => by obtain ⟨hp, g, d, tk, os⟩ := s; obtain ⟨hl, h⟩ := h; unfold instObj at hl; wp_walk using wpAny_loadPart' hl, wpAny_load hl; exact ⟨_, rfl, h⟩
theorem bool_ne_dec (b : Bool) : Meets (Builtin.«int.__ne__» ⟨[.bool b, .ref x], []⟩) (fun _ R s => s.heap.get? x = some (instObj C dx) ∧ R (.ok (.ret .notImplemented)) s) :=
  .of_wp fun prog w A R s h => by obtain ⟨hp, g, d, tk, os⟩ := s; obtain ⟨hl, h⟩ := h; unfold instObj at hl; wp_walk using wpAny_loadPart' hl, wpAny_load hl; exact ⟨_, rfl, h⟩
theorem str_eq_dec (b : Str) (u : Tok) : Meets (Builtin.«str.__eq__» ⟨[.str b u, .ref x], []⟩) (fun _ R s => s.heap.get? x = some (instObj C dx) ∧ R (.ok (.ret .notImplemented)) s) :=
  .of_wp fun prog w A R s h => by obtain ⟨hp, g, d, tk, os⟩ := s; obtain ⟨hl, h⟩ := h; unfold instObj at hl; wp_walk using wpAny_loadPart' hl, wpAny_load hl; exact ⟨_, rfl, h⟩
theorem str_ne_dec (b : Str) (u : Tok) : Meets (Builtin.«str.__ne__» ⟨[.str b u, .ref x], []⟩) (fun _ R s => s.heap.get? x = some (instObj C dx) ∧ R (.ok (.ret .notImplemented)) s) :=
  .of_wp fun prog w A R s h => by obtain ⟨hp, g, d, tk, os⟩ := s; obtain ⟨hl, h⟩ := h; unfold instObj at hl; wp_walk using wpAny_loadPart' hl, wpAny_load hl; exact ⟨_, rfl, h⟩
end

/-- values of built-in kinds that an instance is compared with -/
inductive Odd (H : Hp) : V → String → Prop where
  | non : Odd H .non "NoneType"
  | bl (b : Bool) : Odd H (.bl b) "bool"
  | int (i : Int) : Odd H (.int i) "int"
  | str (x : Str) : Odd H (.str x) "str"
  | lst {a : Addr} {xs : List V} (h : H a = some (.lst xs)) : Odd H (.ref a) "list"
  | tup {a : Addr} {xs : List V} (h : H a = some (.tup xs)) : Odd H (.ref a) "tuple"
theorem Odd.ty {K : Frag} {H : Hp} {y : V} {T : String} (h : Odd H y T) : TyX K H y (.type T) := by
  cases h with
  | non => exact .base .non
  | bl b => exact .base (.bl b)
  | int i => exact .base (.int i)
  | str x => exact .base (.str x)
  | lst h => exact .base (.lst h)
  | tup h => exact .base (.tup h)

/-- what the text says of a class: it is over no built-in type -/
structure Bare (K : Frag) (C : Addr) : Prop where
  o : subIn K (.ref C) (.type "object") = some true
  n : subIn K (.ref C) (.type "NoneType") = some false
  b : subIn K (.ref C) (.type "bool") = some false
  i : subIn K (.ref C) (.type "int") = some false
  s : subIn K (.ref C) (.type "str") = some false
  l : subIn K (.ref C) (.type "list") = some false
  t : subIn K (.ref C) (.type "tuple") = some false
theorem Bare.odd {K : Frag} {C : Addr} {H : Hp} {y : V} {T : String} (B : Bare K C) (h : Odd H y T) : subIn K (.ref C) (.type T) = some false := by
  cases h with
  | non => exact B.n
  | bl b => exact B.b
  | int i => exact B.i
  | str x => exact B.s
  | lst h => exact B.l
  | tup h => exact B.t

section
variable {X : Cx} {pins : List (Addr × Obj)} {s : Shared} {σ : L2.St} {H : Hp} {a C dx : Addr} {fs : List (Str × V)} {y : V} {u : Value} {T : String} {A : Around} {E : Value → Shared → Prop} {Q : Option Value → Shared → Prop}
theorem list_dec {l : Addr} {T : String} {name : Str} {id : String} {B : Builtin} (I : Inv X pins σ H s) (ha : H a = some (.ins C dx fs)) (hno : subIn X.K (.ref C) (.type T) = some false) (slot : Slot T name id) (hT : s.TypeIs (.ref l) T)
    (entry : entryFor table id = some B) (args : argsOk id ⟨[.ref l, .ref a], []⟩)
    (hB : ∀ (A : Around) (P : PySem.Fin → Shared → Prop) (E : Value → Shared → Prop), Looks (model X.prog X.w) s.heap (isInstance (.ref a) (.type T)) false → P (.done (.ret .notImplemented)) s → wpAny (model X.prog X.w) A (B ⟨[.ref l, .ref a], []⟩) P E s)
    (q : Q none s) : wpAny (model X.prog X.w) A (tryCompare (.ref l) name (.ref a)) Q E s := by
  obtain ⟨oa, ja⟩ := inst_of I ha
  have li : Looks (model X.prog X.w) s.heap (isInstance (.ref a) (.type T)) false := ja.type.andThen (looks_subIn I.kIn hno)
  refine wpAny_tryCompare_declines hT slot ?_
  refine GQ.call_here slot hT entry args ?_
  exact hB _ _ _ li ⟨rfl, q⟩
theorem try_dec_eq (B : Bare X.K C) (I : Inv X pins σ H s) (ha : H a = some (.ins C dx fs)) (o : Odd H y T) (ry : RelV y u) (q : Q none s) : wpAny (model X.prog X.w) A (tryCompare u "__eq__" (.ref a)) Q E s := by
  obtain ⟨oa, ja⟩ := inst_of I ha
  cases o with
  | non =>
    cases ry
    exact wpAny_tryCompare_declines (T := "NoneType") rfl PySem.F.slot_NoneType_eq (call_gives PySem.F.slot_NoneType_eq rfl PySem.F.entry_NoneType_eq (PySem.F.args_NoneType_eq_2 _ _) (SeqAt.NoneType___eq___none_ref_0 a) (show _ ∧ _ from ⟨rfl, q⟩))
  | bl b =>
    cases ry
    exact wpAny_tryCompare_declines (T := "bool") rfl PySem.F.slot_bool_eq (call_meets PySem.F.slot_bool_eq rfl PySem.F.entry_int_eq (PySem.F.args_int_eq_2 _ _) (bool_eq_dec (C := C) (dx := dx) b) ⟨ja.at_, rfl, q⟩)
  | int i =>
    obtain ⟨t, rfl⟩ := ry
    exact wpAny_tryCompare_declines (T := "int") (typeIs_int s i t) PySem.F.slot_int_eq (call_meets PySem.F.slot_int_eq (typeIs_int s i t) PySem.F.entry_int_eq (PySem.F.args_int_eq_2 _ _) (int_eq_dec (C := C) (dx := dx) i t) ⟨ja.at_, rfl, q⟩)
  | str x =>
    obtain ⟨t, rfl⟩ := ry
    exact wpAny_tryCompare_declines (T := "str") (typeIs_str s x t) PySem.F.slot_str_eq (call_meets PySem.F.slot_str_eq (typeIs_str s x t) PySem.F.entry_str_eq (PySem.F.args_str_eq_2 _ _) (str_eq_dec (C := C) (dx := dx) x t) ⟨ja.at_, rfl, q⟩)
  | lst h =>
    cases ry
    obtain ⟨_, its, k, _, e⟩ := (show ObjOk X.prog X.w H s.heap _ (.lst _) from I.hok _ _ h)
    refine list_dec I ha B.l PySem.F.slot_list_eq ⟨_, e, rfl⟩ PySem.F.entry_list_eq (PySem.F.args_list_eq_2 _ _) (fun A P E li q => ?_) q
    obtain ⟨hp, g, d, tk, os⟩ := s
    wp_walk using li.here
    exact q
  | tup h =>
    cases ry
    obtain ⟨_, its, _, o, e, c⟩ := (show ObjOk X.prog X.w H s.heap _ (.tup _) from I.hok _ _ h)
    refine list_dec I ha B.t PySem.F.slot_tuple_eq ⟨_, e, c.1⟩ PySem.F.entry_tuple_eq (PySem.F.args_tuple_eq_2 _ _) (fun A P E li q => ?_) q
    obtain ⟨hp, g, d, tk, os⟩ := s
    wp_walk using li.here
    exact q
theorem try_dec_ne (B : Bare X.K C) (I : Inv X pins σ H s) (ha : H a = some (.ins C dx fs)) (o : Odd H y T) (ry : RelV y u) (q : Q none s) : wpAny (model X.prog X.w) A (tryCompare u "__ne__" (.ref a)) Q E s := by
  obtain ⟨oa, ja⟩ := inst_of I ha
  cases o with
  | non =>
    cases ry
    exact wpAny_tryCompare_declines (T := "NoneType") rfl PySem.F.slot_NoneType_ne (call_gives PySem.F.slot_NoneType_ne rfl PySem.F.entry_NoneType_ne (PySem.F.args_NoneType_ne_2 _ _) (SeqAt.NoneType___ne___none_ref_0 a) (show _ ∧ _ from ⟨rfl, q⟩))
  | bl b =>
    cases ry
    exact wpAny_tryCompare_declines (T := "bool") rfl PySem.F.slot_bool_ne (call_meets PySem.F.slot_bool_ne rfl PySem.F.entry_int_ne (PySem.F.args_int_ne_2 _ _) (bool_ne_dec (C := C) (dx := dx) b) ⟨ja.at_, rfl, q⟩)
  | int i =>
    obtain ⟨t, rfl⟩ := ry
    exact wpAny_tryCompare_declines (T := "int") (typeIs_int s i t) PySem.F.slot_int_ne (call_meets PySem.F.slot_int_ne (typeIs_int s i t) PySem.F.entry_int_ne (PySem.F.args_int_ne_2 _ _) (int_ne_dec (C := C) (dx := dx) i t) ⟨ja.at_, rfl, q⟩)
  | str x =>
    obtain ⟨t, rfl⟩ := ry
    exact wpAny_tryCompare_declines (T := "str") (typeIs_str s x t) PySem.F.slot_str_ne (call_meets PySem.F.slot_str_ne (typeIs_str s x t) PySem.F.entry_str_ne (PySem.F.args_str_ne_2 _ _) (str_ne_dec (C := C) (dx := dx) x t) ⟨ja.at_, rfl, q⟩)
  | lst h =>
    cases ry
    obtain ⟨_, its, k, _, e⟩ := (show ObjOk X.prog X.w H s.heap _ (.lst _) from I.hok _ _ h)
    refine list_dec I ha B.l PySem.F.slot_list_ne ⟨_, e, rfl⟩ PySem.F.entry_list_ne (PySem.F.args_list_ne_2 _ _) (fun A P E li q => ?_) q
    obtain ⟨hp, g, d, tk, os⟩ := s
    wp_walk using li.here
    exact q
  | tup h =>
    cases ry
    obtain ⟨_, its, _, o, e, c⟩ := (show ObjOk X.prog X.w H s.heap _ (.tup _) from I.hok _ _ h)
    refine list_dec I ha B.t PySem.F.slot_tuple_ne ⟨_, e, c.1⟩ PySem.F.entry_tuple_ne (PySem.F.args_tuple_ne_2 _ _) (fun A P E li q => ?_) q
    obtain ⟨hp, g, d, tk, os⟩ := s
    wp_walk using li.here
    exact q
end

/-! ### the comparison itself -/
section
variable {X : Cx} {n : Nat} {C f : Addr} {sp : Sp}
theorem rc_right {op : CmpOp} {M : Model} {A : Around} {E : Value → Shared → Prop} {s : Shared} {u b : Value} {T : String} {Q : Value → Shared → Prop} (h1 : oneThing? op u b = none) (hu : A.units < cLine)
    (lu : Looks M s.heap (typeOf u) (.type T)) (lb : Looks M s.heap (typeOf b) (.ref C)) (ls : Looks M s.heap (isSubtype (.ref C) (.type T)) false)
    (d : ∀ Q' : Option Value → Shared → Prop, Q' none s → wpAny M A (tryCompare u (cmpInfo op).2.1 b) Q' E s)
    (h : wpAny M A (tryCompare b (cmpInfo op).2.2 u) (fun r s' => ∃ v, r = some v ∧ Q v s') E s) : wpAny M A (richCompare op u b) Q E s := by
  unfold richCompare
  simp only [h1]
  refine wpAny_holding (wpAny_bind (wpAny_cRoomFor hu ?_))
  refine wpAny_bind (lu.here (wpAny_bind (lb.here ?_)))
  rw [if_pos (by simp)]
  refine wpAny_bind (ls.here ?_)
  simp only [Bool.false_eq_true, if_false]
  refine wpAny_bind (d _ ?_)
  simp only [Bool.not_false, if_true]
  refine wpAny_bind (wpAny_mono h (fun r s' z => ?_) fun _ _ z => z)
  obtain ⟨v, rfl, q⟩ := z
  exact wpAny_pure q
theorem rc_left {op : CmpOp} {M : Model} {A : Around} {E : Value → Shared → Prop} {s : Shared} {a b tb : Value} {Q : Value → Shared → Prop} (h1 : oneThing? op a b = none) (hu : A.units < cLine)
    (la : Looks M s.heap (typeOf a) (.ref C)) (lb : Looks M s.heap (typeOf b) tb) (ls : tb = .ref C ∨ Looks M s.heap (isSubtype tb (.ref C)) false)
    (h : wpAny M A (tryCompare a (cmpInfo op).2.1 b) (fun r s' => ∃ v, r = some v ∧ Q v s') E s) : wpAny M A (richCompare op a b) Q E s := by
  unfold richCompare
  simp only [h1]
  refine wpAny_holding (wpAny_bind (wpAny_cRoomFor hu ?_))
  refine wpAny_bind (la.here (wpAny_bind (lb.here ?_)))
  have go : ∀ k : Sem Bool, Looks M s.heap k false → wpAny M A (do
      let rightFirst ← k
      if rightFirst then
        if let some v ← tryCompare b (cmpInfo op).2.2 a then rule "compare.subclass-reflected-first"; return v
      if let some v ← tryCompare a (cmpInfo op).2.1 b then return v
      if !rightFirst then
        if let some v ← tryCompare b (cmpInfo op).2.2 a then return v
      match op with
      | .Eq => rule "compare.eq-identity"; return .bool (← isSame a b)
      | .NotEq => rule "compare.ne-identity"; return .bool (!(← isSame a b))
      | _ =>
        rule "compare.unsupported"
        raiseError "TypeError" s!"'{(cmpInfo op).1}' not supported between instances of '{← typeNameOf a}' and '{← typeNameOf b}'") Q E s := by
    intro k lk
    refine wpAny_bind (lk.here ?_)
    simp only [Bool.false_eq_true, if_false]
    refine wpAny_bind (wpAny_mono h (fun r s' z => ?_) fun _ _ z => z)
    obtain ⟨v, rfl, q⟩ := z
    exact wpAny_pure q
  rcases ls with rfl | ls
  · rw [if_neg (by simp)]
    exact go _ .now
  · by_cases e : (Value.ref C != tb) = true
    · rw [if_pos e]
      exact go _ ls
    · rw [if_neg e]
      exact go _ .now

theorem try_ne {pins : List (Addr × Obj)} {s : Shared} {σ : L2.St} {H : Hp} {a dx : Addr} {fs : List (Str × V)} {y : V} {u : Value} {Q : VK} {E : Value → Shared → Prop} (F : FnR X.prog X.w X.K X.mg X.base CX0 n f sp) (hr : Room (n + 1) X.A)
    (hs : findIn X.K (.ref C) "__eq__" = some (some (.ref f))) (hn : findIn X.K (.ref C) "__ne__" = some (some (.builtin "object.__ne__"))) (hf : isFn X.K (.ref f) = true) (B : Bare X.K C)
    (I : Inv X pins σ H s) (ha : H a = some (.ins C dx fs)) (ry : RelV y u) (q : sp [.ref a, y] H (fun v H' => ∃ k, v = .bl k ∧ Q (.bl (!k)) H') E0) :
    wpAny (model X.prog X.w) X.A (tryCompare (.ref a) "__ne__" u) (fun r s' => ∃ v, r = some v ∧ EP X pins σ Q v s') E s := by
  obtain ⟨oa, ja⟩ := inst_of I ha
  unfold tryCompare
  refine wpAny_bind (ifBoundB I.kIn ja hn PySem.F.cmp_object.ne.bind (wpAny_mono (call_ne F (sub0 hr) hs hf B.o I ha ry q) (fun v s' z => ?_) fun _ _ z => z))
  obtain ⟨w, H', I', rw', ⟨k, rfl⟩, q'⟩ := z
  cases rw'
  exact wpAny_pure ⟨_, rfl, _, H', I', relB _, q'⟩

/-- what the text says of a class with its own == and none of the other comparisons -/
structure OwnEq (K : Frag) (C f : Addr) : Prop where
  eq : findIn K (.ref C) "__eq__" = some (some (.ref f))
  ne : findIn K (.ref C) "__ne__" = some (some (.builtin "object.__ne__"))
  fn : isFn K (.ref f) = true
  bare : Bare K C

/-- a != y, a an instance of C -/
def rNeO (K : Frag) (C : Addr) (sp : Sp) : R2 := fun x y H Q => ∃ a dx fs t, x = .ref a ∧ H a = some (.ins C dx fs) ∧ TyX K H y t ∧ notFirst K C t = true ∧ sp [.ref a, y] H (fun v H' => ∃ k, v = .bl k ∧ Q (.bl (!k)) H') E0
theorem op_neO (F : FnR X.prog X.w X.K X.mg X.base CX0 n f sp) (hr : Room (n + 1) X.A) (O : OwnEq X.K C f) : OpR X (compareOp .NotEq) (rNeO X.K C sp) := by
  intro pins s σ H x y v u Q I rx ry h
  obtain ⟨a, dx, fs, t, rfl, ha, ty, nf, q⟩ := h
  cases rx
  obtain ⟨oa, ja⟩ := inst_of I ha
  obtain ⟨P, kx, hp, _⟩ := kit_of I ry ty
  show wpAny (model X.prog X.w) X.A (richCompare .NotEq (.ref a) u) (EP X pins σ Q) X.xe s
  refine rc_left (op := .NotEq) (C := C) (tb := t) (oneThing_ref ..) hr.units0 ja.type (kx.ty _ _ I.kIn hp) ?_ (try_ne F hr O.eq O.ne O.fn O.bare I ha ry q)
  rcases Bool.or_eq_true_iff.mp nf with e | e
  · exact .inl (beq_iff_eq.mp e)
  · exact .inr (looks_subIn I.kIn (beq_iff_eq.mp e))

/-- y == a, y != a, y of a built-in kind, a an instance of C -/
def rEqR (K : Frag) (C : Addr) (sp : Sp) : R2 := fun y x H Q => ∃ a dx fs T, x = .ref a ∧ H a = some (.ins C dx fs) ∧ Odd H y T ∧ sp [.ref a, y] H (fun v H' => ∃ k, v = .bl k ∧ Q (.bl k) H') E0
def rNeR (K : Frag) (C : Addr) (sp : Sp) : R2 := fun y x H Q => ∃ a dx fs T, x = .ref a ∧ H a = some (.ins C dx fs) ∧ Odd H y T ∧ sp [.ref a, y] H (fun v H' => ∃ k, v = .bl k ∧ Q (.bl (!k)) H') E0
theorem one_odd {op : CmpOp} {H : Hp} {y : V} {T : String} {u : Value} {a : Addr} (o : Odd H y T) (ry : RelV y u) : oneThing? op u (.ref a) = none := by
  cases o with
  | non => cases ry; rfl
  | bl b => cases ry; rfl
  | int i => obtain ⟨t, rfl⟩ := ry; rfl
  | str x => obtain ⟨t, rfl⟩ := ry; rfl
  | lst h => cases ry; exact oneThing_ref ..
  | tup h => cases ry; exact oneThing_ref ..
theorem op_eqR (F : FnR X.prog X.w X.K X.mg X.base CX0 n f sp) (hr : Room (n + 1) X.A) (O : OwnEq X.K C f) : OpR X (compareOp .Eq) (rEqR X.K C sp) := by
  intro pins s σ H y x u v Q I ry rx h
  obtain ⟨a, dx, fs, T, rfl, ha, o, q⟩ := h
  cases rx
  obtain ⟨oa, ja⟩ := inst_of I ha
  obtain ⟨P, kx, hp, _⟩ := kit_of I ry (o.ty (K := X.K))
  show wpAny (model X.prog X.w) X.A (richCompare .Eq u (.ref a)) (EP X pins σ Q) X.xe s
  refine rc_right (op := .Eq) (C := C) (T := T) (one_odd o ry) hr.units0 (kx.ty _ _ I.kIn hp) ja.type (looks_subIn I.kIn (O.bare.odd o)) (fun Q' z => try_dec_eq O.bare I ha o ry z) ?_
  unfold tryCompare
  refine wpAny_bind (ifBound_K I.kIn ja O.eq O.fn (wpAny_mono (call_at F (sub0 (hr.mono (Nat.le_succ _))) I (.cons (relR _) (.cons ry .nil)) q) (fun r s' z => ?_) fun _ _ z => z))
  obtain ⟨w, H', I', rw', k, rfl, q'⟩ := z
  cases rw'
  exact wpAny_pure ⟨_, rfl, _, H', I', relB _, q'⟩
theorem op_neR (F : FnR X.prog X.w X.K X.mg X.base CX0 n f sp) (hr : Room (n + 1) X.A) (O : OwnEq X.K C f) : OpR X (compareOp .NotEq) (rNeR X.K C sp) := by
  intro pins s σ H y x u v Q I ry rx h
  obtain ⟨a, dx, fs, T, rfl, ha, o, q⟩ := h
  cases rx
  obtain ⟨oa, ja⟩ := inst_of I ha
  obtain ⟨P, kx, hp, _⟩ := kit_of I ry (o.ty (K := X.K))
  show wpAny (model X.prog X.w) X.A (richCompare .NotEq u (.ref a)) (EP X pins σ Q) X.xe s
  exact rc_right (op := .NotEq) (C := C) (T := T) (one_odd o ry) hr.units0 (kx.ty _ _ I.kIn hp) ja.type (looks_subIn I.kIn (O.bare.odd o)) (fun Q' z => try_dec_ne O.bare I ha o ry z) (try_ne F hr O.eq O.ne O.fn O.bare I ha ry q)
end
end Spk

set_option Elab.async false
set_option linter.all false
set_option maxRecDepth 100000
set_option maxHeartbeats 2000000
namespace Spk
open PySem PySem.Spec PyProof.Rows PySem.W L2
open PySem.Sem (wp)

/-! ## bool(t) of a tuple, bool(a) and the truth of an instance by its own __bool__ -/
theorem bool_new_in {prog : Program} {w : World} (x : Value) : MeetsIn prog w (Builtin.«bool.__new__» ⟨[.type "bool", x], []⟩)
    (fun A R s => wpAny (model prog w) A.in1 (truthy x) (fun b s' => R (.ok (.ret (.bool b))) s') (fun e s' => R (.error e) s') s) := fun A R s h => by
  have f1 := F.conv_sub_bool
  obtain ⟨hp, g, d, tk, os⟩ := s
  repeat (any_goals (first | assumption | (with_reducible refine wpAny_bind (m := truthy x) (wpAny_mono h (fun b s' z => ?_) fun _ _ z => z)) | wp_step))
  all_goals first | exact ⟨_, rfl, z⟩ | exact z | skip

section
variable {X : Cx} {n : Nat} {C f : Addr} {sp : Sp}
theorem call_bool_by {A : Around} {E : Value → Shared → Prop} {s : Shared} {x : Value} {Q : Value → Shared → Prop} (h : wpAny (model X.prog X.w) A.in1.in1 (truthy x) (fun b s' => Q (.bool b) s') E s) :
    wpAny (model X.prog X.w) A (call (.type "bool") [x]) Q E s :=
  callType_newIn PySem.F.called_bool PySem.F.newNe_bool (PySem.F.typeCall_bool_1 x) (PySem.F.newCall_bool_1 x) (fun obj => PySem.F.args_object_init_2 obj x) PySem.F.entry_bool_new (bool_new_in x)
    (wpAny_mono h (fun b s' z => ⟨rfl, z⟩) fun _ _ z => z)

/-- bool(t), t a tuple -/
theorem call_boolT : CallR X (.type "bool") (fun xs H Q => ∃ (a : Addr) (zs : List V), xs = [.ref a] ∧ SqT X.K H a zs ∧ Q (.bl (!zs.isEmpty)) H) := by
  intro pins s σ H xs us Q I r h
  obtain ⟨a, zs, rfl, hq, q⟩ := h
  obtain rfl := Vals.ref1 r
  obtain ⟨its, rv, pl, hz⟩ := I.tuple hq
  have hl := line63
  have hlen := rv.length
  refine call_bool_by (truthy_tuple pl (by simp only [List.size_toArray]; omega) ?_)
  exact ⟨.bl (!zs.isEmpty), H, I.tok _, by rw [isEmpty_of rv]; rfl, q⟩

/-- the truth of an instance of C -/
def rTruO (C : Addr) (sp : Sp) : V → Hp → (Bool → Hp → Prop) → Prop := fun x H Q => ∃ a dx fs, x = .ref a ∧ H a = some (.ins C dx fs) ∧ sp [.ref a] H (fun v H' => ∃ k, v = .bl k ∧ Q k H') E0
theorem truthy_own {A : Around} {E : Value → Shared → Prop} {pins : List (Addr × Obj)} {s : Shared} {σ : L2.St} {H : Hp} {x : V} {u : Value} {Q : Bool → Hp → Prop} (F : FnR X.prog X.w X.K X.mg X.base CX0 n f sp) (sb : Sub X n A)
    (hs : findIn X.K (.ref C) "__bool__" = some (some (.ref f))) (hf : isFn X.K (.ref f) = true) (I : Inv X pins σ H s) (rx : RelV x u) (h : rTruO C sp x H Q) : wpAny (model X.prog X.w) A (truthy u) (TP X pins σ Q) E s := by
  obtain ⟨a, dx, fs, rfl, ha, q⟩ := h
  cases rx
  obtain ⟨oa, ja⟩ := inst_of I ha
  obtain ⟨m, hF⟩ := I.fr
  refine truthy_K hF I.ok.mod.kin ja hs hf (wpAny_mono (call_at F sb I (.cons (relR _) .nil) q) (fun r s' z => ?_) fun _ _ z => z)
  obtain ⟨w, H', I', rw', k, rfl, q'⟩ := z
  cases rw'
  exact ⟨H', I', q'⟩
/-- bool(a) -/
theorem call_boolO (F : FnR X.prog X.w X.K X.mg X.base CX0 n f sp) (hr : Room (n + 2) X.A) (hs : findIn X.K (.ref C) "__bool__" = some (some (.ref f))) (hf : isFn X.K (.ref f) = true) :
    CallR X (.type "bool") (fun xs H Q => ∃ x, xs = [x] ∧ rTruO C sp x H (fun k H' => Q (.bl k) H')) := by
  intro pins s σ H xs us Q I r h
  obtain ⟨x, rfl, h⟩ := h
  obtain ⟨u, rfl, ru⟩ := r.one
  refine call_bool_by (wpAny_mono (truthy_own F (Sub.in1 (Sub.in1 (sub0 hr))) hs hf I ru h) (fun b s' z => ?_) fun _ _ z => z)
  obtain ⟨H', I', q'⟩ := z
  exact ⟨_, H', I', relB _, q'⟩
end
end Spk

set_option linter.all false
namespace Spk
abbrev Stc := Option Int × Option Int
def has1 (s : Stc) (n : Int) : Bool := (match s.1 with | none => true | some l => decide (l ≤ n)) && (match s.2 with | none => true | some h => decide (n ≤ h))
def hasL (ss : List Stc) (n : Int) : Bool := ss.any fun s => has1 s n
def NE (s : Stc) : Prop := ∀ l h, s.1 = some l → s.2 = some h → l ≤ h
def Apart (a b : Stc) : Prop := ∃ h l, a.2 = some h ∧ b.1 = some l ∧ h + 1 < l
structure Canon (ps : List Stc) : Prop where
  ne : ∀ s, s ∈ ps → NE s
  ap : ps.Pairwise Apart
def touchB (hi lo : Option Int) : Bool := match lo, hi with
  | none, _ => true
  | _, none => true
  | some l, some h => decide (l ≤ h + 1)
def laterE (a b : Option Int) : Option Int := match a, b with
  | none, _ => none
  | _, none => none
  | some x, some y => some (if y > x then y else x)
def joinF (acc : List Stc) (s : Stc) : List Stc := match acc.getLast? with
  | none => acc ++ [s]
  | some p => if touchB p.2 s.1 = true then acc.dropLast ++ [(p.1, laterE p.2 s.2)] else acc ++ [s]
def lowLe (a b : Option Int) : Prop := match a, b with
  | none, _ => True
  | some _, none => False
  | some i, some j => i ≤ j
theorem has1_of {s : Stc} {n : Int} (h1 : ∀ k, s.1 = some k → k ≤ n) (h2 : ∀ k, s.2 = some k → n ≤ k) : has1 s n = true := by
  obtain ⟨l, r⟩ := s
  cases l <;> cases r <;> simp_all [has1]
theorem hasL_append (a b : List Stc) (n : Int) : hasL (a ++ b) n = (hasL a n || hasL b n) := by simp [hasL, List.any_append]
theorem hasL_one (s : Stc) (n : Int) : hasL [s] n = has1 s n := by simp [hasL]
theorem hasL_cons (s : Stc) (b : List Stc) (n : Int) : hasL (s :: b) n = (has1 s n || hasL b n) := by simp [hasL]
theorem hasL_nil (n : Int) : hasL [] n = false := rfl

theorem join_has (p s : Stc) (n : Int) (hp : NE p) (hs : NE s) (hl : lowLe p.1 s.1) (ht : touchB p.2 s.1 = true) : has1 (p.1, laterE p.2 s.2) n = (has1 p n || has1 s n) := by
  obtain ⟨pl, ph⟩ := p
  obtain ⟨sl, sh⟩ := s
  rw [Bool.eq_iff_iff]
  cases pl <;> cases ph <;> cases sl <;> cases sh <;> simp_all [has1, laterE, touchB, lowLe, NE]
  all_goals (try split)
  all_goals (try omega)
theorem join_ne (p s : Stc) (hp : NE p) : NE (p.1, laterE p.2 s.2) := by
  obtain ⟨pl, ph⟩ := p
  obtain ⟨sl, sh⟩ := s
  intro l h h1 h2
  cases ph <;> cases sh <;> simp_all [laterE]
  have := hp l _ rfl rfl
  split at h2 <;> omega
theorem notouch {p s : Stc} (h : touchB p.2 s.1 = false) : Apart p s := by
  obtain ⟨pl, ph⟩ := p
  obtain ⟨sl, sh⟩ := s
  cases ph <;> cases sl <;> simp_all [touchB, Apart]
theorem apart_trans {a p s : Stc} (h1 : Apart a p) (hp : NE p) (h2 : Apart p s) : Apart a s := by
  obtain ⟨h, l, e1, e2, q⟩ := h1
  obtain ⟨h', l', e3, e4, q'⟩ := h2
  have := hp l h' e2 e3
  exact ⟨h, l', e1, e4, by omega⟩
theorem canon_snoc {acc : List Stc} {p s : Stc} (h : Canon (acc ++ [p])) (hs : NE s) (ha : Apart p s) : Canon (acc ++ [p] ++ [s]) := by
  refine ⟨fun x hx => ?_, ?_⟩
  · rcases List.mem_append.mp hx with hx | hx
    · exact h.ne x hx
    · rw [List.mem_singleton.mp hx]; exact hs
  · refine List.pairwise_append.mpr ⟨h.ap, List.pairwise_singleton .., fun a ha' b hb => ?_⟩
    rw [List.mem_singleton.mp hb]
    rcases List.mem_append.mp ha' with q | q
    · exact apart_trans ((List.pairwise_append.mp h.ap).2.2 a q p (by simp)) (h.ne p (by simp)) ha
    · rw [List.mem_singleton.mp q]; exact ha
theorem canon_last {acc : List Stc} {p s : Stc} (h : Canon (acc ++ [p])) : Canon (acc ++ [(p.1, laterE p.2 s.2)]) := by
  refine ⟨fun x hx => ?_, ?_⟩
  · rcases List.mem_append.mp hx with hx | hx
    · exact h.ne x (List.mem_append_left _ hx)
    · rw [List.mem_singleton.mp hx]; exact join_ne p s (h.ne p (by simp))
  · refine List.pairwise_append.mpr ⟨(List.pairwise_append.mp h.ap).1, List.pairwise_singleton .., fun a ha b hb => ?_⟩
    rw [List.mem_singleton.mp hb]
    exact (List.pairwise_append.mp h.ap).2.2 a ha p (by simp)
/-- one step of the joining -/
theorem join_step {acc pre : List Stc} {s : Stc} (hc : Canon acc) (hm : ∀ n, hasL acc n = hasL pre n) (hl : ∀ a, a ∈ acc → lowLe a.1 s.1) (hs : NE s) :
    Canon (joinF acc s) ∧ (∀ n, hasL (joinF acc s) n = hasL (pre ++ [s]) n) ∧ ∀ a, a ∈ joinF acc s → a.1 = s.1 ∨ ∃ b, b ∈ acc ∧ a.1 = b.1 := by
  rcases List.eq_nil_or_concat acc with rfl | ⟨ac, p, rfl⟩
  · refine ⟨⟨fun x hx => ?_, ?_⟩, fun n => ?_, fun a ha => ?_⟩
    · have : x = s := by simpa [joinF] using hx
      rw [this]; exact hs
    · simp [joinF]
    · rw [hasL_append, ← hm n]; simp [joinF, hasL]
    · left
      have : a = s := by simpa [joinF] using ha
      rw [this]
  · simp only [List.concat_eq_append] at *
    have hg : (ac ++ [p]).getLast? = some p := by simp
    unfold joinF
    rw [hg]
    dsimp only
    by_cases ht : touchB p.2 s.1 = true
    · rw [if_pos ht, List.dropLast_concat]
      refine ⟨canon_last (s := s) hc, fun n => ?_, fun a ha => ?_⟩
      · have h1 := hm n
        rw [hasL_append, hasL_one] at h1
        rw [hasL_append, hasL_one, hasL_append, hasL_one, join_has p s n (hc.ne p (by simp)) hs (hl p (by simp)) ht, ← h1, Bool.or_assoc]
      · right
        rcases List.mem_append.mp ha with ha | ha
        · exact ⟨a, by simp [ha], rfl⟩
        · rw [List.mem_singleton.mp ha]; exact ⟨p, by simp, rfl⟩
    · rw [if_neg ht]
      have ht' : touchB p.2 s.1 = false := by simpa using ht
      refine ⟨canon_snoc hc hs (notouch ht'), fun n => ?_, fun a ha => ?_⟩
      · rw [hasL_append (ac ++ [p]) [s], hasL_append pre [s], hm n]
      · rcases List.mem_append.mp ha with ha | ha
        · right; exact ⟨a, ha, rfl⟩
        · left; rw [List.mem_singleton.mp ha]
theorem lowLe_trans {a b c : Option Int} (h1 : lowLe a b) (h2 : lowLe b c) : lowLe a c := by
  cases a <;> cases b <;> cases c <;> simp_all [lowLe]
  omega
/-- the invariant of the loop -/
structure Joins (acc pre rest : List Stc) : Prop where
  canon : Canon acc
  has : ∀ n, hasL acc n = hasL pre n
  low : ∀ a, a ∈ acc → ∀ s, s ∈ rest → lowLe a.1 s.1
theorem joins_step {acc pre rest : List Stc} {s : Stc} (h : Joins acc pre (s :: rest)) (hs : NE s) (hw : (s :: rest).Pairwise fun a b => lowLe a.1 b.1) : Joins (joinF acc s) (pre ++ [s]) rest := by
  obtain ⟨c, m, l⟩ := join_step h.canon h.has (fun a ha => h.low a ha s (by simp)) hs
  refine ⟨c, m, fun a ha t ht => ?_⟩
  have hst : lowLe s.1 t.1 := (List.pairwise_cons.mp hw).1 t ht
  rcases l a ha with e | ⟨b, hb, e⟩
  · rw [e]; exact hst
  · rw [e]; exact h.low b hb t (by simp [ht])

/-! ### one set, one list of parts -/
theorem canon_tail {s : Stc} {ps : List Stc} (h : Canon (s :: ps)) : Canon ps := ⟨fun x hx => h.ne x (by simp [hx]), (List.pairwise_cons.mp h.ap).2⟩
/-- nothing of the later parts lies at or ahead of the number behind the first one's end -/
theorem later_no {s : Stc} {ps : List Stc} (h : Canon (s :: ps)) {n e : Int} (he : s.2 = some e) (hn : n ≤ e + 1) : hasL ps n = false := by
  unfold hasL
  rw [List.any_eq_false]
  intro t ht
  obtain ⟨h', l, e1, e2, q⟩ := (List.pairwise_cons.mp h.ap).1 t ht
  rw [he] at e1
  cases e1
  simp only [has1, e2, Bool.and_eq_true, decide_eq_true_eq, not_and]
  intro h1
  omega
theorem no_later {s : Stc} {ps : List Stc} (h : Canon (s :: ps)) (he : s.2 = none) : ps = [] := by
  cases ps with
  | nil => rfl
  | cons t ps =>
    obtain ⟨h', l, e1, _⟩ := (List.pairwise_cons.mp h.ap).1 t (by simp)
    rw [he] at e1
    cases e1
/-- ahead of the first part's low end there is nothing -/
theorem ahead_no {s : Stc} {ps : List Stc} (h : Canon (s :: ps)) {n l : Int} (hl : s.1 = some l) (hn : n < l) : hasL (s :: ps) n = false := by
  rw [hasL_cons]
  have h1 : has1 s n = false := by
    simp only [has1, hl, Bool.and_eq_false_iff, decide_eq_false_iff_not]
    left
    omega
  rw [h1, Bool.false_or]
  cases e : s.2 with
  | none => rw [no_later h e]; rfl
  | some x =>
    have := h.ne s (by simp) l x hl e
    exact later_no h e (by omega)
theorem has_low {s : Stc} (h : NE s) {l : Int} (hl : s.1 = some l) : has1 s l = true := by
  cases e : s.2 with
  | none => simp [has1, hl, e]
  | some x =>
    have := h l x hl e
    simp [has1, hl, e, this]
theorem has_some {s : Stc} (h : NE s) (m : Int) : ∃ n, n ≤ m ∧ (s.1 = none → has1 s n = true) := by
  cases e : s.2 with
  | none => exact ⟨m, Int.le_refl _, fun h1 => by simp [has1, h1, e]⟩
  | some x =>
    by_cases q : m ≤ x
    · exact ⟨m, Int.le_refl _, fun h1 => by simp [has1, h1, e, q]⟩
    · exact ⟨x, by omega, fun h1 => by simp [has1, h1, e]⟩
theorem ne_has {s : Stc} (h : NE s) : ∃ n, has1 s n = true := by
  cases e : s.1 with
  | none =>
    obtain ⟨n, _, q⟩ := has_some h 0
    exact ⟨n, q e⟩
  | some l => exact ⟨l, has_low h e⟩
theorem low_same {s t : Stc} {ps qs : List Stc} (h : Canon (s :: ps)) (h' : Canon (t :: qs)) (e : ∀ n, hasL (s :: ps) n = hasL (t :: qs) n) : lowLe t.1 s.1 := by
  cases hs : s.1 with
  | none =>
    cases ht : t.1 with
    | none => trivial
    | some l =>
      obtain ⟨n, hn, q⟩ := has_some (h.ne s (by simp)) (l - 1)
      have h1 := e n
      rw [ahead_no h' ht (by omega), hasL_cons, q hs] at h1
      simp at h1
  | some a =>
    cases ht : t.1 with
    | none => trivial
    | some b =>
      by_cases q : b ≤ a
      · exact q
      · have h1 := e a
        rw [ahead_no h' ht (by omega), hasL_cons, has_low (h.ne s (by simp)) hs] at h1
        simp at h1
theorem lowLe_antisymm {a b : Option Int} (h1 : lowLe a b) (h2 : lowLe b a) : a = b := by
  cases a <;> cases b <;> simp_all [lowLe]
  omega
/-- behind the end of the first one there is a number that is not in it -/
theorem high_same {s t : Stc} {ps qs : List Stc} (h : Canon (s :: ps)) (h' : Canon (t :: qs)) (e : ∀ n, hasL (s :: ps) n = hasL (t :: qs) n) (hl : s.1 = t.1) {x : Int} (hx : s.2 = some x) : ∃ y, t.2 = some y ∧ y ≤ x := by
  have h1 := e (x + 1)
  have n1 : has1 s (x + 1) = false := by
    simp only [has1, hx, Bool.and_eq_false_iff, decide_eq_false_iff_not]
    right
    omega
  rw [hasL_cons, n1, later_no h hx (Int.le_refl _), hasL_cons] at h1
  have h2 : has1 t (x + 1) = false := by
    cases q : has1 t (x + 1) with
    | false => rfl
    | true => rw [q] at h1; simp at h1
  have low : ∀ l, t.1 = some l → l ≤ x + 1 := fun l hl' => by
    rw [← hl] at hl'
    have := h.ne s (by simp) l x hl' hx
    omega
  cases ht : t.2 with
  | none =>
    exfalso
    cases hl' : t.1 with
    | none => simp [has1, hl', ht] at h2
    | some l =>
      have := low l hl'
      simp [has1, hl', ht, this] at h2
  | some y =>
    refine ⟨y, rfl, ?_⟩
    by_cases q : y ≤ x
    · exact q
    · exfalso
      have q' : x + 1 ≤ y := by omega
      cases hl' : t.1 with
      | none => simp [has1, hl', ht, q'] at h2
      | some l =>
        have := low l hl'
        simp [has1, hl', ht, this, q'] at h2
theorem canon_unique : ∀ {ps qs : List Stc}, Canon ps → Canon qs → (∀ n, hasL ps n = hasL qs n) → ps = qs
  | [], [], _, _, _ => rfl
  | [], t :: qs, _, h', e => by
    obtain ⟨n, q⟩ := ne_has (h'.ne t (by simp))
    have := e n
    rw [hasL_cons, q] at this
    simp [hasL_nil] at this
  | s :: ps, [], h, _, e => by
    obtain ⟨n, q⟩ := ne_has (h.ne s (by simp))
    have := e n
    rw [hasL_cons, q] at this
    simp [hasL_nil] at this
  | s :: ps, t :: qs, h, h', e => by
    have hl : s.1 = t.1 := lowLe_antisymm (low_same h' h fun n => (e n).symm) (low_same h h' e)
    have hh : s.2 = t.2 := by
      cases hs : s.2 with
      | none =>
        cases ht : t.2 with
        | none => rfl
        | some y =>
          obtain ⟨z, q, _⟩ := high_same h' h (fun n => (e n).symm) hl.symm ht
          rw [hs] at q; cases q
      | some x =>
        obtain ⟨y, hy, q⟩ := high_same h h' e hl hs
        obtain ⟨z, hz, q'⟩ := high_same h' h (fun n => (e n).symm) hl.symm hy
        rw [hs] at hz
        cases hz
        rw [hy]
        congr 1
        omega
    have est : s = t := Prod.ext hl hh
    subst est
    refine congrArg _ (canon_unique (canon_tail h) (canon_tail h') fun n => ?_)
    cases hs : s.2 with
    | none => rw [no_later h hs, no_later h' hs]
    | some x =>
      by_cases q : n ≤ x + 1
      · rw [later_no h hs q, later_no h' hs q]
      · have n1 : has1 s n = false := by
          simp only [has1, hs, Bool.and_eq_false_iff, decide_eq_false_iff_not]
          right
          omega
        have := e n
        rwa [hasL_cons, hasL_cons, n1, Bool.false_or, Bool.false_or] at this

/-! ### the halving search -/
theorem search_low {ps : List Stc} (h : Canon ps) {m : Nat} {s : Stc} (hm : ps[m]? = some s) {l n : Int} (hl : s.1 = some l) (hn : n < l) {j : Nat} {t : Stc} (hj : m ≤ j) (ht : ps[j]? = some t) : has1 t n = false := by
  have hs := h.ne s (List.mem_of_getElem? hm)
  by_cases e : m = j
  · subst e
    rw [hm] at ht
    cases ht
    simp only [has1, hl, Bool.and_eq_false_iff, decide_eq_false_iff_not]
    left
    omega
  · obtain ⟨h1, h2, h3⟩ := List.getElem?_eq_some_iff.mp hm |>.elim fun a b => (⟨a, b, trivial⟩ : ∃ (a : m < ps.length) (_ : ps[m] = s), True)
    obtain ⟨g1, g2⟩ := List.getElem?_eq_some_iff.mp ht
    have := List.pairwise_iff_getElem.mp h.ap m j h1 g1 (by omega)
    rw [h2, g2] at this
    obtain ⟨x, y, e1, e2, q⟩ := this
    have := hs l x hl e1
    simp only [has1, e2, Bool.and_eq_false_iff, decide_eq_false_iff_not]
    left
    omega
theorem search_high {ps : List Stc} (h : Canon ps) {m : Nat} {s : Stc} (hm : ps[m]? = some s) {l n : Int} (hl : s.2 = some l) (hn : l < n) {j : Nat} {t : Stc} (hj : j ≤ m) (ht : ps[j]? = some t) : has1 t n = false := by
  have hs := h.ne s (List.mem_of_getElem? hm)
  by_cases e : j = m
  · subst e
    rw [hm] at ht
    cases ht
    simp only [has1, hl, Bool.and_eq_false_iff, decide_eq_false_iff_not]
    right
    omega
  · obtain ⟨h1, h2⟩ := List.getElem?_eq_some_iff.mp hm
    obtain ⟨g1, g2⟩ := List.getElem?_eq_some_iff.mp ht
    have := List.pairwise_iff_getElem.mp h.ap j m g1 h1 (by omega)
    rw [h2, g2] at this
    obtain ⟨x, y, e1, e2, q⟩ := this
    have := hs y l e2 hl
    simp only [has1, e1, Bool.and_eq_false_iff, decide_eq_false_iff_not]
    right
    omega

/-! ### the points at which two sets are looked at -/
def endsOf (s : Stc) : List Int := (match s.1 with | none => [] | some l => [l - 1, l, l + 1]) ++ (match s.2 with | none => [] | some h => [h - 1, h, h + 1])
def points (ss : List Stc) : List Int := [0, 1, -1, 10000000000000, -10000000000000] ++ ss.flatMap endsOf
/-- the cuts: the first numbers behind which something changes -/
def cutsOf (s : Stc) : List Int := (match s.1 with | none => [] | some l => [l]) ++ (match s.2 with | none => [] | some h => [h + 1])
def cuts (ss : List Stc) : List Int := ss.flatMap cutsOf
theorem cut_point {ss : List Stc} {c : Int} (h : c ∈ cuts ss) : c ∈ points ss ∧ c - 1 ∈ points ss := by
  obtain ⟨s, hs, hc⟩ := List.mem_flatMap.mp h
  have key : c ∈ endsOf s ∧ c - 1 ∈ endsOf s := by
    obtain ⟨l, r⟩ := s
    cases l <;> cases r <;> simp_all [cutsOf, endsOf] <;> omega
  exact ⟨List.mem_append_right _ (List.mem_flatMap.mpr ⟨s, hs, key.1⟩), List.mem_append_right _ (List.mem_flatMap.mpr ⟨s, hs, key.2⟩)⟩
theorem has_by_cuts {s : Stc} {n m : Int} (h : ∀ c, c ∈ cutsOf s → (c ≤ n ↔ c ≤ m)) : has1 s n = has1 s m := by
  obtain ⟨l, r⟩ := s
  rw [Bool.eq_iff_iff]
  cases l <;> cases r <;> simp_all [cutsOf, has1] <;> omega
theorem hasL_by_cuts {ss : List Stc} {n m : Int} (h : ∀ c, c ∈ cuts ss → (c ≤ n ↔ c ≤ m)) : hasL ss n = hasL ss m := by
  induction ss with
  | nil => rfl
  | cons s ss ih =>
    rw [hasL_cons, hasL_cons, has_by_cuts (s := s) fun c hc => h c (List.mem_flatMap.mpr ⟨s, by simp, hc⟩), ih fun c hc => h c ?_]
    obtain ⟨t, ht, hc⟩ := List.mem_flatMap.mp hc
    exact List.mem_flatMap.mpr ⟨t, by simp [ht], hc⟩
theorem greatest {l : List Int} {n : Int} (h : ∃ c, c ∈ l ∧ c ≤ n) : ∃ c, c ∈ l ∧ c ≤ n ∧ ∀ d, d ∈ l → d ≤ n → d ≤ c := by
  induction l with
  | nil => obtain ⟨c, hc, _⟩ := h; simp at hc
  | cons a l ih =>
    by_cases q : ∃ c, c ∈ l ∧ c ≤ n
    · obtain ⟨c, hc, hn, m⟩ := ih q
      by_cases qa : a ≤ n ∧ c ≤ a
      · refine ⟨a, by simp, qa.1, fun d hd hdn => ?_⟩
        rcases List.mem_cons.mp hd with rfl | hd
        · exact Int.le_refl _
        · have := m d hd hdn; omega
      · refine ⟨c, by simp [hc], hn, fun d hd hdn => ?_⟩
        rcases List.mem_cons.mp hd with rfl | hd
        · omega
        · exact m d hd hdn
    · obtain ⟨c, hc, hn⟩ := h
      rcases List.mem_cons.mp hc with rfl | hc
      · refine ⟨c, by simp, hn, fun d hd hdn => ?_⟩
        rcases List.mem_cons.mp hd with rfl | hd
        · exact Int.le_refl _
        · exact absurd ⟨d, hd, hdn⟩ q
      · exact absurd ⟨c, hc, hn⟩ q
theorem least {l : List Int} (h : l ≠ []) : ∃ c, c ∈ l ∧ ∀ d, d ∈ l → c ≤ d := by
  induction l with
  | nil => exact absurd rfl h
  | cons a l ih =>
    by_cases q : l = []
    · subst q
      exact ⟨a, by simp, fun d hd => by rw [List.mem_singleton.mp hd]; exact Int.le_refl _⟩
    · obtain ⟨c, hc, m⟩ := ih q
      by_cases qa : a ≤ c
      · refine ⟨a, by simp, fun d hd => ?_⟩
        rcases List.mem_cons.mp hd with rfl | hd
        · exact Int.le_refl _
        · have := m d hd; omega
      · refine ⟨c, by simp [hc], fun d hd => ?_⟩
        rcases List.mem_cons.mp hd with rfl | hd
        · omega
        · exact m d hd
/-- each number has a point that no stretch tells from it -/
theorem point_of (ss : List Stc) (n : Int) : ∃ m, m ∈ points ss ∧ ∀ c, c ∈ cuts ss → (c ≤ n ↔ c ≤ m) := by
  by_cases q : ∃ c, c ∈ cuts ss ∧ c ≤ n
  · obtain ⟨c, hc, hn, m⟩ := greatest q
    refine ⟨c, (cut_point hc).1, fun d hd => ⟨fun h => m d hd h, fun h => by omega⟩⟩
  · by_cases q0 : cuts ss = []
    · refine ⟨0, by simp [points], fun c hc => ?_⟩
      rw [q0] at hc
      simp at hc
    · obtain ⟨c, hc, m⟩ := least q0
      refine ⟨c - 1, (cut_point hc).2, fun d hd => ⟨fun h => absurd ⟨d, hd, h⟩ q, fun h => ?_⟩⟩
      have := m d hd
      omega
theorem cuts_append (a b : List Stc) : cuts (a ++ b) = cuts a ++ cuts b := by simp [cuts, List.flatMap_append]
/-- sets that agree at the points of both are the same -/
theorem agree_all {a b : List Stc} (h : ∀ m, m ∈ points (a ++ b) → hasL a m = hasL b m) (n : Int) : hasL a n = hasL b n := by
  obtain ⟨m, hm, hc⟩ := point_of (a ++ b) n
  rw [cuts_append] at hc
  rw [hasL_by_cuts (ss := a) fun c q => hc c (List.mem_append_left _ q), hasL_by_cuts (ss := b) fun c q => hc c (List.mem_append_right _ q)]
  exact h m hm
end Spk

set_option Elab.async false
set_option linter.all false
set_option maxRecDepth 100000
set_option maxHeartbeats 1000000
namespace Spk
open PySem L2

/-! ## readings by steps: one lemma a construct -/
section
variable {σ : L2.St} {H : Hp} {D : Ends} {ta tb te : TE} {Q : VK} {t u : TS} {tt uu : TT} {v x y : V} {i : Nat} {K : PySem.W.Frag}
theorem i_seq (h : t { D with nx := u D } σ H) : tSeq t u D σ H := h
theorem i_next (h : D.nx σ H) : tNext D σ H := h
theorem i_asg {g : TG} (h : te σ H fun x H1 => g x σ H1 D.nx) : tAsg te g D σ H := h
theorem i_name {P : L2.St → Hp → Prop} (h : P (σ.set i (some v)) H) : gName i v σ H P := h
theorem i_ret (h : te σ H D.rt) : tRet te D σ H := h
theorem i_drop (h : te σ H fun _ H1 => D.nx σ H1) : tDrop te D σ H := h
theorem i_ifS (h : tt σ H fun b H1 => if b = true then t D σ H1 else u D σ H1) : tIfS tt t u D σ H := h
theorem i_if (h : tt σ H fun c H1 => if c = true then ta σ H1 Q else tb σ H1 Q) : tIf tt ta tb σ H Q := h
theorem i_var (h : σ[i]? = some (some v)) (q : Q v H) : tVar i σ H Q := ⟨v, h, q⟩
theorem i_c (q : Q v H) : tC v σ H Q := q
theorem i_op {r : R2} (h : ta σ H fun x H1 => tb σ H1 fun y H2 => r x y H2 Q) : tOp r ta tb σ H Q := h
theorem i_un {r : V → Hp → VK → Prop} (h : ta σ H fun x H1 => r x H1 Q) : tUn r ta σ H Q := h
theorem i_rI0 {g : Int → Int → V} {a b : Int} (q : Q (g a b) H) : rI0 g (.int a) (.int b) H Q := ⟨a, b, rfl, rfl, q⟩
theorem i_rI {C : Int → Int → Prop} {g : Int → Int → V} {a b : Int} (hc : C a b) (q : Q (g a b) H) : rI C g (.int a) (.int b) H Q := ⟨a, b, rfl, rfl, hc, q⟩
theorem i_rU {g : Int → V} {a : Int} (q : Q (g a) H) : rU g (.int a) H Q := ⟨a, rfl, q⟩
theorem i_rEq (hs : scal x y = true) (q : Q (.bl (decide (x = y))) H) : rEq x y H Q := ⟨hs, q⟩
theorem i_rNe (hs : scal x y = true) (q : Q (.bl (!decide (x = y))) H) : rNe x y H Q := ⟨hs, q⟩
theorem i_test {P : Bool → Hp → Prop} (h : ta σ H fun x H' => ∃ k, x = .bl k ∧ P k H') : tTest ta σ H P := h
theorem i_tB {P : Bool → Hp → Prop} (h : ta σ H fun x H' => ∃ k, x = .bl k ∧ P k H') : tB ta σ H P := h
theorem i_and {P : Bool → Hp → Prop} (h : tt σ H fun c H1 => if c = true then uu σ H1 P else P false H1) : tAnd tt uu σ H P := h
theorem i_or {P : Bool → Hp → Prop} (h : tt σ H fun c H1 => if c = true then P true H1 else uu σ H1 P) : tOr tt uu σ H P := h
theorem i_not {P : Bool → Hp → Prop} (h : tt σ H fun c H1 => P (!c) H1) : tNot tt σ H P := h
theorem i_andV (h : ta σ H fun x H1 => ∃ c, x = .bl c ∧ if c = true then tb σ H1 Q else Q (.bl false) H1) : tAndV ta tb σ H Q := h
theorem i_orV (h : ta σ H fun x H1 => ∃ c, x = .bl c ∧ if c = true then Q (.bl true) H1 else tb σ H1 Q) : tOrV ta tb σ H Q := h
theorem i_notV (h : ta σ H fun x H1 => ∃ c, x = .bl c ∧ Q (.bl (!c)) H1) : tNotV ta σ H Q := h
theorem i_nil {P : List V → Hp → Prop} (h : P [] H) : tNil σ H P := h
theorem i_cons {tr : TA} {P : List V → Hp → Prop} (h : ta σ H fun x H1 => tr σ H1 fun xs H2 => P (x :: xs) H2) : tCons ta tr σ H P := h
theorem i_cb {r : List V → Hp → VK → Prop} {ts : TA} (h : ts σ H fun vs H1 => r vs H1 Q) : tCB r ts σ H Q := h
theorem i_call {sp : Sp} {E : XK} {ts : TA} (h : ts σ H fun vs H1 => sp (vs ++ []) H1 Q E) : tCall sp [] E ts σ H Q := h
theorem i_bl {c : Bool} {P : Bool → Prop} (h : P c) : ∃ k, V.bl c = .bl k ∧ P k := ⟨c, rfl, h⟩
/-- a new object: the heap behind it is only known by what stood and what is new -/
theorem i_new {o : HO} (h : ∀ p H1, Same H H1 → H p = none → H1 p = some o → Q (.ref p) H1) : ∀ p, H p = none → Q (.ref p) (upd H p o) := fun p hp =>
  h p _ (fun b u e => by rw [upd_ne (ne_of_none e hp)]; exact e) hp upd_same
theorem i_tup {ts : TA} (h : ts σ H fun xs H1 => xs.length ≤ sizeLine ∧ ∀ p, H1 p = none → Q (.ref p) (upd H1 p (.tup xs))) : tTup ts σ H Q := h
theorem i_lst {ts : TA} (h : ts σ H fun xs H1 => xs.length ≤ sizeLine ∧ ∀ p, H1 p = none → Q (.ref p) (upd H1 p (.lst xs))) : tLst ts σ H Q := h
theorem i_sz {xs : List V} {o : HO} (hn : xs.length ≤ 1000) (h : ∀ p H1, Same H H1 → H p = none → H1 p = some o → Q (.ref p) H1) : xs.length ≤ sizeLine ∧ ∀ p, H p = none → Q (.ref p) (upd H p o) :=
  ⟨Nat.le_trans hn (by decide), i_new h⟩
theorem new_heap {o : HO} {p : Addr} (hp : H p = none) : ∃ H1, upd H p o = H1 ∧ Same H H1 ∧ H1 p = some o := ⟨_, rfl, fun b u e => by rw [upd_ne (ne_of_none e hp)]; exact e, upd_same⟩
theorem size_of {n : Nat} (h : n ≤ 100000) : n ≤ sizeLine := Nat.le_trans h (by decide)
theorem size_lt {n : Nat} (h : n ≤ 100000) : n < sizeLine := Nat.lt_of_le_of_lt h (by decide)
theorem i_ixT {p : Addr} {xs : List V} {a : Int} (h : H p = some (.tup xs)) (hv : atI xs a = some v) (q : Q v H) : rIxT K (.ref p) (.int a) H Q := ⟨p, xs, a, v, rfl, rfl, SqT.of h, hv, q⟩
theorem i_ixL {p : Addr} {xs : List V} {a : Int} (h : H p = some (.lst xs)) (hv : atI xs a = some v) (q : Q v H) : rIxL K (.ref p) (.int a) H Q := ⟨p, xs, a, v, rfl, rfl, SqL.of h, hv, q⟩
/-- a for's body and what follows, from the walk on -/
def forK (g : TG) (tb : TS) (D : Ends) (σ : L2.St) : It → Hp → Prop := fun J H1 => ∃ W : Nat → Nat → L2.St → Hp → Prop, (∃ m, W 0 m σ H1) ∧
  ∀ i m σ H, W i m σ H → (J.stop i H ∧ D.nx σ H) ∨ (J.go i H ∧ ∃ N : L2.St → Hp → Prop, (∀ σ' H', N σ' H' → ∃ m', m' < m ∧ W (i + 1) m' σ' H') ∧
    ∀ x H', J.yld i H x H' → g x σ H' fun σ2 H2 => tb { D with nx := N, ct := N, bk := D.nx } σ2 H2)
theorem i_for {wi : TI} {g : TG} (h : wi σ H (forK g t D σ)) : tFor wi g t D σ H := h
theorem i_iL {R : It → Hp → Prop} (h : te σ H fun x H1 => ∃ a, x = .ref a ∧ (∃ xs, SqL K H1 a xs) ∧ R (Itl K a) H1) : iList K te σ H R := h
theorem i_iT {R : It → Hp → Prop} (h : te σ H fun x H1 => ∃ a, x = .ref a ∧ (∃ xs, SqT K H1 a xs) ∧ R (Itt K a) H1) : iTup K te σ H R := h
theorem i_yes {P : Bool → Hp → Prop} (h : P true H) : tYes σ H P := h
theorem i_gsub {to ti : TE} {ts : TSet} {P : L2.St → Hp → Prop} (h : to σ H fun o H1 => ti σ H1 fun i H2 => ts o i v H2 fun H3 => P σ H3) : gSub to ti ts v σ H P := h
theorem pow_ok {a b : Nat} (ha : a ≤ 1000000) (hb : b ≤ 1000000) : CPow (b : Int) (a : Int) := ⟨by omega, by omega, by omega⟩
theorem cmulL {i j : Int} (h : decide (-(2 ^ 64) < i ∧ i < 2 ^ 64) = true) : CMul i j := .inl (of_decide_eq_true h)
theorem i_setL {p : Addr} {xs : List V} {k : Int} {j : Nat} {P : Hp → Prop} (h : H p = some (.lst xs)) (hj : ixN xs.length k = some j) (q : P (upd H p (.lst (xs.set j v)))) : rSetL (.ref p) (.int k) v H P := ⟨p, xs, k, j, rfl, rfl, h, hj, q⟩
theorem i_rng1 {ts : TA} {R : It → Hp → Prop} (h : ts σ H fun vs H1 => ∃ j : Int, vs = [.int j] ∧ -(2 ^ 62) ≤ j ∧ j < 2 ^ 62 ∧ R (Itr 0 j.toNat) H1) : iRng1 ts σ H R := h
theorem i_cut0 (h : t { D with nx := fun σ' H' => σ' = σ ∧ H' = H } σ H) (k : u D σ H) : C8.tCut t u D σ H := ⟨_, h, fun σ' H' e => by rw [e.1, e.2]; exact k⟩
theorem i_cm {C : Addr} {sp : Sp} {E : XK} {ts : TA} (h : te σ H fun x H1 => x = .ref C ∧ ts σ H1 fun vs H2 => sp (.ref C :: vs) H2 Q E) : ClX.tCMeth C sp E te ts σ H Q := h
theorem i_ckw {r : List V → List V → Hp → VK → Prop} {ts tk : TA} (h : ts σ H fun vs H1 => tk σ H1 fun zs H2 => r vs zs H2 Q) : tCKw r ts tk σ H Q := h
theorem i_bm {T : String} {r : V → List V → Hp → VK → Prop} {ts : TA} (h : te σ H fun x H1 => tyV K T x H1 ∧ ts σ H1 fun xs H2 => r x xs H2 Q) : tBM K T r te ts σ H Q := h
theorem i_bm0 {T : String} {r : V → List V → Hp → VK → Prop} (h : te σ H fun x H1 => tyV K T x H1 ∧ r x [] H1 Q) : tBM0 K T r te σ H Q := h
theorem i_tyL {p : Addr} {xs : List V} {A : Prop} (h : H p = some (.lst xs)) (q : A) : tyV K "list" (.ref p) H ∧ A := ⟨.inl ⟨rfl, _, SqL.of h⟩, q⟩
theorem i_app {p : Addr} {xs : List V} (h : H p = some (.lst xs)) (hz : xs.length ≤ 100000) (q : Q .non (upd H p (.lst (xs ++ [v])))) : rAppend (.ref p) [v] H Q := ⟨p, xs, v, rfl, rfl, h, size_lt hz, q⟩
theorem i_pop {p : Addr} {xs : List V} (h : H p = some (.lst (xs ++ [v]))) (q : Q v (upd H p (.lst xs))) : rPop (.ref p) [] H Q := ⟨p, _, v, rfl, rfl, h, by simp, by rw [List.dropLast_concat]; exact q⟩
theorem i_truL {p : Addr} {xs : List V} {P : Bool → Hp → Prop} (h : H p = some (.lst xs)) (q : P (!xs.isEmpty) H) : ∃ k, TruV K (.ref p) H k ∧ P k H := ⟨_, .inl ⟨xs, SqL.of h, rfl⟩, q⟩
theorem i_gtup {p : Addr} {xs : List V} {n : Nat} {g : TGs} {P : L2.St → Hp → Prop} (h : H p = some (.tup xs)) (hn : xs.length = n) (q : g xs σ H P) : gTup K n g (.ref p) σ H P := ⟨p, xs, rfl, SqT.of h, hn, q⟩
theorem i_gcons {g : TG} {gs : TGs} {vs : List V} {P : L2.St → Hp → Prop} (q : g v σ H fun σ' H' => gs vs σ' H' P) : gCons g gs (v :: vs) σ H P := ⟨v, vs, rfl, q⟩
theorem i_gnil {P : L2.St → Hp → Prop} (q : P σ H) : gNil [] σ H P := ⟨rfl, q⟩
theorem i_par {ts : TA} {a b : Nat} (h : ts σ H fun vs H1 => ∃ v w, vs = [v, w] ∧ D.nx ((σ.set a (some v)).set b (some w)) H1) : tPar a b ts D σ H := h
theorem ite_d {c A B : Prop} [Decidable c] (h1 : c → A) (h2 : ¬ c → B) : if decide c = true then A else B := by
  by_cases h : c
  · rw [decide_eq_true h, if_pos rfl]; exact h1 h
  · rw [decide_eq_false h, if_neg (by decide)]; exact h2 h
theorem ite_nd {c A B : Prop} [Decidable c] (h1 : ¬ c → A) (h2 : c → B) : if (!decide c) = true then A else B := by
  by_cases h : c
  · rw [decide_eq_true h, if_neg (by decide)]; exact h2 h
  · rw [decide_eq_false h, if_pos (by decide)]; exact h1 h
end
theorem sm_up {H H' : Hp} {a : Addr} {o : HO} (s : Same H H') (h : H a = some o) : H' a = some o := s a o h

/-! ## the data: stretches, parts, sets -/
abbrev ov : Option Int → V := fun o => match o with
  | none => .non
  | some i => .int i
def kx (s : Stc) : Int := match s.1 with | none => 0 | some _ => 1
def ky (s : Stc) : Int := match s.1 with | none => 0 | some i => i
def key (s : Stc) : List V := [.int (kx s), .int (ky s)]
def keyD (s : Stc) : PyData := .tuple [.int (kx s), .int (ky s)]
/-- v is a tuple (low, high) -/
def TupS (H : Hp) (v : V) (s : Stc) : Prop := ∃ a, v = .ref a ∧ H a = some (.tup [ov s.1, ov s.2])
/-- the values are stretches, one by one -/
def Tups (H : Hp) : List V → List Stc → Prop := Paired (TupS H)
theorem TupS.up {H H' : Hp} {v : V} {s : Stc} (e : Same H H') (h : TupS H v s) : TupS H' v s := by
  obtain ⟨a, rfl, h⟩ := h
  exact ⟨a, rfl, e _ _ h⟩
theorem Tups.up {H H' : Hp} {vs : List V} {ss : List Stc} (e : Same H H') (h : Tups H vs ss) : Tups H' vs ss := Paired.mapP h fun _ _ z => z.up e

theorem tups_zip {H : Hp} {xs : List V} {ss : List Stc} (h : Tups H xs ss) : ∀ b, b ∈ xs.zip ss → TupS H b.1 b.2 := by
  induction h with
  | nil => intro b hb; simp at hb
  | cons r t ih =>
    intro b hb
    rw [List.zip_cons_cons] at hb
    rcases List.mem_cons.mp hb with rfl | hb
    · exact r
    · exact ih b hb
theorem tups_of {H : Hp} : ∀ {bs : List (V × Stc)}, (∀ b, b ∈ bs → TupS H b.1 b.2) → Tups H (bs.map (·.1)) (bs.map (·.2))
  | [], _ => .nil
  | b :: bs, h => .cons (h b (by simp)) (tups_of fun c hc => h c (by simp [hc]))
theorem kxy_le {a b : Stc} (h : kx a < kx b ∨ (kx a = kx b ∧ ky a ≤ ky b)) : lowLe a.1 b.1 := by
  obtain ⟨l, r⟩ := a
  obtain ⟨l', r'⟩ := b
  cases l <;> cases l' <;> simp_all [kx, ky, lowLe]
/-- what sorted by start_of gives: the same stretches, by their low ends -/
theorem sorted_low {H : Hp} {xs : List V} {ss : List Stc} (h : Tups H xs ss) : ∃ ss', Tups H (byKeys xs (ss.map keyD)) ss' ∧ ss'.Perm ss ∧ ss'.Pairwise fun a b => lowLe a.1 b.1 := by
  have hlen : xs.length = ss.length := Paired.length h
  have e1 : xs.zip (ss.map keyD) = (xs.zip ss).map fun b => (b.1, keyD b.2) := by rw [List.zip_map_right]; rfl
  have hle : PySem.W.dataLe false (fun b : V × Stc => keyD b.2) = fun p q => decide (kx p.2 < kx q.2 ∨ (kx p.2 = kx q.2 ∧ ky p.2 ≤ ky q.2)) := PySem.W.dataLe_ii (fun b : V × Stc => kx b.2) fun b => ky b.2
  have e2 : byKeys xs (ss.map keyD) = ((xs.zip ss).mergeSort (PySem.W.dataLe false fun b : V × Stc => keyD b.2)).map (·.1) := by
    unfold byKeys
    rw [e1, ← List.map_mergeSort (f := fun b : V × Stc => (b.1, keyD b.2)) (r := PySem.W.dataLe false fun b : V × Stc => keyD b.2) (s := PySem.W.dataLe false fun b : V × PyData => b.2) (fun _ _ _ _ => rfl), List.map_map]
    rfl
  rw [e2, hle]
  have pm := List.mergeSort_perm (xs.zip ss) fun p q => decide (kx p.2 < kx q.2 ∨ (kx p.2 = kx q.2 ∧ ky p.2 ≤ ky q.2))
  have pw := List.pairwise_mergeSort (le := fun p q : V × Stc => decide (kx p.2 < kx q.2 ∨ (kx p.2 = kx q.2 ∧ ky p.2 ≤ ky q.2)))
    (fun a b c h1 h2 => by simp only [decide_eq_true_eq] at *; omega) (fun a b => by simp only [Bool.or_eq_true, decide_eq_true_eq]; omega) (xs.zip ss)
  refine ⟨_, tups_of fun b hb => tups_zip h b (pm.mem_iff.mp hb), ?_, ?_⟩
  · have := pm.map (·.2)
    rwa [List.map_snd_zip (by omega)] at this
  · refine List.pairwise_map.mpr (pw.imp fun {a b} hab => kxy_le (by simpa using hab))
theorem keys_alike (ss : List Stc) : PySem.W.AllAlike (ss.map keyD) := PySem.W.AllAlike.of fun _ _ => by simp [keyD, PySem.W.alike, PySem.W.alikeAll]
theorem keys_sort (ss : List Stc) : PySem.W.Sortable (ss.map keyD) := PySem.W.Sortable.tuples fun _ => ⟨_, _, rfl⟩
theorem keys_deep (ss : List Stc) : ∀ d, d ∈ ss.map keyD → d.depth ≤ 100 := fun d hd => by
  obtain ⟨s, _, rfl⟩ := List.mem_map.mp hd
  simp [keyD, PyData.depth, PyData.depthAll]

/-! ## cls(..) of a local name, C.m() without arguments -/
section
open PySem.Spec PyProof.Rows ClX StX
variable {X : Cx} {CX : CXT} {k i : Nat} {f C p g : Addr} {mc : Value} {sp : Sp} {E : XK} {x m : Str} {q pos apos : Pos} {e o : Expr} {es : List Expr} {ta : TE} {t : TA}
def tMakeL (i : Nat) (C : Addr) (sp : Sp) (E : XK) (t : TA) : TE := fun σ H Q => σ[i]? = some (some (.ref C)) ∧ tMakeR C sp E t σ H Q
theorem pe_makeL (M : Mk X.K C f) (F : FnR X.prog X.w X.K X.mg X.base CX k f sp) (hr : Room (k + 1) X.A) (hN : X.N[i]? = some x) (hv : Vis X.env.scope x) (hx : Passes CX X E) (ha : PA X (e :: es) t)
    (hdb : (x == ("__debug__" : Str)) = false := by decide) (hcd : (x == ("__classdict__" : Str)) = false := by decide)
    (he : starEach (e :: es) X.env = (false, eval e X.env) :: starEach es X.env := by rfl) (hpl : (backTo pos (starEach es X.env)).any (·.1) = false := by rfl) : PE X (.Call (.Name x q) (e :: es) [] pos) (tMakeL i C sp E t) := by
  refine ⟨fun pins s σ H Q I h => ?_⟩
  obtain ⟨hs, ht⟩ := h
  have ld := (pe_var (pos := q) hN hv hdb hcd).run pins s σ H (fun v H1 => v = .ref C ∧ H1 = H) I ⟨.ref C, hs, rfl, rfl⟩
  refine wpAny_Call_Name_kw (thn ld fun u s1 ⟨v, H1, I1, r1, q1⟩ => ?_)
  obtain ⟨rfl, rfl⟩ := q1
  cases r1
  refine PySem.W.callWith_K (h₀ := X.base) I.ok.mod.kin M.kp (thn (ha.run pos pins s1 σ _ _ I1 ht) fun us s2 ⟨vs, H2, I2, r, z⟩ => ⟨I2.kIn, ?_⟩) he hpl
  exact run_makeR M F hr hx I2 r z
theorem pe_cmeth0 {pl : Sem Bool} (he : PE X o ta) (r : CRead X.K C mc) (c : CMet X.K C mc m p g) (F : FnR X.prog X.w X.K X.mg X.base CX k g sp) (hr : Room k X.A) (hx : Passes CX X E)
    (ht : eval (.Call (.Attribute o m apos) [] [] pos) X.env = (do
      let ov ← eval o X.env
      standAt apos.atName
      let (f, first) ← holding [ov] (getMethod ov m pl)
      callWith pos f first (backTo pos (starEach [] X.env)) (backToKw pos (keywordEach [] X.env))) := by rfl) : PE X (.Call (.Attribute o m apos) [] [] pos) (tCMeth C sp E ta tNil) := by
  refine ⟨fun pins s σ H Q I h => ?_⟩
  refine PySem.W.methodCall_KW (pl := pl) (thn (he.run pins s σ H _ I h) fun u s1 ⟨x, H1, I1, rx, ex, z⟩ => ?_) ht
  subst ex
  obtain rfl : u = Value.ref C := rx
  refine getmethcm_ok I1 r c fun s2 I2 => ?_
  exact PySem.W.callWith_M0 (first := []) ⟨pin_at I2, I2.kIn⟩ c.fi (run_cm F hr hx I2 .nil z)
end

/-- def f(a, .., *v) by its text -/
theorem _root_.L2.Fun.okStar {P : Program} {w : World} {K : PySem.W.Frag} {mg : Str → Option Value} {base : Heap} {x qual pv : Str} {st : Stmt} {f : Addr} {fd : FuncData} {N ps : List Str} {k : Nat} {sp : Sp} (F : Fun K x qual st f fd) (S : FnScope N (ps ++ [pv]) (defScope st))
    (hb : ∀ (kV doc pm : Value) (an : Option Addr) (cdv ct : Value) (us rest : List Value), us.length = ps.length →
      bindArgs (PySem.W.fnOf x qual (defArgs st) (defBody st) (defScope st) .none kV doc pm an cdv ct) ⟨us ++ rest, []⟩ = (newTuple rest >>= fun t => pure (ps.zip us ++ [(pv, t)])))
    (hbody : ∀ (cdv : Value) (A : Around) (outer : List Env) (s : Shared) (H : Hp) (vs : List V) (Q : VK) (E : XK), Room k (A.deeper (PyProof.Rows.envOfC qual (defScope st) s.heap.objs.size f cdv)) → sp vs H Q E →
      ∃ t, PSs (cxOf CX0 P w K mg base N qual (defScope st) f cdv A outer s H E).nox (defBody st) t ∧ t { nx := fun _ H' => Q .non H', rt := Q } (L2.start N vs) H) :
    FnR P w K mg base CX0 (k + 1) f (fun vs H Q E => ∃ ws rest, vs = ws ++ rest ∧ ws.length = ps.length ∧ rest.length ≤ sizeLine ∧ ∀ p, H p = none → sp (ws ++ [V.ref p]) (upd H p (.tup rest)) Q E) := by
  obtain ⟨oc, od, kV, doc, pm, an, cdv, ct, osl, rfl, lk, hcd⟩ := F.ex
  refine StX.fn_star lk hcd S StX.cxUp_none (hb kV doc pm an cdv ct) fun A outer s H vs Q E hr hsp => ?_
  obtain ⟨t, h, q⟩ := hbody cdv A outer s H vs Q E hr hsp
  exact ⟨t, h.nox, q⟩
end Spk

set_option Elab.async false
set_option linter.all false
set_option maxRecDepth 100000
set_option maxHeartbeats 2000000
namespace Spk
open PySem PySem.Spec PyProof.Rows L2
/-! ## for x, y in zip(l, t), l a list and t a tuple -/
def ItzM (K : PySem.W.Frag) (a b : Addr) : It where
  go := fun i H => ∃ (xs ys : List V) (x y : V), SqL K H a xs ∧ SqT K H b ys ∧ xs[i]? = some x ∧ ys[i]? = some y
  yld := fun i H v H' => ∃ T x y, v = .ref T ∧ H T = none ∧ H' = upd H T (.tup [x, y]) ∧ (∀ xs, SqL K H a xs → xs[i]? = some x) ∧ ∀ ys, SqT K H b ys → ys[i]? = some y
  stop := fun i H => ∃ xs ys : List V, SqL K H a xs ∧ SqT K H b ys ∧ xs.length = i ∧ ys.length = i
theorem turn_zipM {P : Program} {w : World} {K : PySem.W.Frag} {elts : List Expr} {kk : Nat} {tpos : Pos} {a b z TI TO i1 i2 : Addr} (Z : ZipSep2 z TI TO i1 i2 [i1, a] [i2, b]) (n1 : a ≠ i1) (n2 : b ≠ i2) :
    Turn P w K (.Tuple elts kk tpos) (ItzM K a b) [z, TI, TO, i1, i2] z (fun i h => IsZip h z TI TO .none ∧ IsTupOf2 h TI (.ref i1) (.ref i2) ∧ (∃ x y, IsTupOf2 h TO x y) ∧ h.IsListIter i1 a i ∧ h.IsTupleIter i2 b i) where
  mem := by simp
  obj := fun i h st c hc => by
    obtain ⟨h1, h2, ⟨x, y, h3⟩, ⟨o, ho, _, hd⟩, ⟨o2, ho2, _, hd2⟩⟩ := st
    simp only [List.mem_cons, List.not_mem_nil, or_false] at hc
    rcases hc with rfl | rfl | rfl | rfl | rfl
    · exact ⟨_, h1, fun v q => nomatch q⟩
    · exact ⟨_, h2, fun v q => nomatch q⟩
    · exact ⟨_, h3, fun v q => nomatch q⟩
    · exact ⟨o, ho, fun v q => by rw [hd] at q; cases q⟩
    · exact ⟨o2, ho2, fun v q => by rw [hd2] at q; cases q⟩
  keep := fun i h h' st k => by
    obtain ⟨h1, h2, ⟨x, y, h3⟩, h4, h5⟩ := st
    exact ⟨k z (by simp) _ h1, k TI (by simp) _ h2, ⟨x, y, k TO (by simp) _ h3⟩, h4.at fun o q => k i1 (by simp) o q, h5.at fun o q => k i2 (by simp) o q⟩
  item := by
    intro X hP hw hK hc i pins s σ H E I hf st hg
    subst hP hw hK
    obtain ⟨h1, h2, ⟨x0, y0, h3⟩, h4, h5⟩ := st
    obtain ⟨xs, ys, x, y, hl, ht, hx, hy⟩ := hg
    obtain ⟨its, rv, pl, hz⟩ := I.list hl
    obtain ⟨its2, rv2, pt, hz2⟩ := I.tuple ht
    obtain ⟨u, hu, ru⟩ := rv.get hx
    obtain ⟨u2, hu2, ru2⟩ := rv2.get hy
    have D1 := Draws.list (prog := X.prog) (w := X.w) (A := X.A.in1) (I.ok.hd hc) i1 a n1 its.toArray
    have D2 := Draws.tuple (prog := X.prog) (w := X.w) (A := X.A.in1) (I.ok.hd hc) i2 b n2 its2.toArray
    have hi : i < its.toArray.size := by
      rw [List.size_toArray]
      exact (List.getElem?_eq_some_iff.mp hu).1
    have hi2 : i < its2.toArray.size := by
      rw [List.size_toArray]
      exact (List.getElem?_eq_some_iff.mp hu2).1
    have zl : z < s.heap.objs.size := Heap.lt_size h1
    have tl : TI < s.heap.objs.size := Heap.lt_size h2
    have ol : TO < s.heap.objs.size := Heap.lt_size h3
    have il : i1 < s.heap.objs.size := by
      obtain ⟨_, q, _⟩ := id h4
      exact Heap.lt_size q
    have jl : i2 < s.heap.objs.size := by
      obtain ⟨_, q, _⟩ := id h5
      exact Heap.lt_size q
    refine wpAny_pyNext_zipD2_item Z D1 D2 h1 h2 h3 ⟨h4, pl.isList⟩ ⟨h5, pt⟩ hi hi2 fun x1 x2 h' tk e1 e2 ho hto s1 s2 hT hsz hk => ?_
    have ex : x1 = u := by
      have q : its.toArray[i]? = some u := by simpa using hu
      rw [q] at e1
      exact (Option.some.inj e1).symm
    have ey : x2 = u2 := by
      have q : its2.toArray[i]? = some u2 := by simpa using hu2
      rw [q] at e2
      exact (Option.some.inj e2).symm
    subst ex ey
    refine ⟨_, rfl, wpAny_letOwnedTupleGo_zip (s := { s with heap := h', toks := tk }) ho fun h'' hz' sb => ?_⟩
    have hT2 : h''.get? s.heap.objs.size = some { cls := .type "tuple", data := .seq #[x1, x2] } := (sb.2 _ (Nat.ne_of_gt zl)).trans hT
    have new : ObjOk X.prog X.w (upd H s.heap.objs.size (.tup [x, y])) h'' s.heap.objs.size (.tup [x, y]) :=
      ⟨size_of (Nat.le_of_ble_eq_true rfl), [x1, x2], .cons ru (.cons ru2 .nil), ⟨_, hT2, rfl, _, rfl⟩⟩
    have keepB : ∀ c ob, c ∉ [z, TI, TO, i1, i2] → s.heap.get? c = some ob → h''.get? c = some ob := fun c ob hc q => by
      simp only [List.mem_cons, List.not_mem_nil, or_false, not_or] at hc
      exact (sb.2 c hc.1).trans (hk c ob hc.1 hc.2.2.1 hc.2.2.2.1 hc.2.2.2.2 q)
    have I1 := I.turnedNew (t' := tk) (ch := [z, TI, TO, i1, i2]) keepB hf (Nat.le_refl _) new
    have zi1 : i1 ≠ z := fun q => Z.zf1 (by rw [← q]; simp)
    have zi2 : i2 ≠ z := fun q => Z.zf2 (by rw [← q]; simp)
    have hTI : h'.get? TI = some { cls := .type "tuple", data := .seq #[.ref i1, .ref i2] } := hk TI _ Z.TIz Z.TITO Z.TIi1 Z.TIi2 h2
    refine ⟨.ref s.heap.objs.size, _, I1, rfl, ⟨_, x, y, rfl, I.hok.fresh (Nat.le_refl _), rfl, fun zs hy' => by rw [I.list_inj hy' hl]; exact hx, fun zs hy' => by rw [I.tuple_inj hy' ht]; exact hy⟩,
      ⟨hz', (sb.2 TI Z.TIz).trans hTI, ⟨x1, x2, (sb.2 TO Z.TOz).trans hto⟩, s1.1.at fun o q => (sb.2 i1 zi1).trans q, s2.1.at fun o q => (sb.2 i2 zi2).trans q⟩, fun c hc => ?_⟩
    have hc' : c < s.heap.objs.size := by
      simp only [List.mem_cons, List.not_mem_nil, or_false] at hc
      rcases hc with rfl | rfl | rfl | rfl | rfl <;> assumption
    rw [upd_ne (Nat.ne_of_lt hc')]
    exact (hf c hc).1
  done := by
    intro X hP hw hK hc i pins s σ H E I hf st hg
    subst hP hw hK
    obtain ⟨h1, h2, ⟨x0, y0, h3⟩, h4, h5⟩ := st
    obtain ⟨xs, ys, hl, ht, e1, e2⟩ := hg
    obtain ⟨its, rv, pl, hz⟩ := I.list hl
    obtain ⟨its2, rv2, pt, hz2⟩ := I.tuple ht
    have D1 := Draws.list (prog := X.prog) (w := X.w) (A := X.A.in1) (I.ok.hd hc) i1 a n1 its.toArray
    have D2 := Draws.tuple (prog := X.prog) (w := X.w) (A := X.A.in1) (I.ok.hd hc) i2 b n2 its2.toArray
    have z1 : its.toArray.size = i := by rw [List.size_toArray, ← rv.length]; exact e1
    have z2 : its2.toArray.size = i := by rw [List.size_toArray, ← rv2.length]; exact e2
    refine wpAny_pyNext_zipD2_end Z D1 D2 h1 h2 h3 ⟨h4, pl.isList⟩ ⟨h5, pt⟩ (Nat.le_of_eq z1.symm) (Nat.le_of_eq z2.symm) (.inl z1.symm) fun h' tk eb => ⟨rfl, ?_⟩
    exact I.turnedL (t' := tk) (ch := [z, TI, TO, i1, i2]) (fun c o hc q => by
      simp only [List.mem_cons, List.not_mem_nil, or_false, not_or] at hc
      exact eb c o hc.1 hc.2.2.1 hc.2.2.2.1 hc.2.2.2.2 q) hf
  self := fun A i s Q E st h => wpAny_pyIter_zip st.1 h
def iZipM (K : PySem.W.Frag) (ta : TA) : TI := fun σ H R => ta σ H fun vs H1 => ∃ a b xs ys, vs = [.ref a, .ref b] ∧ SqL K H1 a xs ∧ SqT K H1 b ys ∧ R (ItzM K a b) H1
theorem vals_two {v w : V} {us : List Value} (h : Vals [v, w] us) : ∃ u u2, us = [u, u2] ∧ RelV v u ∧ RelV w u2 := by
  cases h with
  | cons r t =>
    cases t with
    | cons r2 t2 =>
      cases t2
      exact ⟨_, _, rfl, r, r2⟩
theorem nm2 (x y z : Nat) (h1 : x ≠ y) (h2 : x ≠ z) : ¬ x ∈ [y, z] := by simp [h1, h2]
theorem zsep (n a b : Nat) (ha : a < n) (hb : b < n) : ZipSep2 (n + 4) (n + 2) (n + 3) n (n + 1) [n, a] [n + 1, b] where
  TIz := Nat.ne_of_lt (show n + 2 < n + 4 by omega)
  TOz := Nat.ne_of_lt (show n + 3 < n + 4 by omega)
  TITO := Nat.ne_of_lt (show n + 2 < n + 3 by omega)
  TIi1 := Nat.ne_of_gt (show n < n + 2 by omega)
  mem1 := List.mem_cons_self
  zf1 := nm2 (n + 4) n a (by omega) (by omega)
  Tf1 := nm2 (n + 3) n a (by omega) (by omega)
  TIi2 := Nat.ne_of_gt (show n + 1 < n + 2 by omega)
  mem2 := List.mem_cons_self
  zf2 := nm2 (n + 4) (n + 1) b (by omega) (by omega)
  Tf2 := nm2 (n + 3) (n + 1) b (by omega) (by omega)
  sep1_2 := nm2 n (n + 1) b (by omega) (by omega)
  sep2_1 := nm2 (n + 1) n a (by omega) (by omega)
theorem zle (n c : Nat) (h : c ∈ [n + 4, n + 2, n + 3, n, n + 1]) : n ≤ c := by
  simp only [List.mem_cons, List.not_mem_nil, or_false] at h
  omega
theorem pi_zipM {X : Cx} {e e2 : Expr} {ta : TA} {p pos tpos : Pos} {elts : List Expr} {kk : Nat} (hg : Gl X "zip") (hm : X.mg "zip" = none) (ha : PA X [e, e2] ta)
    (hs : starEach [e, e2] X.env = (false, eval e X.env) :: starEach [e2] X.env := by rfl) (hpl : ((backTo pos (starEach [e2] X.env)).any fun x => x.1) = false := by rfl) :
    PI X (.Tuple elts kk tpos) (.Call (.Name "zip" p) [e, e2] [] pos) (iZipM X.K ta) := by
  refine ⟨fun pins s σ H R I h => ?_⟩
  refine Call_ (ld_blt I hg hm boot_zip (callWith_type1 (thn (ha.run pos pins s σ H _ I h) fun us s1 ⟨vs, H1, I1, r1, q1⟩ => ?_) hs hpl))
  obtain ⟨a, b, xs, ys, ex, hl, ht, q⟩ := q1
  subst ex
  obtain ⟨u, u2, rfl, ru, ru2⟩ := vals_two r1
  cases ru
  cases ru2
  obtain ⟨its, rv, pl, hz⟩ := I1.list hl
  obtain ⟨its2, rv2, pt, hz2⟩ := I1.tuple ht
  have al : a < s1.heap.objs.size := by
    obtain ⟨o, ho, _⟩ := pl.isList
    exact Heap.lt_size ho
  have bl : b < s1.heap.objs.size := by
    obtain ⟨o, ho, _⟩ := pt
    exact Heap.lt_size ho
  refine zip_begins2 (begins_list a its.toArray) (begins_tuple b its2.toArray) pl.isList pt fun h' hz hTI hTO hi1 hi2 hsz hk => wpAny_pyIter_zip hz ?_
  have I2 : Inv X pins σ H1 { s1 with heap := h' } := I1.kept (t' := s1.toks) hk
  have ne : ∀ {c : Addr} {k : Nat}, c < s1.heap.objs.size → c ≠ s1.heap.objs.size + k := fun h => Nat.ne_of_lt (Nat.lt_of_lt_of_le h (Nat.le_add_right _ _))
  have Z := zsep _ _ _ al bl
  refine ⟨s1.heap.objs.size + 4, [s1.heap.objs.size + 4, s1.heap.objs.size + 2, s1.heap.objs.size + 3, s1.heap.objs.size, s1.heap.objs.size + 1], _, _, H1, rfl, I2, turn_zipM Z (Nat.ne_of_lt al) (ne bl),
    ⟨hz, hTI, ⟨_, _, hTO⟩, ⟨_, hi1, rfl, rfl⟩, ⟨_, hi2, rfl, rfl⟩⟩, fun c hc => ?_, q⟩
  have hle : s1.heap.objs.size ≤ c := zle _ _ hc
  exact I1.fpOk hle (I1.hok.fresh hle)
/-! ## the walks, for comprehensions (lc_it) -/
theorem walk_zipT {K : PySem.W.Frag} {a b : Addr} {xs ys : List V} {n : Nat} (h1 : xs.length = n) (h2 : ys.length = n) : Walk (RZ.ItzT K a b) n (fun H => SqT K H a xs ∧ SqT K H b ys) (YPair (fun i => xs[i]?) fun i => ys[i]?) where
  goes := fun i H hi ⟨g1, g2⟩ => ⟨xs, ys, xs[i]'(by omega), ys[i]'(by omega), g1, g2, List.getElem?_eq_getElem (by omega), List.getElem?_eq_getElem (by omega)⟩
  stops := fun H ⟨g1, g2⟩ => ⟨xs, ys, g1, g2, .inl (Nat.le_of_eq h1)⟩
  yields := fun i H x H' hi ⟨g1, g2⟩ ⟨T, u, v, e, hT, e2, q1, q2⟩ => ⟨T, u, v, e, hT, e2, q1 xs g1, q2 ys g2⟩
theorem walk_zipM {K : PySem.W.Frag} {a b : Addr} {xs ys : List V} {n : Nat} (h1 : xs.length = n) (h2 : ys.length = n) : Walk (ItzM K a b) n (fun H => SqL K H a xs ∧ SqT K H b ys) (YPair (fun i => xs[i]?) fun i => ys[i]?) where
  goes := fun i H hi ⟨g1, g2⟩ => ⟨xs, ys, xs[i]'(by omega), ys[i]'(by omega), g1, g2, List.getElem?_eq_getElem (by omega), List.getElem?_eq_getElem (by omega)⟩
  stops := fun H ⟨g1, g2⟩ => ⟨xs, ys, g1, g2, h1, h2⟩
  yields := fun i H x H' hi ⟨g1, g2⟩ ⟨T, u, v, e, hT, e2, q1, q2⟩ => ⟨T, u, v, e, hT, e2, q1 xs g1, q2 ys g2⟩
theorem i_zipM {K : PySem.W.Frag} {σ : L2.St} {H : Hp} {ta : TA} {R : It → Hp → Prop} (h : ta σ H fun vs H1 => ∃ a b xs ys, vs = [.ref a, .ref b] ∧ SqL K H1 a xs ∧ SqT K H1 b ys ∧ R (ItzM K a b) H1) : iZipM K ta σ H R := h
theorem i_zipA {K : PySem.W.Frag} {σ : L2.St} {H : Hp} {ta : TA} {R : It → Hp → Prop} (h : ta σ H fun vs H1 => ∃ a b xs ys, vs = [.ref a, .ref b] ∧ (SqL K H1 a xs ∧ SqL K H1 b ys ∧ R (Itz K a b) H1 ∨ SqT K H1 a xs ∧ SqT K H1 b ys ∧ R (RZ.ItzT K a b) H1)) : RZ.iZipA K ta σ H R := h
end Spk

set_option Elab.async false
set_option linter.all false
set_option maxRecDepth 100000
set_option maxHeartbeats 1000000
namespace Spk
open PySem PySem.Spec PyProof.Rows PySem.W L2
/-! ## a lone star beside keywords -/
section
variable {M : Model} {A : Around} {E : Value → Shared → Prop} {s : Shared}
theorem lone_kw {f : Value} {x : Sem Value} {pos : Pos} {keywords : List (Option Str × Sem Value)} {Q : Args → Shared → Prop} (hall : keywords.all (·.1.isSome) = true)
    (h : wpAny M A x (fun v s1 => wpAny M A (evalAll (keywords.map (·.2))) (fun ks s2 => StarOf M A E v (fun vs s3 => Q ⟨vs, (keywords.filterMap (·.1)).zip ks⟩ s3) s2) E s1) E s) :
    wpAny M A (evalArgs f true [(true, (do let v ← x; standAt pos; pure v))] keywords) Q E s := by
  unfold evalArgs
  refine wpAny_bind (wpAny_bind (wpAny_mono h (fun v s1 h1 => wpAny_bind (wpAny_standAt (wpAny_pure ?_))) fun _ _ z => z))
  refine wpAny_bind (wpAny_pure ?_)
  dsimp only
  refine wpAny_holding ?_
  simp only [hall, if_true]
  refine wpAny_bind (wpAny_mono h1 (fun ks s2 h2 => ?_) fun _ _ z => z)
  unfold StarOf at h2
  refine wpAny_bind (wpAny_bind (wpAny_mono h2 (fun b s3 h3 => ?_) fun _ _ z => z))
  obtain ⟨rfl, h3⟩ := h3
  simp only [Bool.false_eq_true, if_false]
  exact wpAny_holding (wpAny_mono h3 (fun vs s4 h4 => wpAny_pure h4) fun _ _ z => z)
theorem star_kw_call {K : Frag} {f : Value} {first : List Value} {env : Env} {pos p : Pos} {e : Expr} {kws : List Keyword} {Q : Value → Shared → Prop} (hk : keepIn K f = true) (hall : (backToKw pos (keywordEach kws env)).all (·.1.isSome) = true)
    (h : wpAny M A (eval e env) (fun v s1 => wpAny M A (evalAll ((backToKw pos (keywordEach kws env)).map (·.2))) (fun ks s2 => StarOf M A E v (fun vs s3 => K.In s3.heap ∧ wpAny M A (call f (first ++ vs) (((backToKw pos (keywordEach kws env)).filterMap (·.1)).zip ks)) Q E s3) s2) E s1) E s)
    (he : starEach [.Starred e p] env = [(true, eval e env)]) : wpAny M A (callWith pos f first (backTo pos (starEach [.Starred e p] env)) (backToKw pos (keywordEach kws env))) Q E s := by
  rw [he]
  have z := lone_kw (f := f) (x := eval e env) (pos := pos) (keywords := backToKw pos (keywordEach kws env)) (Q := fun a s3 => K.In s3.heap ∧ wpAny M A (call f (first ++ a.pos) a.kw) Q E s3) hall h
  unfold callWith
  refine wpAny_bind (wpAny_holding (wpAny_mono z (fun a s1 h1 => wpAny_bind (wpAny_standAt ?_)) fun _ _ y => y))
  obtain ⟨k, hk', L⟩ := keeps_K (M := M) hk _ h1.1
  have hst : (backTo pos [(true, eval e env)]).any (·.1) = true := rfl
  simp only [hst, Bool.true_or]
  refine wpAny_bind (L.here ?_)
  have tail : ∀ {t : Sem Value}, wpAny M A t Q E s1 → wpAny M A (t >>= fun r => holding [r] point >>= fun _ => pure r) Q E s1 := by
    intro t ht
    exact wpAny_bind (wpAny_mono ht (fun r s2 hr => wpAny_bind (wpAny_holding (wpAny_point (wpAny_pure hr)))) fun _ _ y => y)
  have marked : ∀ mk : Value, wpAny M A (callMarked mk f (first ++ a.pos) a.kw) Q E s1 := by
    intro mk
    unfold callMarked
    exact Calls.wpAny_keep h1.2
  rcases hk' with rfl | rfl | rfl
  · exact tail (marked _)
  · exact tail (wpAny_operating h1.2)
  · exact tail (wpAny_operating h1.2)
end
/-! ## defs that are called with keywords alone beside a star -/
/-- the promise of a def that is called with these keywords: of the positional values and of those of the keywords -/
def FnK (P : Program) (w : World) (K : Frag) (mg : Str → Option Value) (base : Heap) (CX : CXT) (k : Nat) (f : Addr) (ks : List Str) (sp : List V → List V → Hp → VK → XK → Prop) : Prop :=
  ∀ (A : Around) (outer : List Env) (s : Shared) (H : Hp) (us ws : List Value) (vs zs : List V) (Q : VK) (E : XK), Room k A → Env0 P w K mg base A outer s H → Vals vs us → Vals zs ws → zs.length = ks.length → sp vs zs H Q E →
    codeAny (model P w) A (.call (.ref f) ⟨us, ks.zip ws⟩) (CR CX outer P w H s Q E) s
section
variable {CX : CXT} {P : Program} {w : World} {K : Frag} {mg : Str → Option Value} {base : Heap} {k : Nat} {f : Addr} {name qual : Str} {params : Arguments} {body : List Stmt} {scope : Scope} {dV kV doc pm cdv ct oc : Value} {an od : Option Addr}
  {osl : Array (Option Value)} {N ps ks : List Str} {sp : Sp}
/-- def f(a, .., *v, x, y, ..), called f(a, .., *rest, x = .., y = .., ..): what is left over is a new tuple -/
theorem fn_starK {pv : Str} (lk : K.lookup f = some ⟨oc, od, .func (fnOf name qual params body scope dV kV doc pm an cdv ct), osl⟩) (hcd : codeIn K cdv qual = true) (S : FnScope N (ps ++ ks ++ [pv]) scope) (hCX : StX.CXUp CX)
    (hb : ∀ us rest ws : List Value, us.length = ps.length → ws.length = ks.length → bindArgs (fnOf name qual params body scope dV kV doc pm an cdv ct) ⟨us ++ rest, ks.zip ws⟩ = (newTuple rest >>= fun t => pure ((ps ++ ks).zip (us ++ ws) ++ [(pv, t)])))
    (hbody : ∀ (A : Around) (outer : List Env) (s : Shared) (H : Hp) (vs : List V) (Q : VK) (E : XK), Room k (A.deeper (envOfC qual scope s.heap.objs.size f cdv)) → sp vs H Q E →
      ∃ t, PSs (cxOf CX P w K mg base N qual scope f cdv A outer s H E) body t ∧ t { nx := fun _ H1 => Q .non H1, rt := Q } (L2.start N vs) H) :
    FnK P w K mg base CX (k + 1) f ks (fun vs zs H Q E => ∃ ws rest, vs = ws ++ rest ∧ ws.length = ps.length ∧ rest.length ≤ sizeLine ∧ ∀ p o, H p = Option.none → o.cls = .type "tuple" → o.dict = Option.none → sp (ws ++ zs ++ [V.ref p]) (upd H p (.frz o (.tup rest))) Q E) := by
  intro A outer s H us wz vs zs Q E hr e0 r rz lz hsp
  obtain ⟨ws, rest, ev, hl, hz, hq⟩ := hsp
  subst ev
  obtain ⟨u1, u2, eu, r1, r2⟩ := StX.vals_split r
  subst eu
  have fresh : H s.heap.objs.size = Option.none := e0.hok.fresh (Nat.le_refl _)
  have l1 : u1.length = ps.length := by
    rw [← r1.length]
    exact hl
  have l2 : u2.length ≤ sizeLine := by
    rw [← r2.length]
    exact hz
  have l3 : wz.length = ks.length := by
    rw [← rz.length]
    exact lz
  refine StX.run_bnd lk hcd S hr e0 (G := fun xs H2 => ∃ p o, H p = Option.none ∧ o.cls = .type "tuple" ∧ o.dict = Option.none ∧ xs = ws ++ zs ++ [V.ref p] ∧ H2 = upd H p (.frz o (.tup rest))) ?_ ?_
  · intro A2 Ex Q2 h
    rw [hb u1 u2 wz l1 l3]
    refine wpAny_bind (wpAny_newTuple (wpAny_pure ?_) l2)
    have new : ObjOk P w (upd H s.heap.objs.size (.frz ({ cls := .type "tuple", data := .seq u2.toArray } : Obj) (.tup rest))) (s.heap.push ({ cls := .type "tuple", data := .seq u2.toArray } : Obj)) s.heap.objs.size (.frz ({ cls := .type "tuple", data := .seq u2.toArray } : Obj) (.tup rest)) := ⟨Heap.get?_push_size _ rfl, hz, u2, r2, ⟨_, Heap.get?_push_size _ rfl, rfl, _, rfl⟩⟩
    have un := StX.un_laid (fs := frs outer) (s := s) (o := ({ cls := .type "tuple", data := .seq u2.toArray } : Obj)) (u := .frz ({ cls := .type "tuple", data := .seq u2.toArray } : Obj) (.tup rest)) fresh
    have z := h _ _ (ws ++ zs ++ [V.ref s.heap.objs.size]) (u1 ++ wz ++ [Value.ref s.heap.objs.size]) (StX.env0_laid e0 new) un rfl (fun e s2 => hCX outer s H _ _ E e s2 un (fun b o q => Heap.get?_push_of_some _ q) rfl) ((r1.append rz).append (.cons rfl .nil))
      (by simp [hl, lz]) ⟨_, _, fresh, rfl, rfl, rfl, rfl⟩
    rw [List.zip_append (by simp [l1, l3])] at z
    exact z
  · intro s2 H2 xs g hr2
    obtain ⟨p, o, hp, oc, od, ex, eH⟩ := g
    subst ex eH
    exact hbody A outer s2 _ _ Q E hr2 (hq p o hp oc od)
end
/-- C(*e, x = .., ..): a new instance and its dict, then __init__ -/
def tMakeSK (K : Frag) (C : Addr) (m : Nat) (sp : List V → List V → Hp → VK → XK → Prop) (E : XK) (te : TE) (tk : TA) : TE := fun σ H Q => te σ H fun y H1 => ∃ a xs, y = V.ref a ∧ tk σ H1 fun zs H2 => (SqT K H2 a xs ∨ SqL K H2 a xs) ∧ zs.length = m ∧
  ∀ x dx, H2 x = Option.none → H2 dx = Option.none → dx ≠ x → sp (V.ref x :: xs) zs (upd (upd H2 dx (.own x)) x (.ins C dx [])) (fun v H3 => v = .non ∧ Q (.ref x) H3) E
section
variable {X : Cx} {CX : CXT} {k : Nat} {f C : Addr} {ks : List Str} {sp : List V → List V → Hp → VK → XK → Prop} {E : XK} {x : Str} {p sp_ pos : Pos} {e : Expr} {kws : List Keyword} {te : TE} {tk : TA}
theorem pe_makeSK (M : Mk X.K C f) (F : FnK X.prog X.w X.K X.mg X.base CX k f ks sp) (hr : Room (k + 1) X.A) (hg : Gl X x) (hm : X.mg x = some (.ref C)) (hx : Passes CX X E) (he : PE X e te) (hkw : PK X kws tk)
    (hall : (backToKw pos (keywordEach kws X.env)).all (·.1.isSome) = true := by rfl) (hks : (backToKw pos (keywordEach kws X.env)).filterMap (·.1) = ks := by rfl) (hdb : (x == ("__debug__" : Str)) = false := by decide)
    (hst : starEach [.Starred e sp_] X.env = [(true, eval e X.env)] := by rfl) : PE X (.Call (.Name x p) [.Starred e sp_] kws pos) (tMakeSK X.K C ks.length sp E te tk) := by
  constructor
  intro pins s σ H Q I h
  refine wpAny_Call_Name_kw (ld_glob I hg hm ?_ hdb)
  refine star_kw_call M.kp hall (thn (he.run pins s σ H _ I h) ?_) hst
  intro v s1 z1
  obtain ⟨y, H1, I1, ry, a, xs, ey, q1⟩ := z1
  subst ey
  obtain rfl : v = Value.ref a := ry
  refine thn (hkw.run pos pins s1 σ H1 _ I1 q1) ?_
  intro ws s2 z2
  obtain ⟨zs, H2, I2, rz, sq, l2, q2⟩ := z2
  refine StX.star_any I2 sq ?_
  intro us s3 I3 rv
  refine ⟨I3.kIn, ?_⟩
  rw [hks]
  have hq := q2 (s3.heap.objs.size + 1) s3.heap.objs.size (I3.hok.fresh (Nat.le_succ _)) (I3.hok.fresh (Nat.le_refl _)) (Nat.ne_of_lt (Nat.lt_succ_self _))
  have J := Inv.made (C := C) I3
  have rv' : Vals (V.ref (s3.heap.objs.size + 1) :: xs) (Value.ref (s3.heap.objs.size + 1) :: us) := .cons rfl rv
  refine wpAny_call (make_map (f := f) I3.kIn M.makes M.init (beq_iff_eq.mp M.fn) (codeAny_mono (F _ X.stack _ _ (Value.ref (s3.heap.objs.size + 1) :: us) ws _ _ _ E (hr.make C us (ks.zip ws)) (J.env0.make C us (ks.zip ws)) rv' rz l2 hq) ?_))
  intro r s4 hr4
  match r, hr4 with
  | .error er, hr4 => exact hx pins σ _ _ er s4 J hr4
  | .ok .next, hr4 => exact hr4.elim
  | .ok .brk, hr4 => exact hr4.elim
  | .ok .cont, hr4 => exact hr4.elim
  | .ok (.ret u), hr4 =>
    obtain ⟨v, H3, J3, rv3, ev, q3⟩ := J.after hr4
    subst ev
    exact ⟨rv3, ⟨V.ref (s3.heap.objs.size + 1), H3, J3, rfl, q3⟩⟩
end
end Spk

set_option Elab.async false
set_option linter.all false
set_option maxRecDepth 100000
set_option maxHeartbeats 1000000
namespace Spk
open PySem PySem.Spec PyProof.Rows PySem.W L2 ClX
/-! ## C.m(e, .., k = v, ..), m a classmethod -/
def tCMethK (C : Addr) (n m : Nat) (sp : Sp) (gV : List V → List V → List V) (E : XK) (ta : TE) (t tk : TA) : TE := fun σ H Q => ta σ H fun x H1 => x = .ref C ∧ t σ H1 fun vs H2 => tk σ H2 fun zs H3 => vs.length = n ∧ zs.length = m ∧ sp (gV (.ref C :: vs) zs) H3 Q E
section
variable {X : Cx} {CX : CXT} {k n : Nat} {C p g : Addr} {fd : FuncData} {mc : Value} {sp : Sp} {E : XK} {m : Str} {ps ks : List Str} {gg : List Value → List Value → List Value} {gV : List V → List V → List V} {pos apos : Pos} {e o : Expr} {es : List Expr} {kws : List Keyword} {ta : TE} {t tk : TA}
theorem pe_cmethK {pl : Sem Bool} (he : PE X o ta) (r : CRead X.K C mc) (c : CMet X.K C mc m p g) (F : FnOk X.prog X.w X.K X.mg X.base CX k g fd ps sp) (hb : KBn X.K fd ps (n + 1) ks gg gV) (hr : Room k X.A) (hx : Passes CX X E) (ha : PA X (e :: es) t) (hk : PK X kws tk)
    (hall : (backToKw pos (keywordEach kws X.env)).all (·.1.isSome) = true := by rfl) (hks : (backToKw pos (keywordEach kws X.env)).filterMap (·.1) = ks := by rfl)
    (hse : starEach (e :: es) X.env = (false, eval e X.env) :: starEach es X.env := by rfl)
    (hpl : (((backTo pos (starEach (e :: es) X.env)).any fun x => x.1) || (backToKw pos (keywordEach kws X.env)).any fun x => x.1.isNone) = false := by rfl)
    (ht : eval (.Call (.Attribute o m apos) (e :: es) kws pos) X.env = (do
      let ov ← eval o X.env
      standAt apos.atName
      let (f, first) ← holding [ov] (getMethod ov m pl)
      callWith pos f first (backTo pos (starEach (e :: es) X.env)) (backToKw pos (keywordEach kws X.env))) := by rfl) :
    PE X (.Call (.Attribute o m apos) (e :: es) kws pos) (tCMethK C n ks.length sp gV E ta t tk) := by
  refine ⟨fun pins s σ H Q I h => ?_⟩
  refine PySem.W.methodCall_KW (pl := pl) (thn (he.run pins s σ H _ I h) fun u s1 ⟨x, H1, I1, rx, ex, z⟩ => ?_) ht
  subst ex
  obtain rfl : u = Value.ref C := rx
  refine getmethcm_ok I1 r c fun s2 I2 => ?_
  refine callwith_met (a := C) (g := g) hpl c.fi (evalArgs_kw2 hall (thn (ha.run pos _ s2 σ _ _ I2 z) fun us s3 ⟨vs, H2, I3, rv, z2⟩ => ?_) hse)
  refine thn (hk.run pos _ s3 σ H2 _ I3 z2) fun ws s4 ⟨zs, H3, I4, rz, l1, l2, q⟩ => ?_
  refine ⟨⟨pin_at I4, I4.kIn⟩, ?_⟩
  rw [hks]
  have w1 : us.length = n := by rw [← rv.length]; exact l1
  have w2 : ws.length = ks.length := by rw [← rz.length]; exact l2
  have rv' : Vals (V.ref C :: vs) (Value.ref C :: us) := .cons rfl rv
  refine wpAny_call (PySem.W.method_call (pin_at I4) (codeAny_mono (F.run X.A X.stack s4 H3 ⟨Value.ref C :: us, ks.zip ws⟩ (gg (Value.ref C :: us) ws) _ _ E hr I4.env0 (hb.to s4 (Value.ref C :: us) ws I4.kIn (by rw [List.length_cons, w1]) w2) (hb.rel rv' rz) q) ?_))
  intro r5 s5 hr5
  match r5, hr5 with
  | .error er, hr5 => exact hx _ σ _ _ er s5 I4 hr5
  | .ok .next, hr5 => exact hr5.elim
  | .ok .brk, hr5 => exact hr5.elim
  | .ok .cont, hr5 => exact hr5.elim
  | .ok (.ret u5), hr5 => exact ClX.unpinE (I4.after hr5)
theorem i_cmk {C : Addr} {n m : Nat} {sp : Sp} {gV : List V → List V → List V} {E : XK} {ta : TE} {t tk : TA} {σ : L2.St} {H : Hp} {Q : VK} (h : ta σ H fun x H1 => x = .ref C ∧ t σ H1 fun vs H2 => tk σ H2 fun zs H3 => vs.length = n ∧ zs.length = m ∧ sp (gV (.ref C :: vs) zs) H3 Q E) : tCMethK C n m sp gV E ta t tk σ H Q := h
end
/-! ## a statement that is never reached -/
def tDead : TS := fun _ _ _ => False
theorem ps_dead {X : Cx} {st : Stmt} : PS X st tDead := ⟨fun _ _ _ _ _ _ h => h.elim⟩
end Spk

set_option Elab.async false
set_option linter.all false
set_option maxRecDepth 100000
set_option maxHeartbeats 1000000
namespace Spk
open PySem PySem.Spec PyProof.Rows PySem.W L2 HT
open PySem.Froz (SD sObj addTx tailTx TxOk)
/-! ## sets of texts: what tuple(sorted(set(t))) gives -/

/-- the payload may be walked: its places rise, its order is the world's -/
structure Walkable (w : World) (D : SD) : Prop where
  ris : Ris D.2.2.place.toList
  led : w.params.followText "set-order" = true ∨ D.2.2.led = true

theorem walk_tail {w : World} {ep : Nat} {es : Array (Int × Value)} {t : SetTable} {b : Bool} (r : Ris t.place.toList) (l : w.params.followText "set-order" = true ∨ t.led = true) :
    Walkable w (tailTx ep es t b) := by
  unfold tailTx
  split
  · exact ⟨relayAll_ris t es _, l.imp id fun z => (relayAll_led t es _).trans z⟩
  · exact ⟨r, l⟩
theorem walk_add {w : World} {D : SD} (x : Walkable w D) (h : Int) (v : Value) : Walkable w (addTx h v D) := by
  have r := layNew_ris D.2.2 D.1 h v x.ris
  have l : w.params.followText "set-order" = true ∨ (layNew D.2.2 D.1 h v).2.1.led = true := x.led.imp id fun z => (layNew_led D.2.2 D.1 h v).trans z
  unfold addTx
  split
  · exact walk_tail r l
  · exact walk_tail r l

/-- at a stands a set with just the texts l, none twice -/
def TxAt (P : Program) (w : World) (a : Addr) (l : List Str) (h : Heap) : Prop :=
  ∃ D : SD, h.get? a = some (sObj "set" D) ∧ TxOk P w D l ∧ l.Nodup ∧ Walkable w D

theorem TxAt.keep {P : Program} {w : World} {a : Addr} {l : List Str} {h h' : Heap} (x : TxAt P w a l h) (k : ∀ o, h.get? a = some o → h'.get? a = some o) : TxAt P w a l h' := by
  obtain ⟨D, e, r⟩ := x
  exact ⟨D, k _ e, r⟩

section
variable {P : Program} {w : World} {A : Around} {E : Value → Shared → Prop} {s : Shared} {a : Addr} {l : List Str}
/-- a text that is there already changes nothing -/
theorem put_old {D : SD} {k : Str} {u : Tok} {Q : Bool → Shared → Prop} (ho : s.heap.get? a = some (sObj "set" D)) (F : TxOk P w D l) (hk : k ∈ l) (hb : l.length < scanBound) (h : Q false s) :
    wpAny (model P w) A (setAddHashed a (.str k u) (hashStr w k)) Q E s := by
  obtain ⟨es, ep, t⟩ := D
  have hf : t.fits es.size = true := F.fit
  have hel : ElemsOf (strKind P w) es.toList := F.el
  have hsz : es.size = l.length := F.sz
  have hm : ∃ e ∈ es.toList, (strKind P w).is k e.2 = true := (F.mem k).mp hk
  have hn : List.findIdx? (fun e => (strKind P w).is k e.2) es.toList ≠ none := fun c => by
    obtain ⟨e, he, z⟩ := hm
    exact Bool.noConfusion (z.symm.trans (List.findIdx?_eq_none_iff.mp c e he))
  unfold setAddHashed setAddHashedIn
  refine wpAny_holding (wpAny_bind (wpAny_setState_of ho rfl hf ?_))
  dsimp only
  rw [byScan_of rfl (by omega) hel, if_pos rfl]
  unfold setAddByScan
  refine wpAny_bind (wpAny_bind (wpAny_rule (wpAny_bind (wpAny_setScan_of (knd := strKind P w) (k := k) (PySem.Froz.is_str k u) ho rfl hf hel ?_))))
  cases hr : List.findIdx? (fun e => (strKind P w).is k e.2) es.toList with
  | none => exact absurd hr hn
  | some j => exact wpAny_pure (wpAny_pure h)

/-- the texts behind one more -/
def withTx (l : List Str) (k : Str) : List Str := if k ∈ l then l else k :: l
theorem withTx_mem {l : List Str} {k x : Str} : x ∈ withTx l k ↔ x = k ∨ x ∈ l := by
  unfold withTx
  split
  · rename_i h
    exact ⟨.inr, fun z => z.elim (fun e => e ▸ h) id⟩
  · exact List.mem_cons
theorem withTx_len {l : List Str} {k : Str} : (withTx l k).length ≤ l.length + 1 := by
  unfold withTx
  split <;> simp
theorem tx_put {k : Str} {u : Tok} {Q : Bool → Shared → Prop} (x : TxAt P w a l s.heap) (hb : l.length + 1 < scanBound)
    (h : ∀ b h', TxAt P w a (withTx l k) h' → Heap.SameBut a s.heap h' → Q b { s with heap := h' }) :
    wpAny (model P w) A (setAddHashed a (.str k u) (hashStr w k)) Q E s := by
  obtain ⟨D, e, F, nd, wk⟩ := x
  by_cases hk : k ∈ l
  · refine put_old e F hk (by omega) ?_
    refine h false s.heap ?_ (Heap.SameBut.refl a s.heap)
    unfold withTx
    rw [if_pos hk]
    exact ⟨D, e, F, nd, wk⟩
  · refine PySem.Froz.add_x e F hk hb ?_
    refine h true _ ?_ (Heap.SameBut.update s.heap a _)
    unfold withTx
    rw [if_neg hk]
    exact ⟨_, PySem.Froz.get_upd _ e rfl, PySem.Froz.add_ok u F, List.nodup_cons.mpr ⟨hk, nd⟩, walk_add wk _ _⟩
/-- set.add's inner step with a text -/
theorem tx_add {k : Str} {u : Tok} {Q : Bool → Shared → Prop} (x : TxAt P w a l s.heap) (hb : l.length + 1 < scanBound)
    (h : ∀ b h', TxAt P w a (withTx l k) h' → Heap.SameBut a s.heap h' → Q b { s with heap := h', toks := s.toks + 1 }) :
    wpAny (model P w) A (setAdd a (.str k u)) Q E s := by
  unfold setAdd
  refine wpAny_holding (wpAny_bind ((strKind P w).pyHash (k := k) (strKind_is _ _ _ _) ?_))
  refine tx_put (s := { s with toks := s.toks + 1 }) x hb fun b h' y sb => ?_
  exact h b h' y sb
end

/-- the texts of a row, each once -/
def onceTx : List Str → List Str → List Str := fun l xs => xs.foldl withTx l
theorem onceTx_mem : ∀ (xs l : List Str) (x : Str), x ∈ onceTx l xs ↔ x ∈ xs ∨ x ∈ l
  | [], l, x => by simp [onceTx]
  | y :: ys, l, x => by
    show x ∈ onceTx (withTx l y) ys ↔ _
    rw [onceTx_mem ys, withTx_mem, List.mem_cons]
    constructor
    · rintro (z | z | z)
      · exact .inl (.inr z)
      · exact .inl (.inl z)
      · exact .inr z
    · rintro ((z | z) | z)
      · exact .inr (.inl z)
      · exact .inl z
      · exact .inr (.inr z)
theorem onceTx_len : ∀ (xs l : List Str), (onceTx l xs).length ≤ l.length + xs.length
  | [], l => Nat.le_refl _
  | y :: ys, l => by
    have a := onceTx_len ys (withTx l y)
    have b := withTx_len (l := l) (k := y)
    rw [List.length_cons]
    exact Nat.le_trans a (by omega)
theorem onceTx_snoc (l xs : List Str) (k : Str) : onceTx l (xs ++ [k]) = withTx (onceTx l xs) k := by
  unfold onceTx
  rw [List.foldl_append] <;> rfl
theorem onceTx_take (xs : List Str) {i : Nat} {k : Str} (h : xs[i]? = some k) : onceTx [] (xs.take (i + 1)) = withTx (onceTx [] (xs.take i)) k := by
  rw [List.take_add_one, h]
  exact onceTx_snoc [] _ k

section
variable {P : Program} {w : World} {A : Around} {E : Value → Shared → Prop}
/-- set.update's inner loop over a row of texts -/
theorem tx_loop {it S : Addr} {fp wr : List Addr} {G : Array GenState → Array GenState → Prop} {xs : List Str} {Pv : Nat → Value → Prop} {St : Nat → Shared → Prop} {R : Result → Shared → Prop}
    (W : WalksS P w A.in1 it fp wr G xs.length Pv St) (hS : S ∉ fp) (hb : xs.length + 1 < scanBound) (hv : ∀ i v, Pv i v → ∃ k u, xs[i]? = some k ∧ v = .str k u) :
    ∀ (m i : Nat) (s : Shared), m + i = xs.length → St i s → TxAt P w S (onceTx [] (xs.take i)) s.heap →
      (∀ s', Moved (S :: wr) G s s' → TxAt P w S (onceTx [] xs) s'.heap → R (.ok (.ret .none)) s') →
      codeAny (model P w) A (.builtin "set.update.loop" ⟨[.ref S, .ref it], []⟩) R s := by
  have sw : S ∉ wr := fun z => hS (W.sub _ z)
  have up : ∀ b ∈ wr, b ∈ S :: wr := fun b => List.mem_cons_of_mem S
  intro m
  induction m with
  | zero =>
    intro i s e st x k
    obtain rfl : i = xs.length := by omega
    refine codeAny_builtin F.entry_set_update_loop ?_
    rw [Around.under_plainId F.plain_set_update_loop _]
    show wpAny _ A.in1 (pyNext (.ref it) >>= _) _ _ s
    refine wpAny_bind (W.done s _ _ st fun s1 mv => wpAny_pure (k s1 (mv.mono up) ?_))
    rw [List.take_length] at x
    exact x.keep fun o => mv.heap S o sw
  | succ m ih =>
    intro i s e st x k
    refine codeAny_builtin F.entry_set_update_loop ?_
    rw [Around.under_plainId F.plain_set_update_loop _]
    show wpAny _ A.in1 (pyNext (.ref it) >>= _) _ _ s
    refine wpAny_bind (W.item i s _ _ (by omega) st fun v s1 pv st1 mv => ?_)
    obtain ⟨z, u, hz, rfl⟩ := hv i v pv
    have x1 := x.keep (h' := s1.heap) fun o => mv.heap S o sw
    have hl : (onceTx [] (xs.take i)).length + 1 < scanBound := by
      have q := onceTx_len (xs.take i) []
      rw [List.length_take] at q
      have : ([] : List Str).length = 0 := rfl
      omega
    show wpAny _ A.in1 (holding [Value.str z u] (setAdd S (.str z u)) >>= _) _ _ s1
    refine wpAny_bind (wpAny_holding (tx_add x1 hl fun b h' x2 sb => wpAny_pure ⟨plainId_quiet F.plain_set_update_loop _, ?_⟩))
    have old : ∀ c ∈ fp, ∀ o, s1.heap.get? c = some o → h'.get? c = some o := fun c hc o e => (sb.2 c fun z => hS (z ▸ hc)).trans e
    refine ih (i + 1) _ (by omega) (W.frame _ s1 _ _ st1 (Nat.le_succ _) old) (by rw [onceTx_take xs hz]; exact x2) fun s2 mv2 y => k s2 ?_ y
    exact Moved.trans W.gtrans ((mv.mono up).then_heap (Nat.le_succ _) fun c o hc e => (sb.2 c fun z => hc (by rw [z]; exact List.mem_cons_self)).trans e) mv2

/-- the object that set() lays down -/
def bare (w : World) : Obj := { cls := .type "set", dict := none, data := .set #[] 0 (.fresh 0 0 (!w.params.followText "set-order")) }
theorem bare_tx {h : Heap} {S : Addr} (e : h.get? S = some (bare w)) : TxAt P w S [] h :=
  ⟨(#[], 0, .fresh 0 0 (!w.params.followText "set-order")), e, PySem.Froz.TxOk.nil rfl, List.nodup_nil, ⟨List.Pairwise.nil, by
    show _ ∨ (!w.params.followText "set-order") = true
    cases w.params.followText "set-order" <;> simp⟩⟩

/-- what set(t) asks of its answer -/
def Done (P : Program) (w : World) (s : Shared) (xs : List Str) (s' : Shared) : Prop :=
  ∃ h' tk, s' = { s with heap := h', toks := tk } ∧ TxAt P w s.heap.objs.size (onceTx [] xs) h' ∧ ∀ b o, b < s.heap.objs.size → s.heap.get? b = some o → h'.get? b = some o

variable {s : Shared}
theorem tx_item : ∀ {us : List Value} {xs : List Str}, StrsAre us xs → ∀ (i : Nat) (v : Value), us[i]? = some v → ∃ k u, xs[i]? = some k ∧ v = .str k u
  | _, _, .cons y t _, 0, v, e => ⟨y, t, rfl, (Option.some.inj e).symm⟩
  | _, _, .cons y t r, i + 1, v, e => tx_item r i v e
/-- set.__init__ over a tuple of texts -/
theorem tx_init {l : Addr} {items : Array Value} {xs : List Str} (hh : A.handled = none) (hl : s.heap.IsTuple l items) (hi : StrsAre items.toList xs) (hb : xs.length + 1 < scanBound) :
    codeAny (model P w) A (.call (.builtin "set.__init__") ⟨[.ref s.heap.objs.size, .ref l], []⟩) (wants (fun r s' => r = .none ∧ Done P w s xs s') E) { s with heap := s.heap.push (bare w) } := by
  have hS : (s.heap.push (bare w)).get? s.heap.objs.size = some (bare w) := Heap.get?_push_size _ rfl
  have hT : Shared.TypeIs { s with heap := s.heap.push (bare w) } (.ref s.heap.objs.size) "set" := ⟨_, hS, rfl⟩
  obtain ⟨ol, hol, hcl, nl, hdl⟩ := hl
  have hlS : l < s.heap.objs.size := Heap.lt_size hol
  have hol' : (s.heap.push (bare w)).get? l = some ol := Heap.get?_push_of_some _ hol
  have hTl : Shared.TypeIs { s with heap := s.heap.push (bare w) } (.ref l) "tuple" := ⟨_, hol', hcl⟩
  have hl1 : (s.heap.push (bare w)).IsTuple l items := ⟨_, hol', hcl, nl, hdl⟩
  have n1 := F.sub_tuple_set
  have n2 := F.sub_tuple_frozenset
  have n3 : (Value.type "tuple" == Value.type "dict") = false := by decide
  refine codeAny_call_builtin F.called_set.init.plain F.entry_set_init (check_set_init_1 hT ?_)
  unfold Builtin.«set.__init__» noKeywords Builtin.Frozenset.updateFrom
  generalize hPI : pyIter = PI
  wp_walk
  subst hPI
  refine wpAny_pyIter_tuple hl1 (wpAny_bind (wpAny_runValue ?_))
  have sz : (s.heap.push (bare w)).objs.size = s.heap.objs.size + 1 := Heap.size_push ..
  have he : ∀ (i : Nat) (v : Value), items[i]? = some v → ∃ k u, xs[i]? = some k ∧ v = .str k u := fun i v hv => by
    have hv' : items.toList[i]? = some v := by rw [Array.getElem?_toList]; exact hv
    exact tx_item hi i v hv'
  have hn : items.size = xs.length := by rw [← StrsAre.len_eq hi, Array.length_toList]
  have W := (Walks.tuple (prog := P) (w := w) (A := A.in1.in1) (by simp [hh]) (s.heap.push (bare w)).objs.size l (by rw [sz]; exact Nat.ne_of_lt (Nat.lt_succ_of_lt hlS)) items).toS
  rw [hn] at W
  have out : s.heap.objs.size ∉ [(s.heap.push (bare w)).objs.size, l] := by
    rw [sz]
    simp only [List.mem_cons, List.not_mem_nil, or_false, not_or]
    exact ⟨Nat.ne_of_lt (Nat.lt_succ_self _), Nat.ne_of_gt hlS⟩
  refine tx_loop (A := A.in1) W out hb he xs.length 0 _ (by omega) ⟨⟨_, Heap.get?_push_size _ rfl, rfl, rfl⟩, hl1.push _⟩ (bare_tx (Heap.get?_push_of_some _ hS)) fun s' mv y => ?_
  refine wpAny_pure (wpAny_pure ⟨rfl, s'.heap, s'.toks, ?_, y, fun b o hlt e => ?_⟩)
  · obtain ⟨h', g', d', tk', os'⟩ := s'
    obtain rfl : g' = s.gens := mv.gens
    obtain rfl : d' = s.drawn := mv.drawn
    obtain rfl : os' = s.os := mv.os
    rfl
  · refine mv.heap b o (fun z => ?_) (Heap.get?_push_of_some _ (Heap.get?_push_of_some _ e))
    simp only [List.mem_cons, List.not_mem_nil, or_false] at z
    rcases z with z | z
    · exact absurd z (Nat.ne_of_lt hlt)
    · exact absurd (z.trans sz) (Nat.ne_of_lt (Nat.lt_succ_of_lt hlt))
/-- set(t), t a tuple of texts -/
theorem call_tx {l : Addr} {items : Array Value} {xs : List Str} {Q : Value → Shared → Prop} (hh : A.handled = none) (hl : s.heap.IsTuple l items) (hi : StrsAre items.toList xs) (hb : xs.length + 1 < scanBound)
    (h : ∀ s', Done P w s xs s' → Q (.ref s.heap.objs.size) s') : wpAny (model P w) A (call (.type "set") [.ref l]) Q E s := by
  obtain ⟨c, tl, hmro⟩ := F.called_set.mro
  have i1 := F.called_set.made
  have i2 := F.called_set.sub
  have i3 := F.called_set.notType
  have i4 := F.called_set.canCreate
  have i5 := F.typeCall_set_1 (.ref l)
  refine wpAny_call (codeAny_of_tree ?_)
  show wpAny _ _ (callAny (.type "set") _) _ _ _
  refine wpAny_pure ⟨Code.quiet_builtin _ (by decide +kernel), codeAny_builtin F.entry_type_call ?_⟩
  rw [Around.under_plain (weight_type_call_type "set" [.ref l] []) rfl]
  repeat (any_goals (first | assumption | wp_step))
  refine codeAny_mono (code_set_led1 (.ref l) (E := E) (Q₁ := fun v s1 => v = .ref s.heap.objs.size ∧ s1 = { s with heap := s.heap.push (bare w) }) ⟨rfl, rfl⟩) fun r s1 hr => ?_
  match r, hr with
  | .error e, hr => exact hr
  | .ok (.ret v), ⟨e1, e2⟩ =>
    subst e1
    subst e2
    have hT : Shared.TypeIs { s with heap := s.heap.push (bare w) } (.ref s.heap.objs.size) "set" := ⟨_, Heap.get?_push_size _ rfl, rfl⟩
    have j1 := F.called_set.init.lookup
    have j2 := F.called_set.init.bind (.ref s.heap.objs.size)
    repeat (any_goals (first | assumption | wp_step))
    refine codeAny_mono (tx_init (E := E) hh hl hi hb) fun r2 s2 hr2 => ?_
    match r2, hr2 with
    | .error e, hr2 => exact hr2
    | .ok (.ret v), ⟨e3, dn⟩ =>
      subst e3
      repeat (any_goals (first | assumption | wp_step))
      exact h s2 dn
end
/-! ### in the user's terms -/
/-- the set of texts at a -/
def TxO (P : Program) (w : World) (a : Addr) (l : List Str) : HO := .ext fun h => TxAt P w a l h
section
variable {X : Cx}
theorem txO_get {pins : List (Addr × Obj)} {σ : L2.St} {H : Hp} {s : Shared} {a : Addr} {l : List Str} (I : Inv X pins σ H s) (ha : H a = some (TxO X.prog X.w a l)) : TxAt X.prog X.w a l s.heap := (I.hok a _ ha).1
theorem txO_new {P : Program} {w : World} {H : Hp} {h : Heap} {a : Addr} {l : List Str} (R : TxAt P w a l h) : ObjOk P w H h a (TxO P w a l) := by
  obtain ⟨D, e, _⟩ := id R
  exact ⟨R, ⟨_, e⟩, fun h1 h2 p k => p.keep k⟩
/-- set(t) of a tuple of texts -/
def rTxSet (K : PySem.W.Frag) (P : Program) (w : World) : List V → Hp → VK → Prop := fun vs H Q => ∃ (a : Addr) (xs : List Str), vs = [V.ref a] ∧ SqT K H a (xs.map V.str) ∧ xs.length ≤ 1000 ∧
  ∀ p, H p = none → Q (.ref p) (upd H p (TxO P w p (onceTx [] xs)))
theorem cr_txSet (hc : X.calm = true) : CallR X (.type "set") (rTxSet X.K X.prog X.w) := by
  intro pins s σ H vs us Q I r h
  obtain ⟨a, xs, rfl, hs, hl, q⟩ := h
  obtain ⟨its, rv, pt, hz⟩ := I.tuple hs
  rw [Vals.ref1 r]
  refine call_tx (items := its.toArray) (xs := xs) (I.ok.hd hc) (show s.heap.IsTuple a its.toArray from pt) (strsAre_of rv) (by unfold scanBound; omega) fun s' dn => ?_
  obtain ⟨h', tk, rfl, tx, keep⟩ := dn
  exact ⟨.ref _, upd H s.heap.objs.size (TxO X.prog X.w s.heap.objs.size (onceTx [] xs)), I.laid (t' := tk) (fun b u e => keep b u (Heap.lt_size e) e) (Nat.le_refl _) (txO_new tx), rfl, q _ (I.hok.fresh (Nat.le_refl _))⟩
end
/-! ### sorted -/
theorem perm_of_nodup {α : Type} [DecidableEq α] : ∀ (l zs : List α), l.Nodup → (∀ x ∈ l, x ∈ zs) → zs.length ≤ l.length → zs.Perm l
  | [], zs, _, _, h => by
    have e : zs = [] := List.eq_nil_of_length_eq_zero (Nat.le_zero.mp h)
    rw [e]
  | x :: l, zs, nd, hm, h => by
    obtain ⟨hx, nd'⟩ := List.nodup_cons.mp nd
    have mx : x ∈ zs := hm x List.mem_cons_self
    have pe := List.perm_cons_erase mx
    have le : (zs.erase x).length ≤ l.length := by
      have a := pe.length_eq
      rw [List.length_cons] at a h
      omega
    refine pe.trans (List.Perm.cons x (perm_of_nodup l (zs.erase x) nd' (fun y hy => ?_) le))
    have ne : y ≠ x := fun z => hx (by rw [← z]; exact hy)
    exact (List.mem_erase_of_ne ne).mpr (hm y (List.mem_cons_of_mem x hy))
/-- the text that a value is -/
def txOf : Value → Str
  | .str x _ => x
  | _ => Str.empty
theorem strs_txOf : ∀ us : List Value, (∀ u ∈ us, ∃ x t, u = Value.str x t) → StrsAre us (us.map txOf)
  | [], _ => .nil
  | u :: us, h => by
    obtain ⟨x, t, rfl⟩ := h u List.mem_cons_self
    exact .cons x t (strs_txOf us fun v hv => h v (List.mem_cons_of_mem _ hv))
theorem tx_rows {P : Program} {w : World} {es : Array (Int × Value)} {ep : Nat} {t : SetTable} {l : List Str} {us : List Value} (F : TxOk P w (es, ep, t) l) (nd : l.Nodup) (pm : us.Perm (es.toList.map (·.2))) :
    StrsAre us (us.map txOf) ∧ (us.map txOf).Perm l := by
  have all : ∀ u ∈ us, ∃ x t, u = Value.str x t := fun u hu => by
    obtain ⟨e, he, rfl⟩ := List.mem_map.mp (pm.mem_iff.mp hu)
    obtain ⟨⟨k, hk, _⟩, _⟩ := F.el e he
    obtain ⟨t, ev⟩ := Value.isStrOf_shape (x := k) (v := e.2) hk
    exact ⟨k, t, ev⟩
  refine ⟨strs_txOf us all, perm_of_nodup l _ nd (fun x hx => ?_) ?_⟩
  · obtain ⟨e, he, q⟩ := (F.mem x).mp hx
    obtain ⟨t, ev⟩ := Value.isStrOf_shape (x := x) (v := e.2) q
    refine List.mem_map.mpr ⟨e.2, pm.mem_iff.mpr (List.mem_map.mpr ⟨e, he, rfl⟩), ?_⟩
    rw [ev] <;> rfl
  · have z : es.size = l.length := F.sz
    rw [List.length_map, pm.length_eq, List.length_map, Array.length_toList]
    omega
section
variable {X : Cx}
/-- sorted(s) of a set of fewer than 64 texts -/
def rTxSorted (P : Program) (w : World) : List V → Hp → VK → Prop := fun vs H Q => ∃ (a : Addr) (l : List Str), vs = [V.ref a] ∧ H a = some (TxO P w a l) ∧ l.length < 64 ∧
  ∀ ys p, ys.Perm l → sortedS ys = true → H p = none → Q (.ref p) (upd H p (.lst (ys.map V.str)))
theorem cr_txSorted (hc : X.calm = true) : CallR X (.builtin "sorted") (rTxSorted X.prog X.w) := by
  intro pins s σ H vs us Q I r h
  obtain ⟨a, l, rfl, ha, h64, q⟩ := h
  obtain ⟨⟨es, ep, t⟩, ho, F, nd, wk⟩ := txO_get I ha
  have hsz : es.size = l.length := F.sz
  rw [Vals.ref1 r]
  refine Calls.call_function_entry PyProof.Rows.kind_sorted PyProof.Rows.plain_sorted PyProof.Rows.entry_sorted (PyProof.Rows.args_sorted1 _) ?_
  unfold Builtin.«sorted»
  refine wpAny_bind (m := checkCount "sorted" 1 1 _) (wpAny_pure (wpAny_bind (collect_set (A := X.A.in1) (I.ok.hd hc) ⟨_, ho, rfl, rfl⟩ F.fit (by rw [hsz]; unfold scanBound; omega) wk.ris wk.led fun s1 vs k1 hz g1 o1 pm => ?_)))
  obtain ⟨hS, pl⟩ := tx_rows F nd pm
  have hvl : vs.length = l.length := by
    have e := pl.length_eq
    rw [List.length_map] at e
    exact e
  refine wpAny_bind (wpAny_newList ?_ (by rw [hvl, sizeLine_eq]; omega))
  have hoL : (s1.heap.push (seqObj "list" vs.toArray 0)).get? s1.heap.objs.size = some (seqObj "list" vs.toArray 0) := Heap.get?_push_size _ rfl
  refine wpAny_bind (wpAny_holding (wpAny_call_entry PyProof.Rows.slot_list_sort ⟨_, hoL, rfl⟩ PyProof.Rows.entry_list_sort
    (list_sort_treeK strKind_oneLt hoL hS.keysOf (fun v1 v2 rest e => keyKind_strs (by rw [← e]; exact hS)) (by rw [hvl]; exact h64) fun st' hp hs => ⟨_, rfl, ?_⟩) (PyProof.Rows.args_list_sort _)))
  obtain ⟨ys, y1, y2, y3⟩ := sorted_out_str hS hp hs
  obtain ⟨e', he'⟩ := PyProof.Rows.sortedHeap_at (vs := vs) (out := (arrOf st').map (·.2)) hoL
  have yl : ys.Perm l := y2.trans pl
  have len : (ys.map V.str).length ≤ sizeLine := by
    rw [List.length_map, yl.length_eq, sizeLine_eq]
    omega
  have old : ∀ b u, s.heap.get? b = some u → (sortedHeap (s1.heap.push (seqObj "list" vs.toArray 0)) s1.heap.objs.size vs ((arrOf st').map (·.2))).get? b = some u := fun b u e => by
    have lt := Heap.lt_size (k1 b u e)
    rw [PyProof.Rows.sortedHeap_old (Nat.ne_of_lt lt) (by rw [size_push']; exact Nat.lt_succ_of_lt lt)]
    exact Heap.get?_push_of_some _ (k1 b u e)
  have J : Inv X pins σ (upd H s1.heap.objs.size (.lst (ys.map V.str))) { s with heap := sortedHeap (s1.heap.push (seqObj "list" vs.toArray 0)) s1.heap.objs.size vs ((arrOf st').map (·.2)), gens := s1.gens, drawn := s1.drawn, toks := s1.toks } :=
    I.call (ch := []) (Un.laid old hz (I.hok.fresh hz)) (I.hok.laid old hz ⟨len, ((arrOf st').map (·.2)).toList, e', vals_of_strs y1, by rw [Array.toArray_toList]; exact he'⟩) (by rw [g1]; exact I.bare) (fun _ z => nomatch z)
  refine wpAny_pure ⟨_, rfl, .ref s1.heap.objs.size, _, ?_, rfl, q ys _ yl y3 (I.hok.fresh hz)⟩
  obtain ⟨h1, gg1, d1, t1, os1⟩ := s1
  obtain ⟨h0, g0, d0, t0, os0⟩ := s
  cases o1
  exact J
end
end Spk

set_option Elab.async false
set_option linter.all false
set_option maxRecDepth 100000
set_option maxHeartbeats 1000000
namespace Spk
open PySem PySem.Spec PyProof.Rows PySem.W L2 HT
open PySem.Froz (SD sObj TxOk)
/-! ## len(s), s a set of texts -/
def rTxLen (P : Program) (w : World) : List V → Hp → VK → Prop := fun vs H Q => ∃ (a : Addr) (l : List Str), vs = [V.ref a] ∧ H a = some (TxO P w a l) ∧ l.length ≤ 100000 ∧ Q (.int l.length) H
theorem cr_txLen {X : Cx} : CallR X (.builtin "len") (rTxLen X.prog X.w) := by
  intro pins s σ H vs us Q I r h
  obtain ⟨a, l, rfl, ha, hl, q⟩ := h
  rw [Vals.ref1 r]
  obtain ⟨⟨es, ep, t⟩, e, F, nd, wk⟩ := txO_get I ha
  refine call_len_set (o := sObj "set" (es, ep, t)) (es := es) (ep := ep) (t := t) e ?_ rfl F.fit ?_ ?_
  · exact ⟨rfl, rfl, rfl⟩
  · have := F.sz
    simp only at this
    omega
  · have z := F.sz
    simp only at z
    rw [z]
    exact ⟨.int l.length, H, I.kept (t' := s.toks + 1 + 1) fun b u x => x, ⟨_, rfl⟩, q⟩
/-- none twice: the set has as many -/
theorem onceTx_nodup : ∀ (xs l : List Str), (l.reverse ++ xs).Nodup → (onceTx l xs).length = l.length + xs.length
  | [], l, _ => by simp [onceTx]
  | x :: xs, l, h => by
    have hx : x ∉ l := fun hm => by
      rw [List.nodup_append] at h
      exact h.2.2 x (List.mem_reverse.mpr hm) x List.mem_cons_self rfl
    have e : onceTx l (x :: xs) = onceTx (x :: l) xs := by
      show List.foldl withTx (withTx l x) xs = _
      unfold withTx
      rw [if_neg hx]
      rfl
    rw [e, onceTx_nodup xs (x :: l) (by simpa using h)]
    simp only [List.length_cons]
    omega
end Spk

set_option Elab.async false
set_option linter.all false
set_option maxRecDepth 100000
set_option maxHeartbeats 1000000
namespace Spk
open PySem PySem.Spec PyProof.Rows L2
/-! ## try: .. except X as e: v = e, and v used behind it -/
section
variable {X : Cx}
theorem unsuiteP {pins pn' : List (Addr × Obj)} {σ : L2.St} {H : Hp} {s : Shared} {a : Addr} {oe : Obj} (S : L2.Inv (X.suite a ((a, oe) :: (X.pn ++ pins))) pn' σ H s) (ok : X.Ok) : L2.Inv X ((a, oe) :: pins) σ H s :=
  { Inv.unsuite S ok with
    pin := fun p hp => S.pin p (List.mem_append_left _ (by
      rcases List.mem_append.mp hp with h | h
      · exact List.mem_cons_of_mem _ (List.mem_append_left _ h)
      · rcases List.mem_cons.mp h with rfl | h
        · exact List.mem_cons_self
        · exact List.mem_cons_of_mem _ (List.mem_append_right _ h))) }
theorem dropPin {pins : List (Addr × Obj)} {q : Addr × Obj} {σ : L2.St} {H : Hp} {s : Shared} (J : L2.Inv X (q :: pins) σ H s) : L2.Inv X pins σ H s :=
  { J with
    pin := fun p hp => J.pin p (by
      rcases List.mem_append.mp hp with h | h
      · exact List.mem_append_left _ h
      · exact List.mem_append_right _ (List.mem_cons_of_mem _ h)) }
/-- what is wished of the body's error: the handler takes it; what follows is walked with the error kept at slot j -/
def wKeep (K : PySem.W.Frag) (c : Value) (j i : Nat) (u : Addr → Value → Option Addr → TS) (D : Ends) : WX := fun cls d σ H =>
  PySem.W.exmOne K cls c = some true ∧ ∀ a, H a = none → u a cls d D ((σ.set j (some (.ref a))).set i none) H
theorem sp_drop {pins : List (Addr × Obj)} {q : Addr × Obj} {D : Ends} {f : Flow} {s : Shared} (ok : X.Ok) (h : SP (X.tr (X.pn ++ q :: pins) X.xe) [] D f s) : SP X pins D f s := by
  cases f with
  | next =>
    obtain ⟨σ', H', J, q⟩ := h
    exact ⟨σ', H', dropPin (Inv.ofTry J ok), q⟩
  | brk =>
    obtain ⟨σ', H', J, q⟩ := h
    exact ⟨σ', H', dropPin (Inv.ofTry J ok), q⟩
  | cont =>
    obtain ⟨σ', H', J, q⟩ := h
    exact ⟨σ', H', dropPin (Inv.ofTry J ok), q⟩
  | ret w =>
    obtain ⟨v, σ', H', J, r, q⟩ := h
    exact ⟨v, σ', H', dropPin (Inv.ofTry J ok), r, q⟩
theorem pss_try_keep {x n : Str} {c : Value} {i j : Nat} {body rest suite : List Stmt} {b₀ : Stmt} {np pos pos' : Pos} {tb : WX → TS} {u0 : TS} {u : Addr → Value → Option Addr → TS} (hs : X.stack = X.env :: X.outer) (hf : X.env.frame = some X.env.locals) (hN : X.N.Nodup)
    (hi : X.N[i]? = some n) (hln : X.env.kindOf n = some .local) (hj : j < X.N.length) (hc : Names X x c)
    (hb : ∀ (W : WX) (pn : List (Addr × Obj)) (xe : Value → Shared → Prop), Takes (X.tr pn xe) W → PassesOwn (model X.prog X.w) X.A X.env xe → PSs (X.tr pn xe) body (tb W))
    (hsu : ∀ (a : Addr) (oe : Obj) (pn : List (Addr × Obj)), PSs (X.suite a ((a, oe) :: pn)) (b₀ :: suite) (tAsg (tVar i) (gName j)))
    (hr : PSs X rest u0) (hre : ∀ (a : Addr) (oe : Obj) (cls : Value) (d : Option Addr) (pn : List (Addr × Obj)), Zc cls d oe → (∃ vs, oe.data = .fields vs) → (a, oe) ∈ pn → PSs (X.tr pn X.xe) rest (u a cls d)) :
    PSs X (.Try body [.ExceptHandler (some (.Name x np)) (some n) (b₀ :: suite) pos'] [] [] pos :: rest) (fun D σ H => tb (wKeep X.K c j i u D) { D with nx := u0 D } σ H) := by
  refine ⟨fun pins s σ H D I h => ?_⟩
  have ok := I.ok
  have hfr : X.A.frames = some (X.env :: X.outer) := by rw [ok.frames, hs]
  have hloc : L2.Loc X.env.scope n := .inl hln
  refine wpAny_execs_cons (wpAny_Try_except (wpAny_mono ((hb (wKeep X.K c j i u D) (X.pn ++ pins) _ (fun w s' xx => ?_) PassesOwn.looking).run [] s σ H { D with nx := u0 D } (I.toTry _) h) (fun f s1 hsp => ?_) fun _ _ he => he))
  · obtain ⟨a, B, sI, pins', σ', H', cls, d, rfl, J', nb, up, sky, na, os, ag, hb1, hyes⟩ := xx
    have J := J'.ofTry ok
    have sky' : Sky B (X.env :: X.outer) a (Zc cls d) X.env.locals s'.heap := by
      rw [← hs]
      exact sky
    refine Sky.land Zc.steady hfr hf sky' fun h3 fl3 up3 => ?_
    have J3 : L2.Inv X pins σ' H' { s' with heap := h3 } := Inv.landed J nb fl3.1 (up.trans up3) os ag
    obtain ⟨oe3, vs3, he3, hz3, hd3⟩ := HandSPX.FlyingZ.there fl3
    have nfr : a ∉ frs (X.env :: X.outer) := fun hm => by
      obtain ⟨_, o', e', hnf⟩ := fl3.2.2.1.mem hm
      rw [he3] at e'
      cases e'
      exact hnf vs3 hd3
    have nL : a ≠ X.env.locals := fun z => nfr (List.mem_filterMap.mpr ⟨X.env, List.mem_cons_self, by rw [hf, z]⟩)
    have nF : a ∉ X.fs := fun hm => by
      obtain ⟨e, he, q⟩ := List.mem_filterMap.mp hm
      exact nfr (List.mem_filterMap.mpr ⟨e, List.mem_cons_of_mem _ he, q⟩)
    have S3 := Inv.suite J3 he3 hd3 na nL nF
    have LT : PySem.W.Looks (model X.prog X.w) h3 (typeOf (.ref a)) cls := fun A Q E s k q => wpAny_typeOf_ref (k a oe3 he3) (by rw [hz3.1]; exact q)
    have LM := W.exm_one (Inv.kIn J3) LT hb1
    obtain ⟨hg, hdbg, hm⟩ := hc
    refine wpAny_handleBy_cons (codeAny_handlers_test ?_) (fun q => nomatch q)
    have test : ∀ {Q E : Value → Shared → Prop}, Q c { s' with heap := h3 } → wpAny (model X.prog X.w) (X.A.mark (some (.ref a))) (eval (.Name x np) X.env) Q E { s' with heap := h3 } := fun {Q E} q => hm.elim (fun hm => ld_glob S3 hg hm q hdbg) fun h => ld_blt S3 hg h.1 h.2.1 q h.2.2 hdbg
    refine test (W.Looks.here LM ?_)
    show codeAny _ _ _ _ _
    refine codeAny_handlers_suite_as (HandSPX.lands_againZ fl3 fun h4 fl4 up4 => ?_)
    have J4 : L2.Inv X pins σ' H' { s' with heap := h4 } := Inv.landed J nb fl4.1 ((up.trans up3).trans up4) os ag
    obtain ⟨oe4, vs4, he4, hz4, hd4⟩ := HandSPX.FlyingZ.there fl4
    have S4 := Inv.suite J4 he4 hd4 na nL nF
    refine store_ok (X := X.suite a ((a, oe4) :: (X.pn ++ pins))) S4 hN hi hloc (show RelV (.ref a) (.ref a) from rfl) (fun s5 S5 => ?_) (.inr hln)
    have il : i < σ'.length := by
      rw [J.len]
      exact (List.getElem?_eq_some_iff.mp hi).1
    have jl : j < σ'.length := by
      rw [J.len]
      exact hj
    refine wpAny_mono ((hsu a oe4 (X.pn ++ pins)).run [] s5 (σ'.set i (some (.ref a))) H' { nx := fun σ6 H6 => σ6 = (σ'.set i (some (.ref a))).set j (some (.ref a)) ∧ H6 = H', rt := fun _ _ => False, bk := fun _ _ => False, ct := fun _ _ => False } S5 ⟨.ref a, by rw [List.getElem?_set_self il], rfl, rfl⟩) (fun f s6 hsp => ?_) (fun _ _ z => z.elim)
    cases f with
    | brk =>
      obtain ⟨_, _, _, q⟩ := hsp
      exact q.elim
    | cont =>
      obtain ⟨_, _, _, q⟩ := hsp
      exact q.elim
    | ret w =>
      obtain ⟨_, _, _, _, _, q⟩ := hsp
      exact q.elim
    | next =>
      obtain ⟨σ6, H6, S6, e1, e2⟩ := hsp
      subst e1 e2
      refine gone_ok (unsuiteP S6 ok) hN hi hln fun s7 J7 => ?_
      have q := hyes a na
      have es : ((σ'.set i (some (.ref a))).set j (some (.ref a))).set i none = (σ'.set j (some (.ref a))).set i none := by
        by_cases e : i = j
        · subst e
          simp only [List.set_set]
        · rw [List.set_comm _ _ e, List.set_set]
      rw [es] at J7
      exact wpAny_mono ((hre a oe4 cls d (X.pn ++ (a, oe4) :: pins) hz4 ⟨vs4, hd4⟩ (by simp)).run [] s7 _ H6 D (J7.toTry X.xe) q) (fun f s8 h8 => sp_drop ok h8) fun _ _ z => z
  · cases f with
    | next =>
      obtain ⟨σ', H', J', q⟩ := hsp
      exact wpAny_execs_nil (hr.run pins s1 σ' H' D (J'.ofTry ok) q)
    | brk =>
      obtain ⟨σ', H', J', q⟩ := hsp
      exact ⟨σ', H', J'.ofTry ok, q⟩
    | cont =>
      obtain ⟨σ', H', J', q⟩ := hsp
      exact ⟨σ', H', J'.ofTry ok, q⟩
    | ret w =>
      obtain ⟨v, σ', H', J', r, q⟩ := hsp
      exact ⟨v, σ', H', J'.ofTry ok, r, q⟩
/-- e.f, e an error that is pinned at a -/
theorem pe_xfP {a C : Addr} {oe : Obj} {cls : Value} {d : Option Addr} {e : Expr} {te : TE} {pos : Pos} {n : Str} (T : XfC X.K C) (hno : PySem.W.findIn X.K (.ref C) n = some none) (hz : Zc cls d oe) (hf : ∃ vs, oe.data = .fields vs) (hpin : (a, oe) ∈ X.pn) (he : PE X e te)
    (hb : attributeBase e n X.env (eval e X.env) = eval e X.env := by rfl) : PE X (.Attribute e n pos) (tXf a cls d C n te) := by
  refine ⟨fun pins s σ H Q I h => attr_of hb (thn (he.run pins s σ H _ I h) fun u s1 ⟨x, H1, I1, rx, ex, ec, dd, fs, v, ed, ea, l, q⟩ => ?_)⟩
  subst ex ec ed
  obtain rfl : u = Value.ref a := rx
  have ha := (I1.pin (a, oe) (List.mem_append_left pins hpin)).1
  obtain ⟨vs, hd⟩ := hf
  obtain ⟨mA, hns, hr⟩ := I1.hok dd (.xd fs) ea
  obtain ⟨od, ho, hl⟩ := lookIn_ns hns
  obtain ⟨u, hu, ru⟩ := RelO.some_of (by rw [← l]; exact hr n)
  have J : PySem.W.InstAt s1.heap a oe C (some od) := ⟨ha, hz.1, by unfold PySem.W.notCls; rw [hd], by rw [hz.2]; exact ho⟩
  exact HandSPX.exc_get I1.kIn J T.ga T.gg T.exC (PySem.W.findObj_own T.hdC hno rfl (by rw [hl n, hu])) (handed_of ru) ⟨v, H1, I1.tok (s1.toks + 1), ru, q⟩
/-- what the text says of an error's class, for isinstance -/
structure ExP (K : PySem.W.Frag) (C : Addr) : Prop where
  is : (PySem.W.clsIn K C).isSome = true
  ga : PySem.W.findIn K (.ref C) "__getattribute__" = some (some (.builtin "BaseException.__getattribute__"))
  gg : PySem.W.findIn K (.ref C) "__getattr__" = some none
  sub : PySem.W.subIn K (.ref C) (.type "BaseException") = some true
  cls : PySem.W.findIn K (.ref C) "__class__" = some (some (.builtin "object.__class__"))
  get : PySem.W.specialIn K (.builtin "object.__class__") "__get__" = some (some (.builtin "getset_descriptor.__get__"))
  tk : PySem.W.takesIn K (.builtin "object.__class__") = some true
  mro : PySem.W.mroIn K C (.type "object") = some true
/-- isinstance(e, D), e an error that is pinned at a -/
def rIsP (K : PySem.W.Frag) (C a : Addr) (d : Option Addr) : List V → Hp → VK → Prop := fun xs H Q => ∃ (c : V) (cv : Value) (b : Bool) (dd : Addr) (fs : List (Str × V)), xs = [.ref a, c] ∧ ClsV c cv ∧ PySem.W.kitOne K (.ref C) cv = some b ∧ d = some dd ∧ H dd = some (.xd fs) ∧ Q (.bl b) H
theorem call_isP {a C : Addr} {oe : Obj} {d : Option Addr} (T : ExP X.K C) (hz : Zc (.ref C) d oe) (hf : ∃ vs, oe.data = .fields vs) (hpin : (a, oe) ∈ X.pn) : CallR X (.builtin "isinstance") (rIsP X.K C a d) := by
  intro pins s σ H xs us Q I r h
  obtain ⟨c, cv, b, dd, fs, rfl, hc, kt, ed, ea, q⟩ := h
  subst ed
  have ha := (I.pin (a, oe) (List.mem_append_left pins hpin)).1
  obtain ⟨vs, hd⟩ := hf
  obtain ⟨mA, hns, hr⟩ := I.hok dd (.xd fs) ea
  obtain ⟨od, ho, hl⟩ := lookIn_ns hns
  have J : PySem.W.InstAt s.heap a oe C (some od) := ⟨ha, hz.1, by unfold PySem.W.notCls; rw [hd], by rw [hz.2]; exact ho⟩
  cases r with
  | cons r1 r2 =>
    cases r2 with
    | cons r2 r3 =>
      cases r3
      rename_i u1 u2
      obtain rfl : u1 = Value.ref a := r1
      have e2 : u2 = cv := by
        cases hc with
        | ty n => exact r2
        | own D => exact r2
      subst e2
      exact PySem.W.kia_one (PySem.W.kitx_exc T.is T.ga T.gg T.sub T.cls T.get T.tk T.mro) I.kIn J kt (fun z => nomatch z) fun tk => ⟨.bl b, H, I.kept (t' := tk) fun _ _ z => z, rfl, q⟩
end
end Spk

set_option Elab.async false
set_option linter.all false
set_option maxRecDepth 100000
set_option maxHeartbeats 1000000
namespace Spk
open PySem PySem.Spec PyProof.Rows PySem.W L2
/-! ## C(e, .., k = v, ..), its __init__ one with a star and keywords; what it raises -/
theorem passE {X : Cx} {E : XK} (tk : Takes X (fun cls d _ H => E cls d H)) : Passes (L2.CX X.prog X.w) X E := fun pins σ H s e s' I h => passAt tk σ pins H s e s' I h
def tMakePK (C : Addr) (m : Nat) (sp : List V → List V → Hp → VK → XK → Prop) (E : XK) (t tk : TA) : TE := fun σ H Q => t σ H fun vs H1 => tk σ H1 fun zs H2 => zs.length = m ∧
  ∀ x dx, H2 x = Option.none → H2 dx = Option.none → dx ≠ x → sp (V.ref x :: vs) zs (upd (upd H2 dx (.own x)) x (.ins C dx [])) (fun v H3 => v = .non ∧ Q (.ref x) H3) E
theorem i_mkpk {C : Addr} {m : Nat} {sp : List V → List V → Hp → VK → XK → Prop} {E : XK} {t tk : TA} {σ : L2.St} {H : Hp} {Q : VK} (h : t σ H fun vs H1 => tk σ H1 fun zs H2 => zs.length = m ∧
  ∀ x dx, H2 x = Option.none → H2 dx = Option.none → dx ≠ x → sp (V.ref x :: vs) zs (upd (upd H2 dx (.own x)) x (.ins C dx [])) (fun v H3 => v = .non ∧ Q (.ref x) H3) E) : tMakePK C m sp E t tk σ H Q := h
section
variable {X : Cx} {CX : CXT} {k : Nat} {f C : Addr} {ks : List Str} {sp : List V → List V → Hp → VK → XK → Prop} {E : XK} {x : Str} {p pos : Pos} {e : Expr} {es : List Expr} {kws : List Keyword} {t tk : TA}
theorem run_makePK {pins : List (Addr × Obj)} {σ : L2.St} {H : Hp} {s : Shared} {us ws : List Value} {vs zs : List V} {Q : VK} (M : Mk X.K C f) (F : FnK X.prog X.w X.K X.mg X.base CX k f ks sp) (hr : Room (k + 1) X.A) (hx : Passes CX X E) (I : L2.Inv X pins σ H s) (rv : Vals vs us) (rz : Vals zs ws) (l : zs.length = ks.length)
    (q : ∀ x dx, H x = Option.none → H dx = Option.none → dx ≠ x → sp (V.ref x :: vs) zs (upd (upd H dx (.own x)) x (.ins C dx [])) (fun v H3 => v = .non ∧ Q (.ref x) H3) E) : wpAny (model X.prog X.w) X.A (call (.ref C) us (ks.zip ws)) (EP X pins σ Q) X.xe s := by
  have hq := q (s.heap.objs.size + 1) s.heap.objs.size (I.hok.fresh (Nat.le_succ _)) (I.hok.fresh (Nat.le_refl _)) (Nat.ne_of_lt (Nat.lt_succ_self _))
  have J := Inv.made (C := C) I
  have rv' : Vals (V.ref (s.heap.objs.size + 1) :: vs) (Value.ref (s.heap.objs.size + 1) :: us) := .cons rfl rv
  refine wpAny_call (make_map (f := f) I.kIn M.makes M.init (beq_iff_eq.mp M.fn) (codeAny_mono (F _ X.stack _ _ (Value.ref (s.heap.objs.size + 1) :: us) ws _ _ _ E (hr.make C us (ks.zip ws)) (J.env0.make C us (ks.zip ws)) rv' rz l hq) ?_))
  intro r s4 hr4
  match r, hr4 with
  | .error er, hr4 => exact hx pins σ _ _ er s4 J hr4
  | .ok .next, hr4 => exact hr4.elim
  | .ok .brk, hr4 => exact hr4.elim
  | .ok .cont, hr4 => exact hr4.elim
  | .ok (.ret u), hr4 =>
    obtain ⟨v, H3, J3, rv3, ev, q3⟩ := J.after hr4
    subst ev
    exact ⟨rv3, ⟨V.ref (s.heap.objs.size + 1), H3, J3, rfl, q3⟩⟩
theorem pe_makePK (M : Mk X.K C f) (F : FnK X.prog X.w X.K X.mg X.base CX k f ks sp) (hr : Room (k + 1) X.A) (hg : Gl X x) (hm : X.mg x = some (.ref C)) (hx : Passes CX X E) (ha : PA X (e :: es) t) (hkw : PK X kws tk)
    (hall : (backToKw pos (keywordEach kws X.env)).all (·.1.isSome) = true := by rfl) (hks : (backToKw pos (keywordEach kws X.env)).filterMap (·.1) = ks := by rfl) (hdb : (x == ("__debug__" : Str)) = false := by decide)
    (hpl : (((backTo pos (starEach (e :: es) X.env)).any fun x => x.1) || (backToKw pos (keywordEach kws X.env)).any fun x => x.1.isNone) = false := by rfl)
    (hst : starEach (e :: es) X.env = (false, eval e X.env) :: starEach es X.env := by rfl) : PE X (.Call (.Name x p) (e :: es) kws pos) (tMakePK C ks.length sp E t tk) := by
  refine ⟨fun pins s σ H Q I h => ?_⟩
  refine wpAny_Call_Name_kw (ld_glob I hg hm ?_ hdb)
  refine PySem.W.callWith_KW (h₀ := X.base) I.ok.mod.kin M.kp hall (thn (ha.run pos pins s σ H _ I h) fun us s1 ⟨vs, H1, I1, rv, q1⟩ => thn (hkw.run pos pins s1 σ H1 _ I1 q1) fun ws s2 ⟨zs, H2, I2, rz, l2, q2⟩ => ⟨I2.kIn, ?_⟩) hpl hst
  rw [hks]
  exact run_makePK M F hr hx I2 rv rz l2 q2
theorem pe_makePK0 (M : Mk X.K C f) (F : FnK X.prog X.w X.K X.mg X.base CX k f ks sp) (hr : Room (k + 1) X.A) (hg : Gl X x) (hm : X.mg x = some (.ref C)) (hx : Passes CX X E) (hkw : PK X kws tk)
    (hall : (backToKw pos (keywordEach kws X.env)).all (·.1.isSome) = true := by rfl) (hks : (backToKw pos (keywordEach kws X.env)).filterMap (·.1) = ks := by rfl) (hdb : (x == ("__debug__" : Str)) = false := by decide)
    (hpl : (((backTo pos (starEach [] X.env)).any fun x => x.1) || (backToKw pos (keywordEach kws X.env)).any fun x => x.1.isNone) = false := by rfl) : PE X (.Call (.Name x p) [] kws pos) (tMakePK C ks.length sp E tNil tk) := by
  refine ⟨fun pins s σ H Q I h => ?_⟩
  refine wpAny_Call_Name_kw (ld_glob I hg hm ?_ hdb)
  refine PySem.W.callWith_KW0 (h₀ := X.base) I.ok.mod.kin M.kp hall (thn (hkw.run pos pins s σ H _ I h) fun ws s2 ⟨zs, H2, I2, rz, l2, q2⟩ => ⟨I2.kIn, ?_⟩) hpl
  rw [hks]
  exact run_makePK M F hr hx I2 .nil rz l2 q2
end
/-! ## C.m(e, .., k = v, ..), what it raises wished for at the slots as they stand -/
def tCMethKS (C : Addr) (n m : Nat) (sp : Sp) (gV : List V → List V → List V) (E : L2.St → XK) (ta : TE) (t tk : TA) : TE := fun σ H Q => ta σ H fun x H1 => x = .ref C ∧ t σ H1 fun vs H2 => tk σ H2 fun zs H3 => vs.length = n ∧ zs.length = m ∧ sp (gV (.ref C :: vs) zs) H3 Q (E σ)
section
open ClX
variable {X : Cx} {CX : CXT} {k n : Nat} {C p g : Addr} {fd : FuncData} {mc : Value} {sp : Sp} {E : L2.St → XK} {m : Str} {ps ks : List Str} {gg : List Value → List Value → List Value} {gV : List V → List V → List V} {pos apos : Pos} {e o : Expr} {es : List Expr} {kws : List Keyword} {ta : TE} {t tk : TA}
theorem pe_cmethKS {pl : Sem Bool} (he : PE X o ta) (r : CRead X.K C mc) (c : CMet X.K C mc m p g) (F : FnOk X.prog X.w X.K X.mg X.base CX k g fd ps sp) (hb : KBn X.K fd ps (n + 1) ks gg gV) (hr : Room k X.A) (hx : ∀ σ, PassesAt CX X σ (E σ)) (ha : PA X (e :: es) t) (hk : PK X kws tk)
    (hall : (backToKw pos (keywordEach kws X.env)).all (·.1.isSome) = true := by rfl) (hks : (backToKw pos (keywordEach kws X.env)).filterMap (·.1) = ks := by rfl)
    (hse : starEach (e :: es) X.env = (false, eval e X.env) :: starEach es X.env := by rfl)
    (hpl : (((backTo pos (starEach (e :: es) X.env)).any fun x => x.1) || (backToKw pos (keywordEach kws X.env)).any fun x => x.1.isNone) = false := by rfl)
    (ht : eval (.Call (.Attribute o m apos) (e :: es) kws pos) X.env = (do
      let ov ← eval o X.env
      standAt apos.atName
      let (f, first) ← holding [ov] (getMethod ov m pl)
      callWith pos f first (backTo pos (starEach (e :: es) X.env)) (backToKw pos (keywordEach kws X.env))) := by rfl) :
    PE X (.Call (.Attribute o m apos) (e :: es) kws pos) (tCMethKS C n ks.length sp gV E ta t tk) := by
  refine ⟨fun pins s σ H Q I h => ?_⟩
  refine PySem.W.methodCall_KW (pl := pl) (thn (he.run pins s σ H _ I h) fun u s1 ⟨x, H1, I1, rx, ex, z⟩ => ?_) ht
  subst ex
  obtain rfl : u = Value.ref C := rx
  refine getmethcm_ok I1 r c fun s2 I2 => ?_
  refine callwith_met (a := C) (g := g) hpl c.fi (evalArgs_kw2 hall (thn (ha.run pos _ s2 σ _ _ I2 z) fun us s3 ⟨vs, H2, I3, rv, z2⟩ => ?_) hse)
  refine thn (hk.run pos _ s3 σ H2 _ I3 z2) fun ws s4 ⟨zs, H3, I4, rz, l1, l2, q⟩ => ?_
  refine ⟨⟨pin_at I4, I4.kIn⟩, ?_⟩
  rw [hks]
  have w1 : us.length = n := by rw [← rv.length]; exact l1
  have w2 : ws.length = ks.length := by rw [← rz.length]; exact l2
  have rv' : Vals (V.ref C :: vs) (Value.ref C :: us) := .cons rfl rv
  refine wpAny_call (PySem.W.method_call (pin_at I4) (codeAny_mono (F.run X.A X.stack s4 H3 ⟨Value.ref C :: us, ks.zip ws⟩ (gg (Value.ref C :: us) ws) _ _ (E σ) hr I4.env0 (hb.to s4 (Value.ref C :: us) ws I4.kIn (by rw [List.length_cons, w1]) w2) (hb.rel rv' rz) q) ?_))
  intro r5 s5 hr5
  match r5, hr5 with
  | .error er, hr5 => exact hx σ _ _ _ er s5 I4 hr5
  | .ok .next, hr5 => exact hr5.elim
  | .ok .brk, hr5 => exact hr5.elim
  | .ok .cont, hr5 => exact hr5.elim
  | .ok (.ret u5), hr5 => exact ClX.unpinE (I4.after hr5)
end
end Spk

set_option Elab.async false
set_option linter.all false
set_option maxRecDepth 100000
set_option maxHeartbeats 1000000
namespace Spk
open PySem PySem.Spec PyProof.Rows L2
/-! ## xs != [], xs == [] of a list of anything -/
def rNeNil : R2 := fun x y H Q => ∃ a b xs, x = .ref a ∧ y = .ref b ∧ H a = some (.lst xs) ∧ H b = some (.lst []) ∧ Q (.bl (!xs.isEmpty)) H
def rEqNil : R2 := fun x y H Q => ∃ a b xs, x = .ref a ∧ y = .ref b ∧ H a = some (.lst xs) ∧ H b = some (.lst []) ∧ Q (.bl xs.isEmpty) H
theorem op_neNil {X : Cx} (hu : X.A.units < cLine) : OpR X (compareOp .NotEq) rNeNil := by
  intro pins s σ H x y v u Q I rx ry h
  obtain ⟨a, b, xs, rfl, rfl, ha, hb, q⟩ := h
  obtain rfl : v = Value.ref a := rx
  obtain rfl : u = Value.ref b := ry
  obtain ⟨its, rv, pl, hz⟩ := I.list (SqL.of ha)
  obtain ⟨its2, rv2, pl2, hz2⟩ := I.list (SqL.of hb)
  show wpAny (model X.prog X.w) X.A (richCompare .NotEq (.ref a) (.ref b)) (EP X pins σ Q) X.xe s
  have e2 : its2 = [] := List.eq_nil_of_length_eq_zero (by rw [← rv2.length]; rfl)
  subst e2
  cases xs with
  | nil =>
    have e1 : its = [] := List.eq_nil_of_length_eq_zero (by rw [← rv.length]; rfl)
    subst e1
    exact SeqAt.RcNeAt.lists (e := fun _ => true) pl.isList pl2.isList rfl hu (fun j h1 => absurd h1 (Nat.not_lt_zero _)) _ _ _ _ ⟨.bl _, H, I, rfl, q⟩
  | cons w ws =>
    refine SeqAt.RcNeAt.lists_lengths pl.isList pl2.isList ?_ hu _ _ _ _ ⟨.bl _, H, I, rfl, q⟩
    have := rv.length
    cases its with
    | nil => simp at this
    | cons i is => rfl
theorem op_eqNil {X : Cx} (hu : X.A.units < cLine) : OpR X (compareOp .Eq) rEqNil := by
  intro pins s σ H x y v u Q I rx ry h
  obtain ⟨a, b, xs, rfl, rfl, ha, hb, q⟩ := h
  obtain rfl : v = Value.ref a := rx
  obtain rfl : u = Value.ref b := ry
  obtain ⟨its, rv, pl, hz⟩ := I.list (SqL.of ha)
  obtain ⟨its2, rv2, pl2, hz2⟩ := I.list (SqL.of hb)
  show wpAny (model X.prog X.w) X.A (richCompare .Eq (.ref a) (.ref b)) (EP X pins σ Q) X.xe s
  have e2 : its2 = [] := List.eq_nil_of_length_eq_zero (by rw [← rv2.length]; rfl)
  subst e2
  cases xs with
  | nil =>
    have e1 : its = [] := List.eq_nil_of_length_eq_zero (by rw [← rv.length]; rfl)
    subst e1
    exact SeqAt.RcAt.lists (e := fun _ => true) pl.isList pl2.isList rfl hu (fun j h1 => absurd h1 (Nat.not_lt_zero _)) _ _ _ _ ⟨.bl _, H, I, rfl, q⟩
  | cons w ws =>
    refine SeqAt.RcAt.lists_lengths pl.isList pl2.isList ?_ hu _ _ _ _ ⟨.bl _, H, I, rfl, q⟩
    have := rv.length
    cases its with
    | nil => simp at this
    | cons i is => rfl
theorem roomU {k : Nat} {A : Around} (hr : Room k A) : A.units < cLine := by
  have := hr.un
  omega
end Spk

set_option Elab.async false
set_option linter.all false
set_option maxRecDepth 100000
set_option maxHeartbeats 1000000
namespace Spk
open PySem PySem.Spec PyProof.Rows L2
/-! ## methods of tuples that are known whole -/
/-- the tuple at a, its object known -/
def TupF (H : Hp) (a : Addr) (xs : List V) : Prop := ∃ o : Obj, H a = some (.frz o (.tup xs)) ∧ o.cls = .type "tuple" ∧ o.dict = none
theorem TupF.seq {K : PySem.W.Frag} {H : Hp} {a : Addr} {xs : List V} (h : TupF H a xs) : SqT K H a xs := by
  obtain ⟨o, h, _⟩ := h
  exact .inl (.inr ⟨o, h⟩)
theorem TupF.up {H H' : Hp} {a : Addr} {xs : List V} (e : Same H H') (h : TupF H a xs) : TupF H' a xs := by
  obtain ⟨o, h, r⟩ := h
  exact ⟨o, e _ _ h, r⟩
def tBMF (r : V → List V → Hp → VK → Prop) (to : TE) (t : TA) : TE := fun σ H Q => to σ H fun x H1 => (∃ a xs, x = .ref a ∧ TupF H1 a xs) ∧ t σ H1 fun xs H2 => r x xs H2 Q
theorem i_bmf {r : V → List V → Hp → VK → Prop} {to : TE} {t : TA} {σ : L2.St} {H : Hp} {Q : VK} (h : to σ H fun x H1 => (∃ a xs, x = .ref a ∧ TupF H1 a xs) ∧ t σ H1 fun xs H2 => r x xs H2 Q) : tBMF r to t σ H Q := h
theorem pe_bmF {X : Cx} {o e : Expr} {es : List Expr} {to : TE} {t : TA} {name : Str} {apos cpos : Pos} {id : String} {r : V → List V → Hp → VK → Prop} (pa : PlainAttrs "tuple") (slot : Slot "tuple" name id) (hty : typeOf (Value.builtin id) = pure (Value.type "method_descriptor"))
    (hm : MtR X id r) (ho : PE X o to) (ha : PA X (e :: es) t) (hbase : attributeBase o name X.env (eval o X.env) = eval o X.env := by rfl)
    (hfew : ((((backTo cpos (starEach (e :: es) X.env)).all fun x => !x.1) && (backToKw cpos (keywordEach [] X.env)).all fun x => x.1.isSome) && decide (((e :: es).length + ([] : List Keyword).length + if ([] : List Keyword).isEmpty = true then 0 else 1) < 30)) = true := by rfl)
    (hline : (apos.endLine == cpos.line) = true := by rfl) (hs : starEach (e :: es) X.env = (false, eval e X.env) :: starEach es X.env := by rfl) (hpl : ((backTo cpos (starEach es X.env)).any fun x => x.1) = false := by rfl) :
    PE X (.Call (.Attribute o name apos) (e :: es) [] cpos) (tBMF r to t) := by
  refine ⟨fun pins s σ H Q I h => wpAny_Call_method_late hbase hfew hline rfl (thn (ho.run pins s σ H _ I h) fun v s1 ⟨x, H1, I1, r1, ⟨a, xs, ex, ob, hf, hc, hd⟩, q1⟩ => ?_)⟩
  subst ex
  obtain rfl : v = Value.ref a := r1
  have hg : s1.heap.get? a = some ob := (I1.hok a _ hf).1
  refine ⟨"tuple", id, pa, slot, hty, ⟨ob, hg, hc⟩, fun b e => by cases e; exact ⟨ob, hg, hd⟩, ?_⟩
  have hA := ha.run cpos pins s1 σ H1 _ I1 q1
  rw [hs] at hA ⊢
  refine Calls.callWith_builtin (by show (false || _) = false; rw [Bool.false_or]; exact hpl) (Calls.evalArgs_plain (thn hA fun us s2 ⟨vs, H2, I2, r2, q2⟩ => ?_))
  exact hm pins s2 σ H2 (.ref a) vs _ us Q I2 rfl r2 q2
end Spk

set_option Elab.async false
set_option linter.all false
namespace Spk
open PySem L2
/-! ## rules whose reading names the written part K by itself: for what stands within a comprehension -/
section
variable {X : Cx} {K : PySem.W.Frag} {e : Expr} {f : Str} {pos : Pos} {ta : TE}
theorem op_inK (h : X.K = K) : OpR X (compareOp .In) (rIn K false) := by subst h; exact op_in_seq
theorem op_notInK (h : X.K = K) : OpR X (compareOp .NotIn) (rIn K true) := by subst h; exact op_notIn_seq
theorem call_isiK (h : X.K = K) : CallR X (.builtin "isinstance") (rIsi K) := by subst h; exact call_isi
theorem pe_fldK (h : X.K = K) (he : PE X e ta) (hb : attributeBase e f X.env (eval e X.env) = eval e X.env) : PE X (.Attribute e f pos) (tFld K ta f) := by subst h; exact pe_fld he hb
theorem ix_tupK (h : X.K = K) : IxR X (rIxT K) := by subst h; exact ix_tup
theorem ix_listK (h : X.K = K) : IxR X (rIxL K) := by subst h; exact ix_list
theorem mt_tup_indexK (h : X.K = K) : MtR X "tuple.index" (fun x xs H Q => ∃ p, ∃ ys : List Str, ∃ z j, x = .ref p ∧ xs = [.str z] ∧ SqT K H p (ys.map V.str) ∧ ys[j]? = some z ∧ (∀ m, m < j → ys[m]? ≠ some z) ∧ Q (.int (j : Nat)) H) := by subst h; exact mt_tup_index
theorem mt_indexDK (h : X.K = K) (hu : X.A.units + 65 < cLine) : MtR X "list.index" (rIndexD K) := by subst h; exact mt_indexD hu
theorem op_catAK (h : X.K = K) : OpR X (binaryOp .Add) (rCatA K) := by subst h; exact op_catA
theorem sl_tupK (h : X.K = K) : SlR X (rSlT K) := by subst h; exact sl_tup
theorem call_len_seqK (h : X.K = K) : CallR X (.builtin "len") (fun xs H Q => ∃ p ys, xs = [.ref p] ∧ (SqL K H p ys ∨ SqT K H p ys) ∧ Q (.int ys.length) H) := by subst h; exact call_len_seq
theorem pe_bmK {o : Expr} {es : List Expr} {to : TE} {t : TA} {name : Str} {apos cpos : Pos} {T id : String} {r : V → List V → Hp → VK → Prop} (h : X.K = K) (pa : PlainAttrs T) (slot : Slot T name id) (hty : typeOf (Value.builtin id) = pure (Value.type "method_descriptor")) (hm : MtR X id r) (ho : PE X o to) (ha : PA X (e :: es) t)
    (hbase : attributeBase o name X.env (eval o X.env) = eval o X.env := by rfl)
    (hfew : ((((backTo cpos (starEach (e :: es) X.env)).all fun x => !x.1) && (backToKw cpos (keywordEach [] X.env)).all fun x => x.1.isSome) && decide (((e :: es).length + ([] : List Keyword).length + if ([] : List Keyword).isEmpty = true then 0 else 1) < 30)) = true := by rfl)
    (hline : (apos.endLine == cpos.line) = true := by rfl) (hs : starEach (e :: es) X.env = (false, eval e X.env) :: starEach es X.env := by rfl) (hpl : ((backTo cpos (starEach es X.env)).any fun x => x.1) = false := by rfl) :
    PE X (.Call (.Attribute o name apos) (e :: es) [] cpos) (tBM K T r to t) := by subst h; exact pe_bm pa slot hty hm ho ha hbase hfew hline hs hpl
end
theorem room65 {k : Nat} {A : Around} (hr : Room k A) : A.units + 65 < cLine := by
  have := hr.un
  omega
end Spk

set_option Elab.async false
set_option linter.all false
set_option maxRecDepth 100000
set_option maxHeartbeats 2000000
namespace Spk
open PySem PySem.Spec PyProof.Rows L2
open AutoSeq1 (wpAny_loadPart')

/-! ## for i, x in enumerate(t), t a tuple -/
abbrev itO (l : Addr) : Obj := { cls := .type "tuple_iterator", data := .fields #[.ref l, .int 0 0] }
abbrev enO (k : Addr) : Obj := { cls := .type "enumerate", data := .fields #[.none, .bool false, .ref k, rawInt 0, .none, .none] }
set_option maxHeartbeats 4000000 in
theorem enum_newT (l : Addr) (items : Array Value) (n : Nat) (dd : Option Addr) (sl : Array (Option Value)) : Meets (Builtin.«enumerate.__new__» ⟨[.type "enumerate", .ref l], []⟩) (fun _ R s =>
      s.heap.get? l = some { cls := .type "tuple", dict := dd, data := .seq items n, slots := sl } ∧ R (.ok (.ret (.ref (s.heap.push (itO l)).objs.size))) { s with heap := (s.heap.push (itO l)).push (enO s.heap.objs.size) }) :=
  .of_wp fun prog w A R s h => by
    obtain ⟨hp, g, d, tk, os⟩ := s
    obtain ⟨hl, h⟩ := h
    have hT : hp.IsTuple l items := ⟨_, hl, rfl, n, rfl⟩
    have hsub := sub_enumerate
    wp_walk using wpAny_loadPart' hl
    refine wpAny_stack_any fun st => wpAny_pure ?_
    split
    · rename_i c _ _ _ _ _
      cases (c == Value.type "enumerate") <;> (wp_walk using wpAny_loadPart' hl, wpAny_pyIter_tuple hT; exact ⟨_, rfl, h⟩)
    · (wp_walk using wpAny_loadPart' hl, wpAny_pyIter_tuple hT); exact ⟨_, rfl, h⟩

theorem call_enumT {prog : Program} {w : World} {A : Around} {E : Value → Shared → Prop} {s : Shared} {l : Addr} {items : Array Value} {Q : Value → Shared → Prop} (hL : s.heap.IsTuple l items)
    (h : ∀ h', IsEnum h' (s.heap.objs.size + 1) s.heap.objs.size 0 .none → h'.IsTupleIter s.heap.objs.size l 0 → (∀ b o, s.heap.get? b = some o → h'.get? b = some o) → Q (.ref (s.heap.objs.size + 1)) { s with heap := h' }) :
    wpAny (model prog w) A (call (.type "enumerate") [.ref l]) Q E s := by
  obtain ⟨⟨c, dct, dt, sl⟩, hl, hc, n, hd⟩ := hL
  replace hc : c = .type "tuple" := hc
  replace hd : dt = .seq items n := hd
  subst hc hd
  have hz : (s.heap.push (itO l)).objs.size = s.heap.objs.size + 1 := Heap.size_push ..
  have he : IsEnum ((s.heap.push (itO l)).push (enO s.heap.objs.size)) (s.heap.objs.size + 1) s.heap.objs.size 0 .none := by
    have := Heap.get?_push_size (s.heap.push (itO l)) (o := enO s.heap.objs.size) rfl
    rw [hz] at this
    exact this
  have fin := h _ he ⟨_, Heap.get?_push_of_some _ (Heap.get?_push_size _ rfl), rfl, rfl⟩ fun b o x => Heap.get?_push_of_some _ (Heap.get?_push_of_some _ x)
  refine callType_new PySem.F.called_enumerate (by decide) (PySem.F.typeCall_enumerate_1 _) (PySem.F.newCall_enumerate_1 _) (fun obj => PySem.F.args_object_init_2 obj _) PySem.F.entry_enumerate_new (enum_newT l items n dct sl) ⟨hl, ?_⟩
  show _ ∧ _
  rw [hz]
  exact ⟨⟨_, he, rfl⟩, fin⟩
/-- the tuple at a, each item in a new pair -/
def IteT (K : PySem.W.Frag) (a : Addr) : It where
  go := fun i H => ∃ (xs : List V) (x : V), SqT K H a xs ∧ xs[i]? = some x
  yld := fun i H v H' => ∃ T x, v = .ref T ∧ H T = none ∧ H' = upd H T (.tup [.int (i : Nat), x]) ∧ ∀ xs, SqT K H a xs → xs[i]? = some x
  stop := fun i H => ∃ xs : List V, SqT K H a xs ∧ xs.length = i
theorem turn_enumT {P : Program} {w : World} {K : PySem.W.Frag} {elts : List Expr} {kk : Nat} {tpos : Pos} (a e it : Addr) :
    Turn P w K (.Tuple elts kk tpos) (IteT K a) [e, it] e (fun i h => (∃ old, IsEnum h e it ((i : Nat) : Int) old) ∧ h.IsTupleIter it a i ∧ e ≠ it ∧ a ≠ it ∧ a ≠ e) where
  mem := by simp
  obj := fun i h st b hb => by
    obtain ⟨⟨old, he⟩, ⟨o, ho, hc, hd⟩, _⟩ := st
    rcases List.mem_cons.mp hb with rfl | hb
    · exact ⟨_, he, fun v q => nomatch q⟩
    · rw [List.mem_singleton.mp hb]
      exact ⟨o, ho, fun v q => by rw [hd] at q; cases q⟩
  keep := fun i h h' st k => by
    obtain ⟨⟨old, he⟩, hi, hne⟩ := st
    exact ⟨⟨old, k e (by simp) _ he⟩, hi.at fun o q => k it (by simp) o q, hne⟩
  item := by
    intro X hP hw hK hc i pins s σ H E I hf st hg
    subst hP hw hK
    obtain ⟨⟨old, he⟩, hit, hne, hai, hae⟩ := st
    obtain ⟨xs, x, hq, hx⟩ := hg
    obtain ⟨its, rv, p, hz⟩ := I.tuple hq
    obtain ⟨u, hu, ru⟩ := rv.get hx
    have hel : e < s.heap.objs.size := Heap.lt_size he
    have hil : it < s.heap.objs.size := by
      obtain ⟨_, q, _⟩ := hit
      exact Heap.lt_size q
    have hi : i < its.toArray.size := by
      rw [List.size_toArray]
      exact (List.getElem?_eq_some_iff.mp hu).1
    have D := Draws.tuple (prog := X.prog) (w := X.w) (A := X.A.in1) (I.ok.hd hc) it a hai its.toArray
    refine wpAny_pyNext_enum_itemD D he ⟨hit, p⟩ hi hne (by simp [hne, Ne.symm hae]) fun x' h' tk hx' ho hst hT hsz hk => ?_
    have ex : x' = u := by
      have h1 : its.toArray[i]? = some u := by simpa using hu
      rw [h1] at hx'
      exact (Option.some.inj hx').symm
    subst ex
    refine ⟨_, rfl, wpAny_letOwnedTupleGo_enum (s := { s with heap := h', toks := tk + 1 }) ho fun h'' he' sb => ?_⟩
    have hT2 : h''.get? s.heap.objs.size = some { cls := .type "tuple", data := .seq #[.int i tk, x'] } := (sb.2 _ (Nat.ne_of_gt hel)).trans hT
    have new : ObjOk X.prog X.w (upd H s.heap.objs.size (.tup [.int (i : Nat), x])) h'' s.heap.objs.size (.tup [.int (i : Nat), x]) :=
      ⟨size_of (Nat.le_of_ble_eq_true rfl), [.int i tk, x'], .cons ⟨_, rfl⟩ (.cons ru .nil), ⟨_, hT2, rfl, _, rfl⟩⟩
    have keepB : ∀ b ob, b ∉ [e, it] → s.heap.get? b = some ob → h''.get? b = some ob := fun b ob hb q => by
      simp only [List.mem_cons, List.not_mem_nil, or_false, not_or] at hb
      exact (sb.2 b hb.1).trans (hk b ob hb.1 hb.2 q)
    have I1 := I.turnedNew (t' := tk + 1) (ch := [e, it]) keepB hf (Nat.le_refl _) new
    refine ⟨.ref s.heap.objs.size, _, I1, rfl, ⟨_, x, rfl, I.hok.fresh (Nat.le_refl _), rfl, fun ys hy => by rw [I.tuple_inj hy hq]; exact hx⟩, ⟨⟨x', ?_⟩, hst.1.at fun o q => (sb.2 it (Ne.symm hne)).trans q, hne, hai, hae⟩, fun b hb => ?_⟩
    · rw [show ((i + 1 : Nat) : Int) = (i : Int) + 1 from rfl]
      exact he'
    · have hb' : b < s.heap.objs.size := by
        rcases List.mem_cons.mp hb with rfl | hb
        · exact hel
        · rw [List.mem_singleton.mp hb]; exact hil
      rw [upd_ne (Nat.ne_of_lt hb')]
      exact (hf b hb).1
  done := by
    intro X hP hw hK hc i pins s σ H E I hf st hg
    subst hP hw hK
    obtain ⟨⟨old, he⟩, hit, hne, hai, hae⟩ := st
    obtain ⟨xs, hq, hx⟩ := hg
    obtain ⟨its, rv, p, hz⟩ := I.tuple hq
    obtain ⟨f0, f1, f2, f3, f4, f5⟩ := hf it (by simp)
    have D := Draws.tuple (prog := X.prog) (w := X.w) (A := X.A.in1) (I.ok.hd hc) it a hai its.toArray
    have hsz : its.toArray.size = i := by rw [List.size_toArray, ← rv.length]; exact hx
    refine wpAny_pyNext_enum_endD D he ⟨by rw [hsz]; exact hit, p⟩ fun h' eb => ⟨rfl, ?_⟩
    exact I.turned (t' := s.toks) (fun b o hb q => eb b o hb q) f0 f1 f3 f4 f5
  self := fun A i s Q E st h => by
    obtain ⟨⟨_, he⟩, _⟩ := st
    exact wpAny_pyIter_enum he h

def iEnumT (K : PySem.W.Frag) (ta : TA) : TI := fun σ H R => ta σ H fun vs H1 => ∃ a xs, vs = [.ref a] ∧ SqT K H1 a xs ∧ R (IteT K a) H1
theorem i_iET {K : PySem.W.Frag} {σ : L2.St} {H : Hp} {ts : TA} {R : It → Hp → Prop} (h : ts σ H fun vs H1 => ∃ a xs, vs = [.ref a] ∧ SqT K H1 a xs ∧ R (IteT K a) H1) : iEnumT K ts σ H R := h
theorem pi_enumT {X : Cx} {e : Expr} {ta : TA} {p pos tpos : Pos} {elts : List Expr} {kk : Nat} (hg : Gl X "enumerate") (hm : X.mg "enumerate" = none) (ha : PA X [e] ta) (hs : starEach [e] X.env = [(false, eval e X.env)] := by rfl) :
    PI X (.Tuple elts kk tpos) (.Call (.Name "enumerate" p) [e] [] pos) (iEnumT X.K ta) := by
  refine ⟨fun pins s σ H R I h => ?_⟩
  refine Call_ (ld_blt I hg hm boot_enumerate (callWith_type1 (thn (ha.run pos pins s σ H _ I h) fun us s1 ⟨vs, H1, I1, r1, q1⟩ => ?_) hs rfl))
  obtain ⟨a, xs, ex, hq, q⟩ := q1
  subst ex
  obtain ⟨u, rfl, ru⟩ := r1.one
  cases ru
  obtain ⟨its, rv, p', hz⟩ := I1.tuple hq
  have ha' : a < s1.heap.objs.size := by
    obtain ⟨o, ho, _⟩ := p'
    exact Heap.lt_size ho
  refine call_enumT p' fun h' he hit hk => wpAny_pyIter_enum he ?_
  have I2 : Inv X pins σ H1 { s1 with heap := h' } := I1.kept (t' := s1.toks) hk
  have ne1 : a ≠ s1.heap.objs.size := Nat.ne_of_lt ha'
  have ne2 : a ≠ s1.heap.objs.size + 1 := Nat.ne_of_lt (Nat.lt_succ_of_lt ha')
  refine ⟨s1.heap.objs.size + 1, [s1.heap.objs.size + 1, s1.heap.objs.size], _, _, H1, rfl, I2, turn_enumT a (s1.heap.objs.size + 1) s1.heap.objs.size, ⟨⟨.none, he⟩, hit, Nat.succ_ne_self _, ne1, ne2⟩, fun b hb => ?_, q⟩
  have hle : s1.heap.objs.size ≤ b := by
    rcases List.mem_cons.mp hb with rfl | hb
    · exact Nat.le_succ _
    · rw [List.mem_singleton.mp hb]
      exact Nat.le_refl _
  exact I1.fpOk hle (I1.hok.fresh hle)
theorem for_enumT {K : PySem.W.Frag} {a : Addr} {xs : List V} {g : TG} {tb : TS} {D : Ends} {σ : L2.St} {H : Hp} (Pv : Nat → L2.St → Hp → Prop) (h0 : Pv 0 σ H) (hl : ∀ i σ H, i ≤ xs.length → Pv i σ H → SqT K H a xs)
    (hs : ∀ i x T σ H, xs[i]? = some x → Pv i σ H → H T = none → g (.ref T) σ (upd H T (.tup [.int (i : Nat), x])) fun σ2 H2 => tb { D with nx := Pv (i + 1), ct := Pv (i + 1), bk := D.nx } σ2 H2) (hd : ∀ σ H, Pv xs.length σ H → D.nx σ H) :
    forK g tb D σ (IteT K a) H := by
  refine ⟨fun i m σ H => m = xs.length - i ∧ i ≤ xs.length ∧ Pv i σ H, ⟨_, rfl, Nat.zero_le _, h0⟩, ?_⟩
  rintro i m σ H ⟨rfl, hi, p⟩
  by_cases e : i = xs.length
  · subst e
    exact .inl ⟨⟨xs, hl _ _ _ hi p, rfl⟩, hd _ _ p⟩
  · have hlt : i < xs.length := by omega
    refine .inr ⟨⟨xs, xs[i], hl _ _ _ hi p, List.getElem?_eq_getElem hlt⟩, Pv (i + 1), fun σ' H' p' => ⟨_, ?_, rfl, hlt, p'⟩, ?_⟩
    · omega
    · rintro x H' ⟨T, y, rfl, hT, rfl, hy⟩
      exact hs i y T σ H (hy xs (hl _ _ _ hi p)) p hT
end Spk

set_option Elab.async false
set_option linter.all false
set_option maxRecDepth 100000
set_option maxHeartbeats 1000000
namespace Spk
open PySem L2
/-! ## for i, x in enumerate(list) -/
theorem i_iE {K : PySem.W.Frag} {σ : L2.St} {H : Hp} {ta : TA} {R : It → Hp → Prop} (h : ta σ H fun vs H1 => ∃ a xs, vs = [.ref a] ∧ SqL K H1 a xs ∧ R (Ite K a) H1) : iEnum K ta σ H R := h
theorem for_enumL {K : PySem.W.Frag} {a : Addr} {xs : List V} {g : TG} {tb : TS} {D : Ends} {σ : L2.St} {H : Hp} (Pv : Nat → L2.St → Hp → Prop) (h0 : Pv 0 σ H) (hl : ∀ i σ H, i ≤ xs.length → Pv i σ H → SqL K H a xs)
    (hs : ∀ i x T σ H, xs[i]? = some x → Pv i σ H → H T = none → g (.ref T) σ (upd H T (.tup [.int (i : Nat), x])) fun σ2 H2 => tb { D with nx := Pv (i + 1), ct := Pv (i + 1), bk := D.nx } σ2 H2) (hd : ∀ σ H, Pv xs.length σ H → D.nx σ H) :
    forK g tb D σ (Ite K a) H := by
  refine ⟨fun i m σ H => m = xs.length - i ∧ i ≤ xs.length ∧ Pv i σ H, ⟨_, rfl, Nat.zero_le _, h0⟩, ?_⟩
  rintro i m σ H ⟨rfl, hi, p⟩
  by_cases e : i = xs.length
  · subst e
    exact .inl ⟨⟨xs, hl _ _ _ hi p, Nat.le_refl _⟩, hd _ _ p⟩
  · have hlt : i < xs.length := by omega
    refine .inr ⟨⟨xs, xs[i], hl _ _ _ hi p, List.getElem?_eq_getElem hlt⟩, Pv (i + 1), fun σ' H' p' => ⟨_, ?_, rfl, hlt, p'⟩, ?_⟩
    · omega
    · rintro x H' ⟨T, y, rfl, hT, rfl, hy⟩
      exact hs i y T σ H (hy xs (hl _ _ _ hi p)) p hT
end Spk

set_option Elab.async false
set_option linter.all false
set_option maxRecDepth 100000
set_option maxHeartbeats 1000000
namespace Spk
open PySem L2
def top (i : Nat) : Stmt := PySem.Challenge.pw_speaklast_k13_regions_of_homes.main.body.getD i (.Pass ⟨0, 0, 0, 0⟩)
local macro_rules | `(tactic| walk_at "rd") => `(tactic| repeat (first
  | with_reducible refine i_seq ?_ | with_reducible refine i_asg ?_ | with_reducible refine i_ret ?_ | with_reducible refine i_ifS ?_ | with_reducible refine i_if ?_
  | with_reducible refine i_for ?_ | with_reducible refine i_iL ?_ | with_reducible refine i_iT ?_ | with_reducible refine i_ckw ?_ | with_reducible refine i_cm ?_ | with_reducible refine And.intro (rfl : V.ref _ = V.ref _) ?_ | with_reducible refine i_rng1 ?_ | with_reducible refine i_bm ?_ | with_reducible refine i_bm0 ?_
  | with_reducible refine i_drop ?_ | with_reducible refine i_next ?_
  | with_reducible refine i_var rfl ?_ | with_reducible refine i_c ?_ | with_reducible refine i_op ?_ | with_reducible refine i_un ?_ | with_reducible refine i_name ?_
  | with_reducible refine i_rI0 ?_ | with_reducible refine i_rU ?_ | with_reducible refine i_rEq rfl ?_ | with_reducible refine i_rNe rfl ?_
  | with_reducible refine i_test ?_ | with_reducible refine i_tB ?_ | with_reducible refine i_and ?_ | with_reducible refine i_or ?_ | with_reducible refine i_not ?_
  | with_reducible refine i_andV ?_ | with_reducible refine i_orV ?_ | with_reducible refine i_notV ?_
  | with_reducible refine i_cons ?_ | with_reducible refine i_nil ?_ | with_reducible refine i_cb ?_ | with_reducible refine i_call ?_ | with_reducible refine i_bl ?_
  | with_reducible refine i_tup ?_ | with_reducible refine i_lst ?_ | with_reducible refine i_par ?_ | with_reducible refine i_gcons ?_ | with_reducible refine i_gnil ?_
  | with_reducible refine And.intro (rfl : V.non = V.non) ?_ | with_reducible refine i_ixT (by assumption) rfl ?_ | with_reducible refine i_ixL (by assumption) rfl ?_ | with_reducible refine i_gtup (by assumption) rfl ?_
  | with_reducible refine i_gsub ?_
  | with_reducible refine Or.inl (Exists.intro _ (And.intro (rfl : [V.int _] = [V.int _]) ?_)) | with_reducible refine Exists.intro _ (And.intro (rfl : [V.int _] = [V.int _]) ?_)
  | with_reducible refine Or.inr (Exists.intro _ (And.intro (rfl : [V.bl _] = [V.bl _]) ?_))
  | with_reducible refine Exists.intro _ (Exists.intro _ (And.intro (rfl : [V.int _, V.int _] = [V.int _, V.int _]) ?_))
  | with_reducible refine Exists.intro _ (Exists.intro _ (And.intro (rfl : [V.ref _] = [V.ref _]) (And.intro (Or.inl (SqL.of (by assumption))) ?_)))
  | with_reducible refine i_rI (show (0 : Int) < _ by assumption) ?_ | with_reducible refine i_rI (show (0 : Int) < _ by decide) ?_
  | with_reducible refine i_rI (pow_ok (Nat.le_of_ble_eq_true rfl) (Nat.le_of_ble_eq_true rfl)) ?_
  | with_reducible refine i_rI (cmulL rfl) ?_))
theorem _root_.L2.Same.mut {H0 H : Hp} {d : Addr} {o : HO} (e : Same H0 H) (h : H0 d = none) : Same H0 (upd H d o) := fun b u hb => by
  rw [upd_ne (ne_of_none hb h)]
  exact e b u hb
/-! ### the pen: what is drawn from the script -/
def penny : HO → Bool
  | .lst [.ref _, .int _, .int _] => true
  | _ => false
/-- all but a pen is as it was -/
def Keep (H H' : Hp) : Prop := ∀ b o, penny o = false → H b = some o → H' b = some o
theorem Keep.refl (H : Hp) : Keep H H := fun _ _ _ h => h
theorem Keep.trans {H H1 H2 : Hp} (a : Keep H H1) (b : Keep H1 H2) : Keep H H2 := fun c o p h => b c o p (a c o p h)
theorem Same.keep {H H' : Hp} (e : Same H H') : Keep H H' := fun b o _ h => e b o h
def Pen (H : Hp) (p L : Addr) (n : Nat) : Prop := ∃ (ns : List Int) (at_ lg : Int), H p = some (.lst [.ref L, .int at_, .int lg]) ∧ H L = some (.lst (ns.map V.int)) ∧ ns.length ≤ 63 ∧ 0 ≤ at_ ∧ at_ ≤ n ∧ 0 ≤ lg
theorem Pen.up {H H' : Hp} {p L : Addr} {n : Nat} (e : Same H H') (h : Pen H p L n) : Pen H' p L n := by
  obtain ⟨ns, a, l, h1, h2, r⟩ := h
  exact ⟨ns, a, l, e _ _ h1, e _ _ h2, r⟩
theorem Pen.mono {H : Hp} {p L : Addr} {n m : Nat} (h : Pen H p L n) (e : n ≤ m) : Pen H p L m := by
  obtain ⟨ns, a, l, h1, h2, h3, h4, h5, h6⟩ := h
  exact ⟨ns, a, l, h1, h2, h3, h4, by omega, h6⟩
theorem penny_ints (ns : List Int) : penny (.lst (ns.map V.int)) = false := by
  cases ns <;> rfl
/-- a pen is written anew -/
theorem pen_set {H : Hp} {p L : Addr} {ns : List Int} {a l a' l' : Int} {n : Nat} (hp : H p = some (.lst [.ref L, .int a, .int l])) (hL : H L = some (.lst (ns.map V.int))) (h1 : ns.length ≤ 63) (h2 : 0 ≤ a') (h3 : a' ≤ n) (h4 : 0 ≤ l') :
    Keep H (upd H p (.lst [.ref L, .int a', .int l'])) ∧ Pen (upd H p (.lst [.ref L, .int a', .int l'])) p L n := by
  refine ⟨fun b o hb e => ?_, ns, a', l', upd_same, ?_, h1, h2, h3, h4⟩
  · have : b ≠ p := fun z => by
      subst z
      rw [hp] at e
      cases e
      simp [penny] at hb
    rw [upd_ne this]
    exact e
  · have : L ≠ p := fun z => by
      subst z
      rw [hp] at hL
      have := penny_ints ns
      rw [← HO.lst.inj (Option.some.inj hL)] at this
      simp [penny] at this
    rw [upd_ne this]
    exact hL
theorem pen_put {H : Hp} {p L : Addr} {ns : List Int} {a l a' l' : Int} (hp : H p = some (.lst [.ref L, .int a, .int l])) (hL : H L = some (.lst (ns.map V.int))) :
    ∃ H1, upd H p (.lst [.ref L, .int a', .int l']) = H1 ∧ Keep H H1 ∧ H1 p = some (.lst [.ref L, .int a', .int l']) ∧ H1 L = some (.lst (ns.map V.int)) := by
  have : L ≠ p := fun z => by
    subst z
    rw [hp] at hL
    have := penny_ints ns
    rw [← HO.lst.inj (Option.some.inj hL)] at this
    simp [penny] at this
  refine ⟨_, rfl, fun b o hb e => ?_, upd_same, by rw [upd_ne this]; exact hL⟩
  have : b ≠ p := fun z => by
    subst z
    rw [hp] at e
    cases e
    simp [penny] at hb
  rw [upd_ne this]
  exact e
theorem dps_ints {K : PySem.W.Frag} {H : Hp} : ∀ ns : List Int, DpAll K H (ns.map V.int) (ns.map PyData.int)
  | [] => .nil
  | n :: ns => .cons (.int n) (dps_ints ns)
theorem eqv_ints : ∀ ns ms : List Int, PyData.eqvAll (ns.map PyData.int) (ms.map PyData.int) = decide (ns = ms)
  | [], [] => by simp [PyData.eqvAll]
  | [], _ :: _ => by simp [PyData.eqvAll]
  | _ :: _, [] => by simp [PyData.eqvAll]
  | a :: ns, b :: ms => by
    simp only [List.map_cons, PyData.eqvAll, PyData.eqv, eqv_ints ns ms, List.cons.injEq]
    rw [Bool.eq_iff_iff]
    simp
theorem lay_ints : ∀ ns : List Int, PyData.canLayAll0 (ns.map PyData.int) = true
  | [] => by simp [PyData.canLayAll0]
  | n :: ns => by simp [PyData.canLayAll0, PyData.canLay0, lay_ints ns]
theorem dep_ints : ∀ ns : List Int, PyData.depthAll (ns.map PyData.int) ≤ 1
  | [] => by simp [PyData.depthAll]
  | n :: ns => by
    have := dep_ints ns
    simp only [List.map_cons, PyData.depthAll, PyData.depth]
    omega
theorem shaped_ints (ns : List Int) : SeqAt.shaped (.list (ns.map PyData.int)) = true := by
  have h1 := lay_ints ns
  have h2 := dep_ints ns
  have h3 : (PyData.list (ns.map PyData.int)).depth ≤ 2 := by
    simp only [PyData.depth]
    omega
  unfold SeqAt.shaped
  rw [Bool.and_eq_true, decide_eq_true_eq]
  exact ⟨by simpa only [PyData.canLay0] using h1, by omega⟩
theorem mul_bd {a b A B : Int} (h1 : 0 ≤ a) (h2 : a ≤ A) (h3 : 0 ≤ b) (h4 : b ≤ B) : 0 ≤ a * b ∧ a * b ≤ A * B :=
  ⟨Int.mul_nonneg h1 h3, Int.mul_le_mul h2 h4 h3 (Int.le_trans h1 h2)⟩
section
variable {P : Program} {w : World} {K : PySem.W.Frag} {mg : Str → Option Value} {base : Heap}
abbrev s_pen : Stmt := top 40
theorem sc_pen : FnScope ["_law_script"] ["_law_script"] (defScope s_pen) := ⟨rfl, rfl, rfl, by decide +kernel, rfl, by decide +kernel, by decide +kernel⟩
def sp_pen (K : PySem.W.Frag) : Sp := fun vs H Q _ => ∃ a, ∃ ns : List Int, vs = [.ref a] ∧ SqL K H a (ns.map V.int) ∧ ns.length ≤ 63 ∧ ∀ p L H', Same H H' → Pen H' p L 0 → Q (.ref p) H'
theorem cut_ints (ns : List Int) (lo hi : Option Int) : ∃ ns' : List Int, cutV (ns.map V.int) lo hi = ns'.map V.int ∧ ns'.length ≤ ns.length := by
  refine ⟨(ns.drop (HT.sIx (ns.map V.int).length 0 lo)).take (HT.sIx (ns.map V.int).length (ns.map V.int).length hi - HT.sIx (ns.map V.int).length 0 lo), ?_, ?_⟩
  · unfold cutV
    rw [List.map_take, List.map_drop]
  · rw [List.length_take, List.length_drop]
    omega
theorem ok_pen {f : Addr} {fd : FuncData} (F : Fun K "_law_pen" "_law_pen" s_pen f fd) (z_list : mg "list" = none) : FnOk P w K mg base CX0 1 f fd ["_law_script"] (sp_pen K) := by
  refine F.ok sc_pen (fun vs H Q E h => ?_) (fun cdv A outer s H vs Q E hr h => ?_)
  · obtain ⟨a, ns, rfl, _⟩ := h
    rfl
  · obtain ⟨a, ns, rfl, ha, hz, q⟩ := h
    refine ⟨_, (pss_one (ps_ret (pe_lst (pa_cons (pe_callTy call_list_of (by rfl) z_list (by decide +kernel) (pa_cons (pe_slice sl_list (pv 0) po_none (po_some pe_int)) pa_nil)) (pa_cons pe_int (pa_cons pe_int pa_nil)))))), ?_⟩
    walk_at "rd"
    refine ⟨_, rfl, 63, rfl, a, _, rfl, ha, fun p hp => ?_⟩
    obtain ⟨ns', e, hl⟩ := cut_ints ns none (some 63)
    rw [e]
    obtain ⟨H1, e1, s1, h1⟩ := new_heap (o := .lst (ns'.map V.int)) hp
    rw [e1]
    walk_at "rd"
    intro l hl'
    obtain ⟨H2, e2, s2, h2⟩ := new_heap (o := .lst (ns'.map V.int)) hl'
    rw [e2]
    walk_at "rd"
    refine ⟨size_of (Nat.le_of_ble_eq_true rfl), fun r hr => ?_⟩
    obtain ⟨H3, e3, s3, h3⟩ := new_heap (o := .lst [.ref l, .int 0, .int 0]) hr
    rw [e3]
    exact q r l H3 (fun b o z => s3 _ _ (s2 _ _ (s1 _ _ z))) ⟨ns', 0, 0, h3, s3 _ _ h2, by omega, Int.le_refl _, Int.le_refl _, Int.le_refl _⟩
abbrev s_draw : Stmt := top 41
theorem sc_draw : FnScope ["_law_pen_here", "_law_many", "_law_digit", "_law_at", "_law_cell", "_law_large", "_law_mixed"] ["_law_pen_here", "_law_many"] (defScope s_draw) := ⟨rfl, rfl, rfl, by decide +kernel, rfl, by decide +kernel, by decide +kernel⟩
def sp_draw : Sp := fun vs H Q _ => ∃ p L n m, vs = [.ref p, .int m] ∧ Pen H p L n ∧ n ≤ 10000 ∧ 0 < m ∧ m ≤ 1000000000000 ∧ ∀ d H', 0 ≤ d → d < m → Keep H H' → Pen H' p L (n + 1) → Q (.int d) H'
theorem ok_draw {f : Addr} {fd : FuncData} (F : Fun K "_law_draw" "_law_draw" s_draw f fd) (z_int : mg "int" = none) (z_len : mg "len" = none) (z_abs : mg "abs" = none) : FnOk P w K mg base CX0 1 f fd ["_law_pen_here", "_law_many"] sp_draw := by
  refine F.ok sc_draw (fun vs H Q E h => ?_) (fun cdv A outer s H vs Q E hr h => ?_)
  · obtain ⟨p, L, n, m, rfl, _⟩ := h
    rfl
  · obtain ⟨p, L, n, m, rfl, ⟨ns, a, l, hp, hL, hz, a0, an, l0⟩, hn, m0, m1, q⟩ := h
    refine ⟨_, (pss_cons (ps_if (pt_cmpR op_gt (pe_ix ix_list (pv 0) pe_int (fun _ _ => rfl)) pe_int (nomark _))
 (pss_cons (ps_set (i := 2) sc_draw.nd rfl (Or.inl rfl) (pe_op op_mod (pe_callTy call_int1 (by rfl) z_int (by decide +kernel) (pa_cons (pe_ix ix_list (pv 0) pe_int (fun _ _ => rfl)) pa_nil)) (pv 1)))
 (pss_cons (ps_asg (pe_op op_fdivW (pe_ix ix_list (pv 0) pe_int (fun _ _ => rfl)) (pv 1)) (pg_sub (pv 0) pe_int set_list))
 (pss_one (ps_ret (pv 2)))))
 pss_nil)
 (pss_cons (ps_set (i := 3) sc_draw.nd rfl (Or.inl rfl) (pe_ix ix_list (pv 0) pe_int (fun _ _ => rfl)))
 (pss_cons (ps_asg (pe_op op_add (pv 3) pe_int) (pg_sub (pv 0) pe_int set_list))
 (pss_cons (ps_set (i := 4) sc_draw.nd rfl (Or.inl rfl) (pe_op op_add (pe_op op_mul pe_int (pv 3)) pe_int))
 (pss_cons (ps_if (pt_cmpR (op_neD hr.units) (pe_ix ix_list (pv 0) pe_int (fun _ _ => rfl)) (pe_lst pa_nil) (nomark _))
 (pss_one (ps_set (i := 4) sc_draw.nd rfl (Or.inl rfl) (pe_ix ix_list (pe_ix ix_list (pv 0) pe_int (fun _ _ => rfl)) (pe_op op_mod (pe_callTy call_int1 (by rfl) z_int (by decide +kernel) (pa_cons (pv 3) pa_nil)) (pe_callB call_len_seq (by rfl) z_len PySem.boot_len (pa_cons (pe_ix ix_list (pv 0) pe_int (fun _ _ => rfl)) pa_nil))) (fun _ _ => rfl))))
 pss_nil)
 (pss_cons (ps_if (PW.pt (pw_and (pt_cmpR op_lt (pv 3) (pe_callB call_len_seq (by rfl) z_len PySem.boot_len (pa_cons (pe_ix ix_list (pv 0) pe_int (fun _ _ => rfl)) pa_nil)) (nomark _)) (pw_and1 (pt_cmpR op_ge (pe_callB call_abs (by rfl) z_abs (by decide +kernel) (pa_cons (pv 4) pa_nil)) (pe_op op_pow pe_int pe_int) (nomark _)))))
 (pss_cons (ps_set (i := 5) sc_draw.nd rfl (Or.inl rfl) (pe_op op_add (pe_op op_mul pe_int (pe_callB call_abs (by rfl) z_abs (by decide +kernel) (pa_cons (pv 4) pa_nil))) (pe_callTy call_int1 (by rfl) z_int (by decide +kernel) (pa_cons (pe_cmpR op_lt (pv 4) pe_int (nomark _)) pa_nil))))
 (pss_cons (ps_asg (pe_op op_fdivW (pv 5) (pv 1)) (pg_sub (pv 0) pe_int set_list))
 (pss_one (ps_ret (pe_op op_mod (pe_callTy call_int1 (by rfl) z_int (by decide +kernel) (pa_cons (pv 5) pa_nil)) (pv 1))))))
 pss_nil)
 (pss_cons (ps_set (i := 6) sc_draw.nd rfl (Or.inl rfl) (pe_op op_mod (pe_op op_pow (pe_callTy call_int1 (by rfl) z_int (by decide +kernel) (pa_cons (pe_op op_add (pe_op op_add (pe_op op_mod (pe_callTy call_int1 (by rfl) z_int (by decide +kernel) (pa_cons (pv 4) pa_nil)) pe_int) (pe_op op_mul pe_int (pv 3))) pe_int) pa_nil)) pe_int) pe_int))
 (pss_cons (ps_set (i := 6) sc_draw.nd rfl (Or.inl rfl) (pe_op op_mod (pe_op op_pow (pe_callTy call_int1 (by rfl) z_int (by decide +kernel) (pa_cons (pe_op op_add (pe_op op_add (pe_op op_mul (pv 6) (pe_op op_add (pe_op op_mul pe_int (pv 3)) pe_int)) (pe_op op_mul (pe_op op_mul pe_int (pv 3)) (pv 3))) pe_int) pa_nil)) pe_int) pe_int))
 (pss_one (ps_ret (pe_op op_mod (pe_callTy call_int1 (by rfl) z_int (by decide +kernel) (pa_cons (pe_op op_fdivW (pv 6) pe_int) pa_nil)) (pv 1)))))))))))), ?_⟩
    have wd : ∀ i : Int, CDivW i m := fun i => wide_div (b := 64) m0 (by omega) (by decide) (by decide)
    walk_at "rd"
    refine ite_d (fun h => ?_) (fun h => ?_)
    · walk_at "rd"
      refine i_rI (wd _) ?_
      walk_at "rd"
      refine i_setL hp (j := 2) rfl ?_
      walk_at "rd"
      obtain ⟨k, pe⟩ := pen_set (a' := a) (l' := l / m) (n := n + 1) hp hL hz a0 (by omega) (Int.ediv_nonneg l0 (by omega))
      exact q _ _ (Int.emod_nonneg _ (by omega)) (Int.emod_lt_of_pos _ m0) k pe
    · walk_at "rd"
      refine i_setL hp (j := 1) rfl ?_
      obtain ⟨H1, e1, k1, hp1, hL1⟩ := pen_put (a' := a + 1) (l' := l) hp hL
      rw [show ([V.ref L, .int a, .int l].set 1 (.int (a + 1))) = [.ref L, .int (a + 1), .int l] from rfl, e1]
      walk_at "rd"
      refine ⟨Nat.zero_le _, fun r hr => ?_⟩
      obtain ⟨H2, e2, s2, h2⟩ := new_heap (o := .lst []) hr
      rw [e2]
      have hp2 := s2 _ _ hp1
      have hL2 := s2 _ _ hL1
      have k2 : Keep H H2 := k1.trans (Same.keep s2)
      refine ⟨.list (ns.map PyData.int), .list (([] : List Int).map PyData.int), .lst (SqL.of hL2) (dps_ints ns), .lst (SqL.of h2) .nil, shaped_ints ns, shaped_ints [], ?_⟩
      rw [show PyData.eqv (.list (ns.map PyData.int)) (.list (([] : List Int).map PyData.int)) = decide (ns = []) from eqv_ints ns []]
      -- the end of the draw, from the cell on
      have fin : ∀ (l' d : Int), 0 ≤ l' → 0 ≤ d → d < m → Q (.int d) (upd H2 p (.lst [.ref L, .int (a + 1), .int l'])) := fun l' d hl' hd0 hd1 => by
        obtain ⟨k, pe⟩ := pen_set (a' := a + 1) (l' := l') (n := n + 1) hp2 hL2 hz (by omega) (by omega) hl'
        exact q _ _ hd0 hd1 (k2.trans k) pe
      have same : upd H2 p (.lst [.ref L, .int (a + 1), .int l]) = H2 := by
        funext b
        unfold upd
        split
        · rename_i e
          rw [e, hp2]
        · rfl
      have fin0 : ∀ d : Int, 0 ≤ d → d < m → Q (.int d) H2 := fun d h0 h1 => by
        rw [← same]
        exact fin l d l0 h0 h1
      walk_at "rd"
      refine ite_nd (fun hne => ?_) (fun he => ?_)
      · walk_at "rd"
        have hpos : (0 : Int) < ((ns.map V.int).length : Int) := by
          cases ns with
          | nil => exact absurd rfl hne
          | cons x xs => simp
        refine i_rI hpos ?_
        have hlen : ((ns.map V.int).length : Int) = (ns.length : Int) := by rw [List.length_map]
        rw [hlen] at hpos ⊢
        have i0 := Int.emod_nonneg a (b := (ns.length : Int)) (by omega)
        have i1 := Int.emod_lt_of_pos a hpos
        obtain ⟨j, hj⟩ : ∃ j : Nat, a % (ns.length : Int) = (j : Int) := ⟨(a % (ns.length : Int)).toNat, by omega⟩
        rw [hj]
        have hjl : j < ns.length := by omega
        refine i_ixL hL2 (atI_nat (by rw [List.getElem?_map, List.getElem?_eq_getElem hjl]; rfl)) ?_
        generalize ns[j] = c
        walk_at "rd"
        have c0 := Int.emod_nonneg c (b := 2147483549) (by decide)
        have c1 := Int.emod_lt_of_pos c (b := 2147483549) (by decide)
        refine ite_d (fun h1 => ?_) (fun h1 => ?_)
        · walk_at "rd"
          refine ite_d (fun h2 => ?_) (fun h2 => ?_)
          · walk_at "rd"
            refine i_rI (wd _) ?_
            walk_at "rd"
            refine i_setL hp2 (j := 2) rfl ?_
            walk_at "rd"
            refine fin _ _ (Int.ediv_nonneg ?_ (by omega)) (Int.emod_nonneg _ (by omega)) (Int.emod_lt_of_pos _ m0)
            split <;> split <;> omega
          · walk_at "rd"
            refine i_rI ⟨by decide, by decide, by omega⟩ ?_
            walk_at "rd"
            generalize hx : (c % 2147483549 + 62327 * a + 33) ^ (5 : Int).toNat % 2147483579 = x
            have x0 : 0 ≤ x := by rw [← hx]; exact Int.emod_nonneg _ (by decide)
            have x1 : x < 2147483579 := by rw [← hx]; exact Int.emod_lt_of_pos _ (by decide)
            refine i_rI (.inl ⟨by omega, by omega⟩) ?_
            walk_at "rd"
            refine i_rI (.inl ⟨by omega, by omega⟩) ?_
            walk_at "rd"
            have b1 := mul_bd x0 (Int.le_of_lt x1) (b := 2 * a + 55) (B := 20100) (by omega) (by omega)
            have b2 := mul_bd (a := 70001 * a) (A := 70001 * 10001) (by omega) (by omega) a0 (B := 10001) (by omega)
            refine i_rI ⟨by decide, by decide, by omega⟩ ?_
            walk_at "rd"
            refine i_rI (wide_div (b := 8) (by decide) (by decide) (by decide) (by decide)) ?_
            walk_at "rd"
            exact fin0 _ (Int.emod_nonneg _ (by omega)) (Int.emod_lt_of_pos _ m0)
        · refine iteF ?_
          walk_at "rd"
          refine i_rI ⟨by decide, by decide, by omega⟩ ?_
          walk_at "rd"
          generalize hx : (c % 2147483549 + 62327 * a + 33) ^ (5 : Int).toNat % 2147483579 = x
          have x0 : 0 ≤ x := by rw [← hx]; exact Int.emod_nonneg _ (by decide)
          have x1 : x < 2147483579 := by rw [← hx]; exact Int.emod_lt_of_pos _ (by decide)
          refine i_rI (.inl ⟨by omega, by omega⟩) ?_
          walk_at "rd"
          refine i_rI (.inl ⟨by omega, by omega⟩) ?_
          walk_at "rd"
          have b1 := mul_bd x0 (Int.le_of_lt x1) (b := 2 * a + 55) (B := 20100) (by omega) (by omega)
          have b2 := mul_bd (a := 70001 * a) (A := 70001 * 10001) (by omega) (by omega) a0 (B := 10001) (by omega)
          refine i_rI ⟨by decide, by decide, by omega⟩ ?_
          walk_at "rd"
          refine i_rI (wide_div (b := 8) (by decide) (by decide) (by decide) (by decide)) ?_
          walk_at "rd"
          exact fin0 _ (Int.emod_nonneg _ (by omega)) (Int.emod_lt_of_pos _ m0)
      · subst he
        walk_at "rd"
        generalize 52177 * a + 19 = c
        have c0 := Int.emod_nonneg c (b := 2147483549) (by decide)
        have c1 := Int.emod_lt_of_pos c (b := 2147483549) (by decide)
        refine ite_d (fun h1 => ?_) (fun h1 => ?_)
        · walk_at "rd"
          refine ite_d (fun h2 => ?_) (fun h2 => ?_)
          · walk_at "rd"
            refine i_rI (wd _) ?_
            walk_at "rd"
            refine i_setL hp2 (j := 2) rfl ?_
            walk_at "rd"
            refine fin _ _ (Int.ediv_nonneg ?_ (by omega)) (Int.emod_nonneg _ (by omega)) (Int.emod_lt_of_pos _ m0)
            split <;> split <;> omega
          · walk_at "rd"
            refine i_rI ⟨by decide, by decide, by omega⟩ ?_
            walk_at "rd"
            generalize hx : (c % 2147483549 + 62327 * a + 33) ^ (5 : Int).toNat % 2147483579 = x
            have x0 : 0 ≤ x := by rw [← hx]; exact Int.emod_nonneg _ (by decide)
            have x1 : x < 2147483579 := by rw [← hx]; exact Int.emod_lt_of_pos _ (by decide)
            refine i_rI (.inl ⟨by omega, by omega⟩) ?_
            walk_at "rd"
            refine i_rI (.inl ⟨by omega, by omega⟩) ?_
            walk_at "rd"
            have b1 := mul_bd x0 (Int.le_of_lt x1) (b := 2 * a + 55) (B := 20100) (by omega) (by omega)
            have b2 := mul_bd (a := 70001 * a) (A := 70001 * 10001) (by omega) (by omega) a0 (B := 10001) (by omega)
            refine i_rI ⟨by decide, by decide, by omega⟩ ?_
            walk_at "rd"
            refine i_rI (wide_div (b := 8) (by decide) (by decide) (by decide) (by decide)) ?_
            walk_at "rd"
            exact fin0 _ (Int.emod_nonneg _ (by omega)) (Int.emod_lt_of_pos _ m0)
        · refine iteF ?_
          walk_at "rd"
          refine i_rI ⟨by decide, by decide, by omega⟩ ?_
          walk_at "rd"
          generalize hx : (c % 2147483549 + 62327 * a + 33) ^ (5 : Int).toNat % 2147483579 = x
          have x0 : 0 ≤ x := by rw [← hx]; exact Int.emod_nonneg _ (by decide)
          have x1 : x < 2147483579 := by rw [← hx]; exact Int.emod_lt_of_pos _ (by decide)
          refine i_rI (.inl ⟨by omega, by omega⟩) ?_
          walk_at "rd"
          refine i_rI (.inl ⟨by omega, by omega⟩) ?_
          walk_at "rd"
          have b1 := mul_bd x0 (Int.le_of_lt x1) (b := 2 * a + 55) (B := 20100) (by omega) (by omega)
          have b2 := mul_bd (a := 70001 * a) (A := 70001 * 10001) (by omega) (by omega) a0 (B := 10001) (by omega)
          refine i_rI ⟨by decide, by decide, by omega⟩ ?_
          walk_at "rd"
          refine i_rI (wide_div (b := 8) (by decide) (by decide) (by decide) (by decide)) ?_
          walk_at "rd"
          exact fin0 _ (Int.emod_nonneg _ (by omega)) (Int.emod_lt_of_pos _ m0)
end
end Spk

set_option Elab.async false
set_option linter.all false
set_option maxRecDepth 100000
set_option maxHeartbeats 0
namespace Spk
open PySem L2
/-! ### what the top leaves -/
abbrev at1 (x : Str) : PySem.W.Frag → Addr := fun K => He.ga K x
abbrev atM (c m : Str) : PySem.W.Frag → Addr := fun K => He.ma K (He.ga K c) m
abbrev atC (c m : Str) : PySem.W.Frag → Addr := fun K => He5.wf K (He.ga K c) "classmethod" m
abbrev atP (c m : Str) : PySem.W.Frag → Addr := fun K => He5.wf K (He.ga K c) "property" m
/-- where a keyword's value stands -/
def kwA (K : PySem.W.Frag) (f : Addr) (x : Str) : Addr := match K.lookup f with
  | some o => (match o.data with
    | .func fd => (match fd.kwdefaults with
      | .ref D => (match PySem.W.nsIn K D x with
        | some (some (.ref a)) => a
        | _ => 0)
      | _ => 0)
    | _ => 0)
  | none => 0
def kwa (x : Str) : PySem.W.Frag → Addr := fun K => kwA K (He5.wf K (He.ga K "Table") "classmethod" "of") x
def dfk (a : PySem.W.Frag → Addr) (x q : Str) (st : Stmt) : He5.DefA := ⟨a, x, q, defArgs st, defBody st, defScope st, [], [("fixed", .adr (kwa "fixed")), ("unique", .adr (kwa "unique")), ("reuse", .bl true)]⟩
def kwi (x : Str) : PySem.W.Frag → Addr := fun K => kwA K (He.ma K (He.ga K "Table") "__init__") x
def dfi (a : PySem.W.Frag → Addr) (x q : Str) (st : Stmt) : He5.DefA := ⟨a, x, q, defArgs st, defBody st, defScope st, [], [("fixed", .adr (kwi "fixed")), ("unique", .adr (kwi "unique")), ("reuse", .bl true)]⟩
def dfn (a : PySem.W.Frag → Addr) (x q : Str) (st : Stmt) : He5.DefA := ⟨a, x, q, defArgs st, defBody st, defScope st, [], []⟩
def defs : List He5.DefA := [dfn (at1 "start_of") "start_of" "start_of" (top 7),
  dfn (at1 "joined") "joined" "joined" (top 8),
  dfn (at1 "touches") "touches" "touches" (top 9),
  dfn (at1 "later_end") "later_end" "later_end" (top 10),
  dfn (at1 "gaps") "gaps" "gaps" (top 11),
  dfn (at1 "in_parts") "in_parts" "in_parts" (top 12),
  dfn (at1 "all_columns") "all_columns" "all_columns" (top 15),
  dfn (at1 "truth_of") "truth_of" "truth_of" (top 16),
  dfn (at1 "truth_within") "truth_within" "truth_within" (top 17),
  dfn (at1 "both") "both" "both" (top 18),
  dfn (at1 "either") "either" "either" (top 19),
  dfn (at1 "negated") "negated" "negated" (top 20),
  dfn (at1 "is_number") "is_number" "is_number" (top 22),
  dfn (at1 "is_value") "is_value" "is_value" (top 23),
  dfn (at1 "is_name") "is_name" "is_name" (top 24),
  dfn (at1 "are_names") "are_names" "are_names" (top 25),
  dfn (at1 "is_key") "is_key" "is_key" (top 26),
  dfn (at1 "are_chosen") "are_chosen" "are_chosen" (top 31),
  dfn (at1 "in_order_of") "in_order_of" "in_order_of" (top 32),
  dfn (at1 "rows_by_key") "rows_by_key" "rows_by_key" (top 33),
  dfn (at1 "unique_places") "unique_places" "unique_places" (top 34),
  dfn (at1 "why_not") "why_not" "why_not" (top 35),
  dfn (at1 "why_not_inserted") "why_not_inserted" "why_not_inserted" (top 36),
  dfn (at1 "why_not_updated") "why_not_updated" "why_not_updated" (top 37),
  dfn (at1 "is_taken") "is_taken" "is_taken" (top 38),
  dfn (at1 "_law_pen") "_law_pen" "_law_pen" (top 40),
  dfn (at1 "_law_draw") "_law_draw" "_law_draw" (top 41),
  dfn (at1 "_law_ranges") "_law_ranges" "_law_ranges" (top 42),
  dfn (at1 "_law_leaf") "_law_leaf" "_law_leaf" (top 43),
  dfn (at1 "_law_set_of") "_law_set_of" "_law_set_of" (top 44),
  dfn (at1 "_law_numbered") "_law_numbered" "_law_numbered" (top 45),
  dfn (at1 "_law_call") "_law_call" "_law_call" (top 46),
  dfn (at1 "_law_condition") "_law_condition" "_law_condition" (top 47),
  dfn (at1 "_law_grown") "_law_grown" "_law_grown" (top 48),
  dfn (at1 "_law_row") "_law_row" "_law_row" (top 49),
  dfn (at1 "_law_both") "_law_both" "_law_both" (top 50),
  dfn (at1 "law") "law" "law" (top 51),
  dfn (atM "InvalidTable" "__init__") "__init__" "InvalidTable.__init__" (inClass (top 3) 0),
  dfn (atM "InvalidChange" "__init__") "__init__" "InvalidChange.__init__" (inClass (top 4) 0),
  dfn (atM "Ranges" "__init__") "__init__" "Ranges.__init__" (inClass (top 6) 0),
  dfn (atM "Ranges" "__or__") "__or__" "Ranges.__or__" (inClass (top 6) 5),
  dfn (atM "Ranges" "__sub__") "__sub__" "Ranges.__sub__" (inClass (top 6) 7),
  dfn (atM "Filter" "__init__") "__init__" "Filter.__init__" (inClass (top 14) 0),
  dfn (atM "Filter" "__and__") "__and__" "Filter.__and__" (inClass (top 14) 5),
  dfn (atM "Filter" "__or__") "__or__" "Filter.__or__" (inClass (top 14) 6),
  dfn (atM "Filter" "__invert__") "__invert__" "Filter.__invert__" (inClass (top 14) 7),
  dfi (atM "Table" "__init__") "__init__" "Table.__init__" (inClass (top 29) 1),
  dfn (atM "Table" "is_row") "is_row" "Table.is_row" (inClass (top 29) 3),
  dfn (atM "Table" "key_of") "key_of" "Table.key_of" (inClass (top 29) 4),
  dfn (atM "Table" "cut") "cut" "Table.cut" (inClass (top 29) 5),
  dfn (atM "Truth" "__init__") "__init__" "Truth.__init__" (inClass (top 30) 0),
  dfn (atM "Truth" "insert") "insert" "Truth.insert" (inClass (top 30) 1),
  dfn (atM "Truth" "update") "update" "Truth.update" (inClass (top 30) 2),
  dfn (atM "Truth" "delete") "delete" "Truth.delete" (inClass (top 30) 3),
  dfn (atM "Truth" "change") "change" "Truth.change" (inClass (top 30) 4),
  dfn (atM "Truth" "write") "write" "Truth.write" (inClass (top 30) 5),
  dfn (atP "Truth" "rows") "rows" "Truth.rows" (inClass (top 30) 6),
  dfn (atP "Truth" "stamp") "stamp" "Truth.stamp" (inClass (top 30) 7),
  dfn (atM "Truth" "row_of") "row_of" "Truth.row_of" (inClass (top 30) 8),
  dfn (atM "Truth" "stamp_of") "stamp_of" "Truth.stamp_of" (inClass (top 30) 9),
  dfn (atM "Truth" "__len__") "__len__" "Truth.__len__" (inClass (top 30) 11),
  dfn (atM "Truth" "__contains__") "__contains__" "Truth.__contains__" (inClass (top 30) 12),
  dfn (atC "Ranges" "of") "of" "Ranges.of" (inClass (top 6) 1),
  dfn (atC "Ranges" "between") "between" "Ranges.between" (inClass (top 6) 2),
  dfn (atC "Ranges" "full") "full" "Ranges.full" (inClass (top 6) 3),
  dfn (atC "Ranges" "empty") "empty" "Ranges.empty" (inClass (top 6) 4),
  dfn (atC "Filter" "within") "within" "Filter.within" (inClass (top 14) 1),
  dfn (atC "Filter" "missing") "missing" "Filter.missing" (inClass (top 14) 2),
  dfn (atC "Filter" "always") "always" "Filter.always" (inClass (top 14) 3),
  dfn (atC "Filter" "never") "never" "Filter.never" (inClass (top 14) 4)]
def names : List Str := "start_of" :: "joined" :: "touches" :: "later_end" :: "gaps" :: "in_parts" :: "all_columns" :: "truth_of" :: "truth_within" :: "both" :: "either" :: "negated" :: "is_number" :: "is_value" :: "is_name" :: "are_names" :: "is_key" :: "are_chosen" :: "in_order_of" :: "rows_by_key" :: "unique_places" :: "why_not" :: "why_not_inserted" :: "why_not_updated" :: "is_taken" :: "_law_pen" :: "_law_draw" :: "_law_ranges" :: "_law_leaf" :: "_law_set_of" :: "_law_numbered" :: "_law_call" :: "_law_condition" :: "_law_grown" :: "_law_row" :: "_law_both" :: "law" :: "InvalidTable" :: "InvalidChange" :: "FeedError" :: "Ranges" :: "Filter" :: "Truth" :: "Table" :: []
def kits : List Str := ["abs", "all", "any", "bool", "dict", "int", "isinstance", "len", "list", "max", "min", "range", "set", "sorted", "str", "tuple", "zip"]
def plain : List He.Fa := names.map He.Fa.glo ++ (kits.map He.Fa.free ++ [.cls "Table", .noat "Table" "columns", .noat "Table" "key", .noat "Table" "fixed", .noat "Table" "unique", .noat "Table" "reuse", .mkr "Table", .meth "Table" "is_row", .meth "Table" "key_of", .meth "Table" "cut", .cls "Ranges", .noat "Ranges" "parts", .mkr "Ranges", .meth "Ranges" "__eq__", .meth "Ranges" "__or__", .meth "Ranges" "__and__", .meth "Ranges" "__sub__", .cls "Filter", .noat "Filter" "tree", .noat "Filter" "columns", .mkr "Filter", .meth "Filter" "__and__", .meth "Filter" "__or__", .meth "Filter" "__invert__", .cls "Truth", .noat "Truth" "table", .noat "Truth" "region", .noat "Truth" "kept", .noat "Truth" "owners", .noat "Truth" "stamps", .noat "Truth" "changes", .mkr "Truth", .meth "Truth" "insert", .meth "Truth" "update", .meth "Truth" "delete", .meth "Truth" "change", .meth "Truth" "write", .meth "Truth" "row_of", .meth "Truth" "stamp_of", .meth "Truth" "__len__", .meth "Truth" "__contains__"])
def emptyB (K : PySem.W.Frag) (a : Addr) : Bool := match K.lookup a with
  | some o => o.cls == .type "tuple" && (match o.data with | .seq its _ => its.size == 0 | _ => false)
  | none => false
def mostB (K : PySem.W.Frag) (C : Addr) : Bool := match PySem.W.findCls K (.ref C) (.type "type") "MOST_COLUMNS" with
  | some (.val (.int i _)) => decide (i = 4)
  | _ => false
def six : List String := ["NoneType", "bool", "int", "str", "list", "tuple"]
/-- what else is told of the class -/
def eqB (K : PySem.W.Frag) (C : Addr) : Bool :=
  (decide (PySem.W.findIn K (.ref C) "__ne__" = some (some (.builtin "object.__ne__"))) && (decide (PySem.W.subIn K (.ref C) (.type "object") = some true) && ((six.all fun t => decide (PySem.W.subIn K (.ref C) (.type t) = some false)) &&
  ((six.all fun t => decide (PySem.W.kitOne K (.type t) (.ref C) = some false)) && ((six.all fun t => PySem.W.notFirst K C (.type t)) && (decide (PySem.W.findIn K (.ref C) "__class__" = some (some (.builtin "object.__class__"))) &&
  (decide (PySem.W.specialIn K (.builtin "object.__class__") "__get__" = some (some (.builtin "getset_descriptor.__get__"))) && (decide (PySem.W.takesIn K (.builtin "object.__class__") = some true) && (decide (PySem.W.mroIn K C (.type "object") = some true) &&
  decide (PySem.W.kitOne K (.ref C) (.ref C) = some true))))))))))
def excObjB (C : Addr) (o : Obj) : Bool := o.cls == .type "type" && (match o.data with
  | .cls c => (match c.mro with | r :: bm => r == .ref C && PySem.HandSPX.refsVE bm | [] => false) && (c.hasDict && !c.hasDel)
  | _ => false) && (match o.slots.toList with
  | [_, _, _, _, some (.builtin n), _] => n == "ValueError.__new__"
  | _ => false)
/-- what is told of the error -/
def errB (K : PySem.W.Frag) (C E : Addr) : Bool :=
  (match K.lookup C with | some o => excObjB C o | none => false) && (decide (PySem.W.findIn K (.ref C) "__setattr__" = some (some (.builtin "object.__setattr__"))) && (decide (PySem.W.subIn K (.ref C) (.type "BaseException") = some true) &&
  (decide (PySem.W.typeIn K (.ref C) = some (.type "type")) && (PySem.W.keepIn K (.ref C) && (decide (PySem.W.findIn K (.ref C) "__init__" = some (some (.ref (He.ma K C "__init__")))) && (decide (PySem.W.typeIn K (.ref (He.ma K C "__init__")) = some (.type "function")) &&
  (decide (PySem.W.findIn K (.ref C) "reason" = some none) && (xfB K C && ((PySem.W.clsIn K C).isSome && (decide (PySem.W.findIn K (.ref C) "__class__" = some (some (.builtin "object.__class__"))) && (decide (PySem.W.mroIn K C (.type "object") = some true) &&
  (decide (PySem.W.kitOne K (.ref C) (.ref C) = some true) && decide (PySem.W.exmOne K (.ref C) (.ref E) = some true)))))))))))))
/-- a class's classmethods -/
def clmB (K : PySem.W.Frag) (C : Addr) (ms : List Str) : Bool := PySem.W.readsIn K C (.type "type") && (decide (PySem.W.specialIn K (.ref C) "__getattribute__" = some (some (.builtin "type.__getattribute__"))) && ms.all fun m => He5.wrapB K C "classmethod" "classmethod.__get__" m && PySem.W.fnIn K (He5.wf K C "classmethod" m))
/-- a property -/
def propB (K : PySem.W.Frag) (C : Addr) (m : Str) : Bool := decide (PySem.W.findIn K (.ref C) m = some (some (.ref (He.ma K C m)))) && (decide (PySem.W.specialIn K (.ref (He.ma K C m)) "__get__" = some (some (.builtin "property.__get__"))) && (decide (PySem.W.takesIn K (.ref (He.ma K C m)) = some true) &&
  (match PySem.W.recIn K (He.ma K C m) "property" with | some (.ref _ :: _) => true | _ => false)))
/-- what else is told of the classes -/
def moreB (K : PySem.W.Frag) : Bool :=
  errB K (He.ga K "InvalidTable") (He.ga K "FeedError") && (errB K (He.ga K "InvalidChange") (He.ga K "FeedError") && (mostB K (He.ga K "Table") && (emptyB K (kwi "fixed" K) && (emptyB K (kwi "unique" K) && (clmB K (He.ga K "Table") ["of"] && (clmB K (He.ga K "Ranges") ["between", "of", "full", "empty"] && (clmB K (He.ga K "Filter") ["within", "missing", "always", "never"] && (eqB K (He.ga K "Ranges") && (PySem.W.selfFirst K (He.ga K "Ranges") && (PySem.W.selfFirst K (He.ga K "Filter") && (propB K (He.ga K "Truth") "rows" && (propB K (He.ga K "Truth") "stamp"))))))))))))
/-- where to look: what the names reach in n steps, and what stands behind the classes' functions -/
def seeds : List (Str × Str) := ("Table", "__init__") :: ("Table", "is_row") :: ("Table", "key_of") :: ("Table", "cut") :: ("Table", "of") :: ("Ranges", "__init__") :: ("Ranges", "__or__") :: ("Ranges", "__sub__") :: ("Ranges", "between") :: ("Ranges", "of") :: ("Ranges", "full") :: ("Ranges", "empty") :: ("Filter", "__init__") :: ("Filter", "__and__") :: ("Filter", "__or__") :: ("Filter", "__invert__") :: ("Filter", "within") :: ("Filter", "missing") :: ("Filter", "always") :: ("Filter", "never") :: ("Truth", "__init__") :: ("Truth", "insert") :: ("Truth", "update") :: ("Truth", "delete") :: ("Truth", "change") :: ("Truth", "write") :: ("Truth", "row_of") :: ("Truth", "stamp_of") :: ("Truth", "__len__") :: ("Truth", "__contains__") :: ("Truth", "rows") :: ("Truth", "stamp") :: ("InvalidTable", "__init__") :: ("InvalidChange", "__init__") :: []
def asX (g : Addr → Option Obj) (n : Nat) : List Addr := He5.asA g n ++ He.growD g (He.growD g (He.growD g (seeds.map fun x => He.ma (He.frG g (He5.asA g n)) (He.ga (He.frG g (He5.asA g n)) x.1) x.2)))
abbrev Seen : Type := Bool × He.AlD
def seenAt (n : Nat) (g : Addr → Option Obj) : Seen := (moreB (He.frG g (asX g n)), He5.obsA plain defs (He.frG g (asX g n)))
def ToldX (K : PySem.W.Frag) : Prop := moreB K = true ∧ He5.SaysA plain defs K
def hook (n : Nat) : PySem.W.Hook where
  α := Seen
  obs := fun s => seenAt n s.heap.get?
  val := fun _ => (true, He5.valA defs)
  says := fun _ h => ∃ K : PySem.W.Frag, K.In h ∧ ToldX K
  of := fun _ _ e => ⟨_, He.frG_in, congrArg Prod.fst e, congrArg Prod.snd e⟩
  keeps := fun _ _ _ ⟨K, hK, c⟩ k => ⟨K, PySem.W.Frag.In.keeps hK k, c⟩
abbrev Rw : PySem.W.OpenRow := PySem.W.OpenLaw.row PySem.Challenge.rw_speaklast_k13_regions_of_homes
abbrev hk : PySem.W.Hook := hook 3
def obT (s : PySem.W.SharedT) : Seen := seenAt 3 (HandSHeadRun.getT s)
theorem obT_eq (s : PySem.W.SharedT) : obT s = hk.obs s.abs := by
  have e : HandSHeadRun.getT s = s.abs.heap.get? := funext (HandSHeadRun.getT_eq s)
  unfold obT
  rw [e]
  rfl
def loose : List Str := "_wall" :: "FeedError" :: "InvalidTable" :: "InvalidChange" :: "Ranges" :: "start_of" :: "joined" :: "touches" :: "later_end" :: "gaps" :: "in_parts" :: "Filter" :: "all_columns" :: "truth_of" :: "truth_within" :: "both" :: "either" :: "negated" :: "is_number" :: "is_value" :: "is_name" :: "are_names" :: "is_key" :: "sequence_of" :: "Table" :: "Truth" :: "are_chosen" :: "in_order_of" :: "rows_by_key" :: "unique_places" :: "why_not" :: "why_not_inserted" :: "why_not_updated" :: "is_taken" :: "_law_pen" :: "_law_draw" :: "_law_ranges" :: "_law_leaf" :: "_law_set_of" :: "_law_numbered" :: "_law_call" :: "_law_condition" :: "_law_grown" :: "_law_row" :: "_law_both" :: []
theorem pair_map {σ A B C E : Type} {o : Option σ} {f : σ → A} {g : σ → B} {h1 : σ → C} {h2 : σ → E} {a : A} {b : B} {c : C} {d : E} (e1 : o.map (fun s => (f s, g s, h1 s)) = some (a, b, c)) (e2 : o.map h2 = some d) : o.map (fun s => (f s, g s, (h1 s, h2 s))) = some (a, b, (c, d)) := by
  cases o with
  | none => cases e1
  | some s =>
    simp only [Option.map_some, Option.some.injEq, Prod.mk.injEq] at e1 e2 ⊢
    exact ⟨e1.1, e1.2.1, e1.2.2, e2⟩
open PySem.W HandSHeadRun PyProof.Rows in
/-- the run, and what is told of the classes -/
theorem runs1 (w : World) (os : OsState) : (endF (stepQ (denQ tabQ) Rw.prog w) 6000 Rw.prog w os).map (fun s => (looksF Rw.prog (boot_heap w.params) s.abs, seenQ (PySem.W.view Rw.prog [51]) loose (importedModules Rw.prog.main.body) (fun s => xlAt (PySem.W.view Rw.prog [51]) [] s && recOk Rw.toRowW.records s) s.abs, moreB (He.frG (getT s) (asX (getT s) 3)))) = some (true, openGood (PySem.W.view Rw.prog [51]) loose, true) := by
  kernel_rfl
open PySem.W HandSHeadRun PyProof.Rows in
/-- the run, and what is told of the names and defs -/
theorem runs2 (w : World) (os : OsState) : (endF (stepQ (denQ tabQ) Rw.prog w) 6000 Rw.prog w os).map (fun s => He5.obsA plain defs (He.frG (getT s) (asX (getT s) 3))) = some (He5.valA defs) := by
  kernel_rfl
theorem runs (w : World) : HandSHeadRun.RunEq Rw (PySem.W.view Rw.prog [51]) hk obT 6000 loose w := fun os => pair_map (runs1 w os) (runs2 w os)
end Spk

set_option Elab.async false
set_option linter.all false
set_option maxRecDepth 100000
set_option maxHeartbeats 1000000
namespace Spk
open PySem L2
local macro_rules | `(tactic| walk_at "rd") => `(tactic| repeat (first
  | with_reducible refine i_seq ?_ | with_reducible refine i_asg ?_ | with_reducible refine i_ret ?_ | with_reducible refine i_ifS ?_ | with_reducible refine i_if ?_
  | with_reducible refine i_for ?_ | with_reducible refine i_iL ?_ | with_reducible refine i_iT ?_ | with_reducible refine i_ckw ?_ | with_reducible refine i_cm ?_ | with_reducible refine And.intro (rfl : V.ref _ = V.ref _) ?_ | with_reducible refine i_rng1 ?_ | with_reducible refine i_bm ?_ | with_reducible refine i_bm0 ?_
  | with_reducible refine i_drop ?_ | with_reducible refine i_next ?_
  | with_reducible refine i_var rfl ?_ | with_reducible refine i_c ?_ | with_reducible refine i_op ?_ | with_reducible refine i_un ?_ | with_reducible refine i_name ?_
  | with_reducible refine i_rI0 ?_ | with_reducible refine i_rU ?_ | with_reducible refine i_rEq rfl ?_ | with_reducible refine i_rNe rfl ?_
  | with_reducible refine i_test ?_ | with_reducible refine i_tB ?_ | with_reducible refine i_and ?_ | with_reducible refine i_or ?_ | with_reducible refine i_not ?_
  | with_reducible refine i_andV ?_ | with_reducible refine i_orV ?_ | with_reducible refine i_notV ?_
  | with_reducible refine i_cons ?_ | with_reducible refine i_nil ?_ | with_reducible refine i_cb ?_ | with_reducible refine i_call ?_ | with_reducible refine i_bl ?_
  | with_reducible refine i_tup ?_ | with_reducible refine i_lst ?_ | with_reducible refine i_par ?_ | with_reducible refine i_gcons ?_ | with_reducible refine i_gnil ?_
  | with_reducible refine And.intro (rfl : V.non = V.non) ?_ | with_reducible refine i_ixT (by assumption) rfl ?_ | with_reducible refine i_ixL (by assumption) rfl ?_ | with_reducible refine i_gtup (by assumption) rfl ?_
  | with_reducible refine i_gsub ?_
  | with_reducible refine Or.inl (Exists.intro _ (And.intro (rfl : [V.int _] = [V.int _]) ?_)) | with_reducible refine Exists.intro _ (And.intro (rfl : [V.int _] = [V.int _]) ?_)
  | with_reducible refine Or.inr (Exists.intro _ (And.intro (rfl : [V.bl _] = [V.bl _]) ?_))
  | with_reducible refine Exists.intro _ (Exists.intro _ (And.intro (rfl : [V.int _, V.int _] = [V.int _, V.int _]) ?_))
  | with_reducible refine Exists.intro _ (Exists.intro _ (And.intro (rfl : [V.ref _] = [V.ref _]) (And.intro (Or.inl (SqL.of (by assumption))) ?_)))
  | with_reducible refine i_rI (show (0 : Int) < _ by assumption) ?_ | with_reducible refine i_rI (show (0 : Int) < _ by decide) ?_
  | with_reducible refine i_rI (pow_ok (Nat.le_of_ble_eq_true rfl) (Nat.le_of_ble_eq_true rfl)) ?_
  | with_reducible refine i_rI (cmulL rfl) ?_))
theorem i_chain {r r' : R2} {ta tb tc : TE} {σ : L2.St} {H : Hp} {Q : VK} (h : ta σ H fun x H1 => tb σ H1 fun y H2 => r x y H2 fun z H3 => ∃ k, z = V.bl k ∧ if k = true then tc σ H3 fun w' H4 => r' y w' H4 Q else Q (V.bl false) H3) : tChain r r' ta tb tc σ H Q := h
theorem i_iS {te : TE} {σ : L2.St} {H : Hp} {R : It → Hp → Prop} (h : te σ H fun v H1 => ∃ x, v = V.str x ∧ R (Its x) H1) : iStr te σ H R := h
theorem ty_up {K : PySem.W.Frag} {H H' : Hp} {x : V} {t : Value} (e : Same H H') (h : TyX K H x t) : TyX K H' x t := by
  cases h with
  | base h =>
    refine .base ?_
    cases h with
    | non => exact .non
    | bl x => exact .bl x
    | int x => exact .int x
    | str x => exact .str x
    | flt x => exact .flt x
    | lst h => exact .lst (e _ _ h)
    | frz h => exact .frz (e _ _ h)
    | tup h => exact .tup (e _ _ h)
    | dK h => exact .dK (e _ _ h)
    | dT h => exact .dT (e _ _ h)
    | ins h a b c d f => exact .ins (e _ _ h) a b c d f
  | byt b => exact .byt b
  | set h => exact .set (e _ _ h)
  | kList h h2 => exact .kList h h2
  | kTuple h h2 => exact .kTuple h h2
  | kDict h h2 => exact .kDict h h2
  | fTuple h => exact .fTuple (e _ _ h)
  | fDict h => exact .fDict (e _ _ h)
/-! ### names -/
def okc (c : Nat) : Bool := decide (97 ≤ c ∧ c ≤ 122)
def nameB (z : Str) : Bool := decide (1 ≤ z.length) && (decide (z.length ≤ 8) && z.cps.toList.all okc)
/-- no text -/
def NoStr (K : PySem.W.Frag) (H : Hp) (y : V) : Prop := ∃ t, TyX K H y t ∧ PySem.W.kitOne K t (.type "str") = some false
/-- what is_name says of it -/
def NmV (K : PySem.W.Frag) (H : Hp) (y : V) (k : Bool) : Prop := (∃ z, y = .str z ∧ z.length ≤ 100 ∧ k = nameB z) ∨ (NoStr K H y ∧ k = false)
theorem NmV.up {K : PySem.W.Frag} {H H' : Hp} {y : V} {k : Bool} (e : Same H H') (h : NmV K H y k) : NmV K H' y k := by
  rcases h with h | ⟨⟨t, ty, o⟩, h⟩
  · exact .inl h
  · exact .inr ⟨⟨t, ty_up e ty, o⟩, h⟩
theorem lt_ch {a b : Nat} : (!decide ([b] < [a])) = decide (a ≤ b) := by
  rw [Bool.eq_iff_iff, Bool.not_eq_true', decide_eq_false_iff_not, decide_eq_true_eq]
  constructor
  · intro h
    refine Nat.le_of_not_lt fun q => h (List.cons_lt_cons_iff.mpr (.inl q))
  · intro h q
    rcases List.cons_lt_cons_iff.mp q with q | ⟨_, q⟩
    · omega
    · exact absurd q (List.lt_irrefl _)
theorem chars_a : ("a" : Str).cps.toList = [97] := rfl
theorem chars_z : ("z" : Str).cps.toList = [122] := rfl
theorem take_snoc {α : Type} {ts : List α} {i : Nat} {t : α} (h : ts[i]? = some t) : ts.take (i + 1) = ts.take i ++ [t] := by
  rw [List.take_add_one, h]
  rfl
theorem pair_at {α β : Type} {R : α → β → Prop} : ∀ {xs : List α} {ys : List β}, Paired R xs ys → ∀ {i : Nat} {x : α}, xs[i]? = some x → ∃ y, ys[i]? = some y ∧ R x y
  | _, _, .nil, i, x, h => by simp at h
  | _, _, .cons r t, 0, x, h => by
    cases h
    exact ⟨_, rfl, r⟩
  | _, _, .cons r t, i + 1, x, h => pair_at t (i := i) h
theorem onceTx_nd : ∀ (xs l : List Str), l.Nodup → (onceTx l xs).Nodup
  | [], _, h => h
  | x :: xs, l, h => by
    show (onceTx (withTx l x) xs).Nodup
    refine onceTx_nd xs _ ?_
    unfold withTx
    split
    · exact h
    · rename_i hx
      exact List.nodup_cons.mpr ⟨hx, h⟩
theorem onceTx_iff (cs : List Str) : (onceTx [] cs).length = cs.length ↔ cs.Nodup := by
  constructor
  · intro h
    have pm := perm_of_nodup (onceTx [] cs) cs (onceTx_nd cs [] List.nodup_nil) (fun x hx => ((onceTx_mem cs [] x).mp hx).elim id fun z => absurd z List.not_mem_nil) (Nat.le_of_eq h.symm)
    exact pm.nodup_iff.mpr (onceTx_nd cs [] List.nodup_nil)
  · intro h
    have e := onceTx_nodup cs [] (by simpa using h)
    simpa using e
theorem onceTx_le (cs : List Str) : (onceTx [] cs).length ≤ cs.length := by
  have := onceTx_len cs []
  simpa using this
section
variable {P : Program} {w : World} {K : PySem.W.Frag} {mg : Str → Option Value} {base : Heap}
abbrev s_is_name : Stmt := top 24
theorem sc_is_name : FnScope ["thing", "sign"] ["thing"] (defScope s_is_name) := ⟨rfl, rfl, rfl, by decide +kernel, rfl, by decide +kernel, by decide +kernel⟩
def sp_is_name (K : PySem.W.Frag) : Sp := fun vs H Q _ => ∃ y k, vs = [y] ∧ NmV K H y k ∧ ∀ H', Same H H' → Q (.bl k) H'
theorem ok_is_name {f : Addr} {fd : FuncData} (F : Fun K "is_name" "is_name" s_is_name f fd) (z_isinstance : mg "isinstance" = none) (z_str : mg "str" = none) (z_len : mg "len" = none) (z_all : mg "all" = none) : FnOk P w K mg base CX0 1 f fd ["thing"] (sp_is_name K) := by
  refine F.ok sc_is_name (fun vs H Q E h => ?_) (fun cdv A outer s H vs Q E hr h => ?_)
  · obtain ⟨y, k, rfl, _⟩ := h
    rfl
  · obtain ⟨y, k, rfl, h, q⟩ := h
    refine ⟨_, (pss_one (ps_ret (pe_and (pe_callB call_isi (by rfl) z_isinstance (by decide +kernel) (pa_cons (pv 0) (pa_cons (pe_bltn (v := .ty "str") (u := .type "str") (by rfl) z_str (by decide +kernel) rfl) pa_nil))) (pe_and (pe_chain op_le op_le pe_int (pe_callB call_len_str (by rfl) z_len PySem.boot_len (pa_cons (pv 0) pa_nil)) pe_int) (pe_one (pe_callB (cr_all rfl) (by rfl) z_all (by decide +kernel) (pa_cons (pe_lc (own := [("sign", 1)]) (g := gName 1) (tt := tYes) rfl sc_is_name.nd (pi_str (pv 0)) (blkOk_by (own := [("sign", 1)]) (N := ["thing", "sign"]) (sc := defScope s_is_name) (by decide +kernel)) (fun _ _ _ _ _ => pg_name (i := 1) sc_is_name.nd rfl (Or.inl rfl)) (fun _ _ _ _ _ => pts_nil) (fun _ _ _ _ _ => (pe_chain op_le_str op_le_str pe_str (pv 1) pe_str))) pa_nil))))))), ?_⟩
    walk_at "rd"
    rcases h with ⟨z, rfl, hz, rfl⟩ | ⟨⟨t, ty, o⟩, rfl⟩
    · refine ⟨_, _, _, _, true, rfl, .ty "str", .base (.str z), kit_ty (by decide +kernel), true, rfl, iteT ?_⟩
      walk_at "rd"
      refine i_chain ?_
      walk_at "rd"
      refine ⟨z, rfl, size_of (by omega), ?_⟩
      walk_at "rd"
      have q' := q
      unfold nameB at q'
      by_cases h1 : 1 ≤ z.length
      · rw [decide_eq_true (show (1 : Int) ≤ (z.length : Int) by omega)]
        rw [decide_eq_true h1, Bool.true_and] at q'
        refine iteT ?_
        walk_at "rd"
        by_cases h8 : z.length ≤ 8
        · rw [decide_eq_true (show (z.length : Int) ≤ 8 by omega)]
          rw [decide_eq_true h8, Bool.true_and] at q'
          refine iteT ?_
          walk_at "rd"
          unfold tLc
          refine i_iS ?_
          walk_at "rd"
          refine ⟨z, rfl, fun D hD => ?_⟩
          obtain ⟨H1, e1, s1, hd⟩ := new_heap (o := .lst []) hD
          refine lc_it walk_str (fun i H' => Same H H' ∧ H' D = some (.lst (((z.cps.toList.map okc).take i).map V.bl))) ⟨by rw [e1]; exact s1, by rw [e1]; exact hd⟩ (fun _ _ _ _ => trivial) ?_ ?_
          · rintro i x H2 H' hi ⟨s2, h2⟩ ⟨rfl, c, hc', rfl⟩
            have hm : z.cps.toList[i]? = some c := by rw [Array.getElem?_toList]; exact hc'
            have hm2 : (z.cps.toList.map okc)[i]? = some (okc c) := by rw [List.getElem?_map, hm]; rfl
            have fin : ∀ k, k = okc c → ∃ acc, H' D = some (HO.lst acc) ∧ acc.length < sizeLine ∧ Same H (upd H' D (HO.lst (acc ++ [V.bl k]))) ∧ (upd H' D (HO.lst (acc ++ [V.bl k]))) D = some (.lst (((z.cps.toList.map okc).take (i + 1)).map V.bl)) := by
              intro k ek
              refine ⟨_, h2, size_lt ?_, Same.mut s2 hD, ?_⟩
              · rw [List.length_map, List.length_take, List.length_map]
                have : z.cps.toList.length = z.length := by simp [Str.length]
                omega
              · rw [upd_same, take_snoc hm2, List.map_append, ek]
                rfl
            walk_at "rd"
            refine ⟨rfl, i_yes (iteT ?_)⟩
            refine i_chain ?_
            walk_at "rd"
            refine ⟨_, _, rfl, rfl, ?_⟩
            rw [chars_a, show (Str.mk #[c]).cps.toList = [c] from rfl, lt_ch]
            refine ⟨_, rfl, ite_d (fun ha => ?_) (fun ha => ?_)⟩
            · walk_at "rd"
              refine ⟨_, _, rfl, rfl, ?_⟩
              rw [chars_z, show (Str.mk #[c]).cps.toList = [c] from rfl, lt_ch]
              refine fin _ ?_
              unfold okc
              rw [decide_eq_decide]
              exact ⟨fun z => ⟨ha, z⟩, fun z => z.2⟩
            · refine fin false ?_
              unfold okc
              rw [eq_comm, decide_eq_false_iff_not]
              exact fun z => ha z.1
          · rintro H' ⟨s2, h2⟩
            have e : (z.cps.toList.map okc).take z.cps.size = z.cps.toList.map okc := List.take_of_length_le (by simp)
            rw [e] at h2
            walk_at "rd"
            refine ⟨D, z.cps.toList.map okc, rfl, SqL.of h2, ?_⟩
            rw [List.all_map]
            exact q' H' s2
        · rw [decide_eq_false (show ¬ (z.length : Int) ≤ 8 by omega)]
          rw [decide_eq_false h8, Bool.false_and] at q'
          exact iteF (q' H (Same.refl H))
      · rw [decide_eq_false (show ¬ (1 : Int) ≤ (z.length : Int) by omega)]
        rw [decide_eq_false h1, Bool.false_and] at q'
        refine iteF ?_
        exact ⟨false, rfl, iteF (q' H (Same.refl H))⟩
    · exact ⟨_, _, _, _, false, rfl, .ty "str", ty, o, false, rfl, iteF (q H (Same.refl H))⟩
end
end Spk

set_option Elab.async false
set_option linter.all false
set_option maxRecDepth 100000
set_option maxHeartbeats 1000000
namespace Spk
open PySem L2
local macro_rules | `(tactic| walk_at "rd") => `(tactic| repeat (first
  | with_reducible refine i_seq ?_ | with_reducible refine i_asg ?_ | with_reducible refine i_ret ?_ | with_reducible refine i_ifS ?_ | with_reducible refine i_if ?_
  | with_reducible refine i_for ?_ | with_reducible refine i_iL ?_ | with_reducible refine i_iT ?_ | with_reducible refine i_ckw ?_ | with_reducible refine i_cm ?_ | with_reducible refine And.intro (rfl : V.ref _ = V.ref _) ?_ | with_reducible refine i_rng1 ?_ | with_reducible refine i_bm ?_ | with_reducible refine i_bm0 ?_
  | with_reducible refine i_drop ?_ | with_reducible refine i_next ?_
  | with_reducible refine i_var rfl ?_ | with_reducible refine i_c ?_ | with_reducible refine i_op ?_ | with_reducible refine i_un ?_ | with_reducible refine i_name ?_
  | with_reducible refine i_rI0 ?_ | with_reducible refine i_rU ?_ | with_reducible refine i_rEq rfl ?_ | with_reducible refine i_rNe rfl ?_
  | with_reducible refine i_test ?_ | with_reducible refine i_tB ?_ | with_reducible refine i_and ?_ | with_reducible refine i_or ?_ | with_reducible refine i_not ?_
  | with_reducible refine i_andV ?_ | with_reducible refine i_orV ?_ | with_reducible refine i_notV ?_
  | with_reducible refine i_cons ?_ | with_reducible refine i_nil ?_ | with_reducible refine i_cb ?_ | with_reducible refine i_call ?_ | with_reducible refine i_bl ?_
  | with_reducible refine i_tup ?_ | with_reducible refine i_lst ?_ | with_reducible refine i_par ?_ | with_reducible refine i_gcons ?_ | with_reducible refine i_gnil ?_
  | with_reducible refine And.intro (rfl : V.non = V.non) ?_ | with_reducible refine i_ixT (by assumption) rfl ?_ | with_reducible refine i_ixL (by assumption) rfl ?_ | with_reducible refine i_gtup (by assumption) rfl ?_
  | with_reducible refine i_gsub ?_
  | with_reducible refine Or.inl (Exists.intro _ (And.intro (rfl : [V.int _] = [V.int _]) ?_)) | with_reducible refine Exists.intro _ (And.intro (rfl : [V.int _] = [V.int _]) ?_)
  | with_reducible refine Or.inr (Exists.intro _ (And.intro (rfl : [V.bl _] = [V.bl _]) ?_))
  | with_reducible refine Exists.intro _ (Exists.intro _ (And.intro (rfl : [V.int _, V.int _] = [V.int _, V.int _]) ?_))
  | with_reducible refine Exists.intro _ (Exists.intro _ (And.intro (rfl : [V.ref _] = [V.ref _]) (And.intro (Or.inl (SqL.of (by assumption))) ?_)))
  | with_reducible refine i_rI (show (0 : Int) < _ by assumption) ?_ | with_reducible refine i_rI (show (0 : Int) < _ by decide) ?_
  | with_reducible refine i_rI (pow_ok (Nat.le_of_ble_eq_true rfl) (Nat.le_of_ble_eq_true rfl)) ?_
  | with_reducible refine i_rI (cmulL rfl) ?_))
def namesB (xs : List V) (js : List Bool) : Bool := !xs.isEmpty && (js.all id && decide xs.Nodup)
theorem names_of {K : PySem.W.Frag} {H : Hp} : ∀ {xs : List V} {js : List Bool}, Paired (NmV K H) xs js → js.all id = true → ∃ cs : List Str, xs = cs.map V.str ∧ ∀ c, c ∈ cs → nameB c = true ∧ c.length ≤ 100
  | _, _, .nil, _ => ⟨[], rfl, fun c hc => absurd hc List.not_mem_nil⟩
  | _, j :: js, .cons r t, h => by
    rw [List.all_cons, Bool.and_eq_true] at h
    obtain ⟨cs, e, ok⟩ := names_of t h.2
    have hj : j = true := h.1
    rcases r with ⟨z, rfl, hz, ez⟩ | ⟨_, ez⟩
    · refine ⟨z :: cs, by rw [e]; rfl, fun c hc => ?_⟩
      rcases List.mem_cons.mp hc with rfl | hc
      · exact ⟨by rw [← ez]; exact hj, hz⟩
      · exact ok c hc
    · rw [hj] at ez
      cases ez
theorem nodup_strs {cs : List Str} : (cs.map V.str).Nodup ↔ cs.Nodup := by
  unfold List.Nodup
  rw [List.pairwise_map]
  exact ⟨fun h => h.imp fun z e => z (by rw [e]), fun h => h.imp fun z e => z (V.str.inj e)⟩
section
variable {P : Program} {w : World} {K : PySem.W.Frag} {mg : Str → Option Value} {base : Heap}
abbrev s_are_names : Stmt := top 25
theorem sc_are_names : FnScope ["things", "thing"] ["things"] (defScope s_are_names) := ⟨rfl, rfl, rfl, by decide +kernel, rfl, by decide +kernel, by decide +kernel⟩
def sp_are_names (K : PySem.W.Frag) : Sp := fun vs H Q _ => ∃ t xs js, vs = [.ref t] ∧ SqT K H t xs ∧ xs.length ≤ 100 ∧ Paired (NmV K H) xs js ∧ ∀ H', Same H H' → Q (.bl (namesB xs js)) H'
theorem ok_are_names {f fN : Addr} {fd fdN : FuncData} (F : Fun K "are_names" "are_names" s_are_names f fd) (F_is_name : Fun K "is_name" "is_name" s_is_name fN fdN) (B_is_name : Binds K fdN ["thing"] []) (g_is_name : mg "is_name" = some (.ref fN))
    (G_is_name : FnOk P w K mg base CX0 1 fN fdN ["thing"] (sp_is_name K)) (z_len : mg "len" = none) (z_all : mg "all" = none) (z_set : mg "set" = none) : FnOk P w K mg base CX0 2 f fd ["things"] (sp_are_names K) := by
  refine F.ok sc_are_names (fun vs H Q E h => ?_) (fun cdv A outer s H vs Q E hr h => ?_)
  · obtain ⟨t, xs, js, rfl, _⟩ := h
    rfl
  · obtain ⟨t, xs, js, rfl, ht, hz, nm, q⟩ := h
    refine ⟨_, (pss_one (ps_ret (pe_and (pe_cmpR op_gt (pe_callB call_len_seq (by rfl) z_len PySem.boot_len (pa_cons (pv 0) pa_nil)) pe_int (nomark _)) (pe_and (pe_callB (cr_all rfl) (by rfl) z_all (by decide +kernel) (pa_cons (pe_lc (own := [("thing", 1)]) (g := gName 1) (tt := tYes) rfl sc_are_names.nd (pi_tup (pv 0)) (blkOk_by (own := [("thing", 1)]) (N := ["things", "thing"]) (sc := defScope s_are_names) (by decide +kernel)) (fun _ _ _ _ _ => pg_name (i := 1) sc_are_names.nd rfl (Or.inl rfl)) (fun _ _ _ _ _ => pts_nil) (fun _ _ _ _ _ => (pe_call G_is_name (hr.mono (by decide)) rfl g_is_name F_is_name.kp B_is_name .nil pass0 (pa_cons (pv 1) pa_nil)))) pa_nil)) (pe_one (pe_cmpR op_eq (pe_callB cr_txLen (by rfl) z_len PySem.boot_len (pa_cons (pe_callTy (cr_txSet rfl) (by rfl) z_set (by decide +kernel) (pa_cons (pv 0) pa_nil)) pa_nil)) (pe_callB call_len_seq (by rfl) z_len PySem.boot_len (pa_cons (pv 0) pa_nil)) (nomark _))))))), ?_⟩
    have jl : xs.length = js.length := Paired.length nm
    walk_at "rd"
    refine ⟨t, _, rfl, .inr ht, ?_⟩
    walk_at "rd"
    unfold namesB at q
    cases hx : xs with
    | nil =>
      subst hx
      exact iteF (q H (Same.refl H))
    | cons x0 xr =>
      rw [← hx]
      have hne : xs.isEmpty = false := by rw [hx]; rfl
      have hpos : 0 < xs.length := by rw [hx]; simp
      rw [hne] at q
      rw [decide_eq_true (show (0 : Int) < ((xs.length : Nat) : Int) by omega)]
      refine iteT ?_
      walk_at "rd"
      unfold tLc
      walk_at "rd"
      refine ⟨t, rfl, ⟨_, ht⟩, fun D hD => ?_⟩
      obtain ⟨H1, e1, s1, hd⟩ := new_heap (o := .lst []) hD
      refine lc_tup (K := K) (a := t) (xs := xs) (fun i H' => Same H H' ∧ H' D = some (.lst ((js.take i).map V.bl))) ⟨by rw [e1]; exact s1, by rw [e1]; exact hd⟩ ?_ ?_ ?_
      · rintro i H' _ ⟨s2, _⟩
        exact SqT.ext ht s2
      · rintro i x H2 hx ⟨s2, h2⟩
        obtain ⟨j, ej, nj⟩ := pair_at nm hx
        have hi : i < xs.length := (List.getElem?_eq_some_iff.mp hx).1
        walk_at "rd"
        refine ⟨rfl, i_yes (iteT ?_)⟩
        walk_at "rd"
        refine ⟨x, j, rfl, nj.up s2, fun H3 s3 => ?_⟩
        refine ⟨_, s3 _ _ h2, size_lt (by rw [List.length_map, List.length_take]; omega), Same.mut (fun b o z => s3 _ _ (s2 _ _ z)) hD, ?_⟩
        rw [upd_same, take_snoc ej, List.map_append]
        rfl
      · rintro H2 ⟨s2, h2⟩
        rw [jl, List.take_length] at h2
        walk_at "rd"
        refine ⟨D, js, rfl, SqL.of h2, js.all id, rfl, ?_⟩
        cases ha : js.all id with
        | false =>
          rw [ha] at q
          exact iteF (q H2 s2)
        | true =>
          rw [ha] at q
          obtain ⟨cs, rfl, ok⟩ := names_of nm ha
          refine iteT ?_
          walk_at "rd"
          rw [List.length_map] at hz
          refine ⟨t, cs, rfl, SqT.ext ht s2, by omega, fun p hp => ?_⟩
          obtain ⟨H3, e3, s3, h3⟩ := new_heap (o := TxO P w p (onceTx [] cs)) hp
          show tNil _ (upd H2 p (TxO P w p (onceTx [] cs))) _
          rw [e3]
          walk_at "rd"
          refine ⟨p, onceTx [] cs, rfl, h3, by have := onceTx_le cs; omega, ?_⟩
          walk_at "rd"
          refine ⟨t, _, rfl, .inr (SqT.ext (SqT.ext ht s2) s3), ?_⟩
          rw [List.length_map]
          refine i_rEq rfl ?_
          have e : decide (V.int ((onceTx [] cs).length : Int) = V.int (cs.length : Int)) = decide (cs.map V.str).Nodup := by
            rw [decide_eq_decide, nodup_strs, ← onceTx_iff]
            exact ⟨fun z => by have := V.int.inj z; omega, fun z => by rw [z]⟩
          rw [e]
          exact q H3 fun b o z => s3 _ _ (s2 _ _ z)
abbrev s_sequence_of : Stmt := top 27
theorem sc_sequence_of : FnScope ["things"] ["things"] (defScope s_sequence_of) := ⟨rfl, rfl, rfl, by decide +kernel, rfl, by decide +kernel, by decide +kernel⟩
def sp_sequence_of (K : PySem.W.Frag) : Sp := fun vs H Q _ => ∃ l xs, vs = [.ref l] ∧ (H l = some (.lst xs) ∨ H l = some (.tup xs)) ∧ ∀ p H', Same H H' → H' p = some (.tup xs) → Q (.ref p) H'
theorem ok_sequence_of {f : Addr} {fd : FuncData} (F : Fun K "sequence_of" "sequence_of" s_sequence_of f fd) (z_isinstance : mg "isinstance" = none) (z_list : mg "list" = none) (z_tuple : mg "tuple" = none) : FnOk P w K mg base CX0 1 f fd ["things"] (sp_sequence_of K) := by
  refine F.ok sc_sequence_of (fun vs H Q E h => ?_) (fun cdv A outer s H vs Q E hr h => ?_)
  · obtain ⟨l, xs, rfl, _⟩ := h
    rfl
  · obtain ⟨l, xs, rfl, hl, q⟩ := h
    refine ⟨_, (pss_one (ps_ret (pe_ifExp (pt_val (pe_callB call_isiT (by rfl) z_isinstance (by decide +kernel) (pa_cons (pv 0) (pa_cons (pe_tup (pa_cons (pe_bltn (v := .ty "list") (u := .type "list") (by rfl) z_list (by decide +kernel) rfl) (pa_cons (pe_bltn (v := .ty "tuple") (u := .type "tuple") (by rfl) z_tuple (by decide +kernel) rfl) pa_nil))) pa_nil)))) (pe_callTy call_tuple_of (by rfl) z_tuple (by decide +kernel) (pa_cons (pv 0) pa_nil)) (pe_tup pa_nil)))), ?_⟩
    walk_at "rd"
    refine ⟨size_of (Nat.le_of_ble_eq_true rfl), fun tp htp => ?_⟩
    obtain ⟨H1, e1, s1, h1⟩ := new_heap (o := .tup [.ty "list", .ty "tuple"]) htp
    rw [e1]
    walk_at "rd"
    rcases hl with hl | hl
    · refine ⟨.ref l, tp, _, _, _, true, rfl, h1, .cons (.ty "list") (.cons (.ty "tuple") .nil), .base (.lst (s1 _ _ hl)), rfl, true, rfl, iteT ?_⟩
      walk_at "rd"
      refine ⟨l, xs, rfl, .inl ⟨SqL.of (s1 _ _ hl), fun p hp => ?_⟩⟩
      obtain ⟨H2, e2, s2, h2⟩ := new_heap (o := .tup xs) hp
      rw [e2]
      exact q p H2 (fun b o z => s2 _ _ (s1 _ _ z)) h2
    · refine ⟨.ref l, tp, _, _, _, true, rfl, h1, .cons (.ty "list") (.cons (.ty "tuple") .nil), .base (.tup (s1 _ _ hl)), rfl, true, rfl, iteT ?_⟩
      walk_at "rd"
      exact ⟨l, xs, rfl, .inr ⟨SqT.of (s1 _ _ hl), q l H1 s1 (s1 _ _ hl)⟩⟩
end
end Spk

set_option Elab.async false
set_option linter.all false
set_option maxRecDepth 100000
set_option maxHeartbeats 1000000
namespace Spk
open PySem L2
local macro_rules | `(tactic| walk_at "rd") => `(tactic| repeat (first
  | with_reducible refine i_seq ?_ | with_reducible refine i_asg ?_ | with_reducible refine i_ret ?_ | with_reducible refine i_ifS ?_ | with_reducible refine i_if ?_
  | with_reducible refine i_for ?_ | with_reducible refine i_iL ?_ | with_reducible refine i_iT ?_ | with_reducible refine i_ckw ?_ | with_reducible refine i_cm ?_ | with_reducible refine And.intro (rfl : V.ref _ = V.ref _) ?_ | with_reducible refine i_rng1 ?_ | with_reducible refine i_bm ?_ | with_reducible refine i_bm0 ?_
  | with_reducible refine i_drop ?_ | with_reducible refine i_next ?_
  | with_reducible refine i_var rfl ?_ | with_reducible refine i_c ?_ | with_reducible refine i_op ?_ | with_reducible refine i_un ?_ | with_reducible refine i_name ?_
  | with_reducible refine i_rI0 ?_ | with_reducible refine i_rU ?_ | with_reducible refine i_rEq rfl ?_ | with_reducible refine i_rNe rfl ?_
  | with_reducible refine i_test ?_ | with_reducible refine i_tB ?_ | with_reducible refine i_and ?_ | with_reducible refine i_or ?_ | with_reducible refine i_not ?_
  | with_reducible refine i_andV ?_ | with_reducible refine i_orV ?_ | with_reducible refine i_notV ?_
  | with_reducible refine i_cons ?_ | with_reducible refine i_nil ?_ | with_reducible refine i_cb ?_ | with_reducible refine i_call ?_ | with_reducible refine i_bl ?_
  | with_reducible refine i_tup ?_ | with_reducible refine i_lst ?_ | with_reducible refine i_par ?_ | with_reducible refine i_gcons ?_ | with_reducible refine i_gnil ?_
  | with_reducible refine And.intro (rfl : V.non = V.non) ?_ | with_reducible refine i_ixT (by assumption) rfl ?_ | with_reducible refine i_ixL (by assumption) rfl ?_ | with_reducible refine i_gtup (by assumption) rfl ?_
  | with_reducible refine i_gsub ?_
  | with_reducible refine Or.inl (Exists.intro _ (And.intro (rfl : [V.int _] = [V.int _]) ?_)) | with_reducible refine Exists.intro _ (And.intro (rfl : [V.int _] = [V.int _]) ?_)
  | with_reducible refine Or.inr (Exists.intro _ (And.intro (rfl : [V.bl _] = [V.bl _]) ?_))
  | with_reducible refine Exists.intro _ (Exists.intro _ (And.intro (rfl : [V.int _, V.int _] = [V.int _, V.int _]) ?_))
  | with_reducible refine Exists.intro _ (Exists.intro _ (And.intro (rfl : [V.ref _] = [V.ref _]) (And.intro (Or.inl (SqL.of (by assumption))) ?_)))
  | with_reducible refine i_rI (show (0 : Int) < _ by assumption) ?_ | with_reducible refine i_rI (show (0 : Int) < _ by decide) ?_
  | with_reducible refine i_rI (pow_ok (Nat.le_of_ble_eq_true rfl) (Nat.le_of_ble_eq_true rfl)) ?_
  | with_reducible refine i_rI (cmulL rfl) ?_))
/-! ### names among names -/
theorem flat_strs (cs : List Str) : (cs.map V.str).all flatV = true := by
  rw [List.all_map]
  exact List.all_eq_true.mpr fun _ _ => rfl
theorem in_strs (c : Str) (cs : List Str) : inV (.str c) (cs.map V.str) = decide (c ∈ cs) := by
  unfold inV
  rw [List.any_map, Bool.eq_iff_iff, List.any_eq_true, decide_eq_true_eq]
  constructor
  · rintro ⟨x, hx, e⟩
    have : x = c := eq_of_beq e
    rw [← this]
    exact hx
  · intro h
    exact ⟨c, h, (beq_self_eq_true c : (c == c) = true)⟩
theorem in_at {K : PySem.W.Frag} {H : Hp} {c : Str} {u : Addr} {cs : List Str} {Q : VK} (h : SqL K H u (cs.map V.str) ∨ SqT K H u (cs.map V.str)) (q : Q (.bl (decide (c ∈ cs))) H) : rIn K false (.str c) (.ref u) H Q :=
  ⟨u, _, rfl, h, rfl, flat_strs cs, by rw [in_strs]; exact q⟩
theorem notIn_at {K : PySem.W.Frag} {H : Hp} {c : Str} {u : Addr} {cs : List Str} {Q : VK} (h : SqL K H u (cs.map V.str) ∨ SqT K H u (cs.map V.str)) (q : Q (.bl (!decide (c ∈ cs))) H) : rIn K true (.str c) (.ref u) H Q :=
  ⟨u, _, rfl, h, rfl, flat_strs cs, by rw [in_strs]; exact q⟩
theorem str_at {cs : List Str} {i : Nat} {x : V} (hx : (cs.map V.str)[i]? = some x) : ∃ c, cs[i]? = some c ∧ x = .str c := by
  rw [List.getElem?_map] at hx
  cases h : cs[i]? with
  | none => rw [h] at hx; cases hx
  | some c =>
    rw [h] at hx
    exact ⟨c, rfl, (Option.some.inj hx).symm⟩
/-- what stands in the written part or in the heap as a tuple -/
def TuS (K : PySem.W.Frag) (H : Hp) (a : Addr) (xs : List V) : Prop := SqT K H a xs ∧ TyX K H (.ref a) (.type "tuple")
theorem TuS.of {K : PySem.W.Frag} {H : Hp} {a : Addr} {xs : List V} (h : H a = some (.tup xs)) : TuS K H a xs := ⟨SqT.of h, .base (.tup h)⟩
theorem TuS.up {K : PySem.W.Frag} {H H' : Hp} {a : Addr} {xs : List V} (e : Same H H') (h : TuS K H a xs) : TuS K H' a xs := ⟨SqT.ext h.1 e, ty_up e h.2⟩
section
variable {P : Program} {w : World} {K : PySem.W.Frag} {mg : Str → Option Value} {base : Heap}
abbrev s_are_chosen : Stmt := top 31
theorem sc_are_chosen : FnScope ["names", "columns", "name"] ["names", "columns"] (defScope s_are_chosen) := ⟨rfl, rfl, rfl, by decide +kernel, rfl, by decide +kernel, by decide +kernel⟩
def chosenB (ks cs : List Str) : Bool := (ks.map fun c => decide (c ∈ cs)).all id && decide ks.Nodup
def sp_are_chosen (K : PySem.W.Frag) : Sp := fun vs H Q _ => ∃ t u, ∃ ks cs : List Str, vs = [.ref t, .ref u] ∧ TuS K H t (ks.map V.str) ∧ (SqL K H u (cs.map V.str) ∨ SqT K H u (cs.map V.str)) ∧ ks.length ≤ 100 ∧ ∀ H', Same H H' → Q (.bl (chosenB ks cs)) H'
theorem ok_are_chosen {f : Addr} {fd : FuncData} (F : Fun K "are_chosen" "are_chosen" s_are_chosen f fd) (z_isinstance : mg "isinstance" = none) (z_tuple : mg "tuple" = none) (z_str : mg "str" = none) (z_len : mg "len" = none) (z_all : mg "all" = none) (z_set : mg "set" = none) :
    FnOk P w K mg base CX0 1 f fd ["names", "columns"] (sp_are_chosen K) := by
  refine F.ok sc_are_chosen (fun vs H Q E h => ?_) (fun cdv A outer s H vs Q E hr h => ?_)
  · obtain ⟨t, u, ks, cs, rfl, _⟩ := h
    rfl
  · obtain ⟨t, u, ks, cs, rfl, ⟨ht, ty⟩, hu, hz, q⟩ := h
    refine ⟨_, (pss_cons (ps_if (pt_not (PW.pt (pw_and (pt_val (pe_callB call_isi (by rfl) z_isinstance (by decide +kernel) (pa_cons (pv 0) (pa_cons (pe_bltn (v := .ty "tuple") (u := .type "tuple") (by rfl) z_tuple (by decide +kernel) rfl) pa_nil)))) (pw_and1 (pt_truth (pe_callB (cr_all rfl) (by rfl) z_all (by decide +kernel) (pa_cons (pe_lc (own := [("name", 2)]) (g := gName 2) (tt := tYes) rfl sc_are_chosen.nd (pi_tup (pv 0)) (blkOk_by (own := [("name", 2)]) (N := ["names", "columns", "name"]) (sc := defScope s_are_chosen) (by decide +kernel)) (fun _ _ _ _ _ => pg_name (i := 2) sc_are_chosen.nd rfl (Or.inl rfl)) (fun _ _ _ _ _ => pts_nil) (fun _ _ _ _ _ => (pe_and (pe_callB (call_isiK (K := K) rfl) (by rfl) z_isinstance (by decide +kernel) (pa_cons (pv 2) (pa_cons (pe_bltn (v := .ty "str") (u := .type "str") (by rfl) z_str (by decide +kernel) rfl) pa_nil))) (pe_one (pe_cmpR (op_inK (K := K) rfl) (pv 2) (pv 1) (by rfl)))))) pa_nil)) (by intro _; rfl))))))
 (pss_one (ps_ret pe_bl))
 pss_nil)
 (pss_one (ps_ret (pe_cmpR op_eq (pe_callB cr_txLen (by rfl) z_len PySem.boot_len (pa_cons (pe_callTy (cr_txSet rfl) (by rfl) z_set (by decide +kernel) (pa_cons (pv 0) pa_nil)) pa_nil)) (pe_callB call_len_seq (by rfl) z_len PySem.boot_len (pa_cons (pv 0) pa_nil)) (nomark _))))), ?_⟩
    walk_at "rd"
    refine ⟨_, _, _, _, true, rfl, .ty "tuple", ty, kit_ty (by decide +kernel), true, rfl, iteT ?_⟩
    walk_at "rd"
    unfold tLc
    walk_at "rd"
    refine ⟨t, rfl, ⟨_, ht⟩, fun D hD => ?_⟩
    obtain ⟨H1, e1, s1, hd⟩ := new_heap (o := .lst []) hD
    refine lc_tup (K := K) (a := t) (xs := ks.map V.str) (fun i H' => Same H H' ∧ H' D = some (.lst ((((ks.map fun c => decide (c ∈ cs))).take i).map V.bl))) ⟨by rw [e1]; exact s1, by rw [e1]; exact hd⟩ ?_ ?_ ?_
    · rintro i H' _ ⟨s2, _⟩
      exact SqT.ext ht s2
    · rintro i x H2 hx ⟨s2, h2⟩
      obtain ⟨c, hc, rfl⟩ := str_at hx
      have hi : i < ks.length := (List.getElem?_eq_some_iff.mp hc).1
      have hc2 : (ks.map fun c => decide (c ∈ cs))[i]? = some (decide (c ∈ cs)) := by rw [List.getElem?_map, hc]; rfl
      walk_at "rd"
      refine ⟨rfl, i_yes (iteT ?_)⟩
      walk_at "rd"
      refine ⟨_, _, _, _, true, rfl, .ty "str", .base (.str c), kit_ty (by decide +kernel), true, rfl, iteT ?_⟩
      walk_at "rd"
      refine in_at (hu.imp (fun z => SqL.ext z s2) fun z => SqT.ext z s2) ?_
      refine ⟨_, h2, size_lt (by rw [List.length_map, List.length_take, List.length_map]; omega), Same.mut s2 hD, ?_⟩
      rw [upd_same, take_snoc hc2, List.map_append]
      rfl
    · rintro H2 ⟨s2, h2⟩
      have e : (ks.map fun c => decide (c ∈ cs)).take (ks.map V.str).length = ks.map fun c => decide (c ∈ cs) := List.take_of_length_le (by simp)
      rw [e] at h2
      walk_at "rd"
      refine ⟨D, ks.map fun c => decide (c ∈ cs), rfl, SqL.of h2, _, rfl, ?_⟩
      unfold chosenB at q
      cases ha : (ks.map fun c => decide (c ∈ cs)).all id with
      | false =>
        rw [ha] at q
        exact iteT (q H2 s2)
      | true =>
        rw [ha] at q
        refine iteF ?_
        walk_at "rd"
        refine ⟨t, ks, rfl, SqT.ext ht s2, by omega, fun p hp => ?_⟩
        obtain ⟨H3, e3, s3, h3⟩ := new_heap (o := TxO P w p (onceTx [] ks)) hp
        show tNil _ (upd H2 p (TxO P w p (onceTx [] ks))) _
        rw [e3]
        walk_at "rd"
        refine ⟨p, onceTx [] ks, rfl, h3, by have := onceTx_le ks; omega, ?_⟩
        walk_at "rd"
        refine ⟨t, _, rfl, .inr (SqT.ext (SqT.ext ht s2) s3), ?_⟩
        rw [List.length_map]
        refine i_rEq rfl ?_
        have e : decide (V.int ((onceTx [] ks).length : Int) = V.int (ks.length : Int)) = decide ks.Nodup := by
          rw [decide_eq_decide, ← onceTx_iff]
          exact ⟨fun z => by have := V.int.inj z; omega, fun z => by rw [z]⟩
        rw [e]
        exact q H3 fun b o z => s3 _ _ (s2 _ _ z)
abbrev s_in_order_of : Stmt := top 32
theorem sc_in_order_of : FnScope ["columns", "names", "column"] ["columns", "names"] (defScope s_in_order_of) := ⟨rfl, rfl, rfl, by decide +kernel, rfl, by decide +kernel, by decide +kernel⟩
abbrev among (cs ks : List Str) : List Str := cs.filter fun c => decide (c ∈ ks)
def sp_in_order_of (K : PySem.W.Frag) : Sp := fun vs H Q _ => ∃ t u, ∃ cs ks : List Str, vs = [.ref t, .ref u] ∧ SqT K H t (cs.map V.str) ∧ SqT K H u (ks.map V.str) ∧ cs.length ≤ 100 ∧ ∀ p H', Same H H' → H' p = some (.tup ((among cs ks).map V.str)) → Q (.ref p) H'
theorem among_snoc {cs ks : List Str} {i : Nat} {c : Str} (h : cs[i]? = some c) : among (cs.take (i + 1)) ks = if c ∈ ks then among (cs.take i) ks ++ [c] else among (cs.take i) ks := by
  unfold among
  rw [take_snoc h, List.filter_append]
  by_cases e : c ∈ ks
  · rw [if_pos e]
    simp [e]
  · rw [if_neg e]
    simp [e]
theorem ok_in_order_of {f : Addr} {fd : FuncData} (F : Fun K "in_order_of" "in_order_of" s_in_order_of f fd) (z_tuple : mg "tuple" = none) : FnOk P w K mg base CX0 1 f fd ["columns", "names"] (sp_in_order_of K) := by
  refine F.ok sc_in_order_of (fun vs H Q E h => ?_) (fun cdv A outer s H vs Q E hr h => ?_)
  · obtain ⟨t, u, ks, cs, rfl, _⟩ := h
    rfl
  · obtain ⟨t, u, cs, ks, rfl, ht, hu, hz, q⟩ := h
    refine ⟨_, (pss_one (ps_ret (pe_callTy call_tuple_of (by rfl) z_tuple (by decide +kernel) (pa_cons (pe_lc (own := [("column", 2)]) (g := gName 2) rfl sc_in_order_of.nd (pi_tup (pv 0)) (blkOk_by (own := [("column", 2)]) (N := ["columns", "names", "column"]) (sc := defScope s_in_order_of) (by decide +kernel)) (fun _ _ _ _ _ => pg_name (i := 2) sc_in_order_of.nd rfl (Or.inl rfl)) (fun _ _ _ _ _ => pts_one (pt_cmpR (op_inK (K := K) rfl) (pv 2) (pv 1) (by rfl))) (fun _ _ _ _ _ => (pv 2))) pa_nil)))), ?_⟩
    walk_at "rd"
    unfold tLc
    walk_at "rd"
    refine ⟨t, rfl, ⟨_, ht⟩, fun D hD => ?_⟩
    obtain ⟨H1, e1, s1, hd⟩ := new_heap (o := .lst []) hD
    refine lc_tup (K := K) (a := t) (xs := cs.map V.str) (fun i H' => Same H H' ∧ H' D = some (.lst ((among (cs.take i) ks).map V.str))) ⟨by rw [e1]; exact s1, by rw [e1]; exact hd⟩ ?_ ?_ ?_
    · rintro i H' _ ⟨s2, _⟩
      exact SqT.ext ht s2
    · rintro i x H2 hx ⟨s2, h2⟩
      obtain ⟨c, hc, rfl⟩ := str_at hx
      walk_at "rd"
      refine ⟨rfl, ?_⟩
      walk_at "rd"
      refine in_at (.inr (SqT.ext hu s2)) ⟨_, rfl, ?_⟩
      refine ite_d (fun hm => ?_) (fun hm => ?_)
      · walk_at "rd"
        refine ⟨_, h2, size_lt ?_, Same.mut s2 hD, ?_⟩
        · rw [List.length_map]
          refine Nat.le_trans (List.length_filter_le ..) ?_
          rw [List.length_take]
          omega
        · rw [among_snoc hc, if_pos hm, List.map_append]
          exact upd_same
      · refine ⟨s2, ?_⟩
        rw [among_snoc hc, if_neg hm]
        exact h2
    · rintro H2 ⟨s2, h2⟩
      rw [List.length_map, List.take_length] at h2
      walk_at "rd"
      refine ⟨D, _, rfl, .inl ⟨SqL.of h2, fun p hp => ?_⟩⟩
      obtain ⟨H3, e3, s3, h3⟩ := new_heap (o := .tup ((among cs ks).map V.str)) hp
      rw [e3]
      exact q p H3 (fun b o z => s3 _ _ (s2 _ _ z)) h3
end
end Spk

set_option Elab.async false
set_option linter.all false
set_option maxRecDepth 100000
set_option maxHeartbeats 2000000
namespace Spk
open PySem L2
local macro_rules | `(tactic| walk_at "rd") => `(tactic| repeat (first
  | with_reducible refine i_seq ?_ | with_reducible refine i_asg ?_ | with_reducible refine i_ret ?_ | with_reducible refine i_ifS ?_ | with_reducible refine i_if ?_
  | with_reducible refine i_for ?_ | with_reducible refine i_iL ?_ | with_reducible refine i_iT ?_ | with_reducible refine i_ckw ?_ | with_reducible refine i_cm ?_ | with_reducible refine And.intro (rfl : V.ref _ = V.ref _) ?_ | with_reducible refine i_rng1 ?_ | with_reducible refine i_bm ?_ | with_reducible refine i_bm0 ?_
  | with_reducible refine i_drop ?_ | with_reducible refine i_next ?_
  | with_reducible refine i_var rfl ?_ | with_reducible refine i_c ?_ | with_reducible refine i_op ?_ | with_reducible refine i_un ?_ | with_reducible refine i_name ?_
  | with_reducible refine i_rI0 ?_ | with_reducible refine i_rU ?_ | with_reducible refine i_rEq rfl ?_ | with_reducible refine i_rNe rfl ?_
  | with_reducible refine i_test ?_ | with_reducible refine i_tB ?_ | with_reducible refine i_and ?_ | with_reducible refine i_or ?_ | with_reducible refine i_not ?_
  | with_reducible refine i_andV ?_ | with_reducible refine i_orV ?_ | with_reducible refine i_notV ?_
  | with_reducible refine i_cons ?_ | with_reducible refine i_nil ?_ | with_reducible refine i_cb ?_ | with_reducible refine i_call ?_ | with_reducible refine i_bl ?_
  | with_reducible refine i_tup ?_ | with_reducible refine i_lst ?_ | with_reducible refine i_par ?_ | with_reducible refine i_gcons ?_ | with_reducible refine i_gnil ?_
  | with_reducible refine And.intro (rfl : V.non = V.non) ?_ | with_reducible refine i_ixT (by assumption) rfl ?_ | with_reducible refine i_ixL (by assumption) rfl ?_ | with_reducible refine i_gtup (by assumption) rfl ?_
  | with_reducible refine i_gsub ?_
  | with_reducible refine Or.inl (Exists.intro _ (And.intro (rfl : [V.int _] = [V.int _]) ?_)) | with_reducible refine Exists.intro _ (And.intro (rfl : [V.int _] = [V.int _]) ?_)
  | with_reducible refine Or.inr (Exists.intro _ (And.intro (rfl : [V.bl _] = [V.bl _]) ?_))
  | with_reducible refine Exists.intro _ (Exists.intro _ (And.intro (rfl : [V.int _, V.int _] = [V.int _, V.int _]) ?_))
  | with_reducible refine Exists.intro _ (Exists.intro _ (And.intro (rfl : [V.ref _] = [V.ref _]) (And.intro (Or.inl (SqL.of (by assumption))) ?_)))
  | with_reducible refine i_rI (show (0 : Int) < _ by assumption) ?_ | with_reducible refine i_rI (show (0 : Int) < _ by decide) ?_
  | with_reducible refine i_rI (pow_ok (Nat.le_of_ble_eq_true rfl) (Nat.le_of_ble_eq_true rfl)) ?_
  | with_reducible refine i_rI (cmulL rfl) ?_))
/-! ### the error InvalidTable -/
structure XIt (K : PySem.W.Frag) (mg : Str → Option Value) (CI fX : Addr) : Prop where
  o : OexC K CI
  iC : PySem.W.findIn K (.ref CI) "__init__" = some (some (.ref fX))
  tI : PySem.W.typeIn K (.ref fX) = some (.type "function")
  g : mg "InvalidTable" = some (.ref CI)
  noR : PySem.W.findIn K (.ref CI) "reason" = some none
theorem i_ost {K : PySem.W.Frag} {f : Str} {to te : TE} {D : Ends} {σ : L2.St} {H : Hp} (h : te σ H fun y H1 => to σ H1 fun x H2 => ∃ a C, x = V.ref a ∧ OexC K C ∧ PySem.W.findIn K (Value.ref C) f = some none ∧
              ((H2 a = some (exo a C none) ∧ ∀ (dx : Addr), H2 dx = none → dx ≠ a → D.nx σ (upd (upd H2 dx (exd dx [(f, y)])) a (exo a C (some dx)))) ∨
                ∃ dx fs, H2 a = some (exo a C (some dx)) ∧ H2 dx = some (exd dx fs) ∧ fs.length ≤ 900 ∧ D.nx σ (upd H2 dx (exd dx ((f, y) :: fs))))) : tOst K f to te D σ H := h
section
variable {P : Program} {w : World} {K : PySem.W.Frag} {mg : Str → Option Value} {base : Heap} {CI fX : Addr}
abbrev s_InvalidTable__init : Stmt := inClass (top 3) 0
theorem sc_InvalidTable__init : FnScope ["self", "reason"] ["self", "reason"] (defScope s_InvalidTable__init) := ⟨rfl, rfl, rfl, by decide +kernel, rfl, by decide +kernel, by decide +kernel⟩
def sp_iinit (CI : Addr) : Sp := fun vs H Q _ => ∃ a y, vs = [.ref a, y] ∧ H a = some (exo a CI none) ∧ ∀ dx, H dx = none → dx ≠ a → Q .non (upd (upd H dx (exd dx [("reason", y)])) a (exo a CI (some dx)))
theorem ok_iinit {fd : FuncData} (F : Fun K "__init__" "InvalidTable.__init__" s_InvalidTable__init fX fd) (XI : XIt K mg CI fX) : FnOk P w K mg base CX0 1 fX fd ["self", "reason"] (sp_iinit CI) := by
  refine F.ok sc_InvalidTable__init (fun vs H Q E h => ?_) (fun cdv A outer s H vs Q E hr h => ?_)
  · obtain ⟨a, y, rfl, _⟩ := h
    rfl
  · obtain ⟨a, y, rfl, ha, q⟩ := h
    refine ⟨_, (pss_one (ps_ost (pv 0) (pv 1))), ?_⟩
    refine i_ost ?_
    walk_at "rd"
    exact ⟨a, CI, rfl, XI.o, XI.noR, .inl ⟨ha, fun dx hdx hne => q dx hdx hne⟩⟩
/-- «an InvalidTable with this reason» -/
abbrev Told (CI : Addr) (H : Hp) (E : XK) (r : Str) : Prop := ∀ d H', Same H H' → H' d = some (.xd [("reason", .str r)]) → E (.ref CI) (some d) H'
theorem err_at {H : Hp} {r : Str} {E : XK} (q : Told CI H E r) : tMkO CI (sp_iinit CI) [] (tCons (tC (.str r)) tNil) [] H E := by
  refine ⟨by show 1 ≤ 1000; decide, fun a ha => ⟨a, .str r, rfl, upd_same, fun dx hdx hne => ⟨rfl, dx, [("reason", .str r)], upd_same, by rw [upd_ne hne]; exact upd_same, ?_, q dx _ (fun b o e => ?_) upd_same⟩⟩⟩
  · rw [upd_ne hne] at hdx
    exact hdx
  · have n1 : b ≠ a := ne_of_none e ha
    have n2 : b ≠ dx := fun z => by
      rw [z] at e
      rw [upd_ne hne, e] at hdx
      cases hdx
    rw [upd_ne n2]
    unfold del
    rw [if_neg n1, upd_ne n1, upd_ne n2, upd_ne n1]
    exact e
theorem i_raise {C : Addr} {sp : Sp} {ta : TA} {W : WX} {D : Ends} {σ : L2.St} {H : Hp} (h : tMkO C sp [] ta σ H fun cls d H' => W cls d σ H') : (fun (_ : Ends) σ H => tMkO C sp [] ta σ H fun cls d H' => W cls d σ H') D σ H := h
end
/-! ### the class Table -/
structure ClsT (K : PySem.W.Frag) (mg : Str → Option Value) (C fI : Addr) (mc : Value) (p g : Addr) : Prop where
  cl : Cls K C
  nC : NoAttr K C "columns"
  nK : NoAttr K C "key"
  nF : NoAttr K C "fixed"
  nU : NoAttr K C "unique"
  nR : NoAttr K C "reuse"
  M : Mk K C fI
  g_C : mg "Table" = some (.ref C)
  rd : ClX.CRead K C mc
  of : ClX.CMet K C mc "of" p g
  most : ∃ u, ClX.CVal K C mc "MOST_COLUMNS" (.int 4) u
abbrev flds (tc tk tf tu : Addr) (r : Bool) : List (Str × V) := [("columns", .ref tc), ("key", .ref tk), ("fixed", .ref tf), ("unique", .ref tu), ("reuse", .bl r)]
/-- what a table tells: columns, key, fixed, unique, reuse -/
structure Tb where
  cs : List Str
  ks : List Str
  fs : List Str
  us : List Str
  r : Bool
/-- a table -/
def Tab (C : Addr) (H : Hp) (x : Addr) (t : Tb) : Prop := ∃ dx tc tk tf tu, H x = some (.ins C dx (flds tc tk tf tu t.r)) ∧ TupF H tc (t.cs.map V.str) ∧ H tk = some (.tup (t.ks.map V.str)) ∧ H tf = some (.tup (t.fs.map V.str)) ∧ H tu = some (.tup (t.us.map V.str))
theorem Tab.up {C : Addr} {H H' : Hp} {x : Addr} {t : Tb} (e : Same H H') (h : Tab C H x t) : Tab C H' x t := by
  obtain ⟨dx, tc, tk, tf, tu, h1, h2, h3, h4, h5⟩ := h
  exact ⟨dx, tc, tk, tf, tu, e _ _ h1, h2.up e, e _ _ h3, e _ _ h4, e _ _ h5⟩
theorem lk_columns {tc tk tf tu : Addr} {r : Bool} : (flds tc tk tf tu r).lookup ("columns" : Str) = some (.ref tc) := by
  simp only [List.lookup, beq_self_eq_true]
theorem lk_key {tc tk tf tu : Addr} {r : Bool} : (flds tc tk tf tu r).lookup ("key" : Str) = some (.ref tk) := by
  simp only [List.lookup, beq_self_eq_true, show (("key" : Str) == "columns") = false from rfl]
theorem lk_fixed {tc tk tf tu : Addr} {r : Bool} : (flds tc tk tf tu r).lookup ("fixed" : Str) = some (.ref tf) := by
  simp only [List.lookup, beq_self_eq_true, show (("fixed" : Str) == "columns") = false from rfl, show (("fixed" : Str) == "key") = false from rfl]
theorem lk_unique {tc tk tf tu : Addr} {r : Bool} : (flds tc tk tf tu r).lookup ("unique" : Str) = some (.ref tu) := by
  simp only [List.lookup, beq_self_eq_true, show (("unique" : Str) == "columns") = false from rfl, show (("unique" : Str) == "key") = false from rfl, show (("unique" : Str) == "fixed") = false from rfl]
theorem lk_reuse {tc tk tf tu : Addr} {r : Bool} : (flds tc tk tf tu r).lookup ("reuse" : Str) = some (.bl r) := by
  simp only [List.lookup, beq_self_eq_true, show (("reuse" : Str) == "columns") = false from rfl, show (("reuse" : Str) == "key") = false from rfl, show (("reuse" : Str) == "fixed") = false from rfl, show (("reuse" : Str) == "unique") = false from rfl]
theorem i_cval {K : PySem.W.Frag} {ta : TE} {f : Str} {σ : L2.St} {H : Hp} {Q : VK} (h : ta σ H fun x H1 => ∃ C mc v u, x = .ref C ∧ ClX.CRead K C mc ∧ ClX.CVal K C mc f v u ∧ Q v H1) : ClX.tCVal K ta f σ H Q := h
theorem i_fld {K : PySem.W.Frag} {ta tv : TE} {f : Str} {D : Ends} {σ : L2.St} {H : Hp} (h : tv σ H fun y H1 => ta σ H1 fun x H2 => ∃ a C dx fs, x = V.ref a ∧ H2 a = some (HO.ins C dx fs) ∧ Cls K C ∧ NoAttr K C f ∧ fs.length < 1000 ∧ D.nx σ (upd H2 a (HO.ins C dx (putF f y fs)))) : sFld K ta tv f D σ H := h
/-- all but x is as it was -/
def Off (x : Addr) (H H' : Hp) : Prop := ∀ b o, b ≠ x → H b = some o → H' b = some o
theorem Off.refl (x : Addr) (H : Hp) : Off x H H := fun _ _ _ h => h
theorem Off.trans {x : Addr} {H H1 H2 : Hp} (a : Off x H H1) (b : Off x H1 H2) : Off x H H2 := fun c o n h => b c o n (a c o n h)
theorem off_of {x : Addr} {H H' : Hp} (e : Same H H') : Off x H H' := fun b o _ h => e b o h
theorem off_upd {x : Addr} {H : Hp} {o : HO} : Off x H (upd H x o) := fun b u n h => by
  rw [upd_ne n]
  exact h
theorem sqt_off {K : PySem.W.Frag} {x C dx a : Addr} {fs : List (Str × V)} {H H' : Hp} {xs : List V} (e : Off x H H') (hx : H x = some (.ins C dx fs)) (h : SqT K H a xs) : SqT K H' a xs := by
  rcases h with (h | ⟨o, h⟩) | h
  · exact .inl (.inl (e a _ (fun z => by rw [z, hx] at h; cases h) h))
  · exact .inl (.inr ⟨o, e a _ (fun z => by rw [z, hx] at h; cases h) h⟩)
  · exact .inr h
theorem tuf_off {x C dx a : Addr} {fs : List (Str × V)} {H H' : Hp} {xs : List V} (e : Off x H H') (hx : H x = some (.ins C dx fs)) (h : TupF H a xs) : TupF H' a xs := by
  obtain ⟨o, h, r⟩ := h
  exact ⟨o, e a _ (fun z => by rw [z, hx] at h; cases h) h, r⟩
/-- the texts among the values -/
def strsOf (xs : List V) : List Str := xs.filterMap fun | .str z => some z | _ => none
theorem strsOf_map (cs : List Str) : strsOf (cs.map V.str) = cs := by
  unfold strsOf
  rw [List.filterMap_map]
  induction cs with
  | nil => rfl
  | cons c cs ih =>
    rw [List.filterMap_cons]
    simp only [Function.comp]
    rw [show List.filterMap ((fun | V.str z => some z | _ => none) ∘ V.str) cs = cs from ih]
abbrev othersOf (cs ks : List Str) : List Str := cs.filter fun c => !decide (c ∈ ks)
/-- what is wrong first -/
def dueT (xs : List V) (js : List Bool) (ks fs us : List Str) : Option Str :=
  if (namesB xs js && decide (xs.length ≤ 4)) = false then some ("columns" : Str) else
  if (chosenB ks (strsOf xs) && (decide (1 ≤ ks.length) && decide (ks.length ≤ 2))) = false then some ("key" : Str) else
  if chosenB fs (othersOf (strsOf xs) ks) = false then some ("fixed" : Str) else
  if chosenB us (othersOf (strsOf xs) ks) = false then some ("unique" : Str) else none
theorem others_snoc {cs ks : List Str} {i : Nat} {c : Str} (h : cs[i]? = some c) : othersOf (cs.take (i + 1)) ks = if c ∈ ks then othersOf (cs.take i) ks else othersOf (cs.take i) ks ++ [c] := by
  unfold othersOf
  rw [take_snoc h, List.filter_append]
  by_cases e : c ∈ ks
  · rw [if_pos e]
    simp [e]
  · rw [if_neg e]
    simp [e]
end Spk

set_option Elab.async false
set_option linter.all false
set_option maxRecDepth 100000
set_option maxHeartbeats 4000000
namespace Spk
open PySem L2
local macro_rules | `(tactic| walk_at "rd") => `(tactic| repeat (first
  | with_reducible refine i_seq ?_ | with_reducible refine i_asg ?_ | with_reducible refine i_ret ?_ | with_reducible refine i_ifS ?_ | with_reducible refine i_if ?_
  | with_reducible refine i_for ?_ | with_reducible refine i_iL ?_ | with_reducible refine i_iT ?_ | with_reducible refine i_ckw ?_ | with_reducible refine i_cm ?_ | with_reducible refine And.intro (rfl : V.ref _ = V.ref _) ?_ | with_reducible refine i_rng1 ?_ | with_reducible refine i_bm ?_ | with_reducible refine i_bm0 ?_
  | with_reducible refine i_drop ?_ | with_reducible refine i_next ?_
  | with_reducible refine i_var rfl ?_ | with_reducible refine i_c ?_ | with_reducible refine i_op ?_ | with_reducible refine i_un ?_ | with_reducible refine i_name ?_
  | with_reducible refine i_rI0 ?_ | with_reducible refine i_rU ?_ | with_reducible refine i_rEq rfl ?_ | with_reducible refine i_rNe rfl ?_
  | with_reducible refine i_test ?_ | with_reducible refine i_tB ?_ | with_reducible refine i_and ?_ | with_reducible refine i_or ?_ | with_reducible refine i_not ?_
  | with_reducible refine i_andV ?_ | with_reducible refine i_orV ?_ | with_reducible refine i_notV ?_
  | with_reducible refine i_cons ?_ | with_reducible refine i_nil ?_ | with_reducible refine i_cb ?_ | with_reducible refine i_call ?_ | with_reducible refine i_bl ?_
  | with_reducible refine i_tup ?_ | with_reducible refine i_lst ?_ | with_reducible refine i_par ?_ | with_reducible refine i_gcons ?_ | with_reducible refine i_gnil ?_
  | with_reducible refine And.intro (rfl : V.non = V.non) ?_ | with_reducible refine i_ixT (by assumption) rfl ?_ | with_reducible refine i_ixL (by assumption) rfl ?_ | with_reducible refine i_gtup (by assumption) rfl ?_
  | with_reducible refine i_gsub ?_
  | with_reducible refine Or.inl (Exists.intro _ (And.intro (rfl : [V.int _] = [V.int _]) ?_)) | with_reducible refine Exists.intro _ (And.intro (rfl : [V.int _] = [V.int _]) ?_)
  | with_reducible refine Or.inr (Exists.intro _ (And.intro (rfl : [V.bl _] = [V.bl _]) ?_))
  | with_reducible refine Exists.intro _ (Exists.intro _ (And.intro (rfl : [V.int _, V.int _] = [V.int _, V.int _]) ?_))
  | with_reducible refine Exists.intro _ (Exists.intro _ (And.intro (rfl : [V.ref _] = [V.ref _]) (And.intro (Or.inl (SqL.of (by assumption))) ?_)))
  | with_reducible refine i_rI (show (0 : Int) < _ by assumption) ?_ | with_reducible refine i_rI (show (0 : Int) < _ by decide) ?_
  | with_reducible refine i_rI (pow_ok (Nat.le_of_ble_eq_true rfl) (Nat.le_of_ble_eq_true rfl)) ?_
  | with_reducible refine i_rI (cmulL rfl) ?_))
section
variable {P : Program} {w : World} {K : PySem.W.Frag} {mg : Str → Option Value} {base : Heap} {C fI p g CI fX : Addr} {mc : Value}
abbrev s_Table__init : Stmt := inClass (top 29) 1
theorem sc_Table__init : FnScope ["self", "key", "fixed", "unique", "reuse", "columns", "others", "column"] ["self", "key", "fixed", "unique", "reuse", "columns"] (defScope s_Table__init) := ⟨rfl, rfl, rfl, by decide +kernel, rfl, by decide +kernel, by decide +kernel⟩
def sp_tinit (K : PySem.W.Frag) (C CI : Addr) : Sp := fun vs H Q E => ∃ x dx tk tf tu p, ∃ xs js, ∃ ks fs us : List Str, ∃ r : Bool, vs = [.ref x, .ref tk, .ref tf, .ref tu, .bl r, .ref p] ∧ H x = some (.ins C dx []) ∧ TupF H p xs ∧ xs.length ≤ 100 ∧ Paired (NmV K H) xs js ∧
  TuS K H tk (ks.map V.str) ∧ TuS K H tf (fs.map V.str) ∧ TuS K H tu (us.map V.str) ∧ ks.length ≤ 100 ∧ fs.length ≤ 100 ∧ us.length ≤ 100 ∧
  (∀ rs, dueT xs js ks fs us = some rs → Told CI H E rs) ∧
  (∀ cs, dueT xs js ks fs us = none → xs = cs.map V.str → ∀ H', Off x H H' → Tab C H' x ⟨cs, among cs ks, among cs fs, among cs us, r⟩ → Q .non H')
theorem told_up {CI : Addr} {H H' : Hp} {E : XK} {r : Str} (s : Same H H') (h : Told CI H E r) : Told CI H' E r := fun d H2 s2 hd => h d H2 (fun b o z => s2 _ _ (s _ _ z)) hd
theorem run_tinit {fA fC fO : Addr} {fdA fdC fdO fdX : FuncData} (T : ClsT K mg C fI mc p g) (XI : XIt K mg CI fX) (B_iinit : Binds K fdX ["self", "reason"] []) (G_iinit : FnOk P w K mg base CX0 1 fX fdX ["self", "reason"] (sp_iinit CI))
    (F_are_names : Fun K "are_names" "are_names" s_are_names fA fdA) (B_are_names : Binds K fdA ["things"] []) (g_are_names : mg "are_names" = some (.ref fA)) (G_are_names : FnOk P w K mg base CX0 2 fA fdA ["things"] (sp_are_names K))
    (F_are_chosen : Fun K "are_chosen" "are_chosen" s_are_chosen fC fdC) (B_are_chosen : Binds K fdC ["names", "columns"] []) (g_are_chosen : mg "are_chosen" = some (.ref fC)) (G_are_chosen : FnOk P w K mg base CX0 1 fC fdC ["names", "columns"] (sp_are_chosen K))
    (F_in_order_of : Fun K "in_order_of" "in_order_of" s_in_order_of fO fdO) (B_in_order_of : Binds K fdO ["columns", "names"] []) (g_in_order_of : mg "in_order_of" = some (.ref fO)) (G_in_order_of : FnOk P w K mg base CX0 1 fO fdO ["columns", "names"] (sp_in_order_of K))
    (z_len : mg "len" = none) {f : Addr} {cdv : Value} {A : Around} {outer : List Env} {s : Shared} {H : Hp} {vs : List V} {Q : VK} {E : XK} (hr : Room 2 (A.deeper (PyProof.Rows.envOfC "Table.__init__" (defScope s_Table__init) s.heap.objs.size f cdv))) (h : sp_tinit K C CI vs H Q E) :
    ∃ t, PSs (cxOf (L2.CX P w) P w K mg base ["self", "key", "fixed", "unique", "reuse", "columns", "others", "column"] "Table.__init__" (defScope s_Table__init) f cdv A outer s H E) (defBody s_Table__init) t ∧ t { nx := fun _ H1 => Q .non H1, rt := Q } (L2.start ["self", "key", "fixed", "unique", "reuse", "columns", "others", "column"] vs) H := by
  have g_C := T.g_C
  obtain ⟨u4, hmost⟩ := T.most
  obtain ⟨x, dx, tk, tf, tu, p, xs, js, ks, fs, us, r, rfl, hx, hp, hz, nm, hk, hf, hu, kz, fz, uz, qe, q⟩ := h
  refine ⟨_, (pss_cons (ps_if (pt_not (PW.pt (pw_and (pt_val (pe_call G_are_names (hr.mono (by decide)) rfl g_are_names F_are_names.kp B_are_names .nil pass0 (pa_cons (pv 5) pa_nil))) (pw_and1 (pt_cmpR op_le (pe_callB call_len_seq (by rfl) z_len PySem.boot_len (pa_cons (pv 5) pa_nil)) (ClX.pe_cval (pe_glob rfl g_C (relR _)) rfl) (nomark _))))))
 (pss_one (ps_raise rfl (takes_of rfl rfl rfl rfl) (pmk_oex XI.o XI.iC XI.tI G_iinit (hr.mono (by decide)) B_iinit .nil pass0 rfl XI.g (pa_cons pe_str pa_nil))))
 pss_nil)
 (pss_cons (ps_if (pt_not (PW.pt (pw_and (pt_val (pe_call G_are_chosen (hr.mono (by decide)) rfl g_are_chosen F_are_chosen.kp B_are_chosen .nil pass0 (pa_cons (pv 1) (pa_cons (pv 5) pa_nil)))) (pw_and1 (pt_chain op_le op_le pe_int (pe_callB call_len_seq (by rfl) z_len PySem.boot_len (pa_cons (pv 1) pa_nil)) pe_int)))))
 (pss_one (ps_raise rfl (takes_of rfl rfl rfl rfl) (pmk_oex XI.o XI.iC XI.tI G_iinit (hr.mono (by decide)) B_iinit .nil pass0 rfl XI.g (pa_cons pe_str pa_nil))))
 pss_nil)
 (pss_cons (ps_setLc (i := 6) (own := [("column", 7)]) (g := gName 7) rfl sc_Table__init.nd rfl rfl (sw_true rfl rfl rfl (by decide +kernel)) (pi_tup (pv 5)) (blkOk_by (own := [("column", 7)]) (N := ["self", "key", "fixed", "unique", "reuse", "columns", "others", "column"]) (sc := defScope s_Table__init) (by decide +kernel)) (fun _ _ _ _ _ => pg_name (i := 7) sc_Table__init.nd rfl (Or.inl rfl)) (fun _ _ _ _ _ => pts_one (pt_cmpR (op_notInK (K := K) rfl) (pv 7) (pv 1) (by rfl))) (fun _ _ _ _ _ => (pv 7)))
 (pss_cons (ps_if (pt_not (pt_val (pe_call G_are_chosen (hr.mono (by decide)) rfl g_are_chosen F_are_chosen.kp B_are_chosen .nil pass0 (pa_cons (pv 2) (pa_cons (pv 6) pa_nil)))))
 (pss_one (ps_raise rfl (takes_of rfl rfl rfl rfl) (pmk_oex XI.o XI.iC XI.tI G_iinit (hr.mono (by decide)) B_iinit .nil pass0 rfl XI.g (pa_cons pe_str pa_nil))))
 pss_nil)
 (pss_cons (ps_if (pt_not (pt_val (pe_call G_are_chosen (hr.mono (by decide)) rfl g_are_chosen F_are_chosen.kp B_are_chosen .nil pass0 (pa_cons (pv 3) (pa_cons (pv 6) pa_nil)))))
 (pss_one (ps_raise rfl (takes_of rfl rfl rfl rfl) (pmk_oex XI.o XI.iC XI.tI G_iinit (hr.mono (by decide)) B_iinit .nil pass0 rfl XI.g (pa_cons pe_str pa_nil))))
 pss_nil)
 (pss_cons (ps_fld (pv 0) (pv 5) rfl)
 (pss_cons (ps_fld (pv 0) (pe_call G_in_order_of (hr.mono (by decide)) rfl g_in_order_of F_in_order_of.kp B_in_order_of .nil pass0 (pa_cons (pv 5) (pa_cons (pv 1) pa_nil))) rfl)
 (pss_cons (ps_fld (pv 0) (pe_call G_in_order_of (hr.mono (by decide)) rfl g_in_order_of F_in_order_of.kp B_in_order_of .nil pass0 (pa_cons (pv 5) (pa_cons (pv 2) pa_nil))) rfl)
 (pss_cons (ps_fld (pv 0) (pe_call G_in_order_of (hr.mono (by decide)) rfl g_in_order_of F_in_order_of.kp B_in_order_of .nil pass0 (pa_cons (pv 5) (pa_cons (pv 3) pa_nil))) rfl)
 (pss_one (ps_fld (pv 0) (pv 4) rfl))))))))))), ?_⟩
  have jl : xs.length = js.length := Paired.length nm
  walk_at "rd"
  refine ⟨p, xs, js, rfl, hp.seq, hz, nm, fun H1 s1 => ⟨_, rfl, ?_⟩⟩
  -- «columns»
  by_cases cc : (namesB xs js && decide (xs.length ≤ 4)) = false
  · have d1 : dueT xs js ks fs us = some ("columns" : Str) := by unfold dueT; rw [if_pos cc]
    have qx := told_up s1 (qe _ d1)
    cases hn : namesB xs js with
    | false =>
      refine iteF ?_
      refine iteT ?_
      exact err_at qx
    | true =>
      rw [hn, Bool.true_and] at cc
      refine iteT ?_
      walk_at "rd"
      refine ⟨p, _, rfl, .inr (SqT.ext hp.seq s1), ?_⟩
      refine i_cval ?_
      walk_at "rd"
      refine ⟨C, mc, .int 4, u4, rfl, T.rd, hmost, ?_⟩
      walk_at "rd"
      rw [decide_eq_false (show ¬ (xs.length : Int) ≤ 4 by have := of_decide_eq_false cc; omega)]
      refine iteT ?_
      exact err_at qx
  have cc' : (namesB xs js && decide (xs.length ≤ 4)) = true := by simpa using cc
  obtain ⟨hn, h4⟩ := Bool.and_eq_true_iff.mp cc'
  have x4 : xs.length ≤ 4 := of_decide_eq_true h4
  rw [hn]
  refine iteT ?_
  walk_at "rd"
  refine ⟨p, _, rfl, .inr (SqT.ext hp.seq s1), ?_⟩
  refine i_cval ?_
  walk_at "rd"
  refine ⟨C, mc, .int 4, u4, rfl, T.rd, hmost, ?_⟩
  walk_at "rd"
  rw [decide_eq_true (show (xs.length : Int) ≤ 4 by omega)]
  refine iteF ?_
  have ha : js.all id = true := by
    unfold namesB at hn
    exact (Bool.and_eq_true_iff.mp (Bool.and_eq_true_iff.mp hn).2).1
  obtain ⟨cs, rfl, _⟩ := names_of nm ha
  have cz : cs.length ≤ 4 := by simpa using x4
  have so := strsOf_map cs
  walk_at "rd"
  refine ⟨tk, p, ks, cs, rfl, hk.up s1, .inr (SqT.ext hp.seq s1), kz, fun H2 s2 => ⟨_, rfl, ?_⟩⟩
  have s02 : Same H H2 := fun b o z => s2 _ _ (s1 _ _ z)
  have sk2 : SqT K H2 tk (ks.map V.str) := SqT.ext hk.1 s02
  -- «key»
  by_cases kk : (chosenB ks cs && (decide (1 ≤ ks.length) && decide (ks.length ≤ 2))) = false
  · have d1 : dueT (cs.map V.str) js ks fs us = some ("key" : Str) := by unfold dueT; rw [if_neg cc, so, if_pos kk]
    have qx := told_up s02 (qe _ d1)
    cases hcb : chosenB ks cs with
    | false =>
      refine iteF ?_
      refine iteT ?_
      exact err_at qx
    | true =>
      rw [hcb, Bool.true_and] at kk
      refine iteT ?_
      walk_at "rd"
      refine i_chain ?_
      walk_at "rd"
      refine ⟨tk, _, rfl, .inr sk2, ?_⟩
      walk_at "rd"
      rw [List.length_map]
      by_cases k1 : 1 ≤ ks.length
      · rw [decide_eq_true (show (1 : Int) ≤ (ks.length : Int) by omega)]
        rw [decide_eq_true k1, Bool.true_and] at kk
        refine iteT ?_
        walk_at "rd"
        rw [decide_eq_false (show ¬ (ks.length : Int) ≤ 2 by have := of_decide_eq_false kk; omega)]
        refine iteT ?_
        exact err_at qx
      · rw [decide_eq_false (show ¬ (1 : Int) ≤ (ks.length : Int) by omega)]
        refine iteF ?_
        refine ⟨false, rfl, iteT ?_⟩
        exact err_at qx
  have kk' : (chosenB ks cs && (decide (1 ≤ ks.length) && decide (ks.length ≤ 2))) = true := by simpa using kk
  obtain ⟨hcb, k12⟩ := Bool.and_eq_true_iff.mp kk'
  obtain ⟨k1, k2⟩ := Bool.and_eq_true_iff.mp k12
  have k1 := of_decide_eq_true k1
  have k2 := of_decide_eq_true k2
  rw [hcb]
  refine iteT ?_
  walk_at "rd"
  refine i_chain ?_
  walk_at "rd"
  refine ⟨tk, _, rfl, .inr sk2, ?_⟩
  walk_at "rd"
  rw [List.length_map, decide_eq_true (show (1 : Int) ≤ (ks.length : Int) by omega)]
  refine iteT ?_
  walk_at "rd"
  rw [decide_eq_true (show (ks.length : Int) ≤ 2 by omega)]
  refine iteF ?_
  walk_at "rd"
  have hx2 : H2 x = some (.ins C dx []) := s02 _ _ hx
  have hp2 : TupF H2 p (cs.map V.str) := hp.up s02
  have hf2 := hf.up s02
  have hu2 := hu.up s02
  unfold tLc
  walk_at "rd"
  refine ⟨p, rfl, ⟨_, hp2.seq⟩, fun D hD => ?_⟩
  obtain ⟨H3, e3, s3, h3⟩ := new_heap (o := .lst []) hD
  refine lc_tup (K := K) (a := p) (xs := cs.map V.str) (fun i H' => Same H2 H' ∧ H' D = some (.lst ((othersOf (cs.take i) ks).map V.str))) ⟨by rw [e3]; exact s3, by rw [e3]; exact h3⟩ ?_ ?_ ?_
  · rintro i H' _ ⟨s4, _⟩
    exact SqT.ext hp2.seq s4
  · rintro i y H4 hy ⟨s4, h4⟩
    obtain ⟨c, hc, rfl⟩ := str_at hy
    have hi : i < cs.length := (List.getElem?_eq_some_iff.mp hc).1
    walk_at "rd"
    refine ⟨rfl, ?_⟩
    walk_at "rd"
    refine notIn_at (.inr (SqT.ext sk2 s4)) ⟨_, rfl, ?_⟩
    refine ite_nd (fun hm => ?_) (fun hm => ?_)
    · walk_at "rd"
      refine ⟨_, h4, size_lt ?_, Same.mut s4 hD, ?_⟩
      · rw [List.length_map]
        refine Nat.le_trans (List.length_filter_le ..) ?_
        rw [List.length_take]
        omega
      · rw [others_snoc hc, if_neg hm, upd_same, List.map_append]
        rfl
    · refine ⟨s4, ?_⟩
      rw [others_snoc hc, if_pos hm]
      exact h4
  · rintro H4 ⟨s4, h4⟩
    rw [List.length_map, List.take_length] at h4
    walk_at "rd"
    have s04 : Same H H4 := fun b o z => s4 _ _ (s02 _ _ z)
    refine ⟨tf, D, fs, othersOf cs ks, rfl, hf2.up s4, .inl (SqL.of h4), fz, fun H5 s5 => ⟨_, rfl, ?_⟩⟩
    have s05 : Same H H5 := fun b o z => s5 _ _ (s04 _ _ z)
    -- «fixed»
    cases ff : chosenB fs (othersOf cs ks) with
    | false =>
      have d1 : dueT (cs.map V.str) js ks fs us = some ("fixed" : Str) := by unfold dueT; rw [if_neg cc, so, if_neg kk, if_pos ff]
      refine iteT ?_
      exact err_at (told_up s05 (qe _ d1))
    | true =>
    refine iteF ?_
    walk_at "rd"
    refine ⟨tu, D, us, othersOf cs ks, rfl, (hu2.up s4).up s5, .inl (SqL.of (s5 _ _ h4)), uz, fun H6 s6 => ⟨_, rfl, ?_⟩⟩
    have s06' : Same H H6 := fun b o z => s6 _ _ (s05 _ _ z)
    -- «unique»
    cases uu : chosenB us (othersOf cs ks) with
    | false =>
      have d1 : dueT (cs.map V.str) js ks fs us = some ("unique" : Str) := by unfold dueT; rw [if_neg cc, so, if_neg kk, if_neg (by rw [ff]; decide), if_pos uu]
      refine iteT ?_
      exact err_at (told_up s06' (qe _ d1))
    | true =>
    have dn : dueT (cs.map V.str) js ks fs us = none := by unfold dueT; rw [if_neg cc, so, if_neg kk, if_neg (by rw [ff]; decide), if_neg (by rw [uu]; decide)]
    have q := q cs dn rfl
    refine iteF ?_
    walk_at "rd"
    have s26 : Same H2 H6 := fun b o z => s6 _ _ (s5 _ _ (s4 _ _ z))
    have hx6 : H6 x = some (.ins C dx []) := s26 _ _ hx2
    have s06 : Same H H6 := fun b o z => s26 _ _ (s02 _ _ z)
    have hp6 := hp2.up s26
    have hk6 : SqT K H6 tk (ks.map V.str) := SqT.ext sk2 s26
    have hf6 := (hf2.up s26).1
    have hu6 := (hu2.up s26).1
    refine i_fld ?_
    walk_at "rd"
    refine ⟨x, C, dx, [], rfl, hx6, T.cl, T.nC, (by show 0 < 1000; decide), ?_⟩
    obtain ⟨H7, e7⟩ : ∃ H7, upd H6 x (.ins C dx (putF "columns" (.ref p) [])) = H7 := ⟨_, rfl⟩
    have o7 : Off x H6 H7 := by rw [← e7]; exact off_upd
    have hx7 : H7 x = some (.ins C dx [("columns", .ref p)]) := by rw [← e7, upd_same]; rfl
    rw [e7]
    walk_at "rd"
    refine i_fld ?_
    walk_at "rd"
    refine ⟨p, tk, cs, ks, rfl, (tuf_off o7 hx6 hp6).seq, sqt_off o7 hx6 hk6, by omega, fun q1 H8 s8 h8 => ?_⟩
    walk_at "rd"
    have hx8 := s8 _ _ hx7
    refine ⟨x, C, dx, _, rfl, hx8, T.cl, T.nK, (by show 1 < 1000; decide), ?_⟩
    obtain ⟨H9, e9⟩ : ∃ H9, upd H8 x (.ins C dx (putF "key" (.ref q1) [("columns", .ref p)])) = H9 := ⟨_, rfl⟩
    have o9 : Off x H8 H9 := by rw [← e9]; exact off_upd
    have hx9 : H9 x = some (.ins C dx [("columns", .ref p), ("key", .ref q1)]) := by rw [← e9, upd_same]; rfl
    rw [e9]
    have o79 : Off x H7 H9 := (off_of s8).trans o9
    have o69 : Off x H6 H9 := o7.trans o79
    have ne1 : q1 ≠ x := fun z => by rw [z, hx8] at h8; cases h8
    have h9 := o9 _ _ ne1 h8
    walk_at "rd"
    refine i_fld ?_
    walk_at "rd"
    refine ⟨p, tf, cs, fs, rfl, (tuf_off o69 hx6 hp6).seq, sqt_off o69 hx6 hf6, by omega, fun q2 H10 s10 h10 => ?_⟩
    walk_at "rd"
    have hx10 := s10 _ _ hx9
    refine ⟨x, C, dx, _, rfl, hx10, T.cl, T.nF, (by show 2 < 1000; decide), ?_⟩
    obtain ⟨H11, e11⟩ : ∃ H11, upd H10 x (.ins C dx (putF "fixed" (.ref q2) [("columns", .ref p), ("key", .ref q1)])) = H11 := ⟨_, rfl⟩
    have o11 : Off x H10 H11 := by rw [← e11]; exact off_upd
    have hx11 : H11 x = some (.ins C dx [("columns", .ref p), ("key", .ref q1), ("fixed", .ref q2)]) := by rw [← e11, upd_same]; rfl
    rw [e11]
    have o911 : Off x H9 H11 := (off_of s10).trans o11
    have o611 : Off x H6 H11 := o69.trans o911
    have ne2 : q2 ≠ x := fun z => by rw [z, hx10] at h10; cases h10
    have h11 := o11 _ _ ne2 h10
    walk_at "rd"
    refine i_fld ?_
    walk_at "rd"
    refine ⟨p, tu, cs, us, rfl, (tuf_off o611 hx6 hp6).seq, sqt_off o611 hx6 hu6, by omega, fun q3 H12 s12 h12 => ?_⟩
    walk_at "rd"
    have hx12 := s12 _ _ hx11
    refine ⟨x, C, dx, _, rfl, hx12, T.cl, T.nU, (by show 3 < 1000; decide), ?_⟩
    obtain ⟨H13, e13⟩ : ∃ H13, upd H12 x (.ins C dx (putF "unique" (.ref q3) [("columns", .ref p), ("key", .ref q1), ("fixed", .ref q2)])) = H13 := ⟨_, rfl⟩
    have o13 : Off x H12 H13 := by rw [← e13]; exact off_upd
    have hx13 : H13 x = some (.ins C dx [("columns", .ref p), ("key", .ref q1), ("fixed", .ref q2), ("unique", .ref q3)]) := by rw [← e13, upd_same]; rfl
    rw [e13]
    have ne3 : q3 ≠ x := fun z => by rw [z, hx12] at h12; cases h12
    have h13 := o13 _ _ ne3 h12
    walk_at "rd"
    dsimp only
    refine i_fld ?_
    walk_at "rd"
    refine ⟨x, C, dx, _, rfl, hx13, T.cl, T.nR, (by show 4 < 1000; decide), ?_⟩
    obtain ⟨H14, e14⟩ : ∃ H14, upd H13 x (.ins C dx (putF "reuse" (.bl r) [("columns", .ref p), ("key", .ref q1), ("fixed", .ref q2), ("unique", .ref q3)])) = H14 := ⟨_, rfl⟩
    have o14 : Off x H13 H14 := by rw [← e14]; exact off_upd
    have hx14 : H14 x = some (.ins C dx (flds p q1 q2 q3 r)) := by rw [← e14, upd_same]; rfl
    rw [e14]
    have o1114 : Off x H11 H14 := ((off_of s12).trans o13).trans o14
    have o914 : Off x H9 H14 := o911.trans o1114
    have o614 : Off x H6 H14 := o69.trans o914
    exact q H14 ((off_of s06).trans o614) ⟨dx, p, q1, q2, q3, hx14, tuf_off o614 hx6 hp6, o914 _ _ ne1 h9, o1114 _ _ ne2 h11, o14 _ _ ne3 h13⟩
end
end Spk

set_option Elab.async false
set_option linter.all false
set_option maxRecDepth 100000
set_option maxHeartbeats 2000000
namespace Spk
open PySem L2
local macro_rules | `(tactic| walk_at "rd") => `(tactic| repeat (first
  | with_reducible refine i_seq ?_ | with_reducible refine i_asg ?_ | with_reducible refine i_ret ?_ | with_reducible refine i_ifS ?_ | with_reducible refine i_if ?_
  | with_reducible refine i_for ?_ | with_reducible refine i_iL ?_ | with_reducible refine i_iT ?_ | with_reducible refine i_ckw ?_ | with_reducible refine i_cm ?_ | with_reducible refine And.intro (rfl : V.ref _ = V.ref _) ?_ | with_reducible refine i_rng1 ?_ | with_reducible refine i_bm ?_ | with_reducible refine i_bm0 ?_
  | with_reducible refine i_drop ?_ | with_reducible refine i_next ?_
  | with_reducible refine i_var rfl ?_ | with_reducible refine i_c ?_ | with_reducible refine i_op ?_ | with_reducible refine i_un ?_ | with_reducible refine i_name ?_
  | with_reducible refine i_rI0 ?_ | with_reducible refine i_rU ?_ | with_reducible refine i_rEq rfl ?_ | with_reducible refine i_rNe rfl ?_
  | with_reducible refine i_test ?_ | with_reducible refine i_tB ?_ | with_reducible refine i_and ?_ | with_reducible refine i_or ?_ | with_reducible refine i_not ?_
  | with_reducible refine i_andV ?_ | with_reducible refine i_orV ?_ | with_reducible refine i_notV ?_
  | with_reducible refine i_cons ?_ | with_reducible refine i_nil ?_ | with_reducible refine i_cb ?_ | with_reducible refine i_call ?_ | with_reducible refine i_bl ?_
  | with_reducible refine i_tup ?_ | with_reducible refine i_lst ?_ | with_reducible refine i_par ?_ | with_reducible refine i_gcons ?_ | with_reducible refine i_gnil ?_
  | with_reducible refine And.intro (rfl : V.non = V.non) ?_ | with_reducible refine i_ixT (by assumption) rfl ?_ | with_reducible refine i_ixL (by assumption) rfl ?_ | with_reducible refine i_gtup (by assumption) rfl ?_
  | with_reducible refine i_gsub ?_
  | with_reducible refine Or.inl (Exists.intro _ (And.intro (rfl : [V.int _] = [V.int _]) ?_)) | with_reducible refine Exists.intro _ (And.intro (rfl : [V.int _] = [V.int _]) ?_)
  | with_reducible refine Or.inr (Exists.intro _ (And.intro (rfl : [V.bl _] = [V.bl _]) ?_))
  | with_reducible refine Exists.intro _ (Exists.intro _ (And.intro (rfl : [V.int _, V.int _] = [V.int _, V.int _]) ?_))
  | with_reducible refine Exists.intro _ (Exists.intro _ (And.intro (rfl : [V.ref _] = [V.ref _]) (And.intro (Or.inl (SqL.of (by assumption))) ?_)))
  | with_reducible refine i_rI (show (0 : Int) < _ by assumption) ?_ | with_reducible refine i_rI (show (0 : Int) < _ by decide) ?_
  | with_reducible refine i_rI (pow_ok (Nat.le_of_ble_eq_true rfl) (Nat.le_of_ble_eq_true rfl)) ?_
  | with_reducible refine i_rI (cmulL rfl) ?_))
section
variable {P : Program} {w : World} {K : PySem.W.Frag} {mg : Str → Option Value} {base : Heap} {C fI p g CI fX : Addr} {mc : Value}
abbrev kwN : List Str := ["key", "fixed", "unique", "reuse"]
theorem bind_tinit {kV doc pm : Value} {an : Option Addr} {cdv ct : Value} : ∀ us rest ws : List Value, us.length = (["self"] : List Str).length → ws.length = kwN.length →
    bindArgs (PySem.W.fnOf "__init__" "Table.__init__" (defArgs s_Table__init) (defBody s_Table__init) (defScope s_Table__init) .none kV doc pm an cdv ct) ⟨us ++ rest, kwN.zip ws⟩ = (newTuple rest >>= fun t => pure (((["self"] : List Str) ++ kwN).zip (us ++ ws) ++ [(("columns" : Str), t)]))
  | [u], [], [a, b, c, d], _, _ => rfl
  | [u], r :: rs, [a, b, c, d], _, _ => rfl
abbrev mK (K : PySem.W.Frag) (C CI : Addr) : List V → List V → Hp → VK → XK → Prop := fun vs zs H Q E => ∃ ws rest, vs = ws ++ rest ∧ ws.length = (["self"] : List Str).length ∧ rest.length ≤ sizeLine ∧ ∀ p o, H p = none → o.cls = .type "tuple" → o.dict = none → sp_tinit K C CI (ws ++ zs ++ [V.ref p]) (upd H p (.frz o (.tup rest))) Q E
theorem ok_tinit {fd fdX : FuncData} {fA fC fO : Addr} {fdA fdC fdO : FuncData} (F : Fun K "__init__" "Table.__init__" s_Table__init fI fd) (T : ClsT K mg C fI mc p g) (XI : XIt K mg CI fX) (B_iinit : Binds K fdX ["self", "reason"] []) (G_iinit : FnOk P w K mg base CX0 1 fX fdX ["self", "reason"] (sp_iinit CI))
    (F_are_names : Fun K "are_names" "are_names" s_are_names fA fdA) (B_are_names : Binds K fdA ["things"] []) (g_are_names : mg "are_names" = some (.ref fA)) (G_are_names : FnOk P w K mg base CX0 2 fA fdA ["things"] (sp_are_names K))
    (F_are_chosen : Fun K "are_chosen" "are_chosen" s_are_chosen fC fdC) (B_are_chosen : Binds K fdC ["names", "columns"] []) (g_are_chosen : mg "are_chosen" = some (.ref fC)) (G_are_chosen : FnOk P w K mg base CX0 1 fC fdC ["names", "columns"] (sp_are_chosen K))
    (F_in_order_of : Fun K "in_order_of" "in_order_of" s_in_order_of fO fdO) (B_in_order_of : Binds K fdO ["columns", "names"] []) (g_in_order_of : mg "in_order_of" = some (.ref fO)) (G_in_order_of : FnOk P w K mg base CX0 1 fO fdO ["columns", "names"] (sp_in_order_of K))
    (z_len : mg "len" = none) : FnK P w K mg base (L2.CX P w) 3 fI kwN (mK K C CI) := by
  obtain ⟨oc, od, kV, doc, pm, an, cdv, ct, osl, rfl, lk, hcd⟩ := F.ex
  refine fn_starK (ps := ["self"]) (ks := kwN) (pv := "columns") lk hcd sc_Table__init StX.cxUp bind_tinit fun A outer s H vs Q E hr h => ?_
  exact run_tinit T XI B_iinit G_iinit F_are_names B_are_names g_are_names G_are_names F_are_chosen B_are_chosen g_are_chosen G_are_chosen F_in_order_of B_in_order_of g_in_order_of G_in_order_of z_len hr h
/-- what is asked of a making: the error, or the table -/
structure Asks (C CI : Addr) (H : Hp) (Q : VK) (E : XK) (xs : List V) (js : List Bool) (ks fs us : List Str) (r : Bool) : Prop where
  no : ∀ rs, dueT xs js ks fs us = some rs → Told CI H E rs
  yes : ∀ cs, dueT xs js ks fs us = none → xs = cs.map V.str → ∀ x H', Same H H' → Tab C H' x ⟨cs, among cs ks, among cs fs, among cs us, r⟩ → Q (.ref x) H'
theorem Asks.up {C CI : Addr} {H H' : Hp} {Q : VK} {E : XK} {xs : List V} {js : List Bool} {ks fs us : List Str} {r : Bool} (s : Same H H') (h : Asks C CI H Q E xs js ks fs us r) : Asks C CI H' Q E xs js ks fs us r :=
  ⟨fun rs d => told_up s (h.no rs d), fun cs d e x H2 s2 t => h.yes cs d e x H2 (fun b o z => s2 _ _ (s _ _ z)) t⟩
/-- what is handed in -/
structure Given (K : PySem.W.Frag) (H : Hp) (xs : List V) (js : List Bool) (tk tf tu : Addr) (ks fs us : List Str) : Prop where
  z : xs.length ≤ 100
  nm : Paired (NmV K H) xs js
  k : TuS K H tk (ks.map V.str)
  f : TuS K H tf (fs.map V.str)
  u : TuS K H tu (us.map V.str)
  kz : ks.length ≤ 100
  fz : fs.length ≤ 100
  uz : us.length ≤ 100
theorem Given.up {K : PySem.W.Frag} {H H' : Hp} {xs : List V} {js : List Bool} {tk tf tu : Addr} {ks fs us : List Str} (s : Same H H') (h : Given K H xs js tk tf tu ks fs us) : Given K H' xs js tk tf tu ks fs us :=
  ⟨h.z, Paired.mapP h.nm fun _ _ q => q.up s, h.k.up s, h.f.up s, h.u.up s, h.kz, h.fz, h.uz⟩
theorem mk_tab {H : Hp} {Q : VK} {E : XK} {xs : List V} {js : List Bool} {tk tf tu : Addr} {ks fs us : List Str} {r : Bool} (gv : Given K H xs js tk tf tu ks fs us) (as : Asks C CI H Q E xs js ks fs us r) :
    ∀ x dx, H x = none → H dx = none → dx ≠ x → mK K C CI (V.ref x :: xs) [.ref tk, .ref tf, .ref tu, .bl r] (upd (upd H dx (.own x)) x (.ins C dx [])) (fun v H3 => v = .non ∧ Q (.ref x) H3) E := by
  intro x dx hx hdx hne
  refine ⟨[.ref x], xs, rfl, rfl, size_of (by have := gv.z; omega), fun p' o hp' oc od => ?_⟩
  have xp : x ≠ p' := fun z => by rw [← z, upd_same] at hp'; cases hp'
  have s2 : Same H (upd (upd (upd H dx (.own x)) x (.ins C dx [])) p' (.frz o (.tup xs))) := fun b u e => by
    have n1 := ne_of_none e hx
    have n2 := ne_of_none e hdx
    have n3 : b ≠ p' := fun z => by
      rw [← z, upd_ne n1, upd_ne n2, e] at hp'
      cases hp'
    rw [upd_ne n3, upd_ne n1, upd_ne n2]
    exact e
  have gv2 := gv.up s2
  refine ⟨x, dx, tk, tf, tu, p', xs, js, ks, fs, us, r, rfl, by rw [upd_ne xp]; exact upd_same, ⟨o, upd_same, oc, od⟩, gv2.z, gv2.nm, gv2.k, gv2.f, gv2.u, gv2.kz, gv2.fz, gv2.uz, fun rs d => told_up s2 (as.no rs d), fun cs d e H' off tb => ⟨rfl, as.yes cs d e x H' (fun b u e1 => ?_) tb⟩⟩
  exact off b u (ne_of_none e1 hx) (s2 _ _ e1)
abbrev s_Table_of : Stmt := inClass (top 29) 2
theorem sc_Table_of : FnScope ["cls", "columns", "key", "fixed", "unique", "reuse", "names"] ["cls", "columns", "key", "fixed", "unique", "reuse"] (defScope s_Table_of) := ⟨rfl, rfl, rfl, by decide +kernel, rfl, by decide +kernel, by decide +kernel⟩
def sp_tof (K : PySem.W.Frag) (C CI : Addr) : Sp := fun vs H Q E => ∃ l tk tf tu, ∃ xs js, ∃ ks fs us : List Str, ∃ r : Bool, vs = [.ref C, .ref l, .ref tk, .ref tf, .ref tu, .bl r] ∧ (H l = some (.lst xs) ∨ H l = some (.tup xs)) ∧ Given K H xs js tk tf tu ks fs us ∧ Asks C CI H Q E xs js ks fs us r
theorem ok_tof {f fS : Addr} {fd fdS : FuncData} (F : Fun K "of" "Table.of" s_Table_of f fd) (T : ClsT K mg C fI mc p g) (FI : FnK P w K mg base (L2.CX P w) 3 fI kwN (mK K C CI))
    (F_sequence_of : Fun K "sequence_of" "sequence_of" s_sequence_of fS fdS) (B_sequence_of : Binds K fdS ["things"] []) (g_sequence_of : mg "sequence_of" = some (.ref fS)) (G_sequence_of : FnOk P w K mg base CX0 1 fS fdS ["things"] (sp_sequence_of K)) :
    FnOk P w K mg base (L2.CX P w) 5 f fd ["cls", "columns", "key", "fixed", "unique", "reuse"] (sp_tof K C CI) := by
  have M := T.M
  have g_C := T.g_C
  refine F.okX sc_Table_of (fun vs H Q E h => ?_) (fun cdv A outer s H vs Q E hr h => ?_)
  · obtain ⟨l, tk, tf, tu, xs, js, ks, fs, us, r, rfl, _⟩ := h
    rfl
  · obtain ⟨l, tk, tf, tu, xs, js, ks, fs, us, r, rfl, hl, gv, as⟩ := h
    refine ⟨_, (pss_cons (ps_set (i := 6) sc_Table_of.nd rfl (Or.inl rfl) (pe_call G_sequence_of (hr.mono (by decide)) rfl g_sequence_of F_sequence_of.kp B_sequence_of .nil pass0 (pa_cons (pv 1) pa_nil)))
 (pss_one (ps_ret (pe_makeSK M FI (hr.mono (by decide)) rfl g_C (passE (takes_of rfl rfl rfl rfl)) (pv 6) (pk_cons (pv 2) (pk_cons (pv 3) (pk_cons (pv 4) (pk_cons (pv 5) pk_nil)))))))), ?_⟩
    walk_at "rd"
    refine ⟨l, _, rfl, hl, fun t H1 s1 h1 => ?_⟩
    walk_at "rd"
    unfold tMakeSK
    walk_at "rd"
    refine ⟨t, xs, rfl, ?_⟩
    walk_at "rd"
    exact ⟨.inl (SqT.of h1), rfl, mk_tab (gv.up s1) (as.up s1)⟩
end
end Spk

set_option Elab.async false
set_option linter.all false
set_option maxRecDepth 100000
set_option maxHeartbeats 4000000
namespace Spk
open PySem L2
local macro_rules | `(tactic| walk_at "rd") => `(tactic| repeat (first
  | with_reducible refine i_seq ?_ | with_reducible refine i_asg ?_ | with_reducible refine i_ret ?_ | with_reducible refine i_ifS ?_ | with_reducible refine i_if ?_
  | with_reducible refine i_for ?_ | with_reducible refine i_iL ?_ | with_reducible refine i_iT ?_ | with_reducible refine i_ckw ?_ | with_reducible refine i_cm ?_ | with_reducible refine And.intro (rfl : V.ref _ = V.ref _) ?_ | with_reducible refine i_rng1 ?_ | with_reducible refine i_bm ?_ | with_reducible refine i_bm0 ?_
  | with_reducible refine i_drop ?_ | with_reducible refine i_next ?_
  | with_reducible refine i_var rfl ?_ | with_reducible refine i_c ?_ | with_reducible refine i_op ?_ | with_reducible refine i_un ?_ | with_reducible refine i_name ?_
  | with_reducible refine i_rI0 ?_ | with_reducible refine i_rU ?_ | with_reducible refine i_rEq rfl ?_ | with_reducible refine i_rNe rfl ?_
  | with_reducible refine i_test ?_ | with_reducible refine i_tB ?_ | with_reducible refine i_and ?_ | with_reducible refine i_or ?_ | with_reducible refine i_not ?_
  | with_reducible refine i_andV ?_ | with_reducible refine i_orV ?_ | with_reducible refine i_notV ?_
  | with_reducible refine i_cons ?_ | with_reducible refine i_nil ?_ | with_reducible refine i_cb ?_ | with_reducible refine i_call ?_ | with_reducible refine i_bl ?_
  | with_reducible refine i_tup ?_ | with_reducible refine i_lst ?_ | with_reducible refine i_par ?_ | with_reducible refine i_gcons ?_ | with_reducible refine i_gnil ?_
  | with_reducible refine And.intro (rfl : V.non = V.non) ?_ | with_reducible refine i_ixT (by assumption) rfl ?_ | with_reducible refine i_ixL (by assumption) rfl ?_ | with_reducible refine i_gtup (by assumption) rfl ?_
  | with_reducible refine i_gsub ?_
  | with_reducible refine Or.inl (Exists.intro _ (And.intro (rfl : [V.int _] = [V.int _]) ?_)) | with_reducible refine Exists.intro _ (And.intro (rfl : [V.int _] = [V.int _]) ?_)
  | with_reducible refine Or.inr (Exists.intro _ (And.intro (rfl : [V.bl _] = [V.bl _]) ?_))
  | with_reducible refine Exists.intro _ (Exists.intro _ (And.intro (rfl : [V.int _, V.int _] = [V.int _, V.int _]) ?_))
  | with_reducible refine Exists.intro _ (Exists.intro _ (And.intro (rfl : [V.ref _] = [V.ref _]) (And.intro (Or.inl (SqL.of (by assumption))) ?_)))
  | with_reducible refine i_rI (show (0 : Int) < _ by assumption) ?_ | with_reducible refine i_rI (show (0 : Int) < _ by decide) ?_
  | with_reducible refine i_rI (pow_ok (Nat.le_of_ble_eq_true rfl) (Nat.le_of_ble_eq_true rfl)) ?_
  | with_reducible refine i_rI (cmulL rfl) ?_))
/-! ### kinds of things -/
/-- any other value, by its type -/
def Other (K : PySem.W.Frag) (H : Hp) (y : V) : Prop := ∃ t, TyX K H y t ∧ (PySem.W.kitOne K t (.type "int") = some false ∨ (PySem.W.kitOne K t (.type "int") = some true ∧ PySem.W.kitOne K t (.type "bool") = some true))
abbrev absI (n : Int) : Int := if n < 0 then -n else n
abbrev big : Int := (10 : Int) ^ (30 : Int).toNat
/-- what is_value says of it -/
def SaysV (K : PySem.W.Frag) (H : Hp) (y : V) (k : Bool) : Prop := (∃ n, y = .int n ∧ k = decide (absI n < big)) ∨ (Other K H y ∧ k = false)
section
variable {P : Program} {w : World} {K : PySem.W.Frag} {mg : Str → Option Value} {base : Heap}
abbrev s_is_number : Stmt := top 22
theorem sc_is_number : FnScope ["thing"] ["thing"] (defScope s_is_number) := ⟨rfl, rfl, rfl, by decide +kernel, rfl, by decide +kernel, by decide +kernel⟩
def sp_is_number (K : PySem.W.Frag) : Sp := fun vs H Q _ => ∃ y k, vs = [y] ∧ ((∃ n, y = .int n ∧ k = true) ∨ (Other K H y ∧ k = false)) ∧ Q (.bl k) H
theorem ok_is_number {f : Addr} {fd : FuncData} (F : Fun K "is_number" "is_number" s_is_number f fd) (z_isinstance : mg "isinstance" = none) (z_int : mg "int" = none) (z_bool : mg "bool" = none) : FnOk P w K mg base CX0 1 f fd ["thing"] (sp_is_number K) := by
  refine F.ok sc_is_number (fun vs H Q E h => ?_) (fun cdv A outer s H vs Q E hr h => ?_)
  · obtain ⟨y, k, rfl, _⟩ := h
    rfl
  · obtain ⟨y, k, rfl, h, q⟩ := h
    refine ⟨_, (pss_one (ps_ret (pe_and (pe_callB call_isi (by rfl) z_isinstance (by decide +kernel) (pa_cons (pv 0) (pa_cons (pe_bltn (v := .ty "int") (u := .type "int") (by rfl) z_int (by decide +kernel) rfl) pa_nil))) (pe_one (pe_not (pe_callB call_isi (by rfl) z_isinstance (by decide +kernel) (pa_cons (pv 0) (pa_cons (pe_bltn (v := .ty "bool") (u := .type "bool") (by rfl) z_bool (by decide +kernel) rfl) pa_nil)))))))), ?_⟩
    walk_at "rd"
    rcases h with ⟨n, rfl, rfl⟩ | ⟨⟨t, ty, ho⟩, rfl⟩
    · refine ⟨_, _, _, _, true, rfl, .ty "int", .base (.int n), kit_ty (by decide +kernel), true, rfl, iteT ?_⟩
      walk_at "rd"
      refine ⟨_, _, _, _, false, rfl, .ty "bool", .base (.int n), kit_ty (by decide +kernel), false, rfl, ?_⟩
      exact q
    · rcases ho with h1 | ⟨h1, h2⟩
      · exact ⟨_, _, _, _, false, rfl, .ty "int", ty, h1, false, rfl, iteF q⟩
      · refine ⟨_, _, _, _, true, rfl, .ty "int", ty, h1, true, rfl, iteT ?_⟩
        walk_at "rd"
        exact ⟨_, _, _, _, true, rfl, .ty "bool", ty, h2, true, rfl, q⟩
abbrev s_is_value : Stmt := top 23
theorem sc_is_value : FnScope ["thing"] ["thing"] (defScope s_is_value) := ⟨rfl, rfl, rfl, by decide +kernel, rfl, by decide +kernel, by decide +kernel⟩
def sp_is_value (K : PySem.W.Frag) : Sp := fun vs H Q _ => ∃ y k, vs = [y] ∧ SaysV K H y k ∧ Q (.bl k) H
theorem ok_is_value {f fN : Addr} {fd fdN : FuncData} (F : Fun K "is_value" "is_value" s_is_value f fd) (F_is_number : Fun K "is_number" "is_number" s_is_number fN fdN) (B_is_number : Binds K fdN ["thing"] []) (g_is_number : mg "is_number" = some (.ref fN))
    (G_is_number : FnOk P w K mg base CX0 1 fN fdN ["thing"] (sp_is_number K)) (z_abs : mg "abs" = none) : FnOk P w K mg base CX0 2 f fd ["thing"] (sp_is_value K) := by
  refine F.ok sc_is_value (fun vs H Q E h => ?_) (fun cdv A outer s H vs Q E hr h => ?_)
  · obtain ⟨y, k, rfl, _⟩ := h
    rfl
  · obtain ⟨y, k, rfl, h, q⟩ := h
    refine ⟨_, (pss_one (ps_ret (pe_and (pe_call G_is_number (hr.mono (by decide)) rfl g_is_number F_is_number.kp B_is_number .nil pass0 (pa_cons (pv 0) pa_nil)) (pe_one (pe_cmpR op_lt (pe_callB call_abs (by rfl) z_abs (by decide +kernel) (pa_cons (pv 0) pa_nil)) (pe_op op_pow pe_int pe_int) (nomark _)))))), ?_⟩
    walk_at "rd"
    rcases h with ⟨n, rfl, rfl⟩ | ⟨o, rfl⟩
    · refine ⟨.int n, true, rfl, .inl ⟨n, rfl, rfl⟩, true, rfl, iteT ?_⟩
      walk_at "rd"
      exact q
    · exact ⟨y, false, rfl, .inr ⟨o, rfl⟩, false, rfl, iteF q⟩
end
/-! ### rows -/
theorem SaysV.up {K : PySem.W.Frag} {H H' : Hp} {y : V} {k : Bool} (e : Same H H') (h : SaysV K H y k) : SaysV K H' y k := by
  rcases h with ⟨n, h, h2⟩ | ⟨⟨t, ty, o⟩, h⟩
  · exact .inl ⟨n, h, h2⟩
  · exact .inr ⟨⟨t, ty_up e ty, o⟩, h⟩
/-- what is said of each value -/
def cellsL (ks : List Str) : List Str → List V → List Bool → List Bool
  | c :: cs, v :: vs, j :: js => (j || (decide (v = .non) && !decide (c ∈ ks))) :: cellsL ks cs vs js
  | _, _, _ => []
theorem cells_at {ks : List Str} : ∀ {cs : List Str} {vs : List V} {js : List Bool} {i : Nat} {c : Str} {v : V} {j : Bool}, cs[i]? = some c → vs[i]? = some v → js[i]? = some j → (cellsL ks cs vs js)[i]? = some (j || (decide (v = .non) && !decide (c ∈ ks)))
  | c :: cs, v :: vs, j :: js, 0, _, _, _, h1, h2, h3 => by
    cases h1
    cases h2
    cases h3
    rfl
  | c :: cs, v :: vs, j :: js, i + 1, _, _, _, h1, h2, h3 => by
    have := cells_at (ks := ks) (cs := cs) (vs := vs) (js := js) (i := i) h1 h2 h3
    exact this
  | [], _, _, i, _, _, _, h1, _, _ => by simp at h1
  | _ :: _, [], _, i, _, _, _, _, h2, _ => by simp at h2
  | _ :: _, _ :: _, [], i, _, _, _, _, _, h3 => by simp at h3
theorem cells_len {ks : List Str} : ∀ {cs : List Str} {vs : List V} {js : List Bool}, vs.length = cs.length → js.length = cs.length → (cellsL ks cs vs js).length = cs.length
  | [], _, _, _, _ => by simp [cellsL]
  | c :: cs, [], _, h, _ => by simp at h
  | c :: cs, v :: vs, [], _, h => by simp at h
  | c :: cs, v :: vs, j :: js, h1, h2 => by
    simp only [cellsL, List.length_cons]
    rw [cells_len (by simpa using h1) (by simpa using h2)]
/-- what is_row says of it -/
def Judged (K : PySem.W.Frag) (H : Hp) (y : V) (cs ks : List Str) (k : Bool) : Prop :=
  (∃ t, TyX K H y t ∧ PySem.W.kitOne K t (.type "tuple") = some false ∧ k = false) ∨
  (∃ a vs, y = .ref a ∧ H a = some (.tup vs) ∧ vs.length ≠ cs.length ∧ k = false) ∨
  (∃ a vs js, y = .ref a ∧ H a = some (.tup vs) ∧ vs.length = cs.length ∧ Paired (SaysV K H) vs js ∧ k = (cellsL ks cs vs js).all id)
/-- the place of a name -/
theorem place_of : ∀ {cs : List Str} {w : Str}, w ∈ cs → ∃ j, cs.idxOf w = j ∧ cs[j]? = some w ∧ ∀ m, m < j → cs[m]? ≠ some w
  | [], w, h => absurd h List.not_mem_nil
  | c :: cs, w, h => by
    by_cases e : c = w
    · subst e
      exact ⟨0, by simp, rfl, fun m hm => absurd hm (Nat.not_lt_zero _)⟩
    · have hw : w ∈ cs := (List.mem_cons.mp h).elim (fun z => absurd z.symm e) id
      obtain ⟨j, e1, e2, e3⟩ := place_of hw
      refine ⟨j + 1, ?_, e2, fun m hm => ?_⟩
      · rw [List.idxOf_cons, show (c == w) = false from by simpa using e, cond_false, e1]
      · cases m with
        | zero => exact fun z => e (Option.some.inj z)
        | succ m => exact e3 m (by omega)
/-- the values of a row at these columns -/
abbrev picked (cs : List Str) (vs : List V) (ws : List Str) : List V := ws.map fun w => vs.getD (cs.idxOf w) .non
theorem picked_snoc (cs : List Str) (vs : List V) (ws : List Str) (c : Str) : picked cs vs (ws ++ [c]) = picked cs vs ws ++ [vs.getD (cs.idxOf c) .non] := by
  unfold picked
  rw [List.map_append]
  rfl
theorem i_methR {C : Addr} {m : Str} {sp : Sp} {E : XK} {ta : TE} {t : TA} {σ : L2.St} {H : Hp} {Q : VK} (h : ta σ H fun x H1 => ∃ a dx fs, x = .ref a ∧ H1 a = some (.ins C dx fs) ∧ fs.lookup m = none ∧ t σ H1 fun vs H2 => sp (x :: vs) H2 Q E) : tMethR C m sp E ta t σ H Q := h
theorem lk_meth {tc tk tf tu : Addr} {r : Bool} {m : Str} (h : m = "cut" ∨ m = "is_row" ∨ m = "key_of") : (flds tc tk tf tu r).lookup m = none := by
  rcases h with rfl | rfl | rfl
  · simp only [List.lookup, show (("cut" : Str) == "columns") = false from rfl, show (("cut" : Str) == "key") = false from rfl, show (("cut" : Str) == "fixed") = false from rfl, show (("cut" : Str) == "unique") = false from rfl, show (("cut" : Str) == "reuse") = false from rfl]
  · simp only [List.lookup, show (("is_row" : Str) == "columns") = false from rfl, show (("is_row" : Str) == "key") = false from rfl, show (("is_row" : Str) == "fixed") = false from rfl, show (("is_row" : Str) == "unique") = false from rfl, show (("is_row" : Str) == "reuse") = false from rfl]
  · simp only [List.lookup, show (("key_of" : Str) == "columns") = false from rfl, show (("key_of" : Str) == "key") = false from rfl, show (("key_of" : Str) == "fixed") = false from rfl, show (("key_of" : Str) == "unique") = false from rfl, show (("key_of" : Str) == "reuse") = false from rfl]
section
variable {P : Program} {w : World} {K : PySem.W.Frag} {mg : Str → Option Value} {base : Heap} {C fI p g : Addr} {mc : Value}
abbrev s_Table_is_row : Stmt := inClass (top 29) 3
theorem sc_Table_is_row : FnScope ["self", "thing", "column", "value"] ["self", "thing"] (defScope s_Table_is_row) := ⟨rfl, rfl, rfl, by decide +kernel, rfl, by decide +kernel, by decide +kernel⟩
def sp_is_row (K : PySem.W.Frag) (C : Addr) : Sp := fun vs H Q _ => ∃ x y k, ∃ t : Tb, vs = [.ref x, y] ∧ Tab C H x t ∧ t.cs.length ≤ 100 ∧ Judged K H y t.cs t.ks k ∧ ∀ H', Same H H' → Q (.bl k) H'
theorem ok_is_row {f fV : Addr} {fd fdV : FuncData} (F : Fun K "is_row" "Table.is_row" s_Table_is_row f fd) (T : ClsT K mg C fI mc p g)
    (F_is_value : Fun K "is_value" "is_value" s_is_value fV fdV) (B_is_value : Binds K fdV ["thing"] []) (g_is_value : mg "is_value" = some (.ref fV)) (G_is_value : FnOk P w K mg base CX0 2 fV fdV ["thing"] (sp_is_value K))
    (z_isinstance : mg "isinstance" = none) (z_tuple : mg "tuple" = none) (z_len : mg "len" = none) (z_all : mg "all" = none) (z_zip : mg "zip" = none) : FnOk P w K mg base CX0 3 f fd ["self", "thing"] (sp_is_row K C) := by
  refine F.ok sc_Table_is_row (fun vs H Q E h => ?_) (fun cdv A outer s H vs Q E hr h => ?_)
  · obtain ⟨x, y, k, t, rfl, _⟩ := h
    rfl
  · obtain ⟨x, y, k, ⟨cs, ks, fs, us0, r0⟩, rfl, tb, hz, ju, q⟩ := h
    dsimp only at hz ju
    refine ⟨_, (pss_cons (ps_if (pt_not (PW.pt (pw_and (pt_val (pe_callB call_isi (by rfl) z_isinstance (by decide +kernel) (pa_cons (pv 1) (pa_cons (pe_bltn (v := .ty "tuple") (u := .type "tuple") (by rfl) z_tuple (by decide +kernel) rfl) pa_nil)))) (pw_and1 (pt_cmpR op_eq (pe_callB call_len_seq (by rfl) z_len PySem.boot_len (pa_cons (pv 1) pa_nil)) (pe_callB call_len_seq (by rfl) z_len PySem.boot_len (pa_cons (pe_fld (pv 0) rfl) pa_nil)) (nomark _))))))
 (pss_one (ps_ret pe_bl))
 pss_nil)
 (pss_one (ps_ret (pe_callB (cr_all rfl) (by rfl) z_all (by decide +kernel) (pa_cons (pe_lc (own := [("column", 2), ("value", 3)]) (g := gTup K 2 (gCons (gName 2) (gCons (gName 3) gNil))) (tt := tYes) rfl sc_Table_is_row.nd (RZ.pi_zipA (by rfl) z_zip (pa_cons (pe_fld (pv 0) rfl) (pa_cons (pv 1) pa_nil))) (blkOk_by (own := [("column", 2), ("value", 3)]) (N := ["self", "thing", "column", "value"]) (sc := defScope s_Table_is_row) (by decide +kernel)) (fun _ _ _ _ _ => pg_tup (by rfl) (pgs_cons (pg_name (i := 2) sc_Table_is_row.nd rfl (Or.inl rfl)) (pgs_cons (pg_name (i := 3) sc_Table_is_row.nd rfl (Or.inl rfl)) pgs_nil))) (fun _ _ _ _ _ => pts_nil) (fun _ _ _ _ _ => (pe_or (pe_call G_is_value (hr.mono (by decide)) rfl g_is_value F_is_value.kp B_is_value .nil pass0 (pa_cons (pv 3) pa_nil)) (pe_one (pe_and (pe_cmpR op_isN (pv 3) pe_non (nomark _)) (pe_one (pe_cmpR (op_notInK (K := K) rfl) (pv 2) (pe_fldK (K := K) rfl (pv 0) rfl) (by rfl)))))))) pa_nil))))), ?_⟩
    walk_at "rd"
    obtain ⟨dx, tc, tk, tf, tu, hx, hc, hk, hf0, hu0⟩ := tb
    dsimp only at hx hc hk hf0 hu0
    rcases ju with ⟨t, ty, kt, rfl⟩ | ⟨a, us, rfl, ha, hl, rfl⟩ | ⟨a, us, js, rfl, ha, hl, sj, rfl⟩
    · exact ⟨_, _, _, _, false, rfl, .ty "tuple", ty, kt, false, rfl, iteF (iteT (q H (Same.refl H)))⟩
    · refine ⟨_, _, _, _, true, rfl, .ty "tuple", .base (.tup ha), kit_ty (by decide +kernel), true, rfl, iteT ?_⟩
      walk_at "rd"
      refine ⟨a, us, rfl, .inr (SqT.of ha), ?_⟩
      walk_at "rd"
      refine ⟨_, rfl, x, C, dx, _, _, rfl, hx, T.cl, T.nC, lk_columns, ?_⟩
      walk_at "rd"
      refine ⟨tc, _, rfl, .inr hc.seq, ?_⟩
      refine i_rEq rfl ?_
      rw [List.length_map, decide_eq_false (fun z => hl (by have := V.int.inj z; omega))]
      exact ⟨_, rfl, iteT (q H (Same.refl H))⟩
    · have jl : us.length = js.length := Paired.length sj
      refine ⟨_, _, _, _, true, rfl, .ty "tuple", .base (.tup ha), kit_ty (by decide +kernel), true, rfl, iteT ?_⟩
      walk_at "rd"
      refine ⟨a, us, rfl, .inr (SqT.of ha), ?_⟩
      walk_at "rd"
      refine ⟨_, rfl, x, C, dx, _, _, rfl, hx, T.cl, T.nC, lk_columns, ?_⟩
      walk_at "rd"
      refine ⟨tc, _, rfl, .inr hc.seq, ?_⟩
      refine i_rEq rfl ?_
      rw [List.length_map, decide_eq_true (by rw [hl])]
      refine ⟨_, rfl, iteF ?_⟩
      walk_at "rd"
      unfold tLc
      refine i_zipA ?_
      walk_at "rd"
      refine ⟨_, rfl, x, C, dx, _, _, rfl, hx, T.cl, T.nC, lk_columns, ?_⟩
      walk_at "rd"
      refine ⟨tc, a, _, us, rfl, .inr ⟨hc.seq, SqT.of ha, fun D hD => ?_⟩⟩
      obtain ⟨H1, e1, s1, h1⟩ := new_heap (o := .lst []) hD
      refine lc_it (walk_zipT (K := K) (a := tc) (b := a) (xs := cs.map V.str) (ys := us) (n := cs.length) (List.length_map ..) hl) (fun i H' => Same H H' ∧ H' D = some (.lst (((cellsL ks cs us js).take i).map V.bl))) ⟨by rw [e1]; exact s1, by rw [e1]; exact h1⟩ ?_ ?_ ?_
      · rintro i H' _ ⟨s2, _⟩
        exact ⟨SqT.ext hc.seq s2, SqT.of (s2 _ _ ha)⟩
      · rintro i y H2 _ hi ⟨s2, h2⟩ ⟨t2, c', v, rfl, ht2, rfl, ec, ev⟩
        obtain ⟨c, ec2, rfl⟩ := str_at ec
        obtain ⟨j, ej, sv⟩ := pair_at sj ev
        have cl := cells_at (ks := ks) ec2 ev ej
        obtain ⟨H3, e3, s3, h3⟩ := new_heap (o := .tup [.str c, v]) ht2
        rw [e3]
        have s03 : Same H H3 := fun b o z => s3 _ _ (s2 _ _ z)
        refine i_gtup h3 rfl (i_gcons ?_)
        walk_at "rd"
        refine ⟨rfl, i_yes (iteT ?_)⟩
        walk_at "rd"
        have il : ((cellsL ks cs us js).take i).length ≤ 100 := by
          rw [List.length_take]
          omega
        have fin : ∀ b, b = (j || (decide (v = .non) && !decide (c ∈ ks))) → ∃ acc, H3 D = some (HO.lst acc) ∧ acc.length < sizeLine ∧ (Same H (upd H3 D (HO.lst (acc ++ [V.bl b]))) ∧ (upd H3 D (HO.lst (acc ++ [V.bl b]))) D = some (.lst (((cellsL ks cs us js).take (i + 1)).map V.bl))) := by
          intro b eb
          refine ⟨_, s3 _ _ h2, size_lt (by rw [List.length_map]; omega), Same.mut s03 hD, ?_⟩
          rw [upd_same, take_snoc cl, List.map_append, eb]
          rfl
        refine ⟨v, j, rfl, sv.up s03, j, rfl, ?_⟩
        cases j with
        | true => exact iteT (fin true rfl)
        | false =>
          refine iteF ?_
          walk_at "rd"
          refine ite_d (fun hv => ?_) (fun hv => ?_)
          · walk_at "rd"
            refine ⟨_, rfl, x, C, dx, _, _, rfl, s03 _ _ hx, T.cl, T.nK, lk_key, ?_⟩
            refine notIn_at (.inr (SqT.of (s03 _ _ hk))) ?_
            refine fin _ ?_
            rw [decide_eq_true hv]
            rfl
          · refine fin false ?_
            rw [decide_eq_false hv]
            rfl
      · rintro H2 ⟨s2, h2⟩
        rw [← cells_len (ks := ks) hl (jl.symm.trans hl), List.take_length] at h2
        walk_at "rd"
        exact ⟨D, cellsL ks cs us js, rfl, SqL.of h2, q H2 s2⟩
abbrev s_Table_cut : Stmt := inClass (top 29) 5
theorem sc_Table_cut : FnScope ["self", "row", "columns", "column"] ["self", "row", "columns"] (defScope s_Table_cut) := ⟨rfl, rfl, rfl, by decide +kernel, rfl, by decide +kernel, by decide +kernel⟩
def sp_cut (K : PySem.W.Frag) (C : Addr) : Sp := fun vs H Q _ => ∃ x r t, ∃ T : Tb, ∃ us : List V, ∃ ws : List Str, vs = [.ref x, .ref r, .ref t] ∧ Tab C H x T ∧ H r = some (.tup us) ∧ us.length = T.cs.length ∧ SqT K H t (ws.map V.str) ∧ ws.length ≤ 100 ∧ (∀ c, c ∈ ws → c ∈ T.cs) ∧
  ∀ p H', Same H H' → H' p = some (.tup (picked T.cs us ws)) → Q (.ref p) H'
theorem ok_cut {f : Addr} {fd : FuncData} (F : Fun K "cut" "Table.cut" s_Table_cut f fd) (T : ClsT K mg C fI mc p g) (z_tuple : mg "tuple" = none) : FnOk P w K mg base CX0 1 f fd ["self", "row", "columns"] (sp_cut K C) := by
  refine F.ok sc_Table_cut (fun vs H Q E h => ?_) (fun cdv A outer s H vs Q E hr h => ?_)
  · obtain ⟨x, r, t, T0, us, ws, rfl, _⟩ := h
    rfl
  · obtain ⟨x, r, t, ⟨cs, ks, fs, us0, r0⟩, us, ws, rfl, tb, hr', hl, ht, hz, sub, q⟩ := h
    dsimp only at hl sub q
    refine ⟨_, (pss_one (ps_ret (pe_callTy call_tuple_of (by rfl) z_tuple (by decide +kernel) (pa_cons (pe_lc (own := [("column", 3)]) (g := gName 3) (tt := tYes) rfl sc_Table_cut.nd (pi_tup (pv 2)) (blkOk_by (own := [("column", 3)]) (N := ["self", "row", "columns", "column"]) (sc := defScope s_Table_cut) (by decide +kernel)) (fun _ _ _ _ _ => pg_name (i := 3) sc_Table_cut.nd rfl (Or.inl rfl)) (fun _ _ _ _ _ => pts_nil) (fun _ _ _ _ _ => (pe_ix (ix_tupK (K := K) rfl) (pv 1) (pe_bmF PySem.F.plainAttrs_tuple PySem.F.slot_tuple_index PySem.F.type_tuple_index (mt_tup_indexK (K := K) rfl) (pe_fldK (K := K) rfl (pv 0) rfl) (pa_cons (pv 3) pa_nil)) (fun _ _ => rfl)))) pa_nil)))), ?_⟩
    walk_at "rd"
    obtain ⟨dx, tc, tk, tf, tu, hx, hc, hk, hf0, hu0⟩ := tb
    dsimp only at hx hc hk hf0 hu0
    unfold tLc
    walk_at "rd"
    refine ⟨t, rfl, ⟨_, ht⟩, fun D hD => ?_⟩
    obtain ⟨H1, e1, s1, h1⟩ := new_heap (o := .lst []) hD
    refine lc_tup (K := K) (a := t) (xs := ws.map V.str) (fun i H' => Same H H' ∧ H' D = some (.lst (picked cs us (ws.take i)))) ⟨by rw [e1]; exact s1, by rw [e1]; exact h1⟩ ?_ ?_ ?_
    · rintro i H' _ ⟨s2, _⟩
      exact SqT.ext ht s2
    · rintro i y H2 hy ⟨s2, h2⟩
      obtain ⟨c, ec, rfl⟩ := str_at hy
      have hi : i < ws.length := (List.getElem?_eq_some_iff.mp ec).1
      obtain ⟨j, ej, e2, e3⟩ := place_of (sub c (List.mem_of_getElem? ec))
      have hj : j < us.length := by
        rw [hl]
        exact (List.getElem?_eq_some_iff.mp e2).1
      walk_at "rd"
      refine ⟨rfl, i_yes (iteT ?_)⟩
      walk_at "rd"
      refine i_bmf ?_
      walk_at "rd"
      refine ⟨_, rfl, x, C, dx, _, _, rfl, s2 _ _ hx, T.cl, T.nC, lk_columns, ⟨tc, _, rfl, hc.up s2⟩, ?_⟩
      walk_at "rd"
      refine ⟨tc, cs, c, j, rfl, rfl, (hc.up s2).seq, e2, e3, ?_⟩
      refine i_ixT (s2 _ _ hr') (atI_nat (List.getElem?_eq_getElem hj)) ?_
      refine ⟨_, h2, size_lt (by rw [List.length_map, List.length_take]; omega), Same.mut s2 hD, ?_⟩
      rw [upd_same, take_snoc ec, picked_snoc, ej, List.getD_eq_getElem?_getD, List.getElem?_eq_getElem hj]
      all_goals rfl
    · rintro H2 ⟨s2, h2⟩
      rw [List.length_map, List.take_length] at h2
      walk_at "rd"
      refine ⟨D, _, rfl, .inl ⟨SqL.of h2, fun p hp => ?_⟩⟩
      obtain ⟨H3, e3, s3, h3⟩ := new_heap (o := .tup (picked cs us ws)) hp
      rw [e3]
      exact q p H3 (fun b o z => s3 _ _ (s2 _ _ z)) h3
/-- the methods of the class -/
structure ClsN (K : PySem.W.Frag) (C hI hK hC : Addr) : Prop where
  is_row : Meth K C "is_row" hI
  key_of : Meth K C "key_of" hK
  cut : Meth K C "cut" hC
/-- as methods are called -/
abbrev mR (K : PySem.W.Frag) (C : Addr) : Sp := fun vs H Q E => sp_is_row K C (vs ++ []) H Q E
abbrev mC (K : PySem.W.Frag) (C : Addr) : Sp := fun vs H Q E => sp_cut K C (vs ++ []) H Q E
abbrev s_Table_key_of : Stmt := inClass (top 29) 4
theorem sc_Table_key_of : FnScope ["self", "row"] ["self", "row"] (defScope s_Table_key_of) := ⟨rfl, rfl, rfl, by decide +kernel, rfl, by decide +kernel, by decide +kernel⟩
def sp_key_of (C : Addr) : Sp := fun vs H Q _ => ∃ x r, ∃ T : Tb, ∃ us : List V, vs = [.ref x, .ref r] ∧ Tab C H x T ∧ H r = some (.tup us) ∧ us.length = T.cs.length ∧ T.ks.length ≤ 100 ∧ (∀ c, c ∈ T.ks → c ∈ T.cs) ∧ ∀ p H', Same H H' → H' p = some (.tup (picked T.cs us T.ks)) → Q (.ref p) H'
abbrev mY (C : Addr) : Sp := fun vs H Q E => sp_key_of C (vs ++ []) H Q E
theorem ok_key_of {f hI hK hC : Addr} {fd : FuncData} (F : Fun K "key_of" "Table.key_of" s_Table_key_of f fd) (T : ClsT K mg C fI mc p g) (CN : ClsN K C hI hK hC) (R_cut : FnR P w K mg base CX0 1 hC (mC K C)) : FnOk P w K mg base CX0 2 f fd ["self", "row"] (sp_key_of C) := by
  refine F.ok sc_Table_key_of (fun vs H Q E h => ?_) (fun cdv A outer s H vs Q E hr h => ?_)
  · obtain ⟨x, r, T0, us, rfl, _⟩ := h
    rfl
  · obtain ⟨x, r, ⟨cs, ks, fs, us0, r0⟩, us, rfl, tb, hr', hl, hz, sub, q⟩ := h
    dsimp only at hl hz sub q
    refine ⟨_, (pss_one (ps_ret (pe_methR (pv 0) T.cl CN.cut R_cut (hr.mono (by decide)) pass0 (pa_cons (pv 1) (pa_cons (pe_fld (pv 0) rfl) pa_nil))))), ?_⟩
    walk_at "rd"
    obtain ⟨dx, tc, tk, tf, tu, hx, hc, hk, hf0, hu0⟩ := id tb
    dsimp only at hx hc hk hf0 hu0
    refine i_methR ?_
    walk_at "rd"
    refine ⟨x, dx, _, rfl, hx, lk_meth (.inl rfl), ?_⟩
    walk_at "rd"
    refine ⟨_, rfl, x, C, dx, _, _, rfl, hx, T.cl, T.nK, lk_key, ?_⟩
    walk_at "rd"
    exact ⟨x, r, tk, _, us, ks, rfl, tb, hr', hl, SqT.of hk, hz, sub, fun p' H' s1 h1 => q p' H' s1 h1⟩
end
end Spk

set_option Elab.async false
set_option linter.all false
set_option maxRecDepth 100000
set_option maxHeartbeats 4000000
namespace Spk
open PySem L2
local macro_rules | `(tactic| walk_at "rd") => `(tactic| repeat (first
  | with_reducible refine i_seq ?_ | with_reducible refine i_asg ?_ | with_reducible refine i_ret ?_ | with_reducible refine i_ifS ?_ | with_reducible refine i_if ?_
  | with_reducible refine i_for ?_ | with_reducible refine i_iL ?_ | with_reducible refine i_iT ?_ | with_reducible refine i_ckw ?_ | with_reducible refine i_cm ?_ | with_reducible refine And.intro (rfl : V.ref _ = V.ref _) ?_ | with_reducible refine i_rng1 ?_ | with_reducible refine i_bm ?_ | with_reducible refine i_bm0 ?_
  | with_reducible refine i_drop ?_ | with_reducible refine i_next ?_
  | with_reducible refine i_var rfl ?_ | with_reducible refine i_c ?_ | with_reducible refine i_op ?_ | with_reducible refine i_un ?_ | with_reducible refine i_name ?_
  | with_reducible refine i_rI0 ?_ | with_reducible refine i_rU ?_ | with_reducible refine i_rEq rfl ?_ | with_reducible refine i_rNe rfl ?_
  | with_reducible refine i_test ?_ | with_reducible refine i_tB ?_ | with_reducible refine i_and ?_ | with_reducible refine i_or ?_ | with_reducible refine i_not ?_
  | with_reducible refine i_andV ?_ | with_reducible refine i_orV ?_ | with_reducible refine i_notV ?_
  | with_reducible refine i_cons ?_ | with_reducible refine i_nil ?_ | with_reducible refine i_cb ?_ | with_reducible refine i_call ?_ | with_reducible refine i_bl ?_
  | with_reducible refine i_tup ?_ | with_reducible refine i_lst ?_ | with_reducible refine i_par ?_ | with_reducible refine i_gcons ?_ | with_reducible refine i_gnil ?_
  | with_reducible refine And.intro (rfl : V.non = V.non) ?_ | with_reducible refine i_ixT (by assumption) rfl ?_ | with_reducible refine i_ixL (by assumption) rfl ?_ | with_reducible refine i_gtup (by assumption) rfl ?_
  | with_reducible refine i_gsub ?_
  | with_reducible refine Or.inl (Exists.intro _ (And.intro (rfl : [V.int _] = [V.int _]) ?_)) | with_reducible refine Exists.intro _ (And.intro (rfl : [V.int _] = [V.int _]) ?_)
  | with_reducible refine Or.inr (Exists.intro _ (And.intro (rfl : [V.bl _] = [V.bl _]) ?_))
  | with_reducible refine Exists.intro _ (Exists.intro _ (And.intro (rfl : [V.int _, V.int _] = [V.int _, V.int _]) ?_))
  | with_reducible refine Exists.intro _ (Exists.intro _ (And.intro (rfl : [V.ref _] = [V.ref _]) (And.intro (Or.inl (SqL.of (by assumption))) ?_)))
  | with_reducible refine i_rI (show (0 : Int) < _ by assumption) ?_ | with_reducible refine i_rI (show (0 : Int) < _ by decide) ?_
  | with_reducible refine i_rI (pow_ok (Nat.le_of_ble_eq_true rfl) (Nat.le_of_ble_eq_true rfl)) ?_
  | with_reducible refine i_rI (cmulL rfl) ?_))
def Good (v : V) (k : Bool) : Prop := (∃ m : Int, v = .int m ∧ absI m < big) ∨ (v = .non ∧ k = false)
def Plain (v : V) : Prop := (∃ m : Int, v = .int m) ∨ v = .non
theorem other_non {K : PySem.W.Frag} {H : Hp} : Other K H .non := ⟨.type "NoneType", .base .non, .inl (kit_ty (by decide +kernel))⟩
/-! ### rows of values -/
def dV : V → PyData
  | .int i => .int i
  | _ => .none
theorem dps_plain {K : PySem.W.Frag} {H : Hp} : ∀ {us : List V}, (∀ v, v ∈ us → Plain v) → DpAll K H us (us.map dV)
  | [], _ => .nil
  | v :: us, h => by
    have t := dps_plain (K := K) (H := H) (us := us) fun u hu => h u (List.mem_cons_of_mem _ hu)
    rcases h v List.mem_cons_self with ⟨m, rfl⟩ | rfl
    · exact .cons (.int m) t
    · exact .cons .non t
theorem lay_plain : ∀ us : List V, PyData.canLayAll0 (us.map dV) = true
  | [] => by simp [PyData.canLayAll0]
  | v :: us => by
    have t := lay_plain us
    have e : (dV v).canLay0 = true := by cases v <;> simp [dV, PyData.canLay0]
    simp [PyData.canLayAll0, e, t]
theorem dep_plain : ∀ us : List V, PyData.depthAll (us.map dV) ≤ 1
  | [] => by simp [PyData.depthAll]
  | v :: us => by
    have t := dep_plain us
    have e : (dV v).depth ≤ 1 := by cases v <;> simp [dV, PyData.depth]
    simp only [List.map_cons, PyData.depthAll]
    omega
theorem shaped_plain (us : List V) : SeqAt.shaped (.tuple (us.map dV)) = true := by
  have a := lay_plain us
  have b := dep_plain us
  have c : (PyData.tuple (us.map dV)).depth ≤ 64 := by
    simp only [PyData.depth]
    omega
  unfold SeqAt.shaped
  rw [Bool.and_eq_true, decide_eq_true_eq]
  exact ⟨by simpa only [PyData.canLay0] using a, by omega⟩
theorem ne_same {K : PySem.W.Frag} {H : Hp} {a b : Addr} {us : List V} {Q : VK} (ha : H a = some (.tup us)) (hb : H b = some (.tup us)) (pl : ∀ v, v ∈ us → Plain v) (q : Q (.bl false) H) : rNeD K (.ref a) (.ref b) H Q := by
  refine ⟨.tuple (us.map dV), .tuple (us.map dV), .tup (SqT.of ha) (dps_plain pl), .tup (SqT.of hb) (dps_plain pl), shaped_plain us, shaped_plain us, ?_⟩
  rw [SeqAt.eqv_refl _ (by simpa only [PyData.canLay0] using lay_plain us)]
  exact q
theorem penny_plain {us : List V} (h : ∀ v, v ∈ us → Plain v) : penny (.lst us) = false := by
  cases us with
  | nil => rfl
  | cons v us =>
    rcases h v List.mem_cons_self with ⟨m, rfl⟩ | rfl
    · cases us <;> rfl
    · cases us <;> rfl
/-- a row for these columns -/
abbrev RowOk (ks cs : List Str) (us : List V) : Prop := Paired (fun v c => Good v (decide (c ∈ ks))) us cs
theorem good_plain {v : V} {k : Bool} (h : Good v k) : Plain v := h.elim (fun ⟨m, e, _⟩ => .inl ⟨m, e⟩) fun ⟨e, _⟩ => .inr e
theorem row_plain {ks : List Str} : ∀ {us : List V} {cs : List Str}, RowOk ks cs us → ∀ v, v ∈ us → Plain v
  | _, _, .nil, v, h => absurd h List.not_mem_nil
  | _, _, .cons r t, v, h => (List.mem_cons.mp h).elim (fun e => e ▸ good_plain r) fun z => row_plain t v z
theorem row_says {K : PySem.W.Frag} {H : Hp} {ks : List Str} : ∀ {us : List V} {cs : List Str}, RowOk ks cs us → ∃ js, Paired (SaysV K H) us js ∧ (cellsL ks cs us js).all id = true
  | _, _, .nil => ⟨[], .nil, rfl⟩
  | v :: us, c :: cs, .cons r t => by
    obtain ⟨js, sj, al⟩ := row_says (K := K) (H := H) t
    rcases r with ⟨m, rfl, hm⟩ | ⟨rfl, hk⟩
    · refine ⟨true :: js, .cons (.inl ⟨m, rfl, (decide_eq_true hm).symm⟩) sj, ?_⟩
      simp only [cellsL, List.all_cons, al, Bool.true_or, id_eq, Bool.and_self]
    · refine ⟨false :: js, .cons (.inr ⟨other_non, rfl⟩) sj, ?_⟩
      simp only [cellsL, List.all_cons, al, hk, id_eq]
      simp
/-- the values of the key columns -/
def duesL (ks : List Str) : List Str → List V → List V
  | c :: cs, v :: vs => if c ∈ ks then v :: duesL ks cs vs else duesL ks cs vs
  | _, _ => []
theorem dues_snoc {ks : List Str} {c : Str} {v : V} : ∀ {cs : List Str} {vs : List V}, cs.length = vs.length → duesL ks (cs ++ [c]) (vs ++ [v]) = duesL ks cs vs ++ (if c ∈ ks then [v] else [])
  | [], [], _ => by simp [duesL]
  | a :: cs, b :: vs, h => by
    have := dues_snoc (ks := ks) (c := c) (v := v) (cs := cs) (vs := vs) (by simpa using h)
    simp only [List.cons_append, duesL, this]
    split <;> simp
  | [], _ :: _, h => by simp at h
  | _ :: _, [], h => by simp at h
theorem dues_len {ks : List Str} : ∀ (cs : List Str) (vs : List V), (duesL ks cs vs).length ≤ cs.length
  | [], _ => by simp [duesL]
  | _ :: _, [] => by simp [duesL]
  | c :: cs, v :: vs => by
    have := dues_len (ks := ks) cs vs
    simp only [duesL]
    split <;> simp only [List.length_cons] <;> omega
theorem dues_map {ks : List Str} (f : Str → V) : ∀ cs : List Str, duesL ks cs (cs.map f) = (among cs ks).map f
  | [] => rfl
  | c :: cs => by
    have := dues_map (ks := ks) f cs
    unfold among at this ⊢
    simp only [List.map_cons, duesL, this, List.filter_cons, decide_eq_true_eq]
    split <;> simp
theorem picked_all {cs : List Str} {us : List V} (nd : cs.Nodup) (hl : us.length = cs.length) : picked cs us cs = us := by
  refine List.ext_getElem (by rw [List.length_map]; exact hl.symm) fun i h1 h2 => ?_
  have hi : i < cs.length := by omega
  obtain ⟨j, ej, e2, e3⟩ := place_of (List.getElem_mem hi)
  have hj : j < cs.length := (List.getElem?_eq_some_iff.mp e2).1
  have e : j = i := by
    rw [← List.getElem?_eq_getElem hi] at e2
    exact (List.getElem?_inj hj nd).mp e2
  rw [List.getElem_map, ej, e, List.getD_eq_getElem?_getD, List.getElem?_eq_getElem h2]
  rfl
theorem dues_picked {ks cs : List Str} {us : List V} (nd : cs.Nodup) (hl : us.length = cs.length) : duesL ks cs us = picked cs us (among cs ks) := by
  have e := dues_map (ks := ks) (fun w => us.getD (cs.idxOf w) V.non) cs
  have e2 : cs.map (fun w => us.getD (cs.idxOf w) V.non) = us := picked_all nd hl
  rw [e2] at e
  exact e
theorem picked_plain {cs : List Str} {us : List V} {ws : List Str} (h : ∀ v, v ∈ us → Plain v) : ∀ v, v ∈ picked cs us ws → Plain v := by
  intro v hv
  obtain ⟨w, _, rfl⟩ := List.mem_map.mp hv
  rw [List.getD_eq_getElem?_getD]
  cases e : us[cs.idxOf w]? with
  | none => exact .inr rfl
  | some u => exact h u (List.mem_of_getElem? e)
/-! ### the law's words -/
def words : List Str := ["k", "r", "u", "key", "in", "a", "b", "once"]
theorem words_nd : words.Nodup := by decide
theorem words_ok : ∀ c, c ∈ words → nameB c = true ∧ c.length ≤ 100 ∧ PyData.strOk c = true := by decide +kernel
theorem Tab.keep {C : Addr} {H H' : Hp} {x : Addr} {t : Tb} (e : Keep H H') (h : Tab C H x t) : Tab C H' x t := by
  obtain ⟨dx, tc, tk, tf, tu, h1, ⟨o, h2, r⟩, h3, h4, h5⟩ := h
  exact ⟨dx, tc, tk, tf, tu, e _ _ rfl h1, ⟨o, e _ _ rfl h2, r⟩, e _ _ rfl h3, e _ _ rfl h4, e _ _ rfl h5⟩
theorem eqv_str (a b : Str) : PyData.eqv (.str a) (.str b) = decide (a = b) := by
  simp only [PyData.eqv]
  rw [Bool.eq_iff_iff]
  simp
end Spk

set_option Elab.async false
set_option linter.all false
set_option maxRecDepth 100000
set_option maxHeartbeats 1000000
namespace Spk.Fi
open PySem L2 Spk
local macro_rules | `(tactic| walk_at "rd") => `(tactic| repeat (first
  | with_reducible refine i_seq ?_ | with_reducible refine i_asg ?_ | with_reducible refine i_ret ?_ | with_reducible refine i_ifS ?_ | with_reducible refine i_if ?_
  | with_reducible refine i_for ?_ | with_reducible refine i_iL ?_ | with_reducible refine i_iT ?_ | with_reducible refine i_ckw ?_ | with_reducible refine i_cm ?_ | with_reducible refine And.intro (rfl : V.ref _ = V.ref _) ?_ | with_reducible refine i_rng1 ?_ | with_reducible refine i_bm ?_ | with_reducible refine i_bm0 ?_
  | with_reducible refine i_drop ?_ | with_reducible refine i_next ?_
  | with_reducible refine i_var rfl ?_ | with_reducible refine i_c ?_ | with_reducible refine i_op ?_ | with_reducible refine i_un ?_ | with_reducible refine i_name ?_
  | with_reducible refine i_rI0 ?_ | with_reducible refine i_rU ?_ | with_reducible refine i_rEq rfl ?_ | with_reducible refine i_rNe rfl ?_
  | with_reducible refine i_test ?_ | with_reducible refine i_tB ?_ | with_reducible refine i_and ?_ | with_reducible refine i_or ?_ | with_reducible refine i_not ?_
  | with_reducible refine i_andV ?_ | with_reducible refine i_orV ?_ | with_reducible refine i_notV ?_
  | with_reducible refine i_cons ?_ | with_reducible refine i_nil ?_ | with_reducible refine i_cb ?_ | with_reducible refine i_call ?_ | with_reducible refine i_bl ?_
  | with_reducible refine i_tup ?_ | with_reducible refine i_lst ?_ | with_reducible refine i_par ?_ | with_reducible refine i_gcons ?_ | with_reducible refine i_gnil ?_
  | with_reducible refine And.intro (rfl : V.non = V.non) ?_ | with_reducible refine i_ixT (by assumption) rfl ?_ | with_reducible refine i_ixL (by assumption) rfl ?_ | with_reducible refine i_gtup (by assumption) rfl ?_
  | with_reducible refine i_gsub ?_
  | with_reducible refine Or.inl (Exists.intro _ (And.intro (rfl : [V.int _] = [V.int _]) ?_)) | with_reducible refine Exists.intro _ (And.intro (rfl : [V.int _] = [V.int _]) ?_)
  | with_reducible refine Or.inr (Exists.intro _ (And.intro (rfl : [V.bl _] = [V.bl _]) ?_))
  | with_reducible refine Exists.intro _ (Exists.intro _ (And.intro (rfl : [V.int _, V.int _] = [V.int _, V.int _]) ?_))
  | with_reducible refine Exists.intro _ (Exists.intro _ (And.intro (rfl : [V.ref _] = [V.ref _]) (And.intro (Or.inl (SqL.of (by assumption))) ?_)))
  | with_reducible refine i_rI (show (0 : Int) < _ by assumption) ?_ | with_reducible refine i_rI (show (0 : Int) < _ by decide) ?_
  | with_reducible refine i_rI (pow_ok (Nat.le_of_ble_eq_true rfl) (Nat.le_of_ble_eq_true rfl)) ?_
  | with_reducible refine i_rI (cmulL rfl) ?_))
/-- the parts of a set stand at t -/
def PartsT (H : Hp) (t : Addr) (ps : List Stc) : Prop := ∃ vs, H t = some (.tup vs) ∧ Tups H vs ps
theorem PartsT.up {H H' : Hp} {t : Addr} {ps : List Stc} (e : Same H H') (h : PartsT H t ps) : PartsT H' t ps := by
  obtain ⟨vs, h, z⟩ := h
  exact ⟨vs, e _ _ h, z.up e⟩
theorem ov_non {o : Option Int} (h : ov o = .non) : o = none := by
  cases o with
  | none => rfl
  | some i => cases h
theorem ov_some {o : Option Int} (h : ¬ ov o = .non) : ∃ i, o = some i := by
  cases o with
  | none => exact absurd rfl h
  | some i => exact ⟨i, rfl⟩

section
variable {P : Program} {w : World} {K : PySem.W.Frag} {mg : Str → Option Value} {base : Heap}
/-! ### start_of, touches, later_end -/
abbrev s_start_of : Stmt := top 7
theorem sc_start_of : FnScope ["stretch", "low"] ["stretch"] (defScope s_start_of) := ⟨rfl, rfl, rfl, by decide +kernel, rfl, by decide +kernel, by decide +kernel⟩
def sp_start_of : Sp := fun vs H Q _ => ∃ (v : V) (s : Stc), vs = [v] ∧ TupS H v s ∧ ∀ p H', Same H H' → H' p = some (.tup (key s)) → Q (.ref p) H'
theorem ok_start_of {f : Addr} {fd : FuncData} (F : Fun K "start_of" "start_of" s_start_of f fd) : FnOk P w K mg base CX0 1 f fd ["stretch"] sp_start_of := by
  refine F.ok sc_start_of (fun vs H Q E h => ?_) (fun cdv A outer s H vs Q E hr h => ?_)
  · obtain ⟨v, s, rfl, _⟩ := h
    rfl
  · obtain ⟨v, ⟨lo, hi⟩, rfl, ⟨a, rfl, ha⟩, q⟩ := h
    refine ⟨_, (pss_cons (ps_set (i := 1) sc_start_of.nd rfl (Or.inl rfl) (pe_ix ix_tup (pv 0) pe_int (fun _ _ => rfl)))
 (pss_one (ps_ret (pe_ifExp (pt_cmpR op_isN (pv 1) pe_non (nomark _)) (pe_tup (pa_cons pe_int (pa_cons pe_int pa_nil))) (pe_tup (pa_cons pe_int (pa_cons (pv 1) pa_nil))))))), ?_⟩
    walk_at "rd"
    refine ite_d (fun h => ?_) (fun h => ?_)
    · walk_at "rd"
      have e := ov_non h
      dsimp only at e
      subst e
      exact i_sz (Nat.le_of_ble_eq_true rfl) fun p H1 s1 _ e => q p H1 s1 e
    · obtain ⟨i, rfl⟩ := ov_some h
      walk_at "rd"
      exact i_sz (Nat.le_of_ble_eq_true rfl) fun p H1 s1 _ e => q p H1 s1 e
abbrev s_touches : Stmt := top 9
theorem sc_touches : FnScope ["part", "low", "high"] ["part", "low"] (defScope s_touches) := ⟨rfl, rfl, rfl, by decide +kernel, rfl, by decide +kernel, by decide +kernel⟩
def sp_touches : Sp := fun vs H Q _ => ∃ (v : V) (s : Stc) (lo : Option Int), vs = [v, ov lo] ∧ TupS H v s ∧ Q (.bl (touchB s.2 lo)) H
theorem ok_touches {f : Addr} {fd : FuncData} (F : Fun K "touches" "touches" s_touches f fd) : FnOk P w K mg base CX0 1 f fd ["part", "low"] sp_touches := by
  refine F.ok sc_touches (fun vs H Q E h => ?_) (fun cdv A outer s H vs Q E hr h => ?_)
  · obtain ⟨v, s, lo, rfl, _⟩ := h
    rfl
  · obtain ⟨v, ⟨lo, hi⟩, l, rfl, ⟨a, rfl, ha⟩, q⟩ := h
    refine ⟨_, (pss_cons (ps_set (i := 2) sc_touches.nd rfl (Or.inl rfl) (pe_ix ix_tup (pv 0) pe_int (fun _ _ => rfl)))
 (pss_one (ps_ret (pe_or (pe_cmpR op_isN (pv 1) pe_non (nomark _)) (pe_or (pe_cmpR op_isN (pv 2) pe_non (nomark _)) (pe_one (pe_cmpR op_le (pv 1) (pe_op op_add (pv 2) pe_int) (nomark _)))))))), ?_⟩
    walk_at "rd"
    refine ite_d (fun h => ?_) (fun h => ?_)
    · have e := ov_non h
      subst e
      exact q
    · obtain ⟨i, rfl⟩ := ov_some h
      walk_at "rd"
      refine ite_d (fun h => ?_) (fun h => ?_)
      · have e := ov_non h
        subst e
        exact q
      · obtain ⟨j, rfl⟩ := ov_some h
        walk_at "rd"
        exact q
abbrev s_later_end : Stmt := top 10
theorem sc_later_end : FnScope ["one", "other"] ["one", "other"] (defScope s_later_end) := ⟨rfl, rfl, rfl, by decide +kernel, rfl, by decide +kernel, by decide +kernel⟩
def sp_later_end : Sp := fun vs H Q _ => ∃ (a b : Option Int), vs = [ov a, ov b] ∧ Q (ov (laterE a b)) H
theorem ok_later_end {f : Addr} {fd : FuncData} (F : Fun K "later_end" "later_end" s_later_end f fd) (z_max : mg "max" = none) : FnOk P w K mg base CX0 1 f fd ["one", "other"] sp_later_end := by
  refine F.ok sc_later_end (fun vs H Q E h => ?_) (fun cdv A outer s H vs Q E hr h => ?_)
  · obtain ⟨a, b, rfl, _⟩ := h
    rfl
  · obtain ⟨a, b, rfl, q⟩ := h
    refine ⟨_, (pss_cons (ps_if (PW.pt (pw_or (pt_cmpR op_isN (pv 0) pe_non (nomark _)) (pw_or1 (pt_cmpR op_isN (pv 1) pe_non (nomark _)))))
 (pss_one (ps_ret pe_non))
 pss_nil)
 (pss_one (ps_ret (pe_callB (call_max2 rfl) (by rfl) z_max (by decide +kernel) (pa_cons (pv 0) (pa_cons (pv 1) pa_nil)))))), ?_⟩
    walk_at "rd"
    refine ite_d (fun h => ?_) (fun h => ?_)
    · have e := ov_non h
      subst e
      refine iteT ?_
      walk_at "rd"
      exact q
    · obtain ⟨i, rfl⟩ := ov_some h
      walk_at "rd"
      refine ite_d (fun h => ?_) (fun h => ?_)
      · have e := ov_non h
        subst e
        walk_at "rd"
        exact q
      · obtain ⟨j, rfl⟩ := ov_some h
        walk_at "rd"
        exact q
/-! ### in_parts -/
theorem tups_get {H : Hp} {vs : List V} {ps : List Stc} (h : Tups H vs ps) {i : Nat} (hi : i < ps.length) : ∃ v, vs[i]? = some v ∧ TupS H v ps[i] := by
  induction h generalizing i with
  | nil => simp at hi
  | cons r t ih =>
    cases i with
    | zero => exact ⟨_, rfl, r⟩
    | succ i => exact ih (by simpa using hi)
theorem tups_len {H : Hp} {vs : List V} {ps : List Stc} (h : Tups H vs ps) : vs.length = ps.length := Paired.length h
structure SInv (t : Addr) (n : Int) (ps : List Stc) (H0 : Hp) (m : Nat) (σ : L2.St) (H : Hp) : Prop where
  ex : ∃ (a b : Nat) (x y z : Option V), m = b - a ∧ a ≤ b ∧ b ≤ ps.length ∧ H = H0 ∧ σ = [some (.ref t), some (.int n), some (.int a), some (.int b), x, y, z] ∧
    (∀ (j : Nat) s, j < a → ps[j]? = some s → has1 s n = false) ∧ (∀ (j : Nat) s, b ≤ j → ps[j]? = some s → has1 s n = false)
abbrev s_in_parts : Stmt := top 12
theorem sc_in_parts : FnScope ["parts", "number", "start", "end", "middle", "low", "high"] ["parts", "number"] (defScope s_in_parts) := ⟨rfl, rfl, rfl, by decide +kernel, rfl, by decide +kernel, by decide +kernel⟩
def sp_in_parts : Sp := fun vs H Q _ => ∃ (t : Addr) (ps : List Stc) (n : Int), vs = [.ref t, .int n] ∧ PartsT H t ps ∧ Canon ps ∧ Q (.bl (hasL ps n)) H
theorem ok_in_parts {f : Addr} {fd : FuncData} (F : Fun K "in_parts" "in_parts" s_in_parts f fd) (z_len : mg "len" = none) : FnOk P w K mg base CX0 1 f fd ["parts", "number"] sp_in_parts := by
  refine F.ok sc_in_parts (fun vs H Q E h => ?_) (fun cdv A outer s H vs Q E hr h => ?_)
  · obtain ⟨t, ps, n, rfl, _⟩ := h
    rfl
  · obtain ⟨t, ps, n, rfl, ⟨vs, ht, tu⟩, hc, q⟩ := h
    refine ⟨_, (pss_cons (ps_set (i := 2) sc_in_parts.nd rfl (Or.inl rfl) pe_int)
 (pss_cons (ps_set (i := 3) sc_in_parts.nd rfl (Or.inl rfl) (pe_callB call_len_seq (by rfl) z_len PySem.boot_len (pa_cons (pv 0) pa_nil)))
 (pss_cons (ps_while PassesOwn.never (pt_cmpR op_lt (pv 2) (pv 3) (nomark _))
 (pss_cons (ps_set (i := 4) sc_in_parts.nd rfl (Or.inl rfl) (pe_op op_fdivW (pe_op op_add (pv 2) (pv 3)) pe_int))
 (pss_cons (ps_asg (pe_ix ix_tup (pv 0) (pv 4) (fun _ _ => rfl)) (pg_tup (by rfl) (pgs_cons (pg_name (i := 5) sc_in_parts.nd rfl (Or.inl rfl)) (pgs_cons (pg_name (i := 6) sc_in_parts.nd rfl (Or.inl rfl)) pgs_nil))))
 (pss_one (ps_if (PW.pt (pw_and (pt_cmpR op_notN (pv 5) pe_non (nomark _)) (pw_and1 (pt_cmpR op_lt (pv 1) (pv 5) (nomark _)))))
 (pss_one (ps_set (i := 3) sc_in_parts.nd rfl (Or.inl rfl) (pv 4)))
 (pss_one (ps_if (PW.pt (pw_and (pt_cmpR op_notN (pv 6) pe_non (nomark _)) (pw_and1 (pt_cmpR op_gt (pv 1) (pv 6) (nomark _)))))
 (pss_one (ps_set (i := 2) sc_in_parts.nd rfl (Or.inl rfl) (pe_op op_add (pv 4) pe_int)))
 (pss_one (ps_ret pe_bl)))))))))
 (pss_one (ps_ret pe_bl))))), ?_⟩
    walk_at "rd"
    refine ⟨t, vs, rfl, .inr (SqT.of ht), ?_⟩
    walk_at "rd"
    have hlen := tups_len tu
    refine ⟨SInv t n ps H, ⟨vs.length, ⟨0, vs.length, none, none, none, rfl, Nat.zero_le _, Nat.le_of_eq hlen, rfl, rfl, fun j s h => absurd h (Nat.not_lt_zero _), fun j s h e => ?_⟩⟩, ?_⟩
    · rw [List.getElem?_eq_none (by omega)] at e
      cases e
    rintro m σ H' ⟨⟨a, b, x, y, z, em, hab, hb, eH, rfl, lo, hi⟩⟩
    subst H'
    walk_at "rd"
    refine ite_d (fun h => ?_) (fun h => ?_)
    · refine ⟨fun σ' H' => ∃ m', m' < m ∧ SInv t n ps H m' σ' H', fun _ _ h => h, ?_⟩
      walk_at "rd"
      refine i_rI (wide_div (b := 2) (by decide) (by decide) (by decide) (by decide)) ?_
      walk_at "rd"
      have e2 : (((a : Int) + (b : Int)) / 2) = (((a + b) / 2 : Nat) : Int) := by omega
      have hm : (a + b) / 2 < ps.length := by omega
      obtain ⟨v, hv, c, rfl, hcc⟩ := tups_get tu hm
      rw [e2]
      refine i_ixT ht (atI_nat hv) ?_
      walk_at "rd"
      generalize hs : ps[(a + b) / 2] = s at hcc
      have hs' : ps[(a + b) / 2]? = some s := by rw [List.getElem?_eq_getElem hm, hs]
      obtain ⟨l, r⟩ := s
      dsimp only at hcc ⊢
      -- the number lies ahead of this part, behind it, or in it
      have goL : ∀ (k : Int) (x y z : Option V), l = some k → n < k → ∃ m', m' < m ∧ SInv t n ps H m' [some (.ref t), some (.int n), some (.int a), some (.int ((a + b) / 2 : Nat)), x, y, z] H := fun k x y z hk hn =>
        ⟨(a + b) / 2 - a, by omega, ⟨a, (a + b) / 2, x, y, z, rfl, by omega, by omega, rfl, rfl, lo, fun j s hj e => search_low hc hs' hk hn hj e⟩⟩
      have goR : ∀ (k : Int) (x y z : Option V), r = some k → k < n → ∃ m', m' < m ∧ SInv t n ps H m' [some (.ref t), some (.int n), some (.int ((a + b) / 2 + 1 : Nat)), some (.int b), x, y, z] H := fun k x y z hk hn =>
        ⟨b - ((a + b) / 2 + 1), by omega, ⟨(a + b) / 2 + 1, b, x, y, z, rfl, by omega, hb, rfl, rfl, fun j s hj e => search_high hc hs' hk hn (by omega) e, hi⟩⟩
      have found : has1 (l, r) n = true → Q (.bl true) H := fun hh => by
        have e : hasL ps n = true := List.any_eq_true.mpr ⟨_, List.mem_of_getElem? hs', hh⟩
        rw [e] at q
        exact q
      have rest : (∀ k, l = some k → k ≤ n) → tIfS
            (tAnd (tTest (tOp (fun x y H Q => y = V.non ∧ Q (V.bl !decide (x = V.non)) H) (tVar 6) (tC V.non)))
              (tTest (tOp (rI0 fun i j => V.bl (decide (j < i))) (tVar 1) (tVar 6))))
            (tAsg (tOp (rI0 fun i j => V.int (i + j)) (tVar 4) (tC (V.int 1))) (gName 2)) (tRet (tC (V.bl true)))
            { nx := fun σ' H' => ∃ m', m' < m ∧ SInv t n ps H m' σ' H', rt := Q, bk := fun σ H => Q (.bl false) H, ct := fun σ' H' => ∃ m', m' < m ∧ SInv t n ps H m' σ' H' }
            [some (.ref t), some (.int n), some (.int a), some (.int b), some (.int ((a + b) / 2 : Nat)), some (ov l), some (ov r)] H := by
        intro hl
        walk_at "rd"
        cases r with
        | none =>
          refine ite_nd (fun h => absurd rfl h) (fun _ => ?_)
          refine iteF ?_
          walk_at "rd"
          exact found (has1_of hl fun k hk => nomatch hk)
        | some k =>
          refine ite_nd (fun _ => ?_) (fun h => nomatch h)
          walk_at "rd"
          refine ite_d (fun h => ?_) (fun h => ?_)
          · walk_at "rd"
            exact goR k _ _ _ rfl h
          · walk_at "rd"
            exact found (has1_of hl fun j hj => by cases hj; omega)
      cases l with
      | none =>
        refine ite_nd (fun h => absurd rfl h) (fun _ => ?_)
        refine iteF ?_
        exact rest (fun k hk => nomatch hk)
      | some k =>
        refine ite_nd (fun _ => ?_) (fun h => nomatch h)
        walk_at "rd"
        refine ite_d (fun h => ?_) (fun h => ?_)
        · walk_at "rd"
          exact goL k _ _ _ rfl h
        · exact rest (fun j hj => by cases hj; omega)
    · walk_at "rd"
      have e : hasL ps n = false := by
        unfold hasL
        rw [List.any_eq_false]
        intro s hs
        obtain ⟨j, hj⟩ := List.mem_iff_getElem?.mp hs
        rcases Nat.lt_or_ge j a with q1 | q1
        · rw [lo j s q1 hj]; simp
        · rw [hi j s (by omega) hj]; simp
      rw [e] at q
      exact q

/-! ### joined -/
theorem dp_key {H : Hp} {p : Addr} {s : Stc} (h : H p = some (.tup (key s))) : Dp K H (.ref p) (keyD s) := .tup (SqT.of h) (.cons (.int _) (.cons (.int _) .nil))
abbrev s_joined : Stmt := top 8
theorem sc_joined : FnScope ["stretches", "parts", "low", "high", "first", "last"] ["stretches"] (defScope s_joined) := ⟨rfl, rfl, rfl, by decide +kernel, rfl, by decide +kernel, by decide +kernel⟩
def sp_joined (K : PySem.W.Frag) : Sp := fun vs H Q _ => ∃ (l : Addr) (xs : List V) (ss : List Stc), vs = [.ref l] ∧ (SqL K H l xs ∨ SqT K H l xs) ∧ Tups H xs ss ∧ ss.length ≤ 1000 ∧ (∀ s, s ∈ ss → NE s) ∧
  ∀ p H' ps, Same H H' → PartsT H' p ps → Canon ps → (∀ n, hasL ps n = hasL ss n) → ps.length ≤ ss.length → Q (.ref p) H'
/-- what holds between two turns: the list at d holds the joined stretches so far -/
structure JInv (H0 : Hp) (a p d : Addr) (L : List V) (ss : List Stc) (i : Nat) (σ : L2.St) (H : Hp) : Prop where
  ex : ∃ (acc : List Stc) (vs : List V) (x y z w : Option V), σ = [some (.ref a), some (.ref d), x, y, z, w] ∧ Same H0 H ∧ H p = some (.lst L) ∧ H d = some (.lst vs) ∧ Tups H vs acc ∧ Joins acc (ss.take i) (ss.drop i) ∧ acc.length ≤ i
theorem joinF_len (acc : List Stc) (s : Stc) : (joinF acc s).length ≤ acc.length + 1 := by
  unfold joinF
  cases h : acc.getLast? with
  | none => simp
  | some p =>
    dsimp only
    split
    · simp
    · simp
theorem _root_.Spk.Tups.mut {H : Hp} {d : Addr} {ys zs : List V} {vs : List V} {ss : List Stc} (h : Tups H vs ss) (hd : H d = some (.lst ys)) : Tups (upd H d (.lst zs)) vs ss :=
  Paired.mapP h fun v s ⟨a, e, ha⟩ => ⟨a, e, by rw [upd_ne (ne_of ha hd (by intro z; cases z))]; exact ha⟩
theorem tups_snoc {H : Hp} {vs : List V} {ss : List Stc} {v : V} {s : Stc} (h : Tups H vs ss) (hv : TupS H v s) : Tups H (vs ++ [v]) (ss ++ [s]) := by
  induction h with
  | nil => exact .cons hv .nil
  | cons r t ih => exact .cons r ih
theorem tups_concat {H : Hp} {s : Stc} : ∀ {ss : List Stc} {vs : List V}, Tups H vs (ss ++ [s]) → ∃ vs' v, vs = vs' ++ [v] ∧ Tups H vs' ss ∧ TupS H v s
  | [], _, .cons r .nil => ⟨[], _, rfl, .nil, r⟩
  | a :: ss, _, .cons r t => by
    obtain ⟨vs', v, e, t', hv⟩ := tups_concat (ss := ss) t
    subst e
    exact ⟨_ :: vs', v, rfl, .cons r t', hv⟩
theorem ok_joined {f fS fT fE : Addr} {fd fdS fdT fdE : FuncData} (F : Fun K "joined" "joined" s_joined f fd) (FS : Fun K "start_of" "start_of" s_start_of fS fdS) (B_start_of : Binds K fdS ["stretch"] []) (g_start_of : mg "start_of" = some (.ref fS))
    (F_touches : Fun K "touches" "touches" s_touches fT fdT) (B_touches : Binds K fdT ["part", "low"] []) (g_touches : mg "touches" = some (.ref fT))
    (F_later_end : Fun K "later_end" "later_end" s_later_end fE fdE) (B_later_end : Binds K fdE ["one", "other"] []) (g_later_end : mg "later_end" = some (.ref fE))
    (z_max : mg "max" = none) (z_sorted : mg "sorted" = none) (z_tuple : mg "tuple" = none) : FnOk P w K mg base CX0 4 f fd ["stretches"] (sp_joined K) := by
  have GS : FnOk P w K mg base CX0 1 fS fdS ["stretch"] sp_start_of := ok_start_of FS
  have RS := FnOk.raw GS B_start_of .nil
  have G_touches : FnOk P w K mg base CX0 1 fT fdT ["part", "low"] sp_touches := ok_touches F_touches
  have G_later_end : FnOk P w K mg base CX0 1 fE fdE ["one", "other"] sp_later_end := ok_later_end F_later_end z_max
  refine F.ok sc_joined (fun vs H Q E h => ?_) (fun cdv A outer s H vs Q E hr h => ?_)
  · obtain ⟨l, xs, ss, rfl, _⟩ := h
    rfl
  · obtain ⟨l, xs, ss, rfl, hl, tu, hz, hne, q⟩ := h
    refine ⟨_, (pss_cons (ps_set (i := 1) sc_joined.nd rfl (Or.inl rfl) (pe_lst pa_nil))
 (pss_cons (ps_for PassesOwn.never rfl (pi_list (pe_callBK (cr_sortKey RS (hr.mono (by decide))) (by rfl) z_sorted (by decide +kernel) (pa_cons (pv 0) pa_nil) (pk_cons (pe_glob rfl g_start_of (relR _)) pk_nil))) (pg_tup (by rfl) (pgs_cons (pg_name (i := 2) sc_joined.nd rfl (Or.inl rfl)) (pgs_cons (pg_name (i := 3) sc_joined.nd rfl (Or.inl rfl)) pgs_nil)))
 (pss_one (ps_if (PW.pt (pw_and (pt_truth (pv 1) (by intro _; rfl)) (pw_and1 (pt_val (pe_call G_touches (hr.mono (by decide)) rfl g_touches F_touches.kp B_touches .nil pass0 (pa_cons (pe_ix ix_list (pv 1) (pe_un un_neg pe_int) (fun _ _ => rfl)) (pa_cons (pv 2) pa_nil)))))))
 (pss_cons (ps_asg (pe_bm0 PySem.F.plainAttrs_list PySem.F.slot_list_pop PySem.F.type_list_pop mt_pop (pv 1)) (pg_tup (by rfl) (pgs_cons (pg_name (i := 4) sc_joined.nd rfl (Or.inl rfl)) (pgs_cons (pg_name (i := 5) sc_joined.nd rfl (Or.inl rfl)) pgs_nil))))
 (pss_one (ps_expr (pe_bm PySem.F.plainAttrs_list PySem.F.slot_list_append PySem.F.type_list_append mt_append (pv 1) (pa_cons (pe_tup (pa_cons (pv 4) (pa_cons (pe_call G_later_end (hr.mono (by decide)) rfl g_later_end F_later_end.kp B_later_end .nil pass0 (pa_cons (pv 5) (pa_cons (pv 3) pa_nil))) pa_nil))) pa_nil)))))
 (pss_one (ps_expr (pe_bm PySem.F.plainAttrs_list PySem.F.slot_list_append PySem.F.type_list_append mt_append (pv 1) (pa_cons (pe_tup (pa_cons (pv 2) (pa_cons (pv 3) pa_nil))) pa_nil)))))))
 (pss_one (ps_ret (pe_callTy call_tuple_of (by rfl) z_tuple (by decide +kernel) (pa_cons (pv 1) pa_nil)))))), ?_⟩
    walk_at "rd"
    refine ⟨Nat.zero_le _, fun d hd0 => ?_⟩
    obtain ⟨H1, e1, s1, hd⟩ := new_heap (o := .lst []) hd0
    rw [e1]
    walk_at "rd"
    have hl1 : SqL K H1 l xs ∨ SqT K H1 l xs := hl.elim (fun z => .inl (SqL.ext z s1)) fun z => .inr (SqT.ext z s1)
    have tu1 := tu.up s1
    have hlen := tups_len tu
    refine ⟨l, xs, ss.map keyD, rfl, rfl, hl1, by rw [List.length_map]; exact hlen.symm, keys_alike ss, keys_sort ss, keys_deep ss, fun i x d hx hk H' sm => ?_, fun H2 p sm hp => ?_⟩
    · have hi : i < ss.length := by
        have := (List.getElem?_eq_some_iff.mp hk).1
        simpa using this
      obtain ⟨v, hv, ts⟩ := tups_get tu1 hi
      rw [hx] at hv
      cases hv
      have hd : d = keyD ss[i] := by
        rw [List.getElem?_map, List.getElem?_eq_getElem hi] at hk
        exact (Option.some.inj hk).symm
      subst hd
      exact ⟨x, ss[i], rfl, ts.up sm, fun p H'' s2 e => ⟨s2, dp_key e⟩⟩
    obtain ⟨ss', tu', pm, pw⟩ := sorted_low tu
    obtain ⟨H3, e3, s3, hp3⟩ := new_heap (o := .lst (byKeys xs (ss.map keyD))) hp
    rw [e3]
    have s13 : Same H1 H3 := fun b o z => s3 _ _ (sm _ _ z)
    have s03 : Same H H3 := fun b o z => s13 _ _ (s1 _ _ z)
    have hdp : d ≠ p := ne_of_none (sm _ _ hd) hp
    have hl3 := tups_len tu'
    have hle : ss'.length = ss.length := pm.length_eq
    have hne' : ∀ s, s ∈ ss' → NE s := fun s hs => hne s (pm.mem_iff.mp hs)
    generalize hL : byKeys xs (ss.map keyD) = L at *
    refine ⟨p, rfl, ⟨_, SqL.of hp3⟩, for_list (K := K) (a := p) (xs := L) (JInv H l p d L ss') ⟨[], [], none, none, none, none, rfl, s03, hp3, s13 _ _ hd, .nil, ⟨⟨fun s hs => (by simp at hs), .nil⟩, fun n => rfl, fun a ha => (by simp at ha)⟩, Nat.le_refl _⟩ ?_ ?_ ?_⟩
    · rintro i σ H' _ ⟨acc, vs, x, y, z, w, _, _, hp4, _⟩
      exact SqL.of hp4
    · rintro i x σ H' hx ⟨acc, vs, x1, y1, z1, w1, rfl, sm4, hp4, hd4, ta, jn, hai⟩
      have hi : i < ss'.length := by
        have := (List.getElem?_eq_some_iff.mp hx).1
        omega
      obtain ⟨v, hv, c, rfl, hc⟩ := tups_get tu' hi
      rw [hx] at hv
      cases hv
      have hc4 := sm4 _ _ hc
      have jn' : Joins (joinF acc ss'[i]) (ss'.take (i + 1)) (ss'.drop (i + 1)) := by
        rw [List.drop_eq_getElem_cons hi] at jn
        rw [List.take_succ_eq_append_getElem hi]
        refine joins_step jn (hne' _ (List.getElem_mem hi)) ?_
        rw [← List.drop_eq_getElem_cons hi]
        exact pw.drop
      have hjl := joinF_len acc ss'[i]
      generalize hs : ss'[i] = s at *
      obtain ⟨lo, hi'⟩ := s
      dsimp only at hc4
      -- what the turn leaves
      have fin : ∀ (vs' : List V) (H5 : Hp) (x y z w : Option V), Same H H5 → H5 p = some (.lst L) → H5 d = some (.lst vs') → Tups H5 vs' (joinF acc (lo, hi')) → JInv H l p d L ss' (i + 1) [some (.ref l), some (.ref d), x, y, z, w] H5 :=
        fun vs' H5 x y z w a1 a2 a3 a4 => ⟨_, vs', x, y, z, w, rfl, a1, a2, a3, a4, jn', by omega⟩
      have hva := tups_len ta
      -- the appending of a tuple
      have app : ∀ (ws : List V) (ac : List Stc) (u v : Option Int) (H5 : Hp), Same H H5 → H5 p = some (.lst L) → H5 d = some (.lst ws) → Tups H5 ws ac → ac ++ [(u, v)] = joinF acc (lo, hi') → ∀ q, H5 q = none →
          ∀ R : VK, (∀ H6, (∀ x y z w, JInv H l p d L ss' (i + 1) [some (.ref l), some (.ref d), x, y, z, w] H6) → R .non H6) → rAppend (.ref d) [.ref q] (upd H5 q (.tup [ov u, ov v])) R := by
        intro ws ac u v H5 a1 a2 a3 a4 e q hq R hR
        obtain ⟨H6, e6, s6, hq6⟩ := new_heap (o := .tup [ov u, ov v]) hq
        rw [e6]
        have hw : ws.length ≤ 100000 := by
          have h1 := tups_len a4
          have h2 := congrArg List.length e
          simp only [List.length_append, List.length_singleton] at h2
          omega
        refine i_app (s6 _ _ a3) hw (hR _ fun x y z w => fin (ws ++ [.ref q]) _ x y z w ?_ ?_ upd_same ?_)
        · exact Same.mut (fun b o z => s6 _ _ (a1 _ _ z)) hd0
        · rw [upd_ne hdp.symm]
          exact s6 _ _ a2
        · rw [← e]
          exact Tups.mut (tups_snoc (a4.up s6) ⟨q, rfl, hq6⟩) (s6 _ _ a3)
      walk_at "rd"
      refine ⟨!vs.isEmpty, .inl ⟨vs, SqL.of hd4, rfl⟩, ?_⟩
      rcases List.eq_nil_or_concat acc with rfl | ⟨ac, p', rfl⟩
      · have ev : vs = [] := List.length_eq_zero_iff.mp (by simpa using hva)
        subst ev
        refine iteF (iteF ?_)
        walk_at "rd"
        refine i_tyL hd4 ?_
        walk_at "rd"
        refine ⟨size_of (Nat.le_of_ble_eq_true rfl), fun q hq => ?_⟩
        walk_at "rd"
        refine app [] [] lo hi' H' sm4 hp4 hd4 ta rfl q hq _ ?_
        exact fun H6 h => h _ _ _ _
      · simp only [List.concat_eq_append] at *
        obtain ⟨vs', v, rfl, ta', tp⟩ := tups_concat ta
        have hne : (!(vs' ++ [v]).isEmpty) = true := by simp
        rw [hne]
        refine iteT ?_
        walk_at "rd"
        refine i_ixL hd4 (atI_last _ _) ?_
        walk_at "rd"
        refine ⟨v, p', lo, rfl, tp, ?_⟩
        walk_at "rd"
        have ejn : joinF (ac ++ [p']) (lo, hi') = if touchB p'.2 lo = true then ac ++ [(p'.1, laterE p'.2 hi')] else ac ++ [p'] ++ [(lo, hi')] := by
          unfold joinF
          rw [List.getLast?_concat]
          simp only [List.dropLast_concat]
        by_cases ht : touchB p'.2 lo = true
        · rw [ht]
          refine iteT ?_
          rw [if_pos ht] at ejn
          walk_at "rd"
          refine i_tyL hd4 (i_pop hd4 ?_)
          obtain ⟨c', rfl, hc'⟩ := tp
          have hcd : c' ≠ d := ne_of hc' hd4 (by intro z; cases z)
          have hc5 : upd H' d (.lst vs') c' = some (.tup [ov p'.1, ov p'.2]) := by rw [upd_ne hcd]; exact hc'
          walk_at "rd"
          refine i_tyL upd_same ?_
          walk_at "rd"
          refine ⟨p'.2, hi', rfl, ?_⟩
          walk_at "rd"
          refine ⟨size_of (Nat.le_of_ble_eq_true rfl), fun q hq => ?_⟩
          walk_at "rd"
          refine app vs' ac p'.1 (laterE p'.2 hi') _ (Same.mut sm4 hd0) (by rw [upd_ne hdp.symm]; exact hp4) upd_same (ta'.mut hd4) ejn.symm q hq _ ?_
          exact fun H6 h => h _ _ _ _
        · have ht' : touchB p'.2 lo = false := by simpa using ht
          rw [ht']
          refine iteF ?_
          rw [if_neg ht] at ejn
          walk_at "rd"
          refine i_tyL hd4 ?_
          walk_at "rd"
          refine ⟨size_of (Nat.le_of_ble_eq_true rfl), fun q hq => ?_⟩
          walk_at "rd"
          refine app _ _ lo hi' H' sm4 hp4 hd4 ta ejn.symm q hq _ ?_
          exact fun H6 h => h _ _ _ _
    · rintro σ H' ⟨acc, vs, x1, y1, z1, w1, rfl, sm4, hp4, hd4, ta, jn, hai⟩
      walk_at "rd"
      rw [hl3, List.take_length, List.drop_length] at jn
      refine ⟨d, vs, rfl, .inl ⟨SqL.of hd4, fun p6 hp6 => ?_⟩⟩
      obtain ⟨H6, e6, s6, h6⟩ := new_heap (o := .tup vs) hp6
      rw [e6]
      refine q p6 H6 acc (fun b o z => s6 _ _ (sm4 _ _ z)) ⟨vs, h6, ta.up s6⟩ jn.canon (fun n => ?_) (by omega)
      rw [jn.has n]
      exact Bool.eq_iff_iff.mpr (by simp only [hasL, List.any_eq_true]; exact ⟨fun ⟨s, hs, e⟩ => ⟨s, pm.mem_iff.mp hs, e⟩, fun ⟨s, hs, e⟩ => ⟨s, pm.mem_iff.mpr hs, e⟩⟩)
end
end Spk.Fi

set_option Elab.async false
set_option linter.all false
set_option maxRecDepth 100000
set_option maxHeartbeats 1000000
namespace Spk.Fi
open PySem L2 Spk
local macro_rules | `(tactic| walk_at "rd") => `(tactic| repeat (first
  | with_reducible refine i_seq ?_ | with_reducible refine i_asg ?_ | with_reducible refine i_ret ?_ | with_reducible refine i_ifS ?_ | with_reducible refine i_if ?_
  | with_reducible refine i_for ?_ | with_reducible refine i_iL ?_ | with_reducible refine i_iT ?_ | with_reducible refine i_ckw ?_ | with_reducible refine i_cm ?_ | with_reducible refine And.intro (rfl : V.ref _ = V.ref _) ?_ | with_reducible refine i_rng1 ?_ | with_reducible refine i_bm ?_ | with_reducible refine i_bm0 ?_
  | with_reducible refine i_drop ?_ | with_reducible refine i_next ?_
  | with_reducible refine i_var rfl ?_ | with_reducible refine i_c ?_ | with_reducible refine i_op ?_ | with_reducible refine i_un ?_ | with_reducible refine i_name ?_
  | with_reducible refine i_rI0 ?_ | with_reducible refine i_rU ?_ | with_reducible refine i_rEq rfl ?_ | with_reducible refine i_rNe rfl ?_
  | with_reducible refine i_test ?_ | with_reducible refine i_tB ?_ | with_reducible refine i_and ?_ | with_reducible refine i_or ?_ | with_reducible refine i_not ?_
  | with_reducible refine i_andV ?_ | with_reducible refine i_orV ?_ | with_reducible refine i_notV ?_
  | with_reducible refine i_cons ?_ | with_reducible refine i_nil ?_ | with_reducible refine i_cb ?_ | with_reducible refine i_call ?_ | with_reducible refine i_bl ?_
  | with_reducible refine i_tup ?_ | with_reducible refine i_lst ?_ | with_reducible refine i_par ?_ | with_reducible refine i_gcons ?_ | with_reducible refine i_gnil ?_
  | with_reducible refine And.intro (rfl : V.non = V.non) ?_ | with_reducible refine i_ixT (by assumption) rfl ?_ | with_reducible refine i_ixL (by assumption) rfl ?_ | with_reducible refine i_gtup (by assumption) rfl ?_
  | with_reducible refine i_gsub ?_
  | with_reducible refine Or.inl (Exists.intro _ (And.intro (rfl : [V.int _] = [V.int _]) ?_)) | with_reducible refine Exists.intro _ (And.intro (rfl : [V.int _] = [V.int _]) ?_)
  | with_reducible refine Or.inr (Exists.intro _ (And.intro (rfl : [V.bl _] = [V.bl _]) ?_))
  | with_reducible refine Exists.intro _ (Exists.intro _ (And.intro (rfl : [V.int _, V.int _] = [V.int _, V.int _]) ?_))
  | with_reducible refine Exists.intro _ (Exists.intro _ (And.intro (rfl : [V.ref _] = [V.ref _]) (And.intro (Or.inl (SqL.of (by assumption))) ?_)))
  | with_reducible refine i_rI (show (0 : Int) < _ by assumption) ?_ | with_reducible refine i_rI (show (0 : Int) < _ by decide) ?_
  | with_reducible refine i_rI (pow_ok (Nat.le_of_ble_eq_true rfl) (Nat.le_of_ble_eq_true rfl)) ?_
  | with_reducible refine i_rI (cmulL rfl) ?_))
/-! ### the class Ranges -/
def Rng (C : Addr) (H : Hp) (r : Addr) (ps : List Stc) : Prop := ∃ dx t, H r = some (.ins C dx [("parts", .ref t)]) ∧ PartsT H t ps ∧ Canon ps
theorem Rng.up {C : Addr} {H H' : Hp} {r : Addr} {ps : List Stc} (e : Same H H') (h : Rng C H r ps) : Rng C H' r ps := by
  obtain ⟨dx, t, a, b, c⟩ := h
  exact ⟨dx, t, e _ _ a, b.up e, c⟩
theorem Rng.canon {C : Addr} {H : Hp} {r : Addr} {ps : List Stc} (h : Rng C H r ps) : Canon ps := let ⟨_, _, _, _, c⟩ := h; c
/-- parts as data -/
def oD : Option Int → PyData
  | none => .none
  | some i => .int i
def stD (s : Stc) : PyData := .tuple [oD s.1, oD s.2]
def psD (ps : List Stc) : PyData := .tuple (ps.map stD)
theorem dp_ov {K : PySem.W.Frag} {H : Hp} (o : Option Int) : Dp K H (ov o) (oD o) := by
  cases o with
  | none => exact .non
  | some i => exact .int i
theorem dps_tups {K : PySem.W.Frag} {H : Hp} {vs : List V} {ps : List Stc} (h : Tups H vs ps) : DpAll K H vs (ps.map stD) := by
  induction h with
  | nil => exact .nil
  | cons r t ih =>
    obtain ⟨a, rfl, ha⟩ := r
    exact .cons (.tup (SqT.of ha) (.cons (dp_ov _) (.cons (dp_ov _) .nil))) ih
theorem dp_parts {K : PySem.W.Frag} {H : Hp} {t : Addr} {ps : List Stc} (h : PartsT H t ps) : Dp K H (.ref t) (psD ps) := by
  obtain ⟨vs, h, tu⟩ := h
  exact .tup (SqT.of h) (dps_tups tu)
theorem eqv_oD (a b : Option Int) : PyData.eqv (oD a) (oD b) = decide (a = b) := by
  cases a <;> cases b <;> simp [oD, PyData.eqv]
  rw [Bool.eq_iff_iff]
  simp
theorem eqv_stD (a b : Stc) : PyData.eqv (stD a) (stD b) = decide (a = b) := by
  obtain ⟨l, r⟩ := a
  obtain ⟨l', r'⟩ := b
  simp only [stD, PyData.eqv, PyData.eqvAll, eqv_oD, Bool.and_true, Prod.mk.injEq]
  rw [Bool.eq_iff_iff]
  simp
theorem eqvAll_ps : ∀ ps qs : List Stc, PyData.eqvAll (ps.map stD) (qs.map stD) = decide (ps = qs)
  | [], [] => by simp [PyData.eqvAll]
  | [], _ :: _ => by simp [PyData.eqvAll]
  | _ :: _, [] => by simp [PyData.eqvAll]
  | a :: ps, b :: qs => by
    simp only [List.map_cons, PyData.eqvAll, eqv_stD, eqvAll_ps ps qs, List.cons.injEq]
    rw [Bool.eq_iff_iff]
    simp
theorem eqv_psD (ps qs : List Stc) : PyData.eqv (psD ps) (psD qs) = decide (ps = qs) := by
  simp only [psD, PyData.eqv]
  exact eqvAll_ps ps qs
theorem lay_oD (o : Option Int) : (oD o).canLay0 = true := by cases o <;> simp [oD, PyData.canLay0]
theorem lay_stD (s : Stc) : (stD s).canLay0 = true := by simp [stD, PyData.canLay0, PyData.canLayAll0, lay_oD]
theorem lay_ps : ∀ ps : List Stc, PyData.canLayAll0 (ps.map stD) = true
  | [] => by simp [PyData.canLayAll0]
  | a :: ps => by simp [PyData.canLayAll0, lay_stD, lay_ps ps]
theorem dep_oD (o : Option Int) : (oD o).depth = 0 := by cases o <;> simp [oD, PyData.depth]
theorem dep_ps : ∀ ps : List Stc, PyData.depthAll (ps.map stD) ≤ 2
  | [] => by simp [PyData.depthAll]
  | a :: ps => by
    have := dep_ps ps
    simp only [List.map_cons, PyData.depthAll, stD, PyData.depth, dep_oD]
    omega
theorem shaped_ps (ps : List Stc) : SeqAt.shaped (psD ps) = true := by
  have h1 := lay_ps ps
  have h2 := dep_ps ps
  simp only [SeqAt.shaped, psD, PyData.canLay0, h1, PyData.depth, Bool.true_and, decide_eq_true_eq]
  omega

/-- what the text says of the class -/
structure ClsT (K : PySem.W.Frag) (mg : Str → Option Value) (C fI fE : Addr) : Prop where
  cl : Cls K C
  nP : NoAttr K C "parts"
  M : Mk K C fI
  g_C : mg "Ranges" = some (.ref C)
  self : PySem.W.selfFirst K C = true
  eq : OwnEq K C fE
  cls : PySem.W.findIn K (.ref C) "__class__" = some (some (.builtin "object.__class__"))
  get : PySem.W.specialIn K (.builtin "object.__class__") "__get__" = some (some (.builtin "getset_descriptor.__get__"))
  tk : PySem.W.takesIn K (.builtin "object.__class__") = some true
  mro : PySem.W.mroIn K C (.type "object") = some true
  kit : PySem.W.kitOne K (.ref C) (.ref C) = some true
  kn : PySem.W.kitOne K (.type "NoneType") (.ref C) = some false
  kb : PySem.W.kitOne K (.type "bool") (.ref C) = some false
  ki : PySem.W.kitOne K (.type "int") (.ref C) = some false
  ks : PySem.W.kitOne K (.type "str") (.ref C) = some false
  kl : PySem.W.kitOne K (.type "list") (.ref C) = some false
  kt : PySem.W.kitOne K (.type "tuple") (.ref C) = some false
section
variable {P : Program} {w : World} {K : PySem.W.Frag} {mg : Str → Option Value} {base : Heap} {C fI fE : Addr}
theorem Rng.ty {H : Hp} {r : Addr} {ps : List Stc} (T : ClsT K mg C fI fE) (h : Rng C H r ps) : TyX K H (.ref r) (.ref C) := by
  obtain ⟨dx, t, a, _⟩ := h
  exact .base (.ins a T.cl T.cls T.get T.tk T.mro)
theorem ClsT.odd {H : Hp} {y : V} {X : String} (T : ClsT K mg C fI fE) (o : Odd H y X) : PySem.W.kitOne K (.type X) (.ref C) = some false := by
  cases o with
  | non => exact T.kn
  | bl b => exact T.kb
  | int i => exact T.ki
  | str x => exact T.ks
  | lst h => exact T.kl
  | tup h => exact T.kt
abbrev s_Ranges__init : Stmt := inClass (top 6) 0
theorem sc_Ranges__init : FnScope ["self", "parts"] ["self", "parts"] (defScope s_Ranges__init) := ⟨rfl, rfl, rfl, by decide +kernel, rfl, by decide +kernel, by decide +kernel⟩
def sp_init (C : Addr) : Sp := fun vs H Q _ => ∃ x dx t, vs = [.ref x, .ref t] ∧ H x = some (.ins C dx []) ∧ Q .non (upd H x (.ins C dx [("parts", .ref t)]))
theorem ok_init {fd : FuncData} (F : Fun K "__init__" "Ranges.__init__" s_Ranges__init fI fd) (T : ClsT K mg C fI fE) : FnOk P w K mg base CX0 1 fI fd ["self", "parts"] (sp_init C) := by
  refine F.ok sc_Ranges__init (fun vs H Q E h => ?_) (fun cdv A outer s H vs Q E hr h => ?_)
  · obtain ⟨x, dx, t, rfl, _⟩ := h
    rfl
  · obtain ⟨x, dx, t, rfl, hx, q⟩ := h
    refine ⟨_, (pss_one (ps_fld (pv 0) (pv 1) rfl)), ?_⟩
    exact ⟨_, rfl, _, rfl, x, C, dx, [], rfl, hx, T.cl, T.nP, (by show 0 < 1000; decide), q⟩
/-- the promise of __init__ where a set is made -/
abbrev spI (C : Addr) : Sp := fun vs H Q E => sp_init C (vs ++ []) H Q E
theorem mk_rng {H : Hp} {t : Addr} {ps : List Stc} {Q : VK} (hp : PartsT H t ps) (hc : Canon ps) (q : ∀ r H', Same H H' → Rng C H' r ps → Q (.ref r) H') :
    ∀ x dx, H x = none → H dx = none → dx ≠ x → spI C (V.ref x :: [.ref t]) (upd (upd H dx (.own x)) x (.ins C dx [])) (fun v H2 => v = .non ∧ Q (.ref x) H2) E0 := by
  intro x dx hx hdx hne
  refine ⟨x, dx, t, rfl, upd_same, rfl, ?_⟩
  have sm : Same H (upd (upd (upd H dx (.own x)) x (.ins C dx [])) x (.ins C dx [("parts", .ref t)])) := fun b o e => by
    rw [upd_ne (ne_of_none e hx), upd_ne (ne_of_none e hx), upd_ne (ne_of_none e hdx)]
    exact e
  exact q x _ sm ⟨dx, t, upd_same, hp.up sm, hc⟩
theorem canon_nil : Canon [] := ⟨fun s hs => by simp at hs, .nil⟩
theorem canon_one {s : Stc} (h : NE s) : Canon [s] := ⟨fun x hx => by rw [List.mem_singleton.mp hx]; exact h, List.pairwise_singleton ..⟩
/-- «a new set with the integers that g tells» -/
abbrev NewR (C : Addr) (H : Hp) (Q : VK) (n : Nat) (g : Int → Bool) : Prop := ∀ r H' ps, Same H H' → Rng C H' r ps → (∀ k, hasL ps k = g k) → ps.length ≤ n → Q (.ref r) H'
abbrev s_Ranges_between : Stmt := inClass (top 6) 2
theorem sc_Ranges_between : FnScope ["cls", "low", "high"] ["cls", "low", "high"] (defScope s_Ranges_between) := ⟨rfl, rfl, rfl, by decide +kernel, rfl, by decide +kernel, by decide +kernel⟩
def sp_between (C : Addr) : Sp := fun vs H Q _ => ∃ lo hi, vs = [.ref C, ov lo, ov hi] ∧ NewR C H Q 1 (has1 (lo, hi))
theorem ok_between {f : Addr} {fd fdI : FuncData} (F : Fun K "between" "Ranges.between" s_Ranges_between f fd) (FI : Fun K "__init__" "Ranges.__init__" s_Ranges__init fI fdI) (B_init : Binds K fdI ["self", "parts"] []) (T : ClsT K mg C fI fE) :
    FnOk P w K mg base CX0 3 f fd ["cls", "low", "high"] (sp_between C) := by
  have RI : FnR P w K mg base CX0 1 fI (spI C) := FnOk.raw (ok_init FI T) B_init .nil
  have M := T.M
  refine F.ok sc_Ranges_between (fun vs H Q E h => ?_) (fun cdv A outer s H vs Q E hr h => ?_)
  · obtain ⟨lo, hi, rfl, _⟩ := h
    rfl
  · obtain ⟨lo, hi, rfl, q⟩ := h
    refine ⟨_, (pss_cons (ps_if (PW.pt (pw_and (pt_cmpR op_notN (pv 1) pe_non (nomark _)) (pw_and (pt_cmpR op_notN (pv 2) pe_non (nomark _)) (pw_and1 (pt_cmpR op_gt (pv 1) (pv 2) (nomark _))))))
 (pss_one (ps_ret (pe_makeL (i := 0) M RI (hr.mono (by decide)) rfl (Or.inl rfl) pass0 (pa_cons (pe_tup pa_nil) pa_nil))))
 pss_nil)
 (pss_one (ps_ret (pe_makeL (i := 0) M RI (hr.mono (by decide)) rfl (Or.inl rfl) pass0 (pa_cons (pe_tup (pa_cons (pe_tup (pa_cons (pv 1) (pa_cons (pv 2) pa_nil))) pa_nil)) pa_nil))))), ?_⟩
    have full : NE (lo, hi) → tRet (tMakeL 0 C (spI C) E0 (tCons (tTup (tCons (tTup (tCons (tVar 1) (tCons (tVar 2) tNil))) tNil)) tNil)) { nx := fun _ H' => Q .non H', rt := Q } [some (.ref C), some (ov lo), some (ov hi)] H := by
      intro hn
      walk_at "rd"
      refine ⟨rfl, ?_⟩
      unfold StX.tMakeR
      walk_at "rd"
      refine ⟨size_of (Nat.le_of_ble_eq_true rfl), fun p hp => ?_⟩
      obtain ⟨H1, e1, s1, h1⟩ := new_heap (o := .tup [ov lo, ov hi]) hp
      rw [e1]
      walk_at "rd"
      refine ⟨size_of (Nat.le_of_ble_eq_true rfl), fun p' hp' => ?_⟩
      obtain ⟨H2, e2, s2, h2⟩ := new_heap (o := .tup [.ref p]) hp'
      rw [e2]
      walk_at "rd"
      refine mk_rng (ps := [(lo, hi)]) ⟨_, h2, .cons ⟨p, rfl, s2 _ _ h1⟩ .nil⟩ (canon_one hn) fun r H' s3 hr => ?_
      exact q r H' _ (fun b o z => s3 _ _ (s2 _ _ (s1 _ _ z))) hr (fun k => hasL_one _ _) (Nat.le_refl _)
    walk_at "rd"
    cases lo with
    | none =>
      refine ite_nd (fun h => absurd rfl h) fun _ => iteF ?_
      walk_at "rd"
      exact full (fun l h e => nomatch e)
    | some l =>
      refine ite_nd (fun _ => ?_) (fun h => nomatch h)
      walk_at "rd"
      cases hi with
      | none =>
        refine ite_nd (fun h => absurd rfl h) fun _ => iteF ?_
        walk_at "rd"
        exact full (fun l h _ e => nomatch e)
      | some h =>
        refine ite_nd (fun _ => ?_) (fun h => nomatch h)
        walk_at "rd"
        refine ite_d (fun hlt => ?_) (fun hge => ?_)
        · walk_at "rd"
          refine ⟨rfl, ?_⟩
          unfold StX.tMakeR
          walk_at "rd"
          refine ⟨Nat.zero_le _, fun p hp => ?_⟩
          obtain ⟨H1, e1, s1, h1⟩ := new_heap (o := .tup []) hp
          rw [e1]
          walk_at "rd"
          refine mk_rng (ps := []) ⟨_, h1, .nil⟩ canon_nil fun r H' s3 hr => ?_
          refine q r H' _ (fun b o z => s3 _ _ (s1 _ _ z)) hr (fun k => ?_) (Nat.zero_le _)
          rw [hasL_nil]
          simp only [has1]
          rw [eq_comm, Bool.and_eq_false_iff, decide_eq_false_iff_not, decide_eq_false_iff_not]
          omega
        · walk_at "rd"
          exact full (fun a b e1 e2 => by cases e1; cases e2; omega)
abbrev s_Ranges_full : Stmt := inClass (top 6) 3
theorem sc_Ranges_full : FnScope ["cls"] ["cls"] (defScope s_Ranges_full) := ⟨rfl, rfl, rfl, by decide +kernel, rfl, by decide +kernel, by decide +kernel⟩
def sp_full (C : Addr) : Sp := fun vs H Q _ => vs = [.ref C] ∧ ∀ r H', Same H H' → Rng C H' r [(none, none)] → Q (.ref r) H'
theorem ok_full {f : Addr} {fd fdI : FuncData} (F : Fun K "full" "Ranges.full" s_Ranges_full f fd) (FI : Fun K "__init__" "Ranges.__init__" s_Ranges__init fI fdI) (B_init : Binds K fdI ["self", "parts"] []) (T : ClsT K mg C fI fE) :
    FnOk P w K mg base CX0 3 f fd ["cls"] (sp_full C) := by
  have RI : FnR P w K mg base CX0 1 fI (spI C) := FnOk.raw (ok_init FI T) B_init .nil
  have M := T.M
  refine F.ok sc_Ranges_full (fun vs H Q E h => ?_) (fun cdv A outer s H vs Q E hr h => ?_)
  · obtain ⟨rfl, _⟩ := h
    rfl
  · obtain ⟨rfl, q⟩ := h
    refine ⟨_, (pss_one (ps_ret (pe_makeL (i := 0) M RI (hr.mono (by decide)) rfl (Or.inl rfl) pass0 (pa_cons (pe_tup (pa_cons (pe_tup (pa_cons pe_non (pa_cons pe_non pa_nil))) pa_nil)) pa_nil)))), ?_⟩
    walk_at "rd"
    refine ⟨rfl, ?_⟩
    unfold StX.tMakeR
    walk_at "rd"
    refine ⟨size_of (Nat.le_of_ble_eq_true rfl), fun p hp => ?_⟩
    obtain ⟨H1, e1, s1, h1⟩ := new_heap (o := .tup [.non, .non]) hp
    rw [e1]
    walk_at "rd"
    refine ⟨size_of (Nat.le_of_ble_eq_true rfl), fun p' hp' => ?_⟩
    obtain ⟨H2, e2, s2, h2⟩ := new_heap (o := .tup [.ref p]) hp'
    rw [e2]
    walk_at "rd"
    refine mk_rng (ps := [(none, none)]) ⟨_, h2, .cons ⟨p, rfl, s2 _ _ h1⟩ .nil⟩ (canon_one fun l h e => nomatch e) fun r H' s3 hr => ?_
    exact q r H' (fun b o z => s3 _ _ (s2 _ _ (s1 _ _ z))) hr
abbrev s_Ranges_empty : Stmt := inClass (top 6) 4
theorem sc_Ranges_empty : FnScope ["cls"] ["cls"] (defScope s_Ranges_empty) := ⟨rfl, rfl, rfl, by decide +kernel, rfl, by decide +kernel, by decide +kernel⟩
def sp_empty (C : Addr) : Sp := fun vs H Q _ => vs = [.ref C] ∧ ∀ r H', Same H H' → Rng C H' r [] → Q (.ref r) H'
theorem ok_empty {f : Addr} {fd fdI : FuncData} (F : Fun K "empty" "Ranges.empty" s_Ranges_empty f fd) (FI : Fun K "__init__" "Ranges.__init__" s_Ranges__init fI fdI) (B_init : Binds K fdI ["self", "parts"] []) (T : ClsT K mg C fI fE) :
    FnOk P w K mg base CX0 3 f fd ["cls"] (sp_empty C) := by
  have RI : FnR P w K mg base CX0 1 fI (spI C) := FnOk.raw (ok_init FI T) B_init .nil
  have M := T.M
  refine F.ok sc_Ranges_empty (fun vs H Q E h => ?_) (fun cdv A outer s H vs Q E hr h => ?_)
  · obtain ⟨rfl, _⟩ := h
    rfl
  · obtain ⟨rfl, q⟩ := h
    refine ⟨_, (pss_one (ps_ret (pe_makeL (i := 0) M RI (hr.mono (by decide)) rfl (Or.inl rfl) pass0 (pa_cons (pe_tup pa_nil) pa_nil)))), ?_⟩
    walk_at "rd"
    refine ⟨rfl, ?_⟩
    unfold StX.tMakeR
    walk_at "rd"
    refine ⟨Nat.zero_le _, fun p hp => ?_⟩
    obtain ⟨H1, e1, s1, h1⟩ := new_heap (o := .tup []) hp
    rw [e1]
    walk_at "rd"
    refine mk_rng (ps := []) ⟨_, h1, .nil⟩ canon_nil fun r H' s3 hr => ?_
    exact q r H' (fun b o z => s3 _ _ (s1 _ _ z)) hr
/-! ### a | b -/
abbrev s_Ranges__or : Stmt := inClass (top 6) 5
theorem sc_Ranges__or : FnScope ["self", "other"] ["self", "other"] (defScope s_Ranges__or) := ⟨rfl, rfl, rfl, by decide +kernel, rfl, by decide +kernel, by decide +kernel⟩
def sp_or (C : Addr) : Sp := fun vs H Q _ => ∃ a b ps qs, vs = [.ref a, .ref b] ∧ Rng C H a ps ∧ Rng C H b qs ∧ ps.length + qs.length ≤ 1000 ∧ NewR C H Q (ps.length + qs.length) fun k => hasL ps k || hasL qs k
theorem tups_append {H : Hp} {vs ws : List V} {ps qs : List Stc} (h : Tups H vs ps) (h' : Tups H ws qs) : Tups H (vs ++ ws) (ps ++ qs) := by
  induction h with
  | nil => exact h'
  | cons r t ih => exact .cons r ih
theorem lk_parts {t : Addr} : ([("parts", V.ref t)] : List (Str × V)).lookup ("parts" : Str) = some (V.ref t) := by
  show (match (("parts" : Str) == "parts") with | true => some (V.ref t) | false => none) = some (V.ref t)
  rw [beq_self_eq_true]
theorem ok_or {f fJ : Addr} {fd fdI fdJ : FuncData} (F : Fun K "__or__" "Ranges.__or__" s_Ranges__or f fd) (FI : Fun K "__init__" "Ranges.__init__" s_Ranges__init fI fdI) (B_init : Binds K fdI ["self", "parts"] []) (T : ClsT K mg C fI fE)
    (F_joined : Fun K "joined" "joined" s_joined fJ fdJ) (B_joined : Binds K fdJ ["stretches"] []) (g_joined : mg "joined" = some (.ref fJ)) (G_joined : FnOk P w K mg base CX0 4 fJ fdJ ["stretches"] (sp_joined K)) :
    FnOk P w K mg base CX0 5 f fd ["self", "other"] (sp_or C) := by
  have RI : FnR P w K mg base CX0 1 fI (spI C) := FnOk.raw (ok_init FI T) B_init .nil
  have M := T.M
  have g_C := T.g_C
  refine F.ok sc_Ranges__or (fun vs H Q E h => ?_) (fun cdv A outer s H vs Q E hr h => ?_)
  · obtain ⟨a, b, ps, qs, rfl, _⟩ := h
    rfl
  · obtain ⟨a, b, ps, qs, rfl, ⟨dx, t, ha, ⟨vs, ht, tu⟩, ca⟩, ⟨dy, u, hb, ⟨ws, hu, tw⟩, cb⟩, hz, q⟩ := h
    refine ⟨_, (pss_one (ps_ret (StX.pe_makeR M RI (hr.mono (by decide)) rfl g_C pass0 (pa_cons (pe_call G_joined (hr.mono (by decide)) rfl g_joined F_joined.kp B_joined .nil pass0 (pa_cons (pe_op op_catA (pe_fld (pv 0) rfl) (pe_fld (pv 1) rfl)) pa_nil)) pa_nil)))), ?_⟩
    have l1 := tups_len tu
    have l2 := tups_len tw
    have hne : ∀ s, s ∈ ps ++ qs → NE s := fun s hs => (List.mem_append.mp hs).elim (ca.ne s) (cb.ne s)
    have fin : ∀ (p : Addr) (H1 : Hp), Same H H1 → H1 p = some (.tup (vs ++ ws)) → sp_joined K [.ref p] H1 (fun v H2 => ∀ x dx, H2 x = none → H2 dx = none → dx ≠ x → spI C (V.ref x :: [v]) (upd (upd H2 dx (.own x)) x (.ins C dx [])) (fun v H2 => v = .non ∧ Q (.ref x) H2) E0) E0 := by
      intro p H1 s1 hp
      refine ⟨p, vs ++ ws, ps ++ qs, rfl, .inr (SqT.of hp), tups_append (tu.up s1) (tw.up s1), by rw [List.length_append]; exact hz, hne, fun r H2 rs s2 hr hc hm hl => ?_⟩
      refine mk_rng hr hc fun x H3 s3 hx => ?_
      exact q x H3 rs (fun b o z => s3 _ _ (s2 _ _ (s1 _ _ z))) hx (fun k => by rw [hm k, hasL_append]) (by rw [List.length_append] at hl; exact hl)
    unfold StX.tMakeR
    walk_at "rd"
    refine ⟨_, rfl, a, C, dx, _, _, rfl, ha, T.cl, T.nP, lk_parts, ?_⟩
    refine ⟨_, rfl, b, C, dy, _, _, rfl, hb, T.cl, T.nP, lk_parts, ?_⟩
    refine ⟨t, u, vs, ws, rfl, rfl, SqT.of ht, SqT.of hu, size_of (by omega), fun e => ?_, fun _ e => ?_, fun _ _ p hp => ?_⟩
    · subst e
      exact fin u H (Same.refl H) hu
    · subst e
      exact fin t H (Same.refl H) (by rw [List.append_nil]; exact ht)
    · obtain ⟨H1, e1, s1, h1⟩ := new_heap (o := .tup (vs ++ ws)) hp
      rw [e1]
      exact fin p H1 s1 h1

/-! ### Ranges.of(*numbers) -/
def singles (ns : List Int) : List Stc := ns.map fun n => (some n, some n)
abbrev s_Ranges_of : Stmt := inClass (top 6) 1
theorem sc_Ranges_of : FnScope ["cls", "numbers", "number"] ["cls", "numbers"] (defScope s_Ranges_of) := ⟨rfl, rfl, rfl, by decide +kernel, rfl, by decide +kernel, by decide +kernel⟩
def sp_ofI (C : Addr) : Sp := fun vs H Q _ => ∃ t ns, vs = [.ref C, .ref t] ∧ H t = some (.tup (ns.map V.int)) ∧ ns.length ≤ 1000 ∧ NewR C H Q ns.length (hasL (singles ns))
/-- as it is called -/
def sp_of (C : Addr) : Sp := fun vs H Q _ => ∃ ns : List Int, vs = .ref C :: ns.map V.int ∧ ns.length ≤ 1000 ∧ NewR C H Q ns.length (hasL (singles ns))
structure OInv (H0 : Hp) (t D : Addr) (ns : List Int) (i : Nat) (H : Hp) : Prop where
  ex : ∃ vs, Same H0 H ∧ H D = some (.lst vs) ∧ Tups H vs (singles (ns.take i))
theorem singles_ne (ns : List Int) : ∀ s, s ∈ singles ns → NE s := fun s hs => by
  obtain ⟨n, _, rfl⟩ := List.mem_map.mp hs
  intro l h e1 e2
  cases e1
  cases e2
  exact Int.le_refl _
theorem ok_of {f fJ : Addr} {fd fdI fdJ : FuncData} (F : Fun K "of" "Ranges.of" s_Ranges_of f fd) (FI : Fun K "__init__" "Ranges.__init__" s_Ranges__init fI fdI) (B_init : Binds K fdI ["self", "parts"] []) (T : ClsT K mg C fI fE)
    (F_joined : Fun K "joined" "joined" s_joined fJ fdJ) (B_joined : Binds K fdJ ["stretches"] []) (g_joined : mg "joined" = some (.ref fJ)) (G_joined : FnOk P w K mg base CX0 4 fJ fdJ ["stretches"] (sp_joined K)) :
    FnR P w K mg base CX0 5 f (sp_of C) := by
  have RI : FnR P w K mg base CX0 1 fI (spI C) := FnOk.raw (ok_init FI T) B_init .nil
  have M := T.M
  refine FnR.imp (F.okStar (ps := ["cls"]) (pv := "numbers") (sp := sp_ofI C) sc_Ranges_of (fun kV doc pm an cdv ct => StX.bind_star1 (B := fun us => bindArgs (PySem.W.fnOf "of" "Ranges.of" (defArgs s_Ranges_of) (defBody s_Ranges_of) (defScope s_Ranges_of) .none kV doc pm an cdv ct) ⟨us, []⟩) (fun _ => rfl) fun _ _ _ => rfl) (fun cdv A outer s H vs Q E hr h => ?_)) ?_
  · obtain ⟨t, ns, rfl, ht, hz, q⟩ := h
    refine ⟨_, (pss_one (ps_ret (pe_makeL (i := 0) M RI (hr.mono (by decide)) rfl (Or.inl rfl) pass0 (pa_cons (pe_call G_joined (hr.mono (by decide)) rfl g_joined F_joined.kp B_joined .nil pass0 (pa_cons (pe_lc (own := [("number", 2)]) (g := gName 2) (tt := tYes) rfl sc_Ranges_of.nd (pi_tup (pv 1)) (blkOk_by (own := [("number", 2)]) (N := ["cls", "numbers", "number"]) (sc := defScope s_Ranges_of) (by decide +kernel)) (fun _ _ _ _ _ => pg_name (i := 2) sc_Ranges_of.nd rfl (Or.inl rfl)) (fun _ _ _ _ _ => pts_nil) (fun _ _ _ _ _ => (pe_tup (pa_cons (pv 2) (pa_cons (pv 2) pa_nil))))) pa_nil)) pa_nil)))), ?_⟩
    walk_at "rd"
    refine ⟨rfl, ?_⟩
    unfold StX.tMakeR
    walk_at "rd"
    refine ⟨_, rfl, t, rfl, ⟨_, SqT.of ht⟩, fun D hD => ?_⟩
    obtain ⟨H1, e1, s1, h1⟩ := new_heap (o := .lst []) hD
    refine lc_tup (K := K) (a := t) (xs := ns.map V.int) (OInv H t D ns) ⟨[], by rw [e1]; exact s1, by rw [e1]; exact h1, .nil⟩ ?_ ?_ ?_
    · rintro i H' _ ⟨vs, sm, _⟩
      exact SqT.of (sm _ _ ht)
    · rintro i x H' hx ⟨vs, sm, hd, tu⟩
      have hi : i < ns.length := by
        have := (List.getElem?_eq_some_iff.mp hx).1
        simpa using this
      have ex : x = .int ns[i] := by
        rw [List.getElem?_map, List.getElem?_eq_getElem hi] at hx
        exact (Option.some.inj hx).symm
      subst ex
      walk_at "rd"
      refine ⟨rfl, i_yes (iteT ?_)⟩
      walk_at "rd"
      refine ⟨size_of (Nat.le_of_ble_eq_true rfl), fun p hp => ?_⟩
      obtain ⟨H2, e2, s2, h2⟩ := new_heap (o := .tup [.int ns[i], .int ns[i]]) hp
      rw [e2]
      have hl := tups_len tu
      have hl2 : vs.length ≤ 100000 := by
        rw [hl]
        simp only [singles, List.length_map, List.length_take]
        omega
      refine ⟨vs, s2 _ _ hd, size_lt hl2, ⟨vs ++ [.ref p], Same.mut (fun b o z => s2 _ _ (sm _ _ z)) hD, upd_same, ?_⟩⟩
      have e : singles (ns.take (i + 1)) = singles (ns.take i) ++ [(some ns[i], some ns[i])] := by
        simp only [singles, List.take_succ_eq_append_getElem hi, List.map_append, List.map_cons, List.map_nil]
      rw [e]
      exact Tups.mut (tups_snoc (tu.up s2) ⟨p, rfl, h2⟩) (s2 _ _ hd)
    · rintro H' ⟨vs, sm, hd, tu⟩
      rw [List.length_map, List.take_length] at tu
      refine ⟨D, vs, singles ns, rfl, .inl (SqL.of hd), tu, by simpa [singles] using hz, singles_ne ns, fun p H2 ps s2 hp hc hm hl => ?_⟩
      refine mk_rng hp hc fun r H3 s3 hr => ?_
      exact q r H3 ps (fun b o z => s3 _ _ (s2 _ _ (sm _ _ z))) hr hm (by simpa [singles] using hl)
  · rintro vs H Q E ⟨ns, rfl, hz, q⟩
    refine ⟨[.ref C], ns.map V.int, rfl, rfl, size_of (by rw [List.length_map]; omega), fun p hp => ?_⟩
    obtain ⟨H1, e1, s1, h1⟩ := new_heap (o := .tup (ns.map V.int)) hp
    rw [e1]
    exact ⟨p, ns, rfl, h1, hz, fun r H' ps sm hr hm hl => q r H' ps (fun b o z => sm _ _ (s1 _ _ z)) hr hm hl⟩
/-! ### ==, in, bool -/
end
end Spk.Fi

set_option Elab.async false
set_option linter.all false
set_option maxRecDepth 100000
set_option maxHeartbeats 1000000
namespace Spk.Fi
open PySem L2 Spk
local macro_rules | `(tactic| walk_at "rd") => `(tactic| repeat (first
  | with_reducible refine i_seq ?_ | with_reducible refine i_asg ?_ | with_reducible refine i_ret ?_ | with_reducible refine i_ifS ?_ | with_reducible refine i_if ?_
  | with_reducible refine i_for ?_ | with_reducible refine i_iL ?_ | with_reducible refine i_iT ?_ | with_reducible refine i_ckw ?_ | with_reducible refine i_cm ?_ | with_reducible refine And.intro (rfl : V.ref _ = V.ref _) ?_ | with_reducible refine i_rng1 ?_ | with_reducible refine i_bm ?_ | with_reducible refine i_bm0 ?_
  | with_reducible refine i_drop ?_ | with_reducible refine i_next ?_
  | with_reducible refine i_var rfl ?_ | with_reducible refine i_c ?_ | with_reducible refine i_op ?_ | with_reducible refine i_un ?_ | with_reducible refine i_name ?_
  | with_reducible refine i_rI0 ?_ | with_reducible refine i_rU ?_ | with_reducible refine i_rEq rfl ?_ | with_reducible refine i_rNe rfl ?_
  | with_reducible refine i_test ?_ | with_reducible refine i_tB ?_ | with_reducible refine i_and ?_ | with_reducible refine i_or ?_ | with_reducible refine i_not ?_
  | with_reducible refine i_andV ?_ | with_reducible refine i_orV ?_ | with_reducible refine i_notV ?_
  | with_reducible refine i_cons ?_ | with_reducible refine i_nil ?_ | with_reducible refine i_cb ?_ | with_reducible refine i_call ?_ | with_reducible refine i_bl ?_
  | with_reducible refine i_tup ?_ | with_reducible refine i_lst ?_ | with_reducible refine i_par ?_ | with_reducible refine i_gcons ?_ | with_reducible refine i_gnil ?_
  | with_reducible refine And.intro (rfl : V.non = V.non) ?_ | with_reducible refine i_ixT (by assumption) rfl ?_ | with_reducible refine i_ixL (by assumption) rfl ?_ | with_reducible refine i_gtup (by assumption) rfl ?_
  | with_reducible refine i_gsub ?_
  | with_reducible refine Or.inl (Exists.intro _ (And.intro (rfl : [V.int _] = [V.int _]) ?_)) | with_reducible refine Exists.intro _ (And.intro (rfl : [V.int _] = [V.int _]) ?_)
  | with_reducible refine Or.inr (Exists.intro _ (And.intro (rfl : [V.bl _] = [V.bl _]) ?_))
  | with_reducible refine Exists.intro _ (Exists.intro _ (And.intro (rfl : [V.int _, V.int _] = [V.int _, V.int _]) ?_))
  | with_reducible refine Exists.intro _ (Exists.intro _ (And.intro (rfl : [V.ref _] = [V.ref _]) (And.intro (Or.inl (SqL.of (by assumption))) ?_)))
  | with_reducible refine i_rI (show (0 : Int) < _ by assumption) ?_ | with_reducible refine i_rI (show (0 : Int) < _ by decide) ?_
  | with_reducible refine i_rI (pow_ok (Nat.le_of_ble_eq_true rfl) (Nat.le_of_ble_eq_true rfl)) ?_
  | with_reducible refine i_rI (cmulL rfl) ?_))
section
variable {P : Program} {w : World} {K : PySem.W.Frag} {mg : Str → Option Value} {base : Heap}
theorem _root_.Spk.TupS.keep {H H' : Hp} {v : V} {s : Stc} (e : Keep H H') (h : TupS H v s) : TupS H' v s := by
  obtain ⟨a, rfl, h⟩ := h
  exact ⟨a, rfl, e _ _ rfl h⟩
theorem _root_.Spk.Tups.keep {H H' : Hp} {vs : List V} {ss : List Stc} (e : Keep H H') (h : Tups H vs ss) : Tups H' vs ss := Paired.mapP h fun _ _ z => z.keep e
theorem PartsT.keep {H H' : Hp} {t : Addr} {ps : List Stc} (e : Keep H H') (h : PartsT H t ps) : PartsT H' t ps := by
  obtain ⟨vs, h, z⟩ := h
  exact ⟨vs, e _ _ rfl h, z.keep e⟩
theorem Rng.keep {C : Addr} {H H' : Hp} {r : Addr} {ps : List Stc} (e : Keep H H') (h : Rng C H r ps) : Rng C H' r ps := by
  obtain ⟨dx, t, a, b, c⟩ := h
  exact ⟨dx, t, e _ _ rfl a, b.keep e, c⟩
theorem penny_tups {H : Hp} {vs : List V} {ss : List Stc} (h : Tups H vs ss) : penny (.lst vs) = false := by
  cases h with
  | nil => rfl
  | cons r t =>
    obtain ⟨a, rfl, _⟩ := r
    cases t with
    | nil => rfl
    | cons r t =>
      obtain ⟨b, rfl, _⟩ := r
      cases t <;> rfl
/-- a list of stretches -/
def StrL (H : Hp) (l : Addr) (ss : List Stc) : Prop := ∃ vs, H l = some (.lst vs) ∧ Tups H vs ss
theorem StrL.up {H H' : Hp} {l : Addr} {ss : List Stc} (e : Same H H') (h : StrL H l ss) : StrL H' l ss := by
  obtain ⟨vs, h, z⟩ := h
  exact ⟨vs, e _ _ h, z.up e⟩
theorem StrL.keep {H H' : Hp} {l : Addr} {ss : List Stc} (e : Keep H H') (h : StrL H l ss) : StrL H' l ss := by
  obtain ⟨vs, h, z⟩ := h
  exact ⟨vs, e _ _ (penny_tups z) h, z.keep e⟩
theorem dp_strL {H : Hp} {l : Addr} {ss : List Stc} (h : StrL H l ss) : Dp K H (.ref l) (.list (ss.map stD)) := by
  obtain ⟨vs, h, tu⟩ := h
  exact .lst (SqL.of h) (dps_tups tu)
theorem shaped_strL (ss : List Stc) : SeqAt.shaped (.list (ss.map stD)) = true := by
  have h1 := lay_ps ss
  have h2 := dep_ps ss
  have h3 : (PyData.list (ss.map stD)).depth ≤ 3 := by
    simp only [PyData.depth]
    omega
  unfold SeqAt.shaped
  rw [Bool.and_eq_true, decide_eq_true_eq]
  exact ⟨by simpa only [PyData.canLay0] using h1, by omega⟩
theorem eqv_strL (ss ts : List Stc) : PyData.eqv (.list (ss.map stD)) (.list (ts.map stD)) = decide (ss = ts) := eqvAll_ps ss ts
theorem _root_.Spk.Keep.mut {H0 H : Hp} {d : Addr} {o : HO} (e : Keep H0 H) (h : H0 d = none) : Keep H0 (upd H d o) := fun b u hu hb => by
  rw [upd_ne (ne_of_none hb h)]
  exact e b u hu hb
/-- a list of ours is changed -/
theorem Pen.mut {H : Hp} {p L d : Addr} {n : Nat} {vs ws : List V} {ss : List Stc} (h : Pen H p L n) (hd : H d = some (.lst vs)) (hv : Tups H vs ss) (hne : L ≠ d) : Pen (upd H d (.lst ws)) p L n := by
  obtain ⟨ns, a, l, h1, h2, r⟩ := h
  have hp : p ≠ d := fun z => by
    subst z
    rw [h1] at hd
    cases hd
    have := penny_tups hv
    simp [penny] at this
  exact ⟨ns, a, l, by rw [upd_ne hp]; exact h1, by rw [upd_ne hne]; exact h2, r⟩
theorem Pen.ne {H : Hp} {p L d : Addr} {n : Nat} (h : Pen H p L n) (hd : H d = none) : L ≠ d := by
  obtain ⟨ns, a, l, h1, h2, r⟩ := h
  exact ne_of_none h2 hd
theorem item_of {H : Hp} {vs : List V} {ss : List Stc} (tu : Tups H vs ss) {i : Nat} {x : V} (hx : vs[i]? = some x) : ∃ (hi : i < ss.length) (c : Addr), x = .ref c ∧ H c = some (.tup [ov ss[i].1, ov ss[i].2]) := by
  have hi : i < ss.length := by
    have := (List.getElem?_eq_some_iff.mp hx).1
    have := tups_len tu
    omega
  obtain ⟨v, hv, c, e, hc⟩ := tups_get tu hi
  rw [hx] at hv
  cases hv
  exact ⟨hi, c, e, hc⟩
end
/-- an operator of two forms -/
theorem op_or2 {X : Cx} {f : Value → Value → Sem Value} {r1 r2 : R2} (h1 : OpR X f r1) (h2 : OpR X f r2) : OpR X f (fun x y H Q => r1 x y H Q ∨ r2 x y H Q) := fun pins s σ H x y v u Q I rx ry h =>
  h.elim (fun z => h1 pins s σ H x y v u Q I rx ry z) fun z => h2 pins s σ H x y v u Q I rx ry z
/-- what the text says of the class's methods as they are called from outside -/
structure ClsM (K : PySem.W.Frag) (C : Addr) (mc : Value) (pe pb po pf ge gb go gf fO : Addr) : Prop where
  rd : ClX.CRead K C mc
  empty : ClX.CMet K C mc "empty" pe ge
  between : ClX.CMet K C mc "between" pb gb
  of : ClX.CMet K C mc "of" po go
  full : ClX.CMet K C mc "full" pf gf
  self : PySem.W.selfFirst K C = true
  orF : PySem.W.findIn K (.ref C) "__or__" = some (some (.ref fO))
  orI : PySem.W.isFn K (.ref fO) = true
/-- what the text says of in and bool -/
structure ClsK (K : PySem.W.Frag) (C fN fB : Addr) : Prop where
  inF : PySem.W.findIn K (.ref C) "__contains__" = some (some (.ref fN))
  inI : PySem.W.isFn K (.ref fN) = true
  boF : PySem.W.findIn K (.ref C) "__bool__" = some (some (.ref fB))
  boI : PySem.W.isFn K (.ref fB) = true
section
variable {P : Program} {w : World} {K : PySem.W.Frag} {mg : Str → Option Value} {base : Heap} {C fI fE : Addr} {mc : Value} {pe pb po pf ge gb go gf fO : Addr}
/-- the promises of the class, as they are called -/
structure ClsR (P : Program) (w : World) (K : PySem.W.Frag) (mg : Str → Option Value) (base : Heap) (C ge gb go gf fO fE : Addr) : Prop where
  empty : FnR P w K mg base CX0 3 ge (fun vs H Q E => sp_empty C (vs ++ []) H Q E)
  between : FnR P w K mg base CX0 3 gb (fun vs H Q E => sp_between C (vs ++ []) H Q E)
  of : FnR P w K mg base CX0 5 go (sp_of C)
  full : FnR P w K mg base CX0 3 gf (fun vs H Q E => sp_full C (vs ++ []) H Q E)
  or : FnR P w K mg base CX0 5 fO (fun vs H Q E => sp_or C (vs ++ []) H Q E)
theorem tups_erase {H : Hp} : ∀ {vs : List V} {ss : List Stc} (k : Nat), Tups H vs ss → Tups H (vs.eraseIdx k) (ss.eraseIdx k)
  | _, _, _, .nil => .nil
  | _, _, 0, .cons _ t => t
  | _, _, k + 1, .cons r t => .cons r (tups_erase k t)
theorem hasL_erase : ∀ {ss : List Stc} {k : Nat} (h : k < ss.length) (n : Int), hasL ss n = (has1 ss[k] n || hasL (ss.eraseIdx k) n)
  | s :: ss, 0, _, n => by simp [hasL_cons]
  | s :: ss, k + 1, h, n => by
    rw [hasL_cons, hasL_erase (ss := ss) (k := k) (by simpa using h) n, List.eraseIdx_cons_succ, hasL_cons, List.getElem_cons_succ]
    cases has1 s n <;> simp
theorem seq_ix {n : Nat} {d : Int} (h0 : 0 ≤ d) (h1 : d < n) : seqIndex? d n = some d.toNat := by
  refine (ixN_seq (j := d.toNat) ?_).1
  unfold ixN
  rw [if_pos h0, if_pos h1]
theorem Rng.mut {H : Hp} {r d : Addr} {vs ws : List V} {ps : List Stc} (h : Rng C H r ps) (hd : H d = some (.lst vs)) : Rng C (upd H d (.lst ws)) r ps := by
  obtain ⟨dx, t, a, ⟨us, b, tu⟩, c⟩ := h
  refine ⟨dx, t, ?_, ⟨us, ?_, tu.mut hd⟩, c⟩
  · rw [upd_ne (ne_of a hd (by intro z; cases z))]
    exact a
  · rw [upd_ne (ne_of b hd (by intro z; cases z))]
    exact b
end
end Spk.Fi

set_option linter.all false
namespace Spk
/-! ### the gaps of a set's parts -/
def fromB (low : Option Int) (n : Int) : Bool := match low with
  | none => true
  | some c => decide (c ≤ n)
def gapAt (low first : Option Int) : List Stc := match first with
  | none => []
  | some a => [(low, some (a - 1))]
def gapsF : Option Int → List Stc → List Stc
  | low, [] => [(low, none)]
  | low, (first, last) :: ps => gapAt low first ++ match last with
    | none => []
    | some b => gapsF (some (b + 1)) ps
/-- all parts begin behind low -/
def Behind (low : Option Int) (ps : List Stc) : Prop := ∀ c, low = some c → ∀ s, s ∈ ps → ∃ a, s.1 = some a ∧ c < a
theorem behind_has {c : Int} {ps : List Stc} (h : Behind (some c) ps) {n : Int} (hn : hasL ps n = true) : c < n := by
  unfold hasL at hn
  obtain ⟨s, hs, h1⟩ := List.any_eq_true.mp hn
  obtain ⟨a, e, ca⟩ := h c rfl s hs
  obtain ⟨x, y⟩ := s
  cases e
  cases y <;> simp [has1] at h1 <;> omega
theorem Canon.tail {s : Stc} {ps : List Stc} (h : Canon (s :: ps)) : Canon ps := ⟨fun x hx => h.ne x (by simp [hx]), (List.pairwise_cons.mp h.ap).2⟩
structure GapsOk (low : Option Int) (ps : List Stc) : Prop where
  has : ∀ n, hasL (gapsF low ps) n = (fromB low n && !hasL ps n)
  canon : Canon (gapsF low ps)
  at_ : ∀ c, low = some c → ∀ g, g ∈ gapsF low ps → ∃ a, g.1 = some a ∧ c ≤ a
  len : (gapsF low ps).length ≤ ps.length + 1
theorem canon_single {s : Stc} (h : NE s) : Canon [s] := ⟨fun x hx => by rw [List.mem_singleton.mp hx]; exact h, List.pairwise_singleton ..⟩
theorem gaps_ok : ∀ (ps : List Stc) (low : Option Int), Canon ps → Behind low ps → GapsOk low ps
  | [], low, _, _ => by
    refine ⟨fun n => ?_, canon_single fun l h e1 e2 => ?_, fun c e g hg => ?_, Nat.le_refl _⟩
    · cases low <;> simp [gapsF, hasL, has1, fromB]
    · cases e2
    · rw [gapsF, List.mem_singleton] at hg
      subst hg e
      exact ⟨c, rfl, Int.le_refl _⟩
  | (first, none) :: ps, low, hc, hb => by
    have e : ps = [] := by
      cases ps with
      | nil => rfl
      | cons t ps =>
        obtain ⟨x, y, e1, _⟩ := (List.pairwise_cons.mp hc.ap).1 t (by simp)
        cases e1
    subst e
    cases first with
    | none =>
      refine ⟨fun n => ?_, ⟨fun s hs => ?_, .nil⟩, fun c e g hg => ?_, by simp [gapsF, gapAt]⟩
      · simp [gapsF, gapAt, hasL, has1]
      · simp [gapsF, gapAt] at hs
      · simp [gapsF, gapAt] at hg
    | some a =>
      have hlow : ∀ c, low = some c → c < a := fun c e => by
        obtain ⟨a', e', h⟩ := hb c e (some a, none) (by simp)
        cases e'
        exact h
      refine ⟨fun n => ?_, canon_single fun l h e1 e2 => ?_, fun c e g hg => ?_, by simp [gapsF, gapAt]⟩
      · rw [Bool.eq_iff_iff]
        cases low <;> simp [gapsF, gapAt, hasL, has1, fromB] <;> omega
      · cases e2
        have := hlow l e1
        omega
      · rw [gapsF, gapAt, List.append_nil, List.mem_singleton] at hg
        subst hg e
        exact ⟨c, rfl, Int.le_refl _⟩
  | (first, some b) :: ps, low, hc, hb => by
    have hb' : Behind (some (b + 1)) ps := fun c e s hs => by
      cases e
      obtain ⟨x, y, e1, e2, h⟩ := (List.pairwise_cons.mp hc.ap).1 s hs
      cases e1
      exact ⟨y, e2, h⟩
    have ih := gaps_ok ps (some (b + 1)) hc.tail hb'
    have hz := ih.len
    cases first with
    | none =>
      have el : low = none := by
        cases low with
        | none => rfl
        | some c =>
          obtain ⟨a', e', h⟩ := hb c rfl (none, some b) (by simp)
          cases e'
      subst el
      refine ⟨fun n => ?_, ih.canon, (fun c e => nomatch e), ?_⟩
      · show hasL (gapsF (some (b + 1)) ps) n = _
        rw [ih.has n, hasL_cons, Bool.eq_iff_iff]
        cases q : hasL ps n with
        | true => simp [fromB]
        | false =>
          simp [fromB, has1]
          omega
      · show (gapsF (some (b + 1)) ps).length ≤ _
        simp only [List.length_cons]
        omega
    | some a =>
      have hab : a ≤ b := hc.ne (some a, some b) (by simp) a b rfl rfl
      have hlow : ∀ c, low = some c → c < a := fun c e => by
        obtain ⟨a', e', h⟩ := hb c e (some a, some b) (by simp)
        cases e'
        exact h
      have eg : gapsF low ((some a, some b) :: ps) = (low, some (a - 1)) :: gapsF (some (b + 1)) ps := rfl
      refine ⟨fun n => ?_, ⟨fun s hs => ?_, ?_⟩, fun c e g hg => ?_, ?_⟩
      · rw [eg, hasL_cons, ih.has n, hasL_cons, Bool.eq_iff_iff]
        cases q : hasL ps n with
        | true =>
          have := behind_has hb' q
          cases low <;> simp [fromB, has1] <;> omega
        | false =>
          cases low with
          | none =>
            simp [fromB, has1]
            omega
          | some c =>
            have := hlow c rfl
            simp [fromB, has1]
            omega
      · rw [eg, List.mem_cons] at hs
        rcases hs with rfl | hs
        · intro l h e1 e2
          cases e2
          have := hlow l e1
          omega
        · exact ih.canon.ne s hs
      · rw [eg, List.pairwise_cons]
        refine ⟨fun g hg => ?_, ih.canon.ap⟩
        obtain ⟨x, e, hx⟩ := ih.at_ _ rfl g hg
        exact ⟨a - 1, x, rfl, e, by omega⟩
      · rw [eg, List.mem_cons] at hg
        subst e
        rcases hg with rfl | hg
        · exact ⟨c, rfl, Int.le_refl _⟩
        · obtain ⟨x, e, hx⟩ := ih.at_ _ rfl g hg
          have := hlow c rfl
          exact ⟨x, e, by omega⟩
      · rw [eg]
        simp only [List.length_cons]
        omega
theorem gaps_has {ps : List Stc} (h : Canon ps) (n : Int) : hasL (gapsF none ps) n = !hasL ps n := by
  rw [(gaps_ok ps none h fun _ e => nomatch e).has n]
  rfl
end Spk

set_option Elab.async false
set_option linter.all false
set_option maxRecDepth 100000
set_option maxHeartbeats 1000000
namespace Spk
open PySem PySem.Spec PyProof.Rows PySem.W L2
/-! ## not a, a an instance with its own __bool__ -/
section
variable {X : Cx} {n : Nat} {C f : Addr} {sp : Sp} {a : Expr} {ta : TE} {pos : Pos}
def tNotO (C : Addr) (sp : Sp) (ta : TE) : TE := fun σ H Q => ta σ H fun x H1 => rTruO C sp x H1 fun k H2 => Q (.bl (!k)) H2
theorem pe_notO (F : FnR X.prog X.w X.K X.mg X.base CX0 n f sp) (hr : Room n X.A) (hs : findIn X.K (.ref C) "__bool__" = some (some (.ref f))) (hf : isFn X.K (.ref f) = true) (ha : PE X a ta) : PE X (.UnaryOp .Not a pos) (tNotO C sp ta) := by
  refine ⟨fun pins s σ H Q I h => ?_⟩
  refine UnaryOp_ (thn (ha.run pins s σ H _ I h) fun v s1 ⟨x, H1, I1, r1, q1⟩ => ?_)
  exact not_of (thn (truthy_own F (sub0 hr) hs hf I1 r1 q1) fun c s2 ⟨H2, I2, q2⟩ => ⟨.bl (!c), H2, I2, rfl, q2⟩)
end
end Spk

set_option Elab.async false
set_option linter.all false
set_option maxRecDepth 100000
set_option maxHeartbeats 1000000
namespace Spk.Fi
open PySem L2 Spk
local macro_rules | `(tactic| walk_at "rd") => `(tactic| repeat (first
  | with_reducible refine i_seq ?_ | with_reducible refine i_asg ?_ | with_reducible refine i_ret ?_ | with_reducible refine i_ifS ?_ | with_reducible refine i_if ?_
  | with_reducible refine i_for ?_ | with_reducible refine i_iL ?_ | with_reducible refine i_iT ?_ | with_reducible refine i_ckw ?_ | with_reducible refine i_cm ?_ | with_reducible refine And.intro (rfl : V.ref _ = V.ref _) ?_ | with_reducible refine i_rng1 ?_ | with_reducible refine i_bm ?_ | with_reducible refine i_bm0 ?_
  | with_reducible refine i_drop ?_ | with_reducible refine i_next ?_
  | with_reducible refine i_var rfl ?_ | with_reducible refine i_c ?_ | with_reducible refine i_op ?_ | with_reducible refine i_un ?_ | with_reducible refine i_name ?_
  | with_reducible refine i_rI0 ?_ | with_reducible refine i_rU ?_ | with_reducible refine i_rEq rfl ?_ | with_reducible refine i_rNe rfl ?_
  | with_reducible refine i_test ?_ | with_reducible refine i_tB ?_ | with_reducible refine i_and ?_ | with_reducible refine i_or ?_ | with_reducible refine i_not ?_
  | with_reducible refine i_andV ?_ | with_reducible refine i_orV ?_ | with_reducible refine i_notV ?_
  | with_reducible refine i_cons ?_ | with_reducible refine i_nil ?_ | with_reducible refine i_cb ?_ | with_reducible refine i_call ?_ | with_reducible refine i_bl ?_
  | with_reducible refine i_tup ?_ | with_reducible refine i_lst ?_ | with_reducible refine i_par ?_ | with_reducible refine i_gcons ?_ | with_reducible refine i_gnil ?_
  | with_reducible refine And.intro (rfl : V.non = V.non) ?_ | with_reducible refine i_ixT (by assumption) rfl ?_ | with_reducible refine i_ixL (by assumption) rfl ?_ | with_reducible refine i_gtup (by assumption) rfl ?_
  | with_reducible refine i_gsub ?_
  | with_reducible refine Or.inl (Exists.intro _ (And.intro (rfl : [V.int _] = [V.int _]) ?_)) | with_reducible refine Exists.intro _ (And.intro (rfl : [V.int _] = [V.int _]) ?_)
  | with_reducible refine Or.inr (Exists.intro _ (And.intro (rfl : [V.bl _] = [V.bl _]) ?_))
  | with_reducible refine Exists.intro _ (Exists.intro _ (And.intro (rfl : [V.int _, V.int _] = [V.int _, V.int _]) ?_))
  | with_reducible refine Exists.intro _ (Exists.intro _ (And.intro (rfl : [V.ref _] = [V.ref _]) (And.intro (Or.inl (SqL.of (by assumption))) ?_)))
  | with_reducible refine i_rI (show (0 : Int) < _ by assumption) ?_ | with_reducible refine i_rI (show (0 : Int) < _ by decide) ?_
  | with_reducible refine i_rI (pow_ok (Nat.le_of_ble_eq_true rfl) (Nat.le_of_ble_eq_true rfl)) ?_
  | with_reducible refine i_rI (cmulL rfl) ?_))
section
variable {P : Program} {w : World} {K : PySem.W.Frag} {mg : Str → Option Value} {base : Heap} {C fI fE : Addr} {mc : Value} {pe pb po pf ge gb go gf fO : Addr}
theorem gapAt_len (low first : Option Int) : (gapAt low first).length ≤ 1 := by
  cases first <;> simp [gapAt]
theorem gapsF_len : ∀ (ps : List Stc) (low : Option Int), (gapsF low ps).length ≤ ps.length + 1
  | [], _ => Nat.le_refl _
  | (first, last) :: ps, low => by
    have h1 := gapAt_len low first
    simp only [gapsF, List.length_append, List.length_cons]
    cases last with
    | none =>
      simp only [List.length_nil]
      omega
    | some b =>
      have h2 := gapsF_len ps (some (b + 1))
      dsimp only
      omega
structure GInv (H0 : Hp) (t d : Addr) (ps : List Stc) (i : Nat) (σ : L2.St) (H : Hp) : Prop where
  ex : ∃ (vs : List V) (G : List Stc) (low : Option Int) (x y : Option V), σ = [some (.ref t), some (.ref d), some (ov low), x, y] ∧ Same H0 H ∧ H d = some (.lst vs) ∧ Tups H vs G ∧ gapsF none ps = G ++ gapsF low (ps.drop i) ∧ G.length ≤ i
abbrev s_gaps : Stmt := top 11
theorem sc_gaps : FnScope ["parts", "found", "low", "first", "last"] ["parts"] (defScope s_gaps) := ⟨rfl, rfl, rfl, by decide +kernel, rfl, by decide +kernel, by decide +kernel⟩
def sp_gaps : Sp := fun vs H Q _ => ∃ t ps, vs = [.ref t] ∧ PartsT H t ps ∧ ps.length ≤ 2000 ∧ ∀ p H', Same H H' → PartsT H' p (gapsF none ps) → Q (.ref p) H'
theorem ok_gaps {f : Addr} {fd : FuncData} (F : Fun K "gaps" "gaps" s_gaps f fd) (z_tuple : mg "tuple" = none) : FnOk P w K mg base CX0 1 f fd ["parts"] sp_gaps := by
  refine F.ok sc_gaps (fun vs H Q E h => ?_) (fun cdv A outer s H vs Q E hr h => ?_)
  · obtain ⟨t, ps, rfl, _⟩ := h
    rfl
  · obtain ⟨t, ps, rfl, ⟨us, ht, tu⟩, hz, q⟩ := h
    refine ⟨_, (pss_cons (ps_set (i := 1) sc_gaps.nd rfl (Or.inl rfl) (pe_lst pa_nil))
 (pss_cons (ps_set (i := 2) sc_gaps.nd rfl (Or.inl rfl) pe_non)
 (pss_cons (ps_for PassesOwn.never rfl (pi_tup (pv 0)) (pg_tup (by rfl) (pgs_cons (pg_name (i := 3) sc_gaps.nd rfl (Or.inl rfl)) (pgs_cons (pg_name (i := 4) sc_gaps.nd rfl (Or.inl rfl)) pgs_nil)))
 (C8.pss_cut (ps_if (pt_cmpR op_notN (pv 3) pe_non (nomark _))
 (pss_one (ps_expr (pe_bm PySem.F.plainAttrs_list PySem.F.slot_list_append PySem.F.type_list_append mt_append (pv 1) (pa_cons (pe_tup (pa_cons (pv 2) (pa_cons (pe_op op_sub (pv 3) pe_int) pa_nil))) pa_nil))))
 pss_nil)
 (pss_cons (ps_if (pt_cmpR op_isN (pv 4) pe_non (nomark _))
 (pss_one (ps_ret (pe_callTy call_tuple_of (by rfl) z_tuple (by decide +kernel) (pa_cons (pv 1) pa_nil))))
 pss_nil)
 (pss_one (ps_set (i := 2) sc_gaps.nd rfl (Or.inl rfl) (pe_op op_add (pv 4) pe_int))))))
 (pss_cons (ps_expr (pe_bm PySem.F.plainAttrs_list PySem.F.slot_list_append PySem.F.type_list_append mt_append (pv 1) (pa_cons (pe_tup (pa_cons (pv 2) (pa_cons pe_non pa_nil))) pa_nil)))
 (pss_one (ps_ret (pe_callTy call_tuple_of (by rfl) z_tuple (by decide +kernel) (pa_cons (pv 1) pa_nil)))))))), ?_⟩
    have hlen := tups_len tu
    walk_at "rd"
    refine ⟨Nat.zero_le _, fun d hd0 => ?_⟩
    obtain ⟨H1, e1, s1, hd⟩ := new_heap (o := .lst []) hd0
    rw [e1]
    walk_at "rd"
    refine ⟨t, rfl, ⟨_, SqT.of (s1 _ _ ht)⟩, for_tup (K := K) (a := t) (xs := us) (GInv H t d ps) ⟨[], [], none, none, none, rfl, s1, hd, .nil, rfl, Nat.le_refl _⟩ ?_ ?_ ?_⟩
    · rintro i σ H' _ ⟨vs, G, low, x, y, _, sm, _⟩
      exact SqT.of (sm _ _ ht)
    · rintro i x σ H' hx ⟨vs, G, low, y, z, rfl, sm, hd2, tg, eg, hG⟩
      obtain ⟨hi, c, rfl, hc⟩ := item_of tu hx
      have hc' := sm _ _ hc
      rw [List.drop_eq_getElem_cons hi] at eg
      generalize hs : ps[i] = sx at *
      obtain ⟨first, last⟩ := sx
      dsimp only at hc'
      have gl := tups_len tg
      have g1 := gapAt_len low first
      walk_at "rd"
      refine ⟨fun σ' H' => ∃ (vs2 : List V), σ' = [some (.ref t), some (.ref d), some (ov low), some (ov first), some (ov last)] ∧ Same H H' ∧ H' d = some (.lst vs2) ∧ Tups H' vs2 (G ++ gapAt low first), ?_, ?_⟩
      · walk_at "rd"
        cases first with
        | none =>
          refine ite_nd (fun h => absurd rfl h) (fun _ => ?_)
          walk_at "rd"
          exact ⟨vs, rfl, sm, hd2, by rw [gapAt, List.append_nil]; exact tg⟩
        | some a =>
          refine ite_nd (fun _ => ?_) (fun h => nomatch h)
          walk_at "rd"
          refine i_tyL hd2 ?_
          walk_at "rd"
          refine ⟨size_of (Nat.le_of_ble_eq_true rfl), fun q2 hq2 => ?_⟩
          obtain ⟨H3, e3, s3, h3⟩ := new_heap (o := .tup [ov low, .int (a - 1)]) hq2
          rw [e3]
          walk_at "rd"
          refine i_app (s3 _ _ hd2) (by omega) ?_
          walk_at "rd"
          exact ⟨vs ++ [.ref q2], rfl, Same.mut (fun b o z => s3 _ _ (sm _ _ z)) hd0, upd_same, Tups.mut (tups_snoc (tg.up s3) ⟨q2, rfl, h3⟩) (s3 _ _ hd2)⟩
      · rintro σ' H2 ⟨vs2, rfl, sm2, hd3, tg2⟩
        walk_at "rd"
        cases last with
        | none =>
          refine ite_d (fun _ => ?_) (fun h => absurd rfl h)
          walk_at "rd"
          refine ⟨d, vs2, rfl, .inl ⟨SqL.of hd3, fun p6 hp6 => ?_⟩⟩
          obtain ⟨H6, e6, s6, h6⟩ := new_heap (o := .tup vs2) hp6
          rw [e6]
          refine q p6 H6 (fun b o z => s6 _ _ (sm2 _ _ z)) ⟨vs2, h6, ?_⟩
          rw [eg]
          simp only [gapsF, List.append_nil]
          exact tg2.up s6
        | some b =>
          refine ite_d (fun h => nomatch h) (fun _ => ?_)
          walk_at "rd"
          refine ⟨vs2, G ++ gapAt low first, some (b + 1), _, _, rfl, sm2, hd3, tg2, ?_, ?_⟩
          · rw [eg, List.append_assoc]
            rfl
          · rw [List.length_append]
            omega
    · rintro σ H' ⟨vs, G, low, y, z, rfl, sm, hd2, tg, eg, hG⟩
      have gl := tups_len tg
      rw [hlen, List.drop_length] at eg
      walk_at "rd"
      refine i_tyL hd2 ?_
      walk_at "rd"
      refine ⟨size_of (Nat.le_of_ble_eq_true rfl), fun q2 hq2 => ?_⟩
      obtain ⟨H3, e3, s3, h3⟩ := new_heap (o := .tup [ov low, .non]) hq2
      rw [e3]
      walk_at "rd"
      refine i_app (s3 _ _ hd2) (by omega) ?_
      walk_at "rd"
      refine ⟨d, vs ++ [.ref q2], rfl, .inl ⟨SqL.of upd_same, fun p6 hp6 => ?_⟩⟩
      obtain ⟨H6, e6, s6, h6⟩ := new_heap (o := .tup (vs ++ [.ref q2])) hp6
      rw [e6]
      have sm4 : Same H (upd H3 d (.lst (vs ++ [.ref q2]))) := Same.mut (fun b o z => s3 _ _ (sm _ _ z)) hd0
      refine q p6 H6 (fun b o z => s6 _ _ (sm4 _ _ z)) ⟨_, h6, ?_⟩
      rw [eg]
      exact (Tups.mut (tups_snoc (tg.up s3) ⟨q2, rfl, h3⟩) (s3 _ _ hd2)).up s6
/-! ### a & b, a - b, a.is_within(b) -/
abbrev s_Ranges__and : Stmt := inClass (top 6) 6
theorem sc_Ranges__and : FnScope ["self", "other"] ["self", "other"] (defScope s_Ranges__and) := ⟨rfl, rfl, rfl, by decide +kernel, rfl, by decide +kernel, by decide +kernel⟩
def sp_and (C : Addr) : Sp := fun vs H Q _ => ∃ a b ps qs, vs = [.ref a, .ref b] ∧ Rng C H a ps ∧ Rng C H b qs ∧ ps.length + qs.length ≤ 900 ∧ NewR C H Q (ps.length + qs.length + 3) fun k => hasL ps k && hasL qs k
theorem gaps_canon {ps : List Stc} (h : Canon ps) : Canon (gapsF none ps) := (gaps_ok ps none h fun _ e => nomatch e).canon
/-- the end of both: gaps of the joined parts -/
theorem cut_fin {H : Hp} {fd fdJ fdI : FuncData} {t u : Addr} {us vs : List V} {ps qs : List Stc} {Q : VK} (ht : H t = some (.tup us)) (hu : H u = some (.tup vs)) (tu : Tups H us ps) (tv : Tups H vs qs) (cp : Canon ps) (cq : Canon qs) (hz : ps.length + qs.length ≤ 1000)
    (q : NewR C H Q (ps.length + qs.length + 1) fun k => !(hasL ps k || hasL qs k)) :
    rCatA K (.ref t) (.ref u) H fun x H1 => sp_joined K [x] H1 (fun y H2 => sp_gaps [y] H2 (fun v H2 => ∀ x dx, H2 x = none → H2 dx = none → dx ≠ x → spI C (V.ref x :: [v]) (upd (upd H2 dx (.own x)) x (.ins C dx [])) (fun v H2 => v = .non ∧ Q (.ref x) H2) E0) E0) E0 := by
  have hne : ∀ s, s ∈ ps ++ qs → NE s := fun s hs => (List.mem_append.mp hs).elim (cp.ne s) (cq.ne s)
  have l1 := tups_len tu
  have l2 := tups_len tv
  have fin : ∀ (p : Addr) (H1 : Hp), Same H H1 → H1 p = some (.tup (us ++ vs)) → sp_joined K [.ref p] H1 (fun y H2 => sp_gaps [y] H2 (fun v H2 => ∀ x dx, H2 x = none → H2 dx = none → dx ≠ x → spI C (V.ref x :: [v]) (upd (upd H2 dx (.own x)) x (.ins C dx [])) (fun v H2 => v = .non ∧ Q (.ref x) H2) E0) E0) E0 := by
    intro p H1 s1 hp
    refine ⟨p, us ++ vs, ps ++ qs, rfl, .inr (SqT.of hp), tups_append (tu.up s1) (tv.up s1), by rw [List.length_append]; omega, hne, fun r H2 rs s2 hr hc hm hl => ?_⟩
    rw [List.length_append] at hl
    refine ⟨r, rs, rfl, hr, by omega, fun p3 H3 s3 hp3 => ?_⟩
    refine mk_rng hp3 (gaps_canon hc) fun x H4 s4 hx => ?_
    refine q x H4 _ (fun b o z => s4 _ _ (s3 _ _ (s2 _ _ (s1 _ _ z)))) hx (fun k => by rw [gaps_has hc, hm k, hasL_append]) ?_
    have := gapsF_len rs none
    omega
  refine ⟨t, u, us, vs, rfl, rfl, SqT.of ht, SqT.of hu, size_of (by omega), fun e => ?_, fun _ e => ?_, fun _ _ p hp => ?_⟩
  · subst e
    exact fin u H (Same.refl H) hu
  · subst e
    exact fin t H (Same.refl H) (by rw [List.append_nil]; exact ht)
  · obtain ⟨H1, e1, s1, h1⟩ := new_heap (o := .tup (us ++ vs)) hp
    rw [e1]
    exact fin p H1 s1 h1
theorem ok_and {f fJ fG : Addr} {fd fdI fdJ fdG : FuncData} (F : Fun K "__and__" "Ranges.__and__" s_Ranges__and f fd) (FI : Fun K "__init__" "Ranges.__init__" s_Ranges__init fI fdI) (B_init : Binds K fdI ["self", "parts"] []) (T : ClsT K mg C fI fE)
    (F_joined : Fun K "joined" "joined" s_joined fJ fdJ) (B_joined : Binds K fdJ ["stretches"] []) (g_joined : mg "joined" = some (.ref fJ)) (G_joined : FnOk P w K mg base CX0 4 fJ fdJ ["stretches"] (sp_joined K))
    (F_gaps : Fun K "gaps" "gaps" s_gaps fG fdG) (B_gaps : Binds K fdG ["parts"] []) (g_gaps : mg "gaps" = some (.ref fG)) (z_tuple : mg "tuple" = none) :
    FnOk P w K mg base CX0 5 f fd ["self", "other"] (sp_and C) := by
  have RI : FnR P w K mg base CX0 1 fI (spI C) := FnOk.raw (ok_init FI T) B_init .nil
  have G_gaps : FnOk P w K mg base CX0 1 fG fdG ["parts"] sp_gaps := ok_gaps F_gaps z_tuple
  have M := T.M
  have g_C := T.g_C
  refine F.ok sc_Ranges__and (fun vs H Q E h => ?_) (fun cdv A outer s H vs Q E hr h => ?_)
  · obtain ⟨a, b, ps, qs, rfl, _⟩ := h
    rfl
  · obtain ⟨a, b, ps, qs, rfl, ⟨dx, t, ha, pa, ca⟩, ⟨dy, u, hb, pb, cb⟩, hz, q⟩ := h
    refine ⟨_, (pss_one (ps_ret (StX.pe_makeR M RI (hr.mono (by decide)) rfl g_C pass0 (pa_cons (pe_call G_gaps (hr.mono (by decide)) rfl g_gaps F_gaps.kp B_gaps .nil pass0 (pa_cons (pe_call G_joined (hr.mono (by decide)) rfl g_joined F_joined.kp B_joined .nil pass0 (pa_cons (pe_op op_catA (pe_call G_gaps (hr.mono (by decide)) rfl g_gaps F_gaps.kp B_gaps .nil pass0 (pa_cons (pe_fld (pv 0) rfl) pa_nil)) (pe_call G_gaps (hr.mono (by decide)) rfl g_gaps F_gaps.kp B_gaps .nil pass0 (pa_cons (pe_fld (pv 1) rfl) pa_nil))) pa_nil)) pa_nil)) pa_nil)))), ?_⟩
    unfold StX.tMakeR
    walk_at "rd"
    refine ⟨_, rfl, a, C, dx, _, _, rfl, ha, T.cl, T.nP, lk_parts, ?_⟩
    walk_at "rd"
    refine ⟨t, ps, rfl, pa, by omega, fun p1 H1 s1 ⟨us, h1, t1⟩ => ?_⟩
    walk_at "rd"
    refine ⟨_, rfl, b, C, dy, _, _, rfl, s1 _ _ hb, T.cl, T.nP, lk_parts, ?_⟩
    walk_at "rd"
    refine ⟨u, qs, rfl, pb.up s1, by omega, fun p2 H2 s2 ⟨vs, h2, t2⟩ => ?_⟩
    have z1 := gapsF_len ps none
    have z2 := gapsF_len qs none
    refine cut_fin (fd := fd) (fdJ := fd) (fdI := fd) (s2 _ _ h1) h2 (t1.up s2) t2 (gaps_canon ca) (gaps_canon cb) (by omega) fun r H' rs s3 hr hm hl => ?_
    exact q r H' rs (fun b o z => s3 _ _ (s2 _ _ (s1 _ _ z))) hr (fun k => by rw [hm k]; simp only [gaps_has ca, gaps_has cb, Bool.not_or, Bool.not_not]) (by omega)
abbrev s_Ranges__sub : Stmt := inClass (top 6) 7
theorem sc_Ranges__sub : FnScope ["self", "other"] ["self", "other"] (defScope s_Ranges__sub) := ⟨rfl, rfl, rfl, by decide +kernel, rfl, by decide +kernel, by decide +kernel⟩
def sp_sub (C : Addr) : Sp := fun vs H Q _ => ∃ a b ps qs, vs = [.ref a, .ref b] ∧ Rng C H a ps ∧ Rng C H b qs ∧ ps.length + qs.length ≤ 900 ∧ NewR C H Q (ps.length + qs.length + 2) fun k => hasL ps k && !hasL qs k
theorem ok_sub {f fJ fG : Addr} {fd fdI fdJ fdG : FuncData} (F : Fun K "__sub__" "Ranges.__sub__" s_Ranges__sub f fd) (FI : Fun K "__init__" "Ranges.__init__" s_Ranges__init fI fdI) (B_init : Binds K fdI ["self", "parts"] []) (T : ClsT K mg C fI fE)
    (F_joined : Fun K "joined" "joined" s_joined fJ fdJ) (B_joined : Binds K fdJ ["stretches"] []) (g_joined : mg "joined" = some (.ref fJ)) (G_joined : FnOk P w K mg base CX0 4 fJ fdJ ["stretches"] (sp_joined K))
    (F_gaps : Fun K "gaps" "gaps" s_gaps fG fdG) (B_gaps : Binds K fdG ["parts"] []) (g_gaps : mg "gaps" = some (.ref fG)) (z_tuple : mg "tuple" = none) :
    FnOk P w K mg base CX0 5 f fd ["self", "other"] (sp_sub C) := by
  have RI : FnR P w K mg base CX0 1 fI (spI C) := FnOk.raw (ok_init FI T) B_init .nil
  have G_gaps : FnOk P w K mg base CX0 1 fG fdG ["parts"] sp_gaps := ok_gaps F_gaps z_tuple
  have M := T.M
  have g_C := T.g_C
  refine F.ok sc_Ranges__sub (fun vs H Q E h => ?_) (fun cdv A outer s H vs Q E hr h => ?_)
  · obtain ⟨a, b, ps, qs, rfl, _⟩ := h
    rfl
  · obtain ⟨a, b, ps, qs, rfl, ⟨dx, t, ha, pa, ca⟩, ⟨dy, u, hb, ⟨vs, hu, tv⟩, cb⟩, hz, q⟩ := h
    refine ⟨_, (pss_one (ps_ret (StX.pe_makeR M RI (hr.mono (by decide)) rfl g_C pass0 (pa_cons (pe_call G_gaps (hr.mono (by decide)) rfl g_gaps F_gaps.kp B_gaps .nil pass0 (pa_cons (pe_call G_joined (hr.mono (by decide)) rfl g_joined F_joined.kp B_joined .nil pass0 (pa_cons (pe_op op_catA (pe_call G_gaps (hr.mono (by decide)) rfl g_gaps F_gaps.kp B_gaps .nil pass0 (pa_cons (pe_fld (pv 0) rfl) pa_nil)) (pe_fld (pv 1) rfl)) pa_nil)) pa_nil)) pa_nil)))), ?_⟩
    unfold StX.tMakeR
    walk_at "rd"
    refine ⟨_, rfl, a, C, dx, _, _, rfl, ha, T.cl, T.nP, lk_parts, ?_⟩
    walk_at "rd"
    refine ⟨t, ps, rfl, pa, by omega, fun p1 H1 s1 ⟨us, h1, t1⟩ => ?_⟩
    refine ⟨_, rfl, b, C, dy, _, _, rfl, s1 _ _ hb, T.cl, T.nP, lk_parts, ?_⟩
    have z1 := gapsF_len ps none
    refine cut_fin (fd := fd) (fdJ := fd) (fdI := fd) h1 (s1 _ _ hu) t1 (tv.up s1) (gaps_canon ca) cb (by omega) fun r H' rs s3 hr hm hl => ?_
    exact q r H' rs (fun b o z => s3 _ _ (s1 _ _ z)) hr (fun k => by rw [hm k]; simp only [gaps_has ca, Bool.not_or, Bool.not_not]) (by omega)
/-- what the text says of the class's other operators -/
structure ClsN (K : PySem.W.Frag) (C fA fS : Addr) : Prop where
  andF : PySem.W.findIn K (.ref C) "__and__" = some (some (.ref fA))
  andI : PySem.W.isFn K (.ref fA) = true
  subF : PySem.W.findIn K (.ref C) "__sub__" = some (some (.ref fS))
  subI : PySem.W.isFn K (.ref fS) = true
end
end Spk.Fi

set_option Elab.async false
set_option linter.all false
set_option maxRecDepth 100000
set_option maxHeartbeats 1000000
namespace Spk.Fi
open PySem L2 Spk
local macro_rules | `(tactic| walk_at "rd") => `(tactic| repeat (first
  | with_reducible refine i_seq ?_ | with_reducible refine i_asg ?_ | with_reducible refine i_ret ?_ | with_reducible refine i_ifS ?_ | with_reducible refine i_if ?_
  | with_reducible refine i_for ?_ | with_reducible refine i_iL ?_ | with_reducible refine i_iT ?_ | with_reducible refine i_ckw ?_ | with_reducible refine i_cm ?_ | with_reducible refine And.intro (rfl : V.ref _ = V.ref _) ?_ | with_reducible refine i_rng1 ?_ | with_reducible refine i_bm ?_ | with_reducible refine i_bm0 ?_
  | with_reducible refine i_drop ?_ | with_reducible refine i_next ?_
  | with_reducible refine i_var rfl ?_ | with_reducible refine i_c ?_ | with_reducible refine i_op ?_ | with_reducible refine i_un ?_ | with_reducible refine i_name ?_
  | with_reducible refine i_rI0 ?_ | with_reducible refine i_rU ?_ | with_reducible refine i_rEq rfl ?_ | with_reducible refine i_rNe rfl ?_
  | with_reducible refine i_test ?_ | with_reducible refine i_tB ?_ | with_reducible refine i_and ?_ | with_reducible refine i_or ?_ | with_reducible refine i_not ?_
  | with_reducible refine i_andV ?_ | with_reducible refine i_orV ?_ | with_reducible refine i_notV ?_
  | with_reducible refine i_cons ?_ | with_reducible refine i_nil ?_ | with_reducible refine i_cb ?_ | with_reducible refine i_call ?_ | with_reducible refine i_bl ?_
  | with_reducible refine i_tup ?_ | with_reducible refine i_lst ?_ | with_reducible refine i_par ?_ | with_reducible refine i_gcons ?_ | with_reducible refine i_gnil ?_
  | with_reducible refine And.intro (rfl : V.non = V.non) ?_ | with_reducible refine i_ixT (by assumption) rfl ?_ | with_reducible refine i_ixL (by assumption) rfl ?_ | with_reducible refine i_gtup (by assumption) rfl ?_
  | with_reducible refine i_gsub ?_
  | with_reducible refine Or.inl (Exists.intro _ (And.intro (rfl : [V.int _] = [V.int _]) ?_)) | with_reducible refine Exists.intro _ (And.intro (rfl : [V.int _] = [V.int _]) ?_)
  | with_reducible refine Or.inr (Exists.intro _ (And.intro (rfl : [V.bl _] = [V.bl _]) ?_))
  | with_reducible refine Exists.intro _ (Exists.intro _ (And.intro (rfl : [V.int _, V.int _] = [V.int _, V.int _]) ?_))
  | with_reducible refine Exists.intro _ (Exists.intro _ (And.intro (rfl : [V.ref _] = [V.ref _]) (And.intro (Or.inl (SqL.of (by assumption))) ?_)))
  | with_reducible refine i_rI (show (0 : Int) < _ by assumption) ?_ | with_reducible refine i_rI (show (0 : Int) < _ by decide) ?_
  | with_reducible refine i_rI (pow_ok (Nat.le_of_ble_eq_true rfl) (Nat.le_of_ble_eq_true rfl)) ?_
  | with_reducible refine i_rI (cmulL rfl) ?_))
/-! ### three truths -/
/-- a truth as a value -/
def tv : Option Bool → V
  | none => .non
  | some b => .bl b
def and3 (a b : Option Bool) : Option Bool := if a = some false ∨ b = some false then some false else if a = none ∨ b = none then none else some true
def or3 (a b : Option Bool) : Option Bool := if a = some true ∨ b = some true then some true else if a = none ∨ b = none then none else some false
def not3 (a : Option Bool) : Option Bool := a.map fun b => !b
theorem tv_non (a : Option Bool) : decide (tv a = .non) = decide (a = none) := by
  cases a <;> rfl
/-- x is True, x is False of a truth -/
theorem op_isTr {X : Cx} : OpR X (compareOp .Is) (fun x y H Q => ∃ (a : Option Bool) (b : Bool), x = tv a ∧ y = .bl b ∧ Q (.bl (decide (a = some b))) H) := by
  intro pins s σ H x y v u Q I rx ry h
  obtain ⟨a, b, rfl, rfl, q⟩ := h
  cases a with
  | some c =>
    refine op_isBl pins s σ H (.bl c) (.bl b) v u Q I rx ry ⟨c, b, rfl, rfl, ?_⟩
    have e : decide (c = b) = decide (some c = some b) := by cases c <;> cases b <;> rfl
    rw [e]
    exact q
  | none =>
    cases (show v = Value.none from rx)
    cases (show u = Value.bool b from ry)
    exact wpAny_is_other rfl (fun z => nomatch z) ⟨.bl false, H, I, rfl, q⟩
section
variable {P : Program} {w : World} {K : PySem.W.Frag} {mg : Str → Option Value} {base : Heap}
abbrev s_both : Stmt := top 18
theorem sc_both : FnScope ["one", "other"] ["one", "other"] (defScope s_both) := ⟨rfl, rfl, rfl, by decide +kernel, rfl, by decide +kernel, by decide +kernel⟩
def sp_both : Sp := fun vs H Q _ => ∃ a b, vs = [tv a, tv b] ∧ Q (tv (and3 a b)) H
theorem ok_both {f : Addr} {fd : FuncData} (F : Fun K "both" "both" s_both f fd) : FnOk P w K mg base CX0 1 f fd ["one", "other"] sp_both := by
  refine F.ok sc_both (fun vs H Q E h => ?_) (fun cdv A outer s H vs Q E hr h => ?_)
  · obtain ⟨a, b, rfl, _⟩ := h
    rfl
  · obtain ⟨a, b, rfl, q⟩ := h
    refine ⟨_, (pss_cons (ps_if (PW.pt (pw_or (pt_cmpR op_isTr (pv 0) pe_bl (nomark _)) (pw_or1 (pt_cmpR op_isTr (pv 1) pe_bl (nomark _)))))
 (pss_one (ps_ret pe_bl))
 pss_nil)
 (pss_cons (ps_if (PW.pt (pw_or (pt_cmpR op_isN (pv 0) pe_non (nomark _)) (pw_or1 (pt_cmpR op_isN (pv 1) pe_non (nomark _)))))
 (pss_one (ps_ret pe_non))
 pss_nil)
 (pss_one (ps_ret pe_bl)))), ?_⟩
    walk_at "rd"
    have fin : ∀ c, and3 a b = c → Q (tv c) H := fun c e => by rw [← e]; exact q
    refine ⟨a, false, rfl, rfl, _, rfl, ite_d (fun h1 => ?_) (fun h1 => ?_)⟩
    · walk_at "rd"
      exact fin (some false) (by simp [and3, h1])
    · walk_at "rd"
      refine ⟨b, false, rfl, rfl, _, rfl, ite_d (fun h2 => ?_) (fun h2 => ?_)⟩
      · walk_at "rd"
        exact fin (some false) (by simp [and3, h2])
      · walk_at "rd"
        rw [tv_non]
        refine ite_d (fun h3 => ?_) (fun h3 => ?_)
        · walk_at "rd"
          exact fin none (by simp [and3, h1, h2, h3])
        · walk_at "rd"
          rw [tv_non]
          refine ite_d (fun h4 => ?_) (fun h4 => ?_)
          · walk_at "rd"
            exact fin none (by simp [and3, h1, h2, h4])
          · walk_at "rd"
            exact fin (some true) (by simp [and3, h1, h2, h3, h4])
abbrev s_either : Stmt := top 19
theorem sc_either : FnScope ["one", "other"] ["one", "other"] (defScope s_either) := ⟨rfl, rfl, rfl, by decide +kernel, rfl, by decide +kernel, by decide +kernel⟩
def sp_either : Sp := fun vs H Q _ => ∃ a b, vs = [tv a, tv b] ∧ Q (tv (or3 a b)) H
theorem ok_either {f : Addr} {fd : FuncData} (F : Fun K "either" "either" s_either f fd) : FnOk P w K mg base CX0 1 f fd ["one", "other"] sp_either := by
  refine F.ok sc_either (fun vs H Q E h => ?_) (fun cdv A outer s H vs Q E hr h => ?_)
  · obtain ⟨a, b, rfl, _⟩ := h
    rfl
  · obtain ⟨a, b, rfl, q⟩ := h
    refine ⟨_, (pss_cons (ps_if (PW.pt (pw_or (pt_cmpR op_isTr (pv 0) pe_bl (nomark _)) (pw_or1 (pt_cmpR op_isTr (pv 1) pe_bl (nomark _)))))
 (pss_one (ps_ret pe_bl))
 pss_nil)
 (pss_cons (ps_if (PW.pt (pw_or (pt_cmpR op_isN (pv 0) pe_non (nomark _)) (pw_or1 (pt_cmpR op_isN (pv 1) pe_non (nomark _)))))
 (pss_one (ps_ret pe_non))
 pss_nil)
 (pss_one (ps_ret pe_bl)))), ?_⟩
    walk_at "rd"
    have fin : ∀ c, or3 a b = c → Q (tv c) H := fun c e => by rw [← e]; exact q
    refine ⟨a, true, rfl, rfl, _, rfl, ite_d (fun h1 => ?_) (fun h1 => ?_)⟩
    · walk_at "rd"
      exact fin (some true) (by simp [or3, h1])
    · walk_at "rd"
      refine ⟨b, true, rfl, rfl, _, rfl, ite_d (fun h2 => ?_) (fun h2 => ?_)⟩
      · walk_at "rd"
        exact fin (some true) (by simp [or3, h2])
      · walk_at "rd"
        rw [tv_non]
        refine ite_d (fun h3 => ?_) (fun h3 => ?_)
        · walk_at "rd"
          exact fin none (by simp [or3, h1, h2, h3])
        · walk_at "rd"
          rw [tv_non]
          refine ite_d (fun h4 => ?_) (fun h4 => ?_)
          · walk_at "rd"
            exact fin none (by simp [or3, h1, h2, h4])
          · walk_at "rd"
            exact fin (some false) (by simp [or3, h1, h2, h3, h4])
abbrev s_negated : Stmt := top 20
theorem sc_negated : FnScope ["truth"] ["truth"] (defScope s_negated) := ⟨rfl, rfl, rfl, by decide +kernel, rfl, by decide +kernel, by decide +kernel⟩
def sp_negated : Sp := fun vs H Q _ => ∃ a, vs = [tv a] ∧ Q (tv (not3 a)) H
theorem ok_negated {f : Addr} {fd : FuncData} (F : Fun K "negated" "negated" s_negated f fd) : FnOk P w K mg base CX0 1 f fd ["truth"] sp_negated := by
  refine F.ok sc_negated (fun vs H Q E h => ?_) (fun cdv A outer s H vs Q E hr h => ?_)
  · obtain ⟨a, rfl, _⟩ := h
    rfl
  · obtain ⟨a, rfl, q⟩ := h
    refine ⟨_, (pss_one (ps_ret (pe_ifExp (pt_cmpR op_isN (pv 0) pe_non (nomark _)) pe_non (pe_not (pv 0))))), ?_⟩
    cases a with
    | none =>
      walk_at "rd"
      refine ite_d (fun _ => ?_) (fun h => absurd rfl h)
      walk_at "rd"
      exact q
    | some b =>
      walk_at "rd"
      refine ite_d (fun h => nomatch h) (fun _ => ?_)
      walk_at "rd"
      exact ⟨b, rfl, q⟩
abbrev s_truth_within : Stmt := top 17
theorem sc_truth_within : FnScope ["value", "parts"] ["value", "parts"] (defScope s_truth_within) := ⟨rfl, rfl, rfl, by decide +kernel, rfl, by decide +kernel, by decide +kernel⟩
/-- what a condition says of a value -/
def wi3 (ps : List Stc) : Option Int → Option Bool
  | none => none
  | some n => some (hasL ps n)
def sp_truth_within : Sp := fun vs H Q _ => ∃ (o : Option Int) (t : Addr) (ps : List Stc), vs = [ov o, .ref t] ∧ PartsT H t ps ∧ Canon ps ∧ Q (tv (wi3 ps o)) H
theorem ok_truth_within {f fP : Addr} {fd fdP : FuncData} (F : Fun K "truth_within" "truth_within" s_truth_within f fd) (F_in_parts : Fun K "in_parts" "in_parts" s_in_parts fP fdP) (B_in_parts : Binds K fdP ["parts", "number"] []) (g_in_parts : mg "in_parts" = some (.ref fP))
    (G_in_parts : FnOk P w K mg base CX0 1 fP fdP ["parts", "number"] sp_in_parts) : FnOk P w K mg base CX0 2 f fd ["value", "parts"] sp_truth_within := by
  refine F.ok sc_truth_within (fun vs H Q E h => ?_) (fun cdv A outer s H vs Q E hr h => ?_)
  · obtain ⟨o, t, ps, rfl, _⟩ := h
    rfl
  · obtain ⟨o, t, ps, rfl, pt, ca, q⟩ := h
    refine ⟨_, (pss_one (ps_ret (pe_ifExp (pt_cmpR op_isN (pv 0) pe_non (nomark _)) pe_non (pe_call G_in_parts (hr.mono (by decide)) rfl g_in_parts F_in_parts.kp B_in_parts .nil pass0 (pa_cons (pv 1) (pa_cons (pv 0) pa_nil)))))), ?_⟩
    cases o with
    | none =>
      walk_at "rd"
      refine ite_d (fun _ => ?_) (fun h => absurd rfl h)
      walk_at "rd"
      exact q
    | some n =>
      walk_at "rd"
      refine ite_d (fun h => nomatch h) (fun _ => ?_)
      walk_at "rd"
      exact ⟨t, ps, n, rfl, pt, ca, q⟩
end
end Spk.Fi

set_option Elab.async false
set_option linter.all false
set_option maxRecDepth 100000
set_option maxHeartbeats 1000000
namespace Spk.Fi
open PySem L2 Spk
local macro_rules | `(tactic| walk_at "rd") => `(tactic| repeat (first
  | with_reducible refine i_seq ?_ | with_reducible refine i_asg ?_ | with_reducible refine i_ret ?_ | with_reducible refine i_ifS ?_ | with_reducible refine i_if ?_
  | with_reducible refine i_for ?_ | with_reducible refine i_iL ?_ | with_reducible refine i_iT ?_ | with_reducible refine i_ckw ?_ | with_reducible refine i_cm ?_ | with_reducible refine And.intro (rfl : V.ref _ = V.ref _) ?_ | with_reducible refine i_rng1 ?_ | with_reducible refine i_bm ?_ | with_reducible refine i_bm0 ?_
  | with_reducible refine i_drop ?_ | with_reducible refine i_next ?_
  | with_reducible refine i_var rfl ?_ | with_reducible refine i_c ?_ | with_reducible refine i_op ?_ | with_reducible refine i_un ?_ | with_reducible refine i_name ?_
  | with_reducible refine i_rI0 ?_ | with_reducible refine i_rU ?_ | with_reducible refine i_rEq rfl ?_ | with_reducible refine i_rNe rfl ?_
  | with_reducible refine i_test ?_ | with_reducible refine i_tB ?_ | with_reducible refine i_and ?_ | with_reducible refine i_or ?_ | with_reducible refine i_not ?_
  | with_reducible refine i_andV ?_ | with_reducible refine i_orV ?_ | with_reducible refine i_notV ?_
  | with_reducible refine i_cons ?_ | with_reducible refine i_nil ?_ | with_reducible refine i_cb ?_ | with_reducible refine i_call ?_ | with_reducible refine i_bl ?_
  | with_reducible refine i_tup ?_ | with_reducible refine i_lst ?_ | with_reducible refine i_par ?_ | with_reducible refine i_gcons ?_ | with_reducible refine i_gnil ?_
  | with_reducible refine And.intro (rfl : V.non = V.non) ?_ | with_reducible refine i_ixT (by assumption) rfl ?_ | with_reducible refine i_ixL (by assumption) rfl ?_ | with_reducible refine i_gtup (by assumption) rfl ?_
  | with_reducible refine i_gsub ?_
  | with_reducible refine Or.inl (Exists.intro _ (And.intro (rfl : [V.int _] = [V.int _]) ?_)) | with_reducible refine Exists.intro _ (And.intro (rfl : [V.int _] = [V.int _]) ?_)
  | with_reducible refine Or.inr (Exists.intro _ (And.intro (rfl : [V.bl _] = [V.bl _]) ?_))
  | with_reducible refine Exists.intro _ (Exists.intro _ (And.intro (rfl : [V.int _, V.int _] = [V.int _, V.int _]) ?_))
  | with_reducible refine Exists.intro _ (Exists.intro _ (And.intro (rfl : [V.ref _] = [V.ref _]) (And.intro (Or.inl (SqL.of (by assumption))) ?_)))
  | with_reducible refine i_rI (show (0 : Int) < _ by assumption) ?_ | with_reducible refine i_rI (show (0 : Int) < _ by decide) ?_
  | with_reducible refine i_rI (pow_ok (Nat.le_of_ble_eq_true rfl) (Nat.le_of_ble_eq_true rfl)) ?_
  | with_reducible refine i_rI (cmulL rfl) ?_))
/-! ### trees of filters -/
inductive Tr where
  | wi (c : Str) (ps : List Stc)
  | mi (c : Str)
  | al
  | ne
  | an (l r : Tr)
  | ou (l r : Tr)
  | no (t : Tr)
namespace Tr
/-- what the tree says of values by columns -/
def sem (ρ : Str → Option Int) : Tr → Option Bool
  | wi c ps => wi3 ps (ρ c)
  | mi c => some (ρ c).isNone
  | al => some true
  | ne => some false
  | an l r => and3 (sem ρ l) (sem ρ r)
  | ou l r => or3 (sem ρ l) (sem ρ r)
  | no t => not3 (sem ρ t)
/-- its columns, some several times -/
def cols : Tr → List Str
  | wi c _ => [c]
  | mi c => [c]
  | al => []
  | ne => []
  | an l r => cols l ++ cols r
  | ou l r => cols l ++ cols r
  | no t => cols t
def deep : Tr → Nat
  | wi _ _ => 1
  | mi _ => 1
  | al => 1
  | ne => 1
  | an l r => max (deep l) (deep r) + 1
  | ou l r => max (deep l) (deep r) + 1
  | no t => deep t + 1
/-- its conditions -/
def many : Tr → Nat
  | wi _ _ => 1
  | mi _ => 1
  | al => 1
  | ne => 1
  | an l r => many l + many r
  | ou l r => many l + many r
  | no t => many t
end Tr
/-- the value is the tree's tuple -/
def TreeAt (H : Hp) : Tr → V → Prop
  | .wi c ps, v => ∃ a p, v = .ref a ∧ H a = some (.tup [.str "within", .str c, .ref p]) ∧ PartsT H p ps ∧ Canon ps
  | .mi c, v => ∃ a, v = .ref a ∧ H a = some (.tup [.str "missing", .str c])
  | .al, v => ∃ a, v = .ref a ∧ H a = some (.tup [.str "always"])
  | .ne, v => ∃ a, v = .ref a ∧ H a = some (.tup [.str "never"])
  | .an l r, v => ∃ a x y, v = .ref a ∧ H a = some (.tup [.str "and", x, y]) ∧ TreeAt H l x ∧ TreeAt H r y
  | .ou l r, v => ∃ a x y, v = .ref a ∧ H a = some (.tup [.str "or", x, y]) ∧ TreeAt H l x ∧ TreeAt H r y
  | .no t, v => ∃ a x, v = .ref a ∧ H a = some (.tup [.str "not", x]) ∧ TreeAt H t x
/-- from one heap into another one -/
theorem TreeAt.via {H H' : Hp} (e1 : ∀ a xs, H a = some (.tup xs) → H' a = some (.tup xs)) (e2 : ∀ a ps, PartsT H a ps → PartsT H' a ps) : ∀ {t : Tr} {v : V}, TreeAt H t v → TreeAt H' t v
  | .wi c ps, v, h => by
    obtain ⟨a, p, e, h1, h2, h3⟩ := h
    exact ⟨a, p, e, e1 _ _ h1, e2 _ _ h2, h3⟩
  | .mi c, v, h => by
    obtain ⟨a, e, h1⟩ := h
    exact ⟨a, e, e1 _ _ h1⟩
  | .al, v, h => by
    obtain ⟨a, e, h1⟩ := h
    exact ⟨a, e, e1 _ _ h1⟩
  | .ne, v, h => by
    obtain ⟨a, e, h1⟩ := h
    exact ⟨a, e, e1 _ _ h1⟩
  | .an l r, v, h => by
    obtain ⟨a, x, y, e, h1, h2, h3⟩ := h
    exact ⟨a, x, y, e, e1 _ _ h1, TreeAt.via e1 e2 h2, TreeAt.via e1 e2 h3⟩
  | .ou l r, v, h => by
    obtain ⟨a, x, y, e, h1, h2, h3⟩ := h
    exact ⟨a, x, y, e, e1 _ _ h1, TreeAt.via e1 e2 h2, TreeAt.via e1 e2 h3⟩
  | .no t, v, h => by
    obtain ⟨a, x, e, h1, h2⟩ := h
    exact ⟨a, x, e, e1 _ _ h1, TreeAt.via e1 e2 h2⟩
theorem TreeAt.up {H H' : Hp} (e : Same H H') {t : Tr} {v : V} (h : TreeAt H t v) : TreeAt H' t v := h.via (fun _ _ z => e _ _ z) fun _ _ z => z.up e
theorem TreeAt.keep {H H' : Hp} (e : Keep H H') {t : Tr} {v : V} (h : TreeAt H t v) : TreeAt H' t v := h.via (fun _ _ z => e _ _ rfl z) fun _ _ z => z.keep e
/-- a dict of values by columns -/
def ValsAt (H : Hp) (m : Addr) (ρ : Str → Option Int) (cs : List Str) : Prop := ∃ kvs, H m = some (.dK kvs) ∧ ∀ c, c ∈ cs → valV kvs (Sum.inr c) = some (ov (ρ c))
theorem ValsAt.up {H H' : Hp} {m : Addr} {ρ : Str → Option Int} {cs : List Str} (e : Same H H') (h : ValsAt H m ρ cs) : ValsAt H' m ρ cs := by
  obtain ⟨kvs, h1, h2⟩ := h
  exact ⟨kvs, e _ _ h1, h2⟩
theorem ValsAt.sub {H : Hp} {m : Addr} {ρ : Str → Option Int} {cs ds : List Str} (h : ValsAt H m ρ cs) (s : ∀ c, c ∈ ds → c ∈ cs) : ValsAt H m ρ ds := by
  obtain ⟨kvs, h1, h2⟩ := h
  exact ⟨kvs, h1, fun c hc => h2 c (s c hc)⟩
theorem s_yes {a : Str} {A B : Prop} (h : A) : if decide (V.str a = V.str a) = true then A else B := by
  rw [decide_eq_true rfl]
  exact iteT h
theorem s_no {a b : Str} {A B : Prop} (hn : (a == b) = false) (h : B) : if decide (V.str a = V.str b) = true then A else B := by
  rw [decide_eq_false fun z => by rw [V.str.inj z, beq_self_eq_true] at hn; cases hn]
  exact iteF h
theorem ValsAt.get {H : Hp} {m : Addr} {ρ : Str → Option Int} {cs : List Str} {c : Str} (h : ValsAt H m ρ cs) (hc : c ∈ cs) : DGet H m (.str c) (some (ov (ρ c))) := by
  obtain ⟨kvs, h1, h2⟩ := h
  have z := DGet.k (k := Sum.inr c) h1
  rw [h2 c hc] at z
  exact z
section
variable {P : Program} {w : World} {K : PySem.W.Frag} {mg : Str → Option Value} {base : Heap}
abbrev s_truth_of : Stmt := top 16
theorem sc_truth_of : FnScope ["tree", "values", "word"] ["tree", "values"] (defScope s_truth_of) := ⟨rfl, rfl, rfl, by decide +kernel, rfl, by decide +kernel, by decide +kernel⟩
/-- truth_of of trees of this depth -/
def sp_truth (d : Nat) : Sp := fun vs H Q _ => ∃ t v m ρ, vs = [v, .ref m] ∧ TreeAt H t v ∧ t.deep ≤ d ∧ ValsAt H m ρ t.cols ∧ ∀ H', Same H H' → Q (tv (t.sem ρ)) H'
theorem ok_truth {f fW fB fE fN : Addr} {fd fdW fdB fdE fdN : FuncData} (F : Fun K "truth_of" "truth_of" s_truth_of f fd) (B_truth_of : Binds K fd ["tree", "values"] []) (g_truth_of : mg "truth_of" = some (.ref f))
    (F_truth_within : Fun K "truth_within" "truth_within" s_truth_within fW fdW) (B_truth_within : Binds K fdW ["value", "parts"] []) (g_truth_within : mg "truth_within" = some (.ref fW)) (G_truth_within : FnOk P w K mg base CX0 2 fW fdW ["value", "parts"] sp_truth_within)
    (F_both : Fun K "both" "both" s_both fB fdB) (B_both : Binds K fdB ["one", "other"] []) (g_both : mg "both" = some (.ref fB)) (G_both : FnOk P w K mg base CX0 1 fB fdB ["one", "other"] sp_both)
    (F_either : Fun K "either" "either" s_either fE fdE) (B_either : Binds K fdE ["one", "other"] []) (g_either : mg "either" = some (.ref fE)) (G_either : FnOk P w K mg base CX0 1 fE fdE ["one", "other"] sp_either)
    (F_negated : Fun K "negated" "negated" s_negated fN fdN) (B_negated : Binds K fdN ["truth"] []) (g_negated : mg "negated" = some (.ref fN)) (G_negated : FnOk P w K mg base CX0 1 fN fdN ["truth"] sp_negated) :
    ∀ d, FnOk P w K mg base CX0 (d + 3) f fd ["tree", "values"] (sp_truth d) := by
  intro d
  induction d with
  | zero =>
    refine F.ok sc_truth_of (fun vs H Q E h => ?_) (fun cdv A outer s H vs Q E hr h => ?_)
    · obtain ⟨t, v, m, ρ, rfl, _⟩ := h
      rfl
    · obtain ⟨t, v, m, ρ, rfl, ht, hd, _⟩ := h
      cases t <;> exact absurd hd (by simp [Tr.deep])
  | succ d G_truth_of =>
    have F_truth_of := F
    refine F.ok sc_truth_of (fun vs H Q E h => ?_) (fun cdv A outer s H vs Q E hr h => ?_)
    · obtain ⟨t, v, m, ρ, rfl, _⟩ := h
      rfl
    · obtain ⟨t, v, m, ρ, rfl, ht, hd, hv, q⟩ := h
      refine ⟨_, (pss_cons (ps_set (i := 2) sc_truth_of.nd rfl (Or.inl rfl) (pe_ix ix_tup (pv 0) pe_int (fun _ _ => rfl)))
 (pss_cons (ps_if (pt_cmpR op_eq (pv 2) pe_str (nomark _))
 (pss_one (ps_ret (pe_call G_truth_within (hr.mono (by omega)) rfl g_truth_within F_truth_within.kp B_truth_within .nil pass0 (pa_cons (pe_dget (Nat.lt_of_le_of_lt (Nat.add_le_add_left (by decide : 1 ≤ 64) _) hr.units) (pv 1) (pe_ix ix_tup (pv 0) pe_int (fun _ _ => rfl)) (fun _ _ => rfl)) (pa_cons (pe_ix ix_tup (pv 0) pe_int (fun _ _ => rfl)) pa_nil)))))
 pss_nil)
 (pss_cons (ps_if (pt_cmpR op_eq (pv 2) pe_str (nomark _))
 (pss_one (ps_ret (pe_cmpR op_isN (pe_dget (Nat.lt_of_le_of_lt (Nat.add_le_add_left (by decide : 1 ≤ 64) _) hr.units) (pv 1) (pe_ix ix_tup (pv 0) pe_int (fun _ _ => rfl)) (fun _ _ => rfl)) pe_non (nomark _))))
 pss_nil)
 (pss_cons (ps_if (pt_cmpR op_eq (pv 2) pe_str (nomark _))
 (pss_one (ps_ret (pe_call G_both (hr.mono (by omega)) rfl g_both F_both.kp B_both .nil pass0 (pa_cons (pe_call G_truth_of (hr.mono (by omega)) rfl g_truth_of F_truth_of.kp B_truth_of .nil pass0 (pa_cons (pe_ix ix_tup (pv 0) pe_int (fun _ _ => rfl)) (pa_cons (pv 1) pa_nil))) (pa_cons (pe_call G_truth_of (hr.mono (by omega)) rfl g_truth_of F_truth_of.kp B_truth_of .nil pass0 (pa_cons (pe_ix ix_tup (pv 0) pe_int (fun _ _ => rfl)) (pa_cons (pv 1) pa_nil))) pa_nil)))))
 pss_nil)
 (pss_cons (ps_if (pt_cmpR op_eq (pv 2) pe_str (nomark _))
 (pss_one (ps_ret (pe_call G_either (hr.mono (by omega)) rfl g_either F_either.kp B_either .nil pass0 (pa_cons (pe_call G_truth_of (hr.mono (by omega)) rfl g_truth_of F_truth_of.kp B_truth_of .nil pass0 (pa_cons (pe_ix ix_tup (pv 0) pe_int (fun _ _ => rfl)) (pa_cons (pv 1) pa_nil))) (pa_cons (pe_call G_truth_of (hr.mono (by omega)) rfl g_truth_of F_truth_of.kp B_truth_of .nil pass0 (pa_cons (pe_ix ix_tup (pv 0) pe_int (fun _ _ => rfl)) (pa_cons (pv 1) pa_nil))) pa_nil)))))
 pss_nil)
 (pss_cons (ps_if (pt_cmpR op_eq (pv 2) pe_str (nomark _))
 (pss_one (ps_ret (pe_call G_negated (hr.mono (by omega)) rfl g_negated F_negated.kp B_negated .nil pass0 (pa_cons (pe_call G_truth_of (hr.mono (by omega)) rfl g_truth_of F_truth_of.kp B_truth_of .nil pass0 (pa_cons (pe_ix ix_tup (pv 0) pe_int (fun _ _ => rfl)) (pa_cons (pv 1) pa_nil))) pa_nil))))
 pss_nil)
 (pss_one (ps_ret (pe_cmpR op_eq (pv 2) pe_str (nomark _)))))))))), ?_⟩
      cases t with
      | wi c ps =>
        obtain ⟨a, p, rfl, h1, h2, h3⟩ := ht
        walk_at "rd"
        refine s_yes ?_
        walk_at "rd"
        unfold tDGet
        walk_at "rd"
        refine ⟨m, ov (ρ c), rfl, hv.get (List.mem_singleton.mpr rfl), ?_⟩
        walk_at "rd"
        exact ⟨ρ c, p, ps, rfl, h2, h3, q H (Same.refl H)⟩
      | mi c =>
        obtain ⟨a, rfl, h1⟩ := ht
        walk_at "rd"
        refine s_no rfl ?_
        walk_at "rd"
        refine s_yes ?_
        walk_at "rd"
        unfold tDGet
        walk_at "rd"
        refine ⟨m, ov (ρ c), rfl, hv.get (List.mem_singleton.mpr rfl), ?_⟩
        walk_at "rd"
        have z := q H (Same.refl H)
        cases e : ρ c with
        | none =>
          simp only [Tr.sem, e] at z
          exact z
        | some n =>
          simp only [Tr.sem, e] at z
          exact z
      | al =>
        obtain ⟨a, rfl, h1⟩ := ht
        walk_at "rd"
        refine s_no rfl ?_
        walk_at "rd"
        refine s_no rfl ?_
        walk_at "rd"
        refine s_no rfl ?_
        walk_at "rd"
        refine s_no rfl ?_
        walk_at "rd"
        refine s_no rfl ?_
        walk_at "rd"
        exact q H (Same.refl H)
      | ne =>
        obtain ⟨a, rfl, h1⟩ := ht
        walk_at "rd"
        refine s_no rfl ?_
        walk_at "rd"
        refine s_no rfl ?_
        walk_at "rd"
        refine s_no rfl ?_
        walk_at "rd"
        refine s_no rfl ?_
        walk_at "rd"
        refine s_no rfl ?_
        walk_at "rd"
        exact q H (Same.refl H)
      | an l r =>
        obtain ⟨a, x, y, rfl, h1, h2, h3⟩ := ht
        have d1 : l.deep ≤ d ∧ r.deep ≤ d := by
          simp only [Tr.deep] at hd
          omega
        walk_at "rd"
        refine s_no rfl ?_
        walk_at "rd"
        refine s_no rfl ?_
        walk_at "rd"
        refine s_yes ?_
        walk_at "rd"
        refine ⟨l, x, m, ρ, rfl, h2, d1.1, hv.sub fun c hc => List.mem_append_left _ hc, fun H1 s1 => ?_⟩
        have h1' := s1 _ _ h1
        walk_at "rd"
        refine ⟨r, y, m, ρ, rfl, h3.up s1, d1.2, (hv.up s1).sub fun c hc => List.mem_append_right _ hc, fun H2 s2 => ?_⟩
        walk_at "rd"
        exact ⟨_, _, rfl, q H2 (fun b o z => s2 _ _ (s1 _ _ z))⟩
      | ou l r =>
        obtain ⟨a, x, y, rfl, h1, h2, h3⟩ := ht
        have d1 : l.deep ≤ d ∧ r.deep ≤ d := by
          simp only [Tr.deep] at hd
          omega
        walk_at "rd"
        refine s_no rfl ?_
        walk_at "rd"
        refine s_no rfl ?_
        walk_at "rd"
        refine s_no rfl ?_
        walk_at "rd"
        refine s_yes ?_
        walk_at "rd"
        refine ⟨l, x, m, ρ, rfl, h2, d1.1, hv.sub fun c hc => List.mem_append_left _ hc, fun H1 s1 => ?_⟩
        have h1' := s1 _ _ h1
        walk_at "rd"
        refine ⟨r, y, m, ρ, rfl, h3.up s1, d1.2, (hv.up s1).sub fun c hc => List.mem_append_right _ hc, fun H2 s2 => ?_⟩
        walk_at "rd"
        exact ⟨_, _, rfl, q H2 (fun b o z => s2 _ _ (s1 _ _ z))⟩
      | no t =>
        obtain ⟨a, x, rfl, h1, h2⟩ := ht
        have d1 : t.deep ≤ d := by
          simp only [Tr.deep] at hd
          omega
        walk_at "rd"
        refine s_no rfl ?_
        walk_at "rd"
        refine s_no rfl ?_
        walk_at "rd"
        refine s_no rfl ?_
        walk_at "rd"
        refine s_no rfl ?_
        walk_at "rd"
        refine s_yes ?_
        walk_at "rd"
        refine ⟨t, x, m, ρ, rfl, h2, d1, hv, fun H1 s1 => ?_⟩
        walk_at "rd"
        exact ⟨_, rfl, q H1 s1⟩
end
end Spk.Fi

set_option Elab.async false
set_option linter.all false
set_option maxRecDepth 100000
set_option maxHeartbeats 1000000
namespace Spk.Fi
open PySem L2 Spk
local macro_rules | `(tactic| walk_at "rd") => `(tactic| repeat (first
  | with_reducible refine i_seq ?_ | with_reducible refine i_asg ?_ | with_reducible refine i_ret ?_ | with_reducible refine i_ifS ?_ | with_reducible refine i_if ?_
  | with_reducible refine i_for ?_ | with_reducible refine i_iL ?_ | with_reducible refine i_iT ?_ | with_reducible refine i_ckw ?_ | with_reducible refine i_cm ?_ | with_reducible refine And.intro (rfl : V.ref _ = V.ref _) ?_ | with_reducible refine i_rng1 ?_ | with_reducible refine i_bm ?_ | with_reducible refine i_bm0 ?_
  | with_reducible refine i_drop ?_ | with_reducible refine i_next ?_
  | with_reducible refine i_var rfl ?_ | with_reducible refine i_c ?_ | with_reducible refine i_op ?_ | with_reducible refine i_un ?_ | with_reducible refine i_name ?_
  | with_reducible refine i_rI0 ?_ | with_reducible refine i_rU ?_ | with_reducible refine i_rEq rfl ?_ | with_reducible refine i_rNe rfl ?_
  | with_reducible refine i_test ?_ | with_reducible refine i_tB ?_ | with_reducible refine i_and ?_ | with_reducible refine i_or ?_ | with_reducible refine i_not ?_
  | with_reducible refine i_andV ?_ | with_reducible refine i_orV ?_ | with_reducible refine i_notV ?_
  | with_reducible refine i_cons ?_ | with_reducible refine i_nil ?_ | with_reducible refine i_cb ?_ | with_reducible refine i_call ?_ | with_reducible refine i_bl ?_
  | with_reducible refine i_tup ?_ | with_reducible refine i_lst ?_ | with_reducible refine i_par ?_ | with_reducible refine i_gcons ?_ | with_reducible refine i_gnil ?_
  | with_reducible refine And.intro (rfl : V.non = V.non) ?_ | with_reducible refine i_ixT (by assumption) rfl ?_ | with_reducible refine i_ixL (by assumption) rfl ?_ | with_reducible refine i_gtup (by assumption) rfl ?_
  | with_reducible refine i_gsub ?_
  | with_reducible refine Or.inl (Exists.intro _ (And.intro (rfl : [V.int _] = [V.int _]) ?_)) | with_reducible refine Exists.intro _ (And.intro (rfl : [V.int _] = [V.int _]) ?_)
  | with_reducible refine Or.inr (Exists.intro _ (And.intro (rfl : [V.bl _] = [V.bl _]) ?_))
  | with_reducible refine Exists.intro _ (Exists.intro _ (And.intro (rfl : [V.int _, V.int _] = [V.int _, V.int _]) ?_))
  | with_reducible refine Exists.intro _ (Exists.intro _ (And.intro (rfl : [V.ref _] = [V.ref _]) (And.intro (Or.inl (SqL.of (by assumption))) ?_)))
  | with_reducible refine i_rI (show (0 : Int) < _ by assumption) ?_ | with_reducible refine i_rI (show (0 : Int) < _ by decide) ?_
  | with_reducible refine i_rI (pow_ok (Nat.le_of_ble_eq_true rfl) (Nat.le_of_ble_eq_true rfl)) ?_
  | with_reducible refine i_rI (cmulL rfl) ?_))
/-! ### the columns of two filters -/
theorem withTx_nodup {l : List Str} {k : Str} (h : l.Nodup) : (withTx l k).Nodup := by
  unfold withTx
  split
  · exact h
  · rename_i z
    exact List.nodup_cons.mpr ⟨z, h⟩
theorem onceTx_nodup : ∀ (xs l : List Str), l.Nodup → (onceTx l xs).Nodup
  | [], _, h => h
  | _ :: ys, _, h => onceTx_nodup ys _ (withTx_nodup h)
/-- a tuple of texts, ascending, each once: these -/
structure ColsOk (cs : List Str) (m : Str → Prop) (n : Nat) : Prop where
  up : PyProof.Rows.sortedS cs = true
  nd : cs.Nodup
  mem : ∀ c, c ∈ cs ↔ m c
  len : cs.length ≤ n
theorem i_txSet {K : PySem.W.Frag} {P : Program} {w : World} {H : Hp} {u : Addr} {xs : List Str} {R : VK} (hu : H u = some (.tup (xs.map V.str))) (hz : xs.length ≤ 1000) (k : ∀ b H2, Same H H2 → H2 b = some (TxO P w b (onceTx [] xs)) → R (.ref b) H2) : rTxSet K P w [.ref u] H R := by
  refine ⟨u, xs, rfl, SqT.of hu, hz, fun b hb => ?_⟩
  obtain ⟨H2, e2, s2, h2⟩ := new_heap (o := TxO P w b (onceTx [] xs)) hb
  rw [e2]
  exact k b H2 s2 h2
theorem i_txSort {P : Program} {w : World} {H : Hp} {b : Addr} {xs : List Str} {R : VK} (hb : H b = some (TxO P w b (onceTx [] xs))) (hz : xs.length < 64)
    (k : ∀ l H2, ∀ zs : List Str, Same H H2 → H2 l = some (.lst (zs.map V.str)) → ColsOk zs (fun c => c ∈ xs) xs.length → R (.ref l) H2) : rTxSorted P w [.ref b] H R := by
  have le := onceTx_len xs []
  have z0 : ([] : List Str).length = 0 := rfl
  refine ⟨b, onceTx [] xs, rfl, hb, by omega, fun zs l pe so hl => ?_⟩
  obtain ⟨H3, e3, s3, h3⟩ := new_heap (o := .lst (zs.map V.str)) hl
  rw [e3]
  refine k l H3 zs s3 h3 ⟨so, pe.nodup_iff.mpr (onceTx_nodup _ _ List.nodup_nil), fun c => ?_, by rw [pe.length_eq]; omega⟩
  rw [pe.mem_iff, onceTx_mem]
  simp
section
variable {P : Program} {w : World} {K : PySem.W.Frag} {mg : Str → Option Value} {base : Heap}
abbrev s_all_columns : Stmt := top 15
theorem sc_all_columns : FnScope ["one", "other"] ["one", "other"] (defScope s_all_columns) := ⟨rfl, rfl, rfl, by decide +kernel, rfl, by decide +kernel, by decide +kernel⟩
def sp_all_columns : Sp := fun vs H Q _ => ∃ (p q : Addr) (xs ys : List Str), vs = [.ref p, .ref q] ∧ H p = some (.tup (xs.map V.str)) ∧ H q = some (.tup (ys.map V.str)) ∧ xs.length + ys.length < 64 ∧
  ∀ (r : Addr) (H' : Hp) (zs : List Str), Same H H' → H' r = some (.tup (zs.map V.str)) → ColsOk zs (fun c => c ∈ xs ∨ c ∈ ys) (xs.length + ys.length) → Q (.ref r) H'
theorem ok_all_columns {f : Addr} {fd : FuncData} (F : Fun K "all_columns" "all_columns" s_all_columns f fd) (z_tuple : mg "tuple" = none) (z_sorted : mg "sorted" = none) (z_set : mg "set" = none) : FnOk P w K mg base CX0 1 f fd ["one", "other"] sp_all_columns := by
  refine F.ok sc_all_columns (fun vs H Q E h => ?_) (fun cdv A outer s H vs Q E hr h => ?_)
  · obtain ⟨p, q, xs, ys, rfl, _⟩ := h
    rfl
  · obtain ⟨p, q, xs, ys, rfl, hp, hq, hz, k⟩ := h
    refine ⟨_, (pss_one (ps_ret (pe_callTy call_tuple_of (by rfl) z_tuple (by decide +kernel) (pa_cons (pe_callB (cr_txSorted rfl) (by rfl) z_sorted (by decide +kernel) (pa_cons (pe_callTy (cr_txSet rfl) (by rfl) z_set (by decide +kernel) (pa_cons (pe_op op_catA (pv 0) (pv 1)) pa_nil)) pa_nil)) pa_nil)))), ?_⟩
    have fin : ∀ (l : Addr) (H3 : Hp) (zs : List Str), Same H H3 → H3 l = some (.lst (zs.map V.str)) → ColsOk zs (fun c => c ∈ xs ++ ys) (xs ++ ys).length → ∀ r, H3 r = none → Q (.ref r) (upd H3 r (.tup (zs.map V.str))) := by
      intro l H3 zs s3 h3 ok r hr
      obtain ⟨H4, e4, s4, h4⟩ := new_heap (o := .tup (zs.map V.str)) hr
      rw [e4]
      exact k r H4 zs (fun a o e => s4 _ _ (s3 _ _ e)) h4 ⟨ok.up, ok.nd, fun c => (ok.mem c).trans List.mem_append, by have := ok.len; rw [List.length_append] at this; exact this⟩
    have hz2 : (xs ++ ys).length < 64 := by rw [List.length_append]; exact hz
    walk_at "rd"
    refine ⟨p, q, xs.map V.str, ys.map V.str, rfl, rfl, SqT.of hp, SqT.of hq, size_of (by simp; omega), fun e => ?_, fun _ e => ?_, fun _ _ u hu => ?_⟩
    · have hx : xs = [] := List.map_eq_nil_iff.mp e
      subst hx
      walk_at "rd"
      refine i_txSet hq (by simp at hz; omega) fun b H2 s2 h2 => ?_
      walk_at "rd"
      refine i_txSort h2 (by simpa using hz) fun l H3 zs s3 h3 ok => ?_
      walk_at "rd"
      exact ⟨l, _, rfl, .inl ⟨SqL.of h3, fin l H3 zs (fun a o e => s3 _ _ (s2 _ _ e)) h3 ok⟩⟩
    · have hy : ys = [] := List.map_eq_nil_iff.mp e
      subst hy
      walk_at "rd"
      refine i_txSet hp (by simp at hz; omega) fun b H2 s2 h2 => ?_
      walk_at "rd"
      refine i_txSort h2 (by simpa using hz) fun l H3 zs s3 h3 ok => ?_
      walk_at "rd"
      rw [List.append_nil] at fin
      exact ⟨l, _, rfl, .inl ⟨SqL.of h3, fin l H3 zs (fun a o e => s3 _ _ (s2 _ _ e)) h3 ok⟩⟩
    · rw [← List.map_append]
      obtain ⟨H1, e1, s1, h1⟩ := new_heap (o := .tup ((xs ++ ys).map V.str)) hu
      rw [e1]
      walk_at "rd"
      refine i_txSet h1 (by omega) fun b H2 s2 h2 => ?_
      walk_at "rd"
      refine i_txSort h2 hz2 fun l H3 zs s3 h3 ok => ?_
      walk_at "rd"
      exact ⟨l, _, rfl, .inl ⟨SqL.of h3, fin l H3 zs (fun a o e => s3 _ _ (s2 _ _ (s1 _ _ e))) h3 ok⟩⟩
end
end Spk.Fi

set_option Elab.async false
set_option linter.all false
set_option maxRecDepth 100000
set_option maxHeartbeats 1000000
namespace Spk.Fi
open PySem L2 Spk
local macro_rules | `(tactic| walk_at "rd") => `(tactic| repeat (first
  | with_reducible refine i_seq ?_ | with_reducible refine i_asg ?_ | with_reducible refine i_ret ?_ | with_reducible refine i_ifS ?_ | with_reducible refine i_if ?_
  | with_reducible refine i_for ?_ | with_reducible refine i_iL ?_ | with_reducible refine i_iT ?_ | with_reducible refine i_ckw ?_ | with_reducible refine i_cm ?_ | with_reducible refine And.intro (rfl : V.ref _ = V.ref _) ?_ | with_reducible refine i_rng1 ?_ | with_reducible refine i_bm ?_ | with_reducible refine i_bm0 ?_
  | with_reducible refine i_drop ?_ | with_reducible refine i_next ?_
  | with_reducible refine i_var rfl ?_ | with_reducible refine i_c ?_ | with_reducible refine i_op ?_ | with_reducible refine i_un ?_ | with_reducible refine i_name ?_
  | with_reducible refine i_rI0 ?_ | with_reducible refine i_rU ?_ | with_reducible refine i_rEq rfl ?_ | with_reducible refine i_rNe rfl ?_
  | with_reducible refine i_test ?_ | with_reducible refine i_tB ?_ | with_reducible refine i_and ?_ | with_reducible refine i_or ?_ | with_reducible refine i_not ?_
  | with_reducible refine i_andV ?_ | with_reducible refine i_orV ?_ | with_reducible refine i_notV ?_
  | with_reducible refine i_cons ?_ | with_reducible refine i_nil ?_ | with_reducible refine i_cb ?_ | with_reducible refine i_call ?_ | with_reducible refine i_bl ?_
  | with_reducible refine i_tup ?_ | with_reducible refine i_lst ?_ | with_reducible refine i_par ?_ | with_reducible refine i_gcons ?_ | with_reducible refine i_gnil ?_
  | with_reducible refine And.intro (rfl : V.non = V.non) ?_ | with_reducible refine i_ixT (by assumption) rfl ?_ | with_reducible refine i_ixL (by assumption) rfl ?_ | with_reducible refine i_gtup (by assumption) rfl ?_
  | with_reducible refine i_gsub ?_
  | with_reducible refine Or.inl (Exists.intro _ (And.intro (rfl : [V.int _] = [V.int _]) ?_)) | with_reducible refine Exists.intro _ (And.intro (rfl : [V.int _] = [V.int _]) ?_)
  | with_reducible refine Or.inr (Exists.intro _ (And.intro (rfl : [V.bl _] = [V.bl _]) ?_))
  | with_reducible refine Exists.intro _ (Exists.intro _ (And.intro (rfl : [V.int _, V.int _] = [V.int _, V.int _]) ?_))
  | with_reducible refine Exists.intro _ (Exists.intro _ (And.intro (rfl : [V.ref _] = [V.ref _]) (And.intro (Or.inl (SqL.of (by assumption))) ?_)))
  | with_reducible refine i_rI (show (0 : Int) < _ by assumption) ?_ | with_reducible refine i_rI (show (0 : Int) < _ by decide) ?_
  | with_reducible refine i_rI (pow_ok (Nat.le_of_ble_eq_true rfl) (Nat.le_of_ble_eq_true rfl)) ?_
  | with_reducible refine i_rI (cmulL rfl) ?_))
/-! ### the class Filter -/
/-- what the text says of the class -/
structure ClsF (K : PySem.W.Frag) (mg : Str → Option Value) (D fI : Addr) : Prop where
  cl : Cls K D
  nT : NoAttr K D "tree"
  nC : NoAttr K D "columns"
  M : Mk K D fI
  g_CF : mg "Filter" = some (.ref D)
/-- a filter with this tree -/
def Fil (D : Addr) (H : Hp) (x : Addr) (t : Tr) : Prop := ∃ dx v q cs, H x = some (.ins D dx [("tree", v), ("columns", .ref q)]) ∧ TreeAt H t v ∧ H q = some (.tup (cs.map V.str)) ∧ ColsOk cs (fun c => c ∈ t.cols) t.many
theorem Fil.up {D : Addr} {H H' : Hp} {x : Addr} {t : Tr} (e : Same H H') (h : Fil D H x t) : Fil D H' x t := by
  obtain ⟨dx, v, q, cs, h1, h2, h3, h4⟩ := h
  exact ⟨dx, v, q, cs, e _ _ h1, h2.up e, e _ _ h3, h4⟩
theorem Fil.keep {D : Addr} {H H' : Hp} {x : Addr} {t : Tr} (e : Keep H H') (h : Fil D H x t) : Fil D H' x t := by
  obtain ⟨dx, v, q, cs, h1, h2, h3, h4⟩ := h
  exact ⟨dx, v, q, cs, e _ _ rfl h1, h2.keep e, e _ _ rfl h3, h4⟩
theorem lk_tree {v u : V} : ([("tree", v), ("columns", u)] : List (Str × V)).lookup ("tree" : Str) = some v := by
  show (match (("tree" : Str) == "tree") with | true => some v | false => List.lookup ("tree" : Str) [(("columns" : Str), u)]) = some v
  rw [beq_self_eq_true]
theorem lk_columns {v u : V} : ([("tree", v), ("columns", u)] : List (Str × V)).lookup ("columns" : Str) = some u := by
  show (match (("columns" : Str) == "tree") with | true => some v | false => (match (("columns" : Str) == "columns") with | true => some u | false => none)) = some u
  rw [show (("columns" : Str) == "tree") = false from rfl, beq_self_eq_true]
section
variable {P : Program} {w : World} {K : PySem.W.Frag} {mg : Str → Option Value} {base : Heap} {C fI fE D fJ : Addr}
abbrev s_Filter__init : Stmt := inClass (top 14) 0
theorem sc_Filter__init : FnScope ["self", "tree", "columns"] ["self", "tree", "columns"] (defScope s_Filter__init) := ⟨rfl, rfl, rfl, by decide +kernel, rfl, by decide +kernel, by decide +kernel⟩
def sp_finit (D : Addr) : Sp := fun vs H Q _ => ∃ x dx v q, vs = [.ref x, v, q] ∧ H x = some (.ins D dx []) ∧ Q .non (upd H x (.ins D dx [("tree", v), ("columns", q)]))
theorem ok_finit {fd : FuncData} (F : Fun K "__init__" "Filter.__init__" s_Filter__init fJ fd) (T : ClsF K mg D fJ) : FnOk P w K mg base CX0 1 fJ fd ["self", "tree", "columns"] (sp_finit D) := by
  refine F.ok sc_Filter__init (fun vs H Q E h => ?_) (fun cdv A outer s H vs Q E hr h => ?_)
  · obtain ⟨x, dx, v, q, rfl, _⟩ := h
    rfl
  · obtain ⟨x, dx, v, q, rfl, hx, k⟩ := h
    refine ⟨_, (pss_cons (ps_fld (pv 0) (pv 1) rfl)
 (pss_one (ps_fld (pv 0) (pv 2) rfl))), ?_⟩
    refine ⟨_, rfl, _, rfl, x, D, dx, [], rfl, hx, T.cl, T.nT, (by show 0 < 1000; decide), ?_⟩
    have h1 : upd H x (.ins D dx [("tree", v)]) x = some (.ins D dx [("tree", v)]) := upd_same
    refine ⟨_, rfl, _, rfl, x, D, dx, [("tree", v)], rfl, h1, T.cl, T.nC, (by show 1 < 1000; decide), ?_⟩
    have e : upd (upd H x (.ins D dx [("tree", v)])) x (.ins D dx [("tree", v), ("columns", q)]) = upd H x (.ins D dx [("tree", v), ("columns", q)]) := L2.upd_upd
    rw [← e] at k
    exact k
/-- the promise of __init__ where a filter is made -/
abbrev spJ (D : Addr) : Sp := fun vs H Q E => sp_finit D (vs ++ []) H Q E
/-- «a new filter with this tree» -/
abbrev NewF (D : Addr) (H : Hp) (Q : VK) (t : Tr) : Prop := ∀ x H', Same H H' → Fil D H' x t → Q (.ref x) H'
theorem mk_fil {H : Hp} {v : V} {q : Addr} {t : Tr} {cs : List Str} {Q : VK} (ht : TreeAt H t v) (hq : H q = some (.tup (cs.map V.str))) (ok : ColsOk cs (fun c => c ∈ t.cols) t.many) (k : NewF D H Q t) :
    ∀ x dx, H x = none → H dx = none → dx ≠ x → spJ D (V.ref x :: [v, .ref q]) (upd (upd H dx (.own x)) x (.ins D dx [])) (fun u H2 => u = .non ∧ Q (.ref x) H2) E0 := by
  intro x dx hx hdx hne
  refine ⟨x, dx, v, .ref q, rfl, upd_same, rfl, ?_⟩
  have sm : Same H (upd (upd (upd H dx (.own x)) x (.ins D dx [])) x (.ins D dx [("tree", v), ("columns", .ref q)])) := fun b o e => by
    rw [upd_ne (ne_of_none e hx), upd_ne (ne_of_none e hx), upd_ne (ne_of_none e hdx)]
    exact e
  exact k x _ sm ⟨dx, v, q, cs, upd_same, ht.up sm, sm _ _ hq, ok⟩
theorem cols_nil (n : Nat) : ColsOk [] (fun c => c ∈ ([] : List Str)) n := ⟨rfl, List.nodup_nil, fun c => Iff.rfl, Nat.zero_le _⟩
theorem cols_one (x : Str) : ColsOk [x] (fun c => c ∈ [x]) 1 := ⟨rfl, List.nodup_cons.mpr ⟨List.not_mem_nil, List.nodup_nil⟩, fun c => Iff.rfl, Nat.le_refl _⟩
abbrev s_Filter_within : Stmt := inClass (top 14) 1
theorem sc_Filter_within : FnScope ["cls", "column", "ranges"] ["cls", "column", "ranges"] (defScope s_Filter_within) := ⟨rfl, rfl, rfl, by decide +kernel, rfl, by decide +kernel, by decide +kernel⟩
def sp_fwithin (C D : Addr) : Sp := fun vs H Q _ => ∃ c r ps, vs = [.ref D, .str c, .ref r] ∧ Rng C H r ps ∧ NewF D H Q (.wi c ps)
theorem ok_fwithin {f : Addr} {fd fdI : FuncData} (F : Fun K "within" "Filter.within" s_Filter_within f fd) (FI : Fun K "__init__" "Filter.__init__" s_Filter__init fJ fdI) (B_init : Binds K fdI ["self", "tree", "columns"] []) (T : ClsF K mg D fJ) (TC : ClsT K mg C fI fE) :
    FnOk P w K mg base CX0 3 f fd ["cls", "column", "ranges"] (sp_fwithin C D) := by
  have RI : FnR P w K mg base CX0 1 fJ (spJ D) := FnOk.raw (ok_finit FI T) B_init .nil
  have M := T.M
  refine F.ok sc_Filter_within (fun vs H Q E h => ?_) (fun cdv A outer s H vs Q E hr h => ?_)
  · obtain ⟨c, r, ps, rfl, _⟩ := h
    rfl
  · obtain ⟨c, r, ps, rfl, ⟨dx, t, hx, hp, ca⟩, k⟩ := h
    refine ⟨_, (pss_one (ps_ret (pe_makeL (i := 0) M RI (hr.mono (by decide)) rfl (Or.inl rfl) pass0 (pa_cons (pe_tup (pa_cons pe_str (pa_cons (pv 1) (pa_cons (pe_fld (pv 2) rfl) pa_nil)))) (pa_cons (pe_tup (pa_cons (pv 1) pa_nil)) pa_nil))))), ?_⟩
    walk_at "rd"
    refine ⟨rfl, ?_⟩
    unfold StX.tMakeR
    walk_at "rd"
    refine ⟨_, rfl, r, C, dx, _, _, rfl, hx, TC.cl, TC.nP, lk_parts, ?_⟩
    walk_at "rd"
    refine ⟨size_of (Nat.le_of_ble_eq_true rfl), fun p h0 => ?_⟩
    obtain ⟨H1, e1, s1, h1⟩ := new_heap (o := .tup [.str "within", .str c, .ref t]) h0
    rw [e1]
    walk_at "rd"
    refine ⟨size_of (Nat.le_of_ble_eq_true rfl), fun p' hp' => ?_⟩
    obtain ⟨H2, e2, s2, h2⟩ := new_heap (o := .tup [.str c]) hp'
    rw [e2]
    walk_at "rd"
    have tr : TreeAt H2 (.wi c ps) (.ref p) := ⟨p, t, rfl, s2 _ _ h1, (hp.up s1).up s2, ca⟩
    exact mk_fil (cs := [c]) tr h2 (cols_one c) fun x H' s3 hf => k x H' (fun b o z => s3 _ _ (s2 _ _ (s1 _ _ z))) hf
abbrev s_Filter_missing : Stmt := inClass (top 14) 2
theorem sc_Filter_missing : FnScope ["cls", "column"] ["cls", "column"] (defScope s_Filter_missing) := ⟨rfl, rfl, rfl, by decide +kernel, rfl, by decide +kernel, by decide +kernel⟩
def sp_fmissing (D : Addr) : Sp := fun vs H Q _ => ∃ c, vs = [.ref D, .str c] ∧ NewF D H Q (.mi c)
theorem ok_fmissing {f : Addr} {fd fdI : FuncData} (F : Fun K "missing" "Filter.missing" s_Filter_missing f fd) (FI : Fun K "__init__" "Filter.__init__" s_Filter__init fJ fdI) (B_init : Binds K fdI ["self", "tree", "columns"] []) (T : ClsF K mg D fJ) :
    FnOk P w K mg base CX0 3 f fd ["cls", "column"] (sp_fmissing D) := by
  have RI : FnR P w K mg base CX0 1 fJ (spJ D) := FnOk.raw (ok_finit FI T) B_init .nil
  have M := T.M
  refine F.ok sc_Filter_missing (fun vs H Q E h => ?_) (fun cdv A outer s H vs Q E hr h => ?_)
  · obtain ⟨c, rfl, _⟩ := h
    rfl
  · obtain ⟨c, rfl, k⟩ := h
    refine ⟨_, (pss_one (ps_ret (pe_makeL (i := 0) M RI (hr.mono (by decide)) rfl (Or.inl rfl) pass0 (pa_cons (pe_tup (pa_cons pe_str (pa_cons (pv 1) pa_nil))) (pa_cons (pe_tup (pa_cons (pv 1) pa_nil)) pa_nil))))), ?_⟩
    walk_at "rd"
    refine ⟨rfl, ?_⟩
    unfold StX.tMakeR
    walk_at "rd"
    refine ⟨size_of (Nat.le_of_ble_eq_true rfl), fun p h0 => ?_⟩
    obtain ⟨H1, e1, s1, h1⟩ := new_heap (o := .tup [.str "missing", .str c]) h0
    rw [e1]
    walk_at "rd"
    refine ⟨size_of (Nat.le_of_ble_eq_true rfl), fun p' hp' => ?_⟩
    obtain ⟨H2, e2, s2, h2⟩ := new_heap (o := .tup [.str c]) hp'
    rw [e2]
    walk_at "rd"
    have tr : TreeAt H2 (.mi c) (.ref p) := ⟨p, rfl, s2 _ _ h1⟩
    exact mk_fil (cs := [c]) tr h2 (cols_one c) fun x H' s3 hf => k x H' (fun b o z => s3 _ _ (s2 _ _ (s1 _ _ z))) hf
abbrev s_Filter_always : Stmt := inClass (top 14) 3
theorem sc_Filter_always : FnScope ["cls"] ["cls"] (defScope s_Filter_always) := ⟨rfl, rfl, rfl, by decide +kernel, rfl, by decide +kernel, by decide +kernel⟩
def sp_falways (D : Addr) : Sp := fun vs H Q _ => vs = [.ref D] ∧ NewF D H Q .al
theorem ok_falways {f : Addr} {fd fdI : FuncData} (F : Fun K "always" "Filter.always" s_Filter_always f fd) (FI : Fun K "__init__" "Filter.__init__" s_Filter__init fJ fdI) (B_init : Binds K fdI ["self", "tree", "columns"] []) (T : ClsF K mg D fJ) :
    FnOk P w K mg base CX0 3 f fd ["cls"] (sp_falways D) := by
  have RI : FnR P w K mg base CX0 1 fJ (spJ D) := FnOk.raw (ok_finit FI T) B_init .nil
  have M := T.M
  refine F.ok sc_Filter_always (fun vs H Q E h => ?_) (fun cdv A outer s H vs Q E hr h => ?_)
  · obtain ⟨rfl, _⟩ := h
    rfl
  · obtain ⟨rfl, k⟩ := h
    refine ⟨_, (pss_one (ps_ret (pe_makeL (i := 0) M RI (hr.mono (by decide)) rfl (Or.inl rfl) pass0 (pa_cons (pe_tup (pa_cons pe_str pa_nil)) (pa_cons (pe_tup pa_nil) pa_nil))))), ?_⟩
    walk_at "rd"
    refine ⟨rfl, ?_⟩
    unfold StX.tMakeR
    walk_at "rd"
    refine ⟨size_of (Nat.le_of_ble_eq_true rfl), fun p h0 => ?_⟩
    obtain ⟨H1, e1, s1, h1⟩ := new_heap (o := .tup [.str "always"]) h0
    rw [e1]
    walk_at "rd"
    refine ⟨Nat.zero_le _, fun p' hp' => ?_⟩
    obtain ⟨H2, e2, s2, h2⟩ := new_heap (o := .tup []) hp'
    rw [e2]
    walk_at "rd"
    have tr : TreeAt H2 .al (.ref p) := ⟨p, rfl, s2 _ _ h1⟩
    exact mk_fil (cs := []) tr h2 (cols_nil 1) fun x H' s3 hf => k x H' (fun b o z => s3 _ _ (s2 _ _ (s1 _ _ z))) hf
abbrev s_Filter_never : Stmt := inClass (top 14) 4
theorem sc_Filter_never : FnScope ["cls"] ["cls"] (defScope s_Filter_never) := ⟨rfl, rfl, rfl, by decide +kernel, rfl, by decide +kernel, by decide +kernel⟩
def sp_fnever (D : Addr) : Sp := fun vs H Q _ => vs = [.ref D] ∧ NewF D H Q .ne
theorem ok_fnever {f : Addr} {fd fdI : FuncData} (F : Fun K "never" "Filter.never" s_Filter_never f fd) (FI : Fun K "__init__" "Filter.__init__" s_Filter__init fJ fdI) (B_init : Binds K fdI ["self", "tree", "columns"] []) (T : ClsF K mg D fJ) :
    FnOk P w K mg base CX0 3 f fd ["cls"] (sp_fnever D) := by
  have RI : FnR P w K mg base CX0 1 fJ (spJ D) := FnOk.raw (ok_finit FI T) B_init .nil
  have M := T.M
  refine F.ok sc_Filter_never (fun vs H Q E h => ?_) (fun cdv A outer s H vs Q E hr h => ?_)
  · obtain ⟨rfl, _⟩ := h
    rfl
  · obtain ⟨rfl, k⟩ := h
    refine ⟨_, (pss_one (ps_ret (pe_makeL (i := 0) M RI (hr.mono (by decide)) rfl (Or.inl rfl) pass0 (pa_cons (pe_tup (pa_cons pe_str pa_nil)) (pa_cons (pe_tup pa_nil) pa_nil))))), ?_⟩
    walk_at "rd"
    refine ⟨rfl, ?_⟩
    unfold StX.tMakeR
    walk_at "rd"
    refine ⟨size_of (Nat.le_of_ble_eq_true rfl), fun p h0 => ?_⟩
    obtain ⟨H1, e1, s1, h1⟩ := new_heap (o := .tup [.str "never"]) h0
    rw [e1]
    walk_at "rd"
    refine ⟨Nat.zero_le _, fun p' hp' => ?_⟩
    obtain ⟨H2, e2, s2, h2⟩ := new_heap (o := .tup []) hp'
    rw [e2]
    walk_at "rd"
    have tr : TreeAt H2 .ne (.ref p) := ⟨p, rfl, s2 _ _ h1⟩
    exact mk_fil (cs := []) tr h2 (cols_nil 1) fun x H' s3 hf => k x H' (fun b o z => s3 _ _ (s2 _ _ (s1 _ _ z))) hf
abbrev s_Filter__and : Stmt := inClass (top 14) 5
theorem sc_Filter__and : FnScope ["self", "other"] ["self", "other"] (defScope s_Filter__and) := ⟨rfl, rfl, rfl, by decide +kernel, rfl, by decide +kernel, by decide +kernel⟩
def sp_fand (D : Addr) : Sp := fun vs H Q _ => ∃ a b l r, vs = [.ref a, .ref b] ∧ Fil D H a l ∧ Fil D H b r ∧ l.many + r.many < 64 ∧ NewF D H Q (.an l r)
theorem ok_fand {f fA : Addr} {fd fdI fdA : FuncData} (F : Fun K "__and__" "Filter.__and__" s_Filter__and f fd) (FI : Fun K "__init__" "Filter.__init__" s_Filter__init fJ fdI) (B_init : Binds K fdI ["self", "tree", "columns"] []) (T : ClsF K mg D fJ)
    (F_all_columns : Fun K "all_columns" "all_columns" s_all_columns fA fdA) (B_all_columns : Binds K fdA ["one", "other"] []) (g_all_columns : mg "all_columns" = some (.ref fA)) (G_all_columns : FnOk P w K mg base CX0 1 fA fdA ["one", "other"] sp_all_columns) :
    FnOk P w K mg base CX0 3 f fd ["self", "other"] (sp_fand D) := by
  have RI : FnR P w K mg base CX0 1 fJ (spJ D) := FnOk.raw (ok_finit FI T) B_init .nil
  have M := T.M
  have g_CF := T.g_CF
  refine F.ok sc_Filter__and (fun vs H Q E h => ?_) (fun cdv A outer s H vs Q E hr h => ?_)
  · obtain ⟨a, b, l, r, rfl, _⟩ := h
    rfl
  · obtain ⟨a, b, l, r, rfl, ⟨dx, v, p, cs, ha, ta, hp, oa⟩, ⟨dy, u, q, ds, hb, tb, hq, ob⟩, hz, k⟩ := h
    refine ⟨_, (pss_one (ps_ret (StX.pe_makeR M RI (hr.mono (by decide)) rfl g_CF pass0 (pa_cons (pe_tup (pa_cons pe_str (pa_cons (pe_fld (pv 0) rfl) (pa_cons (pe_fld (pv 1) rfl) pa_nil)))) (pa_cons (pe_call G_all_columns (hr.mono (by decide)) rfl g_all_columns F_all_columns.kp B_all_columns .nil pass0 (pa_cons (pe_fld (pv 0) rfl) (pa_cons (pe_fld (pv 1) rfl) pa_nil))) pa_nil))))), ?_⟩
    unfold StX.tMakeR
    walk_at "rd"
    refine ⟨_, rfl, a, D, dx, _, _, rfl, ha, T.cl, T.nT, lk_tree, ?_⟩
    walk_at "rd"
    refine ⟨_, rfl, b, D, dy, _, _, rfl, hb, T.cl, T.nT, lk_tree, ?_⟩
    walk_at "rd"
    refine ⟨size_of (Nat.le_of_ble_eq_true rfl), fun t h0 => ?_⟩
    obtain ⟨H1, e1, s1, h1⟩ := new_heap (o := .tup [.str "and", v, u]) h0
    rw [e1]
    walk_at "rd"
    refine ⟨_, rfl, a, D, dx, _, _, rfl, s1 _ _ ha, T.cl, T.nC, lk_columns, ?_⟩
    walk_at "rd"
    refine ⟨_, rfl, b, D, dy, _, _, rfl, s1 _ _ hb, T.cl, T.nC, lk_columns, ?_⟩
    walk_at "rd"
    refine ⟨p, q, cs, ds, rfl, s1 _ _ hp, s1 _ _ hq, by have := oa.len; have := ob.len; omega, fun m H2 es s2 h2 oe => ?_⟩
    walk_at "rd"
    have tr : TreeAt H2 (.an l r) (.ref t) := ⟨t, v, u, rfl, s2 _ _ h1, (ta.up s1).up s2, (tb.up s1).up s2⟩
    refine mk_fil (cs := es) tr h2 ⟨oe.up, oe.nd, fun c => ?_, ?_⟩ fun x H' s3 hf => k x H' (fun b o z => s3 _ _ (s2 _ _ (s1 _ _ z))) hf
    · rw [oe.mem, oa.mem, ob.mem]
      exact List.mem_append.symm
    · have := oe.len
      have := oa.len
      have := ob.len
      simp only [Tr.many]
      omega
abbrev s_Filter__or : Stmt := inClass (top 14) 6
theorem sc_Filter__or : FnScope ["self", "other"] ["self", "other"] (defScope s_Filter__or) := ⟨rfl, rfl, rfl, by decide +kernel, rfl, by decide +kernel, by decide +kernel⟩
def sp_for (D : Addr) : Sp := fun vs H Q _ => ∃ a b l r, vs = [.ref a, .ref b] ∧ Fil D H a l ∧ Fil D H b r ∧ l.many + r.many < 64 ∧ NewF D H Q (.ou l r)
theorem ok_for {f fA : Addr} {fd fdI fdA : FuncData} (F : Fun K "__or__" "Filter.__or__" s_Filter__or f fd) (FI : Fun K "__init__" "Filter.__init__" s_Filter__init fJ fdI) (B_init : Binds K fdI ["self", "tree", "columns"] []) (T : ClsF K mg D fJ)
    (F_all_columns : Fun K "all_columns" "all_columns" s_all_columns fA fdA) (B_all_columns : Binds K fdA ["one", "other"] []) (g_all_columns : mg "all_columns" = some (.ref fA)) (G_all_columns : FnOk P w K mg base CX0 1 fA fdA ["one", "other"] sp_all_columns) :
    FnOk P w K mg base CX0 3 f fd ["self", "other"] (sp_for D) := by
  have RI : FnR P w K mg base CX0 1 fJ (spJ D) := FnOk.raw (ok_finit FI T) B_init .nil
  have M := T.M
  have g_CF := T.g_CF
  refine F.ok sc_Filter__or (fun vs H Q E h => ?_) (fun cdv A outer s H vs Q E hr h => ?_)
  · obtain ⟨a, b, l, r, rfl, _⟩ := h
    rfl
  · obtain ⟨a, b, l, r, rfl, ⟨dx, v, p, cs, ha, ta, hp, oa⟩, ⟨dy, u, q, ds, hb, tb, hq, ob⟩, hz, k⟩ := h
    refine ⟨_, (pss_one (ps_ret (StX.pe_makeR M RI (hr.mono (by decide)) rfl g_CF pass0 (pa_cons (pe_tup (pa_cons pe_str (pa_cons (pe_fld (pv 0) rfl) (pa_cons (pe_fld (pv 1) rfl) pa_nil)))) (pa_cons (pe_call G_all_columns (hr.mono (by decide)) rfl g_all_columns F_all_columns.kp B_all_columns .nil pass0 (pa_cons (pe_fld (pv 0) rfl) (pa_cons (pe_fld (pv 1) rfl) pa_nil))) pa_nil))))), ?_⟩
    unfold StX.tMakeR
    walk_at "rd"
    refine ⟨_, rfl, a, D, dx, _, _, rfl, ha, T.cl, T.nT, lk_tree, ?_⟩
    walk_at "rd"
    refine ⟨_, rfl, b, D, dy, _, _, rfl, hb, T.cl, T.nT, lk_tree, ?_⟩
    walk_at "rd"
    refine ⟨size_of (Nat.le_of_ble_eq_true rfl), fun t h0 => ?_⟩
    obtain ⟨H1, e1, s1, h1⟩ := new_heap (o := .tup [.str "or", v, u]) h0
    rw [e1]
    walk_at "rd"
    refine ⟨_, rfl, a, D, dx, _, _, rfl, s1 _ _ ha, T.cl, T.nC, lk_columns, ?_⟩
    walk_at "rd"
    refine ⟨_, rfl, b, D, dy, _, _, rfl, s1 _ _ hb, T.cl, T.nC, lk_columns, ?_⟩
    walk_at "rd"
    refine ⟨p, q, cs, ds, rfl, s1 _ _ hp, s1 _ _ hq, by have := oa.len; have := ob.len; omega, fun m H2 es s2 h2 oe => ?_⟩
    walk_at "rd"
    have tr : TreeAt H2 (.ou l r) (.ref t) := ⟨t, v, u, rfl, s2 _ _ h1, (ta.up s1).up s2, (tb.up s1).up s2⟩
    refine mk_fil (cs := es) tr h2 ⟨oe.up, oe.nd, fun c => ?_, ?_⟩ fun x H' s3 hf => k x H' (fun b o z => s3 _ _ (s2 _ _ (s1 _ _ z))) hf
    · rw [oe.mem, oa.mem, ob.mem]
      exact List.mem_append.symm
    · have := oe.len
      have := oa.len
      have := ob.len
      simp only [Tr.many]
      omega
abbrev s_Filter__invert : Stmt := inClass (top 14) 7
theorem sc_Filter__invert : FnScope ["self"] ["self"] (defScope s_Filter__invert) := ⟨rfl, rfl, rfl, by decide +kernel, rfl, by decide +kernel, by decide +kernel⟩
def sp_finv (D : Addr) : Sp := fun vs H Q _ => ∃ a t, vs = [.ref a] ∧ Fil D H a t ∧ NewF D H Q (.no t)
theorem ok_finv {f : Addr} {fd fdI : FuncData} (F : Fun K "__invert__" "Filter.__invert__" s_Filter__invert f fd) (FI : Fun K "__init__" "Filter.__init__" s_Filter__init fJ fdI) (B_init : Binds K fdI ["self", "tree", "columns"] []) (T : ClsF K mg D fJ) :
    FnOk P w K mg base CX0 3 f fd ["self"] (sp_finv D) := by
  have RI : FnR P w K mg base CX0 1 fJ (spJ D) := FnOk.raw (ok_finit FI T) B_init .nil
  have M := T.M
  have g_CF := T.g_CF
  refine F.ok sc_Filter__invert (fun vs H Q E h => ?_) (fun cdv A outer s H vs Q E hr h => ?_)
  · obtain ⟨a, t, rfl, _⟩ := h
    rfl
  · obtain ⟨a, t, rfl, ⟨dx, v, p, cs, ha, ta, hp, oa⟩, k⟩ := h
    refine ⟨_, (pss_one (ps_ret (StX.pe_makeR M RI (hr.mono (by decide)) rfl g_CF pass0 (pa_cons (pe_tup (pa_cons pe_str (pa_cons (pe_fld (pv 0) rfl) pa_nil))) (pa_cons (pe_fld (pv 0) rfl) pa_nil))))), ?_⟩
    unfold StX.tMakeR
    walk_at "rd"
    refine ⟨_, rfl, a, D, dx, _, _, rfl, ha, T.cl, T.nT, lk_tree, ?_⟩
    walk_at "rd"
    refine ⟨size_of (Nat.le_of_ble_eq_true rfl), fun q h0 => ?_⟩
    obtain ⟨H1, e1, s1, h1⟩ := new_heap (o := .tup [.str "not", v]) h0
    rw [e1]
    walk_at "rd"
    refine ⟨_, rfl, a, D, dx, _, _, rfl, s1 _ _ ha, T.cl, T.nC, lk_columns, ?_⟩
    walk_at "rd"
    have tr : TreeAt H1 (.no t) (.ref q) := ⟨q, v, rfl, h1, ta.up s1⟩
    exact mk_fil (cs := cs) tr (s1 _ _ hp) oa fun x H' s3 hf => k x H' (fun b o z => s3 _ _ (s1 _ _ z)) hf
end
end Spk.Fi

set_option Elab.async false
set_option linter.all false
set_option maxRecDepth 100000
set_option maxHeartbeats 1000000
namespace Spk
open PySem PySem.Spec PyProof.Rows PySem.W L2
/-! ## sorted(l), l a list of tuples of integers -/
/-- a key as data -/
abbrev tupD (ns : List Int) : PyData := .tuple (ns.map PyData.int)
/-- the keys in their order -/
def sortN (nss : List (List Int)) : List (List Int) := nss.mergeSort (dataLe false tupD)
theorem sortN_perm (nss : List (List Int)) : (sortN nss).Perm nss := List.mergeSort_perm ..
/-- the tuples that stand at these places -/
abbrev TupsN (H : Hp) (bs : List Addr) (nss : List (List Int)) : Prop := Paired (fun b ns => H b = some (.tup (ns.map V.int))) bs nss
def rSortN (K : Frag) : List V → Hp → VK → Prop := fun vs H Q => ∃ (l : Addr) (bs : List Addr) (nss : List (List Int)), vs = [.ref l] ∧ SqL K H l (bs.map V.ref) ∧ TupsN H bs nss ∧ (∀ ns, ns ∈ nss → ns ≠ []) ∧
  ∀ p bs', H p = none → TupsN H bs' (sortN nss) → Q (.ref p) (upd H p (.lst (bs'.map V.ref)))
theorem dpsN {K : Frag} {H : Hp} : ∀ ns : List Int, DpAll K H (ns.map V.int) (ns.map PyData.int)
  | [] => .nil
  | n :: ns => .cons (.int n) (dpsN ns)
theorem depN : ∀ ns : List Int, PyData.depthAll (ns.map PyData.int) ≤ 1
  | [] => by simp [PyData.depthAll]
  | n :: ns => by
    have := depN ns
    simp only [List.map_cons, PyData.depthAll, PyData.depth]
    omega
theorem backN {H : Hp} : ∀ {out : List Value} {nss : List (List Int)}, EachIs (fun v ns => ∃ b, v = Value.ref b ∧ H b = some (.tup (ns.map V.int))) out nss → ∃ bs : List Addr, out = bs.map Value.ref ∧ TupsN H bs nss := by
  intro out nss h
  induction h with
  | nil => exact ⟨[], rfl, .nil⟩
  | cons r _ ih =>
    obtain ⟨b, rfl, hb⟩ := r
    obtain ⟨bs, rfl, t⟩ := ih
    exact ⟨b :: bs, rfl, .cons hb t⟩
theorem eachN {R : Value → List Int → Prop} {H : Hp} (f : ∀ b ns, H b = some (.tup (ns.map V.int)) → R (.ref b) ns) : ∀ {bs : List Addr} {nss : List (List Int)}, TupsN H bs nss → EachIs R (bs.map Value.ref) nss
  | _, _, .nil => .nil
  | _, _, .cons r t => .cons (f _ _ r) (eachN f t)
section
variable {X : Cx}
theorem cr_sortN (hu : X.A.units + 8 < cLine) : CallR X (.builtin "sorted") (rSortN X.K) := by
  intro pins s σ H vs us Q I r h
  obtain ⟨l, bs, nss, rfl, hl, pb, hz, q⟩ := h
  obtain ⟨its, rv, il, z⟩ := I.list hl
  rw [Vals.ref1 r]
  have e := refs_at rv
  subst e
  have hlen : bs.length = nss.length := Paired.length pb
  rw [List.length_map] at z
  refine sorted_data (R := fun v ns => ∃ b, v = Value.ref b ∧ H b = some (.tup (ns.map V.int))) (enc := tupD) (bs := nss) il.isList (eachN (fun b ns hb => ⟨b, rfl, hb⟩) pb)
    (eachN (fun b ns hb => Dp.reads I (tupD ns) (.ref b) (.ref b) (.tup (SqT.of hb) (dpsN ns)) rfl) pb) (AllAlike.of fun a b => alike_ints a b) (.inl fun d hd => ?_) (by omega) (fun ns hn => ?_) fun out ho eo => ?_
  · obtain ⟨ns, hn, rfl⟩ := List.mem_map.mp hd
    cases ns with
    | nil => exact absurd rfl (hz _ hn)
    | cons n ns => exact ⟨.int n, ns.map PyData.int, rfl⟩
  · have := depN ns
    simp only [tupD, PyData.depth]
    omega
  · obtain ⟨bs', rfl, t⟩ := backN eo
    obtain ⟨ep, he'⟩ := PyProof.Rows.sortedAll_at s.heap (bs.map Value.ref) (List.toArray (bs'.map Value.ref))
    have zl : (bs'.map V.ref).length ≤ sizeLine := by
      rw [List.length_map] at ho ⊢
      omega
    exact ⟨.ref _, upd H (s.heap.objs.size + 1) (.lst (bs'.map V.ref)), I.laid (t' := s.toks) (fun _ _ => PyProof.Rows.sortedAll_old) (Nat.le_succ _) ⟨zl, bs'.map Value.ref, ep, vals_refs bs', he'⟩, rfl, q _ bs' (I.hok.fresh (Nat.le_succ _)) t⟩
end
end Spk

set_option Elab.async false
set_option linter.all false
set_option maxRecDepth 100000
set_option maxHeartbeats 1000000
namespace Spk
open PySem PySem.Spec PyProof.Rows PySem.W L2
/-! ## dicts whose keys are tuples: del d[k], d.pop(k), d != {} -/
section
variable {K : Type} [DecidableEq K]
theorem kt_out {H : Hp} (k : List L2.Key) {kvs : List (List L2.Key × V)} {xs : List (List L2.Key × Addr × Value)} (r : KT H kvs xs) : KT H (dropK kvs k) (withoutH xs k) := by
  induction r with
  | nil => exact .nil
  | @cons p q kvs xs h t ih =>
    by_cases e : p.1 = k
    · have e2 : q.1 = k := h.1.symm.trans e
      have z1 : dropK (p :: kvs) k = dropK kvs k := List.filter_cons_of_neg (by simp [e])
      have z2 : withoutH (q :: xs) k = withoutH xs k := List.filter_cons_of_neg (by simp [e2])
      rw [z1, z2]
      exact ih
    · have e2 : ¬ q.1 = k := fun z => e (h.1.trans z)
      have z1 : dropK (p :: kvs) k = p :: dropK kvs k := List.filter_cons_of_pos (by simp [e])
      have z2 : withoutH (q :: xs) k = q :: withoutH xs k := List.filter_cons_of_pos (by simp [e2])
      rw [z1, z2]
      exact .cons h ih
end
section
variable {X : Cx} {pins : List (Addr × Obj)} {σ : L2.St} {H : Hp} {s : Shared} {a : Addr}
theorem dt_take {kvs : List (List L2.Key × V)} {k : List L2.Key} {xs : List (List L2.Key × Addr × Value)} {h' : Heap} {tk : Nat} (I : Inv X pins σ H s) (ha : H a = some (.dT kvs)) (z : kvs.length ≤ sizeLine) (hd : (a == sysModules) = false) (rel : KT H kvs xs)
    (dd' : h'.DictOfH (tupleKind (mixKind X.prog X.w)) a (withoutH xs k)) (hs : Heap.SameBut a s.heap h') : Inv X pins σ (upd H a (.dT (dropK kvs k))) { s with heap := h', toks := tk } := by
  obtain ⟨o, es, ep, hq, h2, h3, h4, _, h5⟩ := dd'
  exact d_write I (by rw [ha]; exact True.intro) hs ⟨o, hq⟩ ⟨Nat.le_trans (dropK_le kvs k) z, hd, _, (kt_out k rel).keeps (fun c ys ec => (by rw [upd_ne (ne_of ec ha (fun z => nomatch z))]; exact ec)), o, es, ep, hq, h2, h3, h4, h5⟩
theorem dt_there {kvs : List (List L2.Key × V)} {k : List L2.Key} {xs : List (List L2.Key × Addr × Value)} (rel : KT H kvs xs) (l : (valV kvs k).isSome = true) : ∃ v p, valV kvs k = some v ∧ atKey xs k = some p ∧ RelV v p.2 := by
  have r := rel.val k
  cases ev : valV kvs k with
  | none =>
    rw [ev] at l
    cases l
  | some v =>
    rw [ev] at r
    cases ep : atKey xs k with
    | none =>
      rw [ep] at r
      exact r.elim
    | some p =>
      rw [ep] at r
      exact ⟨v, p, rfl, rfl, r⟩
end
section
variable {X : Cx} {o i : Expr} {td ty : TE} {tpos pos : Pos}
/-- del d[k] -/
def sDDelT (td ty : TE) : TS := fun D σ H => td σ H fun x H1 => ty σ H1 fun y H2 => ∃ a kvs k b, x = .ref a ∧ H2 a = some (.dT kvs) ∧ y = .ref b ∧ H2 b = some (.tup (k.map kV)) ∧ (valV kvs k).isSome = true ∧ D.nx σ (upd H2 a (.dT (dropK kvs k)))
theorem ps_ddelT (hu : X.A.units + 1 < cLine) (ho : PE X o td) (hi : PE X i ty) : PS X (.Delete [.Subscript o i tpos] pos) (sDDelT td ty) := by
  refine ⟨fun pins s σ H D I h => ?_⟩
  refine wpAny_Delete (wpAny_deleteEach_cons (wpAny_delete_Subscript (thn (ho.run pins s σ H _ I h) fun u s1 ⟨x, H1, I1, rx, q1⟩ => thn (hi.run pins s1 σ H1 _ I1 q1) fun iv s2 ⟨y, H2, I2, ry, a, kvs, k, b, ex, e, ey, eb, l, q2⟩ => ?_)))
  subst ex ey
  obtain rfl : u = Value.ref a := rx
  obtain rfl : iv = Value.ref b := ry
  obtain ⟨z, hd, xs, rel, dd⟩ := dt_of I2.hok e
  obtain ⟨v, p, _, hp, _⟩ := dt_there rel l
  exact wpAny_delItem_heap (hsz := by rw [← Paired.length rel]; exact z) (tupleKind_room_in1 hu) (key_of I2.hok eb) hd dd hp fun h' dd' hs => wpAny_deleteEach_nil ⟨σ, _, dt_take I2 e z hd rel dd' hs, q2⟩
/-- d.pop(k) -/
def rPopT1 : V → List V → Hp → VK → Prop := fun x xs H Q => ∃ (a : Addr) (kvs : List (List L2.Key × V)) (k : List L2.Key) (b : Addr) (v : V), x = .ref a ∧ xs = [.ref b] ∧ H a = some (.dT kvs) ∧ H b = some (.tup (k.map kV)) ∧
  valV kvs k = some v ∧ Q v (upd H a (.dT (dropK kvs k)))
theorem mt_popT1 (hu : X.A.units + 1 < cLine) : MtR X "dict.pop" rPopT1 := by
  intro pins s σ H x xs v us Q I rx rxs h
  obtain ⟨a, kvs, k, b, v0, rfl, rfl, ha, hb, ev, q⟩ := h
  cases rx
  obtain ⟨u1, rfl, r1⟩ := vals1 rxs
  cases r1
  obtain ⟨z, hd, xs', rel, dd⟩ := dt_of I.hok ha
  obtain ⟨v1, p, ev1, hp, rv⟩ := dt_there rel (by rw [ev]; rfl)
  rw [ev] at ev1
  cases ev1
  exact call_pop_heap (hsz := by rw [← Paired.length rel]; exact z) (.inl rfl) (PySem.F.args_dict_pop_2 _ _) (tupleKind_room_in1 hu) (key_of I.hok hb) hd dd hp fun h' dd' hs => ⟨v0, _, dt_take I ha z hd rel dd' hs, rv, q⟩
/-- d != {} -/
def rNeDT0 : R2 := fun x y H Q => ∃ (a b : Addr) (kvs : List (List L2.Key × V)), x = .ref a ∧ y = .ref b ∧ H a = some (.dT kvs) ∧ H b = some (.dT []) ∧ Q (.bl (!kvs.isEmpty)) H
theorem pairs0 {prog : Program} {w : World} {A : Around} {E : Value → Shared → Prop} {s : Shared} {nm : String} {a b : Addr} {oa ob : Obj} {es es' : Array DictEntry} {ep ep' : Nat} {Q : Bool → Shared → Prop} (ha : (a == sysModules) = false) (hb : (b == sysModules) = false)
    (hoa : s.heap.get? a = some oa) (hda : oa.data = .dict es ep) (hob : s.heap.get? b = some ob) (hdb : ob.data = .dict es' ep') (h0 : es'.size = 0) (h : Q es.isEmpty s) :
    wpAny (model prog w) A (Builtin.Dict.samePairs nm a b) Q E s := by
  unfold Builtin.Dict.samePairs Builtin.Dict.showsAll
  rw [if_neg (show ¬ (a == sysModules) = true by rw [ha]; exact Bool.false_ne_true), if_neg (show ¬ (b == sysModules) = true by rw [hb]; exact Bool.false_ne_true)]
  refine wpAny_bind (wpAny_pure (wpAny_bind (wpAny_pure ?_)))
  refine wpAny_bind (wpAny_dictEntries hoa hda ?_)
  dsimp only
  refine wpAny_bind (wpAny_dictEntries hob hdb ?_)
  by_cases hsz : es.size = es'.size
  · have h1 : es.size = 0 := by omega
    have hE : es.isEmpty = true := by simpa using h1
    rw [hE] at h
    rw [if_neg (by rw [hsz]; simp)]
    refine wpAny_bind (wpAny_dictEpoch hoa hda ?_)
    refine wpAny_bind ?_
    rw [Std.Legacy.Range.forIn_eq_forIn_range']
    simp only [Std.Legacy.Range.size, Nat.sub_zero, Nat.add_sub_cancel, Nat.div_one, h1, List.range'_zero, List.forIn_nil]
    exact wpAny_pure (wpAny_pure h)
  · rw [if_pos (by simpa using hsz)]
    have hE : es.isEmpty = false := by
      rw [Bool.eq_false_iff]
      intro q
      have : es.size = 0 := by simpa using q
      omega
    rw [hE] at h
    exact wpAny_bind (wpAny_rule (wpAny_pure h))
theorem op_neDT0 (hu : X.A.units < cLine) : OpR X (compareOp .NotEq) rNeDT0 := by
  intro pins s σ H x y v u Q I rx ry h
  obtain ⟨a, b, kvs, rfl, rfl, ha, hb, q⟩ := h
  cases rx
  cases ry
  obtain ⟨z, hd, xs, rel, dd⟩ := dt_of I.hok ha
  obtain ⟨z', hd', xs', rel', dd'⟩ := dt_of I.hok hb
  have ta := dd.typeIs
  have tb := dd'.typeIs
  obtain ⟨oa, es, ep, hoa, _, hda, he, _⟩ := dd
  obtain ⟨ob, es', ep', hob, _, hdb, he', _⟩ := dd'
  have l1 : es.size = xs.length := size_of_entries he
  have l2 : es'.size = xs'.length := size_of_entries he'
  have k1 : kvs.length = xs.length := Paired.length rel
  have k2 : ([] : List (List L2.Key × V)).length = xs'.length := Paired.length rel'
  have e0 : es.isEmpty = kvs.isEmpty := by
    rw [Bool.eq_iff_iff]
    simp only [List.isEmpty_iff, Array.isEmpty_iff_size_eq_zero]
    rw [← List.length_eq_zero_iff]
    omega
  refine wpAny_richCompare_same_room (op := .NotEq) ta tb PySem.F.slot_dict_ne (wpAny_call_entry PySem.F.slot_dict_ne ta PySem.F.entry_dict_ne ?_ (PySem.F.args_dict_ne_2 _ _)) hu
  show wpAny _ _ (Builtin.Dict.dictSlotArgs "__ne__" ⟨[.ref a, .ref b], []⟩ >>= _) _ _ s
  refine wpAny_bind ?_
  unfold Builtin.Dict.dictSlotArgs
  refine wpAny_bind (wpAny_notOrdered_dict ta ?_)
  show wpAny _ _ (pure (Value.ref a, Value.ref b)) _ _ s
  refine wpAny_pure ?_
  refine wpAny_bind (wpAny_isInstance (T := "dict") tb PySem.F.sub_dict_dict ?_)
  simp only [Bool.not_true, Bool.false_eq_true, if_false]
  refine wpAny_bind (wpAny_pure (wpAny_bind (wpAny_pure ?_)))
  refine wpAny_bind (pairs0 hd hd' hoa hda hob hdb (by rw [l2]; exact k2.symm) ?_)
  refine wpAny_pure ⟨_, rfl, (fun x => nomatch x), ?_⟩
  refine ⟨_, _, I, ?_, q⟩
  rw [e0]
  cases kvs <;> rfl
end
end Spk

set_option Elab.async false
set_option linter.all false
set_option maxRecDepth 100000
set_option maxHeartbeats 2000000
namespace Spk
open PySem PySem.Spec PyProof.Rows L2
/-! ## dict(zip(t, u)) of two tuples: the pairs stay with the zip while the dict is filled -/
section
variable {prog : Program} {w : World} {A : Around} {E : Value → Shared → Prop} {s : Shared} {z TI TO T i1 i2 : Addr} {fp1 fp2 : List Addr} {n1 n2 i : Nat} {P1 P2 : Nat → Value → Prop} {St1 St2 : Nat → Heap → Prop} {f : Bool} {oT : Obj}
/-- the next pair, while the last one is still held -/
theorem held_pair {Q : Value → Shared → Prop} (S : ZipSep2 z TI TO i1 i2 fp1 fp2) (D1 : Draws prog w A i1 fp1 n1 P1 St1) (D2 : Draws prog w A i2 fp2 n2 P2 St2) (hz : IsZipHeld s.heap z TI TO T f) (hT : s.heap.get? T = some oT) (hTI : IsTupOf2 s.heap TI (.ref i1) (.ref i2))
    (st1 : St1 i s.heap) (st2 : St2 i s.heap) (l1 : i < n1) (l2 : i < n2)
    (hQ : ∀ x y h' tk, P1 i x → P2 i y → IsZipHeld h' z TI TO T true → St1 (i + 1) h' → St2 (i + 1) h' → IsTupOf2 h' s.heap.objs.size x y → h'.objs.size = s.heap.objs.size + 1 → (∀ c o, c ≠ z → c ≠ i1 → c ≠ i2 → s.heap.get? c = some o → h'.get? c = some o) →
      Q (.ref s.heap.objs.size) { s with heap := h', toks := tk }) : wpAny (model prog w) A (Builtin.«zip.__next__» ⟨[.ref z], []⟩) (fun fin s' => ∃ v, fin = .done (.ret v) ∧ Q v s') E s := by
  obtain ⟨hp, gn, dr, t0, os⟩ := s
  show wpAny _ _ (field (.ref z) 2 >>= _) _ _ _
  refine wpAny_bind (wpAny_field hz rfl (x := .bool false) rfl ?_)
  show wpAny _ _ (field (.ref z) 3 >>= _) _ _ _
  refine wpAny_bind (wpAny_field hz rfl (x := .ref TI) rfl (wpAny_bind (wpAny_seqItems hTI rfl ?_)))
  show wpAny _ _ (Builtin.SmallTypes.ownedTupleIsFree (.ref z) >>= _) _ _ _
  refine wpAny_bind (wpAny_tupleHeld_zip hz hT fun g0 hz0 b0 => ?_)
  replace b0 : Heap.SameBut z hp g0 := b0
  simp only [Bool.false_eq_true, if_false]
  refine wpAny_bind ?_
  rw [← Array.forIn_toList]
  simp only [List.forIn_cons, List.forIn_nil]
  refine wpAny_bind (wpAny_bind (wpAny_holding ?_))
  show wpAny _ _ (Builtin.SmallTypes.nextOf (.ref i1) >>= _) _ _ ⟨g0, gn, dr, t0, os⟩
  refine wpAny_bind (D1.item i _ _ _ l1 (D1.over st1 b0 S.zf1) fun x g1 t1 p1 q1 b1 => wpAny_pure (wpAny_pure (wpAny_bind (wpAny_bind (wpAny_holding ?_)))))
  replace b1 : Heap.SameBut i1 g0 g1 := b1
  show wpAny _ _ (Builtin.SmallTypes.nextOf (.ref i2) >>= _) _ _ ⟨g1, gn, dr, t1, os⟩
  refine wpAny_bind (D2.item i _ _ _ l2 (D2.over (D2.over st2 b0 S.zf2) b1 S.sep1_2) fun y g2 t2 p2 q2 b2 => wpAny_pure (wpAny_pure (wpAny_pure ?_)))
  replace b2 : Heap.SameBut i2 g1 g2 := b2
  show wpAny _ _ (newTuple [x, y] >>= _) _ _ ⟨g2, gn, dr, t2, os⟩
  refine wpAny_bind (wpAny_newTuple (wpAny_pure ⟨_, rfl, ?_⟩))
  show Q (.ref g2.objs.size) ⟨g2.push { cls := .type "tuple", data := .seq #[x, y] }, gn, dr, t2, os⟩
  have hsz : g2.objs.size = hp.objs.size := by rw [b2.1, b1.1, b0.1]
  have hold : ∀ c o, c ≠ z → c ≠ i1 → c ≠ i2 → hp.get? c = some o → g2.get? c = some o := fun c o c1 c2 c3 e => b2.extBut _ _ c3 (b1.extBut _ _ c2 (b0.extBut _ _ c1 e))
  have hz2 : IsZipHeld g2 z TI TO T true := b2.extBut _ _ S.zi2 (b1.extBut _ _ S.zi1 hz0)
  have ps : ∀ {c o}, g2.get? c = some o → (g2.push { cls := .type "tuple", data := .seq #[x, y] }).get? c = some o := fun e => Heap.get?_push_of_some _ e
  have hpair : IsTupOf2 (g2.push { cls := .type "tuple", data := .seq #[x, y] }) g2.objs.size x y := Heap.get?_push_size _ rfl
  have hz3 : (g2.push { cls := .type "tuple", data := .seq #[x, y] }).objs.size = g2.objs.size + 1 := Heap.size_push ..
  rw [hsz] at hpair hz3 ⊢
  exact hQ x y _ t2 p1 p2 (ps hz2) (D1.frame _ _ _ (D1.over q1 b2 S.sep2_1) fun b _ o e => ps e) (D2.frame _ _ _ q2 fun b _ o e => ps e) hpair hz3 fun c o c1 c2 c3 e => ps (hold c o c1 c2 c3 e)
/-- no pair is left, while the last one is still held -/
theorem held_over {n : Nat} {Q : Fin → Shared → Prop} (S : ZipSep2 z TI TO i1 i2 fp1 fp2) (D1 : Draws prog w A i1 fp1 n P1 St1) (hz : IsZipHeld s.heap z TI TO T f) (hT : s.heap.get? T = some oT) (hTI : IsTupOf2 s.heap TI (.ref i1) (.ref i2)) (st1 : St1 n s.heap)
    (hE : ∀ h' e, (∀ c o, c ≠ z → c ≠ i1 → c ≠ i2 → s.heap.get? c = some o → h'.get? c = some o) → (∃ o, h'.get? e = some o ∧ o.cls = .type "StopIteration") → E (.ref e) { s with heap := h' }) : wpAny (model prog w) A (Builtin.«zip.__next__» ⟨[.ref z], []⟩) Q E s := by
  obtain ⟨hp, gn, dr, t0, os⟩ := s
  show wpAny _ _ (field (.ref z) 2 >>= _) _ _ _
  refine wpAny_bind (wpAny_field hz rfl (x := .bool false) rfl ?_)
  show wpAny _ _ (field (.ref z) 3 >>= _) _ _ _
  refine wpAny_bind (wpAny_field hz rfl (x := .ref TI) rfl (wpAny_bind (wpAny_seqItems hTI rfl ?_)))
  show wpAny _ _ (Builtin.SmallTypes.ownedTupleIsFree (.ref z) >>= _) _ _ _
  refine wpAny_bind (wpAny_tupleHeld_zip hz hT fun g0 hz0 b0 => ?_)
  replace b0 : Heap.SameBut z hp g0 := b0
  simp only [Bool.false_eq_true, if_false]
  refine wpAny_bind ?_
  rw [← Array.forIn_toList]
  simp only [List.forIn_cons, List.forIn_nil]
  refine wpAny_bind (wpAny_bind (wpAny_holding ?_))
  show wpAny _ _ (Builtin.SmallTypes.nextOf (.ref i1) >>= _) _ _ ⟨g0, gn, dr, t0, os⟩
  exact wpAny_bind (D1.done _ _ _ (D1.over st1 b0 S.zf1) fun g1 e b1 he => hE g1 e (fun c o c1 c2 _ x => b1 _ _ c2 (b0.extBut _ _ c1 x)) he)
theorem next_pair {Q : Option Value → Shared → Prop} (S : ZipSep2 z TI TO i1 i2 fp1 fp2) (D1 : Draws prog w A.in1 i1 fp1 n1 P1 St1) (D2 : Draws prog w A.in1 i2 fp2 n2 P2 St2) (hz : IsZipHeld s.heap z TI TO T f) (hT : s.heap.get? T = some oT) (hTI : IsTupOf2 s.heap TI (.ref i1) (.ref i2))
    (st1 : St1 i s.heap) (st2 : St2 i s.heap) (l1 : i < n1) (l2 : i < n2)
    (hQ : ∀ x y h' tk, P1 i x → P2 i y → IsZipHeld h' z TI TO T true → St1 (i + 1) h' → St2 (i + 1) h' → IsTupOf2 h' s.heap.objs.size x y → h'.objs.size = s.heap.objs.size + 1 → (∀ c o, c ≠ z → c ≠ i1 → c ≠ i2 → s.heap.get? c = some o → h'.get? c = some o) →
      Q (some (.ref s.heap.objs.size)) { s with heap := h', toks := tk }) : wpAny (model prog w) A (pyNext (.ref z)) Q E s := by
  have ty : s.TypeIs (.ref z) "zip" := ⟨_, hz, rfl⟩
  unfold pyNext
  exact wpAny_bind (wpAny_attempt (wpAny_callSpecial?_slot (name := Str.ofString "__next__") ty F.slot_zip_next (wpAny_call_entry F.slot_zip_next ty F.entry_zip_next
    (held_pair S D1 D2 hz hT hTI st1 st2 l1 l2 fun x y h' tk a1 a2 a3 a4 a5 a6 a7 a8 => wpAny_pure (hQ x y h' tk a1 a2 a3 a4 a5 a6 a7 a8)) (F.args_zip_next_1 _))))
theorem next_over {n : Nat} {Q : Option Value → Shared → Prop} (S : ZipSep2 z TI TO i1 i2 fp1 fp2) (D1 : Draws prog w A.in1 i1 fp1 n P1 St1) (hz : IsZipHeld s.heap z TI TO T f) (hT : s.heap.get? T = some oT) (hTI : IsTupOf2 s.heap TI (.ref i1) (.ref i2)) (st1 : St1 n s.heap)
    (hQ : ∀ h', (∀ c o, c ≠ z → c ≠ i1 → c ≠ i2 → s.heap.get? c = some o → h'.get? c = some o) → Q none { s with heap := h' }) : wpAny (model prog w) A (pyNext (.ref z)) Q E s := by
  have ty : s.TypeIs (.ref z) "zip" := ⟨_, hz, rfl⟩
  unfold pyNext
  refine wpAny_bind (wpAny_attempt (wpAny_callSpecial?_slot (name := Str.ofString "__next__") ty F.slot_zip_next (wpAny_call_entry F.slot_zip_next ty F.entry_zip_next (held_over S D1 hz hT hTI st1 fun h' e hk he => ?_) (F.args_zip_next_1 _))))
  obtain ⟨o, ho, hc⟩ := he
  exact wpAny_bind (wpAny_isInstance (T := "StopIteration") (b := true) ⟨o, ho, hc⟩ isSubtype_stop (wpAny_pure (hQ _ hk)))
end
/-- zip(t, u) over two tuples of one length, as what dict() is filled from -/
theorem pairs_zipT {prog : Program} {w : World} (z TI TO i1 i2 a b : Addr) (n1 : a ≠ i1) (n2 : b ≠ i2) (S : ZipSep2 z TI TO i1 i2 [i1, a] [i2, b]) (az : a ≠ z) (aT : a ≠ TO) (a2 : a ≠ i2) (bz : b ≠ z) (bT : b ≠ TO) (b1 : b ≠ i1) (xs ys : Array Value) (hxy : xs.size = ys.size) :
    PairArg prog w "zip" z [z, TI, TO, i1, i2, a, b] [z, TO, i1, i2] xs.size (fun i k v => xs[i]? = some k ∧ ys[i]? = some v)
      (fun h => IsZip h z TI TO .none ∧ IsTupOf2 h TI (.ref i1) (.ref i2) ∧ (∃ x y, IsTupOf2 h TO x y) ∧ h.IsTupleIter i1 a 0 ∧ h.IsTupleIter i2 b 0 ∧ h.IsTuple a xs ∧ h.IsTuple b ys) where
  type := fun s ok => ⟨_, ok.1, rfl⟩
  notDict := by decide
  keep := fun h h' ok hk => by
    obtain ⟨hz, hTI, ⟨x, y, hTO⟩, h1, h2, ha, hb⟩ := ok
    exact ⟨hk _ _ hz, hk _ _ hTI, ⟨x, y, hk _ _ hTO⟩, h1.at fun o e => hk _ o e, h2.at fun o e => hk _ o e, ha.at fun o e => hk _ o e, hb.at fun o e => hk _ o e⟩
  there := fun h ok c hc => by
    obtain ⟨hz, hTI, ⟨x, y, hTO⟩, ⟨o1, h1, _⟩, ⟨o2, h2, _⟩, ⟨o3, h3, _⟩, ⟨o4, h4, _⟩⟩ := ok
    simp only [List.mem_cons, List.not_mem_nil, or_false] at hc
    rcases hc with rfl | rfl | rfl | rfl | rfl | rfl | rfl
    · exact ⟨_, hz⟩
    · exact ⟨_, hTI⟩
    · exact ⟨_, hTO⟩
    · exact ⟨_, h1⟩
    · exact ⟨_, h2⟩
    · exact ⟨_, h3⟩
    · exact ⟨_, h4⟩
  sub := fun c hc => by
    simp only [List.mem_cons, List.not_mem_nil, or_false] at hc ⊢
    rcases hc with rfl | rfl | rfl | rfl <;> simp
  noKeys := fun A s Q E hA ok h => getAttrOr_miss_zip ok.1 rfl rfl rfl zip_no_keys (by decide +kernel) hA h
  iter := fun A s d Q E hA ok hd hdf h => by
    obtain ⟨hz, hTI, ⟨x0, y0, hTO⟩, h1, h2, ha, hb⟩ := ok
    simp only [List.mem_cons, List.not_mem_nil, or_false, not_or] at hdf
    obtain ⟨dz, dTI, dTO, di1, di2, da, db⟩ := hdf
    have D1 := Draws.tuple (prog := prog) (w := w) (A := A.in1) hA i1 a n1 xs
    have D2 := Draws.tuple (prog := prog) (w := w) (A := A.in1) hA i2 b n2 ys
    refine wpAny_pyIter_zip hz (h z [z, TO, i1, i2] (fun i h => IsTupOf2 h TI (.ref i1) (.ref i2) ∧ (h.IsTupleIter i1 a i ∧ h.IsTuple a xs) ∧ (h.IsTupleIter i2 b i ∧ h.IsTuple b ys) ∧
      ((IsZip h z TI TO .none ∧ ∃ x y, IsTupOf2 h TO x y) ∨ ∃ T f oT, IsZipHeld h z TI TO T f ∧ h.get? T = some oT ∧ T ≠ z ∧ T ≠ i1 ∧ T ≠ i2 ∧ T ≠ d)) s.heap s.toks ?_
      ⟨hTI, ⟨h1, ha⟩, ⟨h2, hb⟩, .inl ⟨hz, x0, y0, hTO⟩⟩ (fun _ _ e => e) fun c hc => .inl hc)
    exact {
      off := fun hm => by
        simp only [List.mem_cons, List.not_mem_nil, or_false] at hm
        rcases hm with e | e | e | e
        · exact dz e
        · exact dTO e
        · exact di1 e
        · exact di2 e
      frame := fun i g g' st hk => by
        obtain ⟨gTI, ⟨g1, ga⟩, ⟨g2, gb⟩, gz⟩ := st
        refine ⟨hk _ _ (Ne.symm dTI) gTI, ⟨g1.at fun o e => hk _ o (Ne.symm di1) e, ga.at fun o e => hk _ o (Ne.symm da) e⟩, ⟨g2.at fun o e => hk _ o (Ne.symm di2) e, gb.at fun o e => hk _ o (Ne.symm db) e⟩, ?_⟩
        rcases gz with ⟨gz, x, y, gTO⟩ | ⟨T, f, oT, gz, gT, r1, r2, r3, r4⟩
        · exact .inl ⟨hk _ _ (Ne.symm dz) gz, x, y, hk _ _ (Ne.symm dTO) gTO⟩
        · exact .inr ⟨T, f, oT, hk _ _ (Ne.symm dz) gz, hk _ _ r4 gT, r1, r2, r3, r4⟩
      item := fun i s₁ Q₁ E₁ hi st hds hQ => by
        obtain ⟨gTI, g1, g2, gz⟩ := st
        have lt : ∀ {c o}, s₁.heap.get? c = some o → s₁.heap.objs.size ≠ c := fun e => Nat.ne_of_gt (Heap.lt_size e)
        have m1 : s₁.heap.objs.size ≠ i1 := let ⟨⟨_, e, _⟩, _⟩ := g1; lt e
        have m2 : s₁.heap.objs.size ≠ i2 := let ⟨⟨_, e, _⟩, _⟩ := g2; lt e
        rcases gz with ⟨gz, x, y, gTO⟩ | ⟨T, f, oT, gz, gT, r1, r2, r3, r4⟩
        · refine wpAny_pyNext_zipD2_item S D1 D2 gz gTI gTO g1 g2 hi (hxy ▸ hi) fun x1 x2 h' tk e1 e2 hz' hto q1 q2 hp hsz hk => ?_
          exact hQ s₁.heap.objs.size _ _ h' tk ⟨e1, e2⟩ (.inl ⟨_, hp, rfl, _, rfl⟩) ⟨hk _ _ S.TIz S.TITO S.TIi1 S.TIi2 gTI, q1, q2, .inr ⟨s₁.heap.objs.size, false, _, hz', hp, lt gz, m1, m2, Nat.ne_of_gt hds⟩⟩
            fun c o hc e => by
              simp only [List.mem_cons, List.not_mem_nil, or_false, not_or] at hc
              exact hk c o hc.1 hc.2.1 hc.2.2.1 hc.2.2.2 e
        · refine next_pair S D1 D2 gz gT gTI g1 g2 hi (hxy ▸ hi) fun x1 x2 h' tk e1 e2 hz' q1 q2 hp hsz hk => ?_
          exact hQ s₁.heap.objs.size _ _ h' tk ⟨e1, e2⟩ (.inl ⟨_, hp, rfl, _, rfl⟩) ⟨hk _ _ S.TIz S.TIi1 S.TIi2 gTI, q1, q2, .inr ⟨T, true, oT, hz', hk _ _ r1 r2 r3 gT, r1, r2, r3, r4⟩⟩
            fun c o hc e => by
              simp only [List.mem_cons, List.not_mem_nil, or_false, not_or] at hc
              exact hk c o hc.1 hc.2.2.1 hc.2.2.2 e
      done := fun s₁ Q₁ E₁ st hQ => by
        obtain ⟨gTI, g1, g2, gz⟩ := st
        rcases gz with ⟨gz, x, y, gTO⟩ | ⟨T, f, oT, gz, gT, r1, r2, r3, r4⟩
        · refine wpAny_pyNext_zipD2_end S D1 D2 gz gTI gTO g1 g2 (Nat.le_refl _) (Nat.le_of_eq hxy) (.inl rfl) fun h' tk hk => hQ h' tk fun c o hc e => ?_
          simp only [List.mem_cons, List.not_mem_nil, or_false, not_or] at hc
          exact hk c o hc.1 hc.2.1 hc.2.2.1 hc.2.2.2 e
        · refine next_over S D1 gz gT gTI g1 fun h' hk => hQ h' s₁.toks fun c o hc e => ?_
          simp only [List.mem_cons, List.not_mem_nil, or_false, not_or] at hc
          exact hk c o hc.1 hc.2.2.1 hc.2.2.2 e }
/-- dict(zip(t, u)), t a tuple of texts -/
def tDictZ (K : PySem.W.Frag) (ta : TA) : TE := fun σ H Q => ta σ H fun vs H1 => ∃ (a b : Addr) (ks : List Str) (ys : List V), vs = [.ref a, .ref b] ∧ SqT K H1 a (ks.map V.str) ∧ SqT K H1 b ys ∧ ks.length = ys.length ∧
  ∀ p, H1 p = none → Q (.ref p) (upd H1 p (.dK (mergeK [] ((ks.map Sum.inr).zip ys))))
theorem kv_zip : ∀ {ks : List Str} {ys : List V} {us : List Value}, Vals ys us → KV ((ks.map (Sum.inr : Str → Key)).zip ys) ((ks.map (Sum.inr : Str → Key)).zip us)
  | [], _, _, _ => .nil
  | _ :: _, _, _, .nil => .nil
  | k :: ks, _, _, .cons r t => .cons ⟨rfl, r⟩ (kv_zip t)
theorem boot_dict : bootBuiltins "dict" = some (.type "dict") := by decide +kernel
theorem str_at' {ks : List Str} {us : List Value} (r : Vals (ks.map V.str) us) {i : Nat} {u : Value} (h : us[i]? = some u) : ∃ k t, ks[i]? = some k ∧ u = .str k t := by
  have hi : i < ks.length := by
    have := r.length
    rw [List.length_map] at this
    have := (List.getElem?_eq_some_iff.mp h).1
    omega
  obtain ⟨u', hu', ru⟩ := r.get (i := i) (x := .str ks[i]) (by rw [List.getElem?_map, List.getElem?_eq_getElem hi]; rfl)
  rw [h] at hu'
  cases hu'
  obtain ⟨t, rfl⟩ := ru
  exact ⟨ks[i], t, List.getElem?_eq_getElem hi, rfl⟩
theorem pe_dictZ {X : Cx} {e e2 : Expr} {ta : TA} {p p2 pos pos2 : Pos} (hcalm : X.calm = true) (hg : Gl X "dict") (hm : X.mg "dict" = none) (hgz : Gl X "zip") (hmz : X.mg "zip" = none) (ha : PA X [e, e2] ta)
    (hs : starEach [e, e2] X.env = (false, eval e X.env) :: starEach [e2] X.env := by rfl) (hpl : ((backTo pos2 (starEach [e2] X.env)).any fun x => x.1) = false := by rfl)
    (hd : starEach [Expr.Call (.Name "zip" p2) [e, e2] [] pos2] X.env = [(false, eval (.Call (.Name "zip" p2) [e, e2] [] pos2) X.env)] := by rfl) :
    PE X (.Call (.Name "dict" p) [.Call (.Name "zip" p2) [e, e2] [] pos2] [] pos) (tDictZ X.K ta) := by
  refine ⟨fun pins s σ H Q I h => ?_⟩
  refine Call_ (ld_blt I hg hm boot_dict (callWith_type1 ?_ hd rfl))
  rw [hd]
  show wpAny _ _ (spliced [(false, eval (.Call (.Name "zip" p2) [e, e2] [] pos2) X.env)]) _ _ s
  refine Calls.spliced_cons (thn (Q := fun v s2 => wpAny (model X.prog X.w) X.A (call (.type "dict") [v]) (EP X pins σ Q) X.xe s2) ?_ fun v s2 q => Calls.spliced_nil q)
  refine Call_ (ld_blt I hgz hmz boot_zip (callWith_type1 (thn (ha.run pos2 pins s σ H _ I h) fun us s1 ⟨vs, H1, I1, r1, q1⟩ => ?_) hs hpl))
  obtain ⟨a, b, ks, ys, ex, hk, hy, hl, q⟩ := q1
  subst ex
  obtain ⟨u, u2, rfl, ru, ru2⟩ := vals_two r1
  cases ru
  cases ru2
  obtain ⟨its, rv, pk, hz⟩ := I1.tuple hk
  obtain ⟨its2, rv2, py, hz2⟩ := I1.tuple hy
  have al : a < s1.heap.objs.size := by
    obtain ⟨o, ho, _⟩ := pk
    exact Heap.lt_size ho
  have bl : b < s1.heap.objs.size := by
    obtain ⟨o, ho, _⟩ := py
    exact Heap.lt_size ho
  have hll : its.toArray.size = its2.toArray.size := by
    rw [List.size_toArray, List.size_toArray, ← rv.length, ← rv2.length, List.length_map, hl]
  refine zip_begins2 (begins_tuple a its.toArray) (begins_tuple b its2.toArray) pk py fun h' hz' hTI hTO hi1 hi2 hsz hkeep => ?_
  have ne : ∀ {c : Addr} {k : Nat}, c < s1.heap.objs.size → c ≠ s1.heap.objs.size + k := fun h => Nat.ne_of_lt (Nat.lt_of_lt_of_le h (Nat.le_add_right _ _))
  have ks' : ((ks.map (Sum.inr : Str → Key)).zip its2).length = its.toArray.size := by
    rw [List.length_zip, List.length_map, List.size_toArray, ← rv.length, ← rv2.length, List.length_map, ← hl]
    omega
  have pk' : s1.heap.IsTuple a its.toArray := pk
  have py' : s1.heap.IsTuple b its2.toArray := py
  refine PySem.call_dict_pairs (knd := mixKind X.prog X.w) (kvs := (ks.map (Sum.inr : Str → Key)).zip its2) (pairs_zipT _ _ _ _ _ a b (Nat.ne_of_lt al) (ne bl) (zsep _ _ _ al bl) (ne al) (ne al) (ne al) (ne bl) (ne bl) (Nat.ne_of_lt bl) its.toArray its2.toArray hll) (I1.ok.hd hcalm)
    ⟨hz', hTI, ⟨_, _, hTO⟩, ⟨_, hi1, rfl, rfl⟩, ⟨_, hi2, rfl, rfl⟩, pk'.at fun o e => hkeep _ o e, py'.at fun o e => hkeep _ o e⟩ ⟨ks', fun i key v ⟨e1, e2⟩ => ?_⟩ (by rw [List.size_toArray, ← rv.length]; exact hz) fun h2 tk hd2 hk2 => ?_
  · have e1' : its[i]? = some key := by simpa using e1
    have e2' : its2[i]? = some v := by simpa using e2
    obtain ⟨k, t, ek, rfl⟩ := str_at' rv e1'
    refine ⟨Sum.inr k, ?_, kV_is (P := X.prog) (w := X.w) (k := Sum.inr k) ⟨t, rfl⟩⟩
    rw [List.getElem?_zip_eq_some]
    exact ⟨by rw [List.getElem?_map, ek]; rfl, e2'⟩
  · have kp : ∀ b o, s1.heap.get? b = some o → h2.get? b = some o := fun c o e => by
      have cl : c < s1.heap.objs.size := Heap.lt_size e
      refine hk2 c o (fun hc => ?_) (hkeep c o e)
      simp only [List.mem_cons, List.not_mem_nil, or_false] at hc
      rcases hc with r | r | r | r
      · exact ne cl r
      · exact ne cl r
      · exact Nat.ne_of_lt cl r
      · exact ne cl r
    have le : s1.heap.objs.size ≤ h'.objs.size := by rw [hsz]; exact Nat.le_add_right _ _
    have hm' : (h'.objs.size == sysModules) = false := beq_eq_false_iff_ne.mpr (Nat.ne_of_gt (Nat.lt_of_lt_of_le I1.big le))
    have zl : (mergeK [] ((ks.map (Sum.inr : Str → Key)).zip ys)).length ≤ sizeLine := by
      refine Nat.le_trans (length_mergeK _ []) ?_
      rw [List.length_nil, Nat.zero_add, List.length_zip]
      exact Nat.le_trans (Nat.min_le_right ..) hz2
    exact ⟨.ref h'.objs.size, upd H1 h'.objs.size (.dK (mergeK [] ((ks.map Sum.inr).zip ys))), I1.laid (t' := tk) kp le (show ObjOk X.prog X.w _ _ _ (.dK (mergeK [] ((ks.map (Sum.inr : Str → Key)).zip ys))) from ⟨zl, hm', merged [] ((ks.map (Sum.inr : Str → Key)).zip its2), KV.merge (kv_zip rv2) .nil, hd2⟩), rfl, q _ (I1.hok.fresh le)⟩
end Spk

set_option Elab.async false
set_option linter.all false
set_option maxRecDepth 100000
set_option maxHeartbeats 2000000
namespace Spk
open PySem PySem.Spec PyProof.Rows PySem.W L2
/-! ## len(a) by the class's own __len__; a method that may raise in a try -/
section
variable {X : Cx} {n : Nat} {C f : Addr} {sp : Sp}
def rLenO (C : Addr) (sp : Sp) : List V → Hp → VK → Prop := fun xs H Q => ∃ a dx fs, xs = [.ref a] ∧ H a = some (.ins C dx fs) ∧ sp [.ref a] H (fun v H' => ∃ k : Nat, v = .int (k : Int) ∧ k ≤ 1000000 ∧ Q (.int (k : Int)) H') E0
theorem call_lenO (F : FnR X.prog X.w X.K X.mg X.base CX0 n f sp) (hr : Room (n + 1) X.A) (hs : findIn X.K (.ref C) "__len__" = some (some (.ref f))) (hf : isFn X.K (.ref f) = true) : CallR X (.builtin "len") (rLenO C sp) := by
  intro pins s σ H xs us Q I r h
  obtain ⟨a, dx, fs, rfl, ha, q⟩ := h
  obtain rfl := Vals.ref1 r
  obtain ⟨oa, ja⟩ := inst_of I ha
  obtain ⟨m, hF⟩ := I.fr
  refine len_K hF I.ok.mod.kin ja hs hf (wpAny_mono (call_at F (Sub.in1 (sub0 hr)) I (.cons (relR _) .nil) q) (fun r s' z => ?_) fun _ _ z => z)
  obtain ⟨w, H', I', rw', k, rfl, hk, q'⟩ := z
  obtain ⟨t, rfl⟩ := rw'
  exact ⟨⟨by omega, by omega⟩, .int (k : Int), H', I'.tok _, ⟨_, rfl⟩, q'⟩
end
/-- o.m(e, ..), m may raise what the try about it takes -/
def tMethS (C : Addr) (m : Str) (sp : Sp) (E : L2.St → XK) (ta : TE) (t : TA) : TE := fun σ H Q => ta σ H fun x H1 => ∃ a dx fs, x = .ref a ∧ H1 a = some (.ins C dx fs) ∧ fs.lookup m = none ∧ t σ H1 fun vs H2 => sp (x :: vs) H2 Q (E σ)
theorem pe_methS {X : Cx} {CX : CXT} {k : Nat} {C f : Addr} {fd : FuncData} {ps : List Str} {m : Str} {sp : Sp} {E : L2.St → XK} {o e : Expr} {es : List Expr} {ta : TE} {t : TA} {apos pos : Pos} {pl : Sem Bool} (he : PE X o ta) (c : Cls X.K C) (hm : Meth X.K C m f)
    (F : FnOk X.prog X.w X.K X.mg X.base CX k f fd ps sp) (hr : Room k X.A) (hb : Binds X.K fd ps []) (hx : ∀ σ, PassesAt CX X σ (E σ)) (ha : PA X (e :: es) t)
    (hst : starEach (e :: es) X.env = (false, eval e X.env) :: starEach es X.env := by rfl) (hpl : (backTo pos (starEach es X.env)).any (·.1) = false := by rfl)
    (ht : eval (.Call (.Attribute o m apos) (e :: es) [] pos) X.env = (do
      let ov ← eval o X.env
      standAt apos.atName
      let (f, first) ← holding [ov] (getMethod ov m pl)
      callWith pos f first (backTo pos (starEach (e :: es) X.env)) (backToKw pos (keywordEach [] X.env))) := by rfl) :
    PE X (.Call (.Attribute o m apos) (e :: es) [] pos) (tMethS C m sp E ta t) := by
  refine ⟨fun pins s σ H Q I h => ?_⟩
  refine PySem.W.methodCall_KW (pl := pl) (thn (he.run pins s σ H _ I h) fun u s1 ⟨x, H1, I1, rx, a, dx, fs, ex, ea, l, q⟩ => ?_) ht
  subst ex
  obtain rfl : u = Value.ref a := rx
  refine getmeth_ok I1 ea c hm l ?_
  refine PySem.W.callWith_K (first := [.ref a]) (h₀ := X.base) I.ok.mod.kin hm.kp (thn (ha.run pos pins s1 σ H1 _ I1 q) fun us s2 ⟨vs, H2, I2, r, q2⟩ => ⟨I2.kIn, ?_⟩) hst hpl
  exact run_fnS (us := Value.ref a :: us) (vs := V.ref a :: vs) F hr hb (hx σ) I2 (.cons (relR a) r) q2
theorem i_methS {C : Addr} {m : Str} {sp : Sp} {E : L2.St → XK} {ta : TE} {t : TA} {σ : L2.St} {H : Hp} {Q : VK} (h : ta σ H fun x H1 => ∃ a dx fs, x = .ref a ∧ H1 a = some (.ins C dx fs) ∧ fs.lookup m = none ∧ t σ H1 fun vs H2 => sp (x :: vs) H2 Q (E σ)) : tMethS C m sp E ta t σ H Q := h
end Spk

set_option Elab.async false
set_option linter.all false
set_option maxRecDepth 100000
set_option maxHeartbeats 2000000
namespace Spk
open PySem PySem.Spec PyProof.Rows L2
/-! ## for x, y, z in zip(l, t, u), l a list, t and u tuples -/
def Itz3 (K : PySem.W.Frag) (a b c : Addr) : It where
  go := fun i H => ∃ (xs ys zs : List V) (x y z : V), SqL K H a xs ∧ SqT K H b ys ∧ SqT K H c zs ∧ xs[i]? = some x ∧ ys[i]? = some y ∧ zs[i]? = some z
  yld := fun i H v H' => ∃ T x y z, v = .ref T ∧ H T = none ∧ H' = upd H T (.tup [x, y, z]) ∧ (∀ xs, SqL K H a xs → xs[i]? = some x) ∧ (∀ ys, SqT K H b ys → ys[i]? = some y) ∧ ∀ zs, SqT K H c zs → zs[i]? = some z
  stop := fun i H => ∃ xs ys zs : List V, SqL K H a xs ∧ SqT K H b ys ∧ SqT K H c zs ∧ xs.length = i ∧ ys.length = i ∧ zs.length = i
theorem turn_zip3 {P : Program} {w : World} {K : PySem.W.Frag} {elts : List Expr} {kk : Nat} {tpos : Pos} {a b c z TI TO i1 i2 i3 : Addr} (Z : ZipSep3 z TI TO i1 i2 i3 [i1, a] [i2, b] [i3, c]) (n1 : a ≠ i1) (n2 : b ≠ i2) (n3 : c ≠ i3) :
    Turn P w K (.Tuple elts kk tpos) (Itz3 K a b c) [z, TI, TO, i1, i2, i3] z (fun i h => IsZip h z TI TO .none ∧ IsTupOf3 h TI (.ref i1) (.ref i2) (.ref i3) ∧ (∃ x y v, IsTupOf3 h TO x y v) ∧ h.IsListIter i1 a i ∧ h.IsTupleIter i2 b i ∧ h.IsTupleIter i3 c i) where
  mem := by simp
  obj := fun i h st d hd => by
    obtain ⟨h1, h2, ⟨x, y, v, h3⟩, ⟨o, ho, _, hd1⟩, ⟨o2, ho2, _, hd2⟩, ⟨o3, ho3, _, hd3⟩⟩ := st
    simp only [List.mem_cons, List.not_mem_nil, or_false] at hd
    rcases hd with rfl | rfl | rfl | rfl | rfl | rfl
    · exact ⟨_, h1, fun v q => nomatch q⟩
    · exact ⟨_, h2, fun v q => nomatch q⟩
    · exact ⟨_, h3, fun v q => nomatch q⟩
    · exact ⟨o, ho, fun v q => by rw [hd1] at q; cases q⟩
    · exact ⟨o2, ho2, fun v q => by rw [hd2] at q; cases q⟩
    · exact ⟨o3, ho3, fun v q => by rw [hd3] at q; cases q⟩
  keep := fun i h h' st k => by
    obtain ⟨h1, h2, ⟨x, y, v, h3⟩, h4, h5, h6⟩ := st
    exact ⟨k z (by simp) _ h1, k TI (by simp) _ h2, ⟨x, y, v, k TO (by simp) _ h3⟩, h4.at fun o q => k i1 (by simp) o q, h5.at fun o q => k i2 (by simp) o q, h6.at fun o q => k i3 (by simp) o q⟩
  item := by
    intro X hP hw hK hc i pins s σ H E I hf st hg
    subst hP hw hK
    obtain ⟨h1, h2, ⟨x0, y0, v0, h3⟩, h4, h5, h6⟩ := st
    obtain ⟨xs, ys, zs, x, y, v, hl, ht, hu', hx, hy, hv⟩ := hg
    obtain ⟨its, rv, pl, hz⟩ := I.list hl
    obtain ⟨its2, rv2, pt, hz2⟩ := I.tuple ht
    obtain ⟨its3, rv3, pt3, hz3⟩ := I.tuple hu'
    obtain ⟨u, hu, ru⟩ := rv.get hx
    obtain ⟨u2, hu2, ru2⟩ := rv2.get hy
    obtain ⟨u3, hu3, ru3⟩ := rv3.get hv
    have D1 := Draws.list (prog := X.prog) (w := X.w) (A := X.A.in1) (I.ok.hd hc) i1 a n1 its.toArray
    have D2 := Draws.tuple (prog := X.prog) (w := X.w) (A := X.A.in1) (I.ok.hd hc) i2 b n2 its2.toArray
    have D3 := Draws.tuple (prog := X.prog) (w := X.w) (A := X.A.in1) (I.ok.hd hc) i3 c n3 its3.toArray
    have hi : i < its.toArray.size := by
      rw [List.size_toArray]
      exact (List.getElem?_eq_some_iff.mp hu).1
    have hi2 : i < its2.toArray.size := by
      rw [List.size_toArray]
      exact (List.getElem?_eq_some_iff.mp hu2).1
    have hi3 : i < its3.toArray.size := by
      rw [List.size_toArray]
      exact (List.getElem?_eq_some_iff.mp hu3).1
    have zl : z < s.heap.objs.size := Heap.lt_size h1
    have tl : TI < s.heap.objs.size := Heap.lt_size h2
    have ol : TO < s.heap.objs.size := Heap.lt_size h3
    have il : i1 < s.heap.objs.size := by
      obtain ⟨_, q, _⟩ := id h4
      exact Heap.lt_size q
    have jl : i2 < s.heap.objs.size := by
      obtain ⟨_, q, _⟩ := id h5
      exact Heap.lt_size q
    have kl : i3 < s.heap.objs.size := by
      obtain ⟨_, q, _⟩ := id h6
      exact Heap.lt_size q
    refine wpAny_pyNext_zipD3_item Z D1 D2 D3 h1 h2 h3 ⟨h4, pl.isList⟩ ⟨h5, pt⟩ ⟨h6, pt3⟩ hi hi2 hi3 fun x1 x2 x3 h' tk e1 e2 e3 ho hto s1 s2 s3 hT hsz hk => ?_
    have ex : x1 = u := by
      have q : its.toArray[i]? = some u := by simpa using hu
      rw [q] at e1
      exact (Option.some.inj e1).symm
    have ey : x2 = u2 := by
      have q : its2.toArray[i]? = some u2 := by simpa using hu2
      rw [q] at e2
      exact (Option.some.inj e2).symm
    have ez : x3 = u3 := by
      have q : its3.toArray[i]? = some u3 := by simpa using hu3
      rw [q] at e3
      exact (Option.some.inj e3).symm
    subst ex ey ez
    refine ⟨_, rfl, wpAny_letOwnedTupleGo_zip (s := { s with heap := h', toks := tk }) ho fun h'' hz' sb => ?_⟩
    have hT2 : h''.get? s.heap.objs.size = some { cls := .type "tuple", data := .seq #[x1, x2, x3] } := (sb.2 _ (Nat.ne_of_gt zl)).trans hT
    have new : ObjOk X.prog X.w (upd H s.heap.objs.size (.tup [x, y, v])) h'' s.heap.objs.size (.tup [x, y, v]) :=
      ⟨size_of (Nat.le_of_ble_eq_true rfl), [x1, x2, x3], .cons ru (.cons ru2 (.cons ru3 .nil)), ⟨_, hT2, rfl, _, rfl⟩⟩
    have keepB : ∀ d ob, d ∉ [z, TI, TO, i1, i2, i3] → s.heap.get? d = some ob → h''.get? d = some ob := fun d ob hc q => by
      simp only [List.mem_cons, List.not_mem_nil, or_false, not_or] at hc
      exact (sb.2 d hc.1).trans (hk d ob hc.1 hc.2.2.1 hc.2.2.2.1 hc.2.2.2.2.1 hc.2.2.2.2.2 q)
    have I1 := I.turnedNew (t' := tk) (ch := [z, TI, TO, i1, i2, i3]) keepB hf (Nat.le_refl _) new
    have zi1 : i1 ≠ z := fun q => Z.zf1 (by rw [← q]; simp)
    have zi2 : i2 ≠ z := fun q => Z.zf2 (by rw [← q]; simp)
    have zi3 : i3 ≠ z := fun q => Z.zf3 (by rw [← q]; simp)
    have hTI : h'.get? TI = some { cls := .type "tuple", data := .seq #[.ref i1, .ref i2, .ref i3] } := hk TI _ Z.TIz Z.TITO Z.TIi1 Z.TIi2 Z.TIi3 h2
    refine ⟨.ref s.heap.objs.size, _, I1, rfl, ⟨_, x, y, v, rfl, I.hok.fresh (Nat.le_refl _), rfl, fun zs hy' => by rw [I.list_inj hy' hl]; exact hx, fun zs hy' => by rw [I.tuple_inj hy' ht]; exact hy, fun zs hy' => by rw [I.tuple_inj hy' hu']; exact hv⟩,
      ⟨hz', (sb.2 TI Z.TIz).trans hTI, ⟨x1, x2, x3, (sb.2 TO Z.TOz).trans hto⟩, s1.1.at fun o q => (sb.2 i1 zi1).trans q, s2.1.at fun o q => (sb.2 i2 zi2).trans q, s3.1.at fun o q => (sb.2 i3 zi3).trans q⟩, fun d hd => ?_⟩
    have hd' : d < s.heap.objs.size := by
      simp only [List.mem_cons, List.not_mem_nil, or_false] at hd
      rcases hd with rfl | rfl | rfl | rfl | rfl | rfl <;> assumption
    rw [upd_ne (Nat.ne_of_lt hd')]
    exact (hf d hd).1
  done := by
    intro X hP hw hK hc i pins s σ H E I hf st hg
    subst hP hw hK
    obtain ⟨h1, h2, ⟨x0, y0, v0, h3⟩, h4, h5, h6⟩ := st
    obtain ⟨xs, ys, zs, hl, ht, hu', e1, e2, e3⟩ := hg
    obtain ⟨its, rv, pl, hz⟩ := I.list hl
    obtain ⟨its2, rv2, pt, hz2⟩ := I.tuple ht
    obtain ⟨its3, rv3, pt3, hz3⟩ := I.tuple hu'
    have D1 := Draws.list (prog := X.prog) (w := X.w) (A := X.A.in1) (I.ok.hd hc) i1 a n1 its.toArray
    have D2 := Draws.tuple (prog := X.prog) (w := X.w) (A := X.A.in1) (I.ok.hd hc) i2 b n2 its2.toArray
    have D3 := Draws.tuple (prog := X.prog) (w := X.w) (A := X.A.in1) (I.ok.hd hc) i3 c n3 its3.toArray
    have z1 : its.toArray.size = i := by rw [List.size_toArray, ← rv.length]; exact e1
    have z2 : its2.toArray.size = i := by rw [List.size_toArray, ← rv2.length]; exact e2
    have z3 : its3.toArray.size = i := by rw [List.size_toArray, ← rv3.length]; exact e3
    refine wpAny_pyNext_zipD3_end Z D1 D2 D3 h1 h2 h3 ⟨h4, pl.isList⟩ ⟨h5, pt⟩ ⟨h6, pt3⟩ (Nat.le_of_eq z1.symm) (Nat.le_of_eq z2.symm) (Nat.le_of_eq z3.symm) (.inl z1.symm) fun h' tk eb => ⟨rfl, ?_⟩
    exact I.turnedL (t' := tk) (ch := [z, TI, TO, i1, i2, i3]) (fun d o hc q => by
      simp only [List.mem_cons, List.not_mem_nil, or_false, not_or] at hc
      exact eb d o hc.1 hc.2.2.1 hc.2.2.2.1 hc.2.2.2.2.1 hc.2.2.2.2.2 q) hf
  self := fun A i s Q E st h => wpAny_pyIter_zip st.1 h
def iZip3 (K : PySem.W.Frag) (ta : TA) : TI := fun σ H R => ta σ H fun vs H1 => ∃ a b c xs ys zs, vs = [.ref a, .ref b, .ref c] ∧ SqL K H1 a xs ∧ SqT K H1 b ys ∧ SqT K H1 c zs ∧ R (Itz3 K a b c) H1
theorem vals_three {v w x : V} {us : List Value} (h : Vals [v, w, x] us) : ∃ u u2 u3, us = [u, u2, u3] ∧ RelV v u ∧ RelV w u2 ∧ RelV x u3 := by
  cases h with
  | cons r t =>
    obtain ⟨u2, u3, rfl, r2, r3⟩ := vals_two t
    exact ⟨_, _, _, rfl, r, r2, r3⟩
theorem zsep3 (n a b c : Nat) (ha : a < n) (hb : b < n) (hc : c < n) : ZipSep3 (n + 5) (n + 3) (n + 4) n (n + 1) (n + 2) [n, a] [n + 1, b] [n + 2, c] where
  TIz := Nat.ne_of_lt (show n + 3 < n + 5 by omega)
  TOz := Nat.ne_of_lt (show n + 4 < n + 5 by omega)
  TITO := Nat.ne_of_lt (show n + 3 < n + 4 by omega)
  TIi1 := Nat.ne_of_gt (show n < n + 3 by omega)
  mem1 := List.mem_cons_self
  zf1 := nm2 (n + 5) n a (by omega) (by omega)
  Tf1 := nm2 (n + 4) n a (by omega) (by omega)
  TIi2 := Nat.ne_of_gt (show n + 1 < n + 3 by omega)
  mem2 := List.mem_cons_self
  zf2 := nm2 (n + 5) (n + 1) b (by omega) (by omega)
  Tf2 := nm2 (n + 4) (n + 1) b (by omega) (by omega)
  TIi3 := Nat.ne_of_gt (show n + 2 < n + 3 by omega)
  mem3 := List.mem_cons_self
  zf3 := nm2 (n + 5) (n + 2) c (by omega) (by omega)
  Tf3 := nm2 (n + 4) (n + 2) c (by omega) (by omega)
  sep1_2 := nm2 n (n + 1) b (by omega) (by omega)
  sep1_3 := nm2 n (n + 2) c (by omega) (by omega)
  sep2_1 := nm2 (n + 1) n a (by omega) (by omega)
  sep2_3 := nm2 (n + 1) (n + 2) c (by omega) (by omega)
  sep3_1 := nm2 (n + 2) n a (by omega) (by omega)
  sep3_2 := nm2 (n + 2) (n + 1) b (by omega) (by omega)
theorem zle3 (n c : Nat) (h : c ∈ [n + 5, n + 3, n + 4, n, n + 1, n + 2]) : n ≤ c := by
  simp only [List.mem_cons, List.not_mem_nil, or_false] at h
  omega
theorem pi_zip3 {X : Cx} {e e2 e3 : Expr} {ta : TA} {p pos tpos : Pos} {elts : List Expr} {kk : Nat} (hg : Gl X "zip") (hm : X.mg "zip" = none) (ha : PA X [e, e2, e3] ta)
    (hs : starEach [e, e2, e3] X.env = (false, eval e X.env) :: starEach [e2, e3] X.env := by rfl) (hpl : ((backTo pos (starEach [e2, e3] X.env)).any fun x => x.1) = false := by rfl) :
    PI X (.Tuple elts kk tpos) (.Call (.Name "zip" p) [e, e2, e3] [] pos) (iZip3 X.K ta) := by
  refine ⟨fun pins s σ H R I h => ?_⟩
  refine Call_ (ld_blt I hg hm boot_zip (callWith_type1 (thn (ha.run pos pins s σ H _ I h) fun us s1 ⟨vs, H1, I1, r1, q1⟩ => ?_) hs hpl))
  obtain ⟨a, b, c, xs, ys, zs, ex, hl, ht, hu, q⟩ := q1
  subst ex
  obtain ⟨u, u2, u3, rfl, ru, ru2, ru3⟩ := vals_three r1
  cases ru
  cases ru2
  cases ru3
  obtain ⟨its, rv, pl, hz⟩ := I1.list hl
  obtain ⟨its2, rv2, pt, hz2⟩ := I1.tuple ht
  obtain ⟨its3, rv3, pt3, hz3⟩ := I1.tuple hu
  have al : a < s1.heap.objs.size := by
    obtain ⟨o, ho, _⟩ := pl.isList
    exact Heap.lt_size ho
  have bl : b < s1.heap.objs.size := by
    obtain ⟨o, ho, _⟩ := pt
    exact Heap.lt_size ho
  have cl : c < s1.heap.objs.size := by
    obtain ⟨o, ho, _⟩ := pt3
    exact Heap.lt_size ho
  refine zip_begins3 (begins_list a its.toArray) (begins_tuple b its2.toArray) (begins_tuple c its3.toArray) pl.isList pt pt3 fun h' hz hTI hTO hi1 hi2 hi3 hsz hk => wpAny_pyIter_zip hz ?_
  have I2 : Inv X pins σ H1 { s1 with heap := h' } := I1.kept (t' := s1.toks) hk
  have ne : ∀ {c : Addr} {k : Nat}, c < s1.heap.objs.size → c ≠ s1.heap.objs.size + k := fun h => Nat.ne_of_lt (Nat.lt_of_lt_of_le h (Nat.le_add_right _ _))
  have Z := zsep3 _ _ _ _ al bl cl
  refine ⟨s1.heap.objs.size + 5, [s1.heap.objs.size + 5, s1.heap.objs.size + 3, s1.heap.objs.size + 4, s1.heap.objs.size, s1.heap.objs.size + 1, s1.heap.objs.size + 2], _, _, H1, rfl, I2, turn_zip3 Z (Nat.ne_of_lt al) (ne bl) (ne cl),
    ⟨hz, hTI, ⟨_, _, _, hTO⟩, ⟨_, hi1, rfl, rfl⟩, ⟨_, hi2, rfl, rfl⟩, ⟨_, hi3, rfl, rfl⟩⟩, fun c hc => ?_, q⟩
  have hle : s1.heap.objs.size ≤ c := zle3 _ _ hc
  exact I1.fpOk hle (I1.hok.fresh hle)
/-- what a turn gives: a new tuple of three -/
def YTri (f g k : Nat → Option V) : Nat → Hp → V → Hp → Prop := fun i H v H' => ∃ T x y z, v = .ref T ∧ H T = none ∧ H' = upd H T (.tup [x, y, z]) ∧ f i = some x ∧ g i = some y ∧ k i = some z
theorem walk_zip3 {K : PySem.W.Frag} {a b c : Addr} {xs ys zs : List V} {n : Nat} (h1 : xs.length = n) (h2 : ys.length = n) (h3 : zs.length = n) : Walk (Itz3 K a b c) n (fun H => SqL K H a xs ∧ SqT K H b ys ∧ SqT K H c zs) (YTri (fun i => xs[i]?) (fun i => ys[i]?) fun i => zs[i]?) where
  goes := fun i H hi ⟨g1, g2, g3⟩ => ⟨xs, ys, zs, xs[i]'(by omega), ys[i]'(by omega), zs[i]'(by omega), g1, g2, g3, List.getElem?_eq_getElem (by omega), List.getElem?_eq_getElem (by omega), List.getElem?_eq_getElem (by omega)⟩
  stops := fun H ⟨g1, g2, g3⟩ => ⟨xs, ys, zs, g1, g2, g3, h1, h2, h3⟩
  yields := fun i H x H' hi ⟨g1, g2, g3⟩ ⟨T, u, v, w, e, hT, e2, q1, q2, q3⟩ => ⟨T, u, v, w, e, hT, e2, q1 xs g1, q2 ys g2, q3 zs g3⟩
theorem i_zip3 {K : PySem.W.Frag} {σ : L2.St} {H : Hp} {ta : TA} {R : It → Hp → Prop} (h : ta σ H fun vs H1 => ∃ a b c xs ys zs, vs = [.ref a, .ref b, .ref c] ∧ SqL K H1 a xs ∧ SqT K H1 b ys ∧ SqT K H1 c zs ∧ R (Itz3 K a b c) H1) : iZip3 K ta σ H R := h
end Spk

set_option Elab.async false
set_option linter.all false
set_option maxRecDepth 100000
set_option maxHeartbeats 4000000
namespace Spk
open PySem L2
local macro_rules | `(tactic| walk_at "rd") => `(tactic| repeat (first
  | with_reducible refine i_seq ?_ | with_reducible refine i_asg ?_ | with_reducible refine i_ret ?_ | with_reducible refine i_ifS ?_ | with_reducible refine i_if ?_
  | with_reducible refine i_for ?_ | with_reducible refine i_iL ?_ | with_reducible refine i_iT ?_ | with_reducible refine i_ckw ?_ | with_reducible refine i_cm ?_ | with_reducible refine And.intro (rfl : V.ref _ = V.ref _) ?_ | with_reducible refine i_rng1 ?_ | with_reducible refine i_bm ?_ | with_reducible refine i_bm0 ?_
  | with_reducible refine i_drop ?_ | with_reducible refine i_next ?_
  | with_reducible refine i_var rfl ?_ | with_reducible refine i_c ?_ | with_reducible refine i_op ?_ | with_reducible refine i_un ?_ | with_reducible refine i_name ?_
  | with_reducible refine i_rI0 ?_ | with_reducible refine i_rU ?_ | with_reducible refine i_rEq rfl ?_ | with_reducible refine i_rNe rfl ?_
  | with_reducible refine i_test ?_ | with_reducible refine i_tB ?_ | with_reducible refine i_and ?_ | with_reducible refine i_or ?_ | with_reducible refine i_not ?_
  | with_reducible refine i_andV ?_ | with_reducible refine i_orV ?_ | with_reducible refine i_notV ?_
  | with_reducible refine i_cons ?_ | with_reducible refine i_nil ?_ | with_reducible refine i_cb ?_ | with_reducible refine i_call ?_ | with_reducible refine i_bl ?_
  | with_reducible refine i_tup ?_ | with_reducible refine i_lst ?_ | with_reducible refine i_par ?_ | with_reducible refine i_gcons ?_ | with_reducible refine i_gnil ?_
  | with_reducible refine And.intro (rfl : V.non = V.non) ?_ | with_reducible refine i_ixT (by assumption) rfl ?_ | with_reducible refine i_ixL (by assumption) rfl ?_ | with_reducible refine i_gtup (by assumption) rfl ?_
  | with_reducible refine i_gsub ?_
  | with_reducible refine Or.inl (Exists.intro _ (And.intro (rfl : [V.int _] = [V.int _]) ?_)) | with_reducible refine Exists.intro _ (And.intro (rfl : [V.int _] = [V.int _]) ?_)
  | with_reducible refine Or.inr (Exists.intro _ (And.intro (rfl : [V.bl _] = [V.bl _]) ?_))
  | with_reducible refine Exists.intro _ (Exists.intro _ (And.intro (rfl : [V.int _, V.int _] = [V.int _, V.int _]) ?_))
  | with_reducible refine Exists.intro _ (Exists.intro _ (And.intro (rfl : [V.ref _] = [V.ref _]) (And.intro (Or.inl (SqL.of (by assumption))) ?_)))
  | with_reducible refine i_rI (show (0 : Int) < _ by assumption) ?_ | with_reducible refine i_rI (show (0 : Int) < _ by decide) ?_
  | with_reducible refine i_rI (pow_ok (Nat.le_of_ble_eq_true rfl) (Nat.le_of_ble_eq_true rfl)) ?_
  | with_reducible refine i_rI (cmulL rfl) ?_))
/-! ### keys -/
theorem roomN {k : Nat} {A : Around} (hr : Room k A) : A.units + 8 < cLine := by
  have := hr.un
  omega
abbrev kk (ns : List Int) : List Key := ns.map Sum.inl
theorem kk_v (ns : List Int) : (kk ns).map kV = ns.map V.int := by
  rw [List.map_map]
  rfl
theorem kk_inj {a b : List Int} (h : kk a = kk b) : a = b := List.map_inj_right (fun _ _ z => Sum.inl.inj z) |>.mp h
/-- integers of at most thirty digits -/
def Tiny (ns : List Int) : Prop := ∀ n, n ∈ ns → absI n < big
/-- what is_key says of a thing, for so many key columns -/
def Keyed (K : PySem.W.Frag) (H : Hp) (y : V) (m : Nat) (k : Bool) : Prop :=
  (∃ t, TyX K H y t ∧ PySem.W.kitOne K t (.type "tuple") = some false ∧ k = false) ∨
  (∃ a vs, y = .ref a ∧ H a = some (.tup vs) ∧ vs.length ≠ m ∧ k = false) ∨
  (∃ a vs js, y = .ref a ∧ H a = some (.tup vs) ∧ vs.length = m ∧ Paired (SaysV K H) vs js ∧ k = js.all id)
theorem tiny_says {K : PySem.W.Frag} {H : Hp} : ∀ {ns : List Int}, Tiny ns → ∃ js, Paired (SaysV K H) (ns.map V.int) js ∧ js.all id = true
  | [], _ => ⟨[], .nil, rfl⟩
  | n :: ns, h => by
    obtain ⟨js, p, al⟩ := tiny_says (K := K) (H := H) (ns := ns) fun m hm => h m (List.mem_cons_of_mem _ hm)
    exact ⟨true :: js, .cons (.inl ⟨n, rfl, (decide_eq_true (h n List.mem_cons_self)).symm⟩) p, by simp [al]⟩
theorem keyed_of {K : PySem.W.Frag} {H : Hp} {b : Addr} {ns : List Int} {m : Nat} (hb : H b = some (.tup (ns.map V.int))) (hl : ns.length = m) (t : Tiny ns) : Keyed K H (.ref b) m true := by
  obtain ⟨js, p, al⟩ := tiny_says (K := K) (H := H) t
  exact .inr (.inr ⟨b, _, js, rfl, hb, by rw [List.length_map]; exact hl, p, al.symm⟩)
theorem Keyed.up {K : PySem.W.Frag} {H H' : Hp} {y : V} {m : Nat} {k : Bool} (e : Same H H') (h : Keyed K H y m k) : Keyed K H' y m k := by
  rcases h with ⟨t, ty, r⟩ | ⟨a, vs, ey, ha, r⟩ | ⟨a, vs, js, ey, ha, hl, p, r⟩
  · exact .inl ⟨t, ty_up e ty, r⟩
  · exact .inr (.inl ⟨a, vs, ey, e _ _ ha, r⟩)
  · exact .inr (.inr ⟨a, vs, js, ey, e _ _ ha, hl, Paired.mapP p fun _ _ z => z.up e, r⟩)
/-- the values under the keys in their order -/
abbrev keysIn (kvs : List (List Key × V)) (nss : List (List Int)) : Prop := kvs.map (·.1) = nss.map kk
def rowsOf (kvs : List (List Key × V)) (nss : List (List Int)) : List V := (sortN nss).map fun ns => (valV kvs (kk ns)).getD .non
theorem keys_tups {H : Hp} : ∀ {kvs : List (List Key × V)} {bs : List Addr} {nss : List (List Int)}, IsKeys H kvs bs → keysIn kvs nss → TupsN H bs nss
  | [], _, [], .nil, _ => .nil
  | p :: kvs, _, ns :: nss, .cons h t, e => by
    have e1 : p.1 = kk ns := (List.cons.inj e).1
    refine .cons ?_ (keys_tups t (List.cons.inj e).2)
    rw [h, e1, kk_v]
  | [], _, _ :: _, .nil, e => by cases e
  | _ :: _, _, [], _, e => by cases e
theorem there_of {kvs : List (List Key × V)} {k : List Key} (h : k ∈ kvs.map (·.1)) : ∃ v, valV kvs k = some v := by
  have a := valV_any k kvs
  have b : (kvs.any fun kv => decide (kv.1 = k)) = true := by
    rw [List.any_eq_true]
    obtain ⟨p, hp, e⟩ := List.mem_map.mp h
    exact ⟨p, hp, decide_eq_true e⟩
  rw [b] at a
  exact Option.isSome_iff_exists.mp a.symm
section
variable {P : Program} {w : World} {K : PySem.W.Frag} {mg : Str → Option Value} {base : Heap}
abbrev s_is_key : Stmt := top 26
theorem sc_is_key : FnScope ["thing", "size", "part"] ["thing", "size"] (defScope s_is_key) := ⟨rfl, rfl, rfl, by decide +kernel, rfl, by decide +kernel, by decide +kernel⟩
def sp_is_key (K : PySem.W.Frag) : Sp := fun vs H Q _ => ∃ (y : V) (m : Nat) (k : Bool), vs = [y, .int (m : Int)] ∧ m ≤ 100 ∧ Keyed K H y m k ∧ ∀ H', Same H H' → Q (.bl k) H'
theorem ok_is_key {f fV : Addr} {fd fdV : FuncData} (F : Fun K "is_key" "is_key" s_is_key f fd)
    (F_is_value : Fun K "is_value" "is_value" s_is_value fV fdV) (B_is_value : Binds K fdV ["thing"] []) (g_is_value : mg "is_value" = some (.ref fV)) (G_is_value : FnOk P w K mg base CX0 2 fV fdV ["thing"] (sp_is_value K))
    (z_isinstance : mg "isinstance" = none) (z_tuple : mg "tuple" = none) (z_len : mg "len" = none) (z_all : mg "all" = none) : FnOk P w K mg base CX0 3 f fd ["thing", "size"] (sp_is_key K) := by
  refine F.ok sc_is_key (fun vs H Q E h => ?_) (fun cdv A outer s H vs Q E hr h => ?_)
  · obtain ⟨y, m, k, rfl, _⟩ := h
    rfl
  · obtain ⟨y, m, k, rfl, hm, ju, q⟩ := h
    refine ⟨_, (pss_one (ps_ret (pe_and (pe_callB call_isi (by rfl) z_isinstance (by decide +kernel) (pa_cons (pv 0) (pa_cons (pe_bltn (v := .ty "tuple") (u := .type "tuple") (by rfl) z_tuple (by decide +kernel) rfl) pa_nil))) (pe_and (pe_cmpR op_eq (pe_callB call_len_seq (by rfl) z_len PySem.boot_len (pa_cons (pv 0) pa_nil)) (pv 1) (nomark _)) (pe_one (pe_callB (cr_all rfl) (by rfl) z_all (by decide +kernel) (pa_cons (pe_lc (own := [("part", 2)]) (g := gName 2) (tt := tYes) rfl sc_is_key.nd (pi_tup (pv 0)) (blkOk_by (own := [("part", 2)]) (N := ["thing", "size", "part"]) (sc := defScope s_is_key) (by decide +kernel)) (fun _ _ _ _ _ => pg_name (i := 2) sc_is_key.nd rfl (Or.inl rfl)) (fun _ _ _ _ _ => pts_nil) (fun _ _ _ _ _ => (pe_call G_is_value (hr.mono (by decide)) rfl g_is_value F_is_value.kp B_is_value .nil pass0 (pa_cons (pv 2) pa_nil)))) pa_nil))))))), ?_⟩
    walk_at "rd"
    rcases ju with ⟨t, ty, kt, rfl⟩ | ⟨a, us, rfl, ha, hl, rfl⟩ | ⟨a, us, js, rfl, ha, hl, sj, rfl⟩
    · exact ⟨_, _, _, _, false, rfl, .ty "tuple", ty, kt, false, rfl, iteF (q H (Same.refl H))⟩
    · refine ⟨_, _, _, _, true, rfl, .ty "tuple", .base (.tup ha), kit_ty (by decide +kernel), true, rfl, iteT ?_⟩
      walk_at "rd"
      refine ⟨a, us, rfl, .inr (SqT.of ha), ?_⟩
      walk_at "rd"
      rw [decide_eq_false (fun z => hl (by have := V.int.inj z; omega))]
      exact iteF (q H (Same.refl H))
    · refine ⟨_, _, _, _, true, rfl, .ty "tuple", .base (.tup ha), kit_ty (by decide +kernel), true, rfl, iteT ?_⟩
      walk_at "rd"
      refine ⟨a, us, rfl, .inr (SqT.of ha), ?_⟩
      walk_at "rd"
      rw [decide_eq_true (by rw [hl])]
      refine iteT ?_
      walk_at "rd"
      unfold tLc
      walk_at "rd"
      refine ⟨a, rfl, ⟨_, SqT.of ha⟩, fun D hD => ?_⟩
      obtain ⟨H1, e1, s1, h1⟩ := new_heap (o := .lst []) hD
      refine lc_tup (K := K) (a := a) (xs := us) (fun i H' => Same H H' ∧ H' D = some (.lst ((js.take i).map V.bl))) ⟨by rw [e1]; exact s1, by rw [e1]; exact h1⟩ ?_ ?_ ?_
      · rintro i H' _ ⟨s2, _⟩
        exact SqT.of (s2 _ _ ha)
      · rintro i y H2 hy ⟨s2, h2⟩
        obtain ⟨j, ej, sv⟩ := pair_at sj hy
        have hi : i < us.length := (List.getElem?_eq_some_iff.mp hy).1
        walk_at "rd"
        refine ⟨rfl, i_yes (iteT ?_)⟩
        walk_at "rd"
        refine ⟨y, j, rfl, sv.up s2, _, h2, size_lt (by rw [List.length_map, List.length_take]; omega), Same.mut s2 hD, ?_⟩
        rw [upd_same, take_snoc ej, List.map_append]
        rfl
      · rintro H2 ⟨s2, h2⟩
        have jl : us.length = js.length := Paired.length sj
        rw [jl, List.take_length] at h2
        walk_at "rd"
        exact ⟨D, js, rfl, SqL.of h2, q H2 s2⟩
abbrev s_rows_by_key : Stmt := top 33
theorem sc_rows_by_key : FnScope ["kept", "key"] ["kept"] (defScope s_rows_by_key) := ⟨rfl, rfl, rfl, by decide +kernel, rfl, by decide +kernel, by decide +kernel⟩
def sp_rows_by_key : Sp := fun vs H Q _ => ∃ d kvs nss, vs = [.ref d] ∧ H d = some (.dT kvs) ∧ keysIn kvs nss ∧ (∀ ns, ns ∈ nss → ns ≠ []) ∧ nss.length ≤ 1000 ∧ ∀ p H', Same H H' → H' p = some (.tup (rowsOf kvs nss)) → Q (.ref p) H'
theorem ok_rows_by_key {f : Addr} {fd : FuncData} (F : Fun K "rows_by_key" "rows_by_key" s_rows_by_key f fd) (z_tuple : mg "tuple" = none) (z_sorted : mg "sorted" = none) (z_list : mg "list" = none) : FnOk P w K mg base CX0 1 f fd ["kept"] sp_rows_by_key := by
  refine F.ok sc_rows_by_key (fun vs H Q E h => ?_) (fun cdv A outer s H vs Q E hr h => ?_)
  · obtain ⟨d, kvs, nss, rfl, _⟩ := h
    rfl
  · obtain ⟨d, kvs, nss, rfl, hd, ki, hn, hz, q⟩ := h
    refine ⟨_, (pss_one (ps_ret (pe_callTy call_tuple_of (by rfl) z_tuple (by decide +kernel) (pa_cons (pe_lc (own := [("key", 1)]) (g := gName 1) (tt := tYes) rfl sc_rows_by_key.nd (pi_list (pe_callB (cr_sortN (roomN hr)) (by rfl) z_sorted (by decide +kernel) (pa_cons (pe_callTy (call_list_dT rfl) (by rfl) z_list (by decide +kernel) (pa_cons (pv 0) pa_nil)) pa_nil))) (blkOk_by (own := [("key", 1)]) (N := ["kept", "key"]) (sc := defScope s_rows_by_key) (by decide +kernel)) (fun _ _ _ _ _ => pg_name (i := 1) sc_rows_by_key.nd rfl (Or.inl rfl)) (fun _ _ _ _ _ => pts_nil) (fun _ _ _ _ _ => (pe_dget (Nat.lt_of_le_of_lt (Nat.add_le_add_left (by decide : 1 ≤ 64) _) hr.units) (pv 0) (pv 1) (fun _ _ => rfl)))) pa_nil)))), ?_⟩
    walk_at "rd"
    unfold tLc
    walk_at "rd"
    refine ⟨d, kvs, rfl, .inl hd, fun l bs hl ik => ?_⟩
    obtain ⟨H1, e1, s1, h1⟩ := new_heap (o := .lst (bs.map V.ref)) hl
    rw [e1]
    walk_at "rd"
    have tb : TupsN H1 bs nss := Paired.mapP (keys_tups ik ki) fun _ _ z => s1 _ _ z
    refine ⟨l, bs, nss, rfl, SqL.of h1, tb, hn, fun l2 bs' hl2 tb' => ?_⟩
    obtain ⟨H2, e2, s2, h2⟩ := new_heap (o := .lst (bs'.map V.ref)) hl2
    rw [e2]
    have tb2 : TupsN H2 bs' (sortN nss) := Paired.mapP tb' fun _ _ z => s2 _ _ z
    have s02 : Same H H2 := fun b o z => s2 _ _ (s1 _ _ z)
    have bl : bs'.length = (sortN nss).length := Paired.length tb2
    have sl : (sortN nss).length = nss.length := (sortN_perm nss).length_eq
    refine ⟨l2, rfl, ⟨_, SqL.of h2⟩, fun D hD => ?_⟩
    obtain ⟨H3, e3, s3, h3⟩ := new_heap (o := .lst []) hD
    refine lc_list (K := K) (a := l2) (xs := bs'.map V.ref) (fun i H' => Same H2 H' ∧ H' D = some (.lst ((rowsOf kvs nss).take i))) ⟨by rw [e3]; exact s3, by rw [e3]; exact h3⟩ ?_ ?_ ?_
    · rintro i H' _ ⟨s4, _⟩
      exact SqL.of (s4 _ _ h2)
    · rintro i y H4 hy ⟨s4, h4⟩
      rw [List.getElem?_map] at hy
      obtain ⟨b, hb, rfl⟩ := Option.map_eq_some_iff.mp hy
      obtain ⟨ns, en, hbn⟩ := pair_at tb2 hb
      have mem : ns ∈ nss := (sortN_perm nss).mem_iff.mp (List.mem_of_getElem? en)
      obtain ⟨v, ev⟩ := there_of (kvs := kvs) (k := kk ns) (by rw [ki]; exact List.mem_map.mpr ⟨ns, mem, rfl⟩)
      walk_at "rd"
      refine ⟨rfl, i_yes (iteT ?_)⟩
      unfold tDGet
      walk_at "rd"
      have g : DGet H4 d (.ref b) (valV kvs (kk ns)) := DGet.t (s4 _ _ (s02 _ _ hd)) (by rw [kk_v]; exact s4 _ _ hbn)
      rw [ev] at g
      have er : (rowsOf kvs nss)[i]? = some v := by
        unfold rowsOf
        rw [List.getElem?_map, en, Option.map_some, ev]
        rfl
      refine ⟨d, v, rfl, g, _, h4, size_lt ?_, Same.mut s4 hD, ?_⟩
      · rw [List.length_take]
        unfold rowsOf
        rw [List.length_map]
        omega
      · rw [upd_same, take_snoc er]
    · rintro H4 ⟨s4, h4⟩
      have e : (bs'.map V.ref).length = (rowsOf kvs nss).length := by
        unfold rowsOf
        rw [List.length_map, List.length_map, bl]
      rw [e, List.take_length] at h4
      walk_at "rd"
      refine ⟨D, _, rfl, .inl ⟨SqL.of h4, fun p hp => ?_⟩⟩
      obtain ⟨H5, e5, s5, h5⟩ := new_heap (o := .tup (rowsOf kvs nss)) hp
      rw [e5]
      exact q p H5 (fun b o z => s5 _ _ (s4 _ _ (s02 _ _ z))) h5
end
end Spk

set_option Elab.async false
set_option linter.all false
set_option maxRecDepth 100000
set_option maxHeartbeats 4000000
namespace Spk
open PySem L2
local macro_rules | `(tactic| walk_at "rd") => `(tactic| repeat (first
  | with_reducible refine i_seq ?_ | with_reducible refine i_asg ?_ | with_reducible refine i_ret ?_ | with_reducible refine i_ifS ?_ | with_reducible refine i_if ?_
  | with_reducible refine i_for ?_ | with_reducible refine i_iL ?_ | with_reducible refine i_iT ?_ | with_reducible refine i_ckw ?_ | with_reducible refine i_cm ?_ | with_reducible refine And.intro (rfl : V.ref _ = V.ref _) ?_ | with_reducible refine i_rng1 ?_ | with_reducible refine i_bm ?_ | with_reducible refine i_bm0 ?_
  | with_reducible refine i_drop ?_ | with_reducible refine i_next ?_
  | with_reducible refine i_var rfl ?_ | with_reducible refine i_c ?_ | with_reducible refine i_op ?_ | with_reducible refine i_un ?_ | with_reducible refine i_name ?_
  | with_reducible refine i_rI0 ?_ | with_reducible refine i_rU ?_ | with_reducible refine i_rEq rfl ?_ | with_reducible refine i_rNe rfl ?_
  | with_reducible refine i_test ?_ | with_reducible refine i_tB ?_ | with_reducible refine i_and ?_ | with_reducible refine i_or ?_ | with_reducible refine i_not ?_
  | with_reducible refine i_andV ?_ | with_reducible refine i_orV ?_ | with_reducible refine i_notV ?_
  | with_reducible refine i_cons ?_ | with_reducible refine i_nil ?_ | with_reducible refine i_cb ?_ | with_reducible refine i_call ?_ | with_reducible refine i_bl ?_
  | with_reducible refine i_tup ?_ | with_reducible refine i_lst ?_ | with_reducible refine i_par ?_ | with_reducible refine i_gcons ?_ | with_reducible refine i_gnil ?_
  | with_reducible refine And.intro (rfl : V.non = V.non) ?_ | with_reducible refine i_ixT (by assumption) rfl ?_ | with_reducible refine i_ixL (by assumption) rfl ?_ | with_reducible refine i_gtup (by assumption) rfl ?_
  | with_reducible refine i_gsub ?_
  | with_reducible refine Or.inl (Exists.intro _ (And.intro (rfl : [V.int _] = [V.int _]) ?_)) | with_reducible refine Exists.intro _ (And.intro (rfl : [V.int _] = [V.int _]) ?_)
  | with_reducible refine Or.inr (Exists.intro _ (And.intro (rfl : [V.bl _] = [V.bl _]) ?_))
  | with_reducible refine Exists.intro _ (Exists.intro _ (And.intro (rfl : [V.int _, V.int _] = [V.int _, V.int _]) ?_))
  | with_reducible refine Exists.intro _ (Exists.intro _ (And.intro (rfl : [V.ref _] = [V.ref _]) (And.intro (Or.inl (SqL.of (by assumption))) ?_)))
  | with_reducible refine i_rI (show (0 : Int) < _ by assumption) ?_ | with_reducible refine i_rI (show (0 : Int) < _ by decide) ?_
  | with_reducible refine i_rI (pow_ok (Nat.le_of_ble_eq_true rfl) (Nat.le_of_ble_eq_true rfl)) ?_
  | with_reducible refine i_rI (cmulL rfl) ?_))
/-! ### the class Truth -/
abbrev tflds (tx fx kd od sd : Addr) (n : Nat) : List (Str × V) := [("table", .ref tx), ("region", .ref fx), ("kept", .ref kd), ("owners", .ref od), ("stamps", .ref sd), ("changes", .int (n : Int))]
section
variable {tx fx kd od sd : Addr} {n : Nat}
theorem lt_table : (tflds tx fx kd od sd n).lookup ("table" : Str) = some (.ref tx) := by
  simp only [List.lookup, beq_self_eq_true]
theorem lt_region : (tflds tx fx kd od sd n).lookup ("region" : Str) = some (.ref fx) := by
  simp only [List.lookup, beq_self_eq_true, show (("region" : Str) == "table") = false from rfl]
theorem lt_kept : (tflds tx fx kd od sd n).lookup ("kept" : Str) = some (.ref kd) := by
  simp only [List.lookup, beq_self_eq_true, show (("kept" : Str) == "table") = false from rfl, show (("kept" : Str) == "region") = false from rfl]
theorem lt_owners : (tflds tx fx kd od sd n).lookup ("owners" : Str) = some (.ref od) := by
  simp only [List.lookup, beq_self_eq_true, show (("owners" : Str) == "table") = false from rfl, show (("owners" : Str) == "region") = false from rfl, show (("owners" : Str) == "kept") = false from rfl]
theorem lt_stamps : (tflds tx fx kd od sd n).lookup ("stamps" : Str) = some (.ref sd) := by
  simp only [List.lookup, beq_self_eq_true, show (("stamps" : Str) == "table") = false from rfl, show (("stamps" : Str) == "region") = false from rfl, show (("stamps" : Str) == "kept") = false from rfl, show (("stamps" : Str) == "owners") = false from rfl]
theorem lt_changes : (tflds tx fx kd od sd n).lookup ("changes" : Str) = some (.int (n : Int)) := by
  simp only [List.lookup, beq_self_eq_true, show (("changes" : Str) == "table") = false from rfl, show (("changes" : Str) == "region") = false from rfl, show (("changes" : Str) == "kept") = false from rfl, show (("changes" : Str) == "owners") = false from rfl, show (("changes" : Str) == "stamps") = false from rfl]
theorem lt_meth {m : Str} (h : m = "insert" ∨ m = "update" ∨ m = "delete" ∨ m = "change" ∨ m = "write" ∨ m = "row_of" ∨ m = "stamp_of") : (tflds tx fx kd od sd n).lookup m = none := by
  rcases h with rfl | rfl | rfl | rfl | rfl | rfl | rfl <;> rfl
end
structure ClsU (K : PySem.W.Frag) (mg : Str → Option Value) (U fI : Addr) : Prop where
  cl : Cls K U
  nT : NoAttr K U "table"
  nR : NoAttr K U "region"
  nK : NoAttr K U "kept"
  nO : NoAttr K U "owners"
  nS : NoAttr K U "stamps"
  nC : NoAttr K U "changes"
  M : Mk K U fI
  g_U : mg "Truth" = some (.ref U)
/-- the methods of the class -/
structure ClsUN (K : PySem.W.Frag) (U mI mU mD mC mW mR mS fL fC : Addr) : Prop where
  insert : Meth K U "insert" mI
  update : Meth K U "update" mU
  delete : Meth K U "delete" mD
  change : Meth K U "change" mC
  write : Meth K U "write" mW
  row_of : Meth K U "row_of" mR
  stamp_of : Meth K U "stamp_of" mS
  leF : PySem.W.findIn K (.ref U) "__len__" = some (some (.ref fL))
  leI : PySem.W.isFn K (.ref fL) = true
  inF : PySem.W.findIn K (.ref U) "__contains__" = some (some (.ref fC))
  inI : PySem.W.isFn K (.ref fC) = true
/-- a table as it is made -/
structure TbOk (t : Tb) : Prop where
  cz : t.cs.length ≤ 4
  kz : t.ks.length ≤ 2
  k0 : t.ks ≠ []
  sub : ∀ c, c ∈ t.ks → c ∈ t.cs
  nd : t.cs.Nodup
  kn : t.ks.Nodup
/-- what made rows tell: the table, the region, the rows by key, the owners of values, the stamps by key, the number of changes -/
structure Tw where
  t : Tb
  r : Fi.Tr
  kvs : List (List Key × V)
  os : List (List Key × V)
  sts : List (List Key × V)
  n : Nat
/-- made rows at x, with their dicts -/
structure Tru (U C D : Addr) (H : Hp) (x kd od sd : Addr) (z : Tw) : Prop where
  ex : ∃ dx tx fx, H x = some (.ins U dx (tflds tx fx kd od sd z.n)) ∧ Tab C H tx z.t ∧ Fi.Fil D H fx z.r
  hk : H kd = some (.dT z.kvs)
  ho : H od = some (.dT z.os)
  hs : H sd = some (.dT z.sts)
  n1 : kd ≠ od
  n2 : kd ≠ sd
  n3 : od ≠ sd
  ok : TbOk z.t
  rc : ∀ c, c ∈ z.r.cols → c ∈ z.t.ks
  dp : z.r.deep ≤ 20
theorem Tru.up {U C D : Addr} {H H' : Hp} {x kd od sd : Addr} {z : Tw} (e : Same H H') (h : Tru U C D H x kd od sd z) : Tru U C D H' x kd od sd z := by
  obtain ⟨⟨dx, tx, fx, h1, h2, h3⟩, h4, h5, h6, n1, n2, n3, o, r, d⟩ := h
  exact ⟨⟨dx, tx, fx, e _ _ h1, h2.up e, h3.up e⟩, e _ _ h4, e _ _ h5, e _ _ h6, n1, n2, n3, o, r, d⟩
theorem Tru.keep {U C D : Addr} {H H' : Hp} {x kd od sd : Addr} {z : Tw} (e : Keep H H') (h : Tru U C D H x kd od sd z) : Tru U C D H' x kd od sd z := by
  obtain ⟨⟨dx, tx, fx, h1, h2, h3⟩, h4, h5, h6, n1, n2, n3, o, r, d⟩ := h
  exact ⟨⟨dx, tx, fx, e _ _ rfl h1, h2.keep e, h3.keep e⟩, e _ _ rfl h4, e _ _ rfl h5, e _ _ rfl h6, n1, n2, n3, o, r, d⟩
/-- a key at b -/
structure KeyAt (H : Hp) (b : Addr) (ns : List Int) (m : Nat) : Prop where
  at_ : H b = some (.tup (ns.map V.int))
  z : ns.length = m
  tiny : Tiny ns
theorem KeyAt.up {H H' : Hp} {b : Addr} {ns : List Int} {m : Nat} (e : Same H H') (h : KeyAt H b ns m) : KeyAt H' b ns m := ⟨e _ _ h.at_, h.z, h.tiny⟩
theorem KeyAt.get {H : Hp} {b a : Addr} {ns : List Int} {m : Nat} {kvs : List (List Key × V)} (h : KeyAt H b ns m) (ha : H a = some (.dT kvs)) : DGet H a (.ref b) (valV kvs (kk ns)) := DGet.t ha (by rw [kk_v]; exact h.at_)
theorem KeyAt.keyed {K : PySem.W.Frag} {H : Hp} {b : Addr} {ns : List Int} {m : Nat} (h : KeyAt H b ns m) : Keyed K H (.ref b) m true := keyed_of h.at_ h.z h.tiny
/-- a row, or none -/
def RowV (H : Hp) (v : V) (m : Nat) : Prop := v = .non ∨ ∃ r us, v = .ref r ∧ H r = some (.tup us) ∧ us.length = m
theorem RowV.up {H H' : Hp} {v : V} {m : Nat} (e : Same H H') (h : RowV H v m) : RowV H' v m := h.elim .inl fun ⟨r, us, a, b, c⟩ => .inr ⟨r, us, a, e _ _ b, c⟩
section
variable {P : Program} {w : World} {K : PySem.W.Frag} {mg : Str → Option Value} {base : Heap} {C fI p g U D fT : Addr} {mc : Value}
abbrev s_Truth__init : Stmt := inClass (top 30) 0
theorem sc_Truth__init : FnScope ["self", "table", "region"] ["self", "table", "region"] (defScope s_Truth__init) := ⟨rfl, rfl, rfl, by decide +kernel, rfl, by decide +kernel, by decide +kernel⟩
def sp_uinit (U : Addr) : Sp := fun vs H Q _ => ∃ x dx tx fx, vs = [.ref x, .ref tx, .ref fx] ∧ H x = some (.ins U dx []) ∧ ∀ kd od sd H', Off x H H' → H kd = none → H od = none → H sd = none → kd ≠ od → kd ≠ sd → od ≠ sd → kd ≠ x → od ≠ x → sd ≠ x →
  H' x = some (.ins U dx (tflds tx fx kd od sd 0)) → H' kd = some (.dT []) → H' od = some (.dT []) → H' sd = some (.dT []) → Q .non H'
theorem none_off {x a : Addr} {H H' : Hp} (e : Off x H H') (h : H' a = none) (n : a ≠ x) : H a = none := by
  cases z : H a with
  | none => rfl
  | some o => exact absurd (e _ _ n z) (by rw [h]; exact fun z => nomatch z)
theorem ok_uinit {fd : FuncData} (F : Fun K "__init__" "Truth.__init__" s_Truth__init fT fd) (TU : ClsU K mg U fT) : FnOk P w K mg base CX0 1 fT fd ["self", "table", "region"] (sp_uinit U) := by
  refine F.ok sc_Truth__init (fun vs H Q E h => ?_) (fun cdv A outer s H vs Q E hr h => ?_)
  · obtain ⟨x, dx, tx, fx, rfl, _⟩ := h
    rfl
  · obtain ⟨x, dx, tx, fx, rfl, hx, q⟩ := h
    refine ⟨_, (pss_cons (ps_fld (pv 0) (pv 1) rfl)
 (pss_cons (ps_fld (pv 0) (pv 2) rfl)
 (pss_cons (ps_fld (pv 0) pe_dnewT rfl)
 (pss_cons (ps_fld (pv 0) pe_dnewT rfl)
 (pss_cons (ps_fld (pv 0) pe_dnewT rfl)
 (pss_one (ps_fld (pv 0) pe_int rfl))))))), ?_⟩
    walk_at "rd"
    refine i_fld ?_
    walk_at "rd"
    refine ⟨x, U, dx, _, rfl, hx, TU.cl, TU.nT, (by show 0 < 1000; decide), ?_⟩
    obtain ⟨H1, e1⟩ : ∃ H1, upd H x (.ins U dx (putF "table" (.ref tx) [])) = H1 := ⟨_, rfl⟩
    have o1 : Off x H H1 := by rw [← e1]; exact off_upd
    have h1 : H1 x = some (.ins U dx [("table", .ref tx)]) := by rw [← e1, upd_same]; rfl
    rw [e1]
    walk_at "rd"
    refine i_fld ?_
    walk_at "rd"
    refine ⟨x, U, dx, _, rfl, h1, TU.cl, TU.nR, (by show 1 < 1000; decide), ?_⟩
    obtain ⟨H2, e2⟩ : ∃ H2, upd H1 x (.ins U dx (putF "region" (.ref fx) [("table", .ref tx)])) = H2 := ⟨_, rfl⟩
    have o2 : Off x H H2 := o1.trans (by rw [← e2]; exact off_upd)
    have h2 : H2 x = some (.ins U dx [("table", .ref tx), ("region", .ref fx)]) := by rw [← e2, upd_same]; rfl
    rw [e2]
    walk_at "rd"
    refine i_fld ?_
    unfold tDNewT
    intro kd hkd
    obtain ⟨H3, e3, s3, h3⟩ := new_heap (o := .dT []) hkd
    rw [e3]
    walk_at "rd"
    have kx : kd ≠ x := fun z => by rw [z, h2] at hkd; cases hkd
    refine ⟨x, U, dx, _, rfl, s3 _ _ h2, TU.cl, TU.nK, (by show 2 < 1000; decide), ?_⟩
    obtain ⟨H4, e4⟩ : ∃ H4, upd H3 x (.ins U dx (putF "kept" (.ref kd) [("table", .ref tx), ("region", .ref fx)])) = H4 := ⟨_, rfl⟩
    have o34 : Off x H3 H4 := by rw [← e4]; exact off_upd
    have o4 : Off x H H4 := (o2.trans (off_of s3)).trans o34
    have h4 : H4 x = some (.ins U dx [("table", .ref tx), ("region", .ref fx), ("kept", .ref kd)]) := by rw [← e4, upd_same]; rfl
    have k4 := o34 _ _ kx h3
    rw [e4]
    walk_at "rd"
    refine i_fld ?_
    intro od hod
    obtain ⟨H5, e5, s5, h5⟩ := new_heap (o := .dT []) hod
    rw [e5]
    walk_at "rd"
    have ox : od ≠ x := fun z => by rw [z, h4] at hod; cases hod
    have ko : kd ≠ od := ne_of_none k4 hod
    refine ⟨x, U, dx, _, rfl, s5 _ _ h4, TU.cl, TU.nO, (by show 3 < 1000; decide), ?_⟩
    obtain ⟨H6, e6⟩ : ∃ H6, upd H5 x (.ins U dx (putF "owners" (.ref od) [("table", .ref tx), ("region", .ref fx), ("kept", .ref kd)])) = H6 := ⟨_, rfl⟩
    have o56 : Off x H5 H6 := by rw [← e6]; exact off_upd
    have o46 : Off x H4 H6 := (off_of s5).trans o56
    have h6 : H6 x = some (.ins U dx [("table", .ref tx), ("region", .ref fx), ("kept", .ref kd), ("owners", .ref od)]) := by rw [← e6, upd_same]; rfl
    have k6 := o46 _ _ kx k4
    have d6 := o56 _ _ ox h5
    rw [e6]
    walk_at "rd"
    refine i_fld ?_
    intro sd hsd
    obtain ⟨H7, e7, s7, h7⟩ := new_heap (o := .dT []) hsd
    rw [e7]
    walk_at "rd"
    have sx : sd ≠ x := fun z => by rw [z, h6] at hsd; cases hsd
    have ks : kd ≠ sd := ne_of_none k6 hsd
    have os : od ≠ sd := ne_of_none d6 hsd
    refine ⟨x, U, dx, _, rfl, s7 _ _ h6, TU.cl, TU.nS, (by show 4 < 1000; decide), ?_⟩
    obtain ⟨H8, e8⟩ : ∃ H8, upd H7 x (.ins U dx (putF "stamps" (.ref sd) [("table", .ref tx), ("region", .ref fx), ("kept", .ref kd), ("owners", .ref od)])) = H8 := ⟨_, rfl⟩
    have o78 : Off x H7 H8 := by rw [← e8]; exact off_upd
    have o68 : Off x H6 H8 := (off_of s7).trans o78
    have h8 : H8 x = some (.ins U dx [("table", .ref tx), ("region", .ref fx), ("kept", .ref kd), ("owners", .ref od), ("stamps", .ref sd)]) := by rw [← e8, upd_same]; rfl
    have k8 := o68 _ _ kx k6
    have d8 := o68 _ _ ox d6
    have t8 := o78 _ _ sx h7
    rw [e8]
    walk_at "rd"
    dsimp only
    refine i_fld ?_
    walk_at "rd"
    refine ⟨x, U, dx, _, rfl, h8, TU.cl, TU.nC, (by show 5 < 1000; decide), ?_⟩
    obtain ⟨H9, e9⟩ : ∃ H9, upd H8 x (.ins U dx (putF "changes" (.int 0) [("table", .ref tx), ("region", .ref fx), ("kept", .ref kd), ("owners", .ref od), ("stamps", .ref sd)])) = H9 := ⟨_, rfl⟩
    have o89 : Off x H8 H9 := by rw [← e9]; exact off_upd
    have h9 : H9 x = some (.ins U dx (tflds tx fx kd od sd 0)) := by rw [← e9, upd_same]; rfl
    rw [e9]
    have o49 : Off x H4 H9 := (o46.trans o68).trans o89
    exact q kd od sd H9 (o4.trans o49) (none_off o2 hkd kx) (none_off o4 hod ox) (none_off (o4.trans o46) hsd sx) ko ks os kx ox sx h9 (o89 _ _ kx k8) (o89 _ _ ox d8) (o89 _ _ sx t8)
abbrev spU (U : Addr) : Sp := fun vs H Q E => sp_uinit U (vs ++ []) H Q E
theorem mk_tru {H : Hp} {tx fx : Addr} {t : Tb} {r : Fi.Tr} {Q : VK} (ht : Tab C H tx t) (hf : Fi.Fil D H fx r) (ok : TbOk t) (rc : ∀ c, c ∈ r.cols → c ∈ t.ks) (dp : r.deep ≤ 20)
    (q : ∀ x kd od sd H', Same H H' → H x = none → H kd = none → H od = none → H sd = none → x ≠ kd → x ≠ od → x ≠ sd → Tru U C D H' x kd od sd ⟨t, r, [], [], [], 0⟩ → Q (.ref x) H') :
    ∀ x dx, H x = none → H dx = none → dx ≠ x → spU U [.ref x, .ref tx, .ref fx] (upd (upd H dx (.own x)) x (.ins U dx [])) (fun v H3 => v = .non ∧ Q (.ref x) H3) E0 := by
  intro x dx hx hdx hne
  refine ⟨x, dx, tx, fx, rfl, upd_same, fun kd od sd H' off hk ho hs n1 n2 n3 kx ox sx h1 h2 h3 h4 => ⟨rfl, ?_⟩⟩
  have s : Same H H' := fun b o e => by
    have b1 : b ≠ x := ne_of_none e hx
    have b2 : b ≠ dx := ne_of_none e hdx
    exact off b o b1 (by rw [upd_ne b1, upd_ne b2]; exact e)
  have fresh : ∀ {a : Addr}, a ≠ x → (upd (upd H dx (.own x)) x (.ins U dx [])) a = none → H a = none := fun {a} n h => by
    rw [upd_ne n] at h
    by_cases e : a = dx
    · rw [e, upd_same] at h
      cases h
    · rw [upd_ne e] at h
      exact h
  exact q x kd od sd H' s hx (fresh kx hk) (fresh ox ho) (fresh sx hs) (Ne.symm kx) (Ne.symm ox) (Ne.symm sx) ⟨⟨dx, tx, fx, h1, ht.up s, hf.up s⟩, h2, h3, h4, n1, n2, n3, ok, rc, dp⟩
abbrev s_Truth_rows : Stmt := inClass (top 30) 6
theorem sc_Truth_rows : FnScope ["self"] ["self"] (defScope s_Truth_rows) := ⟨rfl, rfl, rfl, by decide +kernel, rfl, by decide +kernel, by decide +kernel⟩
def sp_urows (U C D : Addr) : Sp := fun vs H Q _ => ∃ x kd od sd z nss, vs = [.ref x] ∧ Tru U C D H x kd od sd z ∧ keysIn z.kvs nss ∧ (∀ ns, ns ∈ nss → ns ≠ []) ∧ nss.length ≤ 1000 ∧ ∀ p H', Same H H' → H' p = some (.tup (rowsOf z.kvs nss)) → Q (.ref p) H'
theorem ok_urows {f fR : Addr} {fd fdR : FuncData} (F : Fun K "rows" "Truth.rows" s_Truth_rows f fd) (TU : ClsU K mg U fT)
    (F_rows_by_key : Fun K "rows_by_key" "rows_by_key" s_rows_by_key fR fdR) (B_rows_by_key : Binds K fdR ["kept"] []) (g_rows_by_key : mg "rows_by_key" = some (.ref fR)) (G_rows_by_key : FnOk P w K mg base CX0 1 fR fdR ["kept"] sp_rows_by_key) :
    FnOk P w K mg base CX0 2 f fd ["self"] (sp_urows U C D) := by
  refine F.ok sc_Truth_rows (fun vs H Q E h => ?_) (fun cdv A outer s H vs Q E hr h => ?_)
  · obtain ⟨x, kd, od, sd, z, nss, rfl, _⟩ := h
    rfl
  · obtain ⟨x, kd, od, sd, z, nss, rfl, tr, ki, hn, hz, q⟩ := h
    refine ⟨_, (pss_one (ps_ret (pe_call G_rows_by_key (hr.mono (by decide)) rfl g_rows_by_key F_rows_by_key.kp B_rows_by_key .nil pass0 (pa_cons (pe_fld (pv 0) rfl) pa_nil)))), ?_⟩
    obtain ⟨dx, tx, fx, hx, ht, hf⟩ := tr.ex
    walk_at "rd"
    refine ⟨_, rfl, x, U, dx, _, _, rfl, hx, TU.cl, TU.nK, lt_kept, ?_⟩
    walk_at "rd"
    exact ⟨kd, z.kvs, nss, rfl, tr.hk, ki, hn, hz, q⟩
abbrev s_Truth_stamp : Stmt := inClass (top 30) 7
theorem sc_Truth_stamp : FnScope ["self"] ["self"] (defScope s_Truth_stamp) := ⟨rfl, rfl, rfl, by decide +kernel, rfl, by decide +kernel, by decide +kernel⟩
def sp_ustamp (U C D : Addr) : Sp := fun vs H Q _ => ∃ x kd od sd z, vs = [.ref x] ∧ Tru U C D H x kd od sd z ∧ Q (.int (z.n : Int)) H
theorem ok_ustamp {f : Addr} {fd : FuncData} (F : Fun K "stamp" "Truth.stamp" s_Truth_stamp f fd) (TU : ClsU K mg U fT) : FnOk P w K mg base CX0 1 f fd ["self"] (sp_ustamp U C D) := by
  refine F.ok sc_Truth_stamp (fun vs H Q E h => ?_) (fun cdv A outer s H vs Q E hr h => ?_)
  · obtain ⟨x, kd, od, sd, z, rfl, _⟩ := h
    rfl
  · obtain ⟨x, kd, od, sd, z, rfl, tr, q⟩ := h
    refine ⟨_, (pss_one (ps_ret (pe_fld (pv 0) rfl))), ?_⟩
    obtain ⟨dx, tx, fx, hx, ht, hf⟩ := tr.ex
    walk_at "rd"
    exact ⟨_, rfl, x, U, dx, _, _, rfl, hx, TU.cl, TU.nC, lt_changes, q⟩
abbrev s_Truth__len : Stmt := inClass (top 30) 11
theorem sc_Truth__len : FnScope ["self"] ["self"] (defScope s_Truth__len) := ⟨rfl, rfl, rfl, by decide +kernel, rfl, by decide +kernel, by decide +kernel⟩
def sp_ulen (U C D : Addr) : Sp := fun vs H Q _ => ∃ x kd od sd z, vs = [.ref x] ∧ Tru U C D H x kd od sd z ∧ Q (.int (z.kvs.length : Int)) H
theorem ok_ulen {f : Addr} {fd : FuncData} (F : Fun K "__len__" "Truth.__len__" s_Truth__len f fd) (TU : ClsU K mg U fT) (z_len : mg "len" = none) : FnOk P w K mg base CX0 1 f fd ["self"] (sp_ulen U C D) := by
  refine F.ok sc_Truth__len (fun vs H Q E h => ?_) (fun cdv A outer s H vs Q E hr h => ?_)
  · obtain ⟨x, kd, od, sd, z, rfl, _⟩ := h
    rfl
  · obtain ⟨x, kd, od, sd, z, rfl, tr, q⟩ := h
    refine ⟨_, (pss_one (ps_ret (pe_callB call_len_dT (by rfl) z_len PySem.boot_len (pa_cons (pe_fld (pv 0) rfl) pa_nil)))), ?_⟩
    obtain ⟨dx, tx, fx, hx, ht, hf⟩ := tr.ex
    walk_at "rd"
    refine ⟨_, rfl, x, U, dx, _, _, rfl, hx, TU.cl, TU.nK, lt_kept, ?_⟩
    walk_at "rd"
    exact ⟨kd, z.kvs, rfl, tr.hk, q⟩
/-- a thing asked for: a key, or none of so many columns -/
def AskV (K : PySem.W.Frag) (H : Hp) (y : V) (m : Nat) (o : Option (List Int)) : Prop := (∃ b ns, y = .ref b ∧ KeyAt H b ns m ∧ o = some ns) ∨ (Keyed K H y m false ∧ o = none)
theorem AskV.up {K : PySem.W.Frag} {H H' : Hp} {y : V} {m : Nat} {o : Option (List Int)} (e : Same H H') (h : AskV K H y m o) : AskV K H' y m o := h.elim (fun ⟨b, ns, a, k, c⟩ => .inl ⟨b, ns, a, k.up e, c⟩) fun ⟨a, b⟩ => .inr ⟨a.up e, b⟩
def gotV (kvs : List (List Key × V)) (o : Option (List Int)) (d : V) : V := match o with
  | some ns => (valV kvs (kk ns)).getD d
  | none => d
def hasV (kvs : List (List Key × V)) (o : Option (List Int)) : Bool := match o with
  | some ns => (valV kvs (kk ns)).isSome
  | none => false
abbrev s_Truth__contains : Stmt := inClass (top 30) 12
theorem sc_Truth__contains : FnScope ["self", "key"] ["self", "key"] (defScope s_Truth__contains) := ⟨rfl, rfl, rfl, by decide +kernel, rfl, by decide +kernel, by decide +kernel⟩
def sp_ucon (K : PySem.W.Frag) (U C D : Addr) : Sp := fun vs H Q _ => ∃ x kd od sd z y o, vs = [.ref x, y] ∧ Tru U C D H x kd od sd z ∧ AskV K H y z.t.ks.length o ∧ ∀ H', Same H H' → Q (.bl (hasV z.kvs o)) H'
theorem ok_ucon {f fK : Addr} {fd fdK : FuncData} (F : Fun K "__contains__" "Truth.__contains__" s_Truth__contains f fd) (T : ClsT K mg C fI mc p g) (TU : ClsU K mg U fT)
    (F_is_key : Fun K "is_key" "is_key" s_is_key fK fdK) (B_is_key : Binds K fdK ["thing", "size"] []) (g_is_key : mg "is_key" = some (.ref fK)) (G_is_key : FnOk P w K mg base CX0 3 fK fdK ["thing", "size"] (sp_is_key K)) (z_len : mg "len" = none) :
    FnOk P w K mg base CX0 4 f fd ["self", "key"] (sp_ucon K U C D) := by
  refine F.ok sc_Truth__contains (fun vs H Q E h => ?_) (fun cdv A outer s H vs Q E hr h => ?_)
  · obtain ⟨x, kd, od, sd, z, y, o, rfl, _⟩ := h
    rfl
  · obtain ⟨x, kd, od, sd, z, y, o, rfl, tr, as, q⟩ := h
    refine ⟨_, (pss_one (ps_ret (pe_and (pe_call G_is_key (hr.mono (by decide)) rfl g_is_key F_is_key.kp B_is_key .nil pass0 (pa_cons (pv 1) (pa_cons (pe_callB call_len_seq (by rfl) z_len PySem.boot_len (pa_cons (pe_fld (pe_fld (pv 0) rfl) rfl) pa_nil)) pa_nil))) (pe_one (pe_cmp (pc_din (Nat.lt_of_le_of_lt (Nat.add_le_add_left (by decide : 1 ≤ 64) _) hr.units) (pv 1) (pe_fld (pv 0) rfl))))))), ?_⟩
    obtain ⟨dx, tx, fx, hx, ⟨dt, tc, tk, tf, tu, htx, hc, hk, _⟩, hf⟩ := tr.ex
    walk_at "rd"
    refine ⟨_, rfl, x, U, dx, _, _, rfl, hx, TU.cl, TU.nT, lt_table, tx, C, dt, _, _, rfl, htx, T.cl, T.nK, lk_key, ?_⟩
    walk_at "rd"
    refine ⟨tk, _, rfl, .inr (SqT.of hk), ?_⟩
    walk_at "rd"
    rw [List.length_map]
    have kz := tr.ok.kz
    rcases as with ⟨b, ns, rfl, ka, rfl⟩ | ⟨kn, rfl⟩
    · refine ⟨_, _, true, rfl, by omega, ka.keyed, fun H1 s1 => ⟨_, rfl, iteT ?_⟩⟩
      walk_at "rd"
      unfold tDIn
      walk_at "rd"
      refine ⟨_, rfl, x, U, dx, _, _, rfl, s1 _ _ hx, TU.cl, TU.nK, lt_kept, ?_⟩
      exact ⟨kd, _, rfl, (ka.up s1).get (s1 _ _ tr.hk), q H1 s1⟩
    · exact ⟨_, _, false, rfl, by omega, kn, fun H1 s1 => ⟨_, rfl, iteF (q H1 s1)⟩⟩
abbrev mCon (K : PySem.W.Frag) (U C D : Addr) : Sp := fun vs H Q E => sp_ucon K U C D (vs ++ []) H Q E
abbrev s_Truth_row_of : Stmt := inClass (top 30) 8
theorem sc_Truth_row_of : FnScope ["self", "key"] ["self", "key"] (defScope s_Truth_row_of) := ⟨rfl, rfl, rfl, by decide +kernel, rfl, by decide +kernel, by decide +kernel⟩
def sp_urow (K : PySem.W.Frag) (U C D : Addr) : Sp := fun vs H Q _ => ∃ x kd od sd z y o, vs = [.ref x, y] ∧ Tru U C D H x kd od sd z ∧ AskV K H y z.t.ks.length o ∧ ∀ H', Same H H' → Q (gotV z.kvs o .non) H'
theorem ok_urow {f mI mU mD mC mW mR mS fL fC : Addr} {fd : FuncData} (F : Fun K "row_of" "Truth.row_of" s_Truth_row_of f fd) (TU : ClsU K mg U fT) (UN : ClsUN K U mI mU mD mC mW mR mS fL fC) (RU_contains : FnR P w K mg base CX0 4 fC (mCon K U C D)) :
    FnOk P w K mg base CX0 5 f fd ["self", "key"] (sp_urow K U C D) := by
  refine F.ok sc_Truth_row_of (fun vs H Q E h => ?_) (fun cdv A outer s H vs Q E hr h => ?_)
  · obtain ⟨x, kd, od, sd, z, y, o, rfl, _⟩ := h
    rfl
  · obtain ⟨x, kd, od, sd, z, y, o, rfl, tr, as, q⟩ := h
    refine ⟨_, (pss_one (ps_ret (pe_ifExp (pt_cmpR (op_inO RU_contains (hr.mono (by decide)) UN.inF UN.inI) (pv 1) (pv 0) (by rfl)) (pe_dget (Nat.lt_of_le_of_lt (Nat.add_le_add_left (by decide : 1 ≤ 64) _) hr.units) (pe_fld (pv 0) rfl) (pv 1) (fun _ _ => rfl)) pe_non))), ?_⟩
    obtain ⟨dx, tx, fx, hx, ht, hf⟩ := tr.ex
    walk_at "rd"
    refine ⟨x, dx, _, rfl, hx, x, kd, od, sd, z, y, o, rfl, tr, as, fun H1 s1 => ⟨_, rfl, ?_⟩⟩
    have qq := q H1 s1
    rcases as with ⟨b, ns, rfl, ka, rfl⟩ | ⟨kn, rfl⟩
    · cases ev : valV z.kvs (kk ns) with
      | none =>
        simp only [hasV, gotV, ev] at qq ⊢
        exact ⟨_, rfl, iteF qq⟩
      | some v =>
        simp only [hasV, gotV, ev] at qq ⊢
        refine ⟨_, rfl, iteT ?_⟩
        unfold tDGet
        walk_at "rd"
        refine ⟨_, rfl, x, U, dx, _, _, rfl, s1 _ _ hx, TU.cl, TU.nK, lt_kept, ?_⟩
        have gg := (ka.up s1).get (s1 _ _ tr.hk)
        rw [ev] at gg
        walk_at "rd"
        exact ⟨kd, v, rfl, gg, qq⟩
    · exact ⟨_, rfl, iteF qq⟩
abbrev s_Truth_stamp_of : Stmt := inClass (top 30) 9
theorem sc_Truth_stamp_of : FnScope ["self", "key"] ["self", "key"] (defScope s_Truth_stamp_of) := ⟨rfl, rfl, rfl, by decide +kernel, rfl, by decide +kernel, by decide +kernel⟩
def sp_ust (K : PySem.W.Frag) (U C D : Addr) : Sp := fun vs H Q _ => ∃ x kd od sd z y o, vs = [.ref x, y] ∧ Tru U C D H x kd od sd z ∧ AskV K H y z.t.ks.length o ∧ ∀ H', Same H H' → Q (gotV z.sts o (.int 0)) H'
theorem ok_ust {f fK : Addr} {fd fdK : FuncData} (F : Fun K "stamp_of" "Truth.stamp_of" s_Truth_stamp_of f fd) (T : ClsT K mg C fI mc p g) (TU : ClsU K mg U fT)
    (F_is_key : Fun K "is_key" "is_key" s_is_key fK fdK) (B_is_key : Binds K fdK ["thing", "size"] []) (g_is_key : mg "is_key" = some (.ref fK)) (G_is_key : FnOk P w K mg base CX0 3 fK fdK ["thing", "size"] (sp_is_key K)) (z_len : mg "len" = none) :
    FnOk P w K mg base CX0 4 f fd ["self", "key"] (sp_ust K U C D) := by
  refine F.ok sc_Truth_stamp_of (fun vs H Q E h => ?_) (fun cdv A outer s H vs Q E hr h => ?_)
  · obtain ⟨x, kd, od, sd, z, y, o, rfl, _⟩ := h
    rfl
  · obtain ⟨x, kd, od, sd, z, y, o, rfl, tr, as, q⟩ := h
    refine ⟨_, (pss_one (ps_ret (pe_ifExp (pt_val (pe_call G_is_key (hr.mono (by decide)) rfl g_is_key F_is_key.kp B_is_key .nil pass0 (pa_cons (pv 1) (pa_cons (pe_callB call_len_seq (by rfl) z_len PySem.boot_len (pa_cons (pe_fld (pe_fld (pv 0) rfl) rfl) pa_nil)) pa_nil)))) (pe_dget2 (Nat.lt_of_le_of_lt (Nat.add_le_add_left (by decide : 1 ≤ 64) _) hr.units) (pe_fld (pv 0) rfl) (pv 1) pe_int ⟨rfl, rfl, rfl, rfl⟩) pe_int))), ?_⟩
    obtain ⟨dx, tx, fx, hx, ⟨dt, tc, tk, tf, tu, htx, hc, hk, _⟩, hf⟩ := tr.ex
    walk_at "rd"
    refine ⟨_, rfl, x, U, dx, _, _, rfl, hx, TU.cl, TU.nT, lt_table, tx, C, dt, _, _, rfl, htx, T.cl, T.nK, lk_key, ?_⟩
    walk_at "rd"
    refine ⟨tk, _, rfl, .inr (SqT.of hk), ?_⟩
    walk_at "rd"
    rw [List.length_map]
    have kz := tr.ok.kz
    rcases as with ⟨b, ns, rfl, ka, rfl⟩ | ⟨kn, rfl⟩
    · refine ⟨_, _, true, rfl, by omega, ka.keyed, fun H1 s1 => ⟨_, rfl, iteT ?_⟩⟩
      unfold tDGet2
      walk_at "rd"
      refine ⟨_, rfl, x, U, dx, _, _, rfl, s1 _ _ hx, TU.cl, TU.nS, lt_stamps, ?_⟩
      refine ⟨sd, rfl, .inr ⟨_, .inl (s1 _ _ tr.hs)⟩, ?_⟩
      walk_at "rd"
      exact ⟨_, (ka.up s1).get (s1 _ _ tr.hs), q H1 s1⟩
    · exact ⟨_, _, false, rfl, by omega, kn, fun H1 s1 => ⟨_, rfl, iteF (q H1 s1)⟩⟩
end
end Spk

set_option Elab.async false
set_option linter.all false
set_option maxRecDepth 100000
set_option maxHeartbeats 4000000
namespace Spk
open PySem L2
local macro_rules | `(tactic| walk_at "rd") => `(tactic| repeat (first
  | with_reducible refine i_seq ?_ | with_reducible refine i_asg ?_ | with_reducible refine i_ret ?_ | with_reducible refine i_ifS ?_ | with_reducible refine i_if ?_
  | with_reducible refine i_for ?_ | with_reducible refine i_iL ?_ | with_reducible refine i_iT ?_ | with_reducible refine i_ckw ?_ | with_reducible refine i_cm ?_ | with_reducible refine And.intro (rfl : V.ref _ = V.ref _) ?_ | with_reducible refine i_rng1 ?_ | with_reducible refine i_bm ?_ | with_reducible refine i_bm0 ?_
  | with_reducible refine i_drop ?_ | with_reducible refine i_next ?_
  | with_reducible refine i_var rfl ?_ | with_reducible refine i_c ?_ | with_reducible refine i_op ?_ | with_reducible refine i_un ?_ | with_reducible refine i_name ?_
  | with_reducible refine i_rI0 ?_ | with_reducible refine i_rU ?_ | with_reducible refine i_rEq rfl ?_ | with_reducible refine i_rNe rfl ?_
  | with_reducible refine i_test ?_ | with_reducible refine i_tB ?_ | with_reducible refine i_and ?_ | with_reducible refine i_or ?_ | with_reducible refine i_not ?_
  | with_reducible refine i_andV ?_ | with_reducible refine i_orV ?_ | with_reducible refine i_notV ?_
  | with_reducible refine i_cons ?_ | with_reducible refine i_nil ?_ | with_reducible refine i_cb ?_ | with_reducible refine i_call ?_ | with_reducible refine i_bl ?_
  | with_reducible refine i_tup ?_ | with_reducible refine i_lst ?_ | with_reducible refine i_par ?_ | with_reducible refine i_gcons ?_ | with_reducible refine i_gnil ?_
  | with_reducible refine And.intro (rfl : V.non = V.non) ?_ | with_reducible refine i_ixT (by assumption) rfl ?_ | with_reducible refine i_ixL (by assumption) rfl ?_ | with_reducible refine i_gtup (by assumption) rfl ?_
  | with_reducible refine i_gsub ?_
  | with_reducible refine Or.inl (Exists.intro _ (And.intro (rfl : [V.int _] = [V.int _]) ?_)) | with_reducible refine Exists.intro _ (And.intro (rfl : [V.int _] = [V.int _]) ?_)
  | with_reducible refine Or.inr (Exists.intro _ (And.intro (rfl : [V.bl _] = [V.bl _]) ?_))
  | with_reducible refine Exists.intro _ (Exists.intro _ (And.intro (rfl : [V.int _, V.int _] = [V.int _, V.int _]) ?_))
  | with_reducible refine Exists.intro _ (Exists.intro _ (And.intro (rfl : [V.ref _] = [V.ref _]) (And.intro (Or.inl (SqL.of (by assumption))) ?_)))
  | with_reducible refine i_rI (show (0 : Int) < _ by assumption) ?_ | with_reducible refine i_rI (show (0 : Int) < _ by decide) ?_
  | with_reducible refine i_rI (pow_ok (Nat.le_of_ble_eq_true rfl) (Nat.le_of_ble_eq_true rfl)) ?_
  | with_reducible refine i_rI (cmulL rfl) ?_))
/-! ### why a change cannot be made, of a table without fixed and unique columns whose keys may come again -/
theorem op_notTr {X : Cx} : OpR X (compareOp .IsNot) (fun x y H Q => ∃ (a : Option Bool) (b : Bool), x = Fi.tv a ∧ y = .bl b ∧ Q (.bl (!decide (a = some b))) H) := by
  intro pins s σ H x y v u Q I rx ry h
  obtain ⟨a, b, rfl, rfl, q⟩ := h
  cases a with
  | some c =>
    refine op_notBl pins s σ H (.bl c) (.bl b) v u Q I rx ry ⟨c, b, rfl, rfl, ?_⟩
    have e : decide (c = b) = decide (some c = some b) := by cases c <;> cases b <;> rfl
    rw [e]
    exact q
  | none =>
    cases (show v = Value.none from rx)
    cases (show u = Value.bool b from ry)
    exact wpAny_isNot_other rfl (fun z => nomatch z) ⟨.bl true, H, I, rfl, q⟩
theorem op_neDK {K : PySem.W.Frag} {X : Cx} (h : X.K = K) (hu : X.A.units + 64 < cLine) : OpR X (compareOp .NotEq) (rNeD K) := by
  subst h
  exact op_neD hu
/-- neither fixed nor unique columns, and keys may come again -/
structure PlainT (z : Tw) : Prop where
  fs : z.t.fs = []
  us : z.t.us = []
  r : z.t.r = true
/-- the values of a key by columns -/
def rhoK (ks : List Str) (ns : List Int) (c : Str) : Option Int := (ks.zip ns).lookup c
theorem merge_val : ∀ (more : List (Key × V)) (acc : List (Key × V)) (k : Key), (more.map (·.1)).Nodup → valV (mergeK acc more) k = (valV more k).or (valV acc k)
  | [], acc, k, _ => by
    show valV acc k = _
    rw [valV_nil, Option.none_or]
  | p :: more, acc, k, nd => by
    rw [List.map_cons, List.nodup_cons] at nd
    show valV (mergeK (putK acc p.1 p.2) more) k = _
    rw [merge_val more _ k nd.2, valV_put]
    by_cases e : k = p.1
    · subst e
      rw [if_pos rfl, valV_pos rfl, Option.some_or]
      have n : valV more p.1 = none := by
        cases ev : valV more p.1 with
        | none => rfl
        | some v => exact absurd (List.mem_map.mpr ⟨_, valV_mem' ev, rfl⟩) nd.1
      rw [n, Option.none_or]
    · rw [if_neg e, valV_neg (Ne.symm e)]
where
  valV_mem' {kvs : List (Key × V)} {k : Key} {v : V} (h : valV kvs k = some v) : (k, v) ∈ kvs := by
    unfold valV at h
    obtain ⟨q, hq, e⟩ := Option.map_eq_some_iff.mp h
    have a := List.find?_some hq
    have b := List.mem_of_find?_eq_some hq
    have ek : q.1 = k := of_decide_eq_true a
    obtain ⟨q1, q2⟩ := q
    dsimp only at e ek
    subst e ek
    exact b
theorem zip_val : ∀ {ks : List Str} {ns : List Int} {c : Str}, c ∈ ks → ks.length = ns.length → valV ((ks.map (Sum.inr : Str → Key)).zip (ns.map V.int)) (Sum.inr c) = some (ov (rhoK ks ns c))
  | [], _, c, h, _ => absurd h List.not_mem_nil
  | k :: ks, [], _, _, e => by simp at e
  | k :: ks, n :: ns, c, h, e => by
    show valV ((Sum.inr k, V.int n) :: (ks.map Sum.inr).zip (ns.map V.int)) (Sum.inr c) = _
    by_cases z : k = c
    · subst z
      rw [valV_pos rfl]
      unfold rhoK
      rw [List.zip_cons_cons, List.lookup_cons_self]
    · rw [valV_neg (fun q => z (Sum.inr.inj q)), zip_val ((List.mem_cons.mp h).resolve_left (Ne.symm z)) (by simpa using e)]
      unfold rhoK
      have b : (c == k) = false := by simpa using Ne.symm z
      rw [List.zip_cons_cons, List.lookup_cons, b]
theorem vals_key {H : Hp} {m : Addr} {ks : List Str} {ns : List Int} (hm : H m = some (.dK (mergeK [] ((ks.map (Sum.inr : Str → Key)).zip (ns.map V.int))))) (nd : ks.Nodup) (e : ks.length = ns.length) : Fi.ValsAt H m (rhoK ks ns) ks := by
  refine ⟨_, hm, fun c hc => ?_⟩
  have n2 : (((ks.map (Sum.inr : Str → Key)).zip (ns.map V.int)).map (·.1)).Nodup := by
    rw [List.map_fst_zip (by rw [List.length_map, List.length_map]; omega)]
    exact List.pairwise_map.mpr (nd.imp fun h e => h (Sum.inr.inj e))
  rw [merge_val _ _ _ n2, zip_val hc e]
  rfl
/-- whether a key passes the region -/
def inR (z : Tw) (ns : List Int) : Bool := decide (z.r.sem (rhoK z.t.ks ns) = some true)
/-- the first reason for which a change cannot be made -/
def dueW (z : Tw) (w : Str) (ns : List Int) : Option Str :=
  if inR z ns = false then some "region" else if w = "insert" then (if (valV z.kvs (kk ns)).isSome = true then some "present" else none) else if (valV z.kvs (kk ns)).isSome = true then none else some "missing"
def orS : Option Str → V
  | none => .non
  | some w => .str w
section
variable {P : Program} {w : World} {K : PySem.W.Frag} {mg : Str → Option Value} {base : Heap} {C fI p g U D fT : Addr} {mc : Value} {hI hK hC mI mU mD mC' mW mO mS fL fC : Addr}
abbrev s_unique_places : Stmt := top 34
theorem sc_unique_places : FnScope ["table", "row", "values", "column", "value"] ["table", "row"] (defScope s_unique_places) := ⟨rfl, rfl, rfl, by decide +kernel, rfl, by decide +kernel, by decide +kernel⟩
def sp_places (C : Addr) : Sp := fun vs H Q _ => ∃ tx v, ∃ t : Tb, vs = [.ref tx, v] ∧ Tab C H tx t ∧ t.us = [] ∧ RowV H v t.cs.length ∧ ∀ l H', Same H H' → H' l = some (.lst []) → Q (.ref l) H'
theorem ok_places {f : Addr} {fd : FuncData} (F : Fun K "unique_places" "unique_places" s_unique_places f fd) (T : ClsT K mg C fI mc p g) (CN : ClsN K C hI hK hC) (R_cut : FnR P w K mg base CX0 1 hC (mC K C)) (z_zip : mg "zip" = none) :
    FnOk P w K mg base CX0 2 f fd ["table", "row"] (sp_places C) := by
  refine F.ok sc_unique_places (fun vs H Q E h => ?_) (fun cdv A outer s H vs Q E hr h => ?_)
  · obtain ⟨tx, v, t, rfl, _⟩ := h
    rfl
  · obtain ⟨tx, v, ⟨cs, ks, fs, us0, r0⟩, rfl, tb, eu, rv, q⟩ := h
    dsimp only at eu rv
    subst eu
    refine ⟨_, (pss_cons (ps_if (pt_cmpR op_isN (pv 1) pe_non (nomark _))
 (pss_one (ps_ret (pe_lst pa_nil)))
 pss_nil)
 (pss_cons (ps_set (i := 2) sc_unique_places.nd rfl (Or.inl rfl) (pe_methR (pv 0) T.cl CN.cut R_cut (hr.mono (by decide)) pass0 (pa_cons (pv 1) (pa_cons (pe_fld (pv 0) rfl) pa_nil))))
 (pss_one (ps_ret (pe_lc (own := [("column", 3), ("value", 4)]) (g := gTup K 2 (gCons (gName 3) (gCons (gName 4) gNil))) rfl sc_unique_places.nd (RZ.pi_zipA (by rfl) z_zip (pa_cons (pe_fld (pv 0) rfl) (pa_cons (pv 2) pa_nil))) (blkOk_by (own := [("column", 3), ("value", 4)]) (N := ["table", "row", "values", "column", "value"]) (sc := defScope s_unique_places) (by decide +kernel)) (fun _ _ _ _ _ => pg_tup (by rfl) (pgs_cons (pg_name (i := 3) sc_unique_places.nd rfl (Or.inl rfl)) (pgs_cons (pg_name (i := 4) sc_unique_places.nd rfl (Or.inl rfl)) pgs_nil))) (fun _ _ _ _ _ => pts_one (pt_cmpR op_notN (pv 4) pe_non (nomark _))) (fun _ _ _ _ _ => (pe_tup (pa_cons (pv 3) (pa_cons (pv 4) pa_nil))))))))), ?_⟩
    walk_at "rd"
    rcases rv with rfl | ⟨r, us, rfl, hr', hl⟩
    · refine iteT ?_
      walk_at "rd"
      refine ⟨Nat.zero_le _, fun l hl => ?_⟩
      obtain ⟨H1, e1, s1, h1⟩ := new_heap (o := .lst []) hl
      rw [e1]
      exact q l H1 s1 h1
    · refine iteF ?_
      obtain ⟨dt, tc, tk, tf, tu, htx, hc, hk, hf0, hu0⟩ := id tb
      walk_at "rd"
      refine i_methR ?_
      walk_at "rd"
      refine ⟨tx, dt, _, rfl, htx, lk_meth (.inl rfl), ?_⟩
      walk_at "rd"
      refine ⟨_, rfl, tx, C, dt, _, _, rfl, htx, T.cl, T.nU, lk_unique, ?_⟩
      walk_at "rd"
      refine ⟨tx, r, tu, _, us, [], rfl, tb, hr', hl, SqT.of hu0, Nat.zero_le _, fun c hc => absurd hc List.not_mem_nil, fun q1 H1 s1 h1 => ?_⟩
      walk_at "rd"
      unfold tLc
      refine i_zipA ?_
      walk_at "rd"
      refine ⟨_, rfl, tx, C, dt, _, _, rfl, s1 _ _ htx, T.cl, T.nU, lk_unique, ?_⟩
      walk_at "rd"
      refine ⟨tu, q1, _, _, rfl, .inr ⟨SqT.of (s1 _ _ hu0), SqT.of h1, fun Dl hD => ?_⟩⟩
      obtain ⟨H2, e2, s2, h2⟩ := new_heap (o := .lst []) hD
      refine lc_it (walk_zipT (K := K) (a := tu) (b := q1) (xs := []) (ys := []) (n := 0) rfl rfl) (fun i H' => Same H1 H' ∧ H' Dl = some (.lst [])) ⟨by rw [e2]; exact s2, by rw [e2]; exact h2⟩ ?_ ?_ ?_
      · rintro i H' _ ⟨s3, _⟩
        exact ⟨SqT.of (s3 _ _ (s1 _ _ hu0)), SqT.of (s3 _ _ h1)⟩
      · rintro i y H3 _ hi _ _
        exact absurd hi (Nat.not_lt_zero _)
      · rintro H3 ⟨s3, h3⟩
        walk_at "rd"
        exact q Dl H3 (fun b o z => s3 _ _ (s1 _ _ z)) h3
abbrev s_is_taken : Stmt := top 38
theorem sc_is_taken : FnScope ["truth", "key", "row", "place"] ["truth", "key", "row"] (defScope s_is_taken) := ⟨rfl, rfl, rfl, by decide +kernel, rfl, by decide +kernel, by decide +kernel⟩
def sp_taken (U C D : Addr) : Sp := fun vs H Q _ => ∃ x kd od sd z b v, vs = [.ref x, b, v] ∧ Tru U C D H x kd od sd z ∧ z.t.us = [] ∧ RowV H v z.t.cs.length ∧ ∀ H', Same H H' → Q (.bl false) H'
theorem ok_taken {f fP : Addr} {fd fdP : FuncData} (F : Fun K "is_taken" "is_taken" s_is_taken f fd) (TU : ClsU K mg U fT)
    (F_unique_places : Fun K "unique_places" "unique_places" s_unique_places fP fdP) (B_unique_places : Binds K fdP ["table", "row"] []) (g_unique_places : mg "unique_places" = some (.ref fP)) (G_unique_places : FnOk P w K mg base CX0 2 fP fdP ["table", "row"] (sp_places C)) (z_any : mg "any" = none) :
    FnOk P w K mg base CX0 3 f fd ["truth", "key", "row"] (sp_taken U C D) := by
  refine F.ok sc_is_taken (fun vs H Q E h => ?_) (fun cdv A outer s H vs Q E hr h => ?_)
  · obtain ⟨x, kd, od, sd, z, b, v, rfl, _⟩ := h
    rfl
  · obtain ⟨x, kd, od, sd, z, b, v, rfl, tr, eu, rv, q⟩ := h
    refine ⟨_, (pss_one (ps_ret (pe_callB (cr_any rfl) (by rfl) z_any (by decide +kernel) (pa_cons (pe_lc (own := [("place", 3)]) (g := gName 3) (tt := tYes) rfl sc_is_taken.nd (pi_list (pe_call G_unique_places (hr.mono (by decide)) rfl g_unique_places F_unique_places.kp B_unique_places .nil pass0 (pa_cons (pe_fld (pv 0) rfl) (pa_cons (pv 2) pa_nil)))) (blkOk_by (own := [("place", 3)]) (N := ["truth", "key", "row", "place"]) (sc := defScope s_is_taken) (by decide +kernel)) (fun _ _ _ _ _ => pg_name (i := 3) sc_is_taken.nd rfl (Or.inl rfl)) (fun _ _ _ _ _ => pts_nil) (fun _ _ _ _ _ => (pe_cmpR (op_neDK (K := K) rfl hr.units) (pe_dget2 (Nat.lt_of_le_of_lt (Nat.add_le_add_left (by decide : 1 ≤ 64) _) hr.units) (pe_fldK (K := K) rfl (pv 0) rfl) (pv 3) (pv 1) ⟨rfl, rfl, rfl, rfl⟩) (pv 1) (nomark _)))) pa_nil)))), ?_⟩
    obtain ⟨dx, tx, fx, hx, ht, hf⟩ := tr.ex
    walk_at "rd"
    unfold tLc
    walk_at "rd"
    refine ⟨_, rfl, x, U, dx, _, _, rfl, hx, TU.cl, TU.nT, lt_table, ?_⟩
    walk_at "rd"
    refine ⟨tx, v, z.t, rfl, ht, eu, rv, fun l H1 s1 h1 => ?_⟩
    refine ⟨l, rfl, ⟨_, SqL.of h1⟩, fun Dl hD => ?_⟩
    obtain ⟨H2, e2, s2, h2⟩ := new_heap (o := .lst []) hD
    refine lc_list (K := K) (a := l) (xs := []) (fun i H' => Same H1 H' ∧ H' Dl = some (.lst [])) ⟨by rw [e2]; exact s2, by rw [e2]; exact h2⟩ ?_ ?_ ?_
    · rintro i H' _ ⟨s3, _⟩
      exact SqL.of (s3 _ _ h1)
    · rintro i y H3 hy _
      simp at hy
    · rintro H3 ⟨s3, h3⟩
      walk_at "rd"
      exact ⟨Dl, [], rfl, SqL.of h3, q H3 fun b o z => s3 _ _ (s1 _ _ z)⟩
abbrev s_why_not_inserted : Stmt := top 36
theorem sc_why_not_inserted : FnScope ["truth", "key", "row"] ["truth", "key", "row"] (defScope s_why_not_inserted) := ⟨rfl, rfl, rfl, by decide +kernel, rfl, by decide +kernel, by decide +kernel⟩
def sp_wni (U C D : Addr) : Sp := fun vs H Q _ => ∃ x kd od sd z b ns v, vs = [.ref x, .ref b, v] ∧ Tru U C D H x kd od sd z ∧ PlainT z ∧ KeyAt H b ns z.t.ks.length ∧ RowV H v z.t.cs.length ∧ ∀ H', Same H H' → Q (orS (if (valV z.kvs (kk ns)).isSome = true then some "present" else none)) H'
theorem ok_wni {f fK : Addr} {fd fdK : FuncData} (F : Fun K "why_not_inserted" "why_not_inserted" s_why_not_inserted f fd) (T : ClsT K mg C fI mc p g) (TU : ClsU K mg U fT) (UN : ClsUN K U mI mU mD mC' mW mO mS fL fC) (RU_contains : FnR P w K mg base CX0 4 fC (mCon K U C D))
    (RU_stamp_of : FnR P w K mg base CX0 4 mS (fun vs H Q E => sp_ust K U C D (vs ++ []) H Q E))
    (F_is_taken : Fun K "is_taken" "is_taken" s_is_taken fK fdK) (B_is_taken : Binds K fdK ["truth", "key", "row"] []) (g_is_taken : mg "is_taken" = some (.ref fK)) (G_is_taken : FnOk P w K mg base CX0 3 fK fdK ["truth", "key", "row"] (sp_taken U C D)) :
    FnOk P w K mg base CX0 5 f fd ["truth", "key", "row"] (sp_wni U C D) := by
  refine F.ok sc_why_not_inserted (fun vs H Q E h => ?_) (fun cdv A outer s H vs Q E hr h => ?_)
  · obtain ⟨x, kd, od, sd, z, b, ns, v, rfl, _⟩ := h
    rfl
  · obtain ⟨x, kd, od, sd, z, b, ns, v, rfl, tr, ba, ka, rv, q⟩ := h
    refine ⟨_, (pss_cons (ps_if (pt_cmpR (op_inO RU_contains (hr.mono (by decide)) UN.inF UN.inI) (pv 1) (pv 0) (by rfl))
 (pss_one (ps_ret pe_str))
 pss_nil)
 (pss_cons (ps_if (PW.pt (pw_and (pt_not (pt_val (pe_fld (pe_fld (pv 0) rfl) rfl))) (pw_and1 (pt_cmpR op_gt (pe_methR (pv 0) TU.cl UN.stamp_of RU_stamp_of (hr.mono (by decide)) pass0 (pa_cons (pv 1) pa_nil)) pe_int (nomark _)))))
 (pss_one (ps_ret pe_str))
 pss_nil)
 (pss_one (ps_ret (pe_ifExp (pt_val (pe_call G_is_taken (hr.mono (by decide)) rfl g_is_taken F_is_taken.kp B_is_taken .nil pass0 (pa_cons (pv 0) (pa_cons (pv 1) (pa_cons (pv 2) pa_nil))))) pe_str pe_non))))), ?_⟩
    obtain ⟨dx, tx, fx, hx, ⟨dt, tc, tk, tf, tu, htx, hc, hk, hf0, hu0⟩, hf⟩ := tr.ex
    walk_at "rd"
    refine ⟨x, dx, _, rfl, hx, x, kd, od, sd, z, .ref b, some ns, rfl, tr, .inl ⟨b, ns, rfl, ka, rfl⟩, fun H1 s1 => ⟨_, rfl, ?_⟩⟩
    have qq := q H1
    cases ev : valV z.kvs (kk ns) with
    | some v0 =>
      simp only [hasV, ev] at qq ⊢
      exact ⟨_, rfl, iteT (qq s1)⟩
    | none =>
      simp only [hasV, ev] at qq ⊢
      refine ⟨_, rfl, iteF ?_⟩
      walk_at "rd"
      rw [ba.r] at htx
      refine ⟨_, rfl, x, U, dx, _, _, rfl, s1 _ _ hx, TU.cl, TU.nT, lt_table, tx, C, dt, _, _, rfl, s1 _ _ htx, T.cl, T.nR, lk_reuse, true, rfl, ?_⟩
      refine iteF ?_
      refine iteF ?_
      walk_at "rd"
      refine ⟨x, kd, od, sd, z, .ref b, v, rfl, tr.up s1, ba.us, rv.up s1, fun H2 s2 => ⟨_, rfl, iteF ?_⟩⟩
      have q2 := q H2 (fun b o z => s2 _ _ (s1 _ _ z))
      rw [ev] at q2
      exact q2
abbrev s_why_not_updated : Stmt := top 37
theorem sc_why_not_updated : FnScope ["truth", "key", "row", "table"] ["truth", "key", "row"] (defScope s_why_not_updated) := ⟨rfl, rfl, rfl, by decide +kernel, rfl, by decide +kernel, by decide +kernel⟩
def sp_wnu (U C D : Addr) : Sp := fun vs H Q _ => ∃ x kd od sd z b ns r us r0 us0, vs = [.ref x, .ref b, .ref r] ∧ Tru U C D H x kd od sd z ∧ PlainT z ∧ KeyAt H b ns z.t.ks.length ∧ H r = some (.tup us) ∧ us.length = z.t.cs.length ∧ valV z.kvs (kk ns) = some (.ref r0) ∧ H r0 = some (.tup us0) ∧ us0.length = z.t.cs.length ∧
  ∀ H', Same H H' → Q .non H'
theorem ok_wnu {f fK : Addr} {fd fdK : FuncData} (F : Fun K "why_not_updated" "why_not_updated" s_why_not_updated f fd) (T : ClsT K mg C fI mc p g) (CN : ClsN K C hI hK hC) (R_cut : FnR P w K mg base CX0 1 hC (mC K C)) (TU : ClsU K mg U fT) (UN : ClsUN K U mI mU mD mC' mW mO mS fL fC)
    (RU_row_of : FnR P w K mg base CX0 5 mO (fun vs H Q E => sp_urow K U C D (vs ++ []) H Q E))
    (F_is_taken : Fun K "is_taken" "is_taken" s_is_taken fK fdK) (B_is_taken : Binds K fdK ["truth", "key", "row"] []) (g_is_taken : mg "is_taken" = some (.ref fK)) (G_is_taken : FnOk P w K mg base CX0 3 fK fdK ["truth", "key", "row"] (sp_taken U C D)) :
    FnOk P w K mg base CX0 6 f fd ["truth", "key", "row"] (sp_wnu U C D) := by
  refine F.ok sc_why_not_updated (fun vs H Q E h => ?_) (fun cdv A outer s H vs Q E hr h => ?_)
  · obtain ⟨x, kd, od, sd, z, b, ns, r, us, r0, us0, rfl, _⟩ := h
    rfl
  · obtain ⟨x, kd, od, sd, z, b, ns, r, us, r0, us0, rfl, tr, ba, ka, hr', hl, ev, hr0, hl0, q⟩ := h
    refine ⟨_, (pss_cons (ps_set (i := 3) sc_why_not_updated.nd rfl (Or.inl rfl) (pe_fld (pv 0) rfl))
 (pss_cons (ps_if (pt_cmpR (op_neD hr.units) (pe_methR (pv 3) T.cl CN.cut R_cut (hr.mono (by decide)) pass0 (pa_cons (pv 2) (pa_cons (pe_fld (pv 3) rfl) pa_nil))) (pe_methR (pv 3) T.cl CN.cut R_cut (hr.mono (by decide)) pass0 (pa_cons (pe_methR (pv 0) TU.cl UN.row_of RU_row_of (hr.mono (by decide)) pass0 (pa_cons (pv 1) pa_nil)) (pa_cons (pe_fld (pv 3) rfl) pa_nil))) (nomark _))
 (pss_one (ps_ret pe_str))
 pss_nil)
 (pss_one (ps_ret (pe_ifExp (pt_val (pe_call G_is_taken (hr.mono (by decide)) rfl g_is_taken F_is_taken.kp B_is_taken .nil pass0 (pa_cons (pv 0) (pa_cons (pv 1) (pa_cons (pv 2) pa_nil))))) pe_str pe_non))))), ?_⟩
    obtain ⟨dx, tx, fx, hx, ht, hf⟩ := tr.ex
    obtain ⟨dt, tc, tk, tf, tu, htx, hc, hk, hf0, hu0⟩ := id ht
    rw [ba.fs] at hf0
    walk_at "rd"
    refine ⟨_, rfl, x, U, dx, _, _, rfl, hx, TU.cl, TU.nT, lt_table, ?_⟩
    walk_at "rd"
    refine i_methR ?_
    walk_at "rd"
    refine ⟨tx, dt, _, rfl, htx, lk_meth (.inl rfl), ?_⟩
    walk_at "rd"
    refine ⟨_, rfl, tx, C, dt, _, _, rfl, htx, T.cl, T.nF, lk_fixed, ?_⟩
    walk_at "rd"
    refine ⟨tx, r, tf, z.t, us, [], rfl, ht, hr', hl, SqT.of hf0, Nat.zero_le _, fun c hc => absurd hc List.not_mem_nil, fun q1 H1 s1 h1 => ?_⟩
    refine i_methR ?_
    walk_at "rd"
    refine ⟨tx, dt, _, rfl, s1 _ _ htx, lk_meth (.inl rfl), ?_⟩
    walk_at "rd"
    refine i_methR ?_
    walk_at "rd"
    refine ⟨x, dx, _, rfl, s1 _ _ hx, lt_meth (.inr (.inr (.inr (.inr (.inr (.inl rfl)))))), ?_⟩
    walk_at "rd"
    refine ⟨x, kd, od, sd, z, .ref b, some ns, rfl, tr.up s1, .inl ⟨b, ns, rfl, ka.up s1, rfl⟩, fun H2 s2 => ?_⟩
    have s02 : Same H H2 := fun b o z => s2 _ _ (s1 _ _ z)
    simp only [gotV, ev, Option.getD_some]
    walk_at "rd"
    refine ⟨_, rfl, tx, C, dt, _, _, rfl, s02 _ _ htx, T.cl, T.nF, lk_fixed, ?_⟩
    walk_at "rd"
    refine ⟨tx, r0, tf, z.t, us0, [], rfl, ht.up s02, s02 _ _ hr0, hl0, SqT.of (s02 _ _ hf0), Nat.zero_le _, fun c hc => absurd hc List.not_mem_nil, fun q2 H3 s3 h3 => ?_⟩
    have s13 : Same H1 H3 := fun b o z => s3 _ _ (s2 _ _ z)
    have s03 : Same H H3 := fun b o z => s3 _ _ (s02 _ _ z)
    refine ne_same (us := []) (s13 _ _ h1) h3 (fun v hv => absurd hv List.not_mem_nil) ⟨false, rfl, iteF ?_⟩
    walk_at "rd"
    refine ⟨x, kd, od, sd, z, .ref b, .ref r, rfl, tr.up s03, ba.us, .inr ⟨r, us, rfl, s03 _ _ hr', hl⟩, fun H4 s4 => ⟨_, rfl, iteF ?_⟩⟩
    exact q H4 (fun b o z => s4 _ _ (s03 _ _ z))
end
end Spk

set_option Elab.async false
set_option linter.all false
set_option maxRecDepth 100000
set_option maxHeartbeats 4000000
namespace Spk
open PySem L2
local macro_rules | `(tactic| walk_at "rd") => `(tactic| repeat (first
  | with_reducible refine i_seq ?_ | with_reducible refine i_asg ?_ | with_reducible refine i_ret ?_ | with_reducible refine i_ifS ?_ | with_reducible refine i_if ?_
  | with_reducible refine i_for ?_ | with_reducible refine i_iL ?_ | with_reducible refine i_iT ?_ | with_reducible refine i_ckw ?_ | with_reducible refine i_cm ?_ | with_reducible refine And.intro (rfl : V.ref _ = V.ref _) ?_ | with_reducible refine i_rng1 ?_ | with_reducible refine i_bm ?_ | with_reducible refine i_bm0 ?_
  | with_reducible refine i_drop ?_ | with_reducible refine i_next ?_
  | with_reducible refine i_var rfl ?_ | with_reducible refine i_c ?_ | with_reducible refine i_op ?_ | with_reducible refine i_un ?_ | with_reducible refine i_name ?_
  | with_reducible refine i_rI0 ?_ | with_reducible refine i_rU ?_ | with_reducible refine i_rEq rfl ?_ | with_reducible refine i_rNe rfl ?_
  | with_reducible refine i_test ?_ | with_reducible refine i_tB ?_ | with_reducible refine i_and ?_ | with_reducible refine i_or ?_ | with_reducible refine i_not ?_
  | with_reducible refine i_andV ?_ | with_reducible refine i_orV ?_ | with_reducible refine i_notV ?_
  | with_reducible refine i_cons ?_ | with_reducible refine i_nil ?_ | with_reducible refine i_cb ?_ | with_reducible refine i_call ?_ | with_reducible refine i_bl ?_
  | with_reducible refine i_tup ?_ | with_reducible refine i_lst ?_ | with_reducible refine i_par ?_ | with_reducible refine i_gcons ?_ | with_reducible refine i_gnil ?_
  | with_reducible refine And.intro (rfl : V.non = V.non) ?_ | with_reducible refine i_ixT (by assumption) rfl ?_ | with_reducible refine i_ixL (by assumption) rfl ?_ | with_reducible refine i_gtup (by assumption) rfl ?_
  | with_reducible refine i_gsub ?_
  | with_reducible refine Or.inl (Exists.intro _ (And.intro (rfl : [V.int _] = [V.int _]) ?_)) | with_reducible refine Exists.intro _ (And.intro (rfl : [V.int _] = [V.int _]) ?_)
  | with_reducible refine Or.inr (Exists.intro _ (And.intro (rfl : [V.bl _] = [V.bl _]) ?_))
  | with_reducible refine Exists.intro _ (Exists.intro _ (And.intro (rfl : [V.int _, V.int _] = [V.int _, V.int _]) ?_))
  | with_reducible refine Exists.intro _ (Exists.intro _ (And.intro (rfl : [V.ref _] = [V.ref _]) (And.intro (Or.inl (SqL.of (by assumption))) ?_)))
  | with_reducible refine i_rI (show (0 : Int) < _ by assumption) ?_ | with_reducible refine i_rI (show (0 : Int) < _ by decide) ?_
  | with_reducible refine i_rI (pow_ok (Nat.le_of_ble_eq_true rfl) (Nat.le_of_ble_eq_true rfl)) ?_
  | with_reducible refine i_rI (cmulL rfl) ?_))
/-! ### changes -/
/-- what InvalidChange's class tells -/
structure XCt (K : PySem.W.Frag) (mg : Str → Option Value) (CC fX : Addr) : Prop where
  o : OexC K CC
  iC : PySem.W.findIn K (.ref CC) "__init__" = some (some (.ref fX))
  tI : PySem.W.typeIn K (.ref fX) = some (.type "function")
  g : mg "InvalidChange" = some (.ref CC)
  noR : PySem.W.findIn K (.ref CC) "reason" = some none
/-- but for the made rows at x, their rows and their stamps all is as it was -/
def OffT (x kd sd : Addr) (H H' : Hp) : Prop := ∀ c o, c ≠ x → c ≠ kd → c ≠ sd → H c = some o → H' c = some o
theorem OffT.trans {x kd sd : Addr} {H H1 H2 : Hp} (a : OffT x kd sd H H1) (b : OffT x kd sd H1 H2) : OffT x kd sd H H2 := fun c o n1 n2 n3 h => b c o n1 n2 n3 (a c o n1 n2 n3 h)
theorem Same.offT {x kd sd : Addr} {H H' : Hp} (e : Same H H') : OffT x kd sd H H' := fun c o _ _ _ h => e c o h
/-- where made rows stand -/
structure Spot (H : Hp) (x kd sd : Addr) : Prop where
  hx : ∃ U dx tx fx kd od sd n, H x = some (.ins U dx (tflds tx fx kd od sd n))
  hk : ∃ l, H kd = some (.dT l)
  hs : ∃ l, H sd = some (.dT l)
theorem Tru.spot {U C D : Addr} {H : Hp} {x kd od sd : Addr} {z : Tw} (h : Tru U C D H x kd od sd z) : Spot H x kd sd := by
  obtain ⟨dx, tx, fx, hx, _⟩ := h.ex
  exact ⟨⟨U, dx, tx, fx, kd, od, sd, _, hx⟩, ⟨_, h.hk⟩, ⟨_, h.hs⟩⟩
theorem OffT.get {x kd sd : Addr} {H H' : Hp} (o : OffT x kd sd H H') (sp : Spot H x kd sd) {a : Addr} {v : HO} (h : H a = some v) (nd : ∀ l, v ≠ .dT l) (ni : ∀ U dx tx fx kd od sd n, v ≠ .ins U dx (tflds tx fx kd od sd n)) : H' a = some v := by
  obtain ⟨⟨U, dx, tx, fx, kd', od, sd', n, hx⟩, ⟨l1, hk⟩, ⟨l2, hs⟩⟩ := sp
  refine o a v (fun e => ?_) (fun e => ?_) (fun e => ?_) h
  · subst e
    rw [hx] at h
    exact ni _ _ _ _ _ _ _ _ (Option.some.inj h).symm
  · subst e
    rw [hk] at h
    exact nd _ (Option.some.inj h).symm
  · subst e
    rw [hs] at h
    exact nd _ (Option.some.inj h).symm
theorem OffT.tup {x kd sd : Addr} {H H' : Hp} (o : OffT x kd sd H H') (sp : Spot H x kd sd) {a : Addr} {xs : List V} (h : H a = some (.tup xs)) : H' a = some (.tup xs) := o.get sp h (fun _ z => nomatch z) fun _ _ _ _ _ _ _ _ z => nomatch z
theorem OffT.lst {x kd sd : Addr} {H H' : Hp} (o : OffT x kd sd H H') (sp : Spot H x kd sd) {a : Addr} {xs : List V} (h : H a = some (.lst xs)) : H' a = some (.lst xs) := o.get sp h (fun _ z => nomatch z) fun _ _ _ _ _ _ _ _ z => nomatch z
theorem ins_ne {U C dx dt : Addr} {k : Str} {v : V} {fs : List (Str × V)} {tx fx kd od sd : Addr} {n : Nat} (hk : k ≠ "table") : HO.ins C dt ((k, v) :: fs) ≠ .ins U dx (tflds tx fx kd od sd n) := fun e => by
  have e3 : (k, v) :: fs = tflds tx fx kd od sd n := by injection e
  exact hk (Prod.mk.inj (List.cons.inj e3).1).1
theorem Tab.offT {C x kd sd : Addr} {H H' : Hp} (o : OffT x kd sd H H') (sp : Spot H x kd sd) {a : Addr} {t : Tb} (h : Tab C H a t) : Tab C H' a t := by
  obtain ⟨dx, tc, tk, tf, tu, h1, ⟨ob, h2, r⟩, h3, h4, h5⟩ := h
  exact ⟨dx, tc, tk, tf, tu, o.get sp h1 (fun _ z => nomatch z) (fun _ _ _ _ _ _ _ _ => ins_ne (by decide)), ⟨ob, o.get sp h2 (fun _ z => nomatch z) (fun _ _ _ _ _ _ _ _ z => nomatch z), r⟩, o.tup sp h3, o.tup sp h4, o.tup sp h5⟩
theorem Fil.offT {D x kd sd : Addr} {H H' : Hp} (o : OffT x kd sd H H') (sp : Spot H x kd sd) {a : Addr} {t : Fi.Tr} (h : Fi.Fil D H a t) : Fi.Fil D H' a t := by
  obtain ⟨dx, v, q, cs, h1, h2, h3, h4⟩ := h
  refine ⟨dx, v, q, cs, o.get sp h1 (fun _ z => nomatch z) (fun _ _ _ _ _ _ _ _ => ins_ne (by decide)), h2.via (fun a xs z => o.tup sp z) (fun a ps z => ?_), o.tup sp h3, h4⟩
  obtain ⟨vs, hv, tv⟩ := z
  exact ⟨vs, o.tup sp hv, Paired.mapP tv fun _ _ ⟨a, e, ha⟩ => ⟨a, e, o.tup sp ha⟩⟩
/-- what is wished: a key to delete, a row to insert or to write -/
def Wish (H : Hp) (t : Tb) (w : Str) (y : V) (ns : List Int) : Prop :=
  (w = "delete" ∧ ∃ b, y = .ref b ∧ KeyAt H b ns t.ks.length) ∨
  ((w = "insert" ∨ w = "update") ∧ ∃ r us, y = .ref r ∧ H r = some (.tup us) ∧ RowOk t.ks t.cs us ∧ picked t.cs us t.ks = ns.map V.int ∧ Tiny ns ∧ ns.length = t.ks.length)
theorem Wish.up {H H' : Hp} {t : Tb} {w : Str} {y : V} {ns : List Int} (e : Same H H') (h : Wish H t w y ns) : Wish H' t w y ns := by
  rcases h with ⟨a, b, c, k⟩ | ⟨a, r, us, b, c, d⟩
  · exact .inl ⟨a, b, c, k.up e⟩
  · exact .inr ⟨a, r, us, b, e _ _ c, d⟩
/-- the rows are rows -/
def RowsIn (H : Hp) (z : Tw) : Prop := ∀ k v, valV z.kvs k = some v → ∃ r us, v = .ref r ∧ H r = some (.tup us) ∧ us.length = z.t.cs.length
theorem RowsIn.up {H H' : Hp} {z : Tw} (e : Same H H') (h : RowsIn H z) : RowsIn H' z := fun k v a => by
  obtain ⟨r, us, b, c, d⟩ := h k v a
  exact ⟨r, us, b, e _ _ c, d⟩
theorem RowsIn.rowV {H : Hp} {z : Tw} (h : RowsIn H z) (k : List Key) : RowV H ((valV z.kvs k).getD .non) z.t.cs.length := by
  cases e : valV z.kvs k with
  | none => exact .inl rfl
  | some v => exact .inr (h k v e)
/-- the made rows behind a change -/
def chg (z : Tw) (w : Str) (ns : List Int) (y : V) : Tw :=
  { z with kvs := if w = "delete" then dropK z.kvs (kk ns) else putK z.kvs (kk ns) y, sts := putK z.sts (kk ns) (.int ((z.n + 1 : Nat) : Int)), n := z.n + 1 }
section
variable {P : Program} {w : World} {K : PySem.W.Frag} {mg : Str → Option Value} {base : Heap} {C fI p g U D fT fF CC fX : Addr} {mc : Value} {hI hK hC mI mU mD mC' mW mO mS fL fC : Addr}
abbrev s_InvalidChange__init : Stmt := inClass (top 4) 0
theorem sc_InvalidChange__init : FnScope ["self", "reason"] ["self", "reason"] (defScope s_InvalidChange__init) := ⟨rfl, rfl, rfl, by decide +kernel, rfl, by decide +kernel, by decide +kernel⟩
theorem ok_cinit {fd : FuncData} (F : Fun K "__init__" "InvalidChange.__init__" s_InvalidChange__init fX fd) (XC : XCt K mg CC fX) : FnOk P w K mg base CX0 1 fX fd ["self", "reason"] (sp_iinit CC) := by
  refine F.ok sc_InvalidChange__init (fun vs H Q E h => ?_) (fun cdv A outer s H vs Q E hr h => ?_)
  · obtain ⟨a, y, rfl, _⟩ := h
    rfl
  · obtain ⟨a, y, rfl, ha, q⟩ := h
    refine ⟨_, (pss_one (ps_ost (pv 0) (pv 1))), ?_⟩
    refine i_ost ?_
    walk_at "rd"
    exact ⟨a, CC, rfl, XC.o, XC.noR, .inl ⟨ha, fun dx hdx hne => q dx hdx hne⟩⟩
abbrev s_why_not : Stmt := top 35
theorem sc_why_not : FnScope ["truth", "word", "thing", "table", "key"] ["truth", "word", "thing"] (defScope s_why_not) := ⟨rfl, rfl, rfl, by decide +kernel, rfl, by decide +kernel, by decide +kernel⟩
def sp_why (U C D : Addr) : Sp := fun vs H Q _ => ∃ x kd od sd z w y ns, vs = [.ref x, .str w, y] ∧ Tru U C D H x kd od sd z ∧ PlainT z ∧ Wish H z.t w y ns ∧ RowsIn H z ∧ ∀ H', Same H H' → Q (orS (dueW z w ns)) H'
theorem ok_why {f fK fG fJ fV : Addr} {fd fdK fdG fdJ fdV : FuncData} (F : Fun K "why_not" "why_not" s_why_not f fd) (T : ClsT K mg C fI mc p g) (CN : ClsN K C hI hK hC) (R_is_row : FnR P w K mg base CX0 3 hI (mR K C)) (R_key_of : FnR P w K mg base CX0 2 hK (mY C)) (TU : ClsU K mg U fT) (UN : ClsUN K U mI mU mD mC' mW mO mS fL fC)
    (RU_contains : FnR P w K mg base CX0 4 fC (mCon K U C D)) (TF : Fi.ClsF K mg D fF)
    (F_is_key : Fun K "is_key" "is_key" s_is_key fK fdK) (B_is_key : Binds K fdK ["thing", "size"] []) (g_is_key : mg "is_key" = some (.ref fK)) (G_is_key : FnOk P w K mg base CX0 3 fK fdK ["thing", "size"] (sp_is_key K))
    (F_truth_of : Fun K "truth_of" "truth_of" Fi.s_truth_of fG fdG) (B_truth_of : Binds K fdG ["tree", "values"] []) (g_truth_of : mg "truth_of" = some (.ref fG)) (G_truth_of : FnOk P w K mg base CX0 23 fG fdG ["tree", "values"] (Fi.sp_truth 20))
    (F_why_not_inserted : Fun K "why_not_inserted" "why_not_inserted" s_why_not_inserted fJ fdJ) (B_why_not_inserted : Binds K fdJ ["truth", "key", "row"] []) (g_why_not_inserted : mg "why_not_inserted" = some (.ref fJ)) (G_why_not_inserted : FnOk P w K mg base CX0 5 fJ fdJ ["truth", "key", "row"] (sp_wni U C D))
    (F_why_not_updated : Fun K "why_not_updated" "why_not_updated" s_why_not_updated fV fdV) (B_why_not_updated : Binds K fdV ["truth", "key", "row"] []) (g_why_not_updated : mg "why_not_updated" = some (.ref fV)) (G_why_not_updated : FnOk P w K mg base CX0 6 fV fdV ["truth", "key", "row"] (sp_wnu U C D))
    (z_len : mg "len" = none) (z_dict : mg "dict" = none) (z_zip : mg "zip" = none) :
    FnOk P w K mg base CX0 24 f fd ["truth", "word", "thing"] (sp_why U C D) := by
  refine F.ok sc_why_not (fun vs H Q E h => ?_) (fun cdv A outer s H vs Q E hr h => ?_)
  · obtain ⟨x, kd, od, sd, z, w, y, ns, rfl, _⟩ := h
    rfl
  · obtain ⟨x, kd, od, sd, z, w, y, ns, rfl, tr, ba, wi, ri, q⟩ := h
    refine ⟨_, (pss_cons (ps_set (i := 3) sc_why_not.nd rfl (Or.inl rfl) (pe_fld (pv 0) rfl))
 (C8.pss_cut (ps_if (pt_cmpR op_eq (pv 1) pe_str (nomark _))
 (pss_cons (ps_if (pt_not (pt_val (pe_call G_is_key (hr.mono (by decide)) rfl g_is_key F_is_key.kp B_is_key .nil pass0 (pa_cons (pv 2) (pa_cons (pe_callB call_len_seq (by rfl) z_len PySem.boot_len (pa_cons (pe_fld (pv 3) rfl) pa_nil)) pa_nil)))))
 (pss_one (ps_ret pe_str))
 pss_nil)
 (pss_one (ps_set (i := 4) sc_why_not.nd rfl (Or.inl rfl) (pv 2))))
 (pss_cons (ps_if (pt_not (pt_val (pe_methR (pv 3) T.cl CN.is_row R_is_row (hr.mono (by decide)) pass0 (pa_cons (pv 2) pa_nil))))
 (pss_one (ps_ret pe_str))
 pss_nil)
 (pss_one (ps_set (i := 4) sc_why_not.nd rfl (Or.inl rfl) (pe_methR (pv 3) T.cl CN.key_of R_key_of (hr.mono (by decide)) pass0 (pa_cons (pv 2) pa_nil))))))
 (pss_cons (ps_if (pt_cmpR op_notTr (pe_call G_truth_of (hr.mono (by decide)) rfl g_truth_of F_truth_of.kp B_truth_of .nil pass0 (pa_cons (pe_fld (pe_fld (pv 0) rfl) rfl) (pa_cons (pe_dictZ rfl (by rfl) z_dict (by rfl) z_zip (pa_cons (pe_fld (pv 3) rfl) (pa_cons (pv 4) pa_nil))) pa_nil))) pe_bl (nomark _))
 (pss_one (ps_ret pe_str))
 pss_nil)
 (pss_cons (ps_if (pt_cmpR op_eq (pv 1) pe_str (nomark _))
 (pss_one (ps_ret (pe_call G_why_not_inserted (hr.mono (by decide)) rfl g_why_not_inserted F_why_not_inserted.kp B_why_not_inserted .nil pass0 (pa_cons (pv 0) (pa_cons (pv 4) (pa_cons (pv 2) pa_nil))))))
 pss_nil)
 (pss_cons (ps_if (pt_cmpR (op_notInO RU_contains (hr.mono (by decide)) UN.inF UN.inI) (pv 4) (pv 0) (by rfl))
 (pss_one (ps_ret pe_str))
 pss_nil)
 (pss_one (ps_ret (pe_ifExp (pt_cmpR op_eq (pv 1) pe_str (nomark _)) pe_non (pe_call G_why_not_updated (hr.mono (by decide)) rfl g_why_not_updated F_why_not_updated.kp B_why_not_updated .nil pass0 (pa_cons (pv 0) (pa_cons (pv 4) (pa_cons (pv 2) pa_nil)))))))))))), ?_⟩
    obtain ⟨dx, tx, fx, hx, ht, hf⟩ := tr.ex
    obtain ⟨dt, tc, tk, tf, tu, htx, hc, hk, hf0, hu0⟩ := id ht
    have kz := tr.ok.kz
    walk_at "rd"
    refine ⟨_, rfl, x, U, dx, _, _, rfl, hx, TU.cl, TU.nT, lt_table, ?_⟩
    refine ⟨fun σ' H' => ∃ b, σ' = [some (.ref x), some (.str w), some y, some (.ref tx), some (.ref b)] ∧ Same H H' ∧ KeyAt H' b ns z.t.ks.length, ?_, ?_⟩
    · walk_at "rd"
      rcases wi with ⟨rfl, b, rfl, ka⟩ | ⟨hw, r, us, rfl, hr', ro, pk, tn, nl⟩
      · rw [decide_eq_true rfl]
        refine iteT ?_
        walk_at "rd"
        refine ⟨_, rfl, tx, C, dt, _, _, rfl, htx, T.cl, T.nK, lk_key, ?_⟩
        walk_at "rd"
        refine ⟨tk, _, rfl, .inr (SqT.of hk), ?_⟩
        walk_at "rd"
        rw [List.length_map]
        refine ⟨_, _, true, rfl, by omega, ka.keyed, fun H1 s1 => ⟨_, rfl, iteF ?_⟩⟩
        walk_at "rd"
        exact ⟨b, rfl, s1, ka.up s1⟩
      · have wn : ¬ (V.str w = V.str "delete") := fun e => by
          have e1 := V.str.inj e
          rcases hw with e2 | e2 <;> rw [e2] at e1 <;> exact absurd e1 (by decide)
        rw [decide_eq_false wn]
        refine iteF ?_
        walk_at "rd"
        refine i_methR ?_
        walk_at "rd"
        refine ⟨tx, dt, _, rfl, htx, lk_meth (.inr (.inl rfl)), ?_⟩
        walk_at "rd"
        have ul : us.length = z.t.cs.length := Paired.length ro
        obtain ⟨js, sj, al⟩ := row_says (K := K) (H := H) ro
        refine ⟨tx, .ref r, true, z.t, rfl, ht, by have := tr.ok.cz; omega, .inr (.inr ⟨r, us, js, rfl, hr', ul, sj, al.symm⟩), fun H1 s1 => ⟨_, rfl, iteF ?_⟩⟩
        walk_at "rd"
        refine i_methR ?_
        walk_at "rd"
        refine ⟨tx, dt, _, rfl, s1 _ _ htx, lk_meth (.inr (.inr rfl)), ?_⟩
        walk_at "rd"
        refine ⟨tx, r, z.t, us, rfl, ht.up s1, s1 _ _ hr', ul, by omega, tr.ok.sub, fun b H2 s2 h2 => ?_⟩
        rw [pk] at h2
        walk_at "rd"
        exact ⟨b, rfl, fun c o e => s2 _ _ (s1 _ _ e), ⟨h2, nl, tn⟩⟩
    · rintro σ' H1 ⟨b, rfl, s1, ka⟩
      walk_at "rd"
      obtain ⟨df, v, qf, cf, hfx, htr, hq0, cok⟩ := hf.up s1
      refine ⟨_, rfl, x, U, dx, _, _, rfl, s1 _ _ hx, TU.cl, TU.nR, lt_region, fx, D, df, _, _, rfl, hfx, TF.cl, TF.nT, Fi.lk_tree, ?_⟩
      unfold tDictZ
      walk_at "rd"
      refine ⟨_, rfl, tx, C, dt, _, _, rfl, s1 _ _ htx, T.cl, T.nK, lk_key, ?_⟩
      walk_at "rd"
      refine ⟨tk, b, z.t.ks, ns.map V.int, rfl, SqT.of (s1 _ _ hk), SqT.of ka.at_, by rw [List.length_map]; exact ka.z.symm, fun m hm => ?_⟩
      obtain ⟨H2, e2, s2, h2⟩ := new_heap (o := .dK (mergeK [] ((z.t.ks.map (Sum.inr : Str → Key)).zip (ns.map V.int)))) hm
      rw [e2]
      walk_at "rd"
      have va := vals_key h2 tr.ok.kn ka.z.symm
      refine ⟨z.r, v, m, rhoK z.t.ks ns, rfl, htr.up s2, tr.dp, va.sub tr.rc, fun H3 s3 => ?_⟩
      have s03 : Same H H3 := fun c o e => s3 _ _ (s2 _ _ (s1 _ _ e))
      have ka3 : KeyAt H3 b ns z.t.ks.length := (ka.up s2).up s3
      have q3 : ∀ H', Same H3 H' → Q (orS (dueW z w ns)) H' := fun H' e => q H' fun c o a => e _ _ (s03 _ _ a)
      refine ⟨z.r.sem (rhoK z.t.ks ns), true, rfl, rfl, ?_⟩
      refine ⟨_, rfl, ?_⟩
      cases ei : inR z ns with
      | false =>
        have e1 : decide (z.r.sem (rhoK z.t.ks ns) = some true) = false := ei
        rw [e1]
        refine iteT ?_
        have q4 := q3 H3 (Same.refl _)
        unfold dueW at q4
        rw [if_pos ei] at q4
        exact q4
      | true =>
        have e1 : decide (z.r.sem (rhoK z.t.ks ns) = some true) = true := ei
        rw [e1]
        refine iteF ?_
        have ne : ¬ (inR z ns = false) := by rw [ei]; decide
        unfold dueW at q3
        rw [if_neg ne] at q3
        walk_at "rd"
        have wi3 := wi.up s03
        by_cases hi : w = "insert"
        · rw [if_pos hi] at q3
          rw [decide_eq_true (by rw [hi])]
          refine iteT ?_
          walk_at "rd"
          refine ⟨x, kd, od, sd, z, b, ns, y, rfl, tr.up s03, ba, ka3, ?_, q3⟩
          rcases wi3 with ⟨e, _⟩ | ⟨_, r, us, e, hr', ro, _⟩
          · rw [hi] at e
            exact absurd e (by decide)
          · exact .inr ⟨r, us, e, hr', Paired.length ro⟩
        · rw [if_neg hi] at q3
          rw [decide_eq_false (fun e => hi (V.str.inj e))]
          refine iteF ?_
          walk_at "rd"
          refine ⟨x, dx, _, rfl, s03 _ _ hx, x, kd, od, sd, z, .ref b, some ns, rfl, tr.up s03, .inl ⟨b, ns, rfl, ka3, rfl⟩, fun H4 s4 => ⟨_, rfl, ?_⟩⟩
          have q4 : ∀ H', Same H4 H' → _ := fun H' e => q3 H' fun c o a => e _ _ (s4 _ _ a)
          cases ev : valV z.kvs (kk ns) with
          | none =>
            rw [ev] at q4
            simp only [hasV, ev]
            refine ⟨_, rfl, iteT ?_⟩
            exact q4 H4 (Same.refl _)
          | some v0 =>
            rw [ev] at q4
            simp only [hasV, ev]
            refine ⟨_, rfl, iteF ?_⟩
            walk_at "rd"
            have s04 : Same H H4 := fun c o e => s4 _ _ (s03 _ _ e)
            rcases wi3 with ⟨e, _⟩ | ⟨hw, r, us, rfl, hr', ro, _⟩
            · rw [decide_eq_true (by rw [e])]
              exact iteT (q4 H4 (Same.refl _))
            · have wn : ¬ (V.str w = V.str "delete") := fun e => by
                have e1 := V.str.inj e
                rcases hw with e2 | e2 <;> rw [e2] at e1 <;> exact absurd e1 (by decide)
              rw [decide_eq_false wn]
              refine iteF ?_
              walk_at "rd"
              obtain ⟨r0, us0, rfl, hr0, hl0⟩ := (ri.up s04) _ _ ev
              exact ⟨x, kd, od, sd, z, b, ns, r, us, r0, us0, rfl, tr.up s04, ba, ka3.up s4, s4 _ _ hr', Paired.length ro, ev, hr0, hl0, fun H' e => q4 H' e⟩
end
end Spk

set_option Elab.async false
set_option linter.all false
set_option maxRecDepth 100000
set_option maxHeartbeats 4000000
namespace Spk
open PySem L2
local macro_rules | `(tactic| walk_at "rd") => `(tactic| repeat (first
  | with_reducible refine i_seq ?_ | with_reducible refine i_asg ?_ | with_reducible refine i_ret ?_ | with_reducible refine i_ifS ?_ | with_reducible refine i_if ?_
  | with_reducible refine i_for ?_ | with_reducible refine i_iL ?_ | with_reducible refine i_iT ?_ | with_reducible refine i_ckw ?_ | with_reducible refine i_cm ?_ | with_reducible refine And.intro (rfl : V.ref _ = V.ref _) ?_ | with_reducible refine i_rng1 ?_ | with_reducible refine i_bm ?_ | with_reducible refine i_bm0 ?_
  | with_reducible refine i_drop ?_ | with_reducible refine i_next ?_
  | with_reducible refine i_var rfl ?_ | with_reducible refine i_c ?_ | with_reducible refine i_op ?_ | with_reducible refine i_un ?_ | with_reducible refine i_name ?_
  | with_reducible refine i_rI0 ?_ | with_reducible refine i_rU ?_ | with_reducible refine i_rEq rfl ?_ | with_reducible refine i_rNe rfl ?_
  | with_reducible refine i_test ?_ | with_reducible refine i_tB ?_ | with_reducible refine i_and ?_ | with_reducible refine i_or ?_ | with_reducible refine i_not ?_
  | with_reducible refine i_andV ?_ | with_reducible refine i_orV ?_ | with_reducible refine i_notV ?_
  | with_reducible refine i_cons ?_ | with_reducible refine i_nil ?_ | with_reducible refine i_cb ?_ | with_reducible refine i_call ?_ | with_reducible refine i_bl ?_
  | with_reducible refine i_tup ?_ | with_reducible refine i_lst ?_ | with_reducible refine i_par ?_ | with_reducible refine i_gcons ?_ | with_reducible refine i_gnil ?_
  | with_reducible refine And.intro (rfl : V.non = V.non) ?_ | with_reducible refine i_ixT (by assumption) rfl ?_ | with_reducible refine i_ixL (by assumption) rfl ?_ | with_reducible refine i_gtup (by assumption) rfl ?_
  | with_reducible refine i_gsub ?_
  | with_reducible refine Or.inl (Exists.intro _ (And.intro (rfl : [V.int _] = [V.int _]) ?_)) | with_reducible refine Exists.intro _ (And.intro (rfl : [V.int _] = [V.int _]) ?_)
  | with_reducible refine Or.inr (Exists.intro _ (And.intro (rfl : [V.bl _] = [V.bl _]) ?_))
  | with_reducible refine Exists.intro _ (Exists.intro _ (And.intro (rfl : [V.int _, V.int _] = [V.int _, V.int _]) ?_))
  | with_reducible refine Exists.intro _ (Exists.intro _ (And.intro (rfl : [V.ref _] = [V.ref _]) (And.intro (Or.inl (SqL.of (by assumption))) ?_)))
  | with_reducible refine i_rI (show (0 : Int) < _ by assumption) ?_ | with_reducible refine i_rI (show (0 : Int) < _ by decide) ?_
  | with_reducible refine i_rI (pow_ok (Nat.le_of_ble_eq_true rfl) (Nat.le_of_ble_eq_true rfl)) ?_
  | with_reducible refine i_rI (cmulL rfl) ?_))
theorem drop_there {kvs : List (List Key × V)} {k : List Key} (h : (valV kvs k).isSome = true) : (valV kvs k).isSome = true := h
section
variable {P : Program} {w : World} {K : PySem.W.Frag} {mg : Str → Option Value} {base : Heap} {C fI p g U D fT fF CC fX : Addr} {mc : Value} {hI hK hC mI mU mD mC' mW mO mS fL fC : Addr}
abbrev s_Truth_write : Stmt := inClass (top 30) 5
theorem sc_Truth_write : FnScope ["self", "key", "old", "new", "place"] ["self", "key", "old", "new"] (defScope s_Truth_write) := ⟨rfl, rfl, rfl, by decide +kernel, rfl, by decide +kernel, by decide +kernel⟩
/-- the rows behind a write -/
def wrote (kvs : List (List Key × V)) (k : List Key) (v : V) : List (List Key × V) := if v = .non then dropK kvs k else putK kvs k v
def sp_write (U C D : Addr) : Sp := fun vs H Q _ => ∃ x kd od sd z b ns o v, vs = [.ref x, .ref b, o, v] ∧ Tru U C D H x kd od sd z ∧ PlainT z ∧ KeyAt H b ns z.t.ks.length ∧ RowV H o z.t.cs.length ∧ RowV H v z.t.cs.length ∧ (v = .non → (valV z.kvs (kk ns)).isSome = true) ∧ z.kvs.length ≤ 1000 ∧
  ∀ H', Off kd H H' → H' kd = some (.dT (wrote z.kvs (kk ns) v)) → Q .non H'
theorem ok_write {f fP : Addr} {fd fdP : FuncData} (F : Fun K "write" "Truth.write" s_Truth_write f fd) (TU : ClsU K mg U fT)
    (F_unique_places : Fun K "unique_places" "unique_places" s_unique_places fP fdP) (B_unique_places : Binds K fdP ["table", "row"] []) (g_unique_places : mg "unique_places" = some (.ref fP)) (G_unique_places : FnOk P w K mg base CX0 2 fP fdP ["table", "row"] (sp_places C)) :
    FnOk P w K mg base CX0 3 f fd ["self", "key", "old", "new"] (sp_write U C D) := by
  refine F.ok sc_Truth_write (fun vs H Q E h => ?_) (fun cdv A outer s H vs Q E hr h => ?_)
  · obtain ⟨x, kd, od, sd, z, b, ns, o, v, rfl, _⟩ := h
    rfl
  · obtain ⟨x, kd, od, sd, z, b, ns, o, v, rfl, tr, ba, ka, ro, rv, hv, kz, q⟩ := h
    refine ⟨_, (pss_cons (ps_for PassesOwn.never rfl (pi_list (pe_call G_unique_places (hr.mono (by decide)) rfl g_unique_places F_unique_places.kp B_unique_places .nil pass0 (pa_cons (pe_fld (pv 0) rfl) (pa_cons (pv 2) pa_nil)))) (pg_name (i := 4) sc_Truth_write.nd rfl (Or.inl rfl))
 (pss_one (ps_ddelT (Nat.lt_of_le_of_lt (Nat.add_le_add_left (by decide : 1 ≤ 64) _) hr.units) (pe_fld (pv 0) rfl) (pv 4))))
 (pss_cons (ps_for PassesOwn.never rfl (pi_list (pe_call G_unique_places (hr.mono (by decide)) rfl g_unique_places F_unique_places.kp B_unique_places .nil pass0 (pa_cons (pe_fld (pv 0) rfl) (pa_cons (pv 3) pa_nil)))) (pg_name (i := 4) sc_Truth_write.nd rfl (Or.inl rfl))
 (pss_one (ps_dput (Nat.lt_of_le_of_lt (Nat.add_le_add_left (by decide : 1 ≤ 64) _) hr.units) (pe_fld (pv 0) rfl) (pv 4) (pv 1) rfl)))
 (pss_one (ps_if (pt_cmpR op_isN (pv 3) pe_non (nomark _))
 (pss_one (ps_ddelT (Nat.lt_of_le_of_lt (Nat.add_le_add_left (by decide : 1 ≤ 64) _) hr.units) (pe_fld (pv 0) rfl) (pv 1)))
 (pss_one (ps_dput (Nat.lt_of_le_of_lt (Nat.add_le_add_left (by decide : 1 ≤ 64) _) hr.units) (pe_fld (pv 0) rfl) (pv 1) (pv 3) rfl)))))), ?_⟩
    obtain ⟨dx, tx, fx, hx, ht, hf⟩ := tr.ex
    walk_at "rd"
    refine ⟨_, rfl, x, U, dx, _, _, rfl, hx, TU.cl, TU.nT, lt_table, ?_⟩
    walk_at "rd"
    refine ⟨tx, o, z.t, rfl, ht, ba.us, ro, fun l H1 s1 h1 => ?_⟩
    refine ⟨l, rfl, ⟨_, SqL.of h1⟩, for_list (K := K) (a := l) (xs := []) (fun m σ H' => σ = L2.start ["self", "key", "old", "new", "place"] [.ref x, .ref b, o, v] ∧ Same H1 H') ⟨rfl, Same.refl _⟩ ?_ ?_ ?_⟩
    · rintro m σ H' _ ⟨_, s2⟩
      exact SqL.of (s2 _ _ h1)
    · rintro m y σ H' hy _
      simp at hy
    rintro σ H2 ⟨rfl, s2⟩
    have s02 : Same H H2 := fun c o e => s2 _ _ (s1 _ _ e)
    walk_at "rd"
    refine ⟨_, rfl, x, U, dx, _, _, rfl, s02 _ _ hx, TU.cl, TU.nT, lt_table, ?_⟩
    walk_at "rd"
    refine ⟨tx, v, z.t, rfl, ht.up s02, ba.us, rv.up s02, fun l2 H3 s3 h3 => ?_⟩
    refine ⟨l2, rfl, ⟨_, SqL.of h3⟩, for_list (K := K) (a := l2) (xs := []) (fun m σ H' => σ = L2.start ["self", "key", "old", "new", "place"] [.ref x, .ref b, o, v] ∧ Same H3 H') ⟨rfl, Same.refl _⟩ ?_ ?_ ?_⟩
    · rintro m σ H' _ ⟨_, s4⟩
      exact SqL.of (s4 _ _ h3)
    · rintro m y σ H' hy _
      simp at hy
    rintro σ H4 ⟨rfl, s4⟩
    have s04 : Same H H4 := fun c o e => s4 _ _ (s3 _ _ (s02 _ _ e))
    have hk4 := s04 _ _ tr.hk
    have ka4 := ka.up s04
    walk_at "rd"
    rcases rv with rfl | ⟨r, us, rfl, _⟩
    · refine iteT ?_
      unfold sDDelT
      walk_at "rd"
      refine ⟨_, rfl, x, U, dx, _, _, rfl, s04 _ _ hx, TU.cl, TU.nK, lt_kept, ?_⟩
      walk_at "rd"
      refine ⟨kd, _, kk ns, b, rfl, hk4, rfl, by rw [kk_v]; exact ka4.at_, hv rfl, ?_⟩
      refine q _ (fun c o' n e => ?_) ?_
      · rw [upd_ne n]
        exact s04 _ _ e
      · rw [upd_same]
        rfl
    · refine iteF ?_
      unfold sDPut
      walk_at "rd"
      refine ⟨_, rfl, x, U, dx, _, _, rfl, s04 _ _ hx, TU.cl, TU.nK, lt_kept, ?_⟩
      walk_at "rd"
      refine ⟨kd, _, rfl, DPut.t hk4 (by rw [kk_v]; exact ka4.at_) (size_lt (by omega)), ?_⟩
      refine q _ (fun c o' n e => ?_) ?_
      · rw [upd_ne n]
        exact s04 _ _ e
      · rw [upd_same]
        rfl
abbrev s_Truth_change : Stmt := inClass (top 30) 4
theorem sc_Truth_change : FnScope ["self", "word", "thing", "reason", "new", "key", "old"] ["self", "word", "thing"] (defScope s_Truth_change) := ⟨rfl, rfl, rfl, by decide +kernel, rfl, by decide +kernel, by decide +kernel⟩
/-- what a change asks of its surroundings, and what is so behind it -/
structure Chg (U C D CC : Addr) (H : Hp) (Q : VK) (E : XK) (x kd od sd : Addr) (z : Tw) (w : Str) (y : V) (ns : List Int) : Prop where
  tr : Tru U C D H x kd od sd z
  ba : PlainT z
  wi : Wish H z.t w y ns
  ri : RowsIn H z
  kz : z.kvs.length ≤ 1000
  sz : z.sts.length ≤ 1000
  no : ∀ rs, dueW z w ns = some rs → Told CC H E rs
  yes : dueW z w ns = none → ∀ p b H', OffT x kd sd H H' → Tru U C D H' x kd od sd (chg z w ns y) → KeyAt H' b ns z.t.ks.length → H' p = some (.tup [.ref b, (valV z.kvs (kk ns)).getD .non, if w = "delete" then .non else y]) → Q (.ref p) H'
theorem Chg.up {H0 H : Hp} {Q : VK} {E : XK} {x kd od sd : Addr} {z : Tw} {w : Str} {y : V} {ns : List Int} (s : Same H0 H) (h : Chg U C D CC H0 Q E x kd od sd z w y ns) : Chg U C D CC H Q E x kd od sd z w y ns :=
  ⟨h.tr.up s, h.ba, h.wi.up s, h.ri.up s, h.kz, h.sz, fun rs d => told_up s (h.no rs d), fun d p b H' o => h.yes d p b H' ((Same.offT s).trans o)⟩
/-- behind the write: the count and the stamp -/
theorem chg_end {H H4 : Hp} {Q : VK} {E : XK} {x kd od sd dx tx fx b : Addr} {z : Tw} {w : Str} {y v : V} {ns : List Int} (c : Chg U C D CC H Q E x kd od sd z w y ns) (dn : dueW z w ns = none)
    (hx : H x = some (.ins U dx (tflds tx fx kd od sd z.n))) (ht : Tab C H tx z.t) (hf : Fi.Fil D H fx z.r) (ka : KeyAt H b ns z.t.ks.length) (off : Off kd H H4) (hk4 : H4 kd = some (.dT (wrote z.kvs (kk ns) v))) (ev : v = if w = "delete" then .non else y) (wv : w = "delete" ∨ y ≠ .non) :
    ∃ H5 H6, upd H4 x (.ins U dx (putF "changes" (.int ((z.n : Int) + 1)) (tflds tx fx kd od sd z.n))) = H5 ∧ H4 x = some (.ins U dx (tflds tx fx kd od sd z.n)) ∧ H5 x = some (.ins U dx (tflds tx fx kd od sd (z.n + 1))) ∧ H5 sd = some (.dT z.sts) ∧ H5 b = some (.tup (ns.map V.int)) ∧
      upd H5 sd (.dT (putK z.sts (kk ns) (.int ((z.n + 1 : Nat) : Int)))) = H6 ∧ ∀ p H', Same H6 H' → H' p = some (.tup [.ref b, (valV z.kvs (kk ns)).getD .non, v]) → Q (.ref p) H' := by
  have tr := c.tr
  have sp := tr.spot
  have xk : x ≠ kd := fun e => by
    rw [e, tr.hk] at hx
    cases hx
  have xs : x ≠ sd := fun e => by
    rw [e, tr.hs] at hx
    cases hx
  have bx : b ≠ x := fun e => by
    have h := ka.at_
    rw [e, hx] at h
    cases h
  have bk : b ≠ kd := fun e => by
    have h := ka.at_
    rw [e, tr.hk] at h
    cases h
  have bs : b ≠ sd := fun e => by
    have h := ka.at_
    rw [e, tr.hs] at h
    cases h
  have h4x := off _ _ xk hx
  have e5 : putF "changes" (.int ((z.n : Int) + 1)) (tflds tx fx kd od sd z.n) = tflds tx fx kd od sd (z.n + 1) := rfl
  have h5s : upd H4 x (.ins U dx (putF "changes" (.int ((z.n : Int) + 1)) (tflds tx fx kd od sd z.n))) sd = some (.dT z.sts) := by
    rw [upd_ne xs.symm]
    exact off _ _ tr.n2.symm tr.hs
  have h5b : upd H4 x (.ins U dx (putF "changes" (.int ((z.n : Int) + 1)) (tflds tx fx kd od sd z.n))) b = some (.tup (ns.map V.int)) := by
    rw [upd_ne bx]
    exact off _ _ bk ka.at_
  refine ⟨_, _, rfl, h4x, by rw [upd_same, e5], h5s, h5b, rfl, fun p H' s' hp => ?_⟩
  have o6 : OffT x kd sd H H' := fun a o n1 n2 n3 e => s' _ _ (by
    rw [upd_ne n3, upd_ne n1]
    exact off _ _ n2 e)
  have chk : (chg z w ns y).kvs = wrote z.kvs (kk ns) v := by
    unfold chg wrote
    dsimp only
    rw [ev]
    by_cases hw : w = "delete"
    · rw [if_pos hw, if_pos hw, if_pos rfl]
    · rw [if_neg hw, if_neg hw, if_neg (wv.resolve_left hw)]
  refine c.yes dn p b H' o6 ⟨⟨dx, tx, fx, s' _ _ (by rw [upd_ne xs, upd_same, e5]; rfl), ht.offT o6 sp, Fil.offT o6 sp hf⟩, ?_, ?_, s' _ _ (by rw [upd_same]; rfl), tr.n1, tr.n2, tr.n3, tr.ok, tr.rc, tr.dp⟩ ⟨s' _ _ (by rw [upd_ne bs]; exact h5b), ka.z, ka.tiny⟩ (by rw [hp, ev])
  · rw [chk]
    exact s' _ _ (by rw [upd_ne tr.n2, upd_ne xk.symm]; exact hk4)
  · have ox : od ≠ x := fun e => by
      have h := tr.ho
      rw [e, hx] at h
      cases h
    exact s' _ _ (by rw [upd_ne tr.n3, upd_ne ox]; exact off _ _ tr.n1.symm tr.ho)
def sp_change (U C D CC : Addr) : Sp := fun vs H Q E => ∃ x kd od sd z w y ns, vs = [.ref x, .str w, y] ∧ Chg U C D CC H Q E x kd od sd z w y ns
theorem dget1_at {H : Hp} {d b : Addr} {kvs : List (List Key × V)} {ns : List Int} {m : Nat} (hd : H d = some (.dT kvs)) (ka : KeyAt H b ns m) : ∃ o, DGet H d (.ref b) o ∧ o = valV kvs (kk ns) := ⟨_, ka.get hd, rfl⟩
theorem due_there {z : Tw} {ns : List Int} (h : dueW z "delete" ns = none) : (valV z.kvs (kk ns)).isSome = true := by
  unfold dueW at h
  split at h
  · cases h
  · rw [if_neg (by decide)] at h
    split at h
    · assumption
    · cases h
theorem ok_change {f fV fdX : Addr} {fd fdV fdx : FuncData} (F : Fun K "change" "Truth.change" s_Truth_change f fd) (T : ClsT K mg C fI mc p g) (CN : ClsN K C hI hK hC) (R_key_of : FnR P w K mg base CX0 2 hK (mY C)) (TU : ClsU K mg U fT) (UN : ClsUN K U mI mU mD mC' mW mO mS fL fC)
    (XC : XCt K mg CC fX) (B_cinit : Binds K fdx ["self", "reason"] []) (G_cinit : FnOk P w K mg base CX0 1 fX fdx ["self", "reason"] (sp_iinit CC))
    (F_why_not : Fun K "why_not" "why_not" s_why_not fV fdV) (B_why_not : Binds K fdV ["truth", "word", "thing"] []) (g_why_not : mg "why_not" = some (.ref fV)) (G_why_not : FnOk P w K mg base CX0 24 fV fdV ["truth", "word", "thing"] (sp_why U C D))
    (RU_write : FnR P w K mg base CX0 3 mW (fun vs H Q E => sp_write U C D (vs ++ []) H Q E)) :
    FnOk P w K mg base (L2.CX P w) 25 f fd ["self", "word", "thing"] (sp_change U C D CC) := by
  refine F.okX sc_Truth_change (fun vs H Q E h => ?_) (fun cdv A outer s H vs Q E hr h => ?_)
  · obtain ⟨x, kd, od, sd, z, w, y, ns, rfl, _⟩ := h
    rfl
  · obtain ⟨x, kd, od, sd, z, w, y, ns, rfl, c0⟩ := h
    refine ⟨_, (pss_cons (ps_set (i := 3) sc_Truth_change.nd rfl (Or.inl rfl) (pe_call G_why_not (hr.mono (by decide)) rfl g_why_not F_why_not.kp B_why_not .nil pass0 (pa_cons (pv 0) (pa_cons (pv 1) (pa_cons (pv 2) pa_nil)))))
 (pss_cons (ps_if (pt_cmpR op_notN (pv 3) pe_non (nomark _))
 (pss_one (ps_raise rfl (takes_of rfl rfl rfl rfl) (pmk_oex XC.o XC.iC XC.tI G_cinit (hr.mono (by decide)) B_cinit .nil pass0 rfl XC.g (pa_cons (pv 3) pa_nil))))
 pss_nil)
 (pss_cons (ps_set (i := 4) sc_Truth_change.nd rfl (Or.inl rfl) (pe_ifExp (pt_cmpR op_eq (pv 1) pe_str (nomark _)) pe_non (pv 2)))
 (pss_cons (ps_set (i := 5) sc_Truth_change.nd rfl (Or.inl rfl) (pe_ifExp (pt_cmpR op_eq (pv 1) pe_str (nomark _)) (pv 2) (pe_methR (pe_fld (pv 0) rfl) T.cl CN.key_of R_key_of (hr.mono (by decide)) pass0 (pa_cons (pv 2) pa_nil))))
 (pss_cons (ps_set (i := 6) sc_Truth_change.nd rfl (Or.inl rfl) (pe_dget1 (Nat.lt_of_le_of_lt (Nat.add_le_add_left (by decide : 1 ≤ 64) _) hr.units) (pe_fld (pv 0) rfl) (pv 5) ⟨rfl, rfl, rfl, rfl⟩))
 (pss_cons (ps_expr (pe_methR (pv 0) TU.cl UN.write RU_write (hr.mono (by decide)) pass0 (pa_cons (pv 5) (pa_cons (pv 6) (pa_cons (pv 4) pa_nil)))))
 (pss_cons (ps_fldaug (pv 0) pe_int in_add)
 (pss_cons (ps_dput (Nat.lt_of_le_of_lt (Nat.add_le_add_left (by decide : 1 ≤ 64) _) hr.units) (pe_fld (pv 0) rfl) (pv 5) (pe_fld (pv 0) rfl) rfl)
 (pss_one (ps_ret (pe_tup (pa_cons (pv 5) (pa_cons (pv 6) (pa_cons (pv 4) pa_nil)))))))))))))), ?_⟩
    walk_at "rd"
    refine ⟨x, kd, od, sd, z, w, y, ns, rfl, c0.tr, c0.ba, c0.wi, c0.ri, fun H1 s1 => ?_⟩
    have c := c0.up s1
    walk_at "rd"
    cases dn : dueW z w ns with
    | some rs =>
      refine iteT ?_
      unfold tMkO
      walk_at "rd"
      refine ⟨by show 1 ≤ 1000; decide, fun a ha => ⟨a, .str rs, rfl, upd_same, fun dx hdx hne => ⟨rfl, dx, [("reason", .str rs)], upd_same, by rw [upd_ne hne]; exact upd_same, ?_, ?_⟩⟩⟩
      · rw [upd_ne hne] at hdx
        exact hdx
      · refine c.no rs dn dx _ (fun b o e => ?_) upd_same
        have n1 : b ≠ a := ne_of_none e ha
        have n2 : b ≠ dx := fun z => by
          rw [z] at e
          rw [upd_ne hne, e] at hdx
          cases hdx
        rw [upd_ne n2]
        unfold del
        rw [if_neg n1, upd_ne n1, upd_ne n2, upd_ne n1]
        exact e
    | none =>
      refine iteF ?_
      walk_at "rd"
      obtain ⟨dx, tx, fx, hx, ht, hf⟩ := c.tr.ex
      rcases c.wi with ⟨rfl, b, rfl, ka⟩ | ⟨hw, r, us, rfl, hr', ro, pk, tn, nl⟩
      · rw [decide_eq_true rfl]
        refine iteT ?_
        walk_at "rd"
        refine iteT ?_
        walk_at "rd"
        unfold tDGet1
        walk_at "rd"
        refine ⟨_, rfl, x, U, dx, _, _, rfl, hx, TU.cl, TU.nK, lt_kept, ?_⟩
        refine ⟨kd, rfl, .inr ⟨_, .inl c.tr.hk⟩, ?_⟩
        walk_at "rd"
        refine ⟨_, ka.get c.tr.hk, ?_⟩
        walk_at "rd"
        refine i_methR ?_
        walk_at "rd"
        refine ⟨x, dx, _, rfl, hx, lt_meth (.inr (.inr (.inr (.inr (.inl rfl))))), ?_⟩
        walk_at "rd"
        refine ⟨x, kd, od, sd, z, b, ns, _, .non, rfl, c.tr, c.ba, ka, c.ri.rowV _, .inl rfl, fun _ => due_there dn, c.kz, fun H4 off hk4 => ?_⟩
        obtain ⟨H5, H6, e5, h4x, h5x, h5s, h5b, e6, fin⟩ := chg_end (v := .non) c dn hx ht hf ka off hk4 (by rw [if_pos rfl]) (.inl rfl)
        walk_at "rd"
        unfold sFldAug
        walk_at "rd"
        refine ⟨x, U, dx, _, _, rfl, h4x, TU.cl, TU.nC, lt_changes, ?_⟩
        walk_at "rd"
        refine ⟨_, _, rfl, rfl, dx, _, h4x, (by show 6 < 1000; decide), ?_⟩
        rw [e5]
        unfold sDPut
        walk_at "rd"
        refine ⟨_, rfl, x, U, dx, _, _, rfl, h5x, TU.cl, TU.nC, lt_changes, ?_⟩
        walk_at "rd"
        refine ⟨_, rfl, x, U, dx, _, _, rfl, h5x, TU.cl, TU.nS, lt_stamps, ?_⟩
        walk_at "rd"
        refine ⟨sd, _, rfl, DPut.t (k := kk ns) h5s (by rw [kk_v]; exact h5b) (size_lt (by have := c.sz; omega)), ?_⟩
        rw [e6]
        walk_at "rd"
        refine ⟨size_of (Nat.le_of_ble_eq_true rfl), fun p' hp' => ?_⟩
        obtain ⟨H7, e7, s7, h7⟩ := new_heap (o := .tup [.ref b, (valV z.kvs (kk ns)).getD .non, .non]) hp'
        rw [e7]
        exact fin p' H7 s7 h7
      · have wd : ¬ w = "delete" := fun e1 => by
          rcases hw with e2 | e2 <;> rw [e2] at e1 <;> exact absurd e1 (by decide)
        have wn : ¬ (V.str w = V.str "delete") := fun e => wd (V.str.inj e)
        rw [decide_eq_false wn]
        refine iteF ?_
        walk_at "rd"
        rw [decide_eq_false wn]
        refine iteF ?_
        walk_at "rd"
        obtain ⟨dt, tc, tk, tf, tu, htx, hc, hk, hf0, hu0⟩ := id ht
        have ul : us.length = z.t.cs.length := Paired.length ro
        have kz := c.tr.ok.kz
        refine i_methR ?_
        walk_at "rd"
        refine ⟨_, rfl, x, U, dx, _, _, rfl, hx, TU.cl, TU.nT, lt_table, ?_⟩
        refine ⟨tx, dt, _, rfl, htx, lk_meth (.inr (.inr rfl)), ?_⟩
        walk_at "rd"
        refine ⟨tx, r, z.t, us, rfl, ht, hr', ul, by omega, c.tr.ok.sub, fun b H2 s2 h2 => ?_⟩
        rw [pk] at h2
        have ka : KeyAt H2 b ns z.t.ks.length := ⟨h2, nl, tn⟩
        have c2 := c.up s2
        have hx2 := s2 _ _ hx
        walk_at "rd"
        unfold tDGet1
        walk_at "rd"
        refine ⟨_, rfl, x, U, dx, _, _, rfl, hx2, TU.cl, TU.nK, lt_kept, ?_⟩
        refine ⟨kd, rfl, .inr ⟨_, .inl c2.tr.hk⟩, ?_⟩
        walk_at "rd"
        refine ⟨_, ka.get c2.tr.hk, ?_⟩
        walk_at "rd"
        refine i_methR ?_
        walk_at "rd"
        refine ⟨x, dx, _, rfl, hx2, lt_meth (.inr (.inr (.inr (.inr (.inl rfl))))), ?_⟩
        walk_at "rd"
        refine ⟨x, kd, od, sd, z, b, ns, _, .ref r, rfl, c2.tr, c2.ba, ka, c2.ri.rowV _, .inr ⟨r, us, rfl, s2 _ _ hr', ul⟩, (fun e => nomatch e), c2.kz, fun H4 off hk4 => ?_⟩
        obtain ⟨H5, H6, e5, h4x, h5x, h5s, h5b, e6, fin⟩ := chg_end (v := .ref r) c2 dn hx2 (ht.up s2) (hf.up s2) ka off hk4 (by rw [if_neg wd]) (.inr fun e => nomatch e)
        walk_at "rd"
        unfold sFldAug
        walk_at "rd"
        refine ⟨x, U, dx, _, _, rfl, h4x, TU.cl, TU.nC, lt_changes, ?_⟩
        walk_at "rd"
        refine ⟨_, _, rfl, rfl, dx, _, h4x, (by show 6 < 1000; decide), ?_⟩
        rw [e5]
        unfold sDPut
        walk_at "rd"
        refine ⟨_, rfl, x, U, dx, _, _, rfl, h5x, TU.cl, TU.nC, lt_changes, ?_⟩
        walk_at "rd"
        refine ⟨_, rfl, x, U, dx, _, _, rfl, h5x, TU.cl, TU.nS, lt_stamps, ?_⟩
        walk_at "rd"
        refine ⟨sd, _, rfl, DPut.t (k := kk ns) h5s (by rw [kk_v]; exact h5b) (size_lt (by have := c.sz; omega)), ?_⟩
        rw [e6]
        walk_at "rd"
        refine ⟨size_of (Nat.le_of_ble_eq_true rfl), fun p' hp' => ?_⟩
        obtain ⟨H7, e7, s7, h7⟩ := new_heap (o := .tup [.ref b, (valV z.kvs (kk ns)).getD .non, .ref r]) hp'
        rw [e7]
        exact fin p' H7 s7 h7
abbrev mChg (U C D CC : Addr) : Sp := fun vs H Q E => sp_change U C D CC (vs ++ []) H Q E
def sp_one (U C D CC : Addr) (w : Str) : Sp := fun vs H Q E => ∃ x kd od sd z y ns, vs = [.ref x, y] ∧ Chg U C D CC H Q E x kd od sd z w y ns
abbrev s_Truth_insert : Stmt := inClass (top 30) 1
theorem sc_Truth_insert : FnScope ["self", "row"] ["self", "row"] (defScope s_Truth_insert) := ⟨rfl, rfl, rfl, by decide +kernel, rfl, by decide +kernel, by decide +kernel⟩
theorem ok_uinsert {f : Addr} {fd : FuncData} (F : Fun K "insert" "Truth.insert" s_Truth_insert f fd) (TU : ClsU K mg U fT) (UN : ClsUN K U mI mU mD mC' mW mO mS fL fC) (RU_change : FnR P w K mg base (L2.CX P w) 25 mC' (mChg U C D CC)) : FnOk P w K mg base (L2.CX P w) 26 f fd ["self", "row"] (sp_one U C D CC "insert") := by
  refine F.okX sc_Truth_insert (fun vs H Q E h => ?_) (fun cdv A outer s H vs Q E hr h => ?_)
  · obtain ⟨x, kd, od, sd, z, y, ns, rfl, _⟩ := h
    rfl
  · obtain ⟨x, kd, od, sd, z, y, ns, rfl, c⟩ := h
    refine ⟨_, (pss_one (ps_ret (pe_methR (pv 0) TU.cl UN.change RU_change (hr.mono (by decide)) (passE (takes_of rfl rfl rfl rfl)) (pa_cons pe_str (pa_cons (pv 1) pa_nil))))), ?_⟩
    obtain ⟨dx, tx, fx, hx, _⟩ := c.tr.ex
    walk_at "rd"
    refine i_methR ?_
    walk_at "rd"
    refine ⟨x, dx, _, rfl, hx, lt_meth (.inr (.inr (.inr (.inl rfl)))), ?_⟩
    walk_at "rd"
    exact ⟨x, kd, od, sd, z, _, y, ns, rfl, c⟩
abbrev s_Truth_update : Stmt := inClass (top 30) 2
theorem sc_Truth_update : FnScope ["self", "row"] ["self", "row"] (defScope s_Truth_update) := ⟨rfl, rfl, rfl, by decide +kernel, rfl, by decide +kernel, by decide +kernel⟩
theorem ok_uupdate {f : Addr} {fd : FuncData} (F : Fun K "update" "Truth.update" s_Truth_update f fd) (TU : ClsU K mg U fT) (UN : ClsUN K U mI mU mD mC' mW mO mS fL fC) (RU_change : FnR P w K mg base (L2.CX P w) 25 mC' (mChg U C D CC)) : FnOk P w K mg base (L2.CX P w) 26 f fd ["self", "row"] (sp_one U C D CC "update") := by
  refine F.okX sc_Truth_update (fun vs H Q E h => ?_) (fun cdv A outer s H vs Q E hr h => ?_)
  · obtain ⟨x, kd, od, sd, z, y, ns, rfl, _⟩ := h
    rfl
  · obtain ⟨x, kd, od, sd, z, y, ns, rfl, c⟩ := h
    refine ⟨_, (pss_one (ps_ret (pe_methR (pv 0) TU.cl UN.change RU_change (hr.mono (by decide)) (passE (takes_of rfl rfl rfl rfl)) (pa_cons pe_str (pa_cons (pv 1) pa_nil))))), ?_⟩
    obtain ⟨dx, tx, fx, hx, _⟩ := c.tr.ex
    walk_at "rd"
    refine i_methR ?_
    walk_at "rd"
    refine ⟨x, dx, _, rfl, hx, lt_meth (.inr (.inr (.inr (.inl rfl)))), ?_⟩
    walk_at "rd"
    exact ⟨x, kd, od, sd, z, _, y, ns, rfl, c⟩
abbrev s_Truth_delete : Stmt := inClass (top 30) 3
theorem sc_Truth_delete : FnScope ["self", "key"] ["self", "key"] (defScope s_Truth_delete) := ⟨rfl, rfl, rfl, by decide +kernel, rfl, by decide +kernel, by decide +kernel⟩
theorem ok_udelete {f : Addr} {fd : FuncData} (F : Fun K "delete" "Truth.delete" s_Truth_delete f fd) (TU : ClsU K mg U fT) (UN : ClsUN K U mI mU mD mC' mW mO mS fL fC) (RU_change : FnR P w K mg base (L2.CX P w) 25 mC' (mChg U C D CC)) : FnOk P w K mg base (L2.CX P w) 26 f fd ["self", "key"] (sp_one U C D CC "delete") := by
  refine F.okX sc_Truth_delete (fun vs H Q E h => ?_) (fun cdv A outer s H vs Q E hr h => ?_)
  · obtain ⟨x, kd, od, sd, z, y, ns, rfl, _⟩ := h
    rfl
  · obtain ⟨x, kd, od, sd, z, y, ns, rfl, c⟩ := h
    refine ⟨_, (pss_one (ps_ret (pe_methR (pv 0) TU.cl UN.change RU_change (hr.mono (by decide)) (passE (takes_of rfl rfl rfl rfl)) (pa_cons pe_str (pa_cons (pv 1) pa_nil))))), ?_⟩
    obtain ⟨dx, tx, fx, hx, _⟩ := c.tr.ex
    walk_at "rd"
    refine i_methR ?_
    walk_at "rd"
    refine ⟨x, dx, _, rfl, hx, lt_meth (.inr (.inr (.inr (.inl rfl)))), ?_⟩
    walk_at "rd"
    exact ⟨x, kd, od, sd, z, _, y, ns, rfl, c⟩
end
end Spk

set_option Elab.async false
set_option linter.all false
set_option maxRecDepth 100000
set_option maxHeartbeats 4000000
namespace Spk
open PySem L2
local macro_rules | `(tactic| walk_at "rd") => `(tactic| repeat (first
  | with_reducible refine i_seq ?_ | with_reducible refine i_asg ?_ | with_reducible refine i_ret ?_ | with_reducible refine i_ifS ?_ | with_reducible refine i_if ?_
  | with_reducible refine i_for ?_ | with_reducible refine i_iL ?_ | with_reducible refine i_iT ?_ | with_reducible refine i_ckw ?_ | with_reducible refine i_cm ?_ | with_reducible refine And.intro (rfl : V.ref _ = V.ref _) ?_ | with_reducible refine i_rng1 ?_ | with_reducible refine i_bm ?_ | with_reducible refine i_bm0 ?_
  | with_reducible refine i_drop ?_ | with_reducible refine i_next ?_
  | with_reducible refine i_var rfl ?_ | with_reducible refine i_c ?_ | with_reducible refine i_op ?_ | with_reducible refine i_un ?_ | with_reducible refine i_name ?_
  | with_reducible refine i_rI0 ?_ | with_reducible refine i_rU ?_ | with_reducible refine i_rEq rfl ?_ | with_reducible refine i_rNe rfl ?_
  | with_reducible refine i_test ?_ | with_reducible refine i_tB ?_ | with_reducible refine i_and ?_ | with_reducible refine i_or ?_ | with_reducible refine i_not ?_
  | with_reducible refine i_andV ?_ | with_reducible refine i_orV ?_ | with_reducible refine i_notV ?_
  | with_reducible refine i_cons ?_ | with_reducible refine i_nil ?_ | with_reducible refine i_cb ?_ | with_reducible refine i_call ?_ | with_reducible refine i_bl ?_
  | with_reducible refine i_tup ?_ | with_reducible refine i_lst ?_ | with_reducible refine i_par ?_ | with_reducible refine i_gcons ?_ | with_reducible refine i_gnil ?_
  | with_reducible refine And.intro (rfl : V.non = V.non) ?_ | with_reducible refine i_ixT (by assumption) rfl ?_ | with_reducible refine i_ixL (by assumption) rfl ?_ | with_reducible refine i_gtup (by assumption) rfl ?_
  | with_reducible refine i_gsub ?_
  | with_reducible refine Or.inl (Exists.intro _ (And.intro (rfl : [V.int _] = [V.int _]) ?_)) | with_reducible refine Exists.intro _ (And.intro (rfl : [V.int _] = [V.int _]) ?_)
  | with_reducible refine Or.inr (Exists.intro _ (And.intro (rfl : [V.bl _] = [V.bl _]) ?_))
  | with_reducible refine Exists.intro _ (Exists.intro _ (And.intro (rfl : [V.int _, V.int _] = [V.int _, V.int _]) ?_))
  | with_reducible refine Exists.intro _ (Exists.intro _ (And.intro (rfl : [V.ref _] = [V.ref _]) (And.intro (Or.inl (SqL.of (by assumption))) ?_)))
  | with_reducible refine i_rI (show (0 : Int) < _ by assumption) ?_ | with_reducible refine i_rI (show (0 : Int) < _ by decide) ?_
  | with_reducible refine i_rI (pow_ok (Nat.le_of_ble_eq_true rfl) (Nat.le_of_ble_eq_true rfl)) ?_
  | with_reducible refine i_rI (cmulL rfl) ?_))
/-! ### a change asked and made, its refusal caught -/
def rIsPc (K : PySem.W.Frag) (C a : Addr) (cls : Value) (d : Option Addr) : List V → Hp → VK → Prop := fun xs H Q => cls = .ref C ∧ rIsP K C a d xs H Q
theorem call_isPc {X : Cx} {K : PySem.W.Frag} {pn : List (Addr × Obj)} {a C : Addr} {oe : Obj} {cls : Value} {d : Option Addr} (T : ExP K C) (hz : Zc cls d oe) (hf : ∃ vs, oe.data = .fields vs) (hpin : (a, oe) ∈ pn) (hK : X.K = K := by rfl) (hp : X.pn = pn := by rfl) : CallR X (.builtin "isinstance") (rIsPc K C a cls d) := by
  subst hK hp
  rintro pins s σ H xs us Q I r ⟨e, h⟩
  subst e
  exact call_isP T hz hf hpin pins s σ H xs us Q I r h
theorem pe_xfPK {X : Cx} {K : PySem.W.Frag} {pn : List (Addr × Obj)} {a C : Addr} {oe : Obj} {cls : Value} {d : Option Addr} {e : Expr} {te : TE} {pos : Pos} {n : Str} (T : XfC K C) (hno : PySem.W.findIn K (.ref C) n = some none) (hz : Zc cls d oe) (hf : ∃ vs, oe.data = .fields vs) (hpin : (a, oe) ∈ pn) (he : PE X e te)
    (hK : X.K = K := by rfl) (hp : X.pn = pn := by rfl) (hb : attributeBase e n X.env (eval e X.env) = eval e X.env := by rfl) : PE X (.Attribute e n pos) (tXf a cls d C n te) := by
  subst hK hp
  exact pe_xfP T hno hz hf hpin he hb
/-- what else is told of the errors -/
structure XEc (K : PySem.W.Frag) (mg : Str → Option Value) (CC CE : Addr) : Prop where
  xf : XfC K CC
  xp : ExP K CC
  kit : PySem.W.kitOne K (.ref CC) (.ref CC) = some true
  exm : PySem.W.exmOne K (.ref CC) (.ref CE) = some true
  g : mg "FeedError" = some (.ref CE)
theorem i_xf {a : Addr} {cls : Value} {d : Option Addr} {C : Addr} {f : Str} {te : TE} {σ : L2.St} {H : Hp} {Q : VK} (h : te σ H fun x H1 => x = .ref a ∧ cls = .ref C ∧ ∃ (dd : Addr) (fs : List (Str × V)) (v : V), d = some dd ∧ H1 dd = some (.xd fs) ∧ fs.lookup f = some v ∧ Q v H1) : tXf a cls d C f te σ H Q := h
theorem lk_reason {v : V} : [(("reason" : Str), v)].lookup ("reason" : Str) = some v := by
  simp only [List.lookup, beq_self_eq_true]
section
variable {P : Program} {w : World} {K : PySem.W.Frag} {mg : Str → Option Value} {base : Heap} {C D U R fT CC CE fX : Addr} {mI mU mD mC' mW mO mS fL fC : Addr}
abbrev s_call : Stmt := top 46
theorem sc_call : FnScope ["_law_truth", "_law_word", "_law_thing", "_law_caught", "e"] ["_law_truth", "_law_word", "_law_thing"] (defScope s_call) := ⟨rfl, rfl, rfl, by decide +kernel, rfl, by decide +kernel, by decide +kernel⟩
def sp_call (U C D : Addr) : Sp := fun vs H Q _ => ∃ x kd od sd z w y ns, vs = [.ref x, .str w, y] ∧ Tru U C D H x kd od sd z ∧ PlainT z ∧ Wish H z.t w y ns ∧ RowsIn H z ∧ z.kvs.length ≤ 1000 ∧ z.sts.length ≤ 1000 ∧
  (∀ rs, dueW z w ns = some rs → ∀ p H', Same H H' → H' p = some (.tup [.str "refused", .str rs]) → Q (.ref p) H') ∧
  (dueW z w ns = none → ∀ p t b H', OffT x kd sd H H' → Tru U C D H' x kd od sd (chg z w ns y) → KeyAt H' b ns z.t.ks.length → H' t = some (.tup [.ref b, (valV z.kvs (kk ns)).getD .non, if w = "delete" then .non else y]) → H' p = some (.tup [.str "told", .ref t]) → Q (.ref p) H')
theorem ok_call {f : Addr} {fd fd1 fd2 fd3 : FuncData} (F : Fun K "_law_call" "_law_call" s_call f fd) (TU : ClsU K mg U fT) (UN : ClsUN K U mI mU mD mC' mW mO mS fL fC) (XC : XCt K mg CC fX) (XE : XEc K mg CC CE)
    (GU_insert : FnOk P w K mg base (L2.CX P w) 26 mI fd1 ["self", "row"] (sp_one U C D CC "insert")) (BU_insert : Binds K fd1 ["self", "row"] []) (GU_update : FnOk P w K mg base (L2.CX P w) 26 mU fd2 ["self", "row"] (sp_one U C D CC "update")) (BU_update : Binds K fd2 ["self", "row"] [])
    (GU_delete : FnOk P w K mg base (L2.CX P w) 26 mD fd3 ["self", "key"] (sp_one U C D CC "delete")) (BU_delete : Binds K fd3 ["self", "key"] []) (z_isinstance : mg "isinstance" = none) :
    FnOk P w K mg base CX0 27 f fd ["_law_truth", "_law_word", "_law_thing"] (sp_call U C D) := by
  have XF := XE.xf
  have XP := XE.xp
  have g_FeedError := XE.g
  refine F.ok sc_call (fun vs H Q E h => ?_) (fun cdv A outer s H vs Q E hr h => ?_)
  · obtain ⟨x, kd, od, sd, z, w, y, ns, rfl, _⟩ := h
    rfl
  · obtain ⟨x, kd, od, sd, z, w, y, ns, rfl, tr, ba, wi, ri, kz, sz, q1, q2⟩ := h
    refine ⟨_, (pss_cons (ps_set (i := 3) sc_call.nd rfl (Or.inl rfl) pe_non)
 (pss_try_keep (i := 4) (j := 3) rfl rfl sc_call.nd rfl rfl (by show 3 < 5; decide) ⟨rfl, by decide, .inl g_FeedError⟩ (fun W pn xe tk po => (pss_cons (ps_if (pt_cmpR op_eq (pv 1) pe_str (nomark _))
 (pss_one (ps_ret (pe_tup (pa_cons pe_str (pa_cons (pe_methS (pv 0) TU.cl UN.insert GU_insert (hr.mono (by decide)) BU_insert (fun σ => passAt tk σ) (pa_cons (pv 2) pa_nil)) pa_nil)))))
 pss_nil)
 (pss_cons (ps_if (pt_cmpR op_eq (pv 1) pe_str (nomark _))
 (pss_one (ps_ret (pe_tup (pa_cons pe_str (pa_cons (pe_methS (pv 0) TU.cl UN.update GU_update (hr.mono (by decide)) BU_update (fun σ => passAt tk σ) (pa_cons (pv 2) pa_nil)) pa_nil)))))
 pss_nil)
 (pss_one (ps_ret (pe_tup (pa_cons pe_str (pa_cons (pe_methS (pv 0) TU.cl UN.delete GU_delete (hr.mono (by decide)) BU_delete (fun σ => passAt tk σ) (pa_cons (pv 2) pa_nil)) pa_nil))))))))
 (fun a oe pn => (pss_one (ps_set (i := 3) sc_call.nd rfl (Or.inl rfl) (pv 4))))
 (pss_one ps_dead)
 (fun a oe cls d pn hz hf hp => (pss_one (ps_ret (pe_ifExp (pt_val (pe_callB (call_isPc XP hz hf hp) (by rfl) z_isinstance (by decide +kernel) (pa_cons (pv 3) (pa_cons (pe_glob rfl XC.g (relR _)) pa_nil)))) (pe_tup (pa_cons pe_str (pa_cons (pe_xfPK XF XC.noR hz hf hp (pv 3)) pa_nil))) (pe_tup (pa_cons pe_str (pa_cons pe_non pa_nil))))))))), ?_⟩
    obtain ⟨dx, tx, fx, hx, _⟩ := tr.ex
    walk_at "rd"
    have hw : w = "insert" ∨ w = "update" ∨ w = "delete" := by
      rcases wi with ⟨e, _⟩ | ⟨e | e, _⟩
      · exact .inr (.inr e)
      · exact .inl e
      · exact .inr (.inl e)
    rcases hw with rfl | rfl | rfl
    · rw [decide_eq_true rfl]
      refine iteT ?_
      walk_at "rd"
      refine i_methS ?_
      walk_at "rd"
      refine ⟨x, dx, _, rfl, hx, lt_meth (.inl rfl), ?_⟩
      walk_at "rd"
      refine ⟨x, kd, od, sd, z, y, ns, rfl, ⟨tr, ba, wi, ri, kz, sz, fun rs due d H1 s1 hd => ⟨XE.exm, fun a ha => ?_⟩, fun due p b H1 off tr1 ka hp => ?_⟩⟩
      · walk_at "rd"
        refine ⟨rfl, .ref CC, .ref CC, true, d, _, rfl, .own CC, XE.kit, rfl, hd, true, rfl, iteT ?_⟩
        walk_at "rd"
        refine i_xf (i_var rfl ?_)
        refine ⟨rfl, rfl, d, _, .str rs, rfl, hd, lk_reason, ?_⟩
        walk_at "rd"
        refine ⟨size_of (Nat.le_of_ble_eq_true rfl), fun t ht => ?_⟩
        obtain ⟨H2, e2, s2, h2⟩ := new_heap (o := .tup [.str "refused", .str rs]) ht
        rw [e2]
        exact q1 rs due t H2 (fun c o e => s2 _ _ (s1 _ _ e)) h2
      · walk_at "rd"
        refine ⟨size_of (Nat.le_of_ble_eq_true rfl), fun t ht => ?_⟩
        obtain ⟨H2, e2, s2, h2⟩ := new_heap (o := .tup [.str "told", .ref p]) ht
        rw [e2]
        exact q2 due t p b H2 (off.trans (Same.offT s2)) (tr1.up s2) (ka.up s2) (s2 _ _ hp) h2
    · rw [decide_eq_false (show ¬ V.str "update" = V.str "insert" from fun e => absurd (V.str.inj e) (by decide))]
      refine iteF ?_
      walk_at "rd"
      rw [decide_eq_true rfl]
      refine iteT ?_
      walk_at "rd"
      refine i_methS ?_
      walk_at "rd"
      refine ⟨x, dx, _, rfl, hx, lt_meth (.inr (.inl rfl)), ?_⟩
      walk_at "rd"
      refine ⟨x, kd, od, sd, z, y, ns, rfl, ⟨tr, ba, wi, ri, kz, sz, fun rs due d H1 s1 hd => ⟨XE.exm, fun a ha => ?_⟩, fun due p b H1 off tr1 ka hp => ?_⟩⟩
      · walk_at "rd"
        refine ⟨rfl, .ref CC, .ref CC, true, d, _, rfl, .own CC, XE.kit, rfl, hd, true, rfl, iteT ?_⟩
        walk_at "rd"
        refine i_xf (i_var rfl ?_)
        refine ⟨rfl, rfl, d, _, .str rs, rfl, hd, lk_reason, ?_⟩
        walk_at "rd"
        refine ⟨size_of (Nat.le_of_ble_eq_true rfl), fun t ht => ?_⟩
        obtain ⟨H2, e2, s2, h2⟩ := new_heap (o := .tup [.str "refused", .str rs]) ht
        rw [e2]
        exact q1 rs due t H2 (fun c o e => s2 _ _ (s1 _ _ e)) h2
      · walk_at "rd"
        refine ⟨size_of (Nat.le_of_ble_eq_true rfl), fun t ht => ?_⟩
        obtain ⟨H2, e2, s2, h2⟩ := new_heap (o := .tup [.str "told", .ref p]) ht
        rw [e2]
        exact q2 due t p b H2 (off.trans (Same.offT s2)) (tr1.up s2) (ka.up s2) (s2 _ _ hp) h2
    · rw [decide_eq_false (show ¬ V.str "delete" = V.str "insert" from fun e => absurd (V.str.inj e) (by decide))]
      refine iteF ?_
      walk_at "rd"
      rw [decide_eq_false (show ¬ V.str "delete" = V.str "update" from fun e => absurd (V.str.inj e) (by decide))]
      refine iteF ?_
      walk_at "rd"
      refine i_methS ?_
      walk_at "rd"
      refine ⟨x, dx, _, rfl, hx, lt_meth (.inr (.inr (.inl rfl))), ?_⟩
      walk_at "rd"
      refine ⟨x, kd, od, sd, z, y, ns, rfl, ⟨tr, ba, wi, ri, kz, sz, fun rs due d H1 s1 hd => ⟨XE.exm, fun a ha => ?_⟩, fun due p b H1 off tr1 ka hp => ?_⟩⟩
      · walk_at "rd"
        refine ⟨rfl, .ref CC, .ref CC, true, d, _, rfl, .own CC, XE.kit, rfl, hd, true, rfl, iteT ?_⟩
        walk_at "rd"
        refine i_xf (i_var rfl ?_)
        refine ⟨rfl, rfl, d, _, .str rs, rfl, hd, lk_reason, ?_⟩
        walk_at "rd"
        refine ⟨size_of (Nat.le_of_ble_eq_true rfl), fun t ht => ?_⟩
        obtain ⟨H2, e2, s2, h2⟩ := new_heap (o := .tup [.str "refused", .str rs]) ht
        rw [e2]
        exact q1 rs due t H2 (fun c o e => s2 _ _ (s1 _ _ e)) h2
      · walk_at "rd"
        refine ⟨size_of (Nat.le_of_ble_eq_true rfl), fun t ht => ?_⟩
        obtain ⟨H2, e2, s2, h2⟩ := new_heap (o := .tup [.str "told", .ref p]) ht
        rw [e2]
        exact q2 due t p b H2 (off.trans (Same.offT s2)) (tr1.up s2) (ka.up s2) (s2 _ _ hp) h2
end
end Spk

set_option Elab.async false
set_option linter.all false
set_option maxRecDepth 100000
set_option maxHeartbeats 1000000
namespace Spk.Fi
open PySem L2 Spk
local macro_rules | `(tactic| walk_at "rd") => `(tactic| repeat (first
  | with_reducible refine i_seq ?_ | with_reducible refine i_asg ?_ | with_reducible refine i_ret ?_ | with_reducible refine i_ifS ?_ | with_reducible refine i_if ?_
  | with_reducible refine i_for ?_ | with_reducible refine i_iL ?_ | with_reducible refine i_iT ?_ | with_reducible refine i_ckw ?_ | with_reducible refine i_cm ?_ | with_reducible refine And.intro (rfl : V.ref _ = V.ref _) ?_ | with_reducible refine i_rng1 ?_ | with_reducible refine i_bm ?_ | with_reducible refine i_bm0 ?_
  | with_reducible refine i_drop ?_ | with_reducible refine i_next ?_
  | with_reducible refine i_var rfl ?_ | with_reducible refine i_c ?_ | with_reducible refine i_op ?_ | with_reducible refine i_un ?_ | with_reducible refine i_name ?_
  | with_reducible refine i_rI0 ?_ | with_reducible refine i_rU ?_ | with_reducible refine i_rEq rfl ?_ | with_reducible refine i_rNe rfl ?_
  | with_reducible refine i_test ?_ | with_reducible refine i_tB ?_ | with_reducible refine i_and ?_ | with_reducible refine i_or ?_ | with_reducible refine i_not ?_
  | with_reducible refine i_andV ?_ | with_reducible refine i_orV ?_ | with_reducible refine i_notV ?_
  | with_reducible refine i_cons ?_ | with_reducible refine i_nil ?_ | with_reducible refine i_cb ?_ | with_reducible refine i_call ?_ | with_reducible refine i_bl ?_
  | with_reducible refine i_tup ?_ | with_reducible refine i_lst ?_ | with_reducible refine i_par ?_ | with_reducible refine i_gcons ?_ | with_reducible refine i_gnil ?_
  | with_reducible refine And.intro (rfl : V.non = V.non) ?_ | with_reducible refine i_ixT (by assumption) rfl ?_ | with_reducible refine i_ixL (by assumption) rfl ?_ | with_reducible refine i_gtup (by assumption) rfl ?_
  | with_reducible refine i_gsub ?_
  | with_reducible refine Or.inl (Exists.intro _ (And.intro (rfl : [V.int _] = [V.int _]) ?_)) | with_reducible refine Exists.intro _ (And.intro (rfl : [V.int _] = [V.int _]) ?_)
  | with_reducible refine Or.inr (Exists.intro _ (And.intro (rfl : [V.bl _] = [V.bl _]) ?_))
  | with_reducible refine Exists.intro _ (Exists.intro _ (And.intro (rfl : [V.int _, V.int _] = [V.int _, V.int _]) ?_))
  | with_reducible refine Exists.intro _ (Exists.intro _ (And.intro (rfl : [V.ref _] = [V.ref _]) (And.intro (Or.inl (SqL.of (by assumption))) ?_)))
  | with_reducible refine i_rI (show (0 : Int) < _ by assumption) ?_ | with_reducible refine i_rI (show (0 : Int) < _ by decide) ?_
  | with_reducible refine i_rI (pow_ok (Nat.le_of_ble_eq_true rfl) (Nat.le_of_ble_eq_true rfl)) ?_
  | with_reducible refine i_rI (cmulL rfl) ?_))
/-! ### drawn sets -/
section
variable {P : Program} {w : World} {K : PySem.W.Frag} {mg : Str → Option Value} {base : Heap} {C fI fE : Addr} {mc : Value} {pe pb po pf ge gb go gf fO : Addr}
abbrev mSub (C : Addr) : Sp := fun vs H Q E => sp_sub C (vs ++ []) H Q E
abbrev mAnd (C : Addr) : Sp := fun vs H Q E => sp_and C (vs ++ []) H Q E
theorem i_ownB {H : Hp} {a b : Addr} {ps qs : List Stc} {sp : Sp} {Q : VK} (ha : Rng C H a ps) (hb : Rng C H b qs) (h : sp [.ref a, .ref b] H Q E0) : rBin C sp (.ref a) (.ref b) H Q := by
  obtain ⟨dx, t, ia, _⟩ := ha
  obtain ⟨dy, u, ib, _⟩ := hb
  exact ⟨a, b, dx, dy, _, _, rfl, rfl, ia, ib, h⟩
abbrev s_ranges : Stmt := top 42
theorem sc_ranges : FnScope ["_law_pen_here", "_law_low", "_law_pick"] ["_law_pen_here"] (defScope s_ranges) := ⟨rfl, rfl, rfl, by decide +kernel, rfl, by decide +kernel, by decide +kernel⟩
def sp_ranges (C : Addr) : Sp := fun vs H Q _ => ∃ p L n, vs = [.ref p] ∧ Pen H p L n ∧ n ≤ 9000 ∧ ∀ r H' ps, Keep H H' → Pen H' p L (n + 3) → Rng C H' r ps → ps.length ≤ 4 → Q (.ref r) H'
theorem ok_ranges {f fA fS fD : Addr} {fd fdD : FuncData} (F : Fun K "_law_ranges" "_law_ranges" s_ranges f fd) (F_draw : Fun K "_law_draw" "_law_draw" s_draw fD fdD) (B_draw : Binds K fdD ["_law_pen_here", "_law_many"] []) (g_draw : mg "_law_draw" = some (.ref fD))
    (G_draw : FnOk P w K mg base CX0 1 fD fdD ["_law_pen_here", "_law_many"] sp_draw) (CM : ClsM K C mc pe pb po pf ge gb go gf fO) (CN : ClsN K C fA fS) (R : ClsR P w K mg base C ge gb go gf fO fE) (R_sub : FnR P w K mg base CX0 5 fS (mSub C)) (g_C : mg "Ranges" = some (.ref C)) :
    FnOk P w K mg base CX0 6 f fd ["_law_pen_here"] (sp_ranges C) := by
  have R_of := R.of
  have R_between := R.between
  have R_full := R.full
  have R_empty := R.empty
  have R_or := R.or
  refine F.ok sc_ranges (fun vs H Q E h => ?_) (fun cdv A outer s H vs Q E hr h => ?_)
  · obtain ⟨p, L, n, rfl, _⟩ := h
    rfl
  · obtain ⟨p, L, n, rfl, hp, hn, k⟩ := h
    refine ⟨_, (pss_cons (ps_set (i := 1) sc_ranges.nd rfl (Or.inl rfl) (pe_op op_sub (pe_call G_draw (hr.mono (by decide)) rfl g_draw F_draw.kp B_draw .nil pass0 (pa_cons (pv 0) (pa_cons pe_int pa_nil))) pe_int))
 (pss_cons (ps_set (i := 2) sc_ranges.nd rfl (Or.inl rfl) (pe_call G_draw (hr.mono (by decide)) rfl g_draw F_draw.kp B_draw .nil pass0 (pa_cons (pv 0) (pa_cons pe_int pa_nil))))
 (pss_cons (ps_if (pt_cmpR op_eq (pv 2) pe_int (nomark _))
 (pss_one (ps_ret (ClX.pe_cmeth (pe_glob rfl g_C (relR _)) CM.rd CM.of R_of (hr.mono (by decide)) pass0 (pa_cons (pv 1) (pa_cons (pe_op op_add (pe_op op_add (pv 1) pe_int) (pe_call G_draw (hr.mono (by decide)) rfl g_draw F_draw.kp B_draw .nil pass0 (pa_cons (pv 0) (pa_cons pe_int pa_nil)))) (pa_cons (pe_op op_add (pv 1) pe_int) pa_nil))))))
 pss_nil)
 (pss_cons (ps_if (pt_cmpR op_eq (pv 2) pe_int (nomark _))
 (pss_one (ps_ret (ClX.pe_cmeth (pe_glob rfl g_C (relR _)) CM.rd CM.between R_between (hr.mono (by decide)) pass0 (pa_cons pe_non (pa_cons (pv 1) pa_nil)))))
 pss_nil)
 (pss_cons (ps_if (pt_cmpR op_eq (pv 2) pe_int (nomark _))
 (pss_one (ps_ret (ClX.pe_cmeth (pe_glob rfl g_C (relR _)) CM.rd CM.between R_between (hr.mono (by decide)) pass0 (pa_cons (pv 1) (pa_cons pe_non pa_nil)))))
 pss_nil)
 (pss_cons (ps_if (pt_cmpR op_eq (pv 2) pe_int (nomark _))
 (pss_one (ps_ret (pe_op (op_own (op := .Sub) R_sub (hr.mono (by decide)) CM.self CN.subF CN.subI) (pe_cmeth0 (pe_glob rfl g_C (relR _)) CM.rd CM.full R_full (hr.mono (by decide)) pass0) (ClX.pe_cmeth (pe_glob rfl g_C (relR _)) CM.rd CM.of R_of (hr.mono (by decide)) pass0 (pa_cons (pv 1) pa_nil)))))
 pss_nil)
 (pss_cons (ps_if (pt_cmpR op_eq (pv 2) pe_int (nomark _))
 (pss_one (ps_ret (pe_ix ix_list (pe_lst (pa_cons (pe_cmeth0 (pe_glob rfl g_C (relR _)) CM.rd CM.empty R_empty (hr.mono (by decide)) pass0) (pa_cons (pe_cmeth0 (pe_glob rfl g_C (relR _)) CM.rd CM.full R_full (hr.mono (by decide)) pass0) pa_nil))) (pe_call G_draw (hr.mono (by decide)) rfl g_draw F_draw.kp B_draw .nil pass0 (pa_cons (pv 0) (pa_cons pe_int pa_nil))) (fun _ _ => rfl))))
 pss_nil)
 (pss_cons (ps_if (pt_cmpR op_eq (pv 2) pe_int (nomark _))
 (pss_one (ps_ret (pe_op (op_own (op := .BitOr) R_or (hr.mono (by decide)) CM.self CM.orF CM.orI) (ClX.pe_cmeth (pe_glob rfl g_C (relR _)) CM.rd CM.between R_between (hr.mono (by decide)) pass0 (pa_cons (pv 1) (pa_cons (pe_op op_add (pv 1) (pe_call G_draw (hr.mono (by decide)) rfl g_draw F_draw.kp B_draw .nil pass0 (pa_cons (pv 0) (pa_cons pe_int pa_nil)))) pa_nil))) (ClX.pe_cmeth (pe_glob rfl g_C (relR _)) CM.rd CM.of R_of (hr.mono (by decide)) pass0 (pa_cons (pe_op op_sub (pe_op op_pow pe_int pe_int) pe_int) pa_nil)))))
 pss_nil)
 (pss_one (ps_ret (ClX.pe_cmeth (pe_glob rfl g_C (relR _)) CM.rd CM.between R_between (hr.mono (by decide)) pass0 (pa_cons (pv 1) (pa_cons (pe_op op_add (pv 1) (pe_call G_draw (hr.mono (by decide)) rfl g_draw F_draw.kp B_draw .nil pass0 (pa_cons (pv 0) (pa_cons pe_int pa_nil)))) pa_nil))))))))))))), ?_⟩
    walk_at "rd"
    refine ⟨p, L, n, 9, rfl, hp, by omega, by decide, by decide, fun d1 H1 _ _ k1 p1 => ?_⟩
    walk_at "rd"
    refine ⟨p, L, n + 1, 7, rfl, p1, by omega, by decide, by decide, fun d2 H2 _ _ k2 p2 => ?_⟩
    walk_at "rd"
    have fin : ∀ r H3 ps, Keep H2 H3 → Pen H3 p L (n + 3) → Rng C H3 r ps → ps.length ≤ 4 → Q (.ref r) H3 := fun r H3 ps kk => k r H3 ps ((k1.trans k2).trans kk)
    refine ite_d (fun _ => ?_) (fun _ => ?_)
    · walk_at "rd"
      refine ⟨p, L, n + 2, 3, rfl, p2, by omega, by decide, by decide, fun d3 H3 _ _ k3 p3 => ?_⟩
      walk_at "rd"
      refine ⟨[d1 - 4, d1 - 4 + 1 + d3, d1 - 4 + 5], rfl, by simp, fun r H4 ps s4 hr4 _ hz => ?_⟩
      exact fin r H4 ps (k3.trans (Same.keep s4)) (p3.up s4) hr4 (by simp at hz; omega)
    walk_at "rd"
    refine ite_d (fun _ => ?_) (fun _ => ?_)
    · walk_at "rd"
      refine ⟨none, some (d1 - 4), rfl, fun r H4 ps s4 hr4 _ hz => ?_⟩
      exact fin r H4 ps (Same.keep s4) ((p2.up s4).mono (by omega)) hr4 (by omega)
    walk_at "rd"
    refine ite_d (fun _ => ?_) (fun _ => ?_)
    · walk_at "rd"
      refine ⟨some (d1 - 4), none, rfl, fun r H4 ps s4 hr4 _ hz => ?_⟩
      exact fin r H4 ps (Same.keep s4) ((p2.up s4).mono (by omega)) hr4 (by omega)
    walk_at "rd"
    refine ite_d (fun _ => ?_) (fun _ => ?_)
    · walk_at "rd"
      refine ⟨rfl, fun r3 H3 s3 hr3 => ?_⟩
      walk_at "rd"
      refine ⟨[d1 - 4], rfl, by simp, fun r H4 ps s4 hr4 _ hz => ?_⟩
      walk_at "rd"
      refine i_ownB (hr3.up s4) hr4 ⟨r3, r, _, _, rfl, hr3.up s4, hr4, by simp at hz ⊢; omega, fun r5 H5 qs s5 hr5 _ hz5 => ?_⟩
      exact fin r5 H5 qs (((Same.keep s3).trans (Same.keep s4)).trans (Same.keep s5)) (((p2.up s3).up s4).up s5 |>.mono (by omega)) hr5 (by simp at hz hz5; omega)
    walk_at "rd"
    refine ite_d (fun _ => ?_) (fun _ => ?_)
    · walk_at "rd"
      refine ⟨rfl, fun r3 H3 s3 hr3 => ?_⟩
      walk_at "rd"
      refine ⟨rfl, fun r4 H4 s4 hr4 => ?_⟩
      walk_at "rd"
      refine ⟨size_of (Nat.le_of_ble_eq_true rfl), fun l hl => ?_⟩
      obtain ⟨H5, e5, s5, h5⟩ := new_heap (o := .lst [.ref r3, .ref r4]) hl
      rw [e5]
      walk_at "rd"
      refine ⟨p, L, n + 2, 2, rfl, ((p2.up s3).up s4).up s5, by omega, by decide, by decide, fun d6 H6 g0 g1 k6 p6 => ?_⟩
      walk_at "rd"
      have kk : Keep H2 H6 := (((Same.keep s3).trans (Same.keep s4)).trans (Same.keep s5)).trans k6
      have c : d6 = 0 ∨ d6 = 1 := by omega
      have h6 := k6 _ _ rfl h5
      rcases c with rfl | rfl
      · refine i_ixL h6 rfl ?_
        walk_at "rd"
        exact fin r3 H6 [] kk p6 (((hr3.up s4).up s5).keep k6) (Nat.zero_le _)
      · refine i_ixL h6 rfl ?_
        walk_at "rd"
        exact fin r4 H6 [(none, none)] kk p6 ((hr4.up s5).keep k6) (by simp)
    walk_at "rd"
    refine ite_d (fun _ => ?_) (fun _ => ?_)
    · walk_at "rd"
      refine ⟨p, L, n + 2, 4, rfl, p2, by omega, by decide, by decide, fun d3 H3 _ _ k3 p3 => ?_⟩
      walk_at "rd"
      refine ⟨some (d1 - 4), some (d1 - 4 + d3), rfl, fun r4 H4 ps s4 hr4 _ hz => ?_⟩
      walk_at "rd"
      refine ⟨[10 ^ 12 - 1], rfl, by simp, fun r5 H5 qs s5 hr5 _ hz5 => ?_⟩
      walk_at "rd"
      refine i_ownB (hr4.up s5) hr5 ⟨r4, r5, _, _, rfl, hr4.up s5, hr5, by simp at hz5; omega, fun r6 H6 rs s6 hr6 _ hz6 => ?_⟩
      exact fin r6 H6 rs (((k3.trans (Same.keep s4)).trans (Same.keep s5)).trans (Same.keep s6)) (((p3.up s4).up s5).up s6) hr6 (by simp at hz5; omega)
    walk_at "rd"
    refine ⟨p, L, n + 2, 4, rfl, p2, by omega, by decide, by decide, fun d3 H3 _ _ k3 p3 => ?_⟩
    walk_at "rd"
    refine ⟨some (d1 - 4), some (d1 - 4 + d3), rfl, fun r4 H4 ps s4 hr4 _ hz => ?_⟩
    exact fin r4 H4 ps (k3.trans (Same.keep s4)) (p3.up s4) hr4 (by omega)
end
end Spk.Fi

set_option Elab.async false
set_option linter.all false
set_option maxRecDepth 100000
set_option maxHeartbeats 1000000
namespace Spk
open PySem PySem.Spec PyProof.Rows
/-! ## ascending texts, none twice, are known by what they hold -/
def notAhead (a b : Str) : Prop := ¬ b.cps.toList < a.cps.toList
theorem notAhead_trans {a b c : Str} (h1 : notAhead a b) (h2 : notAhead b c) : notAhead a c := by
  unfold notAhead at *
  rw [List.not_lt] at *
  exact List.le_trans h1 h2
theorem notAhead_anti {a b : Str} (h1 : notAhead a b) (h2 : notAhead b a) : a = b := by
  unfold notAhead at *
  rw [List.not_lt] at *
  have e : a.cps.toList = b.cps.toList := List.le_antisymm h1 h2
  obtain ⟨⟨x⟩⟩ := a
  obtain ⟨⟨y⟩⟩ := b
  simp only at e
  rw [e]
theorem rising_all : ∀ {r : List Str} {p : Str}, risingS p r = true → ∀ y, y ∈ r → notAhead p y
  | [], _, _, _, h => nomatch h
  | x :: r, p, h, y, hy => by
    have h' : (!ltCps x.cps.toList p.cps.toList && risingS x r) = true := h
    rw [Bool.and_eq_true, ltCps_eq] at h'
    have a1 : notAhead p x := by
      unfold notAhead
      simpa using h'.1
    rcases List.mem_cons.mp hy with rfl | hy
    · exact a1
    · exact notAhead_trans a1 (rising_all h'.2 y hy)
theorem rising_tail : ∀ {r : List Str} {p : Str}, risingS p r = true → sortedS r = true
  | [], _, _ => rfl
  | x :: r, p, h => by
    have h' : (!ltCps x.cps.toList p.cps.toList && risingS x r) = true := h
    rw [Bool.and_eq_true] at h'
    exact h'.2
theorem sorted_one : ∀ {xs ys : List Str}, sortedS xs = true → sortedS ys = true → xs.Nodup → ys.Nodup → (∀ c, c ∈ xs ↔ c ∈ ys) → xs = ys
  | [], [], _, _, _, _, _ => rfl
  | [], y :: ys, _, _, _, _, e => absurd ((e y).mpr List.mem_cons_self) List.not_mem_nil
  | x :: xs, [], _, _, _, _, e => absurd ((e x).mp List.mem_cons_self) List.not_mem_nil
  | x :: xs, y :: ys, h1, h2, n1, n2, e => by
    obtain ⟨nx, m1⟩ := List.nodup_cons.mp n1
    obtain ⟨ny, m2⟩ := List.nodup_cons.mp n2
    have exy : x = y := by
      rcases List.mem_cons.mp ((e x).mp List.mem_cons_self) with z | z
      · exact z
      · rcases List.mem_cons.mp ((e y).mpr List.mem_cons_self) with z2 | z2
        · exact z2.symm
        · exact notAhead_anti (rising_all h1 y z2) (rising_all h2 x z)
    subst exy
    have t : xs = ys := sorted_one (rising_tail h1) (rising_tail h2) m1 m2 fun c => by
      have ec := e c
      rw [List.mem_cons, List.mem_cons] at ec
      constructor
      · intro hc
        exact (ec.mp (.inr hc)).resolve_left fun z => nx (z ▸ hc)
      · intro hc
        exact (ec.mpr (.inr hc)).resolve_left fun z => ny (z ▸ hc)
    rw [t]
end Spk

set_option Elab.async false
set_option linter.all false
set_option maxRecDepth 100000
set_option maxHeartbeats 1000000
namespace Spk.Fi
open PySem L2 Spk
local macro_rules | `(tactic| walk_at "rd") => `(tactic| repeat (first
  | with_reducible refine i_seq ?_ | with_reducible refine i_asg ?_ | with_reducible refine i_ret ?_ | with_reducible refine i_ifS ?_ | with_reducible refine i_if ?_
  | with_reducible refine i_for ?_ | with_reducible refine i_iL ?_ | with_reducible refine i_iT ?_ | with_reducible refine i_ckw ?_ | with_reducible refine i_cm ?_ | with_reducible refine And.intro (rfl : V.ref _ = V.ref _) ?_ | with_reducible refine i_rng1 ?_ | with_reducible refine i_bm ?_ | with_reducible refine i_bm0 ?_
  | with_reducible refine i_drop ?_ | with_reducible refine i_next ?_
  | with_reducible refine i_var rfl ?_ | with_reducible refine i_c ?_ | with_reducible refine i_op ?_ | with_reducible refine i_un ?_ | with_reducible refine i_name ?_
  | with_reducible refine i_rI0 ?_ | with_reducible refine i_rU ?_ | with_reducible refine i_rEq rfl ?_ | with_reducible refine i_rNe rfl ?_
  | with_reducible refine i_test ?_ | with_reducible refine i_tB ?_ | with_reducible refine i_and ?_ | with_reducible refine i_or ?_ | with_reducible refine i_not ?_
  | with_reducible refine i_andV ?_ | with_reducible refine i_orV ?_ | with_reducible refine i_notV ?_
  | with_reducible refine i_cons ?_ | with_reducible refine i_nil ?_ | with_reducible refine i_cb ?_ | with_reducible refine i_call ?_ | with_reducible refine i_bl ?_
  | with_reducible refine i_tup ?_ | with_reducible refine i_lst ?_ | with_reducible refine i_par ?_ | with_reducible refine i_gcons ?_ | with_reducible refine i_gnil ?_
  | with_reducible refine And.intro (rfl : V.non = V.non) ?_ | with_reducible refine i_ixT (by assumption) rfl ?_ | with_reducible refine i_ixL (by assumption) rfl ?_ | with_reducible refine i_gtup (by assumption) rfl ?_
  | with_reducible refine i_gsub ?_
  | with_reducible refine Or.inl (Exists.intro _ (And.intro (rfl : [V.int _] = [V.int _]) ?_)) | with_reducible refine Exists.intro _ (And.intro (rfl : [V.int _] = [V.int _]) ?_)
  | with_reducible refine Or.inr (Exists.intro _ (And.intro (rfl : [V.bl _] = [V.bl _]) ?_))
  | with_reducible refine Exists.intro _ (Exists.intro _ (And.intro (rfl : [V.int _, V.int _] = [V.int _, V.int _]) ?_))
  | with_reducible refine Exists.intro _ (Exists.intro _ (And.intro (rfl : [V.ref _] = [V.ref _]) (And.intro (Or.inl (SqL.of (by assumption))) ?_)))
  | with_reducible refine i_rI (show (0 : Int) < _ by assumption) ?_ | with_reducible refine i_rI (show (0 : Int) < _ by decide) ?_
  | with_reducible refine i_rI (pow_ok (Nat.le_of_ble_eq_true rfl) (Nat.le_of_ble_eq_true rfl)) ?_
  | with_reducible refine i_rI (cmulL rfl) ?_))
/-! ### drawn trees -/
/-- its conditions have few parts -/
def Tr.Few : Tr → Prop
  | .wi _ ps => ps.length ≤ 4
  | .mi _ => True
  | .al => True
  | .ne => True
  | .an l r => l.Few ∧ r.Few
  | .ou l r => l.Few ∧ r.Few
  | .no t => t.Few
theorem penny_strs (cs : List Str) : penny (.lst (cs.map V.str)) = false := by
  cases cs <;> rfl
/-- all its columns are of these -/
def Of (cs : List Str) (t : Tr) : Prop := ∀ c, c ∈ t.cols → c ∈ cs
/-- what the text says of Filter's methods as they are called from outside -/
structure ClsG (K : PySem.W.Frag) (D : Addr) (mc : Value) (pw pm pa pn gw gm ga gn fA fO fV fCl : Addr) : Prop where
  rd : ClX.CRead K D mc
  within : ClX.CMet K D mc "within" pw gw
  missing : ClX.CMet K D mc "missing" pm gm
  always : ClX.CMet K D mc "always" pa ga
  never : ClX.CMet K D mc "never" pn gn
  self : PySem.W.selfFirst K D = true
  andF : PySem.W.findIn K (.ref D) "__and__" = some (some (.ref fA))
  andI : PySem.W.isFn K (.ref fA) = true
  orF : PySem.W.findIn K (.ref D) "__or__" = some (some (.ref fO))
  orI : PySem.W.isFn K (.ref fO) = true
  invF : PySem.W.findIn K (.ref D) "__invert__" = some (some (.ref fV))
  invI : PySem.W.isFn K (.ref fV) = true
section
variable {P : Program} {w : World} {K : PySem.W.Frag} {mg : Str → Option Value} {base : Heap} {C fI fE : Addr} {mc : Value} {pe pb po pf ge gb go gf fO : Addr} {D : Addr} {md : Value} {pw pm pa pn gw gm ga gn hA hO hV hC : Addr}
/-- the promises of Filter, as they are called -/
structure ClsH (P : Program) (w : World) (K : PySem.W.Frag) (mg : Str → Option Value) (base : Heap) (C D gw gm ga gn hA hO hV hC : Addr) : Prop where
  within : FnR P w K mg base CX0 3 gw (fun vs H Q E => sp_fwithin C D (vs ++ []) H Q E)
  missing : FnR P w K mg base CX0 3 gm (fun vs H Q E => sp_fmissing D (vs ++ []) H Q E)
  always : FnR P w K mg base CX0 3 ga (fun vs H Q E => sp_falways D (vs ++ []) H Q E)
  never : FnR P w K mg base CX0 3 gn (fun vs H Q E => sp_fnever D (vs ++ []) H Q E)
  and : FnR P w K mg base CX0 3 hA (fun vs H Q E => sp_fand D (vs ++ []) H Q E)
  or : FnR P w K mg base CX0 3 hO (fun vs H Q E => sp_for D (vs ++ []) H Q E)
  inv : FnR P w K mg base CX0 3 hV (fun vs H Q E => sp_finv D (vs ++ []) H Q E)
theorem i_fU {H : Hp} {a : Addr} {t : Tr} {sp : Sp} {Q : VK} (h : Fil D H a t) (q : sp [.ref a] H Q E0) : rUno D sp (.ref a) H Q := by
  obtain ⟨dx, v, q', cs, h1, _⟩ := h
  exact ⟨a, dx, _, rfl, h1, q⟩
theorem i_fB {H : Hp} {a b : Addr} {t u : Tr} {sp : Sp} {Q : VK} (h : Fil D H a t) (h' : Fil D H b u) (q : sp [.ref a, .ref b] H Q E0) : rBin D sp (.ref a) (.ref b) H Q := by
  obtain ⟨dx, v, q', cs, h1, _⟩ := h
  obtain ⟨dy, v', q2, ds, h2, _⟩ := h'
  exact ⟨a, b, dx, dy, _, _, rfl, rfl, h1, h2, q⟩
theorem at_strs {cs : List Str} {d : Int} (h0 : 0 ≤ d) (h1 : d < cs.length) : ∃ c, c ∈ cs ∧ atI (cs.map V.str) d = some (.str c) := by
  obtain ⟨k, rfl⟩ : ∃ k : Nat, d = (k : Int) := ⟨d.toNat, by omega⟩
  have hk : k < cs.length := by omega
  refine ⟨cs[k], List.getElem_mem hk, ?_⟩
  refine atI_nat ?_
  rw [List.getElem?_map, List.getElem?_eq_getElem hk] <;> rfl
abbrev s_leaf : Stmt := top 43
theorem sc_leaf : FnScope ["_law_pen_here", "_law_columns", "_law_column", "_law_pick"] ["_law_pen_here", "_law_columns"] (defScope s_leaf) := ⟨rfl, rfl, rfl, by decide +kernel, rfl, by decide +kernel, by decide +kernel⟩
def sp_leaf : Sp := fun vs H Q _ => ∃ p L n l cs, vs = [.ref p, .ref l] ∧ Pen H p L n ∧ n ≤ 8900 ∧ H l = some (.lst (cs.map V.str)) ∧ 1 ≤ cs.length ∧ cs.length ≤ 10 ∧
  ∀ v H' t, Keep H H' → Pen H' p L (n + 5) → TreeAt H' t v → t.many = 1 → t.deep = 1 → t.Few → Of cs t → Q v H'
theorem ok_leaf {f fD fR : Addr} {fd fdD fdR : FuncData} (F : Fun K "_law_leaf" "_law_leaf" s_leaf f fd) (T : ClsT K mg C fI fE) (F_draw : Fun K "_law_draw" "_law_draw" s_draw fD fdD) (B_draw : Binds K fdD ["_law_pen_here", "_law_many"] []) (g_draw : mg "_law_draw" = some (.ref fD))
    (G_draw : FnOk P w K mg base CX0 1 fD fdD ["_law_pen_here", "_law_many"] sp_draw) (F_ranges : Fun K "_law_ranges" "_law_ranges" s_ranges fR fdR) (B_ranges : Binds K fdR ["_law_pen_here"] []) (g_ranges : mg "_law_ranges" = some (.ref fR))
    (G_ranges : FnOk P w K mg base CX0 6 fR fdR ["_law_pen_here"] (sp_ranges C)) (z_len : mg "len" = none) : FnOk P w K mg base CX0 7 f fd ["_law_pen_here", "_law_columns"] sp_leaf := by
  refine F.ok sc_leaf (fun vs H Q E h => ?_) (fun cdv A outer s H vs Q E hr h => ?_)
  · obtain ⟨p, L, n, l, cs, rfl, _⟩ := h
    rfl
  · obtain ⟨p, L, n, l, cs, rfl, hp, hn, hl, z1, z2, k⟩ := h
    refine ⟨_, (pss_cons (ps_set (i := 2) sc_leaf.nd rfl (Or.inl rfl) (pe_ix ix_list (pv 1) (pe_call G_draw (hr.mono (by decide)) rfl g_draw F_draw.kp B_draw .nil pass0 (pa_cons (pv 0) (pa_cons (pe_callB call_len_seq (by rfl) z_len PySem.boot_len (pa_cons (pv 1) pa_nil)) pa_nil))) (fun _ _ => rfl)))
 (pss_cons (ps_set (i := 3) sc_leaf.nd rfl (Or.inl rfl) (pe_call G_draw (hr.mono (by decide)) rfl g_draw F_draw.kp B_draw .nil pass0 (pa_cons (pv 0) (pa_cons pe_int pa_nil))))
 (pss_cons (ps_if (pt_cmpR op_eq (pv 3) pe_int (nomark _))
 (pss_one (ps_ret (pe_tup (pa_cons pe_str (pa_cons (pv 2) pa_nil)))))
 pss_nil)
 (pss_cons (ps_if (pt_cmpR op_eq (pv 3) pe_int (nomark _))
 (pss_one (ps_ret (pe_ix ix_list (pe_lst (pa_cons (pe_tup (pa_cons pe_str pa_nil)) (pa_cons (pe_tup (pa_cons pe_str pa_nil)) pa_nil))) (pe_call G_draw (hr.mono (by decide)) rfl g_draw F_draw.kp B_draw .nil pass0 (pa_cons (pv 0) (pa_cons pe_int pa_nil))) (fun _ _ => rfl))))
 pss_nil)
 (pss_one (ps_ret (pe_tup (pa_cons pe_str (pa_cons (pv 2) (pa_cons (pe_fld (pe_call G_ranges (hr.mono (by decide)) rfl g_ranges F_ranges.kp B_ranges .nil pass0 (pa_cons (pv 0) pa_nil)) rfl) pa_nil)))))))))), ?_⟩
    walk_at "rd"
    rw [List.length_map]
    refine ⟨p, L, n, _, rfl, hp, by omega, by omega, by omega, fun d1 H1 g0 g1 k1 p1 => ?_⟩
    obtain ⟨c, hc, ec⟩ := at_strs g0 g1
    have hl1 := k1 _ _ (penny_strs cs) hl
    refine i_ixL hl1 ec ?_
    walk_at "rd"
    refine ⟨p, L, n + 1, 8, rfl, p1, by omega, by decide, by decide, fun d2 H2 _ _ k2 p2 => ?_⟩
    walk_at "rd"
    have one : ∀ {t : Tr}, t.cols = [c] → Of cs t := fun e b hb => by
      rw [e] at hb
      rw [List.mem_singleton.mp hb]
      exact hc
    have k12 := k1.trans k2
    refine ite_d (fun _ => ?_) (fun _ => ?_)
    · walk_at "rd"
      refine ⟨size_of (Nat.le_of_ble_eq_true rfl), fun a ha => ?_⟩
      obtain ⟨H3, e3, s3, h3⟩ := new_heap (o := .tup [.str "missing", .str c]) ha
      rw [e3]
      exact k (.ref a) H3 (.mi c) (k12.trans (Same.keep s3)) ((p2.up s3).mono (by omega)) ⟨a, rfl, h3⟩ rfl rfl trivial (one rfl)
    walk_at "rd"
    refine ite_d (fun _ => ?_) (fun _ => ?_)
    · walk_at "rd"
      refine ⟨size_of (Nat.le_of_ble_eq_true rfl), fun a ha => ?_⟩
      obtain ⟨H3, e3, s3, h3⟩ := new_heap (o := .tup [.str "always"]) ha
      rw [e3]
      walk_at "rd"
      refine ⟨size_of (Nat.le_of_ble_eq_true rfl), fun b hb => ?_⟩
      obtain ⟨H4, e4, s4, h4⟩ := new_heap (o := .tup [.str "never"]) hb
      rw [e4]
      walk_at "rd"
      refine ⟨size_of (Nat.le_of_ble_eq_true rfl), fun m hm => ?_⟩
      obtain ⟨H5, e5, s5, h5⟩ := new_heap (o := .lst [.ref a, .ref b]) hm
      rw [e5]
      walk_at "rd"
      refine ⟨p, L, n + 2, 2, rfl, ((p2.up s3).up s4).up s5, by omega, by decide, by decide, fun d6 H6 g0 g1 k6 p6 => ?_⟩
      walk_at "rd"
      have kk : Keep H H6 := (((k12.trans (Same.keep s3)).trans (Same.keep s4)).trans (Same.keep s5)).trans k6
      have h6 := k6 _ _ rfl h5
      have cc : d6 = 0 ∨ d6 = 1 := by omega
      rcases cc with rfl | rfl
      · refine i_ixL h6 rfl ?_
        exact k (.ref a) H6 .al kk (p6.mono (by omega)) ⟨a, rfl, k6 _ _ rfl (s5 _ _ (s4 _ _ h3))⟩ rfl rfl trivial (fun c hc => by cases hc)
      · refine i_ixL h6 rfl ?_
        exact k (.ref b) H6 .ne kk (p6.mono (by omega)) ⟨b, rfl, k6 _ _ rfl (s5 _ _ h4)⟩ rfl rfl trivial (fun c hc => by cases hc)
    walk_at "rd"
    refine ⟨_, rfl, p, L, n + 2, rfl, p2, by omega, fun r H3 ps k3 p3 hr3 hz3 => ?_⟩
    obtain ⟨dx, t, hx, pt, ca⟩ := hr3
    refine ⟨r, C, dx, _, _, rfl, hx, T.cl, T.nP, lk_parts, ?_⟩
    walk_at "rd"
    refine ⟨size_of (Nat.le_of_ble_eq_true rfl), fun a ha => ?_⟩
    obtain ⟨H4, e4, s4, h4⟩ := new_heap (o := .tup [.str "within", .str c, .ref t]) ha
    rw [e4]
    exact k (.ref a) H4 (.wi c ps) ((k12.trans k3).trans (Same.keep s4)) (p3.up s4) ⟨a, t, rfl, h4, pt.up s4, ca⟩ rfl rfl hz3 (one rfl)
abbrev s_set_of : Stmt := top 44
theorem sc_set_of : FnScope ["_law_parts", "_law_found", "_law_low", "_law_high"] ["_law_parts"] (defScope s_set_of) := ⟨rfl, rfl, rfl, by decide +kernel, rfl, by decide +kernel, by decide +kernel⟩
def sp_set_of (C : Addr) : Sp := fun vs H Q _ => ∃ t ps, vs = [.ref t] ∧ PartsT H t ps ∧ Canon ps ∧ ps.length ≤ 4 ∧ ∀ r H', Same H H' → Rng C H' r ps → Q (.ref r) H'
structure OfInv (C : Addr) (H0 : Hp) (t : Addr) (ps : List Stc) (i : Nat) (σ : L2.St) (H : Hp) : Prop where
  ex : ∃ (r : Addr) (qs : List Stc) (x y : Option V), σ = [some (.ref t), some (.ref r), x, y] ∧ Same H0 H ∧ Rng C H r qs ∧ (∀ n, hasL qs n = hasL (ps.take i) n) ∧ qs.length ≤ i
theorem ok_set_of {f : Addr} {fd : FuncData} (F : Fun K "_law_set_of" "_law_set_of" s_set_of f fd) (CM : ClsM K C mc pe pb po pf ge gb go gf fO) (R : ClsR P w K mg base C ge gb go gf fO fE) (g_C : mg "Ranges" = some (.ref C)) :
    FnOk P w K mg base CX0 6 f fd ["_law_parts"] (sp_set_of C) := by
  have R_between := R.between
  have R_empty := R.empty
  have R_or := R.or
  refine F.ok sc_set_of (fun vs H Q E h => ?_) (fun cdv A outer s H vs Q E hr h => ?_)
  · obtain ⟨t, ps, rfl, _⟩ := h
    rfl
  · obtain ⟨t, ps, rfl, ⟨vs, ht, tu⟩, ca, hz, k⟩ := h
    refine ⟨_, (pss_cons (ps_set (i := 1) sc_set_of.nd rfl (Or.inl rfl) (pe_cmeth0 (pe_glob rfl g_C (relR _)) CM.rd CM.empty R_empty (hr.mono (by decide)) pass0))
 (pss_cons (ps_for PassesOwn.never rfl (pi_tup (pv 0)) (pg_tup (by rfl) (pgs_cons (pg_name (i := 2) sc_set_of.nd rfl (Or.inl rfl)) (pgs_cons (pg_name (i := 3) sc_set_of.nd rfl (Or.inl rfl)) pgs_nil)))
 (pss_one (ps_set (i := 1) sc_set_of.nd rfl (Or.inl rfl) (pe_op (op_own (op := .BitOr) R_or (hr.mono (by decide)) CM.self CM.orF CM.orI) (pv 1) (ClX.pe_cmeth (pe_glob rfl g_C (relR _)) CM.rd CM.between R_between (hr.mono (by decide)) pass0 (pa_cons (pv 2) (pa_cons (pv 3) pa_nil)))))))
 (pss_one (ps_ret (pv 1))))), ?_⟩
    walk_at "rd"
    refine ⟨rfl, fun r0 H1 s1 hr1 => ?_⟩
    walk_at "rd"
    refine ⟨t, rfl, ⟨_, SqT.of (s1 _ _ ht)⟩, for_tup (K := K) (a := t) (xs := vs) (OfInv C H t ps) ⟨r0, [], none, none, rfl, s1, hr1, fun _ => rfl, Nat.zero_le _⟩ ?_ ?_ ?_⟩
    · rintro i σ H' _ ⟨r, qs, x, y, _, sm, _⟩
      exact SqT.of (sm _ _ ht)
    · rintro i x σ H' hx ⟨r, qs, y, z, rfl, sm, hq, hm, hl⟩
      obtain ⟨hi, c, rfl, hc⟩ := item_of tu hx
      have hc' := sm _ _ hc
      have step : ∀ n, hasL (ps.take (i + 1)) n = (hasL (ps.take i) n || has1 ps[i] n) := fun n => by
        rw [List.take_succ_eq_append_getElem hi, hasL_append, hasL_one]
      generalize ps[i] = s at *
      obtain ⟨lo, hi'⟩ := s
      dsimp only at hc'
      walk_at "rd"
      refine ⟨lo, hi', rfl, fun b H2 qb s2 hb hmb hzb => ?_⟩
      walk_at "rd"
      refine i_ownB (hq.up s2) hb ⟨r, b, qs, qb, rfl, hq.up s2, hb, by omega, fun u H3 qu s3 hu hmu hzu => ?_⟩
      walk_at "rd"
      exact ⟨u, qu, _, _, rfl, fun b o z => s3 _ _ (s2 _ _ (sm _ _ z)), hu, fun n => (hmu n).trans (by show (hasL qs n || hasL qb n) = _; rw [step, hm, hmb]), by omega⟩
    · rintro σ H' ⟨r, qs, y, z, rfl, sm, hq, hm, hl⟩
      walk_at "rd"
      rw [tups_len tu, List.take_length] at hm
      have e : qs = ps := canon_unique hq.canon ca hm
      rw [e] at hq
      exact k r H' sm hq
end
end Spk.Fi

set_option Elab.async false
set_option linter.all false
set_option maxRecDepth 100000
set_option maxHeartbeats 1000000
namespace Spk.Fi
open PySem L2 Spk
local macro_rules | `(tactic| walk_at "rd") => `(tactic| repeat (first
  | with_reducible refine i_seq ?_ | with_reducible refine i_asg ?_ | with_reducible refine i_ret ?_ | with_reducible refine i_ifS ?_ | with_reducible refine i_if ?_
  | with_reducible refine i_for ?_ | with_reducible refine i_iL ?_ | with_reducible refine i_iT ?_ | with_reducible refine i_ckw ?_ | with_reducible refine i_cm ?_ | with_reducible refine And.intro (rfl : V.ref _ = V.ref _) ?_ | with_reducible refine i_rng1 ?_ | with_reducible refine i_bm ?_ | with_reducible refine i_bm0 ?_
  | with_reducible refine i_drop ?_ | with_reducible refine i_next ?_
  | with_reducible refine i_var rfl ?_ | with_reducible refine i_c ?_ | with_reducible refine i_op ?_ | with_reducible refine i_un ?_ | with_reducible refine i_name ?_
  | with_reducible refine i_rI0 ?_ | with_reducible refine i_rU ?_ | with_reducible refine i_rEq rfl ?_ | with_reducible refine i_rNe rfl ?_
  | with_reducible refine i_test ?_ | with_reducible refine i_tB ?_ | with_reducible refine i_and ?_ | with_reducible refine i_or ?_ | with_reducible refine i_not ?_
  | with_reducible refine i_andV ?_ | with_reducible refine i_orV ?_ | with_reducible refine i_notV ?_
  | with_reducible refine i_cons ?_ | with_reducible refine i_nil ?_ | with_reducible refine i_cb ?_ | with_reducible refine i_call ?_ | with_reducible refine i_bl ?_
  | with_reducible refine i_tup ?_ | with_reducible refine i_lst ?_ | with_reducible refine i_par ?_ | with_reducible refine i_gcons ?_ | with_reducible refine i_gnil ?_
  | with_reducible refine And.intro (rfl : V.non = V.non) ?_ | with_reducible refine i_ixT (by assumption) rfl ?_ | with_reducible refine i_ixL (by assumption) rfl ?_ | with_reducible refine i_gtup (by assumption) rfl ?_
  | with_reducible refine i_gsub ?_
  | with_reducible refine Or.inl (Exists.intro _ (And.intro (rfl : [V.int _] = [V.int _]) ?_)) | with_reducible refine Exists.intro _ (And.intro (rfl : [V.int _] = [V.int _]) ?_)
  | with_reducible refine Or.inr (Exists.intro _ (And.intro (rfl : [V.bl _] = [V.bl _]) ?_))
  | with_reducible refine Exists.intro _ (Exists.intro _ (And.intro (rfl : [V.int _, V.int _] = [V.int _, V.int _]) ?_))
  | with_reducible refine Exists.intro _ (Exists.intro _ (And.intro (rfl : [V.ref _] = [V.ref _]) (And.intro (Or.inl (SqL.of (by assumption))) ?_)))
  | with_reducible refine i_rI (show (0 : Int) < _ by assumption) ?_ | with_reducible refine i_rI (show (0 : Int) < _ by decide) ?_
  | with_reducible refine i_rI (pow_ok (Nat.le_of_ble_eq_true rfl) (Nat.le_of_ble_eq_true rfl)) ?_
  | with_reducible refine i_rI (cmulL rfl) ?_))
/-! ### what is done with trees -/
/-- a truth as 0, 1, 2 -/
def lev : Option Bool → Int
  | some false => 0
  | none => 1
  | some true => 2
theorem lev_b (b : Bool) : lev (some b) = 2 * (if b then 1 else 0) := by
  cases b <;> rfl
theorem lev_not (a : Option Bool) : lev (not3 a) = 2 - lev a := by
  rcases a with _ | ⟨_ | _⟩ <;> rfl
theorem lev_and (a b : Option Bool) : lev (and3 a b) = if lev b < lev a then lev b else lev a := by
  rcases a with _ | ⟨_ | _⟩ <;> rcases b with _ | ⟨_ | _⟩ <;> decide
theorem lev_or (a b : Option Bool) : lev (or3 a b) = if lev b > lev a then lev b else lev a := by
  rcases a with _ | ⟨_ | _⟩ <;> rcases b with _ | ⟨_ | _⟩ <;> decide
theorem i_bi {P : VK} {c : Bool} {H : Hp} (q : P (.int (if c then 1 else 0)) H) : (∃ i, [V.bl c] = [V.int i] ∧ P (.int i) H) ∨ ∃ k, [V.bl c] = [V.bl k] ∧ P (.int (if k then 1 else 0)) H := .inr ⟨c, rfl, q⟩
theorem dec_b {c : Prop} [Decidable c] {b : Bool} (h : c ↔ b = true) : decide c = b := by
  cases b with
  | true => exact decide_eq_true (h.mpr rfl)
  | false => exact decide_eq_false fun z => by have := h.mp z; cases this
section
variable {P : Program} {w : World} {K : PySem.W.Frag} {mg : Str → Option Value} {base : Heap}
abbrev s_numbered : Stmt := top 45
theorem sc_numbered : FnScope ["_law_tree", "_law_values", "_law_value", "_law_low", "_law_high"] ["_law_tree", "_law_values"] (defScope s_numbered) := ⟨rfl, rfl, rfl, by decide +kernel, rfl, by decide +kernel, by decide +kernel⟩
def sp_numbered (d : Nat) : Sp := fun vs H Q _ => ∃ t v m ρ, vs = [v, .ref m] ∧ TreeAt H t v ∧ t.deep ≤ d ∧ ValsAt H m ρ t.cols ∧ ∀ H', Same H H' → Q (.int (lev (t.sem ρ))) H'
structure NuInv (H0 : Hp) (t : V) (m : Addr) (ps : List Stc) (n : Int) (i : Nat) (σ : L2.St) (H : Hp) : Prop where
  ex : ∃ (x y : Option V), σ = [some t, some (.ref m), some (.int n), x, y] ∧ H = H0 ∧ hasL (ps.take i) n = false
theorem ok_numbered {f : Addr} {fd : FuncData} (F : Fun K "_law_numbered" "_law_numbered" s_numbered f fd) (B_numbered : Binds K fd ["_law_tree", "_law_values"] []) (g_numbered : mg "_law_numbered" = some (.ref f))
    (z_int : mg "int" = none) (z_min : mg "min" = none) (z_max : mg "max" = none) : ∀ d, FnOk P w K mg base CX0 (d + 1) f fd ["_law_tree", "_law_values"] (sp_numbered d) := by
  intro d
  induction d with
  | zero =>
    refine F.ok sc_numbered (fun vs H Q E h => ?_) (fun cdv A outer s H vs Q E hr h => ?_)
    · obtain ⟨t, v, m, ρ, rfl, _⟩ := h
      rfl
    · obtain ⟨t, v, m, ρ, rfl, ht, hd, _⟩ := h
      cases t <;> exact absurd hd (by simp [Tr.deep])
  | succ d G_numbered =>
    have F_numbered := F
    refine F.ok sc_numbered (fun vs H Q E h => ?_) (fun cdv A outer s H vs Q E hr h => ?_)
    · obtain ⟨t, v, m, ρ, rfl, _⟩ := h
      rfl
    · obtain ⟨t, v, m, ρ, rfl, ht, hd, hv, q⟩ := h
      refine ⟨_, (pss_cons (ps_if (PW.pt (pw_or (pt_cmpR op_eq (pe_ix ix_tup (pv 0) pe_int (fun _ _ => rfl)) pe_str (nomark _)) (pw_or1 (pt_cmpR op_eq (pe_ix ix_tup (pv 0) pe_int (fun _ _ => rfl)) pe_str (nomark _)))))
 (pss_one (ps_ret (pe_op op_mul pe_int (pe_callTy call_int1 (by rfl) z_int (by decide +kernel) (pa_cons (pe_cmpR op_eq (pe_ix ix_tup (pv 0) pe_int (fun _ _ => rfl)) pe_str (nomark _)) pa_nil)))))
 pss_nil)
 (pss_cons (ps_if (pt_cmpR op_eq (pe_ix ix_tup (pv 0) pe_int (fun _ _ => rfl)) pe_str (nomark _))
 (pss_one (ps_ret (pe_op op_mul pe_int (pe_callTy call_int1 (by rfl) z_int (by decide +kernel) (pa_cons (pe_cmpR op_isN (pe_dget (Nat.lt_of_le_of_lt (Nat.add_le_add_left (by decide : 1 ≤ 64) _) hr.units) (pv 1) (pe_ix ix_tup (pv 0) pe_int (fun _ _ => rfl)) (fun _ _ => rfl)) pe_non (nomark _)) pa_nil)))))
 pss_nil)
 (pss_cons (ps_if (pt_cmpR op_eq (pe_ix ix_tup (pv 0) pe_int (fun _ _ => rfl)) pe_str (nomark _))
 (pss_one (ps_ret (pe_op op_sub pe_int (pe_call G_numbered (hr.mono (by omega)) rfl g_numbered F_numbered.kp B_numbered .nil pass0 (pa_cons (pe_ix ix_tup (pv 0) pe_int (fun _ _ => rfl)) (pa_cons (pv 1) pa_nil))))))
 pss_nil)
 (pss_cons (ps_if (pt_cmpR op_eq (pe_ix ix_tup (pv 0) pe_int (fun _ _ => rfl)) pe_str (nomark _))
 (pss_one (ps_ret (pe_callB (call_min2 rfl) (by rfl) z_min (by decide +kernel) (pa_cons (pe_call G_numbered (hr.mono (by omega)) rfl g_numbered F_numbered.kp B_numbered .nil pass0 (pa_cons (pe_ix ix_tup (pv 0) pe_int (fun _ _ => rfl)) (pa_cons (pv 1) pa_nil))) (pa_cons (pe_call G_numbered (hr.mono (by omega)) rfl g_numbered F_numbered.kp B_numbered .nil pass0 (pa_cons (pe_ix ix_tup (pv 0) pe_int (fun _ _ => rfl)) (pa_cons (pv 1) pa_nil))) pa_nil)))))
 pss_nil)
 (pss_cons (ps_if (pt_cmpR op_eq (pe_ix ix_tup (pv 0) pe_int (fun _ _ => rfl)) pe_str (nomark _))
 (pss_one (ps_ret (pe_callB (call_max2 rfl) (by rfl) z_max (by decide +kernel) (pa_cons (pe_call G_numbered (hr.mono (by omega)) rfl g_numbered F_numbered.kp B_numbered .nil pass0 (pa_cons (pe_ix ix_tup (pv 0) pe_int (fun _ _ => rfl)) (pa_cons (pv 1) pa_nil))) (pa_cons (pe_call G_numbered (hr.mono (by omega)) rfl g_numbered F_numbered.kp B_numbered .nil pass0 (pa_cons (pe_ix ix_tup (pv 0) pe_int (fun _ _ => rfl)) (pa_cons (pv 1) pa_nil))) pa_nil)))))
 pss_nil)
 (pss_cons (ps_set (i := 2) sc_numbered.nd rfl (Or.inl rfl) (pe_dget (Nat.lt_of_le_of_lt (Nat.add_le_add_left (by decide : 1 ≤ 64) _) hr.units) (pv 1) (pe_ix ix_tup (pv 0) pe_int (fun _ _ => rfl)) (fun _ _ => rfl)))
 (pss_cons (ps_if (pt_cmpR op_isN (pv 2) pe_non (nomark _))
 (pss_one (ps_ret pe_int))
 pss_nil)
 (pss_cons (ps_for PassesOwn.never rfl (pi_tup (pe_ix ix_tup (pv 0) pe_int (fun _ _ => rfl))) (pg_tup (by rfl) (pgs_cons (pg_name (i := 3) sc_numbered.nd rfl (Or.inl rfl)) (pgs_cons (pg_name (i := 4) sc_numbered.nd rfl (Or.inl rfl)) pgs_nil)))
 (pss_one (ps_if (PW.pt (pw_and (PW.pt (pw_or (pt_cmpR op_isN (pv 3) pe_non (nomark _)) (pw_or1 (pt_cmpR op_le (pv 3) (pv 2) (nomark _))))) (pw_and1 (PW.pt (pw_or (pt_cmpR op_isN (pv 4) pe_non (nomark _)) (pw_or1 (pt_cmpR op_le (pv 2) (pv 4) (nomark _))))))))
 (pss_one (ps_ret pe_int))
 pss_nil)))
 (pss_one (ps_ret pe_int)))))))))), ?_⟩
      cases t with
      | al =>
        obtain ⟨a, rfl, h1⟩ := ht
        have z := q H (Same.refl H)
        walk_at "rd"
        refine s_yes (iteT ?_)
        walk_at "rd"
        rw [decide_eq_true rfl]
        exact z
      | ne =>
        obtain ⟨a, rfl, h1⟩ := ht
        have z := q H (Same.refl H)
        walk_at "rd"
        refine s_no rfl ?_
        walk_at "rd"
        refine s_yes ?_
        walk_at "rd"
        rw [decide_eq_false (fun e => by have := V.str.inj e; revert this; decide)]
        exact z
      | mi c =>
        obtain ⟨a, rfl, h1⟩ := ht
        have z := q H (Same.refl H)
        walk_at "rd"
        refine s_no rfl ?_
        walk_at "rd"
        refine s_no rfl ?_
        walk_at "rd"
        refine s_yes ?_
        walk_at "rd"
        unfold tDGet
        walk_at "rd"
        refine ⟨m, ov (ρ c), rfl, hv.get (List.mem_singleton.mpr rfl), ?_⟩
        walk_at "rd"
        have e : decide (ov (ρ c) = V.non) = (ρ c).isNone := by
          cases ρ c with
          | none => rfl
          | some n => rfl
        rw [e]
        rw [show Tr.sem ρ (.mi c) = some (ρ c).isNone from rfl, lev_b] at z
        exact z
      | no t =>
        obtain ⟨a, x, rfl, h1, h2⟩ := ht
        have d1 : t.deep ≤ d := by
          simp only [Tr.deep] at hd
          omega
        walk_at "rd"
        refine s_no rfl ?_
        walk_at "rd"
        refine s_no rfl ?_
        walk_at "rd"
        refine s_no rfl ?_
        walk_at "rd"
        refine s_yes ?_
        walk_at "rd"
        refine ⟨t, x, m, ρ, rfl, h2, d1, hv, fun H1 s1 => ?_⟩
        walk_at "rd"
        have z := q H1 s1
        rw [show Tr.sem ρ (.no t) = not3 (t.sem ρ) from rfl, lev_not] at z
        exact z
      | an l r =>
        obtain ⟨a, x, y, rfl, h1, h2, h3⟩ := ht
        have d1 : l.deep ≤ d ∧ r.deep ≤ d := by
          simp only [Tr.deep] at hd
          omega
        walk_at "rd"
        refine s_no rfl ?_
        walk_at "rd"
        refine s_no rfl ?_
        walk_at "rd"
        refine s_no rfl ?_
        walk_at "rd"
        refine s_no rfl ?_
        walk_at "rd"
        refine s_yes ?_
        walk_at "rd"
        refine ⟨l, x, m, ρ, rfl, h2, d1.1, hv.sub fun c hc => List.mem_append_left _ hc, fun H1 s1 => ?_⟩
        have h1' := s1 _ _ h1
        walk_at "rd"
        refine ⟨r, y, m, ρ, rfl, h3.up s1, d1.2, (hv.up s1).sub fun c hc => List.mem_append_right _ hc, fun H2 s2 => ?_⟩
        walk_at "rd"
        have z := q H2 (fun b o z => s2 _ _ (s1 _ _ z))
        rw [show Tr.sem ρ (.an l r) = and3 (l.sem ρ) (r.sem ρ) from rfl, lev_and] at z
        exact z
      | ou l r =>
        obtain ⟨a, x, y, rfl, h1, h2, h3⟩ := ht
        have d1 : l.deep ≤ d ∧ r.deep ≤ d := by
          simp only [Tr.deep] at hd
          omega
        walk_at "rd"
        refine s_no rfl ?_
        walk_at "rd"
        refine s_no rfl ?_
        walk_at "rd"
        refine s_no rfl ?_
        walk_at "rd"
        refine s_no rfl ?_
        walk_at "rd"
        refine s_no rfl ?_
        walk_at "rd"
        refine s_yes ?_
        walk_at "rd"
        refine ⟨l, x, m, ρ, rfl, h2, d1.1, hv.sub fun c hc => List.mem_append_left _ hc, fun H1 s1 => ?_⟩
        have h1' := s1 _ _ h1
        walk_at "rd"
        refine ⟨r, y, m, ρ, rfl, h3.up s1, d1.2, (hv.up s1).sub fun c hc => List.mem_append_right _ hc, fun H2 s2 => ?_⟩
        walk_at "rd"
        have z := q H2 (fun b o z => s2 _ _ (s1 _ _ z))
        rw [show Tr.sem ρ (.ou l r) = or3 (l.sem ρ) (r.sem ρ) from rfl, lev_or] at z
        exact z
      | wi c ps =>
        obtain ⟨a, p, rfl, h1, ⟨vs, hp, tu⟩, ca⟩ := ht
        have z := q H (Same.refl H)
        rw [show Tr.sem ρ (.wi c ps) = wi3 ps (ρ c) from rfl] at z
        walk_at "rd"
        refine s_no rfl ?_
        walk_at "rd"
        refine s_no rfl ?_
        walk_at "rd"
        refine s_no rfl ?_
        walk_at "rd"
        refine s_no rfl ?_
        walk_at "rd"
        refine s_no rfl ?_
        walk_at "rd"
        refine s_no rfl ?_
        walk_at "rd"
        unfold tDGet
        walk_at "rd"
        refine ⟨m, ov (ρ c), rfl, hv.get (List.mem_singleton.mpr rfl), ?_⟩
        walk_at "rd"
        cases e : ρ c with
        | none =>
          rw [e] at z
          refine ite_d (fun _ => ?_) (fun h => absurd rfl h)
          walk_at "rd"
          exact z
        | some n =>
          rw [e, show wi3 ps (some n) = some (hasL ps n) from rfl] at z
          refine ite_d (fun h => nomatch h) (fun _ => ?_)
          walk_at "rd"
          refine ⟨p, rfl, ⟨_, SqT.of hp⟩, for_tup (K := K) (a := p) (xs := vs) (NuInv H (.ref a) m ps n) ⟨none, none, rfl, rfl, rfl⟩ ?_ ?_ ?_⟩
          · rintro i σ H' _ ⟨x, y, _, e, _⟩
            subst e
            exact SqT.of hp
          · rintro i x σ H' hx ⟨y, z2, rfl, e, no⟩
            subst e
            obtain ⟨hi, c2, rfl, hc⟩ := item_of tu hx
            have step : hasL (ps.take (i + 1)) n = has1 ps[i] n := by
              rw [List.take_succ_eq_append_getElem hi, hasL_append, no, Bool.false_or, hasL_one]
            have found : has1 ps[i] n = true → Q (.int 2) H' := fun e => by
              have e2 : hasL ps n = true := List.any_eq_true.mpr ⟨ps[i], List.getElem_mem hi, e⟩
              rw [e2] at z
              exact z
            generalize hs : ps[i] = s at *
            obtain ⟨lo, hi'⟩ := s
            dsimp only at hc
            walk_at "rd"
            have notL : ∀ k, lo = some k → ¬ k ≤ n → has1 (lo, hi') n = false := fun k hk h => by
              subst hk
              simp only [has1, Bool.and_eq_false_iff, decide_eq_false_iff_not]
              exact .inl h
            have notR : ∀ k, hi' = some k → ¬ n ≤ k → has1 (lo, hi') n = false := fun k hk h => by
              subst hk
              simp only [has1, Bool.and_eq_false_iff, decide_eq_false_iff_not]
              exact .inr h
            have right : (∀ k, lo = some k → k ≤ n) → tOr (tTest (tOp (fun x y H Q => y = V.non ∧ Q (V.bl (decide (x = V.non))) H) (tVar 4) (tC V.non))) (tTest (tOp (rI0 fun i j => V.bl (decide (i ≤ j))) (tVar 2) (tVar 4)))
                  [some (V.ref a), some (V.ref m), some (V.int n), some (ov lo), some (ov hi')] H' (fun b H1 => if b = true then Q (.int 2) H1 else NuInv H' (.ref a) m ps n (i + 1) [some (V.ref a), some (V.ref m), some (V.int n), some (ov lo), some (ov hi')] H1) := by
              intro hl'
              walk_at "rd"
              cases hi' with
              | none =>
                refine ite_d (fun _ => iteT ?_) (fun h => absurd rfl h)
                exact found (has1_of hl' fun k hk => nomatch hk)
              | some k =>
                refine ite_d (fun h => nomatch h) (fun _ => ?_)
                walk_at "rd"
                refine ite_d (fun h => ?_) (fun h => ?_)
                · exact found (has1_of hl' fun j hj => by cases hj; exact h)
                · exact ⟨_, _, rfl, rfl, by rw [step]; exact notR k rfl h⟩
            cases lo with
            | none =>
              refine ite_d (fun _ => iteT ?_) (fun h => absurd rfl h)
              exact right fun k hk => nomatch hk
            | some k =>
              refine ite_d (fun h => nomatch h) (fun _ => ?_)
              walk_at "rd"
              refine ite_d (fun h => ?_) (fun h => ?_)
              · exact right fun j hj => by cases hj; exact h
              · refine iteF ?_
                exact ⟨_, _, rfl, rfl, by rw [step]; exact notL k rfl h⟩
          · rintro σ H' ⟨y, z2, rfl, e, no⟩
            subst e
            walk_at "rd"
            rw [tups_len tu, List.take_length] at no
            rw [no] at z
            exact z
end
end Spk.Fi

set_option Elab.async false
set_option linter.all false
set_option maxRecDepth 100000
set_option maxHeartbeats 4000000
namespace Spk.Fi
open PySem L2 Spk
local macro_rules | `(tactic| walk_at "rd") => `(tactic| repeat (first
  | with_reducible refine i_seq ?_ | with_reducible refine i_asg ?_ | with_reducible refine i_ret ?_ | with_reducible refine i_ifS ?_ | with_reducible refine i_if ?_
  | with_reducible refine i_for ?_ | with_reducible refine i_iL ?_ | with_reducible refine i_iT ?_ | with_reducible refine i_ckw ?_ | with_reducible refine i_cm ?_ | with_reducible refine And.intro (rfl : V.ref _ = V.ref _) ?_ | with_reducible refine i_rng1 ?_ | with_reducible refine i_bm ?_ | with_reducible refine i_bm0 ?_
  | with_reducible refine i_drop ?_ | with_reducible refine i_next ?_
  | with_reducible refine i_var rfl ?_ | with_reducible refine i_c ?_ | with_reducible refine i_op ?_ | with_reducible refine i_un ?_ | with_reducible refine i_name ?_
  | with_reducible refine i_rI0 ?_ | with_reducible refine i_rU ?_ | with_reducible refine i_rEq rfl ?_ | with_reducible refine i_rNe rfl ?_
  | with_reducible refine i_test ?_ | with_reducible refine i_tB ?_ | with_reducible refine i_and ?_ | with_reducible refine i_or ?_ | with_reducible refine i_not ?_
  | with_reducible refine i_andV ?_ | with_reducible refine i_orV ?_ | with_reducible refine i_notV ?_
  | with_reducible refine i_cons ?_ | with_reducible refine i_nil ?_ | with_reducible refine i_cb ?_ | with_reducible refine i_call ?_ | with_reducible refine i_bl ?_
  | with_reducible refine i_tup ?_ | with_reducible refine i_lst ?_ | with_reducible refine i_par ?_ | with_reducible refine i_gcons ?_ | with_reducible refine i_gnil ?_
  | with_reducible refine And.intro (rfl : V.non = V.non) ?_ | with_reducible refine i_ixT (by assumption) rfl ?_ | with_reducible refine i_ixL (by assumption) rfl ?_ | with_reducible refine i_gtup (by assumption) rfl ?_
  | with_reducible refine i_gsub ?_
  | with_reducible refine Or.inl (Exists.intro _ (And.intro (rfl : [V.int _] = [V.int _]) ?_)) | with_reducible refine Exists.intro _ (And.intro (rfl : [V.int _] = [V.int _]) ?_)
  | with_reducible refine Or.inr (Exists.intro _ (And.intro (rfl : [V.bl _] = [V.bl _]) ?_))
  | with_reducible refine Exists.intro _ (Exists.intro _ (And.intro (rfl : [V.int _, V.int _] = [V.int _, V.int _]) ?_))
  | with_reducible refine Exists.intro _ (Exists.intro _ (And.intro (rfl : [V.ref _] = [V.ref _]) (And.intro (Or.inl (SqL.of (by assumption))) ?_)))
  | with_reducible refine i_rI (show (0 : Int) < _ by assumption) ?_ | with_reducible refine i_rI (show (0 : Int) < _ by decide) ?_
  | with_reducible refine i_rI (pow_ok (Nat.le_of_ble_eq_true rfl) (Nat.le_of_ble_eq_true rfl)) ?_
  | with_reducible refine i_rI (cmulL rfl) ?_))
theorem ite_s {c A B U : Prop} [Decidable c] (hA : A) (hU : A → ¬ c → U) : if decide c = true then (if true = true then A else B) else U := by
  by_cases h : c
  · rw [decide_eq_true h, if_pos rfl, if_pos rfl]
    exact hA
  · rw [decide_eq_false h, if_neg (by decide)]
    exact hU hA h
section
variable {P : Program} {w : World} {K : PySem.W.Frag} {mg : Str → Option Value} {base : Heap} {C fI fE : Addr} {mc : Value} {pe pb po pf ge gb go gf fO : Addr} {D : Addr} {md : Value} {pw pm pa pn gw gm ga gn hA hO hV hC : Addr}
abbrev s_condition : Stmt := top 47
theorem sc_condition : FnScope ["_law_tree"] ["_law_tree"] (defScope s_condition) := ⟨rfl, rfl, rfl, by decide +kernel, rfl, by decide +kernel, by decide +kernel⟩
def sp_condition (D : Addr) : Sp := fun vs H Q _ => ∃ t v, vs = [v] ∧ TreeAt H t v ∧ t.deep = 1 ∧ t.Few ∧ NewF D H Q t
theorem ok_condition {f fS : Addr} {fd fdS : FuncData} (F : Fun K "_law_condition" "_law_condition" s_condition f fd) (g_CF : mg "Filter" = some (.ref D))
    (CF : ClsG K D md pw pm pa pn gw gm ga gn hA hO hV hC) (RF : ClsH P w K mg base C D gw gm ga gn hA hO hV hC)
    (F_set_of : Fun K "_law_set_of" "_law_set_of" s_set_of fS fdS) (B_set_of : Binds K fdS ["_law_parts"] []) (g_set_of : mg "_law_set_of" = some (.ref fS)) (G_set_of : FnOk P w K mg base CX0 6 fS fdS ["_law_parts"] (sp_set_of C)) :
    FnOk P w K mg base CX0 7 f fd ["_law_tree"] (sp_condition D) := by
  have RF_within := RF.within
  have RF_missing := RF.missing
  have RF_always := RF.always
  have RF_never := RF.never
  refine F.ok sc_condition (fun vs H Q E h => ?_) (fun cdv A outer s H vs Q E hr h => ?_)
  · obtain ⟨t, v, rfl, _⟩ := h
    rfl
  · obtain ⟨t, v, rfl, ht, hd, few, k⟩ := h
    refine ⟨_, (pss_cons (ps_if (pt_cmpR op_eq (pe_ix ix_tup (pv 0) pe_int (fun _ _ => rfl)) pe_str (nomark _))
 (pss_one (ps_ret (pe_cmeth0 (pe_glob rfl g_CF (relR _)) CF.rd CF.always RF_always (hr.mono (by decide)) pass0)))
 pss_nil)
 (pss_cons (ps_if (pt_cmpR op_eq (pe_ix ix_tup (pv 0) pe_int (fun _ _ => rfl)) pe_str (nomark _))
 (pss_one (ps_ret (pe_cmeth0 (pe_glob rfl g_CF (relR _)) CF.rd CF.never RF_never (hr.mono (by decide)) pass0)))
 pss_nil)
 (pss_cons (ps_if (pt_cmpR op_eq (pe_ix ix_tup (pv 0) pe_int (fun _ _ => rfl)) pe_str (nomark _))
 (pss_one (ps_ret (ClX.pe_cmeth (pe_glob rfl g_CF (relR _)) CF.rd CF.missing RF_missing (hr.mono (by decide)) pass0 (pa_cons (pe_ix ix_tup (pv 0) pe_int (fun _ _ => rfl)) pa_nil))))
 pss_nil)
 (pss_one (ps_ret (ClX.pe_cmeth (pe_glob rfl g_CF (relR _)) CF.rd CF.within RF_within (hr.mono (by decide)) pass0 (pa_cons (pe_ix ix_tup (pv 0) pe_int (fun _ _ => rfl)) (pa_cons (pe_call G_set_of (hr.mono (by decide)) rfl g_set_of F_set_of.kp B_set_of .nil pass0 (pa_cons (pe_ix ix_tup (pv 0) pe_int (fun _ _ => rfl)) pa_nil)) pa_nil)))))))), ?_⟩
    cases t with
    | al =>
      obtain ⟨a, rfl, h1⟩ := ht
      walk_at "rd"
      refine s_yes ?_
      walk_at "rd"
      exact ⟨rfl, k⟩
    | ne =>
      obtain ⟨a, rfl, h1⟩ := ht
      walk_at "rd"
      refine s_no rfl ?_
      walk_at "rd"
      refine s_yes ?_
      walk_at "rd"
      exact ⟨rfl, k⟩
    | mi c =>
      obtain ⟨a, rfl, h1⟩ := ht
      walk_at "rd"
      refine s_no rfl ?_
      walk_at "rd"
      refine s_no rfl ?_
      walk_at "rd"
      refine s_yes ?_
      walk_at "rd"
      exact ⟨c, rfl, k⟩
    | wi c ps =>
      obtain ⟨a, p, rfl, h1, hp, ca⟩ := ht
      walk_at "rd"
      refine s_no rfl ?_
      walk_at "rd"
      refine s_no rfl ?_
      walk_at "rd"
      refine s_no rfl ?_
      walk_at "rd"
      refine ⟨p, ps, rfl, hp, ca, few, fun r H1 s1 hr1 => ?_⟩
      walk_at "rd"
      exact ⟨c, r, ps, rfl, hr1, fun x H' s2 hf => k x H' (fun b o z => s2 _ _ (s1 _ _ z)) hf⟩
    | no t => exact absurd hd (by simp only [Tr.deep]; cases t <;> simp [Tr.deep])
    | an l r => exact absurd hd (by simp only [Tr.deep]; cases l <;> simp [Tr.deep] <;> omega)
    | ou l r => exact absurd hd (by simp only [Tr.deep]; cases l <;> simp [Tr.deep] <;> omega)
abbrev s_grown : Stmt := top 48
theorem sc_grown : FnScope ["_law_pen_here", "_law_keyed", "_law_left", "_law_deep", "_law_tree", "_law_one", "_law_first", "_law_mine", "_law_second", "_law_yours", "_law_pick"] ["_law_pen_here", "_law_keyed", "_law_left", "_law_deep"] (defScope s_grown) := ⟨rfl, rfl, rfl, by decide +kernel, rfl, by decide +kernel, by decide +kernel⟩
def sp_grown (D : Addr) (d : Nat) : Sp := fun vs H Q _ => ∃ p L n l cs, ∃ m k : Nat, vs = [.ref p, .ref l, .int m, .int k] ∧ Pen H p L n ∧ H l = some (.lst (cs.map V.str)) ∧ 1 ≤ cs.length ∧ cs.length ≤ 10 ∧ 1 ≤ m ∧ m ≤ 60 ∧ 1 ≤ k ∧ k ≤ d ∧ n + 7 * m ≤ 8800 ∧
  ∀ T H' f v t, Keep H H' → Pen H' p L (n + 7 * m - 2) → H' T = some (.tup [.ref f, v]) → Fil D H' f t → TreeAt H' t v → t.many ≤ m → t.deep ≤ 2 * k → t.Few → Of cs t → Q (.ref T) H'
theorem ok_grown {f fD fC fO' : Addr} {fd fdD fdC fdO : FuncData} (F : Fun K "_law_grown" "_law_grown" s_grown f fd) (B_grown : Binds K fd ["_law_pen_here", "_law_keyed", "_law_left", "_law_deep"] []) (g_grown : mg "_law_grown" = some (.ref f))
    (CF : ClsG K D md pw pm pa pn gw gm ga gn hA hO hV hC) (RF : ClsH P w K mg base C D gw gm ga gn hA hO hV hC)
    (F_draw : Fun K "_law_draw" "_law_draw" s_draw fD fdD) (B_draw : Binds K fdD ["_law_pen_here", "_law_many"] []) (g_draw : mg "_law_draw" = some (.ref fD)) (G_draw : FnOk P w K mg base CX0 1 fD fdD ["_law_pen_here", "_law_many"] sp_draw)
    (F_leaf : Fun K "_law_leaf" "_law_leaf" s_leaf fC fdC) (B_leaf : Binds K fdC ["_law_pen_here", "_law_columns"] []) (g_leaf : mg "_law_leaf" = some (.ref fC)) (G_leaf : FnOk P w K mg base CX0 7 fC fdC ["_law_pen_here", "_law_columns"] sp_leaf)
    (F_condition : Fun K "_law_condition" "_law_condition" s_condition fO' fdO) (B_condition : Binds K fdO ["_law_tree"] []) (g_condition : mg "_law_condition" = some (.ref fO')) (G_condition : FnOk P w K mg base CX0 7 fO' fdO ["_law_tree"] (sp_condition D)) :
    ∀ d, FnOk P w K mg base CX0 (d + 8) f fd ["_law_pen_here", "_law_keyed", "_law_left", "_law_deep"] (sp_grown D d) := by
  have RF_and := RF.and
  have RF_or := RF.or
  have RF_inv := RF.inv
  intro d
  induction d with
  | zero =>
    refine F.ok sc_grown (fun vs H Q E h => ?_) (fun cdv A outer s H vs Q E hr h => ?_)
    · obtain ⟨p, L, n, l, cs, m, k, rfl, _⟩ := h
      rfl
    · obtain ⟨p, L, n, l, cs, m, k, _, _, _, _, _, _, _, h1, h2, _⟩ := h
      omega
  | succ d G_grown =>
    have F_grown := F
    refine F.ok sc_grown (fun vs H Q E h => ?_) (fun cdv A outer s H vs Q E hr h => ?_)
    · obtain ⟨p, L, n, l, cs, m, k, rfl, _⟩ := h
      rfl
    · obtain ⟨p, L, n, l, cs, m, k, rfl, hp, hl, z1, z2, m1, m2, k1, k2, hn, q⟩ := h
      refine ⟨_, (pss_cons (ps_if (PW.pt (pw_or (pt_cmpR op_lt (pv 2) pe_int (nomark _)) (pw_or1 (pt_cmpR op_lt (pv 3) pe_int (nomark _)))))
 (pss_cons (ps_set (i := 4) sc_grown.nd rfl (Or.inl rfl) (pe_call G_leaf (hr.mono (by omega)) rfl g_leaf F_leaf.kp B_leaf .nil pass0 (pa_cons (pv 0) (pa_cons (pv 1) pa_nil))))
 (pss_one (ps_ret (pe_tup (pa_cons (pe_call G_condition (hr.mono (by omega)) rfl g_condition F_condition.kp B_condition .nil pass0 (pa_cons (pv 4) pa_nil)) (pa_cons (pv 4) pa_nil))))))
 pss_nil)
 (pss_cons (ps_set (i := 5) sc_grown.nd rfl (Or.inl rfl) (pe_op op_add pe_int (pe_call G_draw (hr.mono (by omega)) rfl g_draw F_draw.kp B_draw .nil pass0 (pa_cons (pv 0) (pa_cons (pe_op op_sub (pv 2) pe_int) pa_nil)))))
 (pss_cons (ps_asg (pe_call G_grown (hr.mono (by omega)) rfl g_grown F_grown.kp B_grown .nil pass0 (pa_cons (pv 0) (pa_cons (pv 1) (pa_cons (pv 5) (pa_cons (pe_op op_sub (pv 3) pe_int) pa_nil))))) (pg_tup (by rfl) (pgs_cons (pg_name (i := 6) sc_grown.nd rfl (Or.inl rfl)) (pgs_cons (pg_name (i := 7) sc_grown.nd rfl (Or.inl rfl)) pgs_nil))))
 (pss_cons (ps_asg (pe_call G_grown (hr.mono (by omega)) rfl g_grown F_grown.kp B_grown .nil pass0 (pa_cons (pv 0) (pa_cons (pv 1) (pa_cons (pe_op op_sub (pv 2) (pv 5)) (pa_cons (pe_op op_sub (pv 3) pe_int) pa_nil))))) (pg_tup (by rfl) (pgs_cons (pg_name (i := 8) sc_grown.nd rfl (Or.inl rfl)) (pgs_cons (pg_name (i := 9) sc_grown.nd rfl (Or.inl rfl)) pgs_nil))))
 (pss_cons (ps_set (i := 10) sc_grown.nd rfl (Or.inl rfl) (pe_call G_draw (hr.mono (by omega)) rfl g_draw F_draw.kp B_draw .nil pass0 (pa_cons (pv 0) (pa_cons pe_int pa_nil))))
 (pss_cons (ps_if (pt_cmpR op_eq (pv 10) pe_int (nomark _))
 (pss_one (ps_ret (pe_tup (pa_cons (pe_un (un_own RF_inv (hr.mono (by omega)) CF.invF CF.invI) (pe_op (op_own (op := .BitAnd) RF_and (hr.mono (by omega)) CF.self CF.andF CF.andI) (pv 6) (pv 8))) (pa_cons (pe_tup (pa_cons pe_str (pa_cons (pe_tup (pa_cons pe_str (pa_cons (pv 7) (pa_cons (pv 9) pa_nil)))) pa_nil))) pa_nil)))))
 pss_nil)
 (pss_cons (ps_if (pt_cmpR op_lt (pv 10) pe_int (nomark _))
 (pss_one (ps_ret (pe_tup (pa_cons (pe_op (op_own (op := .BitAnd) RF_and (hr.mono (by omega)) CF.self CF.andF CF.andI) (pv 6) (pv 8)) (pa_cons (pe_tup (pa_cons pe_str (pa_cons (pv 7) (pa_cons (pv 9) pa_nil)))) pa_nil)))))
 pss_nil)
 (pss_one (ps_ret (pe_tup (pa_cons (pe_op (op_own (op := .BitOr) RF_or (hr.mono (by omega)) CF.self CF.orF CF.orI) (pv 6) (pv 8)) (pa_cons (pe_tup (pa_cons pe_str (pa_cons (pv 7) (pa_cons (pv 9) pa_nil)))) pa_nil)))))))))))), ?_⟩
      walk_at "rd"
      refine ite_s ?_ (fun leaf hm2 => ?_)
      · walk_at "rd"
        refine ⟨p, L, n, l, cs, rfl, hp, by omega, hl, z1, z2, fun v H1 t kk1 p1 tr b1 c1 few on => ?_⟩
        walk_at "rd"
        refine ⟨t, v, rfl, tr, c1, few, fun f1 H2 s2 hf2 => ?_⟩
        walk_at "rd"
        refine ⟨size_of (Nat.le_of_ble_eq_true rfl), fun T hT => ?_⟩
        obtain ⟨H3, e3, s3, h3⟩ := new_heap (o := .tup [.ref f1, v]) hT
        rw [e3]
        exact q T H3 f1 v t ((kk1.trans (Same.keep s2)).trans (Same.keep s3)) (((p1.up s2).up s3).mono (by omega)) h3 (hf2.up s3) ((tr.up s2).up s3) (by omega) (by omega) few on
      walk_at "rd"
      refine ite_d (fun _ => leaf) (fun hk2 => ?_)
      obtain ⟨j, rfl⟩ : ∃ j, k = j + 1 := ⟨k - 1, by omega⟩
      have ej : (((j + 1 : Nat) : Int) - 1) = (j : Int) := by omega
      walk_at "rd"
      refine ⟨p, L, n, (m : Int) - 1, rfl, hp, by omega, by omega, by omega, fun d0 H1 g0 g1 kk1 p1 => ?_⟩
      have hl1 := kk1 _ _ (penny_strs cs) hl
      obtain ⟨o, rfl⟩ : ∃ o : Nat, d0 = (o : Int) := ⟨d0.toNat, by omega⟩
      walk_at "rd"
      rw [ej, show (1 : Int) + (o : Int) = ((1 + o : Nat) : Int) from by omega]
      refine ⟨p, L, n + 1, l, cs, 1 + o, j, rfl, p1, hl1, z1, z2, by omega, by omega, by omega, by omega, by omega, fun T1 H2 f1 v1 t1 kk2 p2 hT1 hf1 tr1 b1 c1 few1 on1 => ?_⟩
      have hl2 := kk2 _ _ (penny_strs cs) hl1
      refine i_gtup hT1 rfl (i_gcons ?_)
      walk_at "rd"
      rw [ej, show (m : Int) - ((1 + o : Nat) : Int) = ((m - (1 + o) : Nat) : Int) from by omega]
      refine ⟨p, L, n + 1 + 7 * (1 + o) - 2, l, cs, m - (1 + o), j, rfl, p2, hl2, z1, z2, by omega, by omega, by omega, by omega, by omega, fun T2 H3 f2 v2 t2 kk3 p3 hT2 hf2 tr2 b2 c2 few2 on2 => ?_⟩
      have hf13 := hf1.keep kk3
      have tr13 := tr1.keep kk3
      refine i_gtup hT2 rfl (i_gcons ?_)
      walk_at "rd"
      refine ⟨p, L, _, 5, rfl, p3, by omega, by decide, by decide, fun d4 H4 _ _ kk4 p4 => ?_⟩
      have kall : Keep H H4 := ((kk1.trans kk2).trans kk3).trans kk4
      have hf14 := hf13.keep kk4
      have tr14 := tr13.keep kk4
      have hf24 := hf2.keep kk4
      have tr24 := tr2.keep kk4
      have many : t1.many + t2.many < 64 := by omega
      have on : Of cs (.an t1 t2) := fun c hc => (List.mem_append.mp hc).elim (on1 c) (on2 c)
      walk_at "rd"
      refine ite_d (fun _ => ?_) (fun _ => ?_)
      · walk_at "rd"
        refine i_fB hf14 hf24 ⟨f1, f2, t1, t2, rfl, hf14, hf24, many, fun z H5 s5 hf5 => ?_⟩
        refine i_fU hf5 ⟨z, _, rfl, hf5, fun y H6 s6 hf6 => ?_⟩
        have s46 : Same H4 H6 := fun b o e => s6 _ _ (s5 _ _ e)
        walk_at "rd"
        refine ⟨size_of (Nat.le_of_ble_eq_true rfl), fun ta hta => ?_⟩
        obtain ⟨H7, e7, s7, h7⟩ := new_heap (o := .tup [.str "and", v1, v2]) hta
        rw [e7]
        refine ⟨size_of (Nat.le_of_ble_eq_true rfl), fun tb htb => ?_⟩
        obtain ⟨H8, e8, s8, h8⟩ := new_heap (o := .tup [.str "not", .ref ta]) htb
        rw [e8]
        refine ⟨size_of (Nat.le_of_ble_eq_true rfl), fun T hT => ?_⟩
        obtain ⟨H9, e9, s9, h9⟩ := new_heap (o := .tup [.ref y, .ref tb]) hT
        rw [e9]
        have s68 : Same H6 H8 := fun b o e => s8 _ _ (s7 _ _ e)
        have s69 : Same H6 H9 := fun b o e => s9 _ _ (s68 _ _ e)
        have s49 : Same H4 H9 := fun b o e => s69 _ _ (s46 _ _ e)
        exact q T H9 y (.ref tb) (.no (.an t1 t2)) (kall.trans (Same.keep s49)) ((p4.up s49).mono (by omega)) h9 (hf6.up s69) ⟨tb, .ref ta, rfl, s9 _ _ h8, ta, v1, v2, rfl, s9 _ _ (s8 _ _ h7), tr14.up s49, tr24.up s49⟩ (by simp only [Tr.many]; omega) (by simp only [Tr.deep]; omega) ⟨few1, few2⟩ on
      walk_at "rd"
      refine ite_d (fun _ => ?_) (fun _ => ?_)
      · walk_at "rd"
        refine i_fB hf14 hf24 ⟨f1, f2, t1, t2, rfl, hf14, hf24, many, fun z H5 s5 hf5 => ?_⟩
        walk_at "rd"
        refine ⟨size_of (Nat.le_of_ble_eq_true rfl), fun ta hta => ?_⟩
        obtain ⟨H7, e7, s7, h7⟩ := new_heap (o := .tup [.str "and", v1, v2]) hta
        rw [e7]
        refine ⟨size_of (Nat.le_of_ble_eq_true rfl), fun T hT => ?_⟩
        obtain ⟨H9, e9, s9, h9⟩ := new_heap (o := .tup [.ref z, .ref ta]) hT
        rw [e9]
        have s59 : Same H5 H9 := fun b o e => s9 _ _ (s7 _ _ e)
        have s49 : Same H4 H9 := fun b o e => s59 _ _ (s5 _ _ e)
        exact q T H9 z (.ref ta) (.an t1 t2) (kall.trans (Same.keep s49)) ((p4.up s49).mono (by omega)) h9 (hf5.up s59) ⟨ta, v1, v2, rfl, s9 _ _ h7, tr14.up s49, tr24.up s49⟩ (by simp only [Tr.many]; omega) (by simp only [Tr.deep]; omega) ⟨few1, few2⟩ on
      · walk_at "rd"
        refine i_fB hf14 hf24 ⟨f1, f2, t1, t2, rfl, hf14, hf24, many, fun z H5 s5 hf5 => ?_⟩
        walk_at "rd"
        refine ⟨size_of (Nat.le_of_ble_eq_true rfl), fun ta hta => ?_⟩
        obtain ⟨H7, e7, s7, h7⟩ := new_heap (o := .tup [.str "or", v1, v2]) hta
        rw [e7]
        refine ⟨size_of (Nat.le_of_ble_eq_true rfl), fun T hT => ?_⟩
        obtain ⟨H9, e9, s9, h9⟩ := new_heap (o := .tup [.ref z, .ref ta]) hT
        rw [e9]
        have s59 : Same H5 H9 := fun b o e => s9 _ _ (s7 _ _ e)
        have s49 : Same H4 H9 := fun b o e => s59 _ _ (s5 _ _ e)
        exact q T H9 z (.ref ta) (.ou t1 t2) (kall.trans (Same.keep s49)) ((p4.up s49).mono (by omega)) h9 (hf5.up s59) ⟨ta, v1, v2, rfl, s9 _ _ h7, tr14.up s49, tr24.up s49⟩ (by simp only [Tr.many]; omega) (by simp only [Tr.deep]; omega) ⟨few1, few2⟩ on
end
end Spk.Fi

set_option Elab.async false
set_option linter.all false
set_option maxRecDepth 100000
set_option maxHeartbeats 2000000
namespace Spk
open PySem PySem.Spec PyProof.Rows L2
/-! ## dict(zip(l, u)) of a list and a tuple -/
/-- zip(t, u) over a list and a tuple of one length, as what dict() is filled from -/
theorem pairs_zipL {prog : Program} {w : World} (z TI TO i1 i2 a b : Addr) (n1 : a ≠ i1) (n2 : b ≠ i2) (S : ZipSep2 z TI TO i1 i2 [i1, a] [i2, b]) (az : a ≠ z) (aT : a ≠ TO) (a2 : a ≠ i2) (bz : b ≠ z) (bT : b ≠ TO) (b1 : b ≠ i1) (xs ys : Array Value) (hxy : xs.size = ys.size) :
    PairArg prog w "zip" z [z, TI, TO, i1, i2, a, b] [z, TO, i1, i2] xs.size (fun i k v => xs[i]? = some k ∧ ys[i]? = some v)
      (fun h => IsZip h z TI TO .none ∧ IsTupOf2 h TI (.ref i1) (.ref i2) ∧ (∃ x y, IsTupOf2 h TO x y) ∧ h.IsListIter i1 a 0 ∧ h.IsTupleIter i2 b 0 ∧ h.IsList a xs ∧ h.IsTuple b ys) where
  type := fun s ok => ⟨_, ok.1, rfl⟩
  notDict := by decide
  keep := fun h h' ok hk => by
    obtain ⟨hz, hTI, ⟨x, y, hTO⟩, h1, h2, ha, hb⟩ := ok
    exact ⟨hk _ _ hz, hk _ _ hTI, ⟨x, y, hk _ _ hTO⟩, h1.at fun o e => hk _ o e, h2.at fun o e => hk _ o e, ha.at fun o e => hk _ o e, hb.at fun o e => hk _ o e⟩
  there := fun h ok c hc => by
    obtain ⟨hz, hTI, ⟨x, y, hTO⟩, ⟨o1, h1, _⟩, ⟨o2, h2, _⟩, ⟨o3, h3, _⟩, ⟨o4, h4, _⟩⟩ := ok
    simp only [List.mem_cons, List.not_mem_nil, or_false] at hc
    rcases hc with rfl | rfl | rfl | rfl | rfl | rfl | rfl
    · exact ⟨_, hz⟩
    · exact ⟨_, hTI⟩
    · exact ⟨_, hTO⟩
    · exact ⟨_, h1⟩
    · exact ⟨_, h2⟩
    · exact ⟨_, h3⟩
    · exact ⟨_, h4⟩
  sub := fun c hc => by
    simp only [List.mem_cons, List.not_mem_nil, or_false] at hc ⊢
    rcases hc with rfl | rfl | rfl | rfl <;> simp
  noKeys := fun A s Q E hA ok h => getAttrOr_miss_zip ok.1 rfl rfl rfl zip_no_keys (by decide +kernel) hA h
  iter := fun A s d Q E hA ok hd hdf h => by
    obtain ⟨hz, hTI, ⟨x0, y0, hTO⟩, h1, h2, ha, hb⟩ := ok
    simp only [List.mem_cons, List.not_mem_nil, or_false, not_or] at hdf
    obtain ⟨dz, dTI, dTO, di1, di2, da, db⟩ := hdf
    have D1 := Draws.list (prog := prog) (w := w) (A := A.in1) hA i1 a n1 xs
    have D2 := Draws.tuple (prog := prog) (w := w) (A := A.in1) hA i2 b n2 ys
    refine wpAny_pyIter_zip hz (h z [z, TO, i1, i2] (fun i h => IsTupOf2 h TI (.ref i1) (.ref i2) ∧ (h.IsListIter i1 a i ∧ h.IsList a xs) ∧ (h.IsTupleIter i2 b i ∧ h.IsTuple b ys) ∧
      ((IsZip h z TI TO .none ∧ ∃ x y, IsTupOf2 h TO x y) ∨ ∃ T f oT, IsZipHeld h z TI TO T f ∧ h.get? T = some oT ∧ T ≠ z ∧ T ≠ i1 ∧ T ≠ i2 ∧ T ≠ d)) s.heap s.toks ?_
      ⟨hTI, ⟨h1, ha⟩, ⟨h2, hb⟩, .inl ⟨hz, x0, y0, hTO⟩⟩ (fun _ _ e => e) fun c hc => .inl hc)
    exact {
      off := fun hm => by
        simp only [List.mem_cons, List.not_mem_nil, or_false] at hm
        rcases hm with e | e | e | e
        · exact dz e
        · exact dTO e
        · exact di1 e
        · exact di2 e
      frame := fun i g g' st hk => by
        obtain ⟨gTI, ⟨g1, ga⟩, ⟨g2, gb⟩, gz⟩ := st
        refine ⟨hk _ _ (Ne.symm dTI) gTI, ⟨g1.at fun o e => hk _ o (Ne.symm di1) e, ga.at fun o e => hk _ o (Ne.symm da) e⟩, ⟨g2.at fun o e => hk _ o (Ne.symm di2) e, gb.at fun o e => hk _ o (Ne.symm db) e⟩, ?_⟩
        rcases gz with ⟨gz, x, y, gTO⟩ | ⟨T, f, oT, gz, gT, r1, r2, r3, r4⟩
        · exact .inl ⟨hk _ _ (Ne.symm dz) gz, x, y, hk _ _ (Ne.symm dTO) gTO⟩
        · exact .inr ⟨T, f, oT, hk _ _ (Ne.symm dz) gz, hk _ _ r4 gT, r1, r2, r3, r4⟩
      item := fun i s₁ Q₁ E₁ hi st hds hQ => by
        obtain ⟨gTI, g1, g2, gz⟩ := st
        have lt : ∀ {c o}, s₁.heap.get? c = some o → s₁.heap.objs.size ≠ c := fun e => Nat.ne_of_gt (Heap.lt_size e)
        have m1 : s₁.heap.objs.size ≠ i1 := let ⟨⟨_, e, _⟩, _⟩ := g1; lt e
        have m2 : s₁.heap.objs.size ≠ i2 := let ⟨⟨_, e, _⟩, _⟩ := g2; lt e
        rcases gz with ⟨gz, x, y, gTO⟩ | ⟨T, f, oT, gz, gT, r1, r2, r3, r4⟩
        · refine wpAny_pyNext_zipD2_item S D1 D2 gz gTI gTO g1 g2 hi (hxy ▸ hi) fun x1 x2 h' tk e1 e2 hz' hto q1 q2 hp hsz hk => ?_
          exact hQ s₁.heap.objs.size _ _ h' tk ⟨e1, e2⟩ (.inl ⟨_, hp, rfl, _, rfl⟩) ⟨hk _ _ S.TIz S.TITO S.TIi1 S.TIi2 gTI, q1, q2, .inr ⟨s₁.heap.objs.size, false, _, hz', hp, lt gz, m1, m2, Nat.ne_of_gt hds⟩⟩
            fun c o hc e => by
              simp only [List.mem_cons, List.not_mem_nil, or_false, not_or] at hc
              exact hk c o hc.1 hc.2.1 hc.2.2.1 hc.2.2.2 e
        · refine next_pair S D1 D2 gz gT gTI g1 g2 hi (hxy ▸ hi) fun x1 x2 h' tk e1 e2 hz' q1 q2 hp hsz hk => ?_
          exact hQ s₁.heap.objs.size _ _ h' tk ⟨e1, e2⟩ (.inl ⟨_, hp, rfl, _, rfl⟩) ⟨hk _ _ S.TIz S.TIi1 S.TIi2 gTI, q1, q2, .inr ⟨T, true, oT, hz', hk _ _ r1 r2 r3 gT, r1, r2, r3, r4⟩⟩
            fun c o hc e => by
              simp only [List.mem_cons, List.not_mem_nil, or_false, not_or] at hc
              exact hk c o hc.1 hc.2.2.1 hc.2.2.2 e
      done := fun s₁ Q₁ E₁ st hQ => by
        obtain ⟨gTI, g1, g2, gz⟩ := st
        rcases gz with ⟨gz, x, y, gTO⟩ | ⟨T, f, oT, gz, gT, r1, r2, r3, r4⟩
        · refine wpAny_pyNext_zipD2_end S D1 D2 gz gTI gTO g1 g2 (Nat.le_refl _) (Nat.le_of_eq hxy) (.inl rfl) fun h' tk hk => hQ h' tk fun c o hc e => ?_
          simp only [List.mem_cons, List.not_mem_nil, or_false, not_or] at hc
          exact hk c o hc.1 hc.2.1 hc.2.2.1 hc.2.2.2 e
        · refine next_over S D1 gz gT gTI g1 fun h' hk => hQ h' s₁.toks fun c o hc e => ?_
          simp only [List.mem_cons, List.not_mem_nil, or_false, not_or] at hc
          exact hk c o hc.1 hc.2.2.1 hc.2.2.2 e }
/-- dict(zip(l, u)), l a list of texts -/
def tDictZL (K : PySem.W.Frag) (ta : TA) : TE := fun σ H Q => ta σ H fun vs H1 => ∃ (a b : Addr) (ks : List Str) (ys : List V), vs = [.ref a, .ref b] ∧ SqL K H1 a (ks.map V.str) ∧ SqT K H1 b ys ∧ ks.length = ys.length ∧
  ∀ p, H1 p = none → Q (.ref p) (upd H1 p (.dK (mergeK [] ((ks.map Sum.inr).zip ys))))
theorem pe_dictZL {X : Cx} {e e2 : Expr} {ta : TA} {p p2 pos pos2 : Pos} (hcalm : X.calm = true) (hg : Gl X "dict") (hm : X.mg "dict" = none) (hgz : Gl X "zip") (hmz : X.mg "zip" = none) (ha : PA X [e, e2] ta)
    (hs : starEach [e, e2] X.env = (false, eval e X.env) :: starEach [e2] X.env := by rfl) (hpl : ((backTo pos2 (starEach [e2] X.env)).any fun x => x.1) = false := by rfl)
    (hd : starEach [Expr.Call (.Name "zip" p2) [e, e2] [] pos2] X.env = [(false, eval (.Call (.Name "zip" p2) [e, e2] [] pos2) X.env)] := by rfl) :
    PE X (.Call (.Name "dict" p) [.Call (.Name "zip" p2) [e, e2] [] pos2] [] pos) (tDictZL X.K ta) := by
  refine ⟨fun pins s σ H Q I h => ?_⟩
  refine Call_ (ld_blt I hg hm boot_dict (callWith_type1 ?_ hd rfl))
  rw [hd]
  show wpAny _ _ (spliced [(false, eval (.Call (.Name "zip" p2) [e, e2] [] pos2) X.env)]) _ _ s
  refine Calls.spliced_cons (thn (Q := fun v s2 => wpAny (model X.prog X.w) X.A (call (.type "dict") [v]) (EP X pins σ Q) X.xe s2) ?_ fun v s2 q => Calls.spliced_nil q)
  refine Call_ (ld_blt I hgz hmz boot_zip (callWith_type1 (thn (ha.run pos2 pins s σ H _ I h) fun us s1 ⟨vs, H1, I1, r1, q1⟩ => ?_) hs hpl))
  obtain ⟨a, b, ks, ys, ex, hk, hy, hl, q⟩ := q1
  subst ex
  obtain ⟨u, u2, rfl, ru, ru2⟩ := vals_two r1
  cases ru
  cases ru2
  obtain ⟨its, rv, pk, hz⟩ := I1.list hk
  obtain ⟨its2, rv2, py, hz2⟩ := I1.tuple hy
  have al : a < s1.heap.objs.size := by
    obtain ⟨o, ho, _⟩ := pk.isList
    exact Heap.lt_size ho
  have bl : b < s1.heap.objs.size := by
    obtain ⟨o, ho, _⟩ := py
    exact Heap.lt_size ho
  have hll : its.toArray.size = its2.toArray.size := by
    rw [List.size_toArray, List.size_toArray, ← rv.length, ← rv2.length, List.length_map, hl]
  refine zip_begins2 (begins_list a its.toArray) (begins_tuple b its2.toArray) pk.isList py fun h' hz' hTI hTO hi1 hi2 hsz hkeep => ?_
  have ne : ∀ {c : Addr} {k : Nat}, c < s1.heap.objs.size → c ≠ s1.heap.objs.size + k := fun h => Nat.ne_of_lt (Nat.lt_of_lt_of_le h (Nat.le_add_right _ _))
  have ks' : ((ks.map (Sum.inr : Str → Key)).zip its2).length = its.toArray.size := by
    rw [List.length_zip, List.length_map, List.size_toArray, ← rv.length, ← rv2.length, List.length_map, ← hl]
    omega
  have pk' : s1.heap.IsList a its.toArray := pk.isList
  have py' : s1.heap.IsTuple b its2.toArray := py
  refine PySem.call_dict_pairs (knd := mixKind X.prog X.w) (kvs := (ks.map (Sum.inr : Str → Key)).zip its2) (pairs_zipL _ _ _ _ _ a b (Nat.ne_of_lt al) (ne bl) (zsep _ _ _ al bl) (ne al) (ne al) (ne al) (ne bl) (ne bl) (Nat.ne_of_lt bl) its.toArray its2.toArray hll) (I1.ok.hd hcalm)
    ⟨hz', hTI, ⟨_, _, hTO⟩, ⟨_, hi1, rfl, rfl⟩, ⟨_, hi2, rfl, rfl⟩, pk'.at fun o e => hkeep _ o e, py'.at fun o e => hkeep _ o e⟩ ⟨ks', fun i key v ⟨e1, e2⟩ => ?_⟩ (by rw [List.size_toArray, ← rv.length]; exact hz) fun h2 tk hd2 hk2 => ?_
  · have e1' : its[i]? = some key := by simpa using e1
    have e2' : its2[i]? = some v := by simpa using e2
    obtain ⟨k, t, ek, rfl⟩ := str_at' rv e1'
    refine ⟨Sum.inr k, ?_, kV_is (P := X.prog) (w := X.w) (k := Sum.inr k) ⟨t, rfl⟩⟩
    rw [List.getElem?_zip_eq_some]
    exact ⟨by rw [List.getElem?_map, ek]; rfl, e2'⟩
  · have kp : ∀ b o, s1.heap.get? b = some o → h2.get? b = some o := fun c o e => by
      have cl : c < s1.heap.objs.size := Heap.lt_size e
      refine hk2 c o (fun hc => ?_) (hkeep c o e)
      simp only [List.mem_cons, List.not_mem_nil, or_false] at hc
      rcases hc with r | r | r | r
      · exact ne cl r
      · exact ne cl r
      · exact Nat.ne_of_lt cl r
      · exact ne cl r
    have le : s1.heap.objs.size ≤ h'.objs.size := by rw [hsz]; exact Nat.le_add_right _ _
    have hm' : (h'.objs.size == sysModules) = false := beq_eq_false_iff_ne.mpr (Nat.ne_of_gt (Nat.lt_of_lt_of_le I1.big le))
    have zl : (mergeK [] ((ks.map (Sum.inr : Str → Key)).zip ys)).length ≤ sizeLine := by
      refine Nat.le_trans (length_mergeK _ []) ?_
      rw [List.length_nil, Nat.zero_add, List.length_zip]
      exact Nat.le_trans (Nat.min_le_right ..) hz2
    exact ⟨.ref h'.objs.size, upd H1 h'.objs.size (.dK (mergeK [] ((ks.map Sum.inr).zip ys))), I1.laid (t' := tk) kp le (show ObjOk X.prog X.w _ _ _ (.dK (mergeK [] ((ks.map (Sum.inr : Str → Key)).zip ys))) from ⟨zl, hm', merged [] ((ks.map (Sum.inr : Str → Key)).zip its2), KV.merge (kv_zip rv2) .nil, hd2⟩), rfl, q _ (I1.hok.fresh le)⟩
end Spk

set_option Elab.async false
set_option linter.all false
set_option maxRecDepth 100000
set_option maxHeartbeats 4000000
namespace Spk
open PySem L2
local macro_rules | `(tactic| walk_at "rd") => `(tactic| repeat (first
  | with_reducible refine i_seq ?_ | with_reducible refine i_asg ?_ | with_reducible refine i_ret ?_ | with_reducible refine i_ifS ?_ | with_reducible refine i_if ?_
  | with_reducible refine i_for ?_ | with_reducible refine i_iL ?_ | with_reducible refine i_iT ?_ | with_reducible refine i_ckw ?_ | with_reducible refine i_cm ?_ | with_reducible refine And.intro (rfl : V.ref _ = V.ref _) ?_ | with_reducible refine i_rng1 ?_ | with_reducible refine i_bm ?_ | with_reducible refine i_bm0 ?_
  | with_reducible refine i_drop ?_ | with_reducible refine i_next ?_
  | with_reducible refine i_var rfl ?_ | with_reducible refine i_c ?_ | with_reducible refine i_op ?_ | with_reducible refine i_un ?_ | with_reducible refine i_name ?_
  | with_reducible refine i_rI0 ?_ | with_reducible refine i_rU ?_ | with_reducible refine i_rEq rfl ?_ | with_reducible refine i_rNe rfl ?_
  | with_reducible refine i_test ?_ | with_reducible refine i_tB ?_ | with_reducible refine i_and ?_ | with_reducible refine i_or ?_ | with_reducible refine i_not ?_
  | with_reducible refine i_andV ?_ | with_reducible refine i_orV ?_ | with_reducible refine i_notV ?_
  | with_reducible refine i_cons ?_ | with_reducible refine i_nil ?_ | with_reducible refine i_cb ?_ | with_reducible refine i_call ?_ | with_reducible refine i_bl ?_
  | with_reducible refine i_tup ?_ | with_reducible refine i_lst ?_ | with_reducible refine i_par ?_ | with_reducible refine i_gcons ?_ | with_reducible refine i_gnil ?_
  | with_reducible refine And.intro (rfl : V.non = V.non) ?_ | with_reducible refine i_ixT (by assumption) rfl ?_ | with_reducible refine i_ixL (by assumption) rfl ?_ | with_reducible refine i_gtup (by assumption) rfl ?_
  | with_reducible refine i_gsub ?_
  | with_reducible refine Or.inl (Exists.intro _ (And.intro (rfl : [V.int _] = [V.int _]) ?_)) | with_reducible refine Exists.intro _ (And.intro (rfl : [V.int _] = [V.int _]) ?_)
  | with_reducible refine Or.inr (Exists.intro _ (And.intro (rfl : [V.bl _] = [V.bl _]) ?_))
  | with_reducible refine Exists.intro _ (Exists.intro _ (And.intro (rfl : [V.int _, V.int _] = [V.int _, V.int _]) ?_))
  | with_reducible refine Exists.intro _ (Exists.intro _ (And.intro (rfl : [V.ref _] = [V.ref _]) (And.intro (Or.inl (SqL.of (by assumption))) ?_)))
  | with_reducible refine i_rI (show (0 : Int) < _ by assumption) ?_ | with_reducible refine i_rI (show (0 : Int) < _ by decide) ?_
  | with_reducible refine i_rI (pow_ok (Nat.le_of_ble_eq_true rfl) (Nat.le_of_ble_eq_true rfl)) ?_
  | with_reducible refine i_rI (cmulL rfl) ?_))
theorem penny_strs (cs : List Str) : penny (.lst (cs.map V.str)) = false := by
  cases cs <;> rfl
theorem pen_off {H : Hp} {p L d : Addr} {n : Nat} {o : HO} (h : Pen H p L n) (n1 : p ≠ d) (n2 : L ≠ d) : Pen (upd H d o) p L n := by
  obtain ⟨ns, a, l, h1, h2, r⟩ := h
  exact ⟨ns, a, l, by rw [upd_ne n1]; exact h1, by rw [upd_ne n2]; exact h2, r⟩
theorem pen_ne {H : Hp} {p L d : Addr} {n : Nat} (h : Pen H p L n) (hd : H d = none) : p ≠ d ∧ L ≠ d := by
  obtain ⟨ns, a, l, h1, h2, r⟩ := h
  exact ⟨ne_of_none h1 hd, ne_of_none h2 hd⟩
/-! ### the order of keys and rows -/
theorem dataLe_tupD : PySem.W.dataLe false tupD = fun a b : List Int => decide (a ≤ b) := by
  funext a b
  show (!PySem.W.dataLt (tupD b) (tupD a)) = _
  have e : PySem.W.dataLt (tupD b) (tupD a) = decide (b < a) := by
    rw [← PySem.W.dataLt_ints]
    rfl
  rw [e]
  by_cases h : b < a
  · have h' : ¬ a ≤ b := fun r => List.not_lt.mpr r h
    simp [h, h']
  · have h' : a ≤ b := List.not_lt.mp h
    simp [h, h']
theorem sortN_pair (nss : List (List Int)) : (sortN nss).Pairwise (fun a b => a ≤ b) := by
  have h := List.pairwise_mergeSort (le := PySem.W.dataLe false tupD) (fun a b c h1 h2 => by
    rw [dataLe_tupD] at h1 h2 ⊢
    simp only [decide_eq_true_eq] at h1 h2 ⊢
    exact List.le_trans h1 h2) (fun a b => by
    rw [dataLe_tupD]
    simp only [Bool.or_eq_true, decide_eq_true_eq]
    exact List.le_total a b) nss
  refine h.imp fun {a b} q => ?_
  rw [dataLe_tupD] at q
  exact of_decide_eq_true q
theorem sortN_unique {xs ys : List (List Int)} (p : xs.Perm ys) (s : ys.Pairwise (fun a b => a ≤ b)) : sortN xs = ys :=
  List.Perm.eq_of_pairwise (fun a b _ _ h1 h2 => List.le_antisymm h1 h2) (sortN_pair xs) s ((sortN_perm xs).trans p)
theorem le_app : ∀ {a b : List Int} (x y : List Int), a.length = b.length → a ≤ b → a ≠ b → a ++ x ≤ b ++ y
  | [], [], x, y, _, _, n => absurd rfl n
  | c :: a, d :: b, x, y, l, h, n => by
    rw [List.cons_append, List.cons_append]
    by_cases e : c = d
    · subst e
      have h' : a ≤ b := by
        rcases List.cons_le_cons_iff.mp h with q | q
        · exact absurd q (by omega)
        · exact q.2
      exact List.cons_le_cons_iff.mpr (.inr ⟨rfl, le_app x y (by simpa using l) h' (fun z => n (by rw [z]))⟩)
    · have h' : c < d := by
        rcases List.cons_le_cons_iff.mp h with q | q
        · exact q
        · exact absurd q.1 e
      exact List.cons_le_cons_iff.mpr (.inl h')
  | [], _ :: _, _, _, l, _, _ => by simp at l
  | _ :: _, [], _, _, l, _, _ => by simp at l
/-- rows that begin with their keys are ordered as the keys are -/
theorem sort_rows {nss : List (List Int)} {g : List Int → List Int} {m : Nat} (hg : ∀ ns, ns ∈ nss → ∃ x, g ns = ns ++ x) (hl : ∀ ns, ns ∈ nss → ns.length = m) : sortN (nss.map g) = (sortN nss).map g := by
  refine sortN_unique ((sortN_perm nss).symm.map g) ?_
  rw [List.pairwise_map]
  refine (sortN_pair nss).imp_of_mem fun {a b} ha hb h => ?_
  have ma := (sortN_perm nss).mem_iff.mp ha
  have mb := (sortN_perm nss).mem_iff.mp hb
  obtain ⟨x, ex⟩ := hg a ma
  obtain ⟨y, ey⟩ := hg b mb
  by_cases e : a = b
  · rw [e]
    exact List.le_refl _
  · rw [ex, ey]
    exact le_app x y ((hl a ma).trans (hl b mb).symm) h e
/-- by each key a row of integers -/
def IntRows (H : Hp) (kvs : List (List Key × V)) (nss : List (List Int)) (g : List Int → List Int) : Prop := ∀ ns, ns ∈ nss → ∃ r, valV kvs (kk ns) = some (.ref r) ∧ H r = some (.tup ((g ns).map V.int))
theorem IntRows.up {H H' : Hp} {kvs : List (List Key × V)} {nss : List (List Int)} {g : List Int → List Int} (e : Same H H') (h : IntRows H kvs nss g) : IntRows H' kvs nss g := fun ns m => by
  obtain ⟨r, a, b⟩ := h ns m
  exact ⟨r, a, e _ _ b⟩
theorem tups_ex {H : Hp} {g : List Int → List Int} : ∀ {nss : List (List Int)} (f : List Int → V), (∀ ns, ns ∈ nss → ∃ r, f ns = .ref r ∧ H r = some (.tup ((g ns).map V.int))) → ∃ bs : List Addr, nss.map f = bs.map V.ref ∧ TupsN H bs (nss.map g)
  | [], _, _ => ⟨[], rfl, .nil⟩
  | ns :: nss, f, h => by
    obtain ⟨r, e, hr⟩ := h ns List.mem_cons_self
    obtain ⟨bs, e2, t⟩ := tups_ex (nss := nss) f fun m hm => h m (List.mem_cons_of_mem _ hm)
    exact ⟨r :: bs, by rw [List.map_cons, List.map_cons, e, e2], .cons hr t⟩
theorem rows_tups {H : Hp} {kvs : List (List Key × V)} {nss : List (List Int)} {g : List Int → List Int} (h : IntRows H kvs nss g) : ∃ bs : List Addr, rowsOf kvs nss = bs.map V.ref ∧ TupsN H bs ((sortN nss).map g) :=
  tups_ex _ fun ns m => by
    obtain ⟨r, a, b⟩ := h ns ((sortN_perm nss).mem_iff.mp m)
    exact ⟨r, by rw [a]; rfl, b⟩
theorem tups_app {H : Hp} : ∀ {bs cs : List Addr} {xs ys : List (List Int)}, TupsN H bs xs → TupsN H cs ys → TupsN H (bs ++ cs) (xs ++ ys)
  | _, _, _, _, .nil, t => t
  | _, _, _, _, .cons r s, t => .cons r (tups_app s t)
section
variable {P : Program} {w : World} {K : PySem.W.Frag} {mg : Str → Option Value} {base : Heap} {C D U R fT pR gR pS gS : Addr}
abbrev s_row : Stmt := top 49
theorem sc_row : FnScope ["_law_pen_here", "_law_columns", "_law_found", "_law_column", "_law_value"] ["_law_pen_here", "_law_columns"] (defScope s_row) := ⟨rfl, rfl, rfl, by decide +kernel, rfl, by decide +kernel, by decide +kernel⟩
structure RwInv (H0 : Hp) (p L lc d : Addr) (cs : List Str) (n i : Nat) (σ : L2.St) (H : Hp) : Prop where
  ex : ∃ (ns : List Int) (x3 x4 : Option V), σ = [some (.ref p), some (.ref lc), some (.ref d), x3, x4] ∧ Keep H0 H ∧ Pen H p L (n + 3 * i) ∧ H d = some (.lst (ns.map V.int)) ∧ ns.length = i ∧ Tiny ns
def sp_row : Sp := fun vs H Q _ => ∃ p L n lc, ∃ cs : List Str, vs = [.ref p, .ref lc] ∧ Pen H p L n ∧ n ≤ 9000 ∧ H lc = some (.lst (cs.map V.str)) ∧ cs.length ≤ 8 ∧
  ∀ t H' ns, Keep H H' → Pen H' p L (n + 3 * cs.length) → H' t = some (.tup (ns.map V.int)) → ns.length = cs.length → Tiny ns → Q (.ref t) H'
theorem ok_row {f fD : Addr} {fd fdD : FuncData} (F : Fun K "_law_row" "_law_row" s_row f fd)
    (F_draw : Fun K "_law_draw" "_law_draw" s_draw fD fdD) (B_draw : Binds K fdD ["_law_pen_here", "_law_many"] []) (g_draw : mg "_law_draw" = some (.ref fD)) (G_draw : FnOk P w K mg base CX0 1 fD fdD ["_law_pen_here", "_law_many"] sp_draw)
    (z_tuple : mg "tuple" = none) : FnOk P w K mg base CX0 2 f fd ["_law_pen_here", "_law_columns"] sp_row := by
  refine F.ok sc_row (fun vs H Q E h => ?_) (fun cdv A outer s H vs Q E hr h => ?_)
  · obtain ⟨p, L, n, lc, cs, rfl, _⟩ := h
    rfl
  · obtain ⟨p, L, n, lc, cs, rfl, hp, hn, hc, hz, q⟩ := h
    refine ⟨_, (pss_cons (ps_set (i := 2) sc_row.nd rfl (Or.inl rfl) (pe_lst pa_nil))
 (pss_cons (ps_for PassesOwn.never rfl (pi_list (pv 1)) (pg_name (i := 3) sc_row.nd rfl (Or.inl rfl))
 (pss_cons (ps_set (i := 4) sc_row.nd rfl (Or.inl rfl) (pe_op op_sub (pe_call G_draw (hr.mono (by decide)) rfl g_draw F_draw.kp B_draw .nil pass0 (pa_cons (pv 0) (pa_cons pe_int pa_nil))) pe_int))
 (C8.pss_cut (ps_if (pt_cmpR op_eq (pe_call G_draw (hr.mono (by decide)) rfl g_draw F_draw.kp B_draw .nil pass0 (pa_cons (pv 0) (pa_cons pe_int pa_nil))) pe_int (nomark _))
 (pss_one (ps_set (i := 4) sc_row.nd rfl (Or.inl rfl) (pe_ix ix_list (pe_lst (pa_cons (pe_op op_sub (pe_op op_pow pe_int pe_int) pe_int) (pa_cons (pe_op op_pow pe_int pe_int) (pa_cons (pe_op op_sub pe_int (pe_op op_pow pe_int pe_int)) pa_nil)))) (pe_call G_draw (hr.mono (by decide)) rfl g_draw F_draw.kp B_draw .nil pass0 (pa_cons (pv 0) (pa_cons pe_int pa_nil))) (fun _ _ => rfl))))
 pss_nil)
 (pss_one (ps_expr (pe_bm PySem.F.plainAttrs_list PySem.F.slot_list_append PySem.F.type_list_append mt_append (pv 2) (pa_cons (pv 4) pa_nil)))))))
 (pss_one (ps_ret (pe_callTy call_tuple_of (by rfl) z_tuple (by decide +kernel) (pa_cons (pv 2) pa_nil)))))), ?_⟩
    walk_at "rd"
    refine ⟨Nat.zero_le _, fun d hd => ?_⟩
    obtain ⟨H1, e1, s1, h1⟩ := new_heap (o := .lst []) hd
    rw [e1]
    obtain ⟨pd, Ld⟩ := pen_ne hp hd
    walk_at "rd"
    refine ⟨lc, rfl, ⟨_, SqL.of (s1 _ _ hc)⟩, for_list (K := K) (a := lc) (xs := cs.map V.str) (RwInv H p L lc d cs n) ⟨[], _, _, rfl, Same.keep s1, (hp.up s1).mono (by omega), h1, rfl, fun _ h => absurd h List.not_mem_nil⟩ ?_ ?_ ?_⟩
    · rintro i σ H2 _ ⟨ns, x3, x4, rfl, k2, _⟩
      exact SqL.of (k2 _ _ (penny_strs cs) hc)
    · rintro i y σ H2 hy ⟨ns, x3, x4, rfl, k2, p2, h2, nl, tn⟩
      obtain ⟨c, ec, rfl⟩ := str_at hy
      have hi : i < cs.length := (List.getElem?_eq_some_iff.mp ec).1
      walk_at "rd"
      refine ⟨p, L, _, 13, rfl, p2, by omega, by decide, by decide, fun d3 H3 g0 g1 k3 p3 => ?_⟩
      walk_at "rd"
      refine ⟨fun σ' H' => ∃ m : Int, σ' = [some (.ref p), some (.ref lc), some (.ref d), some (.str c), some (.int m)] ∧ absI m < big ∧ Keep H2 H' ∧ Pen H' p L (n + 3 * i + 3), ?_, ?_⟩
      · walk_at "rd"
        refine ⟨p, L, _, 9, rfl, p3, by omega, by decide, by decide, fun d4 H4 g2 g3 k4 p4 => ?_⟩
        walk_at "rd"
        refine ite_d (fun _ => ?_) (fun _ => ?_)
        · walk_at "rd"
          refine ⟨size_of (Nat.le_of_ble_eq_true rfl), fun l hl => ?_⟩
          obtain ⟨H5, e5, s5, h5⟩ := new_heap (o := .lst [.int ((10 : Int) ^ (12 : Int).toNat - 1), .int ((10 : Int) ^ (12 : Int).toNat), .int (0 - (10 : Int) ^ (29 : Int).toNat)]) hl
          rw [e5]
          walk_at "rd"
          refine ⟨p, L, _, 3, rfl, p4.up s5, by omega, by decide, by decide, fun d6 H6 g4 g5 k6 p6 => ?_⟩
          have k26 : Keep H2 H6 := ((k3.trans k4).trans (Same.keep s5)).trans k6
          have cc : d6 = 0 ∨ d6 = 1 ∨ d6 = 2 := by omega
          rcases cc with rfl | rfl | rfl
          · refine i_ixL (k6 _ _ rfl h5) rfl ?_
            walk_at "rd"
            exact ⟨_, rfl, by decide, k26, p6⟩
          · refine i_ixL (k6 _ _ rfl h5) rfl ?_
            walk_at "rd"
            exact ⟨_, rfl, by decide, k26, p6⟩
          · refine i_ixL (k6 _ _ rfl h5) rfl ?_
            walk_at "rd"
            exact ⟨_, rfl, by decide, k26, p6⟩
        · refine ⟨_, rfl, ?_, k3.trans k4, p4.mono (by omega)⟩
          have : absI (d3 - 6) ≤ 1000 := by
            unfold absI
            split <;> omega
          have b : (1000 : Int) < big := by decide
          omega
      · rintro σ' H5 ⟨m, rfl, hm, k5, p5⟩
        have h5 := k5 _ _ (penny_ints ns) h2
        walk_at "rd"
        refine i_tyL h5 ?_
        walk_at "rd"
        refine i_app h5 (by rw [List.length_map]; omega) ?_
        refine ⟨ns ++ [m], _, _, rfl, (k2.trans k5).mut hd, (pen_off p5 pd Ld).mono (by omega), ?_, by rw [List.length_append, nl]; rfl, fun x hx => ?_⟩
        · rw [upd_same, List.map_append]
          rfl
        · rcases List.mem_append.mp hx with h | h
          · exact tn x h
          · rw [List.mem_singleton.mp h]
            exact hm
    · rintro σ H2 ⟨ns, x3, x4, rfl, k2, p2, h2, nl, tn⟩
      rw [List.length_map] at p2 nl
      walk_at "rd"
      refine ⟨d, _, rfl, .inl ⟨SqL.of h2, fun t ht => ?_⟩⟩
      obtain ⟨H3, e3, s3, h3⟩ := new_heap (o := .tup (ns.map V.int)) ht
      rw [e3]
      exact q t H3 ns (k2.trans (Same.keep s3)) (p2.up s3) h3 nl tn
abbrev s_Lboth : Stmt := top 50
theorem sc_Lboth : FnScope ["_law_one", "_law_other"] ["_law_one", "_law_other"] (defScope s_Lboth) := ⟨rfl, rfl, rfl, by decide +kernel, rfl, by decide +kernel, by decide +kernel⟩
def sp_both (U C D : Addr) : Sp := fun vs H Q _ => ∃ x k o s z y k' o' s' z' nss mss g, vs = [.ref x, .ref y] ∧ Tru U C D H x k o s z ∧ Tru U C D H y k' o' s' z' ∧ keysIn z.kvs nss ∧ keysIn z'.kvs mss ∧ (∀ ns, ns ∈ nss → ns ≠ []) ∧ (∀ ns, ns ∈ mss → ns ≠ []) ∧
  (∀ ns, ns ∈ nss ∨ ns ∈ mss → g ns ≠ []) ∧ nss.length ≤ 1000 ∧ mss.length ≤ 1000 ∧ IntRows H z.kvs nss g ∧ IntRows H z'.kvs mss g ∧
  ∀ p H' bs, Same H H' → H' p = some (.tup (bs.map V.ref)) → TupsN H' bs (sortN ((sortN nss).map g ++ (sortN mss).map g)) → Q (.ref p) H'
theorem ok_both {f : Addr} {fd fdR : FuncData} (F : Fun K "_law_both" "_law_both" s_Lboth f fd) (TU : ClsU K mg U fT) (UPr : PropOf K U "rows" pR gR) (G_rows : FnOk P w K mg base CX0 2 gR fdR ["self"] (sp_urows U C D)) (B_rows : Binds K fdR ["self"] [])
    (z_sorted : mg "sorted" = none) (z_list : mg "list" = none) (z_tuple : mg "tuple" = none) :
    FnOk P w K mg base CX0 4 f fd ["_law_one", "_law_other"] (sp_both U C D) := by
  refine F.ok sc_Lboth (fun vs H Q E h => ?_) (fun cdv A outer s H vs Q E hr h => ?_)
  · obtain ⟨x, k, o, s, z, y, k', o', s', z', nss, mss, g, rfl, _⟩ := h
    rfl
  · obtain ⟨x, k, o, s, z, y, k', o', s', z', nss, mss, g, rfl, t1, t2, ki, ki', n1, n2, gn, l1, l2, r1, r2, q⟩ := h
    refine ⟨_, (pss_one (ps_ret (pe_callTy call_tuple_of (by rfl) z_tuple (by decide +kernel) (pa_cons (pe_callB (cr_sortN (roomN hr)) (by rfl) z_sorted (by decide +kernel) (pa_cons (pe_op op_cat (pe_callTy call_list_of (by rfl) z_list (by decide +kernel) (pa_cons (pe_prop (pv 0) TU.cl UPr G_rows (hr.mono (by decide)) B_rows .nil pass0 rfl) pa_nil)) (pe_callTy call_list_of (by rfl) z_list (by decide +kernel) (pa_cons (pe_prop (pv 1) TU.cl UPr G_rows (hr.mono (by decide)) B_rows .nil pass0 rfl) pa_nil))) pa_nil)) pa_nil)))), ?_⟩
    obtain ⟨dx, tx, fx, hx, ht, hf⟩ := t1.ex
    obtain ⟨dy, ty, fy, hy, ht', hf'⟩ := t2.ex
    walk_at "rd"
    unfold tProp
    walk_at "rd"
    refine ⟨x, dx, _, rfl, hx, x, k, o, s, z, nss, rfl, t1, ki, n1, l1, fun p1 H1 s1 h1 => ?_⟩
    walk_at "rd"
    refine ⟨p1, _, rfl, .inr (SqT.of h1), fun a1 ha1 => ?_⟩
    obtain ⟨H2, e2, s2, h2⟩ := new_heap (o := .lst (rowsOf z.kvs nss)) ha1
    rw [e2]
    have s02 : Same H H2 := fun b o e => s2 _ _ (s1 _ _ e)
    walk_at "rd"
    refine ⟨y, dy, _, rfl, s02 _ _ hy, y, k', o', s', z', mss, rfl, t2.up s02, ki', n2, l2, fun p3 H3 s3 h3 => ?_⟩
    walk_at "rd"
    refine ⟨p3, _, rfl, .inr (SqT.of h3), fun a3 ha3 => ?_⟩
    obtain ⟨H4, e4, s4, h4⟩ := new_heap (o := .lst (rowsOf z'.kvs mss)) ha3
    rw [e4]
    have s24 : Same H2 H4 := fun b o e => s4 _ _ (s3 _ _ e)
    have s04 : Same H H4 := fun b o e => s24 _ _ (s02 _ _ e)
    walk_at "rd"
    obtain ⟨bs1, eb1, tb1⟩ := rows_tups r1
    obtain ⟨bs2, eb2, tb2⟩ := rows_tups r2
    have z1 : (rowsOf z.kvs nss).length ≤ 1000 := by
      unfold rowsOf
      rw [List.length_map, (sortN_perm nss).length_eq]
      exact l1
    have z2 : (rowsOf z'.kvs mss).length ≤ 1000 := by
      unfold rowsOf
      rw [List.length_map, (sortN_perm mss).length_eq]
      exact l2
    refine ⟨a1, a3, _, _, rfl, rfl, s24 _ _ h2, h4, size_of (by omega), fun a5 ha5 => ?_⟩
    obtain ⟨H5, e5, s5, h5⟩ := new_heap (o := .lst (rowsOf z.kvs nss ++ rowsOf z'.kvs mss)) ha5
    rw [e5]
    have s05 : Same H H5 := fun b o e => s5 _ _ (s04 _ _ e)
    rw [eb1, eb2, ← List.map_append] at h5
    have tb5 : TupsN H5 (bs1 ++ bs2) ((sortN nss).map g ++ (sortN mss).map g) := tups_app (Paired.mapP tb1 fun _ _ e => s05 _ _ e) (Paired.mapP tb2 fun _ _ e => s05 _ _ e)
    walk_at "rd"
    refine ⟨a5, _, _, rfl, SqL.of h5, tb5, fun ns hm => ?_, fun a6 bs' ha6 tb' => ?_⟩
    · rcases List.mem_append.mp hm with h | h
      · obtain ⟨m, hm', rfl⟩ := List.mem_map.mp h
        exact gn m (.inl ((sortN_perm nss).mem_iff.mp hm'))
      · obtain ⟨m, hm', rfl⟩ := List.mem_map.mp h
        exact gn m (.inr ((sortN_perm mss).mem_iff.mp hm'))
    obtain ⟨H6, e6, s6, h6⟩ := new_heap (o := .lst (bs'.map V.ref)) ha6
    rw [e6]
    walk_at "rd"
    refine ⟨a6, _, rfl, .inl ⟨SqL.of h6, fun a7 ha7 => ?_⟩⟩
    obtain ⟨H7, e7, s7, h7⟩ := new_heap (o := .tup (bs'.map V.ref)) ha7
    rw [e7]
    exact q a7 H7 bs' (fun b o e => s7 _ _ (s6 _ _ (s05 _ _ e))) h7 (Paired.mapP tb' fun _ _ e => s7 _ _ (s6 _ _ e))
end
end Spk

set_option Elab.async false
set_option linter.all false
set_option maxRecDepth 100000
set_option maxHeartbeats 4000000
namespace Spk
open PySem L2
local macro_rules | `(tactic| walk_at "rd") => `(tactic| repeat (first
  | with_reducible refine i_seq ?_ | with_reducible refine i_asg ?_ | with_reducible refine i_ret ?_ | with_reducible refine i_ifS ?_ | with_reducible refine i_if ?_
  | with_reducible refine i_for ?_ | with_reducible refine i_iL ?_ | with_reducible refine i_iT ?_ | with_reducible refine i_ckw ?_ | with_reducible refine i_cm ?_ | with_reducible refine And.intro (rfl : V.ref _ = V.ref _) ?_ | with_reducible refine i_rng1 ?_ | with_reducible refine i_bm ?_ | with_reducible refine i_bm0 ?_
  | with_reducible refine i_drop ?_ | with_reducible refine i_next ?_
  | with_reducible refine i_var rfl ?_ | with_reducible refine i_c ?_ | with_reducible refine i_op ?_ | with_reducible refine i_un ?_ | with_reducible refine i_name ?_
  | with_reducible refine i_rI0 ?_ | with_reducible refine i_rU ?_ | with_reducible refine i_rEq rfl ?_ | with_reducible refine i_rNe rfl ?_
  | with_reducible refine i_test ?_ | with_reducible refine i_tB ?_ | with_reducible refine i_and ?_ | with_reducible refine i_or ?_ | with_reducible refine i_not ?_
  | with_reducible refine i_andV ?_ | with_reducible refine i_orV ?_ | with_reducible refine i_notV ?_
  | with_reducible refine i_cons ?_ | with_reducible refine i_nil ?_ | with_reducible refine i_cb ?_ | with_reducible refine i_call ?_ | with_reducible refine i_bl ?_
  | with_reducible refine i_tup ?_ | with_reducible refine i_lst ?_ | with_reducible refine i_par ?_ | with_reducible refine i_gcons ?_ | with_reducible refine i_gnil ?_
  | with_reducible refine And.intro (rfl : V.non = V.non) ?_ | with_reducible refine i_ixT (by assumption) rfl ?_ | with_reducible refine i_ixL (by assumption) rfl ?_ | with_reducible refine i_gtup (by assumption) rfl ?_
  | with_reducible refine i_gsub ?_
  | with_reducible refine Or.inl (Exists.intro _ (And.intro (rfl : [V.int _] = [V.int _]) ?_)) | with_reducible refine Exists.intro _ (And.intro (rfl : [V.int _] = [V.int _]) ?_)
  | with_reducible refine Or.inr (Exists.intro _ (And.intro (rfl : [V.bl _] = [V.bl _]) ?_))
  | with_reducible refine Exists.intro _ (Exists.intro _ (And.intro (rfl : [V.int _, V.int _] = [V.int _, V.int _]) ?_))
  | with_reducible refine Exists.intro _ (Exists.intro _ (And.intro (rfl : [V.ref _] = [V.ref _]) (And.intro (Or.inl (SqL.of (by assumption))) ?_)))
  | with_reducible refine i_rI (show (0 : Int) < _ by assumption) ?_ | with_reducible refine i_rI (show (0 : Int) < _ by decide) ?_
  | with_reducible refine i_rI (pow_ok (Nat.le_of_ble_eq_true rfl) (Nat.le_of_ble_eq_true rfl)) ?_
  | with_reducible refine i_rI (cmulL rfl) ?_))
/-! ### rows compared, dicts of keys, what is heard -/
/-- a row of values, or none -/
def RowP (H : Hp) (v : V) : Prop := v = .non ∨ ∃ r us, v = .ref r ∧ H r = some (.tup us) ∧ ∀ u, u ∈ us → Plain u
theorem RowP.up {H H' : Hp} {v : V} (e : Same H H') (h : RowP H v) : RowP H' v := h.elim .inl fun ⟨r, us, a, b, c⟩ => .inr ⟨r, us, a, e _ _ b, c⟩
theorem row_dp {K : PySem.W.Frag} {H : Hp} {v : V} (h : RowP H v) : ∃ d : PyData, Dp K H v d ∧ d.canLay0 = true ∧ d.depth ≤ 2 := by
  rcases h with rfl | ⟨r, us, rfl, hr, pl⟩
  · exact ⟨.none, .non, by simp [PyData.canLay0], by simp [PyData.depth]⟩
  · refine ⟨.tuple (us.map dV), .tup (SqT.of hr) (dps_plain pl), by simpa only [PyData.canLay0] using lay_plain us, ?_⟩
    have := dep_plain us
    simp only [PyData.depth]
    omega
theorem rows_dp {K : PySem.W.Frag} {H : Hp} : ∀ {vs : List V}, (∀ v, v ∈ vs → RowP H v) → ∃ ds : List PyData, DpAll K H vs ds ∧ PyData.canLayAll0 ds = true ∧ PyData.depthAll ds ≤ 2
  | [], _ => ⟨[], .nil, by simp [PyData.canLayAll0], by simp [PyData.depthAll]⟩
  | v :: vs, h => by
    obtain ⟨d, a, b, c⟩ := row_dp (K := K) (h v List.mem_cons_self)
    obtain ⟨ds, a', b', c'⟩ := rows_dp (K := K) fun u hu => h u (List.mem_cons_of_mem _ hu)
    refine ⟨d :: ds, .cons a a', by simp [PyData.canLayAll0, b, b'], ?_⟩
    simp only [PyData.depthAll]
    omega
theorem ne_rows {K : PySem.W.Frag} {H : Hp} {a b : Addr} {vs : List V} {Q : VK} (ha : H a = some (.tup vs)) (hb : H b = some (.tup vs)) (h : ∀ v, v ∈ vs → RowP H v) (q : Q (.bl false) H) : rNeD K (.ref a) (.ref b) H Q := by
  obtain ⟨ds, e, l, dp⟩ := rows_dp (K := K) h
  have ly : (PyData.tuple ds).canLay0 = true := by simpa only [PyData.canLay0] using l
  have sh : SeqAt.shaped (.tuple ds) = true := by
    unfold SeqAt.shaped
    rw [Bool.and_eq_true, decide_eq_true_eq]
    refine ⟨ly, ?_⟩
    simp only [PyData.depth]
    omega
  refine ⟨.tuple ds, .tuple ds, .tup (SqT.of ha) e, .tup (SqT.of hb) e, sh, sh, ?_⟩
  rw [SeqAt.eqv_refl _ ly]
  exact q
theorem ne_row {K : PySem.W.Frag} {H : Hp} {v : V} {Q : VK} (h : RowP H v) (q : Q (.bl false) H) : rNeD K v v H Q := by
  obtain ⟨d, e, l, dp⟩ := row_dp (K := K) h
  have sh : SeqAt.shaped d = true := by
    unfold SeqAt.shaped
    rw [Bool.and_eq_true, decide_eq_true_eq]
    exact ⟨l, by omega⟩
  refine ⟨d, d, e, e, sh, sh, ?_⟩
  rw [SeqAt.eqv_refl _ l]
  exact q
theorem among_mem {c : Str} {cs ks : List Str} : c ∈ among cs ks ↔ c ∈ cs ∧ c ∈ ks := by
  unfold among
  rw [List.mem_filter, decide_eq_true_eq]
theorem keys_ex {R : List Int → Prop} : ∀ {kvs : List (List Key × V)}, (∀ p, p ∈ kvs → ∃ ns, p.1 = kk ns ∧ R ns) → ∃ nss, keysIn kvs nss ∧ ∀ ns, ns ∈ nss → R ns
  | [], _ => ⟨[], rfl, fun _ h => absurd h List.not_mem_nil⟩
  | p :: kvs, h => by
    obtain ⟨ns, e, r⟩ := h p List.mem_cons_self
    obtain ⟨nss, e2, r2⟩ := keys_ex (kvs := kvs) fun q hq => h q (List.mem_cons_of_mem _ hq)
    refine ⟨ns :: nss, ?_, fun m hm => ?_⟩
    · show p.1 :: kvs.map (·.1) = kk ns :: nss.map kk
      rw [e, e2]
    · rcases List.mem_cons.mp hm with rfl | hm
      · exact r
      · exact r2 m hm
theorem keys_all {R : List Int → Prop} {kvs : List (List Key × V)} {nss : List (List Int)} (e : keysIn kvs nss) (h : ∀ ns, ns ∈ nss → R ns) : ∀ p, p ∈ kvs → ∃ ns, p.1 = kk ns ∧ R ns := fun p hp => by
  have m : p.1 ∈ kvs.map (·.1) := List.mem_map.mpr ⟨p, hp, rfl⟩
  rw [e] at m
  obtain ⟨ns, mn, en⟩ := List.mem_map.mp m
  exact ⟨ns, en.symm, h ns mn⟩
theorem mem_put {kvs : List (List Key × V)} {k : List Key} {v : V} {p : List Key × V} (h : p ∈ putK kvs k v) : p.1 = k ∨ ∃ q, q ∈ kvs ∧ q.1 = p.1 := by
  unfold putK at h
  split at h
  · obtain ⟨q, hq, e⟩ := List.mem_map.mp h
    refine .inr ⟨q, hq, ?_⟩
    rw [← e]
    split <;> rfl
  · rcases List.mem_append.mp h with h | h
    · exact .inr ⟨p, h, rfl⟩
    · rw [List.mem_singleton.mp h]
      exact .inl rfl
theorem put_len (kvs : List (List Key × V)) (k : List Key) (v : V) : (putK kvs k v).length ≤ kvs.length + 1 := by
  unfold putK
  split
  · rw [List.length_map]
    omega
  · rw [List.length_append]
    simp
theorem valV_dropN {k j : List Key} (h : ¬ j = k) : ∀ kvs : List (List Key × V), valV (dropK kvs k) j = valV kvs j
  | [] => rfl
  | p :: r => by
    have ih := valV_dropN h r
    unfold dropK at ih ⊢
    by_cases e : p.1 = k
    · rw [List.filter_cons_of_neg (by simpa using e), ih, valV_neg (fun z => h (z.symm.trans e))]
    · rw [List.filter_cons_of_pos (by simpa using e)]
      by_cases e2 : p.1 = j
      · rw [valV_pos e2, valV_pos e2]
      · rw [valV_neg e2, valV_neg e2, ih]
theorem valV_drop {kvs : List (List Key × V)} {k j : List Key} {v : V} (h : valV (dropK kvs k) j = some v) : valV kvs j = some v := by
  have jk : ¬ j = k := fun e => by
    have m := valV_in h
    obtain ⟨p, hp, ep⟩ := List.mem_map.mp m
    have := (List.mem_filter.mp hp).2
    rw [ep, e] at this
    simp at this
  rw [valV_dropN jk] at h
  exact h
/-- what is heard of a change -/
def Heard (U C D : Addr) (H H' : Hp) (x kd od sd : Addr) (z : Tw) (w : Str) (ns : List Int) (y : V) (p : Addr) : Prop :=
  (∃ rs, dueW z w ns = some rs ∧ Same H H' ∧ H' p = some (.tup [.str "refused", .str rs])) ∨
  (dueW z w ns = none ∧ ∃ t b, OffT x kd sd H H' ∧ Tru U C D H' x kd od sd (chg z w ns y) ∧ KeyAt H' b ns z.t.ks.length ∧ H' t = some (.tup [.ref b, (valV z.kvs (kk ns)).getD .non, if w = "delete" then .non else y]) ∧ H' p = some (.tup [.str "told", .ref t]))
theorem call_or {U C D : Addr} {H : Hp} {Q : VK} {E : XK} {x kd od sd : Addr} {z : Tw} {w : Str} {y : V} {ns : List Int} (tr : Tru U C D H x kd od sd z) (pl : PlainT z) (wi : Wish H z.t w y ns) (ri : RowsIn H z) (kz : z.kvs.length ≤ 1000) (sz : z.sts.length ≤ 1000)
    (q : ∀ p H', Heard U C D H H' x kd od sd z w ns y p → Q (.ref p) H') : sp_call U C D [.ref x, .str w, y] H Q E :=
  ⟨x, kd, od, sd, z, w, y, ns, rfl, tr, pl, wi, ri, kz, sz, fun rs d p H' s h => q p H' (.inl ⟨rs, d, s, h⟩), fun d p t b H' o tr' ka ht hp => q p H' (.inr ⟨d, t, b, o, tr', ka, ht, hp⟩)⟩
theorem due_ok {z : Tw} {w : Str} {ns : List Int} {rs : Str} (h : dueW z w ns = some rs) : PyData.strOk rs = true := by
  unfold dueW at h
  split at h
  · cases h
    decide +kernel
  · split at h
    · split at h
      · cases h
        decide +kernel
      · cases h
    · split at h
      · cases h
      · cases h
        decide +kernel
theorem shaped_of {d : PyData} (l : d.canLay0 = true) (h : d.depth ≤ 64) : SeqAt.shaped d = true := by
  unfold SeqAt.shaped
  rw [Bool.and_eq_true, decide_eq_true_eq]
  exact ⟨l, h⟩
theorem ne_refused {K : PySem.W.Frag} {H : Hp} {a b : Addr} {rs : Str} {Q : VK} (ha : H a = some (.tup [.str "refused", .str rs])) (hb : H b = some (.tup [.str "refused", .str rs])) (ok : PyData.strOk rs = true) (q : Q (.bl false) H) : rNeD K (.ref a) (.ref b) H Q := by
  have ly : (PyData.tuple [.str "refused", .str rs]).canLay0 = true := by
    simp only [PyData.canLay0, PyData.canLayAll0, ok, Bool.and_true]
    decide +kernel
  have sh := shaped_of ly (by simp [PyData.depth, PyData.depthAll])
  refine ⟨_, _, .tup (SqT.of ha) (.cons (.str _) (.cons (.str _) .nil)), .tup (SqT.of hb) (.cons (.str _) (.cons (.str _) .nil)), sh, sh, ?_⟩
  rw [SeqAt.eqv_refl _ ly]
  exact q
theorem layN : ∀ ns : List Int, PyData.canLayAll0 (ns.map PyData.int) = true
  | [] => by simp [PyData.canLayAll0]
  | n :: ns => by
    have := layN ns
    simp [PyData.canLayAll0, PyData.canLay0, this]
theorem ne_told {K : PySem.W.Frag} {H : Hp} {a b t u k j : Addr} {ns : List Int} {v1 v2 : V} {Q : VK} (ha : H a = some (.tup [.str "told", .ref t])) (ht : H t = some (.tup [.ref k, v1, v2])) (hk : H k = some (.tup (ns.map V.int)))
    (hb : H b = some (.tup [.str "told", .ref u])) (hu : H u = some (.tup [.ref j, v1, v2])) (hj : H j = some (.tup (ns.map V.int))) (r1 : RowP H v1) (r2 : RowP H v2) (q : Q (.bl false) H) : rNeD K (.ref a) (.ref b) H Q := by
  obtain ⟨d1, e1, l1, p1⟩ := row_dp (K := K) r1
  obtain ⟨d2, e2, l2, p2⟩ := row_dp (K := K) r2
  have dn := depN ns
  have ly : (PyData.tuple [.str "told", .tuple [tupD ns, d1, d2]]).canLay0 = true := by
    have := layN ns
    simp only [PyData.canLay0, PyData.canLayAll0, tupD, l1, l2, this, Bool.and_true]
    decide +kernel
  have sh := shaped_of ly (by
    simp only [PyData.depth, PyData.depthAll, tupD]
    omega)
  refine ⟨_, _, .tup (SqT.of ha) (.cons (.str _) (.cons (.tup (SqT.of ht) (.cons (.tup (SqT.of hk) (dpsN ns)) (.cons e1 (.cons e2 .nil)))) .nil)),
    .tup (SqT.of hb) (.cons (.str _) (.cons (.tup (SqT.of hu) (.cons (.tup (SqT.of hj) (dpsN ns)) (.cons e1 (.cons e2 .nil)))) .nil)), sh, sh, ?_⟩
  rw [SeqAt.eqv_refl _ ly]
  exact q
theorem ite_var {i k : Nat} {σ : L2.St} {H : Hp} {Q : VK} {y z : V} {c : Bool} (hi : σ[i]? = some (some y)) (hk : σ[k]? = some (some z)) (h : Q (if c = true then y else z) H) : if c = true then tVar i σ H Q else tVar k σ H Q := by
  cases c
  · exact i_var hk h
  · exact i_var hi h
theorem ite_cvar {k : Nat} {σ : L2.St} {H : Hp} {Q : VK} {y z : V} {c : Bool} (hk : σ[k]? = some (some z)) (h : Q (if c = true then y else z) H) : if c = true then tC y σ H Q else tVar k σ H Q := by
  cases c
  · exact i_var hk h
  · exact h
theorem RowP.tup {H H' : Hp} {v : V} (e : ∀ a us, H a = some (.tup us) → H' a = some (.tup us)) (h : RowP H v) : RowP H' v := h.elim .inl fun ⟨r, us, a, b, c⟩ => .inr ⟨r, us, a, e _ _ b, c⟩
theorem word_new {w : Str} {a b : V} : (if w = "delete" then V.non else (if w = "delete" then a else b)) = (if w = "delete" then V.non else b) := by
  split <;> rfl
theorem word_if {w u : Str} {a b : V} : (if decide (V.str w = V.str u) = true then a else b) = (if w = u then a else b) := by
  by_cases h : w = u
  · rw [if_pos h, if_pos (decide_eq_true (by rw [h]))]
  · rw [if_neg h, if_neg (by rw [decide_eq_false (fun e => h (V.str.inj e))]; decide)]
end Spk

set_option Elab.async false
set_option linter.all false
set_option maxRecDepth 100000
set_option maxHeartbeats 4000000
namespace Spk
open PySem L2
local macro_rules | `(tactic| walk_at "rd") => `(tactic| repeat (first
  | with_reducible refine i_seq ?_ | with_reducible refine i_asg ?_ | with_reducible refine i_ret ?_ | with_reducible refine i_ifS ?_ | with_reducible refine i_if ?_
  | with_reducible refine i_for ?_ | with_reducible refine i_iL ?_ | with_reducible refine i_iT ?_ | with_reducible refine i_ckw ?_ | with_reducible refine i_cm ?_ | with_reducible refine And.intro (rfl : V.ref _ = V.ref _) ?_ | with_reducible refine i_rng1 ?_ | with_reducible refine i_bm ?_ | with_reducible refine i_bm0 ?_
  | with_reducible refine i_drop ?_ | with_reducible refine i_next ?_
  | with_reducible refine i_var rfl ?_ | with_reducible refine i_c ?_ | with_reducible refine i_op ?_ | with_reducible refine i_un ?_ | with_reducible refine i_name ?_
  | with_reducible refine i_rI0 ?_ | with_reducible refine i_rU ?_ | with_reducible refine i_rEq rfl ?_ | with_reducible refine i_rNe rfl ?_
  | with_reducible refine i_test ?_ | with_reducible refine i_tB ?_ | with_reducible refine i_and ?_ | with_reducible refine i_or ?_ | with_reducible refine i_not ?_
  | with_reducible refine i_andV ?_ | with_reducible refine i_orV ?_ | with_reducible refine i_notV ?_
  | with_reducible refine i_cons ?_ | with_reducible refine i_nil ?_ | with_reducible refine i_cb ?_ | with_reducible refine i_call ?_ | with_reducible refine i_bl ?_
  | with_reducible refine i_tup ?_ | with_reducible refine i_lst ?_ | with_reducible refine i_par ?_ | with_reducible refine i_gcons ?_ | with_reducible refine i_gnil ?_
  | with_reducible refine And.intro (rfl : V.non = V.non) ?_ | with_reducible refine i_ixT (by assumption) rfl ?_ | with_reducible refine i_ixL (by assumption) rfl ?_ | with_reducible refine i_gtup (by assumption) rfl ?_
  | with_reducible refine i_gsub ?_
  | with_reducible refine Or.inl (Exists.intro _ (And.intro (rfl : [V.int _] = [V.int _]) ?_)) | with_reducible refine Exists.intro _ (And.intro (rfl : [V.int _] = [V.int _]) ?_)
  | with_reducible refine Or.inr (Exists.intro _ (And.intro (rfl : [V.bl _] = [V.bl _]) ?_))
  | with_reducible refine Exists.intro _ (Exists.intro _ (And.intro (rfl : [V.int _, V.int _] = [V.int _, V.int _]) ?_))
  | with_reducible refine Exists.intro _ (Exists.intro _ (And.intro (rfl : [V.ref _] = [V.ref _]) (And.intro (Or.inl (SqL.of (by assumption))) ?_)))
  | with_reducible refine i_rI (show (0 : Int) < _ by assumption) ?_ | with_reducible refine i_rI (show (0 : Int) < _ by decide) ?_
  | with_reducible refine i_rI (pow_ok (Nat.le_of_ble_eq_true rfl) (Nat.le_of_ble_eq_true rfl)) ?_
  | with_reducible refine i_rI (cmulL rfl) ?_))
/-! ### truths of regions over whole keys -/
theorem sem_congr {ρ ρ' : Str → Option Int} : ∀ {t : Fi.Tr}, (∀ c, c ∈ t.cols → ρ c = ρ' c) → t.sem ρ = t.sem ρ'
  | .wi c ps, h => by
    show Fi.wi3 ps (ρ c) = Fi.wi3 ps (ρ' c)
    rw [h c List.mem_cons_self]
  | .mi c, h => by
    show some (ρ c).isNone = some (ρ' c).isNone
    rw [h c List.mem_cons_self]
  | .al, _ => rfl
  | .ne, _ => rfl
  | .an l r, h => by
    show Fi.and3 _ _ = Fi.and3 _ _
    rw [sem_congr (t := l) fun c hc => h c (List.mem_append_left _ hc), sem_congr (t := r) fun c hc => h c (List.mem_append_right _ hc)]
  | .ou l r, h => by
    show Fi.or3 _ _ = Fi.or3 _ _
    rw [sem_congr (t := l) fun c hc => h c (List.mem_append_left _ hc), sem_congr (t := r) fun c hc => h c (List.mem_append_right _ hc)]
  | .no t, h => by
    show Fi.not3 _ = Fi.not3 _
    rw [sem_congr (t := t) h]
theorem sem_known {ρ : Str → Option Int} : ∀ {t : Fi.Tr}, (∀ c, c ∈ t.cols → (ρ c).isSome = true) → ∃ b, t.sem ρ = some b
  | .wi c ps, h => by
    obtain ⟨n, e⟩ := Option.isSome_iff_exists.mp (h c List.mem_cons_self)
    exact ⟨_, by show Fi.wi3 ps (ρ c) = _; rw [e]; rfl⟩
  | .mi c, _ => ⟨_, rfl⟩
  | .al, _ => ⟨_, rfl⟩
  | .ne, _ => ⟨_, rfl⟩
  | .an l r, h => by
    obtain ⟨a, ea⟩ := sem_known (t := l) fun c hc => h c (List.mem_append_left _ hc)
    obtain ⟨b, eb⟩ := sem_known (t := r) fun c hc => h c (List.mem_append_right _ hc)
    exact ⟨a && b, by show Fi.and3 (l.sem ρ) (r.sem ρ) = _; rw [ea, eb]; cases a <;> cases b <;> rfl⟩
  | .ou l r, h => by
    obtain ⟨a, ea⟩ := sem_known (t := l) fun c hc => h c (List.mem_append_left _ hc)
    obtain ⟨b, eb⟩ := sem_known (t := r) fun c hc => h c (List.mem_append_right _ hc)
    exact ⟨a || b, by show Fi.or3 (l.sem ρ) (r.sem ρ) = _; rw [ea, eb]; cases a <;> cases b <;> rfl⟩
  | .no t, h => by
    obtain ⟨a, ea⟩ := sem_known (t := t) h
    exact ⟨!a, by show Fi.not3 (t.sem ρ) = _; rw [ea]; rfl⟩
theorem rho_some : ∀ {ks : List Str} {ns : List Int} {c : Str}, c ∈ ks → ks.length = ns.length → (rhoK ks ns c).isSome = true
  | k :: ks, n :: ns, c, h, l => by
    unfold rhoK
    rw [List.zip_cons_cons, List.lookup_cons]
    by_cases e : c = k
    · rw [e, beq_self_eq_true]
      rfl
    · have b : (c == k) = false := by simpa using e
      rw [b]
      exact rho_some (ks := ks) (ns := ns) ((List.mem_cons.mp h).resolve_left e) (by simpa using l)
  | [], _, c, h, _ => absurd h List.not_mem_nil
  | _ :: _, [], _, _, l => by simp at l
theorem rho_app : ∀ {ks : List Str} {ns : List Int} {c d : Str} {v : Int}, c ∈ ks → ks.length = ns.length → rhoK (ks ++ [d]) (ns ++ [v]) c = rhoK ks ns c
  | k :: ks, n :: ns, c, d, v, h, l => by
    unfold rhoK
    rw [List.cons_append, List.cons_append, List.zip_cons_cons, List.zip_cons_cons, List.lookup_cons, List.lookup_cons]
    by_cases e : c = k
    · rw [e, beq_self_eq_true]
    · have b : (c == k) = false := by simpa using e
      rw [b]
      exact rho_app (ks := ks) (ns := ns) ((List.mem_cons.mp h).resolve_left e) (by simpa using l)
  | [], _, c, _, _, h, _ => absurd h List.not_mem_nil
  | _ :: _, [], _, _, _, _, l => by simp at l
/-- whether a key is in the region -/
def isIn (r : Fi.Tr) (ks : List Str) (ns : List Int) : Bool := decide (r.sem (rhoK ks ns) = some true)
theorem isIn_no {r : Fi.Tr} {ks : List Str} {ns : List Int} (rc : ∀ c, c ∈ r.cols → c ∈ ks) (l : ks.length = ns.length) : isIn (.no r) ks ns = !isIn r ks ns := by
  obtain ⟨b, e⟩ := sem_known (t := r) (ρ := rhoK ks ns) fun c hc => rho_some (rc c hc) l
  unfold isIn
  rw [show Fi.Tr.sem (rhoK ks ns) (.no r) = Fi.not3 (r.sem (rhoK ks ns)) from rfl, e]
  cases b <;> rfl
theorem isIn_al {ks : List Str} {ns : List Int} : isIn .al ks ns = true := rfl
/-! ### three truths -/
/-- made rows, their places, their keys -/
structure TD where
  x : Addr
  k : Addr
  o : Addr
  s : Addr
  z : Tw
  nss : List (List Int)
abbrev tabK (ks : List Str) : Tb := ⟨ks ++ [("r" : Str)], ks, [], [], true⟩
structure TOk (U C D : Addr) (H : Hp) (ks : List Str) (r : Fi.Tr) (d : TD) : Prop where
  tr : Tru U C D H d.x d.k d.o d.s d.z
  zt : d.z.t = tabK ks
  zr : d.z.r = r
  ki : keysIn d.z.kvs d.nss
  nd : d.nss.Nodup
  kz : ∀ ns, ns ∈ d.nss → ns.length = ks.length ∧ Tiny ns
theorem TOk.up {U C D : Addr} {H H' : Hp} {ks : List Str} {r : Fi.Tr} {d : TD} (e : Same H H') (h : TOk U C D H ks r d) : TOk U C D H' ks r d := ⟨h.tr.up e, h.zt, h.zr, h.ki, h.nd, h.kz⟩
theorem TOk.keep {U C D : Addr} {H H' : Hp} {ks : List Str} {r : Fi.Tr} {d : TD} (e : Keep H H') (h : TOk U C D H ks r d) : TOk U C D H' ks r d := ⟨h.tr.keep e, h.zt, h.zr, h.ki, h.nd, h.kz⟩
/-- b's things are none of those that a change of a writes -/
structure AwayT (a b : TD) : Prop where
  x : b.x ≠ a.x
  kk : b.k ≠ a.k
  ks : b.k ≠ a.s
  ok : b.o ≠ a.k
  os : b.o ≠ a.s
  sk : b.s ≠ a.k
  ss : b.s ≠ a.s
theorem TOk.offT {U C D : Addr} {H H' : Hp} {ks : List Str} {r r' : Fi.Tr} {a b : TD} (ha : TOk U C D H ks r' a) (o : OffT a.x a.k a.s H H') (ap : AwayT a b) (h : TOk U C D H ks r b) : TOk U C D H' ks r b := by
  obtain ⟨⟨⟨dx, tx, fx, h1, h2, h3⟩, h4, h5, h6, m1, m2, m3, p1, p2, p3⟩, zt, zr, ki, nd, kz⟩ := h
  obtain ⟨⟨da, ta, fa, g1, _, _⟩, g4, _, g6, _⟩ := id ha.tr
  have sp := ha.tr.spot
  have xk : b.x ≠ a.k := fun e => by
    rw [e, g4] at h1
    cases h1
  have xs : b.x ≠ a.s := fun e => by
    rw [e, g6] at h1
    cases h1
  have kx : b.k ≠ a.x := fun e => by
    rw [e, g1] at h4
    cases h4
  have ox : b.o ≠ a.x := fun e => by
    rw [e, g1] at h5
    cases h5
  have sx : b.s ≠ a.x := fun e => by
    rw [e, g1] at h6
    cases h6
  exact ⟨⟨⟨dx, tx, fx, o _ _ ap.x xk xs h1, h2.offT o sp, Fil.offT o sp h3⟩, o _ _ kx ap.kk ap.ks h4, o _ _ ox ap.ok ap.os h5, o _ _ sx ap.sk ap.ss h6, m1, m2, m3, p1, p2, p3⟩, zt, zr, ki, nd, kz⟩
/-- two of them hold what the third holds, by the region -/
structure Agree (r : Fi.Tr) (ks : List Str) (i o w : TD) : Prop where
  w : ∀ ns, ns.length = ks.length → valV w.z.kvs (kk ns) = if isIn r ks ns = true then valV i.z.kvs (kk ns) else valV o.z.kvs (kk ns)
  i : ∀ ns, ns.length = ks.length → isIn r ks ns = false → valV i.z.kvs (kk ns) = none
  o : ∀ ns, ns.length = ks.length → isIn r ks ns = true → valV o.z.kvs (kk ns) = none
theorem key_iff {kvs : List (List Key × V)} {nss : List (List Int)} (ki : keysIn kvs nss) (ns : List Int) : ns ∈ nss ↔ (valV kvs (kk ns)).isSome = true := by
  constructor
  · intro h
    obtain ⟨v, e⟩ := there_of (kvs := kvs) (k := kk ns) (by rw [ki]; exact List.mem_map.mpr ⟨ns, h, rfl⟩)
    rw [e]
    rfl
  · intro h
    obtain ⟨v, e⟩ := Option.isSome_iff_exists.mp h
    have m := valV_in e
    rw [ki] at m
    obtain ⟨ns', mn, en⟩ := List.mem_map.mp m
    rw [← kk_inj en]
    exact mn
theorem Agree.perm {U C D : Addr} {H : Hp} {r r1 r2 r3 : Fi.Tr} {ks : List Str} {i o w : TD} (ag : Agree r ks i o w) (ti : TOk U C D H ks r1 i) (to : TOk U C D H ks r2 o) (tw : TOk U C D H ks r3 w) : (i.nss ++ o.nss).Perm w.nss := by
  have inI : ∀ ns, ns ∈ i.nss → ns.length = ks.length ∧ isIn r ks ns = true := fun ns h => by
    have l := (ti.kz ns h).1
    refine ⟨l, ?_⟩
    cases e : isIn r ks ns with
    | true => rfl
    | false =>
      have := (key_iff ti.ki ns).mp h
      rw [ag.i ns l e] at this
      cases this
  have inO : ∀ ns, ns ∈ o.nss → ns.length = ks.length ∧ isIn r ks ns = false := fun ns h => by
    have l := (to.kz ns h).1
    refine ⟨l, ?_⟩
    cases e : isIn r ks ns with
    | false => rfl
    | true =>
      have := (key_iff to.ki ns).mp h
      rw [ag.o ns l e] at this
      cases this
  refine (List.perm_ext_iff_of_nodup ?_ tw.nd).mpr fun ns => ?_
  · rw [List.nodup_append]
    refine ⟨ti.nd, to.nd, fun a ha b hb e => ?_⟩
    have h1 := (inI a ha).2
    have h2 := (inO b hb).2
    rw [e, h2] at h1
    cases h1
  · rw [List.mem_append]
    constructor
    · rintro (h | h)
      · obtain ⟨l, b⟩ := inI ns h
        rw [key_iff tw.ki, ag.w ns l, if_pos b]
        exact (key_iff ti.ki ns).mp h
      · obtain ⟨l, b⟩ := inO ns h
        rw [key_iff tw.ki, ag.w ns l, if_neg (by rw [b]; decide)]
        exact (key_iff to.ki ns).mp h
    · intro h
      have l := (tw.kz ns h).1
      have q := (key_iff tw.ki ns).mp h
      rw [ag.w ns l] at q
      by_cases b : isIn r ks ns = true
      · rw [if_pos b] at q
        exact .inl ((key_iff ti.ki ns).mpr q)
      · rw [if_neg b] at q
        exact .inr ((key_iff to.ki ns).mpr q)
/-! ### a change -/
theorem put_nd {kvs : List (List Key × V)} {k : List Key} {v : V} (h : (kvs.map (·.1)).Nodup) : ((putK kvs k v).map (·.1)).Nodup := by
  unfold putK
  split
  · rw [List.map_map]
    have e : ((fun x : List Key × V => x.1) ∘ fun kv : List Key × V => if kv.1 = k then (kv.1, v) else kv) = fun x => x.1 := funext fun x => by
      show (if x.1 = k then (x.1, v) else x).1 = x.1
      split <;> rfl
    rw [e]
    exact h
  · rename_i na
    rw [List.map_append, List.nodup_append]
    refine ⟨h, by simp, fun a ha b hb e => ?_⟩
    have hb' : b = k := by simpa using hb
    obtain ⟨p, hp, ep⟩ := List.mem_map.mp ha
    exact na (List.any_eq_true.mpr ⟨p, hp, decide_eq_true (ep.trans (e.trans hb'))⟩)
theorem drop_nd {kvs : List (List Key × V)} {k : List Key} (h : (kvs.map (·.1)).Nodup) : ((dropK kvs k).map (·.1)).Nodup := by
  unfold dropK
  exact List.Pairwise.sublist (List.Sublist.map _ List.filter_sublist) h
theorem drop_self {kvs : List (List Key × V)} {k : List Key} : valV (dropK kvs k) k = none := by
  cases e : valV (dropK kvs k) k with
  | none => rfl
  | some v =>
    have m := valV_in e
    obtain ⟨p, hp, ep⟩ := List.mem_map.mp m
    have := (List.mem_filter.mp hp).2
    rw [ep] at this
    simp at this
theorem chg_val (z : Tw) (w : Str) (ns m : List Int) (y : V) : valV (chg z w ns y).kvs (kk m) = if m = ns then (if w = "delete" then none else some y) else valV z.kvs (kk m) := by
  unfold chg
  dsimp only
  by_cases e : m = ns
  · subst e
    rw [if_pos rfl]
    split
    · exact drop_self
    · rw [valV_put, if_pos rfl]
  · rw [if_neg e]
    have e2 : ¬ kk m = kk ns := fun q => e (kk_inj q)
    split
    · exact valV_dropN e2 _
    · rw [valV_put, if_neg e2]
theorem TOk.next {U C D : Addr} {H H' : Hp} {ks : List Str} {r : Fi.Tr} {d : TD} {w : Str} {ns : List Int} {y : V} (h : TOk U C D H ks r d) (tr : Tru U C D H' d.x d.k d.o d.s (chg d.z w ns y)) (nl : ns.length = ks.length) (tn : Tiny ns) :
    ∃ nss', TOk U C D H' ks r ⟨d.x, d.k, d.o, d.s, chg d.z w ns y, nss'⟩ := by
  obtain ⟨nss', ki, kz⟩ : ∃ nss', keysIn (chg d.z w ns y).kvs nss' ∧ ∀ m, m ∈ nss' → m.length = ks.length ∧ Tiny m := keys_ex fun q hq => by
    have all := keys_all h.ki h.kz
    unfold chg at hq
    dsimp only at hq
    split at hq
    · exact all q (List.mem_filter.mp hq).1
    · rcases mem_put hq with e | ⟨q', hq', e⟩
      · exact ⟨ns, e, nl, tn⟩
      · rw [← e]
        exact all q' hq'
  refine ⟨nss', tr, h.zt, h.zr, ki, ?_, kz⟩
  have n0 : (d.z.kvs.map (·.1)).Nodup := by
    rw [h.ki]
    exact List.pairwise_map.mpr (h.nd.imp fun a b => a (kk_inj b))
  have n1 : ((chg d.z w ns y).kvs.map (·.1)).Nodup := by
    unfold chg
    dsimp only
    split
    · exact drop_nd n0
    · exact put_nd n0
  have n2 : (nss'.map kk).Nodup := by
    have e : (chg d.z w ns y).kvs.map (·.1) = nss'.map kk := ki
    rw [← e]
    exact n1
  exact (List.pairwise_map.mp n2).imp fun a b => a (by rw [b])
/-- the two as a change is made at the first or at the second -/
theorem Agree.next {r : Fi.Tr} {ks : List Str} {i o w i' o' w' : TD} {wd : Str} {ns : List Int} {y : V} (ag : Agree r ks i o w) (nl : ns.length = ks.length)
    (ei : i'.z.kvs = if isIn r ks ns = true then (chg i.z wd ns y).kvs else i.z.kvs) (eo : o'.z.kvs = if isIn r ks ns = true then o.z.kvs else (chg o.z wd ns y).kvs) (ew : w'.z.kvs = (chg w.z wd ns y).kvs) : Agree r ks i' o' w' := by
  have vi : ∀ m, valV i'.z.kvs (kk m) = if isIn r ks ns = true ∧ m = ns then (if wd = "delete" then none else some y) else valV i.z.kvs (kk m) := fun m => by
    rw [ei]
    by_cases b : isIn r ks ns = true
    · rw [if_pos b, chg_val]
      by_cases e : m = ns
      · rw [if_pos e, if_pos (show isIn r ks ns = true ∧ m = ns from ⟨b, e⟩)]
      · rw [if_neg e, if_neg (fun q => e q.2)]
    · rw [if_neg b, if_neg (fun q => b q.1)]
  have vo : ∀ m, valV o'.z.kvs (kk m) = if ¬ isIn r ks ns = true ∧ m = ns then (if wd = "delete" then none else some y) else valV o.z.kvs (kk m) := fun m => by
    rw [eo]
    by_cases b : isIn r ks ns = true
    · rw [if_pos b, if_neg (fun q => q.1 b)]
    · rw [if_neg b, chg_val]
      by_cases e : m = ns
      · rw [if_pos e, if_pos (show ¬ isIn r ks ns = true ∧ m = ns from ⟨b, e⟩)]
      · rw [if_neg e, if_neg (fun q => e q.2)]
  refine ⟨fun m ml => ?_, fun m ml b => ?_, fun m ml b => ?_⟩
  · rw [ew, chg_val, vi, vo]
    by_cases e : m = ns
    · subst e
      by_cases b : isIn r ks m = true
      · simp [b]
      · simp [b]
    · have h := ag.w m ml
      simp only [e, and_false, if_false]
      exact h
  · rw [vi, if_neg (fun q => by rw [q.2, q.1] at b; cases b)]
    exact ag.i m ml b
  · rw [vo, if_neg (fun q => q.1 (by rw [← q.2]; exact b))]
    exact ag.o m ml b
/-- rows that begin with their keys -/
def GOk (g : List Int → List Int) (nss : List (List Int)) : Prop := ∀ ns, ns ∈ nss → ∃ x, g ns = ns ++ [x]
theorem rows_next {H H' : Hp} {z : Tw} {nss nss' : List (List Int)} {g : List Int → List Int} {wd : Str} {ns us : List Int} {y : V} (h : IntRows H z.kvs nss g) (gk : GOk g nss) (ki : keysIn z.kvs nss) (ki' : keysIn (chg z wd ns y).kvs nss') (tup : ∀ a xs, H a = some (.tup xs) → H' a = some (.tup xs))
    (row : wd ≠ "delete" → (∃ x, us = ns ++ [x]) ∧ ∃ r, y = .ref r ∧ H' r = some (.tup (us.map V.int))) : IntRows H' (chg z wd ns y).kvs nss' (fun m => if m = ns then us else g m) ∧ GOk (fun m => if m = ns then us else g m) nss' := by
  have old : ∀ m, m ∈ nss' → m ≠ ns → m ∈ nss := fun m hm e => by
    have q := (key_iff ki' m).mp hm
    rw [chg_val, if_neg e] at q
    exact (key_iff ki m).mpr q
  have new : ns ∈ nss' → wd ≠ "delete" := fun hm e => by
    have q := (key_iff ki' ns).mp hm
    rw [chg_val, if_pos rfl, if_pos e] at q
    cases q
  refine ⟨fun m hm => ?_, fun m hm => ?_⟩
  · rw [chg_val]
    by_cases e : m = ns
    · subst e
      have nd := new hm
      obtain ⟨_, r, ey, hr⟩ := row nd
      exact ⟨r, by rw [if_pos rfl, if_neg nd, ey], by show H' r = some (.tup ((if m = m then us else g m).map V.int)); rw [if_pos rfl]; exact hr⟩
    · obtain ⟨r, a, b⟩ := h m (old m hm e)
      exact ⟨r, by rw [if_neg e]; exact a, by show H' r = some (.tup ((if m = ns then us else g m).map V.int)); rw [if_neg e]; exact tup _ _ b⟩
  · show ∃ x, (if m = ns then us else g m) = m ++ [x]
    by_cases e : m = ns
    · subst e
      obtain ⟨hx, _⟩ := row (new hm)
      rw [if_pos rfl]
      exact hx
    · rw [if_neg e]
      exact gk m (old m hm e)
end Spk

set_option Elab.async false
set_option linter.all false
set_option maxRecDepth 100000
set_option maxHeartbeats 4000000
namespace Spk
open PySem L2
local macro_rules | `(tactic| walk_at "rd") => `(tactic| repeat (first
  | with_reducible refine i_seq ?_ | with_reducible refine i_asg ?_ | with_reducible refine i_ret ?_ | with_reducible refine i_ifS ?_ | with_reducible refine i_if ?_
  | with_reducible refine i_for ?_ | with_reducible refine i_iL ?_ | with_reducible refine i_iT ?_ | with_reducible refine i_ckw ?_ | with_reducible refine i_cm ?_ | with_reducible refine And.intro (rfl : V.ref _ = V.ref _) ?_ | with_reducible refine i_rng1 ?_ | with_reducible refine i_bm ?_ | with_reducible refine i_bm0 ?_
  | with_reducible refine i_drop ?_ | with_reducible refine i_next ?_
  | with_reducible refine i_var rfl ?_ | with_reducible refine i_c ?_ | with_reducible refine i_op ?_ | with_reducible refine i_un ?_ | with_reducible refine i_name ?_
  | with_reducible refine i_rI0 ?_ | with_reducible refine i_rU ?_ | with_reducible refine i_rEq rfl ?_ | with_reducible refine i_rNe rfl ?_
  | with_reducible refine i_test ?_ | with_reducible refine i_tB ?_ | with_reducible refine i_and ?_ | with_reducible refine i_or ?_ | with_reducible refine i_not ?_
  | with_reducible refine i_andV ?_ | with_reducible refine i_orV ?_ | with_reducible refine i_notV ?_
  | with_reducible refine i_cons ?_ | with_reducible refine i_nil ?_ | with_reducible refine i_cb ?_ | with_reducible refine i_call ?_ | with_reducible refine i_bl ?_
  | with_reducible refine i_tup ?_ | with_reducible refine i_lst ?_ | with_reducible refine i_par ?_ | with_reducible refine i_gcons ?_ | with_reducible refine i_gnil ?_
  | with_reducible refine And.intro (rfl : V.non = V.non) ?_ | with_reducible refine i_ixT (by assumption) rfl ?_ | with_reducible refine i_ixL (by assumption) rfl ?_ | with_reducible refine i_gtup (by assumption) rfl ?_
  | with_reducible refine i_gsub ?_
  | with_reducible refine Or.inl (Exists.intro _ (And.intro (rfl : [V.int _] = [V.int _]) ?_)) | with_reducible refine Exists.intro _ (And.intro (rfl : [V.int _] = [V.int _]) ?_)
  | with_reducible refine Or.inr (Exists.intro _ (And.intro (rfl : [V.bl _] = [V.bl _]) ?_))
  | with_reducible refine Exists.intro _ (Exists.intro _ (And.intro (rfl : [V.int _, V.int _] = [V.int _, V.int _]) ?_))
  | with_reducible refine Exists.intro _ (Exists.intro _ (And.intro (rfl : [V.ref _] = [V.ref _]) (And.intro (Or.inl (SqL.of (by assumption))) ?_)))
  | with_reducible refine i_rI (show (0 : Int) < _ by assumption) ?_ | with_reducible refine i_rI (show (0 : Int) < _ by decide) ?_
  | with_reducible refine i_rI (pow_ok (Nat.le_of_ble_eq_true rfl) (Nat.le_of_ble_eq_true rfl)) ?_
  | with_reducible refine i_rI (cmulL rfl) ?_))
/-! ### data compared -/
theorem tups_dp {K : PySem.W.Frag} {H : Hp} : ∀ {bs : List Addr} {xs : List (List Int)}, TupsN H bs xs → DpAll K H (bs.map V.ref) (xs.map tupD)
  | _, _, .nil => .nil
  | _, _, .cons r t => .cons (.tup (SqT.of r) (dpsN _)) (tups_dp t)
theorem tups_lay : ∀ xs : List (List Int), PyData.canLayAll0 (xs.map tupD) = true
  | [] => by simp [PyData.canLayAll0]
  | x :: xs => by
    have := tups_lay xs
    have l := layN x
    simp only [List.map_cons, PyData.canLayAll0, tupD, PyData.canLay0, l, Bool.true_and]
    exact this
theorem tups_deep : ∀ xs : List (List Int), PyData.depthAll (xs.map tupD) ≤ 2
  | [] => by simp [PyData.depthAll]
  | x :: xs => by
    have := tups_deep xs
    have l := depN x
    simp only [List.map_cons, PyData.depthAll, tupD, PyData.depth]
    have l2 : PyData.depthAll (x.map PyData.int) ≤ 1 := l
    have t2 : PyData.depthAll (xs.map fun ns => PyData.tuple (ns.map PyData.int)) ≤ 2 := this
    omega
theorem ne_tups {K : PySem.W.Frag} {H : Hp} {a b : Addr} {bs cs : List Addr} {xs : List (List Int)} {Q : VK} (ha : H a = some (.tup (bs.map V.ref))) (hb : H b = some (.tup (cs.map V.ref))) (t1 : TupsN H bs xs) (t2 : TupsN H cs xs) (q : Q (.bl false) H) : rNeD K (.ref a) (.ref b) H Q := by
  have ly : (PyData.tuple (xs.map tupD)).canLay0 = true := by simpa only [PyData.canLay0] using tups_lay xs
  have sh := shaped_of ly (by
    have := tups_deep xs
    simp only [PyData.depth]
    omega)
  refine ⟨_, _, .tup (SqT.of ha) (tups_dp t1), .tup (SqT.of hb) (tups_dp t2), sh, sh, ?_⟩
  rw [SeqAt.eqv_refl _ ly]
  exact q
theorem ne_pair {K : PySem.W.Frag} {H : Hp} {a b p q' : Addr} {vs : List V} {n : Int} {Q : VK} (ha : H a = some (.tup [.ref p, .int n])) (hb : H b = some (.tup [.ref q', .int n])) (hp : H p = some (.tup vs)) (hq : H q' = some (.tup vs)) (h : ∀ v, v ∈ vs → RowP H v) (q : Q (.bl false) H) : rNeD K (.ref a) (.ref b) H Q := by
  obtain ⟨ds, e, l, dp⟩ := rows_dp (K := K) h
  have ly : (PyData.tuple [.tuple ds, .int n]).canLay0 = true := by
    simp only [PyData.canLay0, PyData.canLayAll0, l, Bool.and_true]
  have sh := shaped_of ly (by
    simp only [PyData.depth, PyData.depthAll]
    omega)
  refine ⟨_, _, .tup (SqT.of ha) (.cons (.tup (SqT.of hp) e) (.cons (.int n) .nil)), .tup (SqT.of hb) (.cons (.tup (SqT.of hq) e) (.cons (.int n) .nil)), sh, sh, ?_⟩
  rw [SeqAt.eqv_refl _ ly]
  exact q
theorem eq_refused_no {K : PySem.W.Frag} {H : Hp} {a b : Addr} {rs ts : Str} {Q : VK} (ha : H a = some (.tup [.str "refused", .str rs])) (hb : H b = some (.tup [.str "refused", .str ts])) (ok : PyData.strOk rs = true) (ok2 : PyData.strOk ts = true) (n : rs ≠ ts) (q : Q (.bl false) H) : rEqD K (.ref a) (.ref b) H Q := by
  have ly : ∀ rs : Str, PyData.strOk rs = true → (PyData.tuple [.str "refused", .str rs]).canLay0 = true := fun rs ok => by
    simp only [PyData.canLay0, PyData.canLayAll0, ok, Bool.and_true]
    decide +kernel
  have sh : ∀ rs : Str, PyData.strOk rs = true → SeqAt.shaped (.tuple [.str "refused", .str rs]) = true := fun rs ok => shaped_of (ly rs ok) (by simp [PyData.depth, PyData.depthAll])
  refine ⟨_, _, .tup (SqT.of ha) (.cons (.str _) (.cons (.str _) .nil)), .tup (SqT.of hb) (.cons (.str _) (.cons (.str _) .nil)), sh rs ok, sh ts ok2, ?_⟩
  have e : PyData.eqv (.tuple [.str "refused", .str rs]) (.tuple [.str "refused", .str ts]) = false := by
    simp [PyData.eqv, PyData.eqvAll, n]
  rw [e]
  exact q
theorem eq_told_no {K : PySem.W.Frag} {H : Hp} {a t k b : Addr} {ns : List Int} {v1 v2 : V} {ts : Str} {Q : VK} (ha : H a = some (.tup [.str "told", .ref t])) (ht : H t = some (.tup [.ref k, v1, v2])) (hk : H k = some (.tup (ns.map V.int))) (r1 : RowP H v1) (r2 : RowP H v2)
    (hb : H b = some (.tup [.str "refused", .str ts])) (ok2 : PyData.strOk ts = true) (q : Q (.bl false) H) : rEqD K (.ref a) (.ref b) H Q := by
  obtain ⟨d1, e1, l1, p1⟩ := row_dp (K := K) r1
  obtain ⟨d2, e2, l2, p2⟩ := row_dp (K := K) r2
  have dn := depN ns
  have ly : (PyData.tuple [.str "told", .tuple [tupD ns, d1, d2]]).canLay0 = true := by
    have := layN ns
    simp only [PyData.canLay0, PyData.canLayAll0, tupD, l1, l2, this, Bool.and_true]
    decide +kernel
  have sh := shaped_of ly (by
    simp only [PyData.depth, PyData.depthAll, tupD]
    omega)
  have ly2 : (PyData.tuple [.str "refused", .str ts]).canLay0 = true := by
    simp only [PyData.canLay0, PyData.canLayAll0, ok2, Bool.and_true]
    decide +kernel
  have sh2 := shaped_of ly2 (by simp [PyData.depth, PyData.depthAll])
  refine ⟨_, _, .tup (SqT.of ha) (.cons (.str _) (.cons (.tup (SqT.of ht) (.cons (.tup (SqT.of hk) (dpsN ns)) (.cons e1 (.cons e2 .nil)))) .nil)), .tup (SqT.of hb) (.cons (.str _) (.cons (.str _) .nil)), sh, sh2, ?_⟩
  have e : PyData.eqv (.tuple [.str "told", .tuple [tupD ns, d1, d2]]) (.tuple [.str "refused", .str ts]) = false := by
    simp [PyData.eqv, PyData.eqvAll]
    try decide
  rw [e]
  exact q
/-! ### the three of the law -/
structure Tri (U C D : Addr) (H : Hp) (ks : List Str) (r : Fi.Tr) (i o w : TD) (g : List Int → List Int) (m : Nat) : Prop where
  k0 : ks ≠ []
  kz : ks.length ≤ 2
  rc : ∀ c, c ∈ r.cols → c ∈ ks
  ti : TOk U C D H ks r i
  to : TOk U C D H ks (.no r) o
  tw : TOk U C D H ks .al w
  ag : Agree r ks i o w
  rows : IntRows H w.z.kvs w.nss g
  gk : GOk g w.nss
  st : i.z.n + o.z.n = w.z.n
  io : AwayT i o
  oi : AwayT o i
  iw : AwayT i w
  wi : AwayT w i
  ow : AwayT o w
  wo : AwayT w o
  li : i.z.kvs.length ≤ m
  lo : o.z.kvs.length ≤ m
  lw : w.z.kvs.length ≤ m
  si : i.z.sts.length ≤ m
  so : o.z.sts.length ≤ m
  sw : w.z.sts.length ≤ m
theorem Tri.up {U C D : Addr} {H H' : Hp} {ks : List Str} {r : Fi.Tr} {i o w : TD} {g : List Int → List Int} {m : Nat} (e : Same H H') (h : Tri U C D H ks r i o w g m) : Tri U C D H' ks r i o w g m :=
  ⟨h.k0, h.kz, h.rc, h.ti.up e, h.to.up e, h.tw.up e, h.ag, h.rows.up e, h.gk, h.st, h.io, h.oi, h.iw, h.wi, h.ow, h.wo, h.li, h.lo, h.lw, h.si, h.so, h.sw⟩
theorem Tri.keep {U C D : Addr} {H H' : Hp} {ks : List Str} {r : Fi.Tr} {i o w : TD} {g : List Int → List Int} {m : Nat} (e : Keep H H') (h : Tri U C D H ks r i o w g m) : Tri U C D H' ks r i o w g m :=
  ⟨h.k0, h.kz, h.rc, h.ti.keep e, h.to.keep e, h.tw.keep e, h.ag, fun ns hm => by
    obtain ⟨a, b, c⟩ := h.rows ns hm
    exact ⟨a, b, e _ _ rfl c⟩, h.gk, h.st, h.io, h.oi, h.iw, h.wi, h.ow, h.wo, h.li, h.lo, h.lw, h.si, h.so, h.sw⟩
/-- what one of them holds the whole holds -/
theorem Tri.sub {U C D : Addr} {H : Hp} {ks : List Str} {r : Fi.Tr} {i o w : TD} {g : List Int → List Int} {m : Nat} (h : Tri U C D H ks r i o w g m) (ns : List Int) (v : V) (e : valV i.z.kvs (kk ns) = some v ∨ valV o.z.kvs (kk ns) = some v) : valV w.z.kvs (kk ns) = some v := by
  rcases e with e | e
  · have l := (h.ti.kz ns ((key_iff h.ti.ki ns).mpr (by rw [e]; rfl))).1
    rw [h.ag.w ns l]
    cases b : isIn r ks ns with
    | true => exact e
    | false =>
      rw [h.ag.i ns l b] at e
      cases e
  · have l := (h.to.kz ns ((key_iff h.to.ki ns).mpr (by rw [e]; rfl))).1
    rw [h.ag.w ns l]
    cases b : isIn r ks ns with
    | false => exact e
    | true =>
      rw [h.ag.o ns l b] at e
      cases e
theorem key_of_val {kvs : List (List Key × V)} {nss : List (List Int)} {k : List Key} {v : V} (ki : keysIn kvs nss) (e : valV kvs k = some v) : ∃ ns, ns ∈ nss ∧ k = kk ns := by
  have m := valV_in e
  rw [ki] at m
  obtain ⟨ns, mn, en⟩ := List.mem_map.mp m
  exact ⟨ns, mn, en.symm⟩
theorem Tri.row {U C D : Addr} {H : Hp} {ks : List Str} {r : Fi.Tr} {i o w : TD} {g : List Int → List Int} {m : Nat} (h : Tri U C D H ks r i o w g m) {ns : List Int} {v : V} (e : valV w.z.kvs (kk ns) = some v) : ∃ a, v = .ref a ∧ H a = some (.tup ((g ns).map V.int)) ∧ (g ns).length = ks.length + 1 := by
  have mem := (key_iff h.tw.ki ns).mpr (by rw [e]; rfl)
  obtain ⟨a, ea, ha⟩ := h.rows ns mem
  obtain ⟨x, ex⟩ := h.gk ns mem
  rw [e] at ea
  cases ea
  refine ⟨a, rfl, ha, ?_⟩
  rw [ex, List.length_append, (h.tw.kz ns mem).1]
  rfl
theorem Tri.rowsIn {U C D : Addr} {H : Hp} {ks : List Str} {r r' : Fi.Tr} {i o w d : TD} {g : List Int → List Int} {m : Nat} (h : Tri U C D H ks r i o w g m) (td : TOk U C D H ks r' d) (hd : ∀ ns v, valV d.z.kvs (kk ns) = some v → valV w.z.kvs (kk ns) = some v) : RowsIn H d.z := fun k v e => by
  obtain ⟨ns, mn, rfl⟩ := key_of_val td.ki e
  obtain ⟨a, rfl, ha, l⟩ := h.row (hd ns v e)
  exact ⟨a, _, rfl, ha, by rw [List.length_map, l, td.zt, List.length_append]; rfl⟩
theorem Tri.rowP {U C D : Addr} {H : Hp} {ks : List Str} {r : Fi.Tr} {i o w d : TD} {g : List Int → List Int} {m : Nat} (h : Tri U C D H ks r i o w g m) (hd : ∀ ns v, valV d.z.kvs (kk ns) = some v → valV w.z.kvs (kk ns) = some v) (ns : List Int) : RowP H ((valV d.z.kvs (kk ns)).getD .non) := by
  cases e : valV d.z.kvs (kk ns) with
  | none => exact .inl rfl
  | some v =>
    obtain ⟨a, rfl, ha, _⟩ := h.row (hd ns v e)
    exact .inr ⟨a, _, rfl, ha, fun u hu => by
      obtain ⟨n, _, rfl⟩ := List.mem_map.mp hu
      exact .inl ⟨n, rfl⟩⟩
theorem Tri.ints {U C D : Addr} {H : Hp} {ks : List Str} {r r' : Fi.Tr} {i o w d : TD} {g : List Int → List Int} {m : Nat} (h : Tri U C D H ks r i o w g m) (td : TOk U C D H ks r' d) (hd : ∀ ns v, valV d.z.kvs (kk ns) = some v → valV w.z.kvs (kk ns) = some v) : IntRows H d.z.kvs d.nss g := fun ns mn => by
  obtain ⟨v, e⟩ := Option.isSome_iff_exists.mp ((key_iff td.ki ns).mp mn)
  obtain ⟨a, rfl, ha, _⟩ := h.row (hd ns v e)
  exact ⟨a, e, ha⟩
theorem Tri.nz {U C D : Addr} {H : Hp} {ks : List Str} {r' : Fi.Tr} {d : TD} (k0 : ks ≠ []) (td : TOk U C D H ks r' d) : ∀ ns, ns ∈ d.nss → ns ≠ [] := fun ns mn e => k0 (List.eq_nil_of_length_eq_zero (by rw [← (td.kz ns mn).1, e]; rfl))
theorem TOk.len {U C D : Addr} {H : Hp} {ks : List Str} {r' : Fi.Tr} {d : TD} (td : TOk U C D H ks r' d) : d.nss.length = d.z.kvs.length := by
  have h := congrArg List.length td.ki
  rw [List.length_map, List.length_map] at h
  exact h.symm
theorem TOk.plain {U C D : Addr} {H : Hp} {ks : List Str} {r' : Fi.Tr} {d : TD} (td : TOk U C D H ks r' d) : PlainT d.z := ⟨by rw [td.zt], by rw [td.zt], by rw [td.zt]⟩
theorem awayNew {U C D : Addr} {H : Hp} {ks : List Str} {r : Fi.Tr} {a : TD} {b : TD} (ta : TOk U C D H ks r a) (hx : H b.x = none) (hk : H b.k = none) (ho : H b.o = none) (hs : H b.s = none) : AwayT a b ∧ AwayT b a := by
  obtain ⟨dx, tx, fx, h1, _⟩ := ta.tr.ex
  have h2 := ta.tr.hk
  have h3 := ta.tr.ho
  have h4 := ta.tr.hs
  exact ⟨⟨Ne.symm (ne_of_none h1 hx), Ne.symm (ne_of_none h2 hk), Ne.symm (ne_of_none h4 hk), Ne.symm (ne_of_none h2 ho), Ne.symm (ne_of_none h4 ho), Ne.symm (ne_of_none h2 hs), Ne.symm (ne_of_none h4 hs)⟩,
    ⟨ne_of_none h1 hx, ne_of_none h2 hk, ne_of_none h2 hs, ne_of_none h3 hk, ne_of_none h3 hs, ne_of_none h4 hk, ne_of_none h4 hs⟩⟩
theorem TOk.new {U C D : Addr} {H : Hp} {ks : List Str} {r : Fi.Tr} {x k o s : Addr} (tr : Tru U C D H x k o s ⟨tabK ks, r, [], [], [], 0⟩) : TOk U C D H ks r ⟨x, k, o, s, ⟨tabK ks, r, [], [], [], 0⟩, []⟩ := ⟨tr, rfl, rfl, rfl, List.nodup_nil, fun _ h => absurd h List.not_mem_nil⟩
theorem i_sl {r : V → Option Int → Option Int → Hp → VK → Prop} {te : TE} {tl th : TO} {σ : L2.St} {H : Hp} {Q : VK} (h : te σ H fun x H1 => tl σ H1 fun l H2 => th σ H2 fun u H3 => r x l u H3 Q) : tSl r te tl th σ H Q := h
theorem i_part {te : TE} {σ : L2.St} {H : Hp} {P : Option Int → Hp → Prop} (h : te σ H fun x H1 => ∃ i, x = .int i ∧ P (some i) H1) : tPart te σ H P := h
theorem i_noPart {σ : L2.St} {H : Hp} {P : Option Int → Hp → Prop} (h : P none H) : tNoPart σ H P := h
/-- row[:-1] -/
theorem slice_last {K : PySem.W.Frag} {H : Hp} {t : Addr} {ns : List Int} {v : Int} {Q : VK} (h : H t = some (.tup ((ns ++ [v]).map V.int))) (q : ∀ p, H p = none → Q (.ref p) (upd H p (.tup (ns.map V.int)))) : rSlT K (.ref t) none (some (-1)) H Q := by
  have l : ((ns ++ [v]).map V.int).length = ns.length + 1 := by
    rw [List.length_map, List.length_append]
    rfl
  have e1 : HT.sIx ((ns ++ [v]).map V.int).length ((ns ++ [v]).map V.int).length (some (-1)) = ns.length := by
    rw [l]
    simp only [HT.sIx]
    rw [if_pos (by decide)]
    omega
  refine ⟨t, _, rfl, SqT.of h, fun e => ?_, fun p hp => ?_⟩
  · have := e.2
    rw [e1, l] at this
    omega
  · have e : cutV ((ns ++ [v]).map V.int) none (some (-1)) = ns.map V.int := by
      unfold cutV
      rw [e1, HT.sIx_none, List.drop_zero, Nat.sub_zero, List.map_append, List.take_left' (by rw [List.length_map])]
    rw [e]
    exact q p hp
/-- what stands while a turn goes on -/
structure Scene (U C D : Addr) (H : Hp) (p L lc kp fr df qf : Addr) (ks : List Str) (r : Fi.Tr) (fv tv : V) (cf : List Str) (ti to tw : TD) (g : List Int → List Int) (n m : Nat) : Prop where
  pen : Pen H p L n
  hc : H lc = some (.lst ((ks ++ [("r" : Str)]).map V.str))
  kp : H kp = some (.tup [fv, .ref qf])
  fx : H fr = some (.ins D df [("tree", fv), ("columns", .ref qf)])
  hq : H qf = some (.tup (cf.map V.str))
  htr : Fi.TreeAt H r fv
  tra : Fi.TreeAt H r tv
  tri : Tri U C D H ks r ti to tw g m
section
variable {U C D p L lc kp fr df qf : Addr} {ks : List Str} {r : Fi.Tr} {fv tv : V} {cf : List Str} {ti to tw : TD} {g : List Int → List Int} {n m : Nat} {H H' : Hp}
theorem Scene.up (e : Same H H') (h : Scene U C D H p L lc kp fr df qf ks r fv tv cf ti to tw g n m) : Scene U C D H' p L lc kp fr df qf ks r fv tv cf ti to tw g n m :=
  ⟨h.pen.up e, e _ _ h.hc, e _ _ h.kp, e _ _ h.fx, e _ _ h.hq, h.htr.up e, h.tra.up e, h.tri.up e⟩
theorem Scene.keep {n' : Nat} (e : Keep H H') (p' : Pen H' p L n') (h : Scene U C D H p L lc kp fr df qf ks r fv tv cf ti to tw g n m) : Scene U C D H' p L lc kp fr df qf ks r fv tv cf ti to tw g n' m :=
  ⟨p', e _ _ (penny_strs _) h.hc, e _ _ rfl h.kp, e _ _ rfl h.fx, e _ _ rfl h.hq, h.htr.keep e, h.tra.keep e, h.tri.keep e⟩
theorem Scene.mono {n' : Nat} (e : n ≤ n') (h : Scene U C D H p L lc kp fr df qf ks r fv tv cf ti to tw g n m) : Scene U C D H p L lc kp fr df qf ks r fv tv cf ti to tw g n' m := { h with pen := h.pen.mono e }
end
theorem isIn_dec {r : Fi.Tr} {ks : List Str} {ns : List Int} {v : Int} (rc : ∀ c, c ∈ r.cols → c ∈ ks) (l : ks.length = ns.length) : decide (V.int (Fi.lev (r.sem (rhoK (ks ++ [("r" : Str)]) (ns ++ [v])))) = V.int 2) = isIn r ks ns := by
  have e : r.sem (rhoK (ks ++ [("r" : Str)]) (ns ++ [v])) = r.sem (rhoK ks ns) := sem_congr fun c hc => rho_app (rc c hc) l
  unfold isIn
  rw [e]
  cases r.sem (rhoK ks ns) with
  | none => rfl
  | some b => cases b <;> rfl
theorem catA_at {K : PySem.W.Frag} {H : Hp} {a b : Addr} {xs ys : List V} {Q : VK} (ha : H a = some (.tup xs)) (hb : H b = some (.tup ys)) (hz : xs.length + ys.length ≤ 100000) (q : ∀ p H', Same H H' → H' p = some (.tup (xs ++ ys)) → Q (.ref p) H') : rCatA K (.ref a) (.ref b) H Q := by
  refine ⟨a, b, xs, ys, rfl, rfl, SqT.of ha, SqT.of hb, size_of hz, fun e => ?_, fun _ e => ?_, fun _ _ p hp => ?_⟩
  · subst e
    exact q b H (Same.refl H) hb
  · subst e
    exact q a H (Same.refl H) (by rw [List.append_nil]; exact ha)
  · obtain ⟨H1, e1, s1, h1⟩ := new_heap (o := .tup (xs ++ ys)) hp
    rw [e1]
    exact q p H1 s1 h1
end Spk

set_option Elab.async false
set_option linter.all false
set_option maxRecDepth 100000
set_option maxHeartbeats 1000000
namespace Spk.Fi
open PySem L2 Spk
/-! ### trees as data -/
def treeD : Tr → PyData
  | .wi c ps => .tuple [.str "within", .str c, psD ps]
  | .mi c => .tuple [.str "missing", .str c]
  | .al => .tuple [.str "always"]
  | .ne => .tuple [.str "never"]
  | .an l r => .tuple [.str "and", treeD l, treeD r]
  | .ou l r => .tuple [.str "or", treeD l, treeD r]
  | .no t => .tuple [.str "not", treeD t]
theorem dpTr {K : PySem.W.Frag} {H : Hp} : ∀ {t : Tr} {v : V}, TreeAt H t v → Dp K H v (treeD t)
  | .wi c ps, v, h => by
    obtain ⟨a, p, rfl, h1, h2, _⟩ := h
    exact .tup (SqT.of h1) (.cons (.str _) (.cons (.str _) (.cons (dp_parts h2) .nil)))
  | .mi c, v, h => by
    obtain ⟨a, rfl, h1⟩ := h
    exact .tup (SqT.of h1) (.cons (.str _) (.cons (.str _) .nil))
  | .al, v, h => by
    obtain ⟨a, rfl, h1⟩ := h
    exact .tup (SqT.of h1) (.cons (.str _) .nil)
  | .ne, v, h => by
    obtain ⟨a, rfl, h1⟩ := h
    exact .tup (SqT.of h1) (.cons (.str _) .nil)
  | .an l r, v, h => by
    obtain ⟨a, x, y, rfl, h1, h2, h3⟩ := h
    exact .tup (SqT.of h1) (.cons (.str _) (.cons (dpTr h2) (.cons (dpTr h3) .nil)))
  | .ou l r, v, h => by
    obtain ⟨a, x, y, rfl, h1, h2, h3⟩ := h
    exact .tup (SqT.of h1) (.cons (.str _) (.cons (dpTr h2) (.cons (dpTr h3) .nil)))
  | .no t, v, h => by
    obtain ⟨a, x, rfl, h1, h2⟩ := h
    exact .tup (SqT.of h1) (.cons (.str _) (.cons (dpTr h2) .nil))
/-- all texts can be laid -/
def TxsOk (cs : List Str) : Prop := ∀ c, c ∈ cs → PyData.strOk c = true
theorem lay_psD (ps : List Stc) : (psD ps).canLay0 = true := by
  show PyData.canLay0 (.tuple (ps.map stD)) = true
  simp only [PyData.canLay0]
  exact lay_ps ps
theorem dep_psD (ps : List Stc) : (psD ps).depth ≤ 3 := by
  have h := dep_ps ps
  show PyData.depth (.tuple (ps.map stD)) ≤ 3
  simp only [PyData.depth]
  omega
theorem layTr : ∀ t : Tr, TxsOk t.cols → (treeD t).canLay0 = true
  | .wi c ps, h => by
    have a := h c (List.mem_singleton.mpr rfl)
    simp only [treeD, PyData.canLay0, PyData.canLayAll0, lay_psD, a, Bool.and_true]
    decide +kernel
  | .mi c, h => by
    have a := h c (List.mem_singleton.mpr rfl)
    simp only [treeD, PyData.canLay0, PyData.canLayAll0, a, Bool.and_true]
    decide +kernel
  | .al, _ => by decide +kernel
  | .ne, _ => by decide +kernel
  | .an l r, h => by
    have a := layTr l fun c hc => h c (List.mem_append_left _ hc)
    have b := layTr r fun c hc => h c (List.mem_append_right _ hc)
    simp only [treeD, PyData.canLay0, PyData.canLayAll0, a, b, Bool.and_true]
    decide +kernel
  | .ou l r, h => by
    have a := layTr l fun c hc => h c (List.mem_append_left _ hc)
    have b := layTr r fun c hc => h c (List.mem_append_right _ hc)
    simp only [treeD, PyData.canLay0, PyData.canLayAll0, a, b, Bool.and_true]
    decide +kernel
  | .no t, h => by
    have a := layTr t h
    simp only [treeD, PyData.canLay0, PyData.canLayAll0, a, Bool.and_true]
    decide +kernel
theorem depTr : ∀ t : Tr, (treeD t).depth ≤ 2 * t.deep + 2
  | .wi c ps => by
    have a := dep_psD ps
    simp only [treeD, PyData.depth, PyData.depthAll, Tr.deep]
    omega
  | .mi c => by
    simp only [treeD, PyData.depth, PyData.depthAll, Tr.deep]
    omega
  | .al => by
    simp only [treeD, PyData.depth, PyData.depthAll, Tr.deep]
    omega
  | .ne => by
    simp only [treeD, PyData.depth, PyData.depthAll, Tr.deep]
    omega
  | .an l r => by
    have a := depTr l
    have b := depTr r
    simp only [treeD, PyData.depth, PyData.depthAll, Tr.deep]
    omega
  | .ou l r => by
    have a := depTr l
    have b := depTr r
    simp only [treeD, PyData.depth, PyData.depthAll, Tr.deep]
    omega
  | .no t => by
    have a := depTr t
    simp only [treeD, PyData.depth, PyData.depthAll, Tr.deep]
    omega
theorem shapedTr {t : Tr} (h : TxsOk t.cols) (d : t.deep ≤ 22) : SeqAt.shaped (treeD t) = true := by
  have a := layTr t h
  have b := depTr t
  unfold SeqAt.shaped
  rw [a, Bool.true_and, decide_eq_true_eq]
  omega
end Spk.Fi

set_option Elab.async false
set_option linter.all false
set_option maxRecDepth 100000
set_option maxHeartbeats 1000000
namespace Spk
open PySem PySem.Spec PyProof.Rows PySem.W L2
/-! ## def f(a, *b, c, d = ..): keywords that lack -/
/-- keywords that lack are read, then fin -/
def KwTo {α : Type} (D : Addr) : List (Str × Value) → Sem α → Sem α → Prop
  | [], t, fin => t = fin
  | q :: l, t, fin => ∃ (β γ : Type) (k1 : Option Value → Sem β) (k2 : β → Sem γ) (k3 : γ → Sem α) (a : β), t = ((nsGet D q.1 >>= k1) >>= k2) >>= k3 ∧ k1 (some q.2) = pure a ∧ KwTo D l (k2 a >>= k3) fin
theorem KwTo.run {α : Type} {K : PySem.W.Frag} {M : Model} {h : Heap} {D : Addr} {A : Around} {Q : α → Shared → Prop} {E : Value → Shared → Prop} {s : Shared} (X : K.In h) (kp : ∀ b o, h.get? b = some o → s.heap.get? b = some o) :
    ∀ {l : List (Str × Value)} {t fin : Sem α}, (∀ q ∈ l, PySem.W.nsIn K D q.1 = some (some q.2)) → KwTo D l t fin → wpAny M A fin Q E s → wpAny M A t Q E s
  | [], t, fin, _, e, z => by
    have e : t = fin := e
    rw [e]
    exact z
  | q :: l, t, fin, hl, e, z => by
    obtain ⟨β, γ, k1, k2, k3, a, e1, e2, e3⟩ := e
    have l1 : PySem.W.Looks M h (nsGet D q.1 >>= k1) a := (PySem.W.looks_nsIn X (hl q (List.mem_cons_self ..))).andThen (PySem.W.Looks.of_pure e2)
    rw [e1, bind_assoc]
    exact wpAny_bind (l1 A _ E s kp (KwTo.run X kp (fun p hp => hl p (List.mem_cons_of_mem _ hp)) e3 z))
section
variable {P : Program} {w : World} {K : Frag} {mg : Str → Option Value} {base : Heap} {name qual : Str} {params : Arguments} {body : List Stmt} {scope : Scope} {kws ms : List (Str × V)} {f : Addr} {fd : FuncData} {N ps ks as : List Str} {sp : Sp} {CX : CXT} {k : Nat}
theorem fn_starKD {pv : Str} (F : FunD K name qual params body scope [] kws f fd) (g : {α : Type} → List α → List α → List α) (S : FnScope N (ps ++ as ++ [pv]) scope) (hCX : StX.CXUp CX) (hk : kws ≠ []) (hms : ∀ q ∈ ms, q ∈ kws)
    (hrel : ∀ {mz zs : List V} {mv ws : List Value}, Vals mz mv → Vals zs ws → Vals (g zs mz) (g ws mv))
    (hlen : ∀ (α : Type) (zs mz : List α), zs.length = ks.length → mz.length = ms.length → (g zs mz).length = as.length)
    (hb : ∀ (D : Addr) (doc pm : Value) (an : Option Addr) (cdv ct : Value) (us rest mv ws : List Value), us.length = ps.length → ws.length = ks.length → mv.length = ms.length →
      KwTo D ((ms.map (·.1)).zip mv) (bindArgs (fnOf name qual params body scope .none (.ref D) doc pm an cdv ct) ⟨us ++ rest, ks.zip ws⟩) (newTuple rest >>= fun t => pure ((ps ++ as).zip (us ++ g ws mv) ++ [(pv, t)])))
    (hbody : ∀ (cdv : Value) (A : Around) (outer : List Env) (s : Shared) (H : Hp) (vs : List V) (Q : VK) (E : XK), Room k (A.deeper (envOfC qual scope s.heap.objs.size f cdv)) → sp vs H Q E →
      ∃ t, PSs (cxOf CX P w K mg base N qual scope f cdv A outer s H E) body t ∧ t { nx := fun _ H1 => Q .non H1, rt := Q } (L2.start N vs) H) :
    FnK P w K mg base CX (k + 1) f ks (fun vs zs H Q E => ∃ ws rest, vs = ws ++ rest ∧ ws.length = ps.length ∧ rest.length ≤ sizeLine ∧ ∀ p o, H p = Option.none → o.cls = .type "tuple" → o.dict = Option.none → sp (ws ++ g zs (ms.map (·.2)) ++ [V.ref p]) (upd H p (.frz o (.tup rest))) Q E) := by
  obtain ⟨oc, od, dV, kV, doc, pm, an, cdv, ct, osl, rfl, lk, hcd, hD, hK⟩ := F.ex
  rcases hD with ⟨_, rfl⟩ | ⟨e, _⟩
  rotate_left
  · exact absurd rfl e
  rcases hK with e | ⟨D, rfl, hq⟩
  · exact absurd e hk
  obtain ⟨mv, hl0, rk, hks⟩ := kwd_vals (ms := ms) fun q hm => hq q (hms q hm)
  intro A outer s H us wz vs zs Q E hr e0 r rz lz hsp
  obtain ⟨ws, rest, ev, hl, hz, hq⟩ := hsp
  subst ev
  obtain ⟨u1, u2, eu, r1, r2⟩ := StX.vals_split r
  subst eu
  have fresh : H s.heap.objs.size = Option.none := e0.hok.fresh (Nat.le_refl _)
  have l1 : u1.length = ps.length := by
    rw [← r1.length]
    exact hl
  have l2 : u2.length ≤ sizeLine := by
    rw [← r2.length]
    exact hz
  have l3 : wz.length = ks.length := by
    rw [← rz.length]
    exact lz
  have eb := hb D doc pm an cdv ct u1 u2 mv wz l1 l3 hl0
  have gl1 : (g wz mv).length = as.length := hlen _ _ _ l3 hl0
  have gl2 : (g zs (ms.map (·.2))).length = as.length := hlen _ _ _ lz (by simp)
  refine StX.run_bnd lk hcd S hr e0 (G := fun xs H2 => ∃ p o, H p = Option.none ∧ o.cls = .type "tuple" ∧ o.dict = Option.none ∧ xs = ws ++ g zs (ms.map (·.2)) ++ [V.ref p] ∧ H2 = upd H p (.frz o (.tup rest))) ?_ ?_
  · intro A2 Ex Q2 h
    have X : K.In s.heap := fun a o e => (e0.bs a o (e0.mod.kin a o e)).1
    refine KwTo.run X (fun _ _ q => q) hks eb (wpAny_bind (wpAny_newTuple (wpAny_pure ?_) l2))
    have new : ObjOk P w (upd H s.heap.objs.size (.frz ({ cls := .type "tuple", data := .seq u2.toArray } : Obj) (.tup rest))) (s.heap.push ({ cls := .type "tuple", data := .seq u2.toArray } : Obj)) s.heap.objs.size (.frz ({ cls := .type "tuple", data := .seq u2.toArray } : Obj) (.tup rest)) := ⟨Heap.get?_push_size _ rfl, hz, u2, r2, ⟨_, Heap.get?_push_size _ rfl, rfl, _, rfl⟩⟩
    have un := StX.un_laid (fs := frs outer) (s := s) (o := ({ cls := .type "tuple", data := .seq u2.toArray } : Obj)) (u := .frz ({ cls := .type "tuple", data := .seq u2.toArray } : Obj) (.tup rest)) fresh
    have z := h _ _ (ws ++ g zs (ms.map (·.2)) ++ [V.ref s.heap.objs.size]) (u1 ++ g wz mv ++ [Value.ref s.heap.objs.size]) (StX.env0_laid e0 new) un rfl (fun e s2 => hCX outer s H _ _ E e s2 un (fun b o q => Heap.get?_push_of_some _ q) rfl) ((r1.append (hrel rk rz)).append (.cons rfl .nil))
      (by simp [hl, gl2]) ⟨_, _, fresh, rfl, rfl, rfl, rfl⟩
    rw [List.zip_append (by simp [l1, gl1])] at z
    exact z
  · intro s2 H2 xs gg hr2
    obtain ⟨p, o, hp, oc, od, ex, eH⟩ := gg
    subst ex eH
    exact hbody cdv A outer s2 _ _ Q E hr2 (hq p o hp oc od)
end
end Spk

set_option Elab.async false
set_option linter.all false
set_option maxRecDepth 100000
set_option maxHeartbeats 4000000
namespace Spk
open PySem L2
local macro_rules | `(tactic| walk_at "rd") => `(tactic| repeat (first
  | with_reducible refine i_seq ?_ | with_reducible refine i_asg ?_ | with_reducible refine i_ret ?_ | with_reducible refine i_ifS ?_ | with_reducible refine i_if ?_
  | with_reducible refine i_for ?_ | with_reducible refine i_iL ?_ | with_reducible refine i_iT ?_ | with_reducible refine i_ckw ?_ | with_reducible refine i_cm ?_ | with_reducible refine And.intro (rfl : V.ref _ = V.ref _) ?_ | with_reducible refine i_rng1 ?_ | with_reducible refine i_bm ?_ | with_reducible refine i_bm0 ?_
  | with_reducible refine i_drop ?_ | with_reducible refine i_next ?_
  | with_reducible refine i_var rfl ?_ | with_reducible refine i_c ?_ | with_reducible refine i_op ?_ | with_reducible refine i_un ?_ | with_reducible refine i_name ?_
  | with_reducible refine i_rI0 ?_ | with_reducible refine i_rU ?_ | with_reducible refine i_rEq rfl ?_ | with_reducible refine i_rNe rfl ?_
  | with_reducible refine i_test ?_ | with_reducible refine i_tB ?_ | with_reducible refine i_and ?_ | with_reducible refine i_or ?_ | with_reducible refine i_not ?_
  | with_reducible refine i_andV ?_ | with_reducible refine i_orV ?_ | with_reducible refine i_notV ?_
  | with_reducible refine i_cons ?_ | with_reducible refine i_nil ?_ | with_reducible refine i_cb ?_ | with_reducible refine i_call ?_ | with_reducible refine i_bl ?_
  | with_reducible refine i_tup ?_ | with_reducible refine i_lst ?_ | with_reducible refine i_par ?_ | with_reducible refine i_gcons ?_ | with_reducible refine i_gnil ?_
  | with_reducible refine And.intro (rfl : V.non = V.non) ?_ | with_reducible refine i_ixT (by assumption) rfl ?_ | with_reducible refine i_ixL (by assumption) rfl ?_ | with_reducible refine i_gtup (by assumption) rfl ?_
  | with_reducible refine i_gsub ?_
  | with_reducible refine Or.inl (Exists.intro _ (And.intro (rfl : [V.int _] = [V.int _]) ?_)) | with_reducible refine Exists.intro _ (And.intro (rfl : [V.int _] = [V.int _]) ?_)
  | with_reducible refine Or.inr (Exists.intro _ (And.intro (rfl : [V.bl _] = [V.bl _]) ?_))
  | with_reducible refine Exists.intro _ (Exists.intro _ (And.intro (rfl : [V.int _, V.int _] = [V.int _, V.int _]) ?_))
  | with_reducible refine Exists.intro _ (Exists.intro _ (And.intro (rfl : [V.ref _] = [V.ref _]) (And.intro (Or.inl (SqL.of (by assumption))) ?_)))
  | with_reducible refine i_rI (show (0 : Int) < _ by assumption) ?_ | with_reducible refine i_rI (show (0 : Int) < _ by decide) ?_
  | with_reducible refine i_rI (pow_ok (Nat.le_of_ble_eq_true rfl) (Nat.le_of_ble_eq_true rfl)) ?_
  | with_reducible refine i_rI (cmulL rfl) ?_))
/-! ### tables with keywords that lack -/
section
variable {P : Program} {w : World} {K : PySem.W.Frag} {mg : Str → Option Value} {base : Heap} {C fI p g CI fX : Addr} {mc : Value}
abbrev mK1 (K : PySem.W.Frag) (C CI e1 e2 : Addr) : List V → List V → Hp → VK → XK → Prop := fun vs zs H Q E => ∃ ws rest, vs = ws ++ rest ∧ ws.length = (["self"] : List Str).length ∧ rest.length ≤ sizeLine ∧ ∀ p o, H p = none → o.cls = .type "tuple" → o.dict = none → sp_tinit K C CI (ws ++ (zs ++ [V.ref e1, .ref e2, .bl true]) ++ [V.ref p]) (upd H p (.frz o (.tup rest))) Q E
theorem ok_tinit1 {fd fdX : FuncData} {fA fC fO e1 e2 : Addr} {fdA fdC fdO : FuncData} (F : FunD K "__init__" "Table.__init__" (defArgs s_Table__init) (defBody s_Table__init) (defScope s_Table__init) [] [("fixed", .ref e1), ("unique", .ref e2), ("reuse", .bl true)] fI fd) (T : ClsT K mg C fI mc p g) (XI : XIt K mg CI fX) (B_iinit : Binds K fdX ["self", "reason"] []) (G_iinit : FnOk P w K mg base CX0 1 fX fdX ["self", "reason"] (sp_iinit CI))
    (F_are_names : Fun K "are_names" "are_names" s_are_names fA fdA) (B_are_names : Binds K fdA ["things"] []) (g_are_names : mg "are_names" = some (.ref fA)) (G_are_names : FnOk P w K mg base CX0 2 fA fdA ["things"] (sp_are_names K))
    (F_are_chosen : Fun K "are_chosen" "are_chosen" s_are_chosen fC fdC) (B_are_chosen : Binds K fdC ["names", "columns"] []) (g_are_chosen : mg "are_chosen" = some (.ref fC)) (G_are_chosen : FnOk P w K mg base CX0 1 fC fdC ["names", "columns"] (sp_are_chosen K))
    (F_in_order_of : Fun K "in_order_of" "in_order_of" s_in_order_of fO fdO) (B_in_order_of : Binds K fdO ["columns", "names"] []) (g_in_order_of : mg "in_order_of" = some (.ref fO)) (G_in_order_of : FnOk P w K mg base CX0 1 fO fdO ["columns", "names"] (sp_in_order_of K))
    (z_len : mg "len" = none) : FnK P w K mg base (L2.CX P w) 3 fI ["key"] (mK1 K C CI e1 e2) := by
  refine fn_starKD (ms := [("fixed", .ref e1), ("unique", .ref e2), ("reuse", .bl true)]) (ps := ["self"]) (as := kwN) (ks := ["key"]) (pv := "columns") F (fun zs mz => zs ++ mz) sc_Table__init StX.cxUp (by simp) (fun q hq => hq) (fun a b => b.append a) (fun α zs mz h1 h2 => by rw [List.length_append, h1, h2]; rfl) ?_ (fun cdv A outer s H vs Q E hr h => ?_)
  · intro D doc pm an cdv ct us rest mv ws l1 l2 l3
    match us, l1 with
    | [u1], _ =>
      match mv, l3 with
      | [m1, m2, m3], _ =>
        match ws, l2 with
        | [w1], _ =>
          cases rest with
          | nil => exact ⟨_, _, _, _, _, _, rfl, rfl, _, _, _, _, _, _, rfl, rfl, _, _, _, _, _, _, rfl, rfl, rfl⟩
          | cons r rs => exact ⟨_, _, _, _, _, _, rfl, rfl, _, _, _, _, _, _, rfl, rfl, _, _, _, _, _, _, rfl, rfl, rfl⟩
  · exact run_tinit T XI B_iinit G_iinit F_are_names B_are_names g_are_names G_are_names F_are_chosen B_are_chosen g_are_chosen G_are_chosen F_in_order_of B_in_order_of g_in_order_of G_in_order_of z_len hr h
abbrev mK2 (K : PySem.W.Frag) (C CI e1 e2 : Addr) : List V → List V → Hp → VK → XK → Prop := fun vs zs H Q E => ∃ ws rest, vs = ws ++ rest ∧ ws.length = (["self"] : List Str).length ∧ rest.length ≤ sizeLine ∧ ∀ p o, H p = none → o.cls = .type "tuple" → o.dict = none → sp_tinit K C CI (ws ++ (zs.take 1 ++ [V.ref e1, .ref e2] ++ zs.drop 1) ++ [V.ref p]) (upd H p (.frz o (.tup rest))) Q E
theorem ok_tinit2 {fd fdX : FuncData} {fA fC fO e1 e2 : Addr} {fdA fdC fdO : FuncData} (F : FunD K "__init__" "Table.__init__" (defArgs s_Table__init) (defBody s_Table__init) (defScope s_Table__init) [] [("fixed", .ref e1), ("unique", .ref e2), ("reuse", .bl true)] fI fd) (T : ClsT K mg C fI mc p g) (XI : XIt K mg CI fX) (B_iinit : Binds K fdX ["self", "reason"] []) (G_iinit : FnOk P w K mg base CX0 1 fX fdX ["self", "reason"] (sp_iinit CI))
    (F_are_names : Fun K "are_names" "are_names" s_are_names fA fdA) (B_are_names : Binds K fdA ["things"] []) (g_are_names : mg "are_names" = some (.ref fA)) (G_are_names : FnOk P w K mg base CX0 2 fA fdA ["things"] (sp_are_names K))
    (F_are_chosen : Fun K "are_chosen" "are_chosen" s_are_chosen fC fdC) (B_are_chosen : Binds K fdC ["names", "columns"] []) (g_are_chosen : mg "are_chosen" = some (.ref fC)) (G_are_chosen : FnOk P w K mg base CX0 1 fC fdC ["names", "columns"] (sp_are_chosen K))
    (F_in_order_of : Fun K "in_order_of" "in_order_of" s_in_order_of fO fdO) (B_in_order_of : Binds K fdO ["columns", "names"] []) (g_in_order_of : mg "in_order_of" = some (.ref fO)) (G_in_order_of : FnOk P w K mg base CX0 1 fO fdO ["columns", "names"] (sp_in_order_of K))
    (z_len : mg "len" = none) : FnK P w K mg base (L2.CX P w) 3 fI ["key", "reuse"] (mK2 K C CI e1 e2) := by
  refine fn_starKD (ms := [("fixed", .ref e1), ("unique", .ref e2)]) (ps := ["self"]) (as := kwN) (ks := ["key", "reuse"]) (pv := "columns") F (fun zs mz => zs.take 1 ++ mz ++ zs.drop 1) sc_Table__init StX.cxUp (by simp) (fun q hq => by simp only [List.mem_cons, List.not_mem_nil, or_false] at hq ⊢; exact hq.elim .inl fun z => .inr (.inl z)) (fun a b => ((b.take 1).append a).append (b.drop 1)) (fun α zs mz h1 h2 => by have h1 : zs.length = 2 := h1; have h2 : mz.length = 2 := h2; simp [h1, h2]) ?_ (fun cdv A outer s H vs Q E hr h => ?_)
  · intro D doc pm an cdv ct us rest mv ws l1 l2 l3
    match us, l1 with
    | [u1], _ =>
      match mv, l3 with
      | [m1, m2], _ =>
        match ws, l2 with
        | [w1, w2], _ =>
          cases rest with
          | nil => exact ⟨_, _, _, _, _, _, rfl, rfl, _, _, _, _, _, _, rfl, rfl, rfl⟩
          | cons r rs => exact ⟨_, _, _, _, _, _, rfl, rfl, _, _, _, _, _, _, rfl, rfl, rfl⟩
  · exact run_tinit T XI B_iinit G_iinit F_are_names B_are_names g_are_names G_are_names F_are_chosen B_are_chosen g_are_chosen G_are_chosen F_in_order_of B_in_order_of g_in_order_of G_in_order_of z_len hr h
end
end Spk

set_option Elab.async false
set_option linter.all false
set_option maxRecDepth 100000
set_option maxHeartbeats 4000000
namespace Spk
open PySem L2
local macro_rules | `(tactic| walk_at "rd") => `(tactic| repeat (first
  | with_reducible refine i_seq ?_ | with_reducible refine i_asg ?_ | with_reducible refine i_ret ?_ | with_reducible refine i_ifS ?_ | with_reducible refine i_if ?_
  | with_reducible refine i_for ?_ | with_reducible refine i_iL ?_ | with_reducible refine i_iT ?_ | with_reducible refine i_ckw ?_ | with_reducible refine i_cm ?_ | with_reducible refine And.intro (rfl : V.ref _ = V.ref _) ?_ | with_reducible refine i_rng1 ?_ | with_reducible refine i_bm ?_ | with_reducible refine i_bm0 ?_
  | with_reducible refine i_drop ?_ | with_reducible refine i_next ?_
  | with_reducible refine i_var rfl ?_ | with_reducible refine i_c ?_ | with_reducible refine i_op ?_ | with_reducible refine i_un ?_ | with_reducible refine i_name ?_
  | with_reducible refine i_rI0 ?_ | with_reducible refine i_rU ?_ | with_reducible refine i_rEq rfl ?_ | with_reducible refine i_rNe rfl ?_
  | with_reducible refine i_test ?_ | with_reducible refine i_tB ?_ | with_reducible refine i_and ?_ | with_reducible refine i_or ?_ | with_reducible refine i_not ?_
  | with_reducible refine i_andV ?_ | with_reducible refine i_orV ?_ | with_reducible refine i_notV ?_
  | with_reducible refine i_cons ?_ | with_reducible refine i_nil ?_ | with_reducible refine i_cb ?_ | with_reducible refine i_call ?_ | with_reducible refine i_bl ?_
  | with_reducible refine i_tup ?_ | with_reducible refine i_lst ?_ | with_reducible refine i_par ?_ | with_reducible refine i_gcons ?_ | with_reducible refine i_gnil ?_
  | with_reducible refine And.intro (rfl : V.non = V.non) ?_ | with_reducible refine i_ixT (by assumption) rfl ?_ | with_reducible refine i_ixL (by assumption) rfl ?_ | with_reducible refine i_gtup (by assumption) rfl ?_
  | with_reducible refine i_gsub ?_
  | with_reducible refine Or.inl (Exists.intro _ (And.intro (rfl : [V.int _] = [V.int _]) ?_)) | with_reducible refine Exists.intro _ (And.intro (rfl : [V.int _] = [V.int _]) ?_)
  | with_reducible refine Or.inr (Exists.intro _ (And.intro (rfl : [V.bl _] = [V.bl _]) ?_))
  | with_reducible refine Exists.intro _ (Exists.intro _ (And.intro (rfl : [V.int _, V.int _] = [V.int _, V.int _]) ?_))
  | with_reducible refine Exists.intro _ (Exists.intro _ (And.intro (rfl : [V.ref _] = [V.ref _]) (And.intro (Or.inl (SqL.of (by assumption))) ?_)))
  | with_reducible refine i_rI (show (0 : Int) < _ by assumption) ?_ | with_reducible refine i_rI (show (0 : Int) < _ by decide) ?_
  | with_reducible refine i_rI (pow_ok (Nat.le_of_ble_eq_true rfl) (Nat.le_of_ble_eq_true rfl)) ?_
  | with_reducible refine i_rI (cmulL rfl) ?_))
/-! ### all but made rows and their dicts stands still -/
def Calm (H H' : Hp) : Prop := ∀ a v, H a = some v → (∀ l, v ≠ .dT l) → (∀ U dx tx fx kd od sd n, v ≠ .ins U dx (tflds tx fx kd od sd n)) → H' a = some v
theorem Calm.trans {H H1 H2 : Hp} (a : Calm H H1) (b : Calm H1 H2) : Calm H H2 := fun c v h n1 n2 => b c v (a c v h n1 n2) n1 n2
theorem Same.calm {H H' : Hp} (e : Same H H') : Calm H H' := fun c v h _ _ => e c v h
theorem OffT.calm {x kd sd : Addr} {H H' : Hp} (o : OffT x kd sd H H') (sp : Spot H x kd sd) : Calm H H' := fun _ _ h n1 n2 => o.get sp h n1 n2
theorem Calm.tup {H H' : Hp} (o : Calm H H') {a : Addr} {xs : List V} (h : H a = some (.tup xs)) : H' a = some (.tup xs) := o _ _ h (fun _ z => nomatch z) fun _ _ _ _ _ _ _ _ z => nomatch z
theorem Calm.lst {H H' : Hp} (o : Calm H H') {a : Addr} {xs : List V} (h : H a = some (.lst xs)) : H' a = some (.lst xs) := o _ _ h (fun _ z => nomatch z) fun _ _ _ _ _ _ _ _ z => nomatch z
theorem Pen.calm {H H' : Hp} (o : Calm H H') {p L : Addr} {n : Nat} (h : Pen H p L n) : Pen H' p L n := by
  obtain ⟨ns, a, l, h1, h2, r⟩ := h
  exact ⟨ns, a, l, o.lst h1, o.lst h2, r⟩
theorem treeCalm {H H' : Hp} (o : Calm H H') {r : Fi.Tr} {v : V} (h : Fi.TreeAt H r v) : Fi.TreeAt H' r v :=
  h.via (fun a xs z => o.tup z) (fun a ps z => by
    obtain ⟨vs, hv, tv⟩ := z
    exact ⟨vs, o.tup hv, Paired.mapP tv fun _ _ ⟨a, e, ha⟩ => ⟨a, e, o.tup ha⟩⟩)
theorem Scene.calm {U C D p L lc kp fr df qf : Addr} {ks : List Str} {r : Fi.Tr} {fv tv : V} {cf : List Str} {ti to tw ti' to' tw' : TD} {g g' : List Int → List Int} {n m m' : Nat} {H H' : Hp} (o : Calm H H') (h : Scene U C D H p L lc kp fr df qf ks r fv tv cf ti to tw g n m) (tri : Tri U C D H' ks r ti' to' tw' g' m') :
    Scene U C D H' p L lc kp fr df qf ks r fv tv cf ti' to' tw' g' n m' :=
  ⟨Pen.calm o h.pen, o.lst h.hc, o.tup h.kp, o _ _ h.fx (fun _ z => nomatch z) (fun _ _ _ _ _ _ _ _ => ins_ne (by decide)), o.tup h.hq, treeCalm o h.htr, treeCalm o h.tra, tri⟩
/-! ### who is meant by a key -/
def pickT : Bool → TD → TD → TD
  | true, i, _ => i
  | false, _, o => o
def regT : Bool → Fi.Tr → Fi.Tr
  | true, r => r
  | false, r => .no r
section
variable {U C D : Addr} {H : Hp} {ks : List Str} {r : Fi.Tr} {i o w : TD} {g : List Int → List Int} {m : Nat}
theorem Tri.at_ (h : Tri U C D H ks r i o w g m) : ∀ b, TOk U C D H ks (regT b r) (pickT b i o)
  | true => h.ti
  | false => h.to
theorem isIn_reg {ns : List Int} {b : Bool} (rc : ∀ c, c ∈ r.cols → c ∈ ks) (l : ns.length = ks.length) (hb : isIn r ks ns = b) : ∀ c, isIn (regT c r) ks ns = (c == b)
  | true => by rw [show regT true r = r from rfl, hb]; cases b <;> rfl
  | false => by rw [show regT false r = .no r from rfl, isIn_no rc l.symm, hb]; cases b <;> rfl
theorem inR_of {r' : Fi.Tr} {d : TD} {ns : List Int} (td : TOk U C D H ks r' d) : inR d.z ns = isIn r' ks ns := by
  unfold inR isIn
  rw [td.zr, td.zt]
theorem Tri.eqv (h : Tri U C D H ks r i o w g m) {ns : List Int} {b : Bool} (l : ns.length = ks.length) (hb : isIn r ks ns = b) : valV (pickT b i o).z.kvs (kk ns) = valV w.z.kvs (kk ns) := by
  rw [h.ag.w ns l, hb]
  cases b <;> rfl
theorem Tri.non (h : Tri U C D H ks r i o w g m) {ns : List Int} {b : Bool} (l : ns.length = ks.length) (hb : isIn r ks ns = b) : valV (pickT (!b) i o).z.kvs (kk ns) = none := by
  cases b with
  | true => exact h.ag.o ns l hb
  | false => exact h.ag.i ns l hb
theorem Tri.dueHere (h : Tri U C D H ks r i o w g m) {ns : List Int} {b : Bool} (wd : Str) (l : ns.length = ks.length) (hb : isIn r ks ns = b) : dueW (pickT b i o).z wd ns = dueW w.z wd ns := by
  unfold dueW
  rw [inR_of (h.at_ b), inR_of h.tw, isIn_reg h.rc l hb, isIn_al, h.eqv l hb]
  cases b <;> rfl
theorem Tri.dueThere (h : Tri U C D H ks r i o w g m) {ns : List Int} {b : Bool} (wd : Str) (l : ns.length = ks.length) (hb : isIn r ks ns = b) : dueW (pickT (!b) i o).z wd ns = some "region" := by
  unfold dueW
  rw [inR_of (h.at_ (!b)), isIn_reg h.rc l hb]
  cases b <;> rfl
theorem Tri.noRegion (h : Tri U C D H ks r i o w g m) {ns : List Int} {wd rs : Str} (d : dueW w.z wd ns = some rs) : rs ≠ "region" := by
  unfold dueW at d
  rw [inR_of h.tw, isIn_al, if_neg (by decide)] at d
  split at d
  · split at d
    · cases d
      decide
    · cases d
  · split at d
    · cases d
    · cases d
      decide
theorem Tri.away (h : Tri U C D H ks r i o w g m) : ∀ b, AwayT (pickT b i o) (pickT (!b) i o) ∧ AwayT (pickT b i o) w ∧ AwayT w (pickT b i o)
  | true => ⟨h.io, h.iw, h.wi⟩
  | false => ⟨h.oi, h.ow, h.wo⟩
theorem Tri.mono {m' : Nat} (e : m ≤ m') (h : Tri U C D H ks r i o w g m) : Tri U C D H ks r i o w g m' := { h with li := Nat.le_trans h.li e, lo := Nat.le_trans h.lo e, lw := Nat.le_trans h.lw e, si := Nat.le_trans h.si e, so := Nat.le_trans h.so e, sw := Nat.le_trans h.sw e }
theorem Tri.zAt (h : Tri U C D H ks r i o w g m) : ∀ b, (pickT b i o).z.kvs.length ≤ m ∧ (pickT b i o).z.sts.length ≤ m
  | true => ⟨h.li, h.si⟩
  | false => ⟨h.lo, h.so⟩
theorem Tri.rowsAt (h : Tri U C D H ks r i o w g m) (b : Bool) : RowsIn H (pickT b i o).z := h.rowsIn (h.at_ b) fun ns v e => h.sub ns v (by
  cases b
  · exact .inr e
  · exact .inl e)
theorem Tri.rowAt (h : Tri U C D H ks r i o w g m) (b : Bool) (ns : List Int) : RowP H ((valV (pickT b i o).z.kvs (kk ns)).getD .non) := h.rowP (fun ns v e => h.sub ns v (by
  cases b
  · exact .inr e
  · exact .inl e)) ns
theorem Tri.intsAt (h : Tri U C D H ks r i o w g m) (b : Bool) : IntRows H (pickT b i o).z.kvs (pickT b i o).nss g := h.ints (h.at_ b) fun ns v e => h.sub ns v (by
  cases b
  · exact .inr e
  · exact .inl e)
end
theorem AwayT.l {a b : TD} {z : Tw} {nss : List (List Int)} (h : AwayT a b) : AwayT ⟨a.x, a.k, a.o, a.s, z, nss⟩ b := ⟨h.x, h.kk, h.ks, h.ok, h.os, h.sk, h.ss⟩
theorem AwayT.r {a b : TD} {z : Tw} {nss : List (List Int)} (h : AwayT a b) : AwayT a ⟨b.x, b.k, b.o, b.s, z, nss⟩ := ⟨h.x, h.kk, h.ks, h.ok, h.os, h.sk, h.ss⟩
theorem chg_klen (z : Tw) (w : Str) (ns : List Int) (y : V) : (chg z w ns y).kvs.length ≤ z.kvs.length + 1 := by
  unfold chg
  dsimp only
  split
  · have := List.length_filter_le (fun p : List Key × V => decide (p.1 ≠ kk ns)) z.kvs
    unfold dropK
    exact Nat.le_trans (List.length_filter_le _ _) (Nat.le_succ _)
  · exact put_len _ _ _
theorem chg_slen (z : Tw) (w : Str) (ns : List Int) (y : V) : (chg z w ns y).sts.length ≤ z.sts.length + 1 := put_len _ _ _
theorem rowGood {ks : List Str} : ∀ {us : List Int} {cs : List Str}, Tiny us → us.length = cs.length → RowOk ks cs (us.map V.int)
  | [], [], _, _ => .nil
  | u :: us, c :: cs, t, l => .cons (.inl ⟨u, rfl, t u List.mem_cons_self⟩) (rowGood (fun n hn => t n (List.mem_cons_of_mem _ hn)) (by simpa using l))
  | [], _ :: _, _, l => by simp at l
  | _ :: _, [], _, l => by simp at l
theorem picked_keys {ks : List Str} {ns : List Int} {v : Int} (nd : (ks ++ [("r" : Str)]).Nodup) (l : ns.length = ks.length) : picked (ks ++ [("r" : Str)]) ((ns ++ [v]).map V.int) ks = ns.map V.int := by
  refine List.ext_getElem (by rw [List.length_map, List.length_map]; exact l.symm) fun i h1 h2 => ?_
  have hi : i < ks.length := by rw [List.length_map] at h1; exact h1
  have hn : i < ns.length := by omega
  have mem : ks[i] ∈ ks ++ [("r" : Str)] := List.mem_append_left _ (List.getElem_mem hi)
  obtain ⟨j, ej, e2, _⟩ := place_of mem
  have hj := (List.getElem?_eq_some_iff.mp e2).1
  have ei : (ks ++ [("r" : Str)])[i]? = some ks[i] := by rw [List.getElem?_append_left hi, List.getElem?_eq_getElem hi]
  have e : j = i := by
    rw [← ei] at e2
    exact (List.getElem?_inj hj nd).mp e2
  rw [List.getElem_map, List.getElem_map, ej, e, List.getD_eq_getElem?_getD, List.getElem?_map, List.getElem?_append_left hn, List.getElem?_eq_getElem hn]
  rfl
theorem wishK {H : Hp} {ks : List Str} {wd : Str} {t b : Addr} {ns : List Int} {v : Int} (nd : (ks ++ [("r" : Str)]).Nodup) (hw : wd = "insert" ∨ wd = "update" ∨ wd = "delete") (ht : H t = some (.tup ((ns ++ [v]).map V.int))) (hb : H b = some (.tup (ns.map V.int))) (nl : ns.length = ks.length) (tn : Tiny (ns ++ [v])) :
    Wish H (tabK ks) wd (if wd = "delete" then .ref b else .ref t) ns := by
  have tns : Tiny ns := fun n hn => tn n (List.mem_append_left _ hn)
  have ins : wd = "insert" ∨ wd = "update" → Wish H (tabK ks) wd (if wd = "delete" then .ref b else .ref t) ns := fun h => .inr ⟨h, t, _, by
    rw [if_neg (by rcases h with rfl | rfl <;> decide)], ht, rowGood tn (by rw [List.length_append, nl, List.length_append]; rfl), picked_keys nd nl, tns, nl⟩
  rcases hw with h | h | h
  · exact ins (.inl h)
  · exact ins (.inr h)
  · exact .inl ⟨h, b, by rw [if_pos h], hb, nl, tns⟩
section
variable {U C D : Addr} {H H1 H2 : Hp} {ks : List Str} {r : Fi.Tr} {i o w : TD} {g : List Int → List Int} {m : Nat}
/-- a change heard here and at the whole -/
theorem Tri.next (h : Tri U C D H ks r i o w g m) {ns : List Int} {v : Int} {b : Bool} {wd : Str} {y : V} {p1 p2 : Addr} (l : ns.length = ks.length) (hb : isIn r ks ns = b) (tn : Tiny (ns ++ [v]))
    (rt : wd ≠ "delete" → ∃ rr, y = .ref rr ∧ H rr = some (.tup ((ns ++ [v]).map V.int)))
    (c1 : Heard U C D H H1 (pickT b i o).x (pickT b i o).k (pickT b i o).o (pickT b i o).s (pickT b i o).z wd ns y p1)
    (c2 : Heard U C D H1 H2 w.x w.k w.o w.s w.z wd ns y p2) :
    ∃ i' o' w' g', Tri U C D H2 ks r i' o' w' g' (m + 1) ∧ i'.x = i.x ∧ o'.x = o.x ∧ w'.x = w.x ∧ pickT (!b) i' o' = pickT (!b) i o ∧ Calm H H2 := by
  have tns : Tiny ns := fun n hn => tn n (List.mem_append_left _ hn)
  have de := h.dueHere wd l hb
  obtain ⟨a1, a2, a3⟩ := h.away b
  rcases c1 with ⟨rs, d1, s1, _⟩ | ⟨d1, t1, b1, o1, tr1, _⟩
  · rcases c2 with ⟨rs2, d2, s2, _⟩ | ⟨d2, _⟩
    · have s : Same H H2 := fun c q e => s2 _ _ (s1 _ _ e)
      exact ⟨i, o, w, g, (h.up s).mono (Nat.le_succ _), rfl, rfl, rfl, rfl, Same.calm s⟩
    · rw [de, d2] at d1
      cases d1
  · rcases c2 with ⟨rs2, d2, _⟩ | ⟨d2, t2, b2, o2, tr2, _⟩
    · rw [de, d2] at d1
      cases d1
    · have th := h.at_ b
      have to_ := h.at_ (!b)
      obtain ⟨nh, th1⟩ := th.next tr1 l tns
      have to1 := TOk.offT th o1 a1 to_
      have tw1 := TOk.offT th o1 a2 h.tw
      obtain ⟨nw, tw2⟩ := tw1.next tr2 l tns
      have th2 := TOk.offT tw1 o2 a3.r th1
      have aw : AwayT w (pickT (!b) i o) := by
        cases b
        · exact h.wi
        · exact h.wo
      have to2 := TOk.offT tw1 o2 aw to1
      have cl : Calm H H2 := (o1.calm th.tr.spot).trans (o2.calm tw1.tr.spot)
      obtain ⟨rows, gk⟩ := rows_next (wd := wd) (us := ns ++ [v]) h.rows h.gk h.tw.ki tw2.ki (fun a xs z => cl.tup z) fun nd => by
        obtain ⟨rr, e, hr⟩ := rt nd
        exact ⟨⟨v, rfl⟩, rr, e, cl.tup hr⟩
      have k1 := chg_klen (pickT b i o).z wd ns y
      have k2 := chg_slen (pickT b i o).z wd ns y
      have k3 := chg_klen w.z wd ns y
      have k4 := chg_slen w.z wd ns y
      obtain ⟨z1, z2⟩ := h.zAt b
      have lw := h.lw
      have sw := h.sw
      have st := h.st
      cases b with
      | true =>
        refine ⟨_, o, _, _, ⟨h.k0, h.kz, h.rc, th2, to2, tw2, ?_, rows, gk, ?_, h.io.l, h.oi.r, h.iw.l.r, h.wi.l.r, h.ow.r, h.wo.l, ?_, ?_, ?_, ?_, ?_, ?_⟩, rfl, rfl, rfl, rfl, cl⟩
        · exact h.ag.next (wd := wd) (ns := ns) (y := y) l (by rw [hb]; rfl) (by rw [hb]; rfl) rfl
        · show (i.z.n + 1) + o.z.n = w.z.n + 1
          omega
        · exact Nat.le_trans k1 (Nat.succ_le_succ z1)
        · exact Nat.le_trans h.lo (Nat.le_succ _)
        · exact Nat.le_trans k3 (Nat.succ_le_succ lw)
        · exact Nat.le_trans k2 (Nat.succ_le_succ z2)
        · exact Nat.le_trans h.so (Nat.le_succ _)
        · exact Nat.le_trans k4 (Nat.succ_le_succ sw)
      | false =>
        refine ⟨i, _, _, _, ⟨h.k0, h.kz, h.rc, to2, th2, tw2, ?_, rows, gk, ?_, h.io.r, h.oi.l, h.iw.r, h.wi.l, h.ow.l.r, h.wo.l.r, ?_, ?_, ?_, ?_, ?_, ?_⟩, rfl, rfl, rfl, rfl, cl⟩
        · exact h.ag.next (wd := wd) (ns := ns) (y := y) l (by rw [hb]; rfl) (by rw [hb]; rfl) rfl
        · show i.z.n + (o.z.n + 1) = w.z.n + 1
          omega
        · exact Nat.le_trans h.li (Nat.le_succ _)
        · exact Nat.le_trans k1 (Nat.succ_le_succ z1)
        · exact Nat.le_trans k3 (Nat.succ_le_succ lw)
        · exact Nat.le_trans h.si (Nat.le_succ _)
        · exact Nat.le_trans k2 (Nat.succ_le_succ z2)
        · exact Nat.le_trans k4 (Nat.succ_le_succ sw)
end
/-- two hear the same, and it is not that the key is out of the region -/
def SameHeard (H : Hp) (p1 p2 : Addr) : Prop :=
  (∃ rs : Str, rs ≠ "region" ∧ PyData.strOk rs = true ∧ H p1 = some (.tup [.str "refused", .str rs]) ∧ H p2 = some (.tup [.str "refused", .str rs])) ∨
  (∃ t1 k1 t2 k2 v1 v2, ∃ ns : List Int, H p1 = some (.tup [.str "told", .ref t1]) ∧ H t1 = some (.tup [.ref k1, v1, v2]) ∧ H k1 = some (.tup (ns.map V.int)) ∧
    H p2 = some (.tup [.str "told", .ref t2]) ∧ H t2 = some (.tup [.ref k2, v1, v2]) ∧ H k2 = some (.tup (ns.map V.int)) ∧ RowP H v1 ∧ RowP H v2)
theorem SameHeard.up {H H' : Hp} {p1 p2 : Addr} (e : Same H H') (h : SameHeard H p1 p2) : SameHeard H' p1 p2 := by
  rcases h with ⟨rs, a, b, c, d⟩ | ⟨t1, k1, t2, k2, v1, v2, ns, a, b, c, d, f, g, r1, r2⟩
  · exact .inl ⟨rs, a, b, e _ _ c, e _ _ d⟩
  · exact .inr ⟨t1, k1, t2, k2, v1, v2, ns, e _ _ a, e _ _ b, e _ _ c, e _ _ d, e _ _ f, e _ _ g, r1.up e, r2.up e⟩
theorem SameHeard.ne {K : PySem.W.Frag} {H : Hp} {p1 p2 : Addr} {Q : VK} (h : SameHeard H p1 p2) (q : Q (.bl false) H) : rNeD K (.ref p1) (.ref p2) H Q := by
  rcases h with ⟨rs, a, b, c, d⟩ | ⟨t1, k1, t2, k2, v1, v2, ns, a, b, c, d, f, g, r1, r2⟩
  · exact ne_refused c d b q
  · exact ne_told a b c d f g r1 r2 q
theorem SameHeard.eq {K : PySem.W.Frag} {H : Hp} {p1 p2 p : Addr} {Q : VK} (h : SameHeard H p1 p2) (hp : H p = some (.tup [.str "refused", .str "region"])) (q : Q (.bl false) H) : rEqD K (.ref p1) (.ref p) H Q := by
  rcases h with ⟨rs, a, b, c, d⟩ | ⟨t1, k1, t2, k2, v1, v2, ns, a, b, c, d, f, g, r1, r2⟩
  · exact eq_refused_no c hp b (by decide +kernel) a q
  · exact eq_told_no a b c r1 r2 hp (by decide +kernel) q
section
variable {U C D : Addr} {H H1 H2 : Hp} {ks : List Str} {r : Fi.Tr} {i o w : TD} {g : List Int → List Int} {m : Nat}
theorem Tri.mid (h : Tri U C D H ks r i o w g m) {ns : List Int} {b : Bool} {wd : Str} {y : V} {p1 : Addr}
    (c1 : Heard U C D H H1 (pickT b i o).x (pickT b i o).k (pickT b i o).o (pickT b i o).s (pickT b i o).z wd ns y p1) : TOk U C D H1 ks .al w ∧ RowsIn H1 w.z ∧ Calm H H1 := by
  have ri : RowsIn H w.z := h.rowsIn h.tw fun _ _ e => e
  rcases c1 with ⟨rs, d1, s1, _⟩ | ⟨d1, t1, b1, o1, tr1, _⟩
  · exact ⟨h.tw.up s1, ri.up s1, Same.calm s1⟩
  · have th := h.at_ b
    have cl := o1.calm th.tr.spot
    refine ⟨TOk.offT th o1 (h.away b).2.1 h.tw, fun k v e => ?_, cl⟩
    obtain ⟨r1, us, a, b', c⟩ := ri k v e
    exact ⟨r1, us, a, cl.tup b', c⟩
theorem Tri.heard (h : Tri U C D H ks r i o w g m) {ns : List Int} {b : Bool} {wd : Str} {y : V} {p1 p2 : Addr} (l : ns.length = ks.length) (hb : isIn r ks ns = b)
    (c1 : Heard U C D H H1 (pickT b i o).x (pickT b i o).k (pickT b i o).o (pickT b i o).s (pickT b i o).z wd ns y p1)
    (c2 : Heard U C D H1 H2 w.x w.k w.o w.s w.z wd ns y p2) (ry : RowP H2 (if wd = "delete" then .non else y)) : SameHeard H2 p1 p2 := by
  have de := h.dueHere wd l hb
  obtain ⟨tw1, _, cl1⟩ := h.mid c1
  have rv := h.rowAt b ns
  have ev := h.eqv l hb
  rcases c1 with ⟨rs, d1, s1, hp1⟩ | ⟨d1, t1, b1, o1, tr1, ka1, ht1, hp1⟩
  · rcases c2 with ⟨rs2, d2, s2, hp2⟩ | ⟨d2, _⟩
    · rw [de, d2] at d1
      cases d1
      exact .inl ⟨rs, h.noRegion d2, due_ok d2, s2 _ _ hp1, hp2⟩
    · rw [de, d2] at d1
      cases d1
  · rcases c2 with ⟨rs2, d2, _⟩ | ⟨d2, t2, b2, o2, tr2, ka2, ht2, hp2⟩
    · rw [de, d2] at d1
      cases d1
    · have cl2 := o2.calm tw1.tr.spot
      rw [ev] at ht1 rv
      exact .inr ⟨t1, b1, t2, b2, _, _, ns, cl2.tup hp1, cl2.tup ht1, cl2.tup ka1.at_, hp2, ht2, ka2.at_, rv.tup fun a us z => (cl1.trans cl2).tup z, ry⟩
end
theorem pick_x {b : Bool} {i o i' o' : TD} (e1 : i'.x = i.x) (e2 : o'.x = o.x) : (pickT b i' o').x = (pickT b i o).x := by
  cases b
  · exact e2
  · exact e1
/-- the two at once hold what the whole holds, row by row -/
theorem Tri.sorted {U C D : Addr} {H : Hp} {ks : List Str} {r : Fi.Tr} {i o w : TD} {g : List Int → List Int} {m : Nat} (h : Tri U C D H ks r i o w g m) : sortN ((sortN i.nss).map g ++ (sortN o.nss).map g) = (sortN w.nss).map g := by
  have hg : ∀ ns, ns ∈ w.nss → ∃ x, g ns = ns ++ x := fun ns mn => by
    obtain ⟨x, e⟩ := h.gk ns mn
    exact ⟨[x], e⟩
  rw [← sort_rows hg fun ns mn => (h.tw.kz ns mn).1]
  refine sortN_unique ?_ (sortN_pair _)
  refine List.Perm.trans ?_ (sortN_perm _).symm
  rw [← List.map_append]
  refine List.Perm.map g ?_
  exact ((sortN_perm _).append (sortN_perm _)).trans (h.ag.perm h.ti h.to h.tw)
theorem Tri.lens {U C D : Addr} {H : Hp} {ks : List Str} {r : Fi.Tr} {i o w : TD} {g : List Int → List Int} {m : Nat} (h : Tri U C D H ks r i o w g m) : i.z.kvs.length + o.z.kvs.length = w.z.kvs.length := by
  rw [← h.ti.len, ← h.to.len, ← h.tw.len, ← List.length_append]
  exact (h.ag.perm h.ti h.to h.tw).length_eq
theorem dpsT {K : PySem.W.Frag} {H : Hp} : ∀ cs : List Str, DpAll K H (cs.map V.str) (cs.map PyData.str)
  | [] => .nil
  | _ :: cs => .cons (.str _) (dpsT cs)
theorem layT : ∀ cs : List Str, (∀ c, c ∈ cs → PyData.strOk c = true) → PyData.canLayAll0 (cs.map PyData.str) = true
  | [], _ => by simp [PyData.canLayAll0]
  | c :: cs, h => by
    have a := h c List.mem_cons_self
    have b := layT cs fun d hd => h d (List.mem_cons_of_mem _ hd)
    simp [PyData.canLayAll0, PyData.canLay0, a, b]
theorem depT : ∀ cs : List Str, PyData.depthAll (cs.map PyData.str) ≤ 1
  | [] => by simp [PyData.depthAll]
  | c :: cs => by
    have b := depT cs
    simp only [List.map_cons, PyData.depthAll, PyData.depth]
    omega
/-- a tree and its columns beside themselves -/
theorem ne_kept {K : PySem.W.Frag} {H : Hp} {a b q q' : Addr} {fv fv' : V} {r : Fi.Tr} {cs : List Str} {Q : VK} (ha : H a = some (.tup [fv, .ref q])) (hb : H b = some (.tup [fv', .ref q'])) (h1 : Fi.TreeAt H r fv) (h2 : Fi.TreeAt H r fv') (hq : H q = some (.tup (cs.map V.str))) (hq' : H q' = some (.tup (cs.map V.str)))
    (tx : Fi.TxsOk r.cols) (cx : Fi.TxsOk cs) (dp : r.deep ≤ 22) (k : Q (.bl false) H) : rNeD K (.ref a) (.ref b) H Q := by
  have l1 := Fi.layTr r tx
  have d1 := Fi.depTr r
  have l2 := layT cs cx
  have d2 := depT cs
  have ly : (PyData.tuple [Fi.treeD r, .tuple (cs.map PyData.str)]).canLay0 = true := by
    simp only [PyData.canLay0, PyData.canLayAll0, l1, l2, Bool.and_true]
  have sh := shaped_of ly (by
    simp only [PyData.depth, PyData.depthAll]
    omega)
  refine ⟨_, _, .tup (SqT.of ha) (.cons (Fi.dpTr h1) (.cons (.tup (SqT.of hq) (dpsT cs)) .nil)), .tup (SqT.of hb) (.cons (Fi.dpTr h2) (.cons (.tup (SqT.of hq') (dpsT cs)) .nil)), sh, sh, ?_⟩
  rw [SeqAt.eqv_refl _ ly]
  exact k
end Spk

set_option Elab.async false
set_option linter.all false
set_option maxRecDepth 100000
set_option maxHeartbeats 8000000
namespace Spk
open PySem L2
local macro_rules | `(tactic| walk_at "rd") => `(tactic| repeat (first
  | with_reducible refine i_seq ?_ | with_reducible refine i_asg ?_ | with_reducible refine i_ret ?_ | with_reducible refine i_ifS ?_ | with_reducible refine i_if ?_
  | with_reducible refine i_for ?_ | with_reducible refine i_iL ?_ | with_reducible refine i_iT ?_ | with_reducible refine i_ckw ?_ | with_reducible refine i_cm ?_ | with_reducible refine And.intro (rfl : V.ref _ = V.ref _) ?_ | with_reducible refine i_rng1 ?_ | with_reducible refine i_bm ?_ | with_reducible refine i_bm0 ?_
  | with_reducible refine i_drop ?_ | with_reducible refine i_next ?_
  | with_reducible refine i_var rfl ?_ | with_reducible refine i_c ?_ | with_reducible refine i_op ?_ | with_reducible refine i_un ?_ | with_reducible refine i_name ?_
  | with_reducible refine i_rI0 ?_ | with_reducible refine i_rU ?_ | with_reducible refine i_rEq rfl ?_ | with_reducible refine i_rNe rfl ?_
  | with_reducible refine i_test ?_ | with_reducible refine i_tB ?_ | with_reducible refine i_and ?_ | with_reducible refine i_or ?_ | with_reducible refine i_not ?_
  | with_reducible refine i_andV ?_ | with_reducible refine i_orV ?_ | with_reducible refine i_notV ?_
  | with_reducible refine i_cons ?_ | with_reducible refine i_nil ?_ | with_reducible refine i_cb ?_ | with_reducible refine i_call ?_ | with_reducible refine i_bl ?_
  | with_reducible refine i_tup ?_ | with_reducible refine i_lst ?_ | with_reducible refine i_par ?_ | with_reducible refine i_gcons ?_ | with_reducible refine i_gnil ?_
  | with_reducible refine And.intro (rfl : V.non = V.non) ?_ | with_reducible refine i_ixT (by assumption) rfl ?_ | with_reducible refine i_ixL (by assumption) rfl ?_ | with_reducible refine i_gtup (by assumption) rfl ?_
  | with_reducible refine i_gsub ?_
  | with_reducible refine Or.inl (Exists.intro _ (And.intro (rfl : [V.int _] = [V.int _]) ?_)) | with_reducible refine Exists.intro _ (And.intro (rfl : [V.int _] = [V.int _]) ?_)
  | with_reducible refine Or.inr (Exists.intro _ (And.intro (rfl : [V.bl _] = [V.bl _]) ?_))
  | with_reducible refine Exists.intro _ (Exists.intro _ (And.intro (rfl : [V.int _, V.int _] = [V.int _, V.int _]) ?_))
  | with_reducible refine Exists.intro _ (Exists.intro _ (And.intro (rfl : [V.ref _] = [V.ref _]) (And.intro (Or.inl (SqL.of (by assumption))) ?_)))
  | with_reducible refine i_rI (show (0 : Int) < _ by assumption) ?_ | with_reducible refine i_rI (show (0 : Int) < _ by decide) ?_
  | with_reducible refine i_rI (pow_ok (Nat.le_of_ble_eq_true rfl) (Nat.le_of_ble_eq_true rfl)) ?_
  | with_reducible refine i_rI (cmulL rfl) ?_))
/-! ### the law -/
theorem passF {X : Cx} : Passes (L2.CX X.prog X.w) X E0 := fun pins σ H s e s' _ h => by
  obtain ⟨_, _, _, _, _, _, _, _, _, _, _, _, z⟩ := h
  exact z.elim
theorem among_nil (cs : List Str) : among cs [] = [] := by
  unfold among
  rw [List.filter_eq_nil_iff]
  intro a _
  simp
theorem due_fine {cs ks : List Str} (c0 : cs ≠ []) (cz : cs.length ≤ 4) (cn : cs.Nodup) (kn : ks.Nodup) (sub : ∀ c, c ∈ ks → c ∈ cs) (k0 : ks ≠ []) (kz : ks.length ≤ 2) : dueT (cs.map V.str) (cs.map fun _ => true) ks [] [] = none := by
  have e0 : (cs.map V.str).isEmpty = false := by
    cases cs with
    | nil => exact absurd rfl c0
    | cons a b => rfl
  have nd : (cs.map V.str).Nodup := nodup_strs.mpr cn
  have al : ((cs.map fun _ => true).all id) = true := by simp
  have k1 : 1 ≤ ks.length := List.length_pos_iff.mpr k0
  have st : strsOf (cs.map V.str) = cs := by
    unfold strsOf
    rw [List.filterMap_map]
    exact List.filterMap_some
  have ch : ((ks.map fun c => decide (c ∈ cs)).all id) = true := by
    rw [List.all_map, List.all_eq_true]
    intro c hc
    exact decide_eq_true (sub c hc)
  unfold dueT namesB chosenB
  rw [st, e0, al, decide_eq_true nd, List.length_map, decide_eq_true cz, ch, decide_eq_true kn, decide_eq_true k1, decide_eq_true kz]
  simp
theorem nms_of {K : PySem.W.Frag} {H : Hp} : ∀ {cs : List Str}, (∀ c, c ∈ cs → c.length ≤ 100 ∧ nameB c = true) → Paired (NmV K H) (cs.map V.str) (cs.map fun _ => true)
  | [], _ => .nil
  | c :: cs, h => .cons (.inl ⟨c, rfl, (h c List.mem_cons_self).1, (h c List.mem_cons_self).2.symm⟩) (nms_of fun d hd => h d (List.mem_cons_of_mem _ hd))
theorem mk_truR {U C D : Addr} {H : Hp} {tx fx x dx : Addr} {t : Tb} {r : Fi.Tr} {R : Hp → Prop} (hx : H x = none) (hdx : H dx = none) (hne : dx ≠ x) (ht : Tab C H tx t) (hf : Fi.Fil D H fx r) (ok : TbOk t) (rc : ∀ c, c ∈ r.cols → c ∈ t.ks) (dp : r.deep ≤ 20)
    (q : ∀ kd od sd H', Same H H' → H x = none → H kd = none → H od = none → H sd = none → x ≠ kd → x ≠ od → x ≠ sd → Tru U C D H' x kd od sd ⟨t, r, [], [], [], 0⟩ → R H') :
    spU U [.ref x, .ref tx, .ref fx] (upd (upd H dx (.own x)) x (.ins U dx [])) (fun v H3 => v = .non ∧ R H3) E0 := by
  refine ⟨x, dx, tx, fx, rfl, upd_same, fun kd od sd H' off hk ho hs n1 n2 n3 kx ox sx h1 h2 h3 h4 => ⟨rfl, ?_⟩⟩
  have s : Same H H' := fun b o e => by
    have b1 : b ≠ x := ne_of_none e hx
    have b2 : b ≠ dx := ne_of_none e hdx
    exact off b o b1 (by rw [upd_ne b1, upd_ne b2]; exact e)
  have fresh : ∀ {a : Addr}, a ≠ x → (upd (upd H dx (.own x)) x (.ins U dx [])) a = none → H a = none := fun {a} n h => by
    rw [upd_ne n] at h
    by_cases e : a = dx
    · rw [e, upd_same] at h
      cases h
    · rw [upd_ne e] at h
      exact h
  exact q kd od sd H' s hx (fresh kx hk) (fresh ox ho) (fresh sx hs) (Ne.symm kx) (Ne.symm ox) (Ne.symm sx) ⟨⟨dx, tx, fx, h1, ht.up s, hf.up s⟩, h2, h3, h4, n1, n2, n3, ok, rc, dp⟩
theorem mk_tabR {K : PySem.W.Frag} {C CI x dx : Addr} {R : Hp → Prop} {H : Hp} {E : XK} {xs : List V} {js : List Bool} {tk tf tu : Addr} {ks fs us : List Str} {r : Bool} (gv : Given K H xs js tk tf tu ks fs us) (no : dueT xs js ks fs us = none) (hx : H x = none) (hdx : H dx = none) (hne : dx ≠ x)
    (yes : ∀ cs, xs = cs.map V.str → ∀ H', Same H H' → Tab C H' x ⟨cs, among cs ks, among cs fs, among cs us, r⟩ → R H') : mK K C CI (V.ref x :: xs) [.ref tk, .ref tf, .ref tu, .bl r] (upd (upd H dx (.own x)) x (.ins C dx [])) (fun v H3 => v = .non ∧ R H3) E := by
  refine ⟨[.ref x], xs, rfl, rfl, size_of (by have := gv.z; omega), fun p' o hp' oc od => ?_⟩
  have xp : x ≠ p' := fun z => by rw [← z, upd_same] at hp'; cases hp'
  have s2 : Same H (upd (upd (upd H dx (.own x)) x (.ins C dx [])) p' (.frz o (.tup xs))) := fun b u e => by
    have n1 := ne_of_none e hx
    have n2 := ne_of_none e hdx
    have n3 : b ≠ p' := fun z => by
      rw [← z, upd_ne n1, upd_ne n2, e] at hp'
      cases hp'
    rw [upd_ne n3, upd_ne n1, upd_ne n2]
    exact e
  have gv2 := gv.up s2
  refine ⟨x, dx, tk, tf, tu, p', xs, js, ks, fs, us, r, rfl, by rw [upd_ne xp]; exact upd_same, ⟨o, upd_same, oc, od⟩, gv2.z, gv2.nm, gv2.k, gv2.f, gv2.u, gv2.kz, gv2.fz, gv2.uz, fun rs d => absurd (no.symm.trans d) (fun z => nomatch z), fun cs d e H' off tb => ⟨rfl, yes cs e H' (fun b u e1 => ?_) tb⟩⟩
  exact off b u (ne_of_none e1 hx) (s2 _ _ e1)
structure TInv (a p L : Addr) (i : Nat) (σ : L2.St) (H : Hp) : Prop where
  ex : ∃ x2 x3 x4 x5 x6 x7 x8 x9 x10 x11 x12 x13 x14 x15 x16 x17 x18 x19 x20 x21 x22 : Option V, σ = [some (.ref a), some (.ref p), x2, x3, x4, x5, x6, x7, x8, x9, x10, x11, x12, x13, x14, x15, x16, x17, x18, x19, x20, x21, x22] ∧ Pen H p L (500 * i)
section
variable {P : Program} {w : World} {K : PySem.W.Frag} {mg : Str → Option Value} {base : Heap} {U C D R CI fI fT p g e3 e4 pR gR pS gS : Addr} {mc : Value} {mI mU mD mC' mW mO mS fL fC fF : Addr} {md : Value} {pw pm pa pn gw gm ga gn hA hO hV hC : Addr}
abbrev s_law : Stmt := top 51
theorem sc_law : FnScope ["_law_script", "_law_pen_here", "_law_turn", "_law_keyed", "_law_columns", "_law_table", "_law_region", "_law_tree", "_law_kept", "_law_inner", "_law_outer", "_law_whole", "_law_step", "_law_row_here", "_law_mine", "_law_is_in", "_law_word", "_law_old", "_law_thing", "_law_here", "_law_there", "_law_before", "_law_heard"] ["_law_script"] (defScope s_law) := ⟨rfl, rfl, rfl, by decide +kernel, rfl, by decide +kernel, by decide +kernel⟩
def sp_law (K : PySem.W.Frag) : Sp := fun vs H Q _ => ∃ a, ∃ ns : List Int, vs = [.ref a] ∧ SqL K H a (ns.map V.int) ∧ ns.length ≤ 63 ∧ ∀ H', Q (.bl true) H'
theorem ok_law {f fP fD fG fA fY fU fH fV : Addr} {fd fdP fdD fdG fdA fdY fdU fdH fdV fdr fds : FuncData} (F : Fun K "law" "law" s_law f fd) (T : ClsT K mg C fI mc p g) (TU : ClsU K mg U fT) (UN : ClsUN K U mI mU mD mC' mW mO mS fL fC)
    (TF : Fi.ClsF K mg D fF) (CF : Fi.ClsG K D md pw pm pa pn gw gm ga gn hA hO hV hC) (RF : Fi.ClsH P w K mg base R D gw gm ga gn hA hO hV hC) (g_CF : mg "Filter" = some (.ref D))
    (F_pen : Fun K "_law_pen" "_law_pen" s_pen fP fdP) (B_pen : Binds K fdP ["_law_script"] []) (g_pen : mg "_law_pen" = some (.ref fP)) (G_pen : FnOk P w K mg base CX0 1 fP fdP ["_law_script"] (sp_pen K))
    (F_draw : Fun K "_law_draw" "_law_draw" s_draw fD fdD) (B_draw : Binds K fdD ["_law_pen_here", "_law_many"] []) (g_draw : mg "_law_draw" = some (.ref fD)) (G_draw : FnOk P w K mg base CX0 1 fD fdD ["_law_pen_here", "_law_many"] sp_draw)
    (F_grown : Fun K "_law_grown" "_law_grown" Fi.s_grown fG fdG) (B_grown : Binds K fdG ["_law_pen_here", "_law_keyed", "_law_left", "_law_deep"] []) (g_grown : mg "_law_grown" = some (.ref fG)) (G_grown : FnOk P w K mg base CX0 13 fG fdG ["_law_pen_here", "_law_keyed", "_law_left", "_law_deep"] (Fi.sp_grown D 5))
    (F_numbered : Fun K "_law_numbered" "_law_numbered" Fi.s_numbered fA fdA) (B_numbered : Binds K fdA ["_law_tree", "_law_values"] []) (g_numbered : mg "_law_numbered" = some (.ref fA)) (G_numbered : FnOk P w K mg base CX0 21 fA fdA ["_law_tree", "_law_values"] (Fi.sp_numbered 20))
    (F_row : Fun K "_law_row" "_law_row" s_row fY fdY) (B_row : Binds K fdY ["_law_pen_here", "_law_columns"] []) (g_row : mg "_law_row" = some (.ref fY)) (G_row : FnOk P w K mg base CX0 2 fY fdY ["_law_pen_here", "_law_columns"] sp_row)
    (F_Lboth : Fun K "_law_both" "_law_both" s_Lboth fU fdU) (B_Lboth : Binds K fdU ["_law_one", "_law_other"] []) (g_Lboth : mg "_law_both" = some (.ref fU)) (G_Lboth : FnOk P w K mg base CX0 4 fU fdU ["_law_one", "_law_other"] (sp_both U C D))
    (F_call : Fun K "_law_call" "_law_call" s_call fH fdH) (B_call : Binds K fdH ["_law_truth", "_law_word", "_law_thing"] []) (g_call : mg "_law_call" = some (.ref fH)) (G_call : FnOk P w K mg base CX0 27 fH fdH ["_law_truth", "_law_word", "_law_thing"] (sp_call U C D))
    (FI1 : FnK P w K mg base (L2.CX P w) 3 fI ["key"] (mK1 K C CI e3 e4)) (he3 : ∀ H, TuS K H e3 []) (he4 : ∀ H, TuS K H e4 [])
    (RUI : FnR P w K mg base CX0 1 fT (spU U)) (UPr : PropOf K U "rows" pR gR) (UPs : PropOf K U "stamp" pS gS) (G_rows : FnOk P w K mg base CX0 2 gR fdr ["self"] (sp_urows U C D)) (B_rows : Binds K fdr ["self"] []) (G_stamp : FnOk P w K mg base CX0 1 gS fds ["self"] (sp_ustamp U C D)) (B_stamp : Binds K fds ["self"] [])
    (RU_len : FnR P w K mg base CX0 1 fL (fun vs H Q E => sp_ulen U C D (vs ++ []) H Q E)) (RU_contains : FnR P w K mg base CX0 4 fC (mCon K U C D))
    (z_range : mg "range" = none) (z_len : mg "len" = none) (z_dict : mg "dict" = none) (z_zip : mg "zip" = none) : FnOk P w K mg base CX0 28 f fd ["_law_script"] (sp_law K) := by
  have g_C := T.g_C
  have RF_always := RF.always
  have RF_never := RF.never
  have RF_and := RF.and
  have RF_inv := RF.inv
  refine F.ok sc_law (fun vs H Q E h => ?_) (fun cdv A outer s H vs Q E hr h => ?_)
  · obtain ⟨a, ns, rfl, _⟩ := h
    rfl
  · obtain ⟨a, ns, rfl, ha, hn, q⟩ := h
    refine ⟨_, (pss_cons (ps_set (i := 1) sc_law.nd rfl (Or.inl rfl) (pe_call G_pen (hr.mono (by decide)) rfl g_pen F_pen.kp B_pen .nil pass0 (pa_cons (pv 0) pa_nil)))
 (pss_cons (ps_for PassesOwn.never rfl (pi_range1 (by rfl) z_range (pa_cons pe_int pa_nil)) (pg_name (i := 2) sc_law.nd rfl (Or.inl rfl))
 (C8.pss_cut (ps_set (i := 3) sc_law.nd rfl (Or.inl rfl) (pe_ix ix_list (pe_lst (pa_cons (pe_lst (pa_cons pe_str pa_nil)) (pa_cons (pe_lst (pa_cons pe_str (pa_cons pe_str pa_nil))) pa_nil))) (pe_call G_draw (hr.mono (by decide)) rfl g_draw F_draw.kp B_draw .nil pass0 (pa_cons (pv 1) (pa_cons pe_int pa_nil))) (fun _ _ => rfl)))
 (pss_cons (ps_set (i := 4) sc_law.nd rfl (Or.inl rfl) (pe_op op_cat (pv 3) (pe_lst (pa_cons pe_str pa_nil))))
 (C8.pss_cut (ps_set (i := 5) sc_law.nd rfl (Or.inl rfl) (pe_ifExp (pt_cmpR op_eq (pe_callB call_len_seq (by rfl) z_len PySem.boot_len (pa_cons (pv 3) pa_nil)) pe_int (nomark _)) (pe_makePK T.M FI1 (hr.mono (by decide)) rfl T.g_C passF (pa_cons pe_str (pa_cons pe_str pa_nil)) (pk_cons (pe_tup (pa_cons pe_str pa_nil)) pk_nil)) (pe_makePK T.M FI1 (hr.mono (by decide)) rfl T.g_C passF (pa_cons pe_str (pa_cons pe_str (pa_cons pe_str pa_nil))) (pk_cons (pe_tup (pa_cons pe_str (pa_cons pe_str pa_nil))) pk_nil))))
 (pss_cons (ps_asg (pe_call G_grown (hr.mono (by decide)) rfl g_grown F_grown.kp B_grown .nil pass0 (pa_cons (pv 1) (pa_cons (pv 3) (pa_cons (pe_op op_add pe_int (pe_call G_draw (hr.mono (by decide)) rfl g_draw F_draw.kp B_draw .nil pass0 (pa_cons (pv 1) (pa_cons pe_int pa_nil)))) (pa_cons pe_int pa_nil))))) (pg_tup (by rfl) (pgs_cons (pg_name (i := 6) sc_law.nd rfl (Or.inl rfl)) (pgs_cons (pg_name (i := 7) sc_law.nd rfl (Or.inl rfl)) pgs_nil))))
 (pss_cons (ps_set (i := 8) sc_law.nd rfl (Or.inl rfl) (pe_tup (pa_cons (pe_fld (pv 6) rfl) (pa_cons (pe_fld (pv 6) rfl) pa_nil))))
 (pss_cons (ps_par3 (i := 9) (j := 10) (l := 11) (by rfl) sc_law.nd rfl rfl rfl (by decide) (by decide) (by decide) rfl rfl rfl (pa_cons (StX.pe_makeR TU.M RUI (hr.mono (by decide)) rfl TU.g_U pass0 (pa_cons (pv 5) (pa_cons (pv 6) pa_nil))) (pa_cons (StX.pe_makeR TU.M RUI (hr.mono (by decide)) rfl TU.g_U pass0 (pa_cons (pv 5) (pa_cons (pe_un (un_own RF_inv (hr.mono (by decide)) CF.invF CF.invI) (pv 6)) pa_nil))) (pa_cons (StX.pe_makeR TU.M RUI (hr.mono (by decide)) rfl TU.g_U pass0 (pa_cons (pv 5) (pa_cons (pe_cmeth0 (pe_glob rfl g_CF (relR _)) CF.rd CF.always RF_always (hr.mono (by decide)) pass0) pa_nil))) pa_nil))) (by rfl))
 (pss_cons (ps_if (pt_cmpR (op_neD hr.units) (pe_ix ix_tup (pe_fld (pe_op (op_own (op := .BitAnd) RF_and (hr.mono (by decide)) CF.self CF.andF CF.andI) (pv 6) (pe_cmeth0 (pe_glob rfl g_CF (relR _)) CF.rd CF.never RF_never (hr.mono (by decide)) pass0)) rfl) pe_int (fun _ _ => rfl)) (pv 7) (nomark _))
 (pss_one (ps_ret pe_bl))
 pss_nil)
 (pss_cons (ps_for PassesOwn.never rfl (pi_range1 (by rfl) z_range (pa_cons pe_int pa_nil)) (pg_name (i := 12) sc_law.nd rfl (Or.inl rfl))
 (pss_cons (ps_set (i := 13) sc_law.nd rfl (Or.inl rfl) (pe_call G_row (hr.mono (by decide)) rfl g_row F_row.kp B_row .nil pass0 (pa_cons (pv 1) (pa_cons (pv 4) pa_nil))))
 (pss_cons (ps_set (i := 14) sc_law.nd rfl (Or.inl rfl) (pe_slice sl_tup (pv 13) po_none (po_some (pe_un un_neg pe_int))))
 (pss_cons (ps_set (i := 15) sc_law.nd rfl (Or.inl rfl) (pe_cmpR op_eq (pe_call G_numbered (hr.mono (by decide)) rfl g_numbered F_numbered.kp B_numbered .nil pass0 (pa_cons (pv 7) (pa_cons (pe_dictZL rfl (by rfl) z_dict (by rfl) z_zip (pa_cons (pv 4) (pa_cons (pv 13) pa_nil))) pa_nil))) pe_int (nomark _)))
 (pss_cons (ps_set (i := 16) sc_law.nd rfl (Or.inl rfl) (pe_ix ix_list (pe_lst (pa_cons pe_str (pa_cons pe_str (pa_cons pe_str pa_nil)))) (pe_call G_draw (hr.mono (by decide)) rfl g_draw F_draw.kp B_draw .nil pass0 (pa_cons (pv 1) (pa_cons pe_int pa_nil))) (fun _ _ => rfl)))
 (C8.pss_cut (ps_if (PW.pt (pw_and (pt_cmpR op_ne (pv 16) pe_str (nomark _)) (pw_and (pt_cmpR op_gt (pe_callB (call_lenO RU_len (hr.mono (by decide)) UN.leF UN.leI) (by rfl) z_len PySem.boot_len (pa_cons (pv 11) pa_nil)) pe_int (nomark _)) (pw_and1 (pt_cmpR op_gt (pe_call G_draw (hr.mono (by decide)) rfl g_draw F_draw.kp B_draw .nil pass0 (pa_cons (pv 1) (pa_cons pe_int pa_nil))) pe_int (nomark _))))))
 (pss_cons (ps_set (i := 17) sc_law.nd rfl (Or.inl rfl) (pe_ix ix_tup (pe_prop (pv 11) TU.cl UPr G_rows (hr.mono (by decide)) B_rows .nil pass0 rfl) (pe_call G_draw (hr.mono (by decide)) rfl g_draw F_draw.kp B_draw .nil pass0 (pa_cons (pv 1) (pa_cons (pe_callB (call_lenO RU_len (hr.mono (by decide)) UN.leF UN.leI) (by rfl) z_len PySem.boot_len (pa_cons (pv 11) pa_nil)) pa_nil))) (fun _ _ => rfl)))
 (pss_cons (ps_set (i := 14) sc_law.nd rfl (Or.inl rfl) (pe_slice sl_tup (pv 17) po_none (po_some (pe_un un_neg pe_int))))
 (pss_cons (ps_set (i := 13) sc_law.nd rfl (Or.inl rfl) (pe_op op_catA (pv 14) (pe_tup (pa_cons (pe_ix ix_tup (pv 13) (pe_un un_neg pe_int) (fun _ _ => rfl)) pa_nil))))
 (pss_one (ps_set (i := 15) sc_law.nd rfl (Or.inl rfl) (pe_cmpR op_eq (pe_call G_numbered (hr.mono (by decide)) rfl g_numbered F_numbered.kp B_numbered .nil pass0 (pa_cons (pv 7) (pa_cons (pe_dictZL rfl (by rfl) z_dict (by rfl) z_zip (pa_cons (pv 4) (pa_cons (pv 17) pa_nil))) pa_nil))) pe_int (nomark _)))))))
 pss_nil)
 (pss_cons (ps_set (i := 18) sc_law.nd rfl (Or.inl rfl) (pe_ifExp (pt_cmpR op_eq (pv 16) pe_str (nomark _)) (pv 14) (pv 13)))
 (C8.pss_cut (ps_asg (pe_ifExp (pt_val (pv 15)) (pe_tup (pa_cons (pv 9) (pa_cons (pv 10) pa_nil))) (pe_tup (pa_cons (pv 10) (pa_cons (pv 9) pa_nil)))) (pg_tup (by rfl) (pgs_cons (pg_name (i := 19) sc_law.nd rfl (Or.inl rfl)) (pgs_cons (pg_name (i := 20) sc_law.nd rfl (Or.inl rfl)) pgs_nil))))
 (pss_cons (ps_set (i := 21) sc_law.nd rfl (Or.inl rfl) (pe_tup (pa_cons (pe_prop (pv 20) TU.cl UPr G_rows (hr.mono (by decide)) B_rows .nil pass0 rfl) (pa_cons (pe_prop (pv 20) TU.cl UPs G_stamp (hr.mono (by decide)) B_stamp .nil pass0 rfl) pa_nil))))
 (pss_cons (ps_set (i := 22) sc_law.nd rfl (Or.inl rfl) (pe_call G_call (hr.mono (by decide)) rfl g_call F_call.kp B_call .nil pass0 (pa_cons (pv 19) (pa_cons (pv 16) (pa_cons (pv 18) pa_nil)))))
 (C8.pss_cut (ps_if (PW.pt (pw_or (pt_cmpR (op_neD hr.units) (pv 22) (pe_call G_call (hr.mono (by decide)) rfl g_call F_call.kp B_call .nil pass0 (pa_cons (pv 11) (pa_cons (pv 16) (pa_cons (pv 18) pa_nil)))) (nomark _)) (pw_or1 (pt_cmpR (op_eqD hr.units) (pv 22) (pe_tup (pa_cons pe_str (pa_cons pe_str pa_nil))) (nomark _)))))
 (pss_one (ps_ret pe_bl))
 pss_nil)
 (pss_cons (ps_if (PW.pt (pw_or (pt_cmpR (op_neD hr.units) (pe_call G_call (hr.mono (by decide)) rfl g_call F_call.kp B_call .nil pass0 (pa_cons (pv 20) (pa_cons (pv 16) (pa_cons (pv 18) pa_nil)))) (pe_tup (pa_cons pe_str (pa_cons pe_str pa_nil))) (nomark _)) (pw_or1 (pt_cmpR (op_neD hr.units) (pe_tup (pa_cons (pe_prop (pv 20) TU.cl UPr G_rows (hr.mono (by decide)) B_rows .nil pass0 rfl) (pa_cons (pe_prop (pv 20) TU.cl UPs G_stamp (hr.mono (by decide)) B_stamp .nil pass0 rfl) pa_nil))) (pv 21) (nomark _)))))
 (pss_one (ps_ret pe_bl))
 pss_nil)
 (pss_cons (ps_if (PW.pt (pw_or (pt_cmpR (op_neD hr.units) (pe_call G_Lboth (hr.mono (by decide)) rfl g_Lboth F_Lboth.kp B_Lboth .nil pass0 (pa_cons (pv 9) (pa_cons (pv 10) pa_nil))) (pe_prop (pv 11) TU.cl UPr G_rows (hr.mono (by decide)) B_rows .nil pass0 rfl) (nomark _)) (pw_or1 (pt_cmpR op_ne (pe_op op_add (pe_prop (pv 9) TU.cl UPs G_stamp (hr.mono (by decide)) B_stamp .nil pass0 rfl) (pe_prop (pv 10) TU.cl UPs G_stamp (hr.mono (by decide)) B_stamp .nil pass0 rfl)) (pe_prop (pv 11) TU.cl UPs G_stamp (hr.mono (by decide)) B_stamp .nil pass0 rfl) (nomark _)))))
 (pss_one (ps_ret pe_bl))
 pss_nil)
 (pss_one (ps_if (PW.pt (pw_or (pt_cmpR op_ne (pe_op op_add (pe_callB (call_lenO RU_len (hr.mono (by decide)) UN.leF UN.leI) (by rfl) z_len PySem.boot_len (pa_cons (pv 9) pa_nil)) (pe_callB (call_lenO RU_len (hr.mono (by decide)) UN.leF UN.leI) (by rfl) z_len PySem.boot_len (pa_cons (pv 10) pa_nil))) (pe_callB (call_lenO RU_len (hr.mono (by decide)) UN.leF UN.leI) (by rfl) z_len PySem.boot_len (pa_cons (pv 11) pa_nil)) (nomark _)) (pw_or (pt_cmpR op_ne (pe_cmpR (op_inO RU_contains (hr.mono (by decide)) UN.inF UN.inI) (pv 14) (pv 19) (by rfl)) (pe_cmpR (op_inO RU_contains (hr.mono (by decide)) UN.inF UN.inI) (pv 14) (pv 11) (by rfl)) (nomark _)) (pw_or1 (pt_cmpR (op_inO RU_contains (hr.mono (by decide)) UN.inF UN.inI) (pv 14) (pv 20) (by rfl))))))
 (pss_one (ps_ret pe_bl))
 pss_nil)))))))))))))))
 (pss_one (ps_if (pt_cmpR (op_neD hr.units) (pe_tup (pa_cons (pe_fld (pv 6) rfl) (pa_cons (pe_fld (pv 6) rfl) pa_nil))) (pv 8) (nomark _))
 (pss_one (ps_ret pe_bl))
 pss_nil)))))))))))
 (pss_one (ps_ret pe_bl)))), ?_⟩
    walk_at "rd"
    refine ⟨a, ns, rfl, ha, hn, fun p L H1 s1 hp => ?_⟩
    walk_at "rd"
    refine ⟨by decide, by decide, for_range (lo := 0) (n := 3) (TInv a p L) ⟨_, _, _, _, _, _, _, _, _, _, _, _, _, _, _, _, _, _, _, _, _, rfl, hp.mono (by omega)⟩ ?_ ?_⟩
    · rintro i σ H2 hi ⟨x2, x3, x4, x5, x6, x7, x8, x9, x10, x11, x12, x13, x14, x15, x16, x17, x18, x19, x20, x21, x22, rfl, p2⟩
      walk_at "rd"
      refine ⟨fun σ' H' => ∃ lk ks, (ks = [("k" : Str)] ∨ ks = [("a" : Str), "key"]) ∧ σ' = [some (.ref a), some (.ref p), some (.int (0 + (i : Int))), some (.ref lk), x4, x5, x6, x7, x8, x9, x10, x11, x12, x13, x14, x15, x16, x17, x18, x19, x20, x21, x22] ∧ Pen H' p L (500 * i + 1) ∧ H' lk = some (.lst (ks.map V.str)), ?_, ?_⟩
      · walk_at "rd"
        refine ⟨size_of (Nat.le_of_ble_eq_true rfl), fun l1 hl1 => ?_⟩
        obtain ⟨H3, e3', s3, h3⟩ := new_heap (o := .lst [.str "k"]) hl1
        rw [e3']
        walk_at "rd"
        refine ⟨size_of (Nat.le_of_ble_eq_true rfl), fun l2 hl2 => ?_⟩
        obtain ⟨H4, e4', s4, h4⟩ := new_heap (o := .lst [.str "a", .str "key"]) hl2
        rw [e4']
        walk_at "rd"
        refine ⟨size_of (Nat.le_of_ble_eq_true rfl), fun l3 hl3 => ?_⟩
        obtain ⟨H5, e5', s5, h5⟩ := new_heap (o := .lst [.ref l1, .ref l2]) hl3
        rw [e5']
        walk_at "rd"
        refine ⟨p, L, _, 2, rfl, ((p2.up s3).up s4).up s5, by omega, by decide, by decide, fun d H6 g0 g1 k6 p6 => ?_⟩
        have h65 := k6 _ _ rfl h5
        have cc : d = 0 ∨ d = 1 := by omega
        rcases cc with rfl | rfl
        · refine i_ixL h65 rfl ?_
          walk_at "rd"
          exact ⟨l1, _, .inl rfl, rfl, p6, k6 _ _ rfl (s5 _ _ (s4 _ _ h3))⟩
        · refine i_ixL h65 rfl ?_
          walk_at "rd"
          exact ⟨l2, _, .inr rfl, rfl, p6, k6 _ _ rfl (s5 _ _ h4)⟩
      · clear p2
        rintro σ' H3 ⟨lk, ks, kc, rfl, p3, h3⟩
        walk_at "rd"
        refine ⟨size_of (Nat.le_of_ble_eq_true rfl), fun lr hlr => ?_⟩
        obtain ⟨H4, e4', s4, h4⟩ := new_heap (o := .lst [.str "r"]) hlr
        rw [e4']
        have kl2 : ks.length ≤ 2 := by rcases kc with rfl | rfl <;> decide
        refine ⟨lk, lr, _, _, rfl, rfl, s4 _ _ h3, h4, size_of (by rw [List.length_map]; show ks.length + 1 ≤ 100000; omega), fun lc hlc => ?_⟩
        obtain ⟨H5, e5', s5, h5⟩ := new_heap (o := .lst ((ks ++ [("r" : Str)]).map V.str)) hlc
        rw [show ks.map V.str ++ [V.str "r"] = (ks ++ [("r" : Str)]).map V.str from by rw [List.map_append]; rfl, e5']
        have s35 : Same H3 H5 := fun b o e => s5 _ _ (s4 _ _ e)
        have p5 := p3.up s35
        have hk5 := s35 _ _ h3
        clear p3 h3 h4 s4 s5 s35 hlr hlc e4' e5'
        walk_at "rd"
        refine ⟨fun σ' H' => ∃ tx, σ' = [some (.ref a), some (.ref p), some (.int (0 + (i : Int))), some (.ref lk), some (.ref lc), some (.ref tx), x6, x7, x8, x9, x10, x11, x12, x13, x14, x15, x16, x17, x18, x19, x20, x21, x22] ∧ Same H5 H' ∧ Tab C H' tx (tabK ks), ?_, ?_⟩
        · walk_at "rd"
          rcases kc with rfl | rfl
          · rw [decide_eq_true (show V.int ((([("k" : Str)].map V.str).length : Nat) : Int) = V.int 1 from rfl)]
            refine iteT ?_
            refine i_mkpk ?_
            walk_at "rd"
            refine ⟨size_of (Nat.le_of_ble_eq_true rfl), fun t4 ht4 => ?_⟩
            obtain ⟨H6, e6, s6, h6⟩ := new_heap (o := .tup [.str "k"]) ht4
            rw [e6]
            walk_at "rd"
            refine ⟨rfl, fun x dx n1 n2 n3 => mk_tabR (js := [true, true]) (tk := t4) (tf := e3) (tu := e4) (r := true) (ks := ["k"]) (fs := []) (us := []) ⟨by decide, nms_of (cs := ["k", "r"]) (by decide +kernel), TuS.of h6, he3 _, he4 _, by decide, by decide, by decide⟩ (due_fine (cs := ["k", "r"]) (by decide) (by decide) (by decide) (by decide) (by decide) (by decide) (by decide)) n1 n2 n3 fun cs exs H7 s7 tb => ?_⟩
            have ecs : ([("k" : Str), "r"] : List Str) = cs := (List.map_inj_right (f := V.str) (fun a b z => V.str.inj z)).mp exs
            subst ecs
            walk_at "rd"
            exact ⟨x, rfl, fun b o e => s7 _ _ (s6 _ _ e), tb⟩
          · rw [decide_eq_false (show ¬ V.int ((([("a" : Str), "key"].map V.str).length : Nat) : Int) = V.int 1 from fun e => absurd (V.int.inj e) (by decide))]
            refine iteF ?_
            refine i_mkpk ?_
            walk_at "rd"
            refine ⟨size_of (Nat.le_of_ble_eq_true rfl), fun t4 ht4 => ?_⟩
            obtain ⟨H6, e6, s6, h6⟩ := new_heap (o := .tup [.str "key", .str "a"]) ht4
            rw [e6]
            walk_at "rd"
            refine ⟨rfl, fun x dx n1 n2 n3 => mk_tabR (js := [true, true, true]) (tk := t4) (tf := e3) (tu := e4) (r := true) (ks := ["key", "a"]) (fs := []) (us := []) ⟨by decide, nms_of (cs := ["a", "key", "r"]) (by decide +kernel), TuS.of h6, he3 _, he4 _, by decide, by decide, by decide⟩ (due_fine (cs := ["a", "key", "r"]) (by decide) (by decide) (by decide) (by decide) (by decide) (by decide) (by decide)) n1 n2 n3 fun cs exs H7 s7 tb => ?_⟩
            have ecs : ([("a" : Str), "key", "r"] : List Str) = cs := (List.map_inj_right (f := V.str) (fun a b z => V.str.inj z)).mp exs
            subst ecs
            walk_at "rd"
            exact ⟨x, rfl, fun b o e => s7 _ _ (s6 _ _ e), tb⟩
        · rintro σ' H6 ⟨tx, rfl, s6, tb6⟩
          have p6 := p5.up s6
          have hk6 := s6 _ _ hk5
          have hc6 := s6 _ _ h5
          clear p5 hk5 h5 s6
          walk_at "rd"
          refine ⟨p, L, _, 8, rfl, p6, by omega, by decide, by decide, fun d H7 g0 g1 k7 p7 => ?_⟩
          obtain ⟨dn, rfl⟩ : ∃ dn : Nat, d = (dn : Int) := ⟨d.toNat, by omega⟩
          have hk7 := k7 _ _ (penny_strs ks) hk6
          have hc7 := k7 _ _ (penny_strs _) hc6
          have tb7 := tb6.keep k7
          clear k7 p6 hk6 hc6 tb6
          walk_at "rd"
          rw [show (1 : Int) + (dn : Int) = ((1 + dn : Nat) : Int) from by omega]
          have k01 : 1 ≤ ks.length := by rcases kc with rfl | rfl <;> decide
          refine ⟨p, L, _, lk, ks, 1 + dn, 5, rfl, p7, hk7, k01, by omega, by omega, by omega, by decide, by decide, by omega, fun TT H8 fr tv r k8 p8 hTT fil tra many deep few on => ?_⟩
          have hc8 := k8 _ _ (penny_strs _) hc7
          have tb8 := tb7.keep k8
          clear k8 p7 hk7 hc7 tb7
          refine i_gtup hTT rfl (i_gcons ?_)
          walk_at "rd"
          obtain ⟨df, fv, qf, cf, hfx, htr, hq0, cok⟩ := id fil
          refine ⟨_, rfl, fr, D, df, _, _, rfl, hfx, TF.cl, TF.nT, Fi.lk_tree, ?_⟩
          walk_at "rd"
          refine ⟨_, rfl, fr, D, df, _, _, rfl, hfx, TF.cl, TF.nC, Fi.lk_columns, ?_⟩
          walk_at "rd"
          refine ⟨size_of (Nat.le_of_ble_eq_true rfl), fun kp hkp => ?_⟩
          obtain ⟨H9, e9, s9, h9⟩ := new_heap (o := .tup [fv, .ref qf]) hkp
          rw [e9]
          have tb9 := tb8.up s9
          have fil9 := fil.up s9
          have hc9 := s9 _ _ hc8
          have p9 := p8.up s9
          have rck : ∀ c, c ∈ r.cols → c ∈ ks := on
          have tok : TbOk (tabK ks) := ⟨by show (ks ++ [("r" : Str)]).length ≤ 4; rw [List.length_append]; show ks.length + 1 ≤ 4; omega, kl2, fun e => by rw [show ks = [] from e] at k01; exact absurd k01 (by decide), fun c hc => List.mem_append_left _ hc, by rcases kc with rfl | rfl <;> decide, by rcases kc with rfl | rfl <;> decide⟩
          walk_at "rd"
          unfold tPar3
          unfold StX.tMakeR
          walk_at "rd"
          intro x1 dx1 hx1 hdx1 hne1
          refine mk_truR hx1 hdx1 hne1 tb9 fil9 tok rck (by omega) fun k1 o1 s1' H10 s10 hx0 hk0 ho0 hs0 xk1 xo1 xs1 tr1 => ?_
          walk_at "rd"
          have fil10 := fil9.up s10
          have tb10 := tb9.up s10
          refine Fi.i_fU fil10 ⟨fr, r, rfl, fil10, fun fo H11 s11 filo => ?_⟩
          walk_at "rd"
          intro x2' dx2 hx2 hdx2 hne2
          refine mk_truR hx2 hdx2 hne2 (tb10.up s11) filo tok rck (by show r.deep + 1 ≤ 20; omega) fun k2 o2 s2' H12 s12 hx02 hk02 ho02 hs02 xk2 xo2 xs2 tr2 => ?_
          walk_at "rd"
          refine ⟨rfl, fun fw H13 s13 filw => ?_⟩
          walk_at "rd"
          intro x3' dx3 hx3 hdx3 hne3
          have s1013 : Same H10 H13 := fun b o e => s13 _ _ (s12 _ _ (s11 _ _ e))
          refine mk_truR hx3 hdx3 hne3 (tb10.up s1013) filw tok (fun c hc => absurd hc List.not_mem_nil) (by decide) fun k3 o3 s3' H14 s14 hx03 hk03 ho03 hs03 xk3 xo3 xs3 tr3 => ?_
          have s914 : Same H9 H14 := fun b o e => s14 _ _ (s1013 _ _ (s10 _ _ e))
          refine ⟨_, _, _, rfl, ?_⟩
          have ti := TOk.new tr1
          have to := TOk.new tr2
          have tw := TOk.new tr3
          have aio := awayNew (b := ⟨x2', k2, o2, s2', ⟨tabK ks, .no r, [], [], [], 0⟩, []⟩) (ti.up s11) hx02 hk02 ho02 hs02
          have aiw := awayNew (b := ⟨x3', k3, o3, s3', ⟨tabK ks, .al, [], [], [], 0⟩, []⟩) (ti.up s1013) hx03 hk03 ho03 hs03
          have aow := awayNew (b := ⟨x3', k3, o3, s3', ⟨tabK ks, .al, [], [], [], 0⟩, []⟩) (to.up s13) hx03 hk03 ho03 hs03
          have tri : Tri U C D H14 ks r _ _ _ (fun ns => ns) 0 := ⟨tok.k0, kl2, rck, (ti.up s1013).up s14, (to.up s13).up s14, tw, ⟨fun ns _ => by
            show none = if isIn r ks ns = true then none else none
            split <;> rfl, fun _ _ _ => rfl, fun _ _ _ => rfl⟩, fun _ h => absurd h List.not_mem_nil, fun _ h => absurd h List.not_mem_nil, rfl, aio.1, aio.2, aiw.1, aiw.2, aow.1, aow.2, Nat.le_refl _, Nat.le_refl _, Nat.le_refl _, Nat.le_refl _, Nat.le_refl _, Nat.le_refl _⟩
          have fil14 := fil9.up s914
          have tra14 := (tra.up s9).up s914
          have hc14 := s914 _ _ hc9
          have p14 := p9.up s914
          have kp14 := s914 _ _ h9
          have hfx14 := s914 _ _ (s9 _ _ hfx)
          have hq14 := s914 _ _ (s9 _ _ hq0)
          have htr14 := (htr.up s9).up s914
          clear aio aiw aow ti to tw tr1 tr2 tr3 s914 s14 s1013 s13 s12 s11 s10 filw filo tb10 fil10 fil9 tb9 hc9 p9 h9 hx1 hdx1 hne1 hx0 hk0 ho0 hs0 xk1 xo1 xs1 hx2 hdx2 hne2 hx02 hk02 ho02 hs02 xk2 xo2 xs2 hx3 hdx3 hne3 hx03 hk03 ho03 hs03 xk3 xo3 xs3 hfx htr hq0 tra fil hTT tb8 hc8 p8 s9 e9 hkp
          walk_at "rd"
          unfold tFld
          walk_at "rd"
          refine ⟨rfl, fun fn H15 s15 filn => ?_⟩
          have fil15 := fil14.up s15
          refine Fi.i_fB fil15 filn ⟨fr, fn, r, .ne, rfl, fil15, filn, by show r.many + 1 < 64; omega, fun fz H16 s16 filz => ?_⟩
          obtain ⟨dz, zv, qz, cz, hz, htz, _, _⟩ := filz
          obtain ⟨az, vx, vy, rfl, haz, htx, _⟩ := htz
          refine ⟨fz, D, dz, _, _, rfl, hz, TF.cl, TF.nT, Fi.lk_tree, ?_⟩
          walk_at "rd"
          have s1416 : Same H14 H16 := fun b o e => s16 _ _ (s15 _ _ e)
          have txr : Fi.TxsOk r.cols := fun c hc => by
            have m := rck c hc
            rcases kc with rfl | rfl
            · rw [List.mem_singleton.mp m]
              decide +kernel
            · simp only [List.mem_cons, List.not_mem_nil, or_false] at m
              rcases m with rfl | rfl <;> decide +kernel
          have shr := Fi.shapedTr txr (by omega)
          have rfr := SeqAt.eqv_refl (Fi.treeD r) (Fi.layTr r txr)
          refine ⟨Fi.treeD r, Fi.treeD r, Fi.dpTr htx, Fi.dpTr (tra14.up s1416), shr, shr, ?_⟩
          rw [rfr]
          refine ⟨_, rfl, iteF ?_⟩
          have fil16 := fil14.up s1416
          have tra16 := tra14.up s1416
          have hc16 := s1416 _ _ hc14
          have p16 := p14.up s1416
          have kp16 := s1416 _ _ kp14
          have hfx16 := s1416 _ _ hfx14
          have hq16 := s1416 _ _ hq14
          have htr16 := htr14.up s1416
          have tri16 := tri.up s1416
          clear tri fil14 tra14 hc14 p14 kp14 hfx14 hq14 htr14 s1416 s16 s15 filn fil15 hz haz htx
          walk_at "rd"
          refine ⟨by decide, by decide, for_range (lo := 0) (n := 20) (fun j σ H' => ∃ ti to tw g, ∃ y12 y13 y14 y15 y16 y17 y18 y19 y20 y21 y22 : Option V, ∃ ei : ti.x = x1, ∃ eo : to.x = x2', ∃ ew : tw.x = x3', σ = [some (.ref a), some (.ref p), some (.int (0 + (i : Int))), some (.ref lk), some (.ref lc), some (.ref tx), some (.ref fr), some tv, some (.ref kp), some (.ref x1), some (.ref x2'), some (.ref x3'), y12, y13, y14, y15, y16, y17, y18, y19, y20, y21, y22] ∧
            Scene U C D H' p L lc kp fr df qf ks r fv tv cf ti to tw g (500 * i + 70 + 20 * j) j) ?_ ?_ ?_⟩
          · exact ⟨_, _, _, _, _, _, _, _, _, _, _, _, _, _, _, rfl, rfl, rfl, rfl, ⟨p16.mono (by omega), hc16, kp16, hfx16, hq16, htr16, tra16, tri16⟩⟩
          · clear tri16 hc16 kp16 hfx16 hq16 htr16 tra16 p16 fil16
            rintro j σ H17 hj ⟨ti, to, tw, g, y12, y13, y14, y15, y16, y17, y18, y19, y20, y21, y22, rfl, rfl, rfl, rfl, sc17⟩
            walk_at "rd"
            have cl3 : (ks ++ [("r" : Str)]).length = ks.length + 1 := by rw [List.length_append]; rfl
            refine ⟨p, L, _, lc, _, rfl, sc17.pen, by omega, sc17.hc, by omega, fun t H18 us k18 p18 h18 ul tn => ?_⟩
            have sc18 := sc17.keep k18 p18
            clear sc17 k18 p18
            obtain ⟨ns, v, rfl⟩ : ∃ ns v, us = ns ++ [v] := ⟨us.dropLast, us.getLast (fun e => by rw [e, cl3] at ul; simp at ul), (List.dropLast_concat_getLast _).symm⟩
            have nl : ns.length = ks.length := by
              rw [cl3, List.length_append] at ul
              simp at ul
              exact ul
            walk_at "rd"
            refine i_sl ?_
            walk_at "rd"
            refine i_noPart (i_part ?_)
            walk_at "rd"
            refine ⟨_, rfl, slice_last h18 fun b hb => ?_⟩
            obtain ⟨H19, e19, s19, h19⟩ := new_heap (o := .tup (ns.map V.int)) hb
            rw [e19]
            have sc19 := sc18.up s19
            have ht19 := s19 _ _ h18
            clear sc18 h18 s19 e19 hb
            walk_at "rd"
            have csn : (ks ++ [("r" : Str)]).Nodup := by rcases kc with rfl | rfl <;> decide
            have zl : ∀ (ms : List Int) (x : Int), ms.length = ks.length → (ks ++ [("r" : Str)]).length = (ms ++ [x]).length := fun ms x e => by rw [List.length_append, List.length_append, e]; rfl
            unfold tDictZL
            walk_at "rd"
            refine ⟨lc, t, _, _, rfl, SqL.of sc19.hc, SqT.of ht19, by rw [List.length_map]; exact zl ns v nl, fun m hm => ?_⟩
            obtain ⟨H20, e20, s20, h20⟩ := new_heap (o := .dK (mergeK [] (((ks ++ [("r" : Str)]).map (Sum.inr : Str → Key)).zip ((ns ++ [v]).map V.int)))) hm
            rw [e20]
            walk_at "rd"
            have va := vals_key h20 csn (zl ns v nl)
            refine ⟨r, tv, m, rhoK (ks ++ [("r" : Str)]) (ns ++ [v]), rfl, sc19.tra.up s20, by omega, va.sub fun c hc => List.mem_append_left _ (rck c hc), fun H21 s21 => ?_⟩
            have s1921 : Same H19 H21 := fun b o e => s21 _ _ (s20 _ _ e)
            have sc21 := sc19.up s1921
            have ht21 := s1921 _ _ ht19
            have hb21 := s1921 _ _ h19
            clear sc19 ht19 h19 s1921 s21 va s20 h20 e20 hm
            walk_at "rd"
            rw [isIn_dec rck nl.symm]
            refine ⟨size_of (Nat.le_of_ble_eq_true rfl), fun wl hwl => ?_⟩
            obtain ⟨H22, e22, s22, h22⟩ := new_heap (o := .lst [.str "insert", .str "update", .str "delete"]) hwl
            rw [e22]
            walk_at "rd"
            refine ⟨p, L, _, 3, rfl, sc21.pen.up s22, by omega, by decide, by decide, fun d H23 g0 g1 k23 p23 => ?_⟩
            have sc23 := (sc21.up s22).keep k23 p23
            have ht23 := k23 _ _ rfl (s22 _ _ ht21)
            have hb23 := k23 _ _ rfl (s22 _ _ hb21)
            obtain ⟨wd, ewd, hwd⟩ : ∃ wd : Str, atI [V.str "insert", V.str "update", V.str "delete"] d = some (.str wd) ∧ (wd = "insert" ∨ wd = "update" ∨ wd = "delete") := by
              have cc : d = 0 ∨ d = 1 ∨ d = 2 := by omega
              rcases cc with rfl | rfl | rfl
              · exact ⟨_, rfl, .inl rfl⟩
              · exact ⟨_, rfl, .inr (.inl rfl)⟩
              · exact ⟨_, rfl, .inr (.inr rfl)⟩
            refine i_ixL (k23 _ _ rfl h22) ewd ?_
            clear sc21 ht21 hb21 s22 k23 p23 h22 e22 hwl g0 g1 ewd
            walk_at "rd"
            refine ⟨fun σ' H' => ∃ t b ns v, ∃ y17' : Option V, σ' = [some (.ref a), some (.ref p), some (.int (0 + (i : Int))), some (.ref lk), some (.ref lc), some (.ref tx), some (.ref fr), some tv, some (.ref kp), some (.ref ti.x), some (.ref to.x), some (.ref tw.x), some (.int (0 + (j : Int))), some (.ref t), some (.ref b), some (.bl (isIn r ks ns)), some (.str wd), y17', y18, y19, y20, y21, y22] ∧
              Scene U C D H' p L lc kp fr df qf ks r fv tv cf ti to tw g (500 * i + 70 + 20 * (j + 1)) j ∧ H' t = some (.tup ((ns ++ [v]).map V.int)) ∧ H' b = some (.tup (ns.map V.int)) ∧ ns.length = ks.length ∧ Tiny (ns ++ [v]), ?_, ?_⟩
            · have same : ∀ H' n', Scene U C D H' p L lc kp fr df qf ks r fv tv cf ti to tw g n' j → n' ≤ 500 * i + 70 + 20 * (j + 1) → H' t = some (.tup ((ns ++ [v]).map V.int)) → H' b = some (.tup (ns.map V.int)) → ∃ t' b' ns' v', ∃ y17' : Option V, ([some (.ref a), some (.ref p), some (.int (0 + (i : Int))), some (.ref lk), some (.ref lc), some (.ref tx), some (.ref fr), some tv, some (.ref kp), some (.ref ti.x), some (.ref to.x), some (.ref tw.x), some (.int (0 + (j : Int))), some (.ref t), some (.ref b), some (.bl (isIn r ks ns)), some (.str wd), y17, y18, y19, y20, y21, y22] : L2.St) = [some (.ref a), some (.ref p), some (.int (0 + (i : Int))), some (.ref lk), some (.ref lc), some (.ref tx), some (.ref fr), some tv, some (.ref kp), some (.ref ti.x), some (.ref to.x), some (.ref tw.x), some (.int (0 + (j : Int))), some (.ref t'), some (.ref b'), some (.bl (isIn r ks ns')), some (.str wd), y17', y18, y19, y20, y21, y22] ∧
                Scene U C D H' p L lc kp fr df qf ks r fv tv cf ti to tw g (500 * i + 70 + 20 * (j + 1)) j ∧ H' t' = some (.tup ((ns' ++ [v']).map V.int)) ∧ H' b' = some (.tup (ns'.map V.int)) ∧ ns'.length = ks.length ∧ Tiny (ns' ++ [v']) := fun H' n' sc le h1 h2 => ⟨t, b, ns, v, _, rfl, sc.mono le, h1, h2, nl, tn⟩
              walk_at "rd"
              by_cases hw1 : wd = "insert"
              · rw [decide_eq_true (show V.str wd = V.str "insert" by rw [hw1])]
                refine iteF ?_
                exact same _ _ sc23 (by omega) ht23 hb23
              rw [decide_eq_false (show ¬ V.str wd = V.str "insert" from fun e => hw1 (V.str.inj e))]
              refine iteT ?_
              walk_at "rd"
              obtain ⟨dw, txw, fxw, hxw, _⟩ := sc23.tri.tw.tr.ex
              have lw := sc23.tri.lw
              refine ⟨tw.x, dw, _, rfl, hxw, tw.x, tw.k, tw.o, tw.s, tw.z, rfl, sc23.tri.tw.tr, tw.z.kvs.length, rfl, by omega, ?_⟩
              walk_at "rd"
              refine ite_d (fun hl0 => ?_) (fun _ => same _ _ sc23 (by omega) ht23 hb23)
              walk_at "rd"
              refine ⟨p, L, _, 4, rfl, sc23.pen, by omega, by decide, by decide, fun d4 H24 _ _ k24 p24 => ?_⟩
              have sc24 := sc23.keep k24 p24
              have ht24 := k24 _ _ rfl ht23
              have hb24 := k24 _ _ rfl hb23
              have hxw24 := k24 _ _ rfl hxw
              walk_at "rd"
              refine ite_d (fun _ => ?_) (fun _ => same _ _ sc24 (by omega) ht24 hb24)
              clear sc23 ht23 hb23 hxw k24 p24 same
              walk_at "rd"
              unfold tProp
              walk_at "rd"
              have tw24 := sc24.tri.tw
              have wl := tw24.len
              refine ⟨tw.x, dw, _, rfl, hxw24, tw.x, tw.k, tw.o, tw.s, tw.z, tw.nss, rfl, tw24.tr, tw24.ki, Tri.nz sc24.tri.k0 tw24, by omega, fun p1 H26 s26 h26 => ?_⟩
              walk_at "rd"
              refine ⟨tw.x, dw, _, rfl, s26 _ _ hxw24, tw.x, tw.k, tw.o, tw.s, tw.z, rfl, tw24.tr.up s26, tw.z.kvs.length, rfl, by omega, ?_⟩
              walk_at "rd"
              refine ⟨p, L, _, _, rfl, sc24.pen.up s26, by omega, by omega, by omega, fun d5 H27 g0 g1 k27 p27 => ?_⟩
              have sc27 := (sc24.up s26).keep k27 p27
              have ht27 := k27 _ _ rfl (s26 _ _ ht24)
              have h27 := k27 _ _ rfl h26
              obtain ⟨bs, ebs, tbs⟩ := rows_tups sc27.tri.rows
              have bl : bs.length = tw.z.kvs.length := by
                rw [Paired.length tbs, List.length_map, (sortN_perm _).length_eq]
                exact wl
              obtain ⟨dn, rfl⟩ : ∃ dn : Nat, d5 = (dn : Int) := ⟨d5.toNat, by omega⟩
              have hdn : dn < bs.length := by omega
              obtain ⟨row, er, hrow⟩ := pair_at tbs (List.getElem?_eq_getElem hdn)
              obtain ⟨ns2, mem2, rfl⟩ := List.mem_map.mp (List.mem_of_getElem? er)
              have mem3 : ns2 ∈ tw.nss := (sortN_perm _).mem_iff.mp mem2
              obtain ⟨x0, eg⟩ := sc27.tri.gk ns2 mem3
              obtain ⟨nl2, tn2⟩ := sc27.tri.tw.kz ns2 mem3
              rw [eg] at hrow
              refine i_ixT h27 (v := .ref bs[dn]) (by rw [ebs]; exact atI_nat (by rw [List.getElem?_map, List.getElem?_eq_getElem hdn]; rfl)) ?_
              clear sc24 ht24 hb24 h26 s26 k27 p27 h27 ebs tbs er tw24 hxw24
              walk_at "rd"
              refine i_sl ?_
              walk_at "rd"
              refine i_noPart (i_part ?_)
              walk_at "rd"
              refine ⟨_, rfl, slice_last hrow fun b2 hb2 => ?_⟩
              obtain ⟨H28, e28, s28, h28⟩ := new_heap (o := .tup (ns2.map V.int)) hb2
              rw [e28]
              walk_at "rd"
              have ht28 := s28 _ _ ht27
              refine i_ixT (v := .int v) ht28 (by rw [List.map_append]; exact atI_last _ _) ?_
              walk_at "rd"
              refine ⟨size_of (Nat.le_of_ble_eq_true rfl), fun t2 ht2 => ?_⟩
              obtain ⟨H29, e29, s29, h29⟩ := new_heap (o := .tup [.int v]) ht2
              rw [e29]
              refine catA_at (s29 _ _ h28) h29 (by rw [List.length_map]; show ns2.length + 1 ≤ 100000; omega) fun t3 H30 s30 h30 => ?_
              have s2730 : Same H27 H30 := fun b o e => s30 _ _ (s29 _ _ (s28 _ _ e))
              have sc30 := sc27.up s2730
              have hb30 := s30 _ _ (s29 _ _ h28)
              have hrow30 := s2730 _ _ hrow
              clear sc27 ht27 hrow s2730 h28 h29 ht28
              walk_at "rd"
              refine ⟨lc, bs[dn], _, _, rfl, SqL.of sc30.hc, SqT.of hrow30, by rw [List.length_map]; exact zl ns2 x0 nl2, fun m hm => ?_⟩
              obtain ⟨H31, e31, s31, h31⟩ := new_heap (o := .dK (mergeK [] (((ks ++ [("r" : Str)]).map (Sum.inr : Str → Key)).zip ((ns2 ++ [x0]).map V.int)))) hm
              rw [e31]
              walk_at "rd"
              have va := vals_key h31 csn (zl ns2 x0 nl2)
              refine ⟨r, tv, m, rhoK (ks ++ [("r" : Str)]) (ns2 ++ [x0]), rfl, sc30.tra.up s31, by omega, va.sub fun c hc => List.mem_append_left _ (rck c hc), fun H32 s32 => ?_⟩
              have s3032 : Same H30 H32 := fun b o e => s32 _ _ (s31 _ _ e)
              walk_at "rd"
              rw [isIn_dec rck nl2.symm]
              refine ⟨t3, b2, ns2, v, _, rfl, (sc30.up s3032).mono (by omega), ?_, s3032 _ _ hb30, nl2, fun n hn => ?_⟩
              · rw [s3032 _ _ h30, List.map_append]
                rfl
              · rcases List.mem_append.mp hn with h | h
                · exact tn2 n h
                · exact tn n (List.mem_append_right _ h)
            · rintro σ' H25 ⟨t, b, ns, v, y17', rfl, sc25, ht25, hb25, nl, tn⟩
              walk_at "rd"
              refine ite_var rfl rfl ?_
              rw [word_if]
              walk_at "rd"
              obtain ⟨bb, hbb⟩ : ∃ bb, isIn r ks ns = bb := ⟨_, rfl⟩
              refine ⟨fun σ' H' => σ' = [some (.ref a), some (.ref p), some (.int (0 + (i : Int))), some (.ref lk), some (.ref lc), some (.ref tx), some (.ref fr), some tv, some (.ref kp), some (.ref ti.x), some (.ref to.x), some (.ref tw.x), some (.int (0 + (j : Int))), some (.ref t), some (.ref b), some (.bl (isIn r ks ns)), some (.str wd), y17', some (if wd = "delete" then V.ref b else .ref t), some (.ref (pickT bb ti to).x), some (.ref (pickT (!bb) ti to).x), y21, y22] ∧ Same H25 H', ?_, ?_⟩
              · rw [hbb]
                walk_at "rd"
                cases bb with
                | true =>
                  refine iteT ?_
                  walk_at "rd"
                  refine ⟨size_of (Nat.le_of_ble_eq_true rfl), fun q1 hq1 => ?_⟩
                  obtain ⟨H26, e26, s26, h26⟩ := new_heap (o := .tup [.ref ti.x, .ref to.x]) hq1
                  rw [e26]
                  walk_at "rd"
                  exact ⟨rfl, s26⟩
                | false =>
                  refine iteF ?_
                  walk_at "rd"
                  refine ⟨size_of (Nat.le_of_ble_eq_true rfl), fun q1 hq1 => ?_⟩
                  obtain ⟨H26, e26, s26, h26⟩ := new_heap (o := .tup [.ref to.x, .ref ti.x]) hq1
                  rw [e26]
                  walk_at "rd"
                  exact ⟨rfl, s26⟩
              · rintro σ' H26 ⟨rfl, s26⟩
                have sc26 := sc25.up s26
                have ht26 := s26 _ _ ht25
                have hb26 := s26 _ _ hb25
                clear sc25 ht25 hb25 s26
                walk_at "rd"
                unfold tProp
                walk_at "rd"
                have wk : ∀ H', H' t = some (.tup ((ns ++ [v]).map V.int)) → H' b = some (.tup (ns.map V.int)) → Wish H' (tabK ks) wd (if wd = "delete" then .ref b else .ref t) ns := fun H' h1 h2 => wishK csn hwd h1 h2 nl tn
                have od26 := sc26.tri.at_ (!bb)
                obtain ⟨dO, txO, fxO, hxO, _⟩ := od26.tr.ex
                have zA := sc26.tri.zAt bb
                have zB := sc26.tri.zAt (!bb)
                refine ⟨(pickT (!bb) ti to).x, dO, _, rfl, hxO, (pickT (!bb) ti to).x, (pickT (!bb) ti to).k, (pickT (!bb) ti to).o, (pickT (!bb) ti to).s, (pickT (!bb) ti to).z, (pickT (!bb) ti to).nss, rfl, od26.tr, od26.ki, Tri.nz sc26.tri.k0 od26, by rw [od26.len]; omega, fun p1 H27 s27 h27 => ?_⟩
                walk_at "rd"
                refine ⟨(pickT (!bb) ti to).x, dO, _, rfl, s27 _ _ hxO, (pickT (!bb) ti to).x, (pickT (!bb) ti to).k, (pickT (!bb) ti to).o, (pickT (!bb) ti to).s, (pickT (!bb) ti to).z, rfl, od26.tr.up s27, ?_⟩
                walk_at "rd"
                refine ⟨size_of (Nat.le_of_ble_eq_true rfl), fun q1 hq1 => ?_⟩
                obtain ⟨H28, e28, s28, h28⟩ := new_heap (o := .tup [.ref p1, .int ((pickT (!bb) ti to).z.n : Int)]) hq1
                rw [e28]
                have s2628 : Same H26 H28 := fun c o e => s28 _ _ (s27 _ _ e)
                have sc28 := sc26.up s2628
                have ht28 := s2628 _ _ ht26
                have hb28 := s2628 _ _ hb26
                have hp28 := s28 _ _ h27
                clear sc26 ht26 hb26 s2628 s28 s27 h27 od26 hxO
                walk_at "rd"
                have hd28 := sc28.tri.at_ bb
                refine call_or hd28.tr hd28.plain (by rw [hd28.zt]; exact wk _ ht28 hb28) (sc28.tri.rowsAt bb) (by omega) (by omega) fun hp H29 c1 => ?_
                obtain ⟨tw29, rw29, cl29⟩ := sc28.tri.mid c1
                walk_at "rd"
                refine ⟨fun σ' H' => ∃ ti' to' tw' g', σ' = [some (.ref a), some (.ref p), some (.int (0 + (i : Int))), some (.ref lk), some (.ref lc), some (.ref tx), some (.ref fr), some tv, some (.ref kp), some (.ref ti'.x), some (.ref to'.x), some (.ref tw'.x), some (.int (0 + (j : Int))), some (.ref t), some (.ref b), some (.bl (isIn r ks ns)), some (.str wd), y17', some (if wd = "delete" then V.ref b else .ref t), some (.ref (pickT bb ti' to').x), some (.ref (pickT (!bb) ti' to').x), some (.ref q1), some (.ref hp)] ∧
                  ti'.x = ti.x ∧ to'.x = to.x ∧ tw'.x = tw.x ∧ Scene U C D H' p L lc kp fr df qf ks r fv tv cf ti' to' tw' g' (500 * i + 70 + 20 * (j + 1)) (j + 1) ∧ H' t = some (.tup ((ns ++ [v]).map V.int)) ∧ H' b = some (.tup (ns.map V.int)) ∧
                  H' q1 = some (.tup [.ref p1, .int ((pickT (!bb) ti' to').z.n : Int)]) ∧ H' p1 = some (.tup (rowsOf (pickT (!bb) ti' to').z.kvs (pickT (!bb) ti' to').nss)), ?_, ?_⟩
                · walk_at "rd"
                  have lw := sc28.tri.lw
                  have sw := sc28.tri.sw
                  refine call_or tw29.tr tw29.plain (by rw [tw29.zt]; exact wk _ (cl29.tup ht28) (cl29.tup hb28)) rw29 (by omega) (by omega) fun hw H30 c2 => ?_
                  obtain ⟨ti', to', tw', g', tri', e1, e2, e3, eo, cl⟩ := sc28.tri.next nl hbb tn (fun nd => ⟨t, by rw [if_neg nd], ht28⟩) c1 c2
                  have ry : RowP H30 (if wd = "delete" then V.non else (if wd = "delete" then V.ref b else .ref t)) := by
                    rw [word_new]
                    split
                    · exact .inl rfl
                    · exact .inr ⟨t, _, rfl, cl.tup ht28, fun u hu => by
                        obtain ⟨n, _, rfl⟩ := List.mem_map.mp hu
                        exact .inl ⟨n, rfl⟩⟩
                  have sh := sc28.tri.heard nl hbb c1 c2 ry
                  walk_at "rd"
                  refine sh.ne ⟨_, rfl, iteF ?_⟩
                  walk_at "rd"
                  refine ⟨size_of (Nat.le_of_ble_eq_true rfl), fun q2 hq2 => ?_⟩
                  obtain ⟨H31, e31, s31, h31⟩ := new_heap (o := .tup [.str "refused", .str "region"]) hq2
                  rw [e31]
                  refine SameHeard.eq (sh.up s31) h31 ?_
                  refine ⟨_, rfl, iteF ?_⟩
                  exact ⟨ti', to', tw', g', by rw [pick_x (b := bb) e1 e2, pick_x (b := !bb) e1 e2, e1, e2, e3]; rfl, e1, e2, e3, (sc28.calm (cl.trans (Same.calm s31)) (tri'.up s31)), s31 _ _ (cl.tup ht28), s31 _ _ (cl.tup hb28), by rw [eo]; exact s31 _ _ (cl.tup h28), by rw [eo]; exact s31 _ _ (cl.tup hp28)⟩
                · rintro σ' H31 ⟨ti', to', tw', g', rfl, e1, e2, e3, sc31, ht31, hb31, hq31, hp31⟩
                  walk_at "rd"
                  clear tw29 rw29 cl29 c1 hd28 sc28 ht28 hb28 hp28 h28
                  have od31 := sc31.tri.at_ (!bb)
                  have zC := sc31.tri.zAt (!bb)
                  refine call_or od31.tr od31.plain (by rw [od31.zt]; exact wk _ ht31 hb31) (sc31.tri.rowsAt (!bb)) (by omega) (by omega) fun p2 H32 c3 => ?_
                  have dt := sc31.tri.dueThere wd nl hbb
                  rcases c3 with ⟨rs, d3, s32, h32⟩ | ⟨d3, _⟩
                  rotate_left
                  · rw [dt] at d3
                    cases d3
                  rw [dt] at d3
                  cases d3
                  walk_at "rd"
                  refine ⟨size_of (Nat.le_of_ble_eq_true rfl), fun q2 hq2 => ?_⟩
                  obtain ⟨H33, e33, s33, h33⟩ := new_heap (o := .tup [.str "refused", .str "region"]) hq2
                  rw [e33]
                  refine ne_refused (s33 _ _ h32) h33 (by decide +kernel) ⟨_, rfl, iteF ?_⟩
                  have s3133 : Same H31 H33 := fun c o e => s33 _ _ (s32 _ _ e)
                  have sc33 := sc31.up s3133
                  have ht33 := s3133 _ _ ht31
                  have hb33 := s3133 _ _ hb31
                  have hq33 := s3133 _ _ hq31
                  have hp33 := s3133 _ _ hp31
                  have od33 := od31.up s3133
                  clear sc31 ht31 hb31 hq31 hp31 od31 h32 h33 s33 s32 e33
                  walk_at "rd"
                  obtain ⟨dP, txP, fxP, hxP, _⟩ := od33.tr.ex
                  refine ⟨(pickT (!bb) ti' to').x, dP, _, rfl, hxP, (pickT (!bb) ti' to').x, (pickT (!bb) ti' to').k, (pickT (!bb) ti' to').o, (pickT (!bb) ti' to').s, (pickT (!bb) ti' to').z, (pickT (!bb) ti' to').nss, rfl, od33.tr, od33.ki, Tri.nz sc33.tri.k0 od33, by rw [od33.len]; omega, fun p3 H34 s34 h34 => ?_⟩
                  walk_at "rd"
                  refine ⟨(pickT (!bb) ti' to').x, dP, _, rfl, s34 _ _ hxP, (pickT (!bb) ti' to').x, (pickT (!bb) ti' to').k, (pickT (!bb) ti' to').o, (pickT (!bb) ti' to').s, (pickT (!bb) ti' to').z, rfl, od33.tr.up s34, ?_⟩
                  walk_at "rd"
                  refine ⟨size_of (Nat.le_of_ble_eq_true rfl), fun q3 hq3 => ?_⟩
                  obtain ⟨H35, e35, s35, h35⟩ := new_heap (o := .tup [.ref p3, .int ((pickT (!bb) ti' to').z.n : Int)]) hq3
                  rw [e35]
                  have s3335 : Same H33 H35 := fun c o e => s35 _ _ (s34 _ _ e)
                  have sc35 := sc33.up s3335
                  have ht35 := s3335 _ _ ht33
                  have hb35 := s3335 _ _ hb33
                  walk_at "rd"
                  refine ne_pair h35 (s3335 _ _ hq33) (s35 _ _ h34) (s3335 _ _ hp33) (fun u hu => by
                    obtain ⟨m, _, rfl⟩ := List.mem_map.mp hu
                    exact sc35.tri.rowAt (!bb) m) ⟨_, rfl, iteF ?_⟩
                  clear sc33 ht33 hb33 hq33 hp33 od33 hxP h34 h35 s3335 s34 s35 e35
                  walk_at "rd"
                  have tri35 := sc35.tri
                  have li := tri35.li
                  have lo := tri35.lo
                  have lw' := tri35.lw
                  refine ⟨ti'.x, ti'.k, ti'.o, ti'.s, ti'.z, to'.x, to'.k, to'.o, to'.s, to'.z, ti'.nss, to'.nss, g', rfl, tri35.ti.tr, tri35.to.tr, tri35.ti.ki, tri35.to.ki, Tri.nz tri35.k0 tri35.ti, Tri.nz tri35.k0 tri35.to, fun m hm => ?_, by rw [tri35.ti.len]; omega, by rw [tri35.to.len]; omega, tri35.intsAt true, tri35.intsAt false, fun p4 H36 bs s36 h36 tb36 => ?_⟩
                  · obtain ⟨x0, ex⟩ := tri35.gk m ((tri35.ag.perm tri35.ti tri35.to tri35.tw).mem_iff.mp (List.mem_append.mpr hm))
                    rw [ex]
                    exact List.append_ne_nil_of_right_ne_nil _ (fun e => nomatch e)
                  rw [tri35.sorted] at tb36
                  have tri36 := tri35.up s36
                  obtain ⟨dw6, txw6, fxw6, hxw6, _⟩ := tri36.tw.tr.ex
                  walk_at "rd"
                  refine ⟨tw'.x, dw6, _, rfl, hxw6, tw'.x, tw'.k, tw'.o, tw'.s, tw'.z, tw'.nss, rfl, tri36.tw.tr, tri36.tw.ki, Tri.nz tri36.k0 tri36.tw, by rw [tri36.tw.len]; omega, fun p5 H37 s37 h37 => ?_⟩
                  have tri37 := tri36.up s37
                  obtain ⟨bs2, eb2, tb2⟩ := rows_tups tri37.rows
                  rw [eb2] at h37
                  refine ne_tups (s37 _ _ h36) h37 (Paired.mapP tb36 fun _ _ e => s37 _ _ e) tb2 ⟨_, rfl, iteF ?_⟩
                  have s3537 : Same H35 H37 := fun c o e => s37 _ _ (s36 _ _ e)
                  have sc37 := sc35.up s3537
                  have ht37 := s3537 _ _ ht35
                  have hb37 := s3537 _ _ hb35
                  clear sc35 ht35 hb35 s3537 tb36 tb2 h36 h37 hxw6 tri35 tri36 s36 s37 eb2
                  walk_at "rd"
                  obtain ⟨di, txi, fxi, hxi, _⟩ := tri37.ti.tr.ex
                  obtain ⟨dq, txq, fxq, hxq, _⟩ := tri37.to.tr.ex
                  obtain ⟨dw7, txw7, fxw7, hxw7, _⟩ := tri37.tw.tr.ex
                  refine ⟨ti'.x, di, _, rfl, hxi, ti'.x, ti'.k, ti'.o, ti'.s, ti'.z, rfl, tri37.ti.tr, ?_⟩
                  walk_at "rd"
                  refine ⟨to'.x, dq, _, rfl, hxq, to'.x, to'.k, to'.o, to'.s, to'.z, rfl, tri37.to.tr, ?_⟩
                  walk_at "rd"
                  refine ⟨tw'.x, dw7, _, rfl, hxw7, tw'.x, tw'.k, tw'.o, tw'.s, tw'.z, rfl, tri37.tw.tr, ?_⟩
                  walk_at "rd"
                  rw [decide_eq_true (show V.int ((ti'.z.n : Int) + (to'.z.n : Int)) = V.int (tw'.z.n : Int) by rw [← tri37.st]; rfl)]
                  refine iteF ?_
                  walk_at "rd"
                  refine ⟨ti'.x, di, _, rfl, hxi, ti'.x, ti'.k, ti'.o, ti'.s, ti'.z, rfl, tri37.ti.tr, ti'.z.kvs.length, rfl, by omega, ?_⟩
                  walk_at "rd"
                  refine ⟨to'.x, dq, _, rfl, hxq, to'.x, to'.k, to'.o, to'.s, to'.z, rfl, tri37.to.tr, to'.z.kvs.length, rfl, by omega, ?_⟩
                  walk_at "rd"
                  refine ⟨tw'.x, dw7, _, rfl, hxw7, tw'.x, tw'.k, tw'.o, tw'.s, tw'.z, rfl, tri37.tw.tr, tw'.z.kvs.length, rfl, by omega, ?_⟩
                  walk_at "rd"
                  rw [decide_eq_true (show V.int ((ti'.z.kvs.length : Int) + (to'.z.kvs.length : Int)) = V.int (tw'.z.kvs.length : Int) by rw [← tri37.lens]; rfl)]
                  refine iteF ?_
                  walk_at "rd"
                  have tns : Tiny ns := fun n hn => tn n (List.mem_append_left _ hn)
                  have hd37 := tri37.at_ bb
                  have od37 := tri37.at_ (!bb)
                  obtain ⟨dh, txh, fxh, hxh, _⟩ := hd37.tr.ex
                  obtain ⟨dz', txz, fxz, hxz, _⟩ := od37.tr.ex
                  have ka : ∀ H' (r' : Fi.Tr) (d : TD), TOk U C D H37 ks r' d → Same H37 H' → KeyAt H' b ns d.z.t.ks.length := fun H' r' d td e => ⟨e _ _ hb37, by rw [td.zt]; exact nl, tns⟩
                  refine ⟨(pickT bb ti' to').x, dh, _, rfl, hxh, (pickT bb ti' to').x, (pickT bb ti' to').k, (pickT bb ti' to').o, (pickT bb ti' to').s, (pickT bb ti' to').z, .ref b, some ns, rfl, hd37.tr, .inl ⟨b, ns, rfl, ka _ _ _ hd37 (Same.refl _), rfl⟩, fun H38 s38 => ⟨_, rfl, ?_⟩⟩
                  walk_at "rd"
                  refine ⟨tw'.x, dw7, _, rfl, s38 _ _ hxw7, tw'.x, tw'.k, tw'.o, tw'.s, tw'.z, .ref b, some ns, rfl, tri37.tw.tr.up s38, .inl ⟨b, ns, rfl, ka _ _ _ tri37.tw s38, rfl⟩, fun H39 s39 => ⟨_, rfl, ?_⟩⟩
                  have s3739 : Same H37 H39 := fun c o e => s39 _ _ (s38 _ _ e)
                  have eh : hasV (pickT bb ti' to').z.kvs (some ns) = hasV tw'.z.kvs (some ns) := by
                    show (valV (pickT bb ti' to').z.kvs (kk ns)).isSome = _
                    rw [tri37.eqv nl hbb]
                    rfl
                  have en : hasV (pickT (!bb) ti' to').z.kvs (some ns) = false := by
                    show (valV (pickT (!bb) ti' to').z.kvs (kk ns)).isSome = _
                    rw [tri37.non nl hbb]
                    rfl
                  walk_at "rd"
                  rw [decide_eq_true (show V.bl (if false = true then !hasV (pickT bb ti' to').z.kvs (some ns) else hasV (pickT bb ti' to').z.kvs (some ns)) = V.bl (if false = true then !hasV tw'.z.kvs (some ns) else hasV tw'.z.kvs (some ns)) by rw [eh])]
                  refine iteF ?_
                  walk_at "rd"
                  refine ⟨(pickT (!bb) ti' to').x, dz', _, rfl, s3739 _ _ hxz, (pickT (!bb) ti' to').x, (pickT (!bb) ti' to').k, (pickT (!bb) ti' to').o, (pickT (!bb) ti' to').s, (pickT (!bb) ti' to').z, .ref b, some ns, rfl, od37.tr.up s3739, .inl ⟨b, ns, rfl, ka _ _ _ od37 s3739, rfl⟩, fun H40 s40 => ⟨_, rfl, ?_⟩⟩
                  rw [en]
                  refine ⟨_, rfl, iteF ?_⟩
                  walk_at "rd"
                  exact ⟨ti', to', tw', g', _, _, _, _, _, _, _, _, _, _, _, e1, e2, e3, by rw [e1, e2, e3], sc37.up fun c o e => s40 _ _ (s3739 _ _ e)⟩
          · clear tri16 hc16 kp16 hfx16 hq16 htr16 tra16 p16 fil16
            rintro σ H17 ⟨ti, to, tw, g, y12, y13, y14, y15, y16, y17, y18, y19, y20, y21, y22, rfl, rfl, rfl, rfl, sc17⟩
            walk_at "rd"
            refine ⟨fr, D, df, _, _, rfl, sc17.fx, TF.cl, TF.nT, Fi.lk_tree, ?_⟩
            walk_at "rd"
            refine ⟨fr, D, df, _, _, rfl, sc17.fx, TF.cl, TF.nC, Fi.lk_columns, ?_⟩
            walk_at "rd"
            refine ⟨size_of (Nat.le_of_ble_eq_true rfl), fun q1 hq1 => ?_⟩
            obtain ⟨H18, e18, s18, h18⟩ := new_heap (o := .tup [fv, .ref qf]) hq1
            rw [e18]
            have sc18 := sc17.up s18
            walk_at "rd"
            refine ne_kept h18 sc18.kp sc18.htr sc18.htr sc18.hq sc18.hq txr (fun c hc => txr c ((cok.mem c).mp hc)) (by omega) ⟨_, rfl, iteF ?_⟩
            walk_at "rd"
            exact ⟨_, _, _, _, _, _, _, _, _, _, _, _, _, _, _, _, _, _, _, _, _, rfl, sc18.pen.mono (by omega)⟩
    · rintro σ H2 ⟨x2, x3, x4, x5, x6, x7, x8, x9, x10, x11, x12, x13, x14, x15, x16, x17, x18, x19, x20, x21, x22, rfl, p2⟩
      walk_at "rd"
      exact q _
end
end Spk

set_option Elab.async false
set_option linter.all false
set_option maxRecDepth 100000
set_option maxHeartbeats 1000000
namespace Spk
open PySem PySem.Spec PyProof.Rows PySem.W L2
/-! ## defs that are entered while nothing is being shown: in them lists and tuples may be shown by repr -/

/-- the promise of a def, for such entries alone -/
structure FnG (P : Program) (w : World) (K : Frag) (mg : Str → Option Value) (base : Heap) (CX : CXT) (k : Nat) (f : Addr) (fd : FuncData) (ps : List Str) (sp : Sp) : Prop where
  arity : ∀ vs H Q E, sp vs H Q E → vs.length = ps.length
  goes : ∀ (A : Around), A.guards = some [] → ∀ (outer : List Env) (s : Shared) (H : Hp) (args : Args) (us : List Value) (vs : List V) (Q : VK) (E : XK), Room k A → Env0 P w K mg base A outer s H →
    BindsTo s fd args (ps.zip us) → Vals vs us → sp vs H Q E → codeAny (model P w) A (.call (.ref f) args) (CR CX outer P w H s Q E) s

section
variable {P : Program} {w : World} {K : Frag} {mg : Str → Option Value} {base : Heap} {CX : CXT} {j k : Nat} {f : Addr} {fd : FuncData} {ps : List Str} {sp : Sp}
theorem FnG.of (F : FnOk P w K mg base CX k f fd ps sp) : FnG P w K mg base CX k f fd ps sp :=
  ⟨F.len, fun A _ outer s H args us vs Q E hr e b v h => F.run A outer s H args us vs Q E hr e b v h⟩
theorem FnG.mono (F : FnG P w K mg base CX j f fd ps sp) (h : j ≤ k) : FnG P w K mg base CX k f fd ps sp :=
  ⟨F.arity, fun A g outer s H args us vs Q E hr => F.goes A g outer s H args us vs Q E (hr.mono h)⟩
/-- a def by its body -/
theorem fn_ofG {name qual : Str} {params : Arguments} {body : List Stmt} {scope : Scope} {dV kV doc pm cdv ct oc : Value} {an od : Option Addr} {osl : Array (Option Value)} {N : List Str}
    (lk : K.lookup f = some ⟨oc, od, .func (fnOf name qual params body scope dV kV doc pm an cdv ct), osl⟩) (hcd : codeIn K cdv qual = true) (S : FnScope N ps scope) (ar : ∀ vs H Q E, sp vs H Q E → vs.length = ps.length)
    (hb : ∀ (A : Around), A.guards = some [] → ∀ (outer : List Env) (s : Shared) (H : Hp) (vs : List V) (Q : VK) (E : XK), Room k (A.deeper (envOfC qual scope s.heap.objs.size f cdv)) → sp vs H Q E →
      ∃ t, PSs (cxOf CX P w K mg base N qual scope f cdv A outer s H E) body t ∧ t { nx := fun _ H1 => Q .non H1, rt := Q } (L2.start N vs) H) :
    FnG P w K mg base CX (k + 1) f (fnOf name qual params body scope dV kV doc pm an cdv ct) ps sp := by
  constructor
  · exact ar
  intro A g outer s H args us vs Q E hr e0 bi r hsp
  have hl := ar _ _ _ _ hsp
  have KX : K.In s.heap := e0.mod.kin.keeps fun c o z => (e0.bs c o z).1
  have lim : s.heap.NoLimit := e0.mod.nolimit.keeps fun c o z => (e0.bs c o z).1
  have kinds : ∀ y, y ∈ ps.zip us → scope.names.lookup y.1 = some .local ∨ (scope.names.lookup y.1 = some .cell ∧ ((cellsFrom (s.heap.objs.size + 1) scope.names []).lookup y.1).isSome = true) := by
    intro y hy
    have hm := (List.of_mem_zip (show (y.1, y.2) ∈ ps.zip us from hy)).1
    exact (S.par y.1 hm).imp id fun q => ⟨q, cellsFrom_some _ _ _ (.inl q)⟩
  refine codeAny_call_function hr.depth (KX _ _ lk) rfl S.co S.gen rfl (codeRec_of KX hcd) (bi _ _ _ _ ?_)
  refine wpAny_newFunctionEnv_cells S.kind kinds ?_
  intro env he s1 x
  subst he
  constructor
  · exact lim.keeps x.toInCall.keep
  refine codeAny_func ?_
  obtain ⟨t, ht, hq⟩ := hb A g outer s H vs Q E (hr.deeper _) hsp
  have I : Inv (cxOf CX P w K mg base N qual scope f cdv A outer s H E) [] (L2.start N vs) H s1 := inv_start S hr.hd e0 hl r x
  have out : ∀ {τ : L2.St} {H1 : Hp} {v : V} {u : Value} {s2 : Shared}, Inv (cxOf CX P w K mg base N qual scope f cdv A outer s H E) [] τ H1 s2 → RelV v u → Q v H1 → CE outer P w H s Q u s2 := by
    intro τ H1 v u s2 J rv q
    exact ⟨v, H1, J.os, J.bare, J.base, J.hok, rv, q⟩
  refine wpAny_mono (ht.run [] s1 (L2.start N vs) H _ I hq) ?_ fun e s2 z => z
  intro fl s2 hs
  match fl, hs with
  | .ret u, hs =>
    obtain ⟨v, τ, H1, J, rv, q⟩ := hs
    exact out J rv q
  | .next, hs =>
    obtain ⟨τ, H1, J, q⟩ := hs
    exact out (v := V.non) (u := Value.none) J rfl q
  | .brk, hs =>
    obtain ⟨_, _, _, q⟩ := hs
    exact q.elim
  | .cont, hs =>
    obtain ⟨_, _, _, q⟩ := hs
    exact q.elim
end
section
variable {P : Program} {w : World} {K : Frag} {mg : Str → Option Value} {base : Heap} {k : Nat} {f : Addr} {fd : FuncData} {ps : List Str} {sp : Sp}
theorem _root_.L2.Fun.okG {x qual : Str} {st : Stmt} {N : List Str} (F : Fun K x qual st f fd) (S : FnScope N ps (defScope st)) (ar : ∀ vs H Q E, sp vs H Q E → vs.length = ps.length)
    (hb : ∀ (cdv : Value) (A : Around), A.guards = some [] → ∀ (outer : List Env) (s : Shared) (H : Hp) (vs : List V) (Q : VK) (E : XK), Room k (A.deeper (envOfC qual (defScope st) s.heap.objs.size f cdv)) → sp vs H Q E →
      ∃ t, PSs (cxOf CX0 P w K mg base N qual (defScope st) f cdv A outer s H E).nox (defBody st) t ∧ t { nx := fun _ H1 => Q .non H1, rt := Q } (L2.start N vs) H) : FnG P w K mg base CX0 (k + 1) f fd ps sp := by
  obtain ⟨oc, od, kV, doc, pm, an, cdv, ct, osl, rfl, lk, hcd⟩ := F.ex
  refine fn_ofG lk hcd S ar ?_
  intro A g outer s H vs Q E hr hsp
  obtain ⟨t, h, q⟩ := hb cdv A g outer s H vs Q E hr hsp
  exact ⟨t, h.nox, q⟩
end
section
variable {X : Cx} {CX : CXT} {k : Nat} {f : Addr} {fd : FuncData} {ps : List Str} {ds : List Value} {dvs : List V} {sp : Sp} {E : XK}
theorem run_g {pins : List (Addr × Obj)} {σ : L2.St} {H : Hp} {s : Shared} {Q : VK} {us : List Value} {vs : List V} (F : FnG X.prog X.w X.K X.mg X.base CX k f fd ps sp) (g : X.A.guards = some []) (hr : Room k X.A) (hb : Binds X.K fd ps ds)
    (hd : Vals dvs ds) (hx : Passes CX X E) (I : Inv X pins σ H s) (r : Vals vs us) (h : sp (vs ++ dvs) H Q E) : wpAny (model X.prog X.w) X.A (call (.ref f) us) (EP X pins σ Q) X.xe s := by
  have all : Vals (vs ++ dvs) (us ++ ds) := r.append hd
  have many : (us ++ ds).length = ps.length := by
    rw [← all.length]
    exact F.arity _ _ _ _ h
  have z := F.goes X.A g X.stack s H ⟨us, []⟩ (us ++ ds) (vs ++ dvs) Q E hr I.env0 (hb s us I.kIn many) all h
  refine wpAny_call (codeAny_mono z ?_)
  intro r s1 hq
  match r, hq with
  | .error e, hq => exact hx pins σ H s e s1 I hq
  | .ok (.ret u), hq => exact I.after hq
  | .ok .next, hq => exact hq.elim
  | .ok .brk, hq => exact hq.elim
  | .ok .cont, hq => exact hq.elim
variable {x : Str} {e : Expr} {es : List Expr} {t : TA} {p pos : Pos}
theorem pe_callG (F : FnG X.prog X.w X.K X.mg X.base CX k f fd ps sp) (g : X.A.guards = some []) (hr : Room k X.A) (hg : Gl X x) (hm : X.mg x = some (.ref f)) (hk : keepIn X.K (.ref f) = true) (hb : Binds X.K fd ps ds) (hd : Vals dvs ds) (hx : Passes CX X E)
    (ha : PA X (e :: es) t) (hdb : (x == ("__debug__" : Str)) = false := by decide) (he : starEach (e :: es) X.env = (false, eval e X.env) :: starEach es X.env := by rfl) (hpl : (backTo pos (starEach es X.env)).any (·.1) = false := by rfl) :
    PE X (.Call (.Name x p) (e :: es) [] pos) (tCall sp dvs E t) := by
  constructor
  intro pins s σ H Q I h
  refine wpAny_Call_Name_kw (ld_glob I hg hm ?_ hdb)
  refine callWith_K (h₀ := X.base) I.ok.mod.kin hk (thn (ha.run pos pins s σ H _ I h) ?_) he hpl
  intro us s1 z
  obtain ⟨vs, H1, I1, r, q⟩ := z
  exact ⟨I1.kIn, run_g F g hr hb hd hx I1 r q⟩
/-- repr of data: None, truths, ints, texts, lists and tuples of these at any depth -/
def rReprD (K : Frag) : List V → Hp → VK → Prop := fun vs H Q => ∃ (a : Addr) (d : PyData), vs = [V.ref a] ∧ Dp K H (.ref a) d ∧ d.showable = true ∧ d.hasDict = false ∧ d.depth ≤ 64 ∧ d.shown.length ≤ sizeLine ∧ Q (.str d.shown) H
theorem cr_reprD (g : X.A.guards = some []) (hu : X.A.units + 66 < cLine) : CallR X (.builtin "repr") (rReprD X.K) := by
  intro pins s σ H vs us Q I r h
  obtain ⟨a, d, rfl, hd, sh, nd, dp, sz, q⟩ := h
  cases r with
  | cons ru rt =>
    cases rt
    obtain ⟨as, rd⟩ := Dp.reads I d _ _ hd ru
    cases ru
    refine repr_of_reads' rd sh (fun z => by rw [nd] at z; cases z) g (by omega) (fun _ _ z => z) (fun h1 u tk keep => ?_) sz
    exact ⟨.str _, H, I.kept keep, ⟨_, rfl⟩, q⟩
end
end Spk

set_option Elab.async false
set_option linter.all false
set_option maxRecDepth 100000
set_option maxHeartbeats 1000000
namespace Spk
open PySem PySem.Spec PyProof.Rows PySem.W L2
/-! ## a law's end, from a promise for entries while nothing is being shown -/
section
variable {P : Program} {w : World} {K : Frag} {mg mb : Str → Option Value} {CX : CXT} {k : Nat} {fa a : Addr} {fd : FuncData} {x : Str} {sp : Sp} {s1 : Shared} {vs : List Value} {ns : List Int}
/-- an abstract heap in which nothing but the script is tracked, if it is no object of the text -/
theorem start_heap (KX : K.In s1.heap) (ha : s1.heap.get? a = some { cls := .type "list", data := .seq vs.toArray }) (hi : IntsAre vs ns) (hl : ns.length ≤ sizeLine) :
    ∃ H : Hp, Only H ∧ SqL K H a (ns.map V.int) ∧ HOk P w H s1.heap ∧ (∀ b, (H b).isSome = true → b = a ∧ K.lookup a = none) := by
  have rv := vals_ints hi
  cases hk : K.lookup a with
  | some o =>
    have same := (KX a o hk).symm.trans ha
    cases same
    have n0 : HOk P w (fun _ => none) s1.heap := by
      intro b u z
      cases z
    have m0 : ∀ b : Addr, ((fun _ => none : Hp) b).isSome = true → b = a ∧ some ({ cls := .type "list", data := .seq vs.toArray } : Obj) = none := by
      intro b z
      cases z
    have q0 : SqL K (fun _ => none) a (ns.map V.int) := by
      refine Or.inr ⟨_, vs.toArray, _, hk, rfl, rfl, rfl, ?_, ?_⟩
      · rw [List.size_toArray, hi.length]
        exact hl
      · simpa using rv
    exact ⟨fun _ => none, fun _ => Or.inl rfl, q0, n0, m0⟩
  | none =>
    have one : ∀ b (u : HO), (if b = a then some (HO.frz { cls := .type "list", data := .seq vs.toArray } (.lst (ns.map V.int))) else none) = some u → b = a ∧ u = .frz { cls := .type "list", data := .seq vs.toArray } (.lst (ns.map V.int)) := by
      intro b u z
      split at z
      · rename_i e
        exact ⟨e, (Option.some.inj z).symm⟩
      · cases z
    refine ⟨fun b => if b = a then some (.frz { cls := .type "list", data := .seq vs.toArray } (.lst (ns.map V.int))) else none, fun b => ?_, Or.inl (Or.inr ⟨{ cls := .type "list", data := .seq vs.toArray }, if_pos rfl⟩), fun b u z => ?_, fun b z => ?_⟩
    · show (if b = a then _ else _) = _ ∨ _
      split
      · exact .inr ⟨_, _, if_pos (by assumption)⟩
      · exact .inl rfl
    · obtain ⟨rfl, rfl⟩ := one b u z
      refine ⟨ha, ?_, vs, _, rv, ha⟩
      rw [List.length_map]
      exact hl
    · obtain ⟨u, e⟩ := Option.isSome_iff_exists.mp z
      exact ⟨(one b u e).1, rfl⟩
/-- the law's promise at the heap behind the top -/
theorem law_g (KX : K.In s1.heap) (hns : s1.heap.Ns mainGlobals mg) (hb : s1.heap.Ns builtinsNs mb) (hbb : ∀ x : Str, x ≠ "__name__" → mb x = bootBuiltins x) (hlim : s1.heap.NoLimit) (hg : s1.gens = #[])
    (ha : s1.heap.get? a = some { cls := .type "list", data := .seq vs.toArray }) (hi : IntsAre vs ns) (hl : ns.length ≤ sizeLine) (hr : Room k callerA)
    (F : ∀ base : Heap, K.In base → base.Ns mainGlobals mg → FnG P w K mg base CX k fa fd [x] sp) (bi : ∀ (s : Shared) (u : Value), BindsTo s fd ⟨[u], []⟩ [(x, u)])
    (hsp : ∀ H : Hp, Only H → SqL K H a (ns.map V.int) → sp [.ref a] H (fun v _ => v = .bl true) fun _ _ _ => False) (hCX : ∀ H e s2, CX [] H s1 (fun _ _ _ => False) e s2 → False) :
    codeAny (model P w) callerA (.call (.ref fa) ⟨[.ref a], []⟩) (fun r s2 => r = .ok (.ret (.bool true)) ∧ OldK s1.heap s2.heap ∧ s2.os = s1.os ∧ AllBare s2.gens) s1 := by
  obtain ⟨H, only, sq, hok, mine⟩ := start_heap (P := P) (w := w) KX ha hi hl
  have off : ∀ {b : Addr} {o : Obj}, s1.heap.get? b = some o → H b = none → (hidT s1.heap H).get? b = some o := fun e n => hidT_get e n
  have free : ∀ {b : Addr}, (b = a → K.lookup a = none → False) → H b = none := by
    intro b no
    cases q : H b with
    | none => rfl
    | some u =>
      have z := mine b (by rw [q] <;> rfl)
      exact (no z.1 z.2).elim
  have dicts : ∀ {b : Addr} {o : Obj} {es : Array DictEntry} {ep : Nat}, s1.heap.get? b = some o → o.data = .dict es ep → H b = none := by
    intro b o es ep e d
    refine free fun z _ => ?_
    rw [z, ha] at e
    cases e
    cases d
  have names : ∀ {b : Addr} {m : Str → Option Value}, s1.heap.Ns b m → (hidT s1.heap H).Ns b m := by
    intro b m z
    obtain ⟨o, es, ep, e, d, r⟩ := z
    exact ⟨o, es, ep, off e (dicts e d), d, r⟩
  have inB : K.In (hidT s1.heap H) := by
    intro b o e
    refine off (KX b o e) (free fun z n => ?_)
    rw [z, n] at e
    cases e
  have mod : Mod K mg (hidT s1.heap H) := by
    obtain ⟨mc, h1, h2⟩ := hlim
    exact ⟨inB, names hns, ⟨mb, names hb, hbb⟩, mc, names h1, h2⟩
  have e0 : Env0 P w K mg (hidT s1.heap H) callerA [] s1 H :=
    ⟨rfl, mod, fun b o e => of_hidT e, Nat.le_of_eq (hidT_size _ _), trivial, fun b z => (List.not_mem_nil z).elim, hok, .of_eq hg⟩
  have z := (F _ inB (names hns)).goes callerA rfl [] s1 H ⟨[.ref a], []⟩ [.ref a] [.ref a] _ _ hr e0 (bi s1 (.ref a)) (.cons rfl .nil) (hsp H only sq)
  refine codeAny_mono z ?_
  intro r s2 q
  match r, q with
  | .error e, q => exact (hCX H e s2 q).elim
  | .ok .next, q => exact q.elim
  | .ok .brk, q => exact q.elim
  | .ok .cont, q => exact q.elim
  | .ok (.ret u), q =>
    obtain ⟨v, H2, os, gens, un, hok2, rv, e⟩ := q
    cases (show v = .bl true from e)
    cases (show u = Value.bool true from rv)
    refine ⟨rfl, OldK.of_keep ?_, os, gens⟩
    intro b o e
    rcases only b with n | ⟨ob, xs, n⟩
    · exact un.keep b o e n (fun z => List.not_mem_nil z) (fun z => List.not_mem_nil z)
    · have e1 := (hok b _ n).1
      have e2 := (hok2 b _ (un.frzs b ob _ n)).1
      rw [e] at e1
      cases e1
      exact e2
end
theorem walk_g {l : OpenLaw} {n k : Nat} {q : Program} {loose : List Str} {XP : (Str → Option Value) → Heap → Prop} {YP : World → Heap → Prop} {d : DefRec} {CX : CXT} {x : Str} (hn : l.most = some n) (hn2 : n ≤ sizeLine) (hdf : d.params.defaults = [])
    (hr : Room k callerA)
    (F : ∀ (w : World) (mg : Str → Option Value) (fa : Addr) (h : Heap), YP w h → h.Ns mainGlobals mg → mg d.name = some (.ref fa) → ∃ (K : Frag) (fd : FuncData) (sp : Sp), K.In h ∧ (∀ (s : Shared) (u : Value), BindsTo s fd ⟨[u], []⟩ [(x, u)]) ∧
        (∀ (H : Hp) (a : Addr) (ns : List Int), ns.length ≤ n → Only H → SqL K H a (ns.map V.int) → sp [.ref a] H (fun v _ => v = .bl true) fun _ _ _ => False) ∧
        ∀ base : Heap, K.In base → base.Ns mainGlobals mg → FnG l.prog w K mg base CX k fa fd [x] sp)
    (hCX : ∀ (H : Hp) (s : Shared) (e : Value) (s2 : Shared), CX [] H s (fun _ _ _ => False) e s2 → False) : WalkO q loose XP YP l.row.toRowW d [] (fun f vs => PySem.call f vs) := by
  refine Att.attach_call hn hdf ?_
  intro w s0 s1 mg mb fa o pm cd doc a vs ns G Y _ _ _ hmg hobj hints hlen hg
  obtain ⟨K, fd, sp, KX, bi, hsp, hF⟩ := F w mg fa _ Y G.T.g hmg
  exact law_g KX G.T.g G.T.b G.T.builtins G.T.nolimit hg hobj hints (Nat.le_trans hlen hn2) hr hF bi (fun H only sq => hsp H a ns hlen only sq) fun H e s2 => hCX H s1 e s2
end Spk

set_option Elab.async false
set_option linter.all false
set_option maxRecDepth 100000
set_option maxHeartbeats 1000000
namespace Spk
open PySem L2
/-! ### the facts by name -/
theorem ToldX.fa {K : PySem.W.Frag} (c : ToldX K) (i : Nat) {f : He.Fa} (h : plain[i]? = some f) : f.ok K = true := He5.SaysA.fact c.2 i h
theorem ToldX.fn {K : PySem.W.Frag} (c : ToldX K) (i : Nat) {a : PySem.W.Frag → Addr} {x q : Str} {st : Stmt} (h : defs[i]? = some (dfn a x q st)) : ∃ fd, Fun K x q st (a K) fd := by
  obtain ⟨fd, F⟩ := He5.SaysA.def_ c.2 i h
  exact ⟨fd, He5.fun_of F⟩
structure ClsQ (K : PySem.W.Frag) (C : Addr) : Prop where
  ne : PySem.W.findIn K (.ref C) "__ne__" = some (some (.builtin "object.__ne__"))
  ob : PySem.W.subIn K (.ref C) (.type "object") = some true
  sub : ∀ t, t ∈ six → PySem.W.subIn K (.ref C) (.type t) = some false
  kit : ∀ t, t ∈ six → PySem.W.kitOne K (.type t) (.ref C) = some false
  nf : ∀ t, t ∈ six → PySem.W.notFirst K C (.type t) = true
  cls : PySem.W.findIn K (.ref C) "__class__" = some (some (.builtin "object.__class__"))
  get : PySem.W.specialIn K (.builtin "object.__class__") "__get__" = some (some (.builtin "getset_descriptor.__get__"))
  tk : PySem.W.takesIn K (.builtin "object.__class__") = some true
  mro : PySem.W.mroIn K C (.type "object") = some true
  own : PySem.W.kitOne K (.ref C) (.ref C) = some true
theorem eq_ok {K : PySem.W.Frag} {C : Addr} (h : eqB K C = true) : ClsQ K C := by
  obtain ⟨h2, h⟩ := He.ba h
  obtain ⟨h3, h⟩ := He.ba h
  obtain ⟨h4, h⟩ := He.ba h
  obtain ⟨h5, h⟩ := He.ba h
  obtain ⟨h6, h⟩ := He.ba h
  obtain ⟨h7, h⟩ := He.ba h
  obtain ⟨h8, h⟩ := He.ba h
  obtain ⟨h9, h⟩ := He.ba h
  obtain ⟨h10, h11⟩ := He.ba h
  exact ⟨of_decide_eq_true h2, of_decide_eq_true h3, fun t z => of_decide_eq_true (List.all_eq_true.mp h4 t z), fun t z => of_decide_eq_true (List.all_eq_true.mp h5 t z), fun t z => List.all_eq_true.mp h6 t z, of_decide_eq_true h7, of_decide_eq_true h8, of_decide_eq_true h9, of_decide_eq_true h10, of_decide_eq_true h11⟩
theorem excObj_ok {C : Addr} {o : Obj} (h : excObjB C o = true) : ∃ nm q N bs bm sn sub ab col dd k0 k1 k2 k3 k5, o = excClassObj nm q C N bs bm true sn sub ab col dd k0 k1 k2 k3 k5 "ValueError.__new__" ∧ PySem.HandSPX.refsVE bm = true := by
  obtain ⟨oc, od, dt, sl⟩ := o
  unfold excObjB at h
  obtain ⟨h, h3⟩ := He.ba h
  obtain ⟨h1, h2⟩ := He.ba h
  have ec : oc = .type "type" := eq_of_beq h1
  subst ec
  dsimp only at h2 h3
  split at h2
  · rename_i c ed
    obtain ⟨c1, c2, c3, c4, c5, c6, c7, c8, c9, c10, c11⟩ := c
    obtain ⟨h4, h5⟩ := He.ba h2
    obtain ⟨h6, h7⟩ := He.ba h5
    dsimp only at h4 h6 h7
    split at h4
    · rename_i r bm
      obtain ⟨h8, h9⟩ := He.ba h4
      have er : r = .ref C := eq_of_beq h8
      split at h3
      · rename_i a0 a1 a2 a3 n a5 es
        have en : n = "ValueError.__new__" := eq_of_beq h3
        have e7 : c11 = false := by simpa using h7
        have esl : sl = #[a0, a1, a2, a3, some (.builtin n), a5] := by
          apply Array.toList_inj.mp
          exact es
        subst er en e7 esl h6
        exact ⟨c1, c5, c4, c2, bm, c7, c8, c9, c10, od, a0, a1, a2, a3, a5, rfl, h9⟩
      · cases h3
    · cases h4
  · cases h2
structure ClsR (K : PySem.W.Frag) (C E : Addr) : Prop where
  o : OexC K C
  iC : PySem.W.findIn K (.ref C) "__init__" = some (some (.ref (He.ma K C "__init__")))
  tI : PySem.W.typeIn K (.ref (He.ma K C "__init__")) = some (.type "function")
  noR : PySem.W.findIn K (.ref C) "reason" = some none
  xf : XfC K C
  is : (PySem.W.clsIn K C).isSome = true
  cls : PySem.W.findIn K (.ref C) "__class__" = some (some (.builtin "object.__class__"))
  mro : PySem.W.mroIn K C (.type "object") = some true
  kit : PySem.W.kitOne K (.ref C) (.ref C) = some true
  exm : PySem.W.exmOne K (.ref C) (.ref E) = some true
theorem err_ok {K : PySem.W.Frag} {C E : Addr} (h : errB K C E = true) : ClsR K C E := by
  obtain ⟨h1, h⟩ := He.ba h
  obtain ⟨h2, h⟩ := He.ba h
  obtain ⟨h3, h⟩ := He.ba h
  obtain ⟨h4, h⟩ := He.ba h
  obtain ⟨h5, h⟩ := He.ba h
  obtain ⟨h6, h⟩ := He.ba h
  obtain ⟨h7, h⟩ := He.ba h
  obtain ⟨h8, h⟩ := He.ba h
  obtain ⟨h9, h⟩ := He.ba h
  obtain ⟨h10, h⟩ := He.ba h
  obtain ⟨h11, h⟩ := He.ba h
  obtain ⟨h12, h⟩ := He.ba h
  obtain ⟨h13, h14⟩ := He.ba h
  refine ⟨⟨?_, of_decide_eq_true h2, of_decide_eq_true h3, of_decide_eq_true h4, h5⟩, of_decide_eq_true h6, of_decide_eq_true h7, of_decide_eq_true h8, xfB_ok h9, h10, of_decide_eq_true h11, of_decide_eq_true h12, of_decide_eq_true h13, of_decide_eq_true h14⟩
  split at h1
  · rename_i o ho
    obtain ⟨nm, q, N, bs, bm, sn, sub, ab, col, dd, k0, k1, k2, k3, k5, e, r⟩ := excObj_ok h1
    exact ⟨nm, q, N, bs, bm, sn, sub, ab, col, dd, k0, k1, k2, k3, k5, by rw [ho, e], r⟩
  · cases h1
/-- what is told of classmethods and properties -/
structure ClsC (K : PySem.W.Frag) (C : Addr) (ms : List Str) : Prop where
  rd : ClX.CRead K C (.type "type")
  met : ∀ m, m ∈ ms → ClX.CMet K C (.type "type") m (He.ma K C m) (He5.wf K C "classmethod" m)
theorem clm_ok {K : PySem.W.Frag} {C : Addr} {ms : List Str} (h : clmB K C ms = true) : ClsC K C ms := by
  obtain ⟨h1, h⟩ := He.ba h
  obtain ⟨h2, h3⟩ := He.ba h
  refine ⟨⟨h1, of_decide_eq_true h2⟩, fun m z => ?_⟩
  obtain ⟨a, b⟩ := He.ba (List.all_eq_true.mp h3 m z)
  exact He5.cmet_of a b
theorem prop_ok {K : PySem.W.Frag} {C : Addr} {m : Str} (h : propB K C m = true) : PropOf K C m (He.ma K C m) (He5.wf K C "property" m) := by
  obtain ⟨h1, h⟩ := He.ba h
  obtain ⟨h2, h⟩ := He.ba h
  obtain ⟨h3, h4⟩ := He.ba h
  refine ⟨of_decide_eq_true h1, of_decide_eq_true h2, of_decide_eq_true h3, ?_⟩
  split at h4
  · rename_i a rest e
    refine ⟨rest, ?_⟩
    have e2 : He5.wf K C "property" m = a := by
      unfold He5.wf
      rw [e]
    rw [e2]
    exact e
  · cases h4
structure ClsX (K : PySem.W.Frag) : Prop where
  et : ClsR K (He.ga K "InvalidTable") (He.ga K "FeedError")
  ec : ClsR K (He.ga K "InvalidChange") (He.ga K "FeedError")
  most : ∃ u, ClX.CVal K (He.ga K "Table") (.type "type") "MOST_COLUMNS" (.int 4) u
  e3 : ∀ H, TuS K H (kwi "fixed" K) []
  e4 : ∀ H, TuS K H (kwi "unique" K) []
  ct : ClsC K (He.ga K "Table") ["of"]
  cr : ClsC K (He.ga K "Ranges") ["between", "of", "full", "empty"]
  cf : ClsC K (He.ga K "Filter") ["within", "missing", "always", "never"]
  eq : ClsQ K (He.ga K "Ranges")
  sr : PySem.W.selfFirst K (He.ga K "Ranges") = true
  sf : PySem.W.selfFirst K (He.ga K "Filter") = true
  rows : PropOf K (He.ga K "Truth") "rows" (He.ma K (He.ga K "Truth") "rows") (He5.wf K (He.ga K "Truth") "property" "rows")
  stamp : PropOf K (He.ga K "Truth") "stamp" (He.ma K (He.ga K "Truth") "stamp") (He5.wf K (He.ga K "Truth") "property" "stamp")
theorem empty_ok {K : PySem.W.Frag} {a : Addr} (h : emptyB K a = true) (H : Hp) : TuS K H a [] := by
  unfold emptyB at h
  split at h
  · rename_i o ho
    obtain ⟨h1, h2⟩ := He.ba h
    have hc : o.cls = .type "tuple" := eq_of_beq h1
    split at h2
    · rename_i its n hd
      have hz : its.size = 0 := eq_of_beq h2
      have e : its.toList = [] := List.eq_nil_of_length_eq_zero (by simpa using hz)
      exact ⟨.inr ⟨o, its, n, ho, hc, hd, by omega, by rw [e]; exact .nil⟩, .kTuple ho hc⟩
    · cases h2
  · cases h
theorem most_ok {K : PySem.W.Frag} {C : Addr} (h : mostB K C = true) : ∃ u, ClX.CVal K C (.type "type") "MOST_COLUMNS" (.int 4) u := by
  unfold mostB at h
  split at h
  · rename_i i t hi
    have e : i = 4 := of_decide_eq_true h
    subst e
    exact ⟨_, hi, _, rfl⟩
  · cases h
theorem more_ok {K : PySem.W.Frag} (h : moreB K = true) : ClsX K := by
  obtain ⟨h0, h⟩ := He.ba h
  obtain ⟨h1, h⟩ := He.ba h
  obtain ⟨h2, h⟩ := He.ba h
  obtain ⟨h3, h⟩ := He.ba h
  obtain ⟨h4, h⟩ := He.ba h
  obtain ⟨h5, h⟩ := He.ba h
  obtain ⟨h6, h⟩ := He.ba h
  obtain ⟨h7, h⟩ := He.ba h
  obtain ⟨h8, h⟩ := He.ba h
  obtain ⟨h9, h⟩ := He.ba h
  obtain ⟨h10, h⟩ := He.ba h
  obtain ⟨h11, h12⟩ := He.ba h
  exact ⟨err_ok h0, err_ok h1, most_ok h2, fun H => empty_ok h3 H, fun H => empty_ok h4 H, clm_ok h5, clm_ok h6, clm_ok h7, eq_ok h8, h9, h10, prop_ok h11, prop_ok h12⟩
theorem facts {P : Program} {w : World} {K : PySem.W.Frag} {h : Heap} {mg : Str → Option Value} {f : Addr} (X : K.In h) (G : h.Ns mainGlobals mg) (hfa : mg ("law" : Str) = some (.ref f)) (c : ToldX K) :
    ∃ fd : FuncData, (∀ (s : Shared) (v : Value), BindsTo s fd ⟨[v], []⟩ [("_law_script", v)]) ∧ ∀ base : Heap, K.In base → base.Ns mainGlobals mg → FnOk P w K mg base CX0 28 f fd ["_law_script"] (sp_law K) := by
  have g_start_of := He.glo_ok X G (c.fa 0 (f := .glo "start_of") rfl)
  have g_joined := He.glo_ok X G (c.fa 1 (f := .glo "joined") rfl)
  have g_touches := He.glo_ok X G (c.fa 2 (f := .glo "touches") rfl)
  have g_later_end := He.glo_ok X G (c.fa 3 (f := .glo "later_end") rfl)
  have g_gaps := He.glo_ok X G (c.fa 4 (f := .glo "gaps") rfl)
  have g_in_parts := He.glo_ok X G (c.fa 5 (f := .glo "in_parts") rfl)
  have g_all_columns := He.glo_ok X G (c.fa 6 (f := .glo "all_columns") rfl)
  have g_truth_of := He.glo_ok X G (c.fa 7 (f := .glo "truth_of") rfl)
  have g_truth_within := He.glo_ok X G (c.fa 8 (f := .glo "truth_within") rfl)
  have g_both := He.glo_ok X G (c.fa 9 (f := .glo "both") rfl)
  have g_either := He.glo_ok X G (c.fa 10 (f := .glo "either") rfl)
  have g_negated := He.glo_ok X G (c.fa 11 (f := .glo "negated") rfl)
  have g_is_number := He.glo_ok X G (c.fa 12 (f := .glo "is_number") rfl)
  have g_is_value := He.glo_ok X G (c.fa 13 (f := .glo "is_value") rfl)
  have g_is_name := He.glo_ok X G (c.fa 14 (f := .glo "is_name") rfl)
  have g_are_names := He.glo_ok X G (c.fa 15 (f := .glo "are_names") rfl)
  have g_is_key := He.glo_ok X G (c.fa 16 (f := .glo "is_key") rfl)
  have g_are_chosen := He.glo_ok X G (c.fa 17 (f := .glo "are_chosen") rfl)
  have g_in_order_of := He.glo_ok X G (c.fa 18 (f := .glo "in_order_of") rfl)
  have g_rows_by_key := He.glo_ok X G (c.fa 19 (f := .glo "rows_by_key") rfl)
  have g_unique_places := He.glo_ok X G (c.fa 20 (f := .glo "unique_places") rfl)
  have g_why_not := He.glo_ok X G (c.fa 21 (f := .glo "why_not") rfl)
  have g_why_not_inserted := He.glo_ok X G (c.fa 22 (f := .glo "why_not_inserted") rfl)
  have g_why_not_updated := He.glo_ok X G (c.fa 23 (f := .glo "why_not_updated") rfl)
  have g_is_taken := He.glo_ok X G (c.fa 24 (f := .glo "is_taken") rfl)
  have g_pen := He.glo_ok X G (c.fa 25 (f := .glo "_law_pen") rfl)
  have g_draw := He.glo_ok X G (c.fa 26 (f := .glo "_law_draw") rfl)
  have g_ranges := He.glo_ok X G (c.fa 27 (f := .glo "_law_ranges") rfl)
  have g_leaf := He.glo_ok X G (c.fa 28 (f := .glo "_law_leaf") rfl)
  have g_set_of := He.glo_ok X G (c.fa 29 (f := .glo "_law_set_of") rfl)
  have g_numbered := He.glo_ok X G (c.fa 30 (f := .glo "_law_numbered") rfl)
  have g_call := He.glo_ok X G (c.fa 31 (f := .glo "_law_call") rfl)
  have g_condition := He.glo_ok X G (c.fa 32 (f := .glo "_law_condition") rfl)
  have g_grown := He.glo_ok X G (c.fa 33 (f := .glo "_law_grown") rfl)
  have g_row := He.glo_ok X G (c.fa 34 (f := .glo "_law_row") rfl)
  have g_Lboth := He.glo_ok X G (c.fa 35 (f := .glo "_law_both") rfl)
  have g_law := He.glo_ok X G (c.fa 36 (f := .glo "law") rfl)
  have g_InvalidTable := He.glo_ok X G (c.fa 37 (f := .glo "InvalidTable") rfl)
  have g_InvalidChange := He.glo_ok X G (c.fa 38 (f := .glo "InvalidChange") rfl)
  have g_FeedError := He.glo_ok X G (c.fa 39 (f := .glo "FeedError") rfl)
  have g_R := He.glo_ok X G (c.fa 40 (f := .glo "Ranges") rfl)
  have g_CF := He.glo_ok X G (c.fa 41 (f := .glo "Filter") rfl)
  have g_U := He.glo_ok X G (c.fa 42 (f := .glo "Truth") rfl)
  have g_C := He.glo_ok X G (c.fa 43 (f := .glo "Table") rfl)
  have z_abs := He.free_ok X G (c.fa 44 (f := .free "abs") rfl)
  have z_all := He.free_ok X G (c.fa 45 (f := .free "all") rfl)
  have z_any := He.free_ok X G (c.fa 46 (f := .free "any") rfl)
  have z_bool := He.free_ok X G (c.fa 47 (f := .free "bool") rfl)
  have z_dict := He.free_ok X G (c.fa 48 (f := .free "dict") rfl)
  have z_int := He.free_ok X G (c.fa 49 (f := .free "int") rfl)
  have z_isinstance := He.free_ok X G (c.fa 50 (f := .free "isinstance") rfl)
  have z_len := He.free_ok X G (c.fa 51 (f := .free "len") rfl)
  have z_list := He.free_ok X G (c.fa 52 (f := .free "list") rfl)
  have z_max := He.free_ok X G (c.fa 53 (f := .free "max") rfl)
  have z_min := He.free_ok X G (c.fa 54 (f := .free "min") rfl)
  have z_range := He.free_ok X G (c.fa 55 (f := .free "range") rfl)
  have z_set := He.free_ok X G (c.fa 56 (f := .free "set") rfl)
  have z_sorted := He.free_ok X G (c.fa 57 (f := .free "sorted") rfl)
  have z_str := He.free_ok X G (c.fa 58 (f := .free "str") rfl)
  have z_tuple := He.free_ok X G (c.fa 59 (f := .free "tuple") rfl)
  have z_zip := He.free_ok X G (c.fa 60 (f := .free "zip") rfl)
  have cCl := He.cls_ok (c.fa 61 (f := .cls "Table") rfl)
  have cNo_columns := He.noat_ok (c.fa 62 (f := .noat "Table" "columns") rfl)
  have cNo_key := He.noat_ok (c.fa 63 (f := .noat "Table" "key") rfl)
  have cNo_fixed := He.noat_ok (c.fa 64 (f := .noat "Table" "fixed") rfl)
  have cNo_unique := He.noat_ok (c.fa 65 (f := .noat "Table" "unique") rfl)
  have cNo_reuse := He.noat_ok (c.fa 66 (f := .noat "Table" "reuse") rfl)
  have cMk := He.mkr_ok (c.fa 67 (f := .mkr "Table") rfl)
  have mc_is_row := He.meth_ok (c.fa 68 (f := .meth "Table" "is_row") rfl)
  have mc_key_of := He.meth_ok (c.fa 69 (f := .meth "Table" "key_of") rfl)
  have mc_cut := He.meth_ok (c.fa 70 (f := .meth "Table" "cut") rfl)
  have rCl := He.cls_ok (c.fa 71 (f := .cls "Ranges") rfl)
  have rNo_parts := He.noat_ok (c.fa 72 (f := .noat "Ranges" "parts") rfl)
  have rMk := He.mkr_ok (c.fa 73 (f := .mkr "Ranges") rfl)
  have mr_eq := He.meth_ok (c.fa 74 (f := .meth "Ranges" "__eq__") rfl)
  have mr_or := He.meth_ok (c.fa 75 (f := .meth "Ranges" "__or__") rfl)
  have mr_and := He.meth_ok (c.fa 76 (f := .meth "Ranges" "__and__") rfl)
  have mr_sub := He.meth_ok (c.fa 77 (f := .meth "Ranges" "__sub__") rfl)
  have xCl := He.cls_ok (c.fa 78 (f := .cls "Filter") rfl)
  have xNo_tree := He.noat_ok (c.fa 79 (f := .noat "Filter" "tree") rfl)
  have xNo_columns := He.noat_ok (c.fa 80 (f := .noat "Filter" "columns") rfl)
  have xMk := He.mkr_ok (c.fa 81 (f := .mkr "Filter") rfl)
  have mx_and := He.meth_ok (c.fa 82 (f := .meth "Filter" "__and__") rfl)
  have mx_or := He.meth_ok (c.fa 83 (f := .meth "Filter" "__or__") rfl)
  have mx_invert := He.meth_ok (c.fa 84 (f := .meth "Filter" "__invert__") rfl)
  have uCl := He.cls_ok (c.fa 85 (f := .cls "Truth") rfl)
  have uNo_table := He.noat_ok (c.fa 86 (f := .noat "Truth" "table") rfl)
  have uNo_region := He.noat_ok (c.fa 87 (f := .noat "Truth" "region") rfl)
  have uNo_kept := He.noat_ok (c.fa 88 (f := .noat "Truth" "kept") rfl)
  have uNo_owners := He.noat_ok (c.fa 89 (f := .noat "Truth" "owners") rfl)
  have uNo_stamps := He.noat_ok (c.fa 90 (f := .noat "Truth" "stamps") rfl)
  have uNo_changes := He.noat_ok (c.fa 91 (f := .noat "Truth" "changes") rfl)
  have uMk := He.mkr_ok (c.fa 92 (f := .mkr "Truth") rfl)
  have mu_insert := He.meth_ok (c.fa 93 (f := .meth "Truth" "insert") rfl)
  have mu_update := He.meth_ok (c.fa 94 (f := .meth "Truth" "update") rfl)
  have mu_delete := He.meth_ok (c.fa 95 (f := .meth "Truth" "delete") rfl)
  have mu_change := He.meth_ok (c.fa 96 (f := .meth "Truth" "change") rfl)
  have mu_write := He.meth_ok (c.fa 97 (f := .meth "Truth" "write") rfl)
  have mu_row_of := He.meth_ok (c.fa 98 (f := .meth "Truth" "row_of") rfl)
  have mu_stamp_of := He.meth_ok (c.fa 99 (f := .meth "Truth" "stamp_of") rfl)
  have mu_len := He.meth_ok (c.fa 100 (f := .meth "Truth" "__len__") rfl)
  have mu_contains := He.meth_ok (c.fa 101 (f := .meth "Truth" "__contains__") rfl)
  obtain ⟨X_et, X_ec, X_most, X_e3, X_e4, X_ct, X_cr, X_cf, X_eq, X_sr, X_sf, X_rows, X_stamp⟩ := more_ok c.1
  obtain ⟨fd_start_of, F_start_of⟩ := c.fn 0 (a := at1 "start_of") (x := "start_of") (q := "start_of") (st := Fi.s_start_of) rfl
  have B_start_of := F_start_of.binds (ps := ["stretch"]) fun _ _ _ _ _ _ us hl => match us, hl with | [_], _ => rfl
  obtain ⟨fd_joined, F_joined⟩ := c.fn 1 (a := at1 "joined") (x := "joined") (q := "joined") (st := Fi.s_joined) rfl
  have B_joined := F_joined.binds (ps := ["stretches"]) fun _ _ _ _ _ _ us hl => match us, hl with | [_], _ => rfl
  obtain ⟨fd_touches, F_touches⟩ := c.fn 2 (a := at1 "touches") (x := "touches") (q := "touches") (st := Fi.s_touches) rfl
  have B_touches := F_touches.binds (ps := ["part", "low"]) fun _ _ _ _ _ _ us hl => match us, hl with | [_, _], _ => rfl
  obtain ⟨fd_later_end, F_later_end⟩ := c.fn 3 (a := at1 "later_end") (x := "later_end") (q := "later_end") (st := Fi.s_later_end) rfl
  have B_later_end := F_later_end.binds (ps := ["one", "other"]) fun _ _ _ _ _ _ us hl => match us, hl with | [_, _], _ => rfl
  obtain ⟨fd_gaps, F_gaps⟩ := c.fn 4 (a := at1 "gaps") (x := "gaps") (q := "gaps") (st := Fi.s_gaps) rfl
  have B_gaps := F_gaps.binds (ps := ["parts"]) fun _ _ _ _ _ _ us hl => match us, hl with | [_], _ => rfl
  obtain ⟨fd_in_parts, F_in_parts⟩ := c.fn 5 (a := at1 "in_parts") (x := "in_parts") (q := "in_parts") (st := Fi.s_in_parts) rfl
  have B_in_parts := F_in_parts.binds (ps := ["parts", "number"]) fun _ _ _ _ _ _ us hl => match us, hl with | [_, _], _ => rfl
  obtain ⟨fd_all_columns, F_all_columns⟩ := c.fn 6 (a := at1 "all_columns") (x := "all_columns") (q := "all_columns") (st := Fi.s_all_columns) rfl
  have B_all_columns := F_all_columns.binds (ps := ["one", "other"]) fun _ _ _ _ _ _ us hl => match us, hl with | [_, _], _ => rfl
  obtain ⟨fd_truth_of, F_truth_of⟩ := c.fn 7 (a := at1 "truth_of") (x := "truth_of") (q := "truth_of") (st := Fi.s_truth_of) rfl
  have B_truth_of := F_truth_of.binds (ps := ["tree", "values"]) fun _ _ _ _ _ _ us hl => match us, hl with | [_, _], _ => rfl
  obtain ⟨fd_truth_within, F_truth_within⟩ := c.fn 8 (a := at1 "truth_within") (x := "truth_within") (q := "truth_within") (st := Fi.s_truth_within) rfl
  have B_truth_within := F_truth_within.binds (ps := ["value", "parts"]) fun _ _ _ _ _ _ us hl => match us, hl with | [_, _], _ => rfl
  obtain ⟨fd_both, F_both⟩ := c.fn 9 (a := at1 "both") (x := "both") (q := "both") (st := Fi.s_both) rfl
  have B_both := F_both.binds (ps := ["one", "other"]) fun _ _ _ _ _ _ us hl => match us, hl with | [_, _], _ => rfl
  obtain ⟨fd_either, F_either⟩ := c.fn 10 (a := at1 "either") (x := "either") (q := "either") (st := Fi.s_either) rfl
  have B_either := F_either.binds (ps := ["one", "other"]) fun _ _ _ _ _ _ us hl => match us, hl with | [_, _], _ => rfl
  obtain ⟨fd_negated, F_negated⟩ := c.fn 11 (a := at1 "negated") (x := "negated") (q := "negated") (st := Fi.s_negated) rfl
  have B_negated := F_negated.binds (ps := ["truth"]) fun _ _ _ _ _ _ us hl => match us, hl with | [_], _ => rfl
  obtain ⟨fd_is_number, F_is_number⟩ := c.fn 12 (a := at1 "is_number") (x := "is_number") (q := "is_number") (st := s_is_number) rfl
  have B_is_number := F_is_number.binds (ps := ["thing"]) fun _ _ _ _ _ _ us hl => match us, hl with | [_], _ => rfl
  obtain ⟨fd_is_value, F_is_value⟩ := c.fn 13 (a := at1 "is_value") (x := "is_value") (q := "is_value") (st := s_is_value) rfl
  have B_is_value := F_is_value.binds (ps := ["thing"]) fun _ _ _ _ _ _ us hl => match us, hl with | [_], _ => rfl
  obtain ⟨fd_is_name, F_is_name⟩ := c.fn 14 (a := at1 "is_name") (x := "is_name") (q := "is_name") (st := s_is_name) rfl
  have B_is_name := F_is_name.binds (ps := ["thing"]) fun _ _ _ _ _ _ us hl => match us, hl with | [_], _ => rfl
  obtain ⟨fd_are_names, F_are_names⟩ := c.fn 15 (a := at1 "are_names") (x := "are_names") (q := "are_names") (st := s_are_names) rfl
  have B_are_names := F_are_names.binds (ps := ["things"]) fun _ _ _ _ _ _ us hl => match us, hl with | [_], _ => rfl
  obtain ⟨fd_is_key, F_is_key⟩ := c.fn 16 (a := at1 "is_key") (x := "is_key") (q := "is_key") (st := s_is_key) rfl
  have B_is_key := F_is_key.binds (ps := ["thing", "size"]) fun _ _ _ _ _ _ us hl => match us, hl with | [_, _], _ => rfl
  obtain ⟨fd_are_chosen, F_are_chosen⟩ := c.fn 17 (a := at1 "are_chosen") (x := "are_chosen") (q := "are_chosen") (st := s_are_chosen) rfl
  have B_are_chosen := F_are_chosen.binds (ps := ["names", "columns"]) fun _ _ _ _ _ _ us hl => match us, hl with | [_, _], _ => rfl
  obtain ⟨fd_in_order_of, F_in_order_of⟩ := c.fn 18 (a := at1 "in_order_of") (x := "in_order_of") (q := "in_order_of") (st := s_in_order_of) rfl
  have B_in_order_of := F_in_order_of.binds (ps := ["columns", "names"]) fun _ _ _ _ _ _ us hl => match us, hl with | [_, _], _ => rfl
  obtain ⟨fd_rows_by_key, F_rows_by_key⟩ := c.fn 19 (a := at1 "rows_by_key") (x := "rows_by_key") (q := "rows_by_key") (st := s_rows_by_key) rfl
  have B_rows_by_key := F_rows_by_key.binds (ps := ["kept"]) fun _ _ _ _ _ _ us hl => match us, hl with | [_], _ => rfl
  obtain ⟨fd_unique_places, F_unique_places⟩ := c.fn 20 (a := at1 "unique_places") (x := "unique_places") (q := "unique_places") (st := s_unique_places) rfl
  have B_unique_places := F_unique_places.binds (ps := ["table", "row"]) fun _ _ _ _ _ _ us hl => match us, hl with | [_, _], _ => rfl
  obtain ⟨fd_why_not, F_why_not⟩ := c.fn 21 (a := at1 "why_not") (x := "why_not") (q := "why_not") (st := s_why_not) rfl
  have B_why_not := F_why_not.binds (ps := ["truth", "word", "thing"]) fun _ _ _ _ _ _ us hl => match us, hl with | [_, _, _], _ => rfl
  obtain ⟨fd_why_not_inserted, F_why_not_inserted⟩ := c.fn 22 (a := at1 "why_not_inserted") (x := "why_not_inserted") (q := "why_not_inserted") (st := s_why_not_inserted) rfl
  have B_why_not_inserted := F_why_not_inserted.binds (ps := ["truth", "key", "row"]) fun _ _ _ _ _ _ us hl => match us, hl with | [_, _, _], _ => rfl
  obtain ⟨fd_why_not_updated, F_why_not_updated⟩ := c.fn 23 (a := at1 "why_not_updated") (x := "why_not_updated") (q := "why_not_updated") (st := s_why_not_updated) rfl
  have B_why_not_updated := F_why_not_updated.binds (ps := ["truth", "key", "row"]) fun _ _ _ _ _ _ us hl => match us, hl with | [_, _, _], _ => rfl
  obtain ⟨fd_is_taken, F_is_taken⟩ := c.fn 24 (a := at1 "is_taken") (x := "is_taken") (q := "is_taken") (st := s_is_taken) rfl
  have B_is_taken := F_is_taken.binds (ps := ["truth", "key", "row"]) fun _ _ _ _ _ _ us hl => match us, hl with | [_, _, _], _ => rfl
  obtain ⟨fd_pen, F_pen⟩ := c.fn 25 (a := at1 "_law_pen") (x := "_law_pen") (q := "_law_pen") (st := s_pen) rfl
  have B_pen := F_pen.binds (ps := ["_law_script"]) fun _ _ _ _ _ _ us hl => match us, hl with | [_], _ => rfl
  obtain ⟨fd_draw, F_draw⟩ := c.fn 26 (a := at1 "_law_draw") (x := "_law_draw") (q := "_law_draw") (st := s_draw) rfl
  have B_draw := F_draw.binds (ps := ["_law_pen_here", "_law_many"]) fun _ _ _ _ _ _ us hl => match us, hl with | [_, _], _ => rfl
  obtain ⟨fd_ranges, F_ranges⟩ := c.fn 27 (a := at1 "_law_ranges") (x := "_law_ranges") (q := "_law_ranges") (st := Fi.s_ranges) rfl
  have B_ranges := F_ranges.binds (ps := ["_law_pen_here"]) fun _ _ _ _ _ _ us hl => match us, hl with | [_], _ => rfl
  obtain ⟨fd_leaf, F_leaf⟩ := c.fn 28 (a := at1 "_law_leaf") (x := "_law_leaf") (q := "_law_leaf") (st := Fi.s_leaf) rfl
  have B_leaf := F_leaf.binds (ps := ["_law_pen_here", "_law_columns"]) fun _ _ _ _ _ _ us hl => match us, hl with | [_, _], _ => rfl
  obtain ⟨fd_set_of, F_set_of⟩ := c.fn 29 (a := at1 "_law_set_of") (x := "_law_set_of") (q := "_law_set_of") (st := Fi.s_set_of) rfl
  have B_set_of := F_set_of.binds (ps := ["_law_parts"]) fun _ _ _ _ _ _ us hl => match us, hl with | [_], _ => rfl
  obtain ⟨fd_numbered, F_numbered⟩ := c.fn 30 (a := at1 "_law_numbered") (x := "_law_numbered") (q := "_law_numbered") (st := Fi.s_numbered) rfl
  have B_numbered := F_numbered.binds (ps := ["_law_tree", "_law_values"]) fun _ _ _ _ _ _ us hl => match us, hl with | [_, _], _ => rfl
  obtain ⟨fd_call, F_call⟩ := c.fn 31 (a := at1 "_law_call") (x := "_law_call") (q := "_law_call") (st := s_call) rfl
  have B_call := F_call.binds (ps := ["_law_truth", "_law_word", "_law_thing"]) fun _ _ _ _ _ _ us hl => match us, hl with | [_, _, _], _ => rfl
  obtain ⟨fd_condition, F_condition⟩ := c.fn 32 (a := at1 "_law_condition") (x := "_law_condition") (q := "_law_condition") (st := Fi.s_condition) rfl
  have B_condition := F_condition.binds (ps := ["_law_tree"]) fun _ _ _ _ _ _ us hl => match us, hl with | [_], _ => rfl
  obtain ⟨fd_grown, F_grown⟩ := c.fn 33 (a := at1 "_law_grown") (x := "_law_grown") (q := "_law_grown") (st := Fi.s_grown) rfl
  have B_grown := F_grown.binds (ps := ["_law_pen_here", "_law_keyed", "_law_left", "_law_deep"]) fun _ _ _ _ _ _ us hl => match us, hl with | [_, _, _, _], _ => rfl
  obtain ⟨fd_row, F_row⟩ := c.fn 34 (a := at1 "_law_row") (x := "_law_row") (q := "_law_row") (st := s_row) rfl
  have B_row := F_row.binds (ps := ["_law_pen_here", "_law_columns"]) fun _ _ _ _ _ _ us hl => match us, hl with | [_, _], _ => rfl
  obtain ⟨fd_Lboth, F_Lboth⟩ := c.fn 35 (a := at1 "_law_both") (x := "_law_both") (q := "_law_both") (st := s_Lboth) rfl
  have B_Lboth := F_Lboth.binds (ps := ["_law_one", "_law_other"]) fun _ _ _ _ _ _ us hl => match us, hl with | [_, _], _ => rfl
  obtain ⟨fd_law, D_law⟩ := He5.SaysA.def_ c.2 36 (d := dfn (at1 "law") "law" "law" s_law) rfl
  have F_law : Fun K "law" "law" s_law (He.ga K "law") fd_law := He5.fun_of D_law
  have bl := FunD.bindsA (ps := ["_law_script"]) D_law fun _ _ _ _ _ _ us hl => match us, hl with | [_], _ => rfl
  obtain ⟨fd_iinit, F_iinit⟩ : ∃ fd, Fun K "__init__" "InvalidTable.__init__" s_InvalidTable__init (He.ma K (He.ga K "InvalidTable") "__init__") fd := c.fn 37 (a := atM "InvalidTable" "__init__") (x := "__init__") (q := "InvalidTable.__init__") (st := s_InvalidTable__init) rfl
  have B_iinit := F_iinit.binds (ps := ["self", "reason"]) fun _ _ _ _ _ _ us hl => match us, hl with | [_, _], _ => rfl
  obtain ⟨fd_cinit, F_cinit⟩ : ∃ fd, Fun K "__init__" "InvalidChange.__init__" s_InvalidChange__init (He.ma K (He.ga K "InvalidChange") "__init__") fd := c.fn 38 (a := atM "InvalidChange" "__init__") (x := "__init__") (q := "InvalidChange.__init__") (st := s_InvalidChange__init) rfl
  have B_cinit := F_cinit.binds (ps := ["self", "reason"]) fun _ _ _ _ _ _ us hl => match us, hl with | [_, _], _ => rfl
  obtain ⟨fd_rinit, F_rinit⟩ : ∃ fd, Fun K "__init__" "Ranges.__init__" Fi.s_Ranges__init (He.ma K (He.ga K "Ranges") "__init__") fd := c.fn 39 (a := atM "Ranges" "__init__") (x := "__init__") (q := "Ranges.__init__") (st := Fi.s_Ranges__init) rfl
  have B_rinit := F_rinit.binds (ps := ["self", "parts"]) fun _ _ _ _ _ _ us hl => match us, hl with | [_, _], _ => rfl
  obtain ⟨fd_ror, F_ror⟩ : ∃ fd, Fun K "__or__" "Ranges.__or__" Fi.s_Ranges__or (He.ma K (He.ga K "Ranges") "__or__") fd := c.fn 40 (a := atM "Ranges" "__or__") (x := "__or__") (q := "Ranges.__or__") (st := Fi.s_Ranges__or) rfl
  have B_ror := F_ror.binds (ps := ["self", "other"]) fun _ _ _ _ _ _ us hl => match us, hl with | [_, _], _ => rfl
  obtain ⟨fd_rsub, F_rsub⟩ : ∃ fd, Fun K "__sub__" "Ranges.__sub__" Fi.s_Ranges__sub (He.ma K (He.ga K "Ranges") "__sub__") fd := c.fn 41 (a := atM "Ranges" "__sub__") (x := "__sub__") (q := "Ranges.__sub__") (st := Fi.s_Ranges__sub) rfl
  have B_rsub := F_rsub.binds (ps := ["self", "other"]) fun _ _ _ _ _ _ us hl => match us, hl with | [_, _], _ => rfl
  obtain ⟨fd_xinit, F_xinit⟩ : ∃ fd, Fun K "__init__" "Filter.__init__" Fi.s_Filter__init (He.ma K (He.ga K "Filter") "__init__") fd := c.fn 42 (a := atM "Filter" "__init__") (x := "__init__") (q := "Filter.__init__") (st := Fi.s_Filter__init) rfl
  have B_xinit := F_xinit.binds (ps := ["self", "tree", "columns"]) fun _ _ _ _ _ _ us hl => match us, hl with | [_, _, _], _ => rfl
  obtain ⟨fd_xand, F_xand⟩ : ∃ fd, Fun K "__and__" "Filter.__and__" Fi.s_Filter__and (He.ma K (He.ga K "Filter") "__and__") fd := c.fn 43 (a := atM "Filter" "__and__") (x := "__and__") (q := "Filter.__and__") (st := Fi.s_Filter__and) rfl
  have B_xand := F_xand.binds (ps := ["self", "other"]) fun _ _ _ _ _ _ us hl => match us, hl with | [_, _], _ => rfl
  obtain ⟨fd_xor, F_xor⟩ : ∃ fd, Fun K "__or__" "Filter.__or__" Fi.s_Filter__or (He.ma K (He.ga K "Filter") "__or__") fd := c.fn 44 (a := atM "Filter" "__or__") (x := "__or__") (q := "Filter.__or__") (st := Fi.s_Filter__or) rfl
  have B_xor := F_xor.binds (ps := ["self", "other"]) fun _ _ _ _ _ _ us hl => match us, hl with | [_, _], _ => rfl
  obtain ⟨fd_xinvert, F_xinvert⟩ : ∃ fd, Fun K "__invert__" "Filter.__invert__" Fi.s_Filter__invert (He.ma K (He.ga K "Filter") "__invert__") fd := c.fn 45 (a := atM "Filter" "__invert__") (x := "__invert__") (q := "Filter.__invert__") (st := Fi.s_Filter__invert) rfl
  have B_xinvert := F_xinvert.binds (ps := ["self"]) fun _ _ _ _ _ _ us hl => match us, hl with | [_], _ => rfl
  obtain ⟨fd_init, D_init0⟩ := He5.SaysA.def_ c.2 46 (d := dfi (atM "Table" "__init__") "__init__" "Table.__init__" s_Table__init) rfl
  have F_init : Fun K "__init__" "Table.__init__" s_Table__init (He.ma K (He.ga K "Table") "__init__") fd_init := He5.fun_of D_init0
  have D_init : FunD K "__init__" "Table.__init__" (defArgs s_Table__init) (defBody s_Table__init) (defScope s_Table__init) [] [("fixed", .ref (kwi "fixed" K)), ("unique", .ref (kwi "unique" K)), ("reuse", .bl true)] (He.ma K (He.ga K "Table") "__init__") fd_init := D_init0
  obtain ⟨fd_is_row, F_is_row⟩ : ∃ fd, Fun K "is_row" "Table.is_row" s_Table_is_row (He.ma K (He.ga K "Table") "is_row") fd := c.fn 47 (a := atM "Table" "is_row") (x := "is_row") (q := "Table.is_row") (st := s_Table_is_row) rfl
  have B_is_row := F_is_row.binds (ps := ["self", "thing"]) fun _ _ _ _ _ _ us hl => match us, hl with | [_, _], _ => rfl
  obtain ⟨fd_key_of, F_key_of⟩ : ∃ fd, Fun K "key_of" "Table.key_of" s_Table_key_of (He.ma K (He.ga K "Table") "key_of") fd := c.fn 48 (a := atM "Table" "key_of") (x := "key_of") (q := "Table.key_of") (st := s_Table_key_of) rfl
  have B_key_of := F_key_of.binds (ps := ["self", "row"]) fun _ _ _ _ _ _ us hl => match us, hl with | [_, _], _ => rfl
  obtain ⟨fd_cut, F_cut⟩ : ∃ fd, Fun K "cut" "Table.cut" s_Table_cut (He.ma K (He.ga K "Table") "cut") fd := c.fn 49 (a := atM "Table" "cut") (x := "cut") (q := "Table.cut") (st := s_Table_cut) rfl
  have B_cut := F_cut.binds (ps := ["self", "row", "columns"]) fun _ _ _ _ _ _ us hl => match us, hl with | [_, _, _], _ => rfl
  obtain ⟨fd_uinit, F_uinit⟩ : ∃ fd, Fun K "__init__" "Truth.__init__" s_Truth__init (He.ma K (He.ga K "Truth") "__init__") fd := c.fn 50 (a := atM "Truth" "__init__") (x := "__init__") (q := "Truth.__init__") (st := s_Truth__init) rfl
  have B_uinit := F_uinit.binds (ps := ["self", "table", "region"]) fun _ _ _ _ _ _ us hl => match us, hl with | [_, _, _], _ => rfl
  obtain ⟨fd_uinsert, F_uinsert⟩ : ∃ fd, Fun K "insert" "Truth.insert" s_Truth_insert (He.ma K (He.ga K "Truth") "insert") fd := c.fn 51 (a := atM "Truth" "insert") (x := "insert") (q := "Truth.insert") (st := s_Truth_insert) rfl
  have B_uinsert := F_uinsert.binds (ps := ["self", "row"]) fun _ _ _ _ _ _ us hl => match us, hl with | [_, _], _ => rfl
  obtain ⟨fd_uupdate, F_uupdate⟩ : ∃ fd, Fun K "update" "Truth.update" s_Truth_update (He.ma K (He.ga K "Truth") "update") fd := c.fn 52 (a := atM "Truth" "update") (x := "update") (q := "Truth.update") (st := s_Truth_update) rfl
  have B_uupdate := F_uupdate.binds (ps := ["self", "row"]) fun _ _ _ _ _ _ us hl => match us, hl with | [_, _], _ => rfl
  obtain ⟨fd_udelete, F_udelete⟩ : ∃ fd, Fun K "delete" "Truth.delete" s_Truth_delete (He.ma K (He.ga K "Truth") "delete") fd := c.fn 53 (a := atM "Truth" "delete") (x := "delete") (q := "Truth.delete") (st := s_Truth_delete) rfl
  have B_udelete := F_udelete.binds (ps := ["self", "key"]) fun _ _ _ _ _ _ us hl => match us, hl with | [_, _], _ => rfl
  obtain ⟨fd_uchange, F_uchange⟩ : ∃ fd, Fun K "change" "Truth.change" s_Truth_change (He.ma K (He.ga K "Truth") "change") fd := c.fn 54 (a := atM "Truth" "change") (x := "change") (q := "Truth.change") (st := s_Truth_change) rfl
  have B_uchange := F_uchange.binds (ps := ["self", "word", "thing"]) fun _ _ _ _ _ _ us hl => match us, hl with | [_, _, _], _ => rfl
  obtain ⟨fd_uwrite, F_uwrite⟩ : ∃ fd, Fun K "write" "Truth.write" s_Truth_write (He.ma K (He.ga K "Truth") "write") fd := c.fn 55 (a := atM "Truth" "write") (x := "write") (q := "Truth.write") (st := s_Truth_write) rfl
  have B_uwrite := F_uwrite.binds (ps := ["self", "key", "old", "new"]) fun _ _ _ _ _ _ us hl => match us, hl with | [_, _, _, _], _ => rfl
  obtain ⟨fd_urows, F_urows⟩ : ∃ fd, Fun K "rows" "Truth.rows" s_Truth_rows (He5.wf K (He.ga K "Truth") "property" "rows") fd := c.fn 56 (a := atP "Truth" "rows") (x := "rows") (q := "Truth.rows") (st := s_Truth_rows) rfl
  have B_urows := F_urows.binds (ps := ["self"]) fun _ _ _ _ _ _ us hl => match us, hl with | [_], _ => rfl
  obtain ⟨fd_ustamp, F_ustamp⟩ : ∃ fd, Fun K "stamp" "Truth.stamp" s_Truth_stamp (He5.wf K (He.ga K "Truth") "property" "stamp") fd := c.fn 57 (a := atP "Truth" "stamp") (x := "stamp") (q := "Truth.stamp") (st := s_Truth_stamp) rfl
  have B_ustamp := F_ustamp.binds (ps := ["self"]) fun _ _ _ _ _ _ us hl => match us, hl with | [_], _ => rfl
  obtain ⟨fd_urow_of, F_urow_of⟩ : ∃ fd, Fun K "row_of" "Truth.row_of" s_Truth_row_of (He.ma K (He.ga K "Truth") "row_of") fd := c.fn 58 (a := atM "Truth" "row_of") (x := "row_of") (q := "Truth.row_of") (st := s_Truth_row_of) rfl
  have B_urow_of := F_urow_of.binds (ps := ["self", "key"]) fun _ _ _ _ _ _ us hl => match us, hl with | [_, _], _ => rfl
  obtain ⟨fd_ustamp_of, F_ustamp_of⟩ : ∃ fd, Fun K "stamp_of" "Truth.stamp_of" s_Truth_stamp_of (He.ma K (He.ga K "Truth") "stamp_of") fd := c.fn 59 (a := atM "Truth" "stamp_of") (x := "stamp_of") (q := "Truth.stamp_of") (st := s_Truth_stamp_of) rfl
  have B_ustamp_of := F_ustamp_of.binds (ps := ["self", "key"]) fun _ _ _ _ _ _ us hl => match us, hl with | [_, _], _ => rfl
  obtain ⟨fd_ulen, F_ulen⟩ : ∃ fd, Fun K "__len__" "Truth.__len__" s_Truth__len (He.ma K (He.ga K "Truth") "__len__") fd := c.fn 60 (a := atM "Truth" "__len__") (x := "__len__") (q := "Truth.__len__") (st := s_Truth__len) rfl
  have B_ulen := F_ulen.binds (ps := ["self"]) fun _ _ _ _ _ _ us hl => match us, hl with | [_], _ => rfl
  obtain ⟨fd_ucontains, F_ucontains⟩ : ∃ fd, Fun K "__contains__" "Truth.__contains__" s_Truth__contains (He.ma K (He.ga K "Truth") "__contains__") fd := c.fn 61 (a := atM "Truth" "__contains__") (x := "__contains__") (q := "Truth.__contains__") (st := s_Truth__contains) rfl
  have B_ucontains := F_ucontains.binds (ps := ["self", "key"]) fun _ _ _ _ _ _ us hl => match us, hl with | [_, _], _ => rfl
  obtain ⟨fd_rof, F_rof⟩ : ∃ fd, Fun K "of" "Ranges.of" Fi.s_Ranges_of (He5.wf K (He.ga K "Ranges") "classmethod" "of") fd := c.fn 62 (a := atC "Ranges" "of") (x := "of") (q := "Ranges.of") (st := Fi.s_Ranges_of) rfl
  obtain ⟨fd_rbetween, F_rbetween⟩ : ∃ fd, Fun K "between" "Ranges.between" Fi.s_Ranges_between (He5.wf K (He.ga K "Ranges") "classmethod" "between") fd := c.fn 63 (a := atC "Ranges" "between") (x := "between") (q := "Ranges.between") (st := Fi.s_Ranges_between) rfl
  have B_rbetween := F_rbetween.binds (ps := ["cls", "low", "high"]) fun _ _ _ _ _ _ us hl => match us, hl with | [_, _, _], _ => rfl
  obtain ⟨fd_rfull, F_rfull⟩ : ∃ fd, Fun K "full" "Ranges.full" Fi.s_Ranges_full (He5.wf K (He.ga K "Ranges") "classmethod" "full") fd := c.fn 64 (a := atC "Ranges" "full") (x := "full") (q := "Ranges.full") (st := Fi.s_Ranges_full) rfl
  have B_rfull := F_rfull.binds (ps := ["cls"]) fun _ _ _ _ _ _ us hl => match us, hl with | [_], _ => rfl
  obtain ⟨fd_rempty, F_rempty⟩ : ∃ fd, Fun K "empty" "Ranges.empty" Fi.s_Ranges_empty (He5.wf K (He.ga K "Ranges") "classmethod" "empty") fd := c.fn 65 (a := atC "Ranges" "empty") (x := "empty") (q := "Ranges.empty") (st := Fi.s_Ranges_empty) rfl
  have B_rempty := F_rempty.binds (ps := ["cls"]) fun _ _ _ _ _ _ us hl => match us, hl with | [_], _ => rfl
  obtain ⟨fd_xwithin, F_xwithin⟩ : ∃ fd, Fun K "within" "Filter.within" Fi.s_Filter_within (He5.wf K (He.ga K "Filter") "classmethod" "within") fd := c.fn 66 (a := atC "Filter" "within") (x := "within") (q := "Filter.within") (st := Fi.s_Filter_within) rfl
  have B_xwithin := F_xwithin.binds (ps := ["cls", "column", "ranges"]) fun _ _ _ _ _ _ us hl => match us, hl with | [_, _, _], _ => rfl
  obtain ⟨fd_xmissing, F_xmissing⟩ : ∃ fd, Fun K "missing" "Filter.missing" Fi.s_Filter_missing (He5.wf K (He.ga K "Filter") "classmethod" "missing") fd := c.fn 67 (a := atC "Filter" "missing") (x := "missing") (q := "Filter.missing") (st := Fi.s_Filter_missing) rfl
  have B_xmissing := F_xmissing.binds (ps := ["cls", "column"]) fun _ _ _ _ _ _ us hl => match us, hl with | [_, _], _ => rfl
  obtain ⟨fd_xalways, F_xalways⟩ : ∃ fd, Fun K "always" "Filter.always" Fi.s_Filter_always (He5.wf K (He.ga K "Filter") "classmethod" "always") fd := c.fn 68 (a := atC "Filter" "always") (x := "always") (q := "Filter.always") (st := Fi.s_Filter_always) rfl
  have B_xalways := F_xalways.binds (ps := ["cls"]) fun _ _ _ _ _ _ us hl => match us, hl with | [_], _ => rfl
  obtain ⟨fd_xnever, F_xnever⟩ : ∃ fd, Fun K "never" "Filter.never" Fi.s_Filter_never (He5.wf K (He.ga K "Filter") "classmethod" "never") fd := c.fn 69 (a := atC "Filter" "never") (x := "never") (q := "Filter.never") (st := Fi.s_Filter_never) rfl
  have B_xnever := F_xnever.binds (ps := ["cls"]) fun _ _ _ _ _ _ us hl => match us, hl with | [_], _ => rfl
  generalize eC : He.ga K "Table" = C at *
  generalize eR : He.ga K "Ranges" = R at *
  generalize eD : He.ga K "Filter" = D at *
  generalize eU : He.ga K "Truth" = U at *
  have e := hfa.symm.trans g_law
  cases e
  have T : ClsT K mg C (He.ma K C "__init__") (.type "type") _ _ := ⟨cCl, cNo_columns, cNo_key, cNo_fixed, cNo_unique, cNo_reuse, cMk, g_C, X_ct.rd, X_ct.met "of" (by decide), X_most⟩
  have XI : XIt K mg (He.ga K "InvalidTable") (He.ma K (He.ga K "InvalidTable") "__init__") := ⟨X_et.o, X_et.iC, X_et.tI, g_InvalidTable, X_et.noR⟩
  have XC : XCt K mg (He.ga K "InvalidChange") (He.ma K (He.ga K "InvalidChange") "__init__") := ⟨X_ec.o, X_ec.iC, X_ec.tI, g_InvalidChange, X_ec.noR⟩
  have XE : XEc K mg (He.ga K "InvalidChange") (He.ga K "FeedError") := ⟨X_ec.xf, ⟨X_ec.is, X_ec.xf.ga, X_ec.xf.gg, X_ec.xf.exC, X_ec.cls, X_eq.get, X_eq.tk, X_ec.mro⟩, X_ec.kit, X_ec.exm, g_FeedError⟩
  have CN : ClsN K C (He.ma K C "is_row") (He.ma K C "key_of") (He.ma K C "cut") := ⟨mc_is_row, mc_key_of, mc_cut⟩
  have TR : Fi.ClsT K mg R (He.ma K R "__init__") (He.ma K R "__eq__") := ⟨rCl, rNo_parts, rMk, g_R, X_sr, ⟨mr_eq.1, X_eq.ne, mr_eq.2, ⟨X_eq.ob, X_eq.sub _ (by decide), X_eq.sub _ (by decide), X_eq.sub _ (by decide), X_eq.sub _ (by decide), X_eq.sub _ (by decide), X_eq.sub _ (by decide)⟩⟩, X_eq.cls, X_eq.get, X_eq.tk, X_eq.mro, X_eq.own,
    X_eq.kit _ (by decide), X_eq.kit _ (by decide), X_eq.kit _ (by decide), X_eq.kit _ (by decide), X_eq.kit _ (by decide), X_eq.kit _ (by decide)⟩
  have TF : Fi.ClsF K mg D (He.ma K D "__init__") := ⟨xCl, xNo_tree, xNo_columns, xMk, g_CF⟩
  have CM : Fi.ClsM K R (.type "type") _ _ _ _ _ _ _ _ (He.ma K R "__or__") := ⟨X_cr.rd, X_cr.met "empty" (by decide), X_cr.met "between" (by decide), X_cr.met "of" (by decide), X_cr.met "full" (by decide), X_sr, mr_or.1, mr_or.2⟩
  have CN2 : Fi.ClsN K R (He.ma K R "__and__") (He.ma K R "__sub__") := ⟨mr_and.1, mr_and.2, mr_sub.1, mr_sub.2⟩
  have CF : Fi.ClsG K D (.type "type") _ _ _ _ _ _ _ _ (He.ma K D "__and__") (He.ma K D "__or__") (He.ma K D "__invert__") (0 : Addr) := ⟨X_cf.rd, X_cf.met "within" (by decide), X_cf.met "missing" (by decide), X_cf.met "always" (by decide), X_cf.met "never" (by decide), X_sf, mx_and.1, mx_and.2, mx_or.1, mx_or.2, mx_invert.1, mx_invert.2⟩
  have TU : ClsU K mg U (He.ma K U "__init__") := ⟨uCl, uNo_table, uNo_region, uNo_kept, uNo_owners, uNo_stamps, uNo_changes, uMk, g_U⟩
  have UN : ClsUN K U (He.ma K U "insert") (He.ma K U "update") (He.ma K U "delete") (He.ma K U "change") (He.ma K U "write") (He.ma K U "row_of") (He.ma K U "stamp_of") (He.ma K U "__len__") (He.ma K U "__contains__") := ⟨mu_insert, mu_update, mu_delete, mu_change, mu_write, mu_row_of, mu_stamp_of, mu_len.1, mu_len.2, mu_contains.1, mu_contains.2⟩
  refine ⟨fd_law, fun s v => bl s [v] rfl, fun base _ _ => ?_⟩
  have G_iinit := ok_iinit (P := P) (w := w) (mg := mg) (base := base) F_iinit XI
  have G_cinit := ok_cinit (P := P) (w := w) (mg := mg) (base := base) F_cinit XC
  have G_is_number := ok_is_number (P := P) (w := w) (mg := mg) (base := base) F_is_number z_isinstance z_int z_bool
  have G_is_value := ok_is_value (P := P) (w := w) (mg := mg) (base := base) F_is_value F_is_number B_is_number g_is_number G_is_number z_abs
  have G_is_name := ok_is_name (P := P) (w := w) (mg := mg) (base := base) F_is_name z_isinstance z_str z_len z_all
  have G_are_names := ok_are_names (P := P) (w := w) (mg := mg) (base := base) F_are_names F_is_name B_is_name g_is_name G_is_name z_len z_all z_set
  have G_are_chosen := ok_are_chosen (P := P) (w := w) (mg := mg) (base := base) F_are_chosen z_isinstance z_tuple z_str z_len z_all z_set
  have G_in_order_of := ok_in_order_of (P := P) (w := w) (mg := mg) (base := base) F_in_order_of z_tuple
  have FI1 := ok_tinit1 D_init T XI B_iinit G_iinit F_are_names B_are_names g_are_names G_are_names F_are_chosen B_are_chosen g_are_chosen G_are_chosen F_in_order_of B_in_order_of g_in_order_of G_in_order_of z_len
  have R_is_row : FnR P w K mg base CX0 3 (He.ma K C "is_row") (mR K C) := FnOk.raw (ok_is_row F_is_row T F_is_value B_is_value g_is_value G_is_value z_isinstance z_tuple z_len z_all z_zip) B_is_row .nil
  have R_cut : FnR P w K mg base CX0 1 (He.ma K C "cut") (mC K C) := FnOk.raw (ok_cut F_cut T z_tuple) B_cut .nil
  have R_key_of : FnR P w K mg base CX0 2 (He.ma K C "key_of") (mY C) := FnOk.raw (ok_key_of F_key_of T CN R_cut) B_key_of .nil
  have G_joined := Fi.ok_joined (P := P) (w := w) (mg := mg) (base := base) F_joined F_start_of B_start_of g_start_of F_touches B_touches g_touches F_later_end B_later_end g_later_end z_max z_sorted z_tuple
  have RR : Fi.ClsR P w K mg base R _ _ _ _ (He.ma K R "__or__") (He.ma K R "__eq__") := ⟨FnOk.raw (Fi.ok_empty F_rempty F_rinit B_rinit TR) B_rempty .nil, FnOk.raw (Fi.ok_between F_rbetween F_rinit B_rinit TR) B_rbetween .nil, Fi.ok_of F_rof F_rinit B_rinit TR F_joined B_joined g_joined G_joined, FnOk.raw (Fi.ok_full F_rfull F_rinit B_rinit TR) B_rfull .nil, FnOk.raw (Fi.ok_or F_ror F_rinit B_rinit TR F_joined B_joined g_joined G_joined) B_ror .nil⟩
  have RR_sub : FnR P w K mg base CX0 5 (He.ma K R "__sub__") (Fi.mSub R) := FnOk.raw (Fi.ok_sub F_rsub F_rinit B_rinit TR F_joined B_joined g_joined G_joined F_gaps B_gaps g_gaps z_tuple) B_rsub .nil
  have G_in_parts := Fi.ok_in_parts (P := P) (w := w) (mg := mg) (base := base) F_in_parts z_len
  have G_truth_within := Fi.ok_truth_within (P := P) (w := w) (mg := mg) (base := base) F_truth_within F_in_parts B_in_parts g_in_parts G_in_parts
  have G_both := Fi.ok_both (P := P) (w := w) (mg := mg) (base := base) F_both
  have G_either := Fi.ok_either (P := P) (w := w) (mg := mg) (base := base) F_either
  have G_negated := Fi.ok_negated (P := P) (w := w) (mg := mg) (base := base) F_negated
  have G_truth_of := Fi.ok_truth (P := P) (w := w) (mg := mg) (base := base) F_truth_of B_truth_of g_truth_of F_truth_within B_truth_within g_truth_within G_truth_within F_both B_both g_both G_both F_either B_either g_either G_either F_negated B_negated g_negated G_negated 20
  have G_all_columns := Fi.ok_all_columns (P := P) (w := w) (mg := mg) (base := base) F_all_columns z_tuple z_sorted z_set
  have RF : Fi.ClsH P w K mg base R D _ _ _ _ (He.ma K D "__and__") (He.ma K D "__or__") (He.ma K D "__invert__") (0 : Addr) := ⟨FnOk.raw (Fi.ok_fwithin F_xwithin F_xinit B_xinit TF TR) B_xwithin .nil, FnOk.raw (Fi.ok_fmissing F_xmissing F_xinit B_xinit TF) B_xmissing .nil, FnOk.raw (Fi.ok_falways F_xalways F_xinit B_xinit TF) B_xalways .nil, FnOk.raw (Fi.ok_fnever F_xnever F_xinit B_xinit TF) B_xnever .nil, FnOk.raw (Fi.ok_fand F_xand F_xinit B_xinit TF F_all_columns B_all_columns g_all_columns G_all_columns) B_xand .nil, FnOk.raw (Fi.ok_for F_xor F_xinit B_xinit TF F_all_columns B_all_columns g_all_columns G_all_columns) B_xor .nil, FnOk.raw (Fi.ok_finv F_xinvert F_xinit B_xinit TF) B_xinvert .nil⟩
  have G_is_key := ok_is_key F_is_key F_is_value B_is_value g_is_value G_is_value z_isinstance z_tuple z_len z_all
  have G_rows_by_key := ok_rows_by_key (P := P) (w := w) (mg := mg) (base := base) F_rows_by_key z_tuple z_sorted z_list
  have RUI : FnR P w K mg base CX0 1 (He.ma K U "__init__") (spU U) := FnOk.raw (ok_uinit F_uinit TU) B_uinit .nil
  have G_rows := ok_urows (C := C) (D := D) F_urows TU F_rows_by_key B_rows_by_key g_rows_by_key G_rows_by_key
  have G_stamp := ok_ustamp (P := P) (w := w) (base := base) (C := C) (D := D) F_ustamp TU
  have RU_len : FnR P w K mg base CX0 1 (He.ma K U "__len__") (fun vs H Q E => sp_ulen U C D (vs ++ []) H Q E) := FnOk.raw (ok_ulen F_ulen TU z_len) B_ulen .nil
  have RU_contains : FnR P w K mg base CX0 4 (He.ma K U "__contains__") (mCon K U C D) := FnOk.raw (ok_ucon F_ucontains T TU F_is_key B_is_key g_is_key G_is_key z_len) B_ucontains .nil
  have RU_row_of : FnR P w K mg base CX0 5 (He.ma K U "row_of") (fun vs H Q E => sp_urow K U C D (vs ++ []) H Q E) := FnOk.raw (ok_urow F_urow_of TU UN RU_contains) B_urow_of .nil
  have RU_stamp_of : FnR P w K mg base CX0 4 (He.ma K U "stamp_of") (fun vs H Q E => sp_ust K U C D (vs ++ []) H Q E) := FnOk.raw (ok_ust F_ustamp_of T TU F_is_key B_is_key g_is_key G_is_key z_len) B_ustamp_of .nil
  have G_places := ok_places F_unique_places T CN R_cut z_zip
  have G_taken := ok_taken (D := D) F_is_taken TU F_unique_places B_unique_places g_unique_places G_places z_any
  have G_wni := ok_wni F_why_not_inserted T TU UN RU_contains RU_stamp_of F_is_taken B_is_taken g_is_taken G_taken
  have G_wnu := ok_wnu F_why_not_updated T CN R_cut TU UN RU_row_of F_is_taken B_is_taken g_is_taken G_taken
  have G_why := ok_why F_why_not T CN R_is_row R_key_of TU UN RU_contains TF F_is_key B_is_key g_is_key G_is_key F_truth_of B_truth_of g_truth_of G_truth_of F_why_not_inserted B_why_not_inserted g_why_not_inserted G_wni F_why_not_updated B_why_not_updated g_why_not_updated G_wnu z_len z_dict z_zip
  have RU_write : FnR P w K mg base CX0 3 (He.ma K U "write") (fun vs H Q E => sp_write U C D (vs ++ []) H Q E) := FnOk.raw (ok_write F_uwrite TU F_unique_places B_unique_places g_unique_places G_places) B_uwrite .nil
  have RU_change : FnR P w K mg base (L2.CX P w) 25 (He.ma K U "change") (mChg U C D (He.ga K "InvalidChange")) := FnOk.raw (ok_change (fdX := (0 : Addr)) F_uchange T CN R_key_of TU UN XC B_cinit G_cinit F_why_not B_why_not g_why_not G_why RU_write) B_uchange .nil
  have GU_insert := ok_uinsert F_uinsert TU UN RU_change
  have GU_update := ok_uupdate F_uupdate TU UN RU_change
  have GU_delete := ok_udelete F_udelete TU UN RU_change
  have G_pen := ok_pen (P := P) (w := w) (mg := mg) (base := base) F_pen z_list
  have G_draw := ok_draw (P := P) (w := w) (mg := mg) (base := base) F_draw z_int z_len z_abs
  have G_ranges := Fi.ok_ranges F_ranges F_draw B_draw g_draw G_draw CM CN2 RR RR_sub g_R
  have G_leaf := Fi.ok_leaf F_leaf TR F_draw B_draw g_draw G_draw F_ranges B_ranges g_ranges G_ranges z_len
  have G_set_of := Fi.ok_set_of (P := P) (w := w) (mg := mg) (base := base) F_set_of CM RR g_R
  have G_numbered := Fi.ok_numbered (P := P) (w := w) (mg := mg) (base := base) F_numbered B_numbered g_numbered z_int z_min z_max 20
  have G_condition := Fi.ok_condition F_condition g_CF CF RF F_set_of B_set_of g_set_of G_set_of
  have G_grown := Fi.ok_grown F_grown B_grown g_grown CF RF F_draw B_draw g_draw G_draw F_leaf B_leaf g_leaf G_leaf F_condition B_condition g_condition G_condition 5
  have G_row := ok_row F_row F_draw B_draw g_draw G_draw z_tuple
  have G_Lboth := ok_both F_Lboth TU X_rows G_rows B_urows z_sorted z_list z_tuple
  have G_call := ok_call F_call TU UN XC XE GU_insert B_uinsert GU_update B_uupdate GU_delete B_udelete z_isinstance
  exact ok_law (fV := (0 : Addr)) (fdV := fd_law) F_law T TU UN TF CF RF g_CF F_pen B_pen g_pen G_pen F_draw B_draw g_draw G_draw F_grown B_grown g_grown G_grown F_numbered B_numbered g_numbered G_numbered F_row B_row g_row G_row F_Lboth B_Lboth g_Lboth G_Lboth F_call B_call g_call G_call FI1 X_e3 X_e4 RUI X_rows X_stamp G_rows B_urows G_stamp B_ustamp RU_len RU_contains z_range z_len z_dict z_zip
end Spk
open PySem PySem.W PySem.Calls PyProof.Rows
theorem PySem.Challenge.cw_speaklast_k13_regions_of_homes_holds : PySem.Challenge.rw_speaklast_k13_regions_of_homes.Holds := by
  w_on; o_law
  refine HandSHeadRun.head_any (r := Spk.Rw) (q := view Spk.Rw.prog [51]) (H := Spk.hk) (ob := Spk.obT) (M := 6000) (loose := Spk.loose) (d := HandSHeadRun.topDef Spk.Rw.prog 51) (kwd := []) Spk.obT_eq
    (by kernel_rfl) (fun s => by kernel_rfl) Spk.runs (by kernel_rfl) (by kernel_rfl) (by kernel_rfl) (by rfl) (by first | assumption | decide +kernel) (by decide +kernel) ⟨rfl, rfl, rfl, rfl, rfl, by decide +kernel⟩ ?hw ?hc
  case hw => w_witness2
  case hc =>
    refine L2.walk_ofE (l := PySem.Challenge.rw_speaklast_k13_regions_of_homes) (n := 63) (k := 28) (x := "_law_script") (CX := L2.CX0) rfl (by decide) (by kernel_rfl) ⟨rfl, by decide, by decide⟩ ?F (fun _ _ _ _ z => z)
    intro w mg fa h Y G hmg0
    obtain ⟨K, KX, c⟩ := Y
    have hmg : mg ("law" : PySem.Str) = some (.ref fa) := by
      have e : (HandSHeadRun.topDef Spk.Rw.prog 51).name = ("law" : PySem.Str) := by kernel_rfl
      rw [← e]
      exact hmg0
    obtain ⟨fd, hb, hF⟩ := Spk.facts (P := (PySem.Challenge.rw_speaklast_k13_regions_of_homes).prog) (w := w) KX G hmg c
    exact ⟨K, fd, Spk.sp_law K, KX, hb, fun H a ns hl _ hS => ⟨a, ns, rfl, hS, hl, fun _ => rfl⟩, hF⟩

